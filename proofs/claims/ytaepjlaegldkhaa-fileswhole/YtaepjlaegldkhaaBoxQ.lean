/- BOXES that are written beside slices of the call's own; append onto such a slice. -/
import Derived.Test.YtaepjlaegldkhaaImgApp
namespace Go.Proofs.Ytaepjlaegldkhaa
open Go.ChangeShapes Go.WideShapes Go.ChangeAt Go.RowKit

/-- From a to b: of the blocks that were there block pb alone may be another. -/
structure Bq (pb : Nat) (a b : World) : Prop where
  b0 : Below 0 a b
  block : ∀ i, i < a.heap.size → i ≠ pb → b.heap[i]? = a.heap[i]?
theorem Bq.refl (pb : Nat) (a : World) : Bq pb a a := ⟨Below.refl _ _, fun _ _ _ => rfl⟩
theorem Bq.bw {pb : Nat} {a b c : World} (h : Bq pb a b) (k : Bw b c) : Bq pb a c :=
  ⟨h.b0.trans (Below.mono k (Nat.zero_le _)), fun i hi hn => (Below.block k i (Nat.lt_of_lt_of_le hi h.b0.size)).trans (h.block i hi hn)⟩
theorem Bq.set {pb : Nat} {a b : World} (h : Bq pb a b) (j : Nat) (v : Value) : Bq pb a (b.setCell ⟨pb, j, none⟩ v) :=
  ⟨h.b0.setCell (Nat.zero_le _) v, fun i hi hn => (Below.heap_setCell _ _ _ _ hn).trans (h.block i hi hn)⟩
theorem Bq.trans {pb : Nat} {a b c : World} (h : Bq pb a b) (k : Bq pb b c) : Bq pb a c :=
  ⟨h.b0.trans k.b0, fun i hi hn => (k.block i (Nat.lt_of_lt_of_le hi h.b0.size) hn).trans (h.block i hi hn)⟩
theorem Bq.keep {pb : Nat} {a b : World} (h : Bq pb a b) {p : Addr} {v : Value} (hv : a.cell? p = some v) (hn : p.block ≠ pb) : b.cell? p = some v := by
  have hb : p.block < a.heap.size := by
    apply Decidable.byContradiction
    intro hx
    have : a.heap[p.block]? = none := by simp; omega
    simp [World.cell?, this] at hv
  rw [cell_block (h.block _ hb hn)]; exact hv
theorem Bq.toBw {pb : Nat} {w a b : World} (h : Bq pb a b) (g : Bw w a) (hp : w.heap.size ≤ pb) : Bw w b :=
  Below.trans g ⟨h.b0.os, h.b0.tape, h.b0.output, h.b0.size, fun i hi => h.block i (Nat.lt_of_lt_of_le hi g.size) (by omega)⟩
theorem OwnR.set {e sz n : Nat} {cs : List Value} {a w : World} {v : Value} (h : OwnR e sz a w v n cs) {pb : Nat} (hp : pb < a.heap.size) (j : Nat) (u : Value) : OwnR e sz a (w.setCell ⟨pb, j, none⟩ u) v n cs := by
  obtain ⟨h1, h2⟩ := h
  refine ⟨h1, ?_⟩
  rcases h2 with h2 | ⟨b, cap, cur, h3, h4, h5, h6⟩
  · exact Or.inl h2
  · exact Or.inr ⟨b, cap, cur, h3, h4, by rw [Below.heap_setCell _ _ _ _ (by show b ≠ pb; omega)]; exact h5, h6⟩
theorem appQ {e sz bytes pb : Nat} {z : Value} {t ty : TypeId} (hinf : (Try.prog.info? e).map (fun i => (i.zero, i.size, i.bytes)) = some (some z, sz, bytes)) (ht : Try.prog.underlying t = some (.slice e)) (hzs : z.cells.size = sz) (hsz : 0 < sz) (hby : bytes ≤ 100)
    {a wr : World} {v : Value} {n : Nat} {cs : List Value} (hown : OwnR e sz a wr v n cs) (hq : Bq pb a wr) (hp : pb < a.heap.size) (c : Nat) (news : List Value) (hl : news.length = sz) (h1 : ∀ u ∈ news, u.oneCell' = true) (hn : n ≤ 10000) :
    ∃ v' w', (Builtin.append_ #[t, t] ty #[v, .slice (some ⟨wr.heap.size, 0, none⟩) 1 c]).run Try.prog (wr.alloc (.cells news.toArray e)) = .ok v' w' ∧ OwnR e sz a w' v' (n + 1) (cs ++ news) ∧ Bq pb a w' ∧ w'.heap[pb]? = wr.heap[pb]? := by
  obtain ⟨i, hi, he⟩ := Option.map_eq_some_iff.1 hinf
  simp only [Prod.mk.injEq] at he
  obtain ⟨hz, hs, hb⟩ := he
  have hmul : (n + 1) * bytes ≤ 10001 * 100 := Nat.mul_le_mul (by omega) hby
  have hqA := hq.bw ((Bw.refl wr).alloc (.cells news.toArray e))
  have hpb : (wr.alloc (.cells news.toArray e)).heap[pb]? = wr.heap[pb]? := Below.heap_alloc _ _ _ (Nat.lt_of_lt_of_le hp hq.b0.size)
  have hoA := OwnR.bw hown ((Bw.refl wr).alloc (.cells news.toArray e))
  obtain ⟨v', w', hr, ho, hg, -, hloc⟩ := run_append_own_at (P := Try.prog) (w := wr.alloc (.cells news.toArray e)) a.heap.size t ty e i z sz bytes ht hi hz hs hb hzs hsz v n cs hoA ⟨wr.heap.size, 0, none⟩ 1 c news (by omega) (cell_new wr news e) h1 (by unfold maxLen; omega) (by omega) hqA.b0.size
  have hne : ∀ k, k < a.heap.size → v.ownBlock ≠ some k := fun k hk e => by
    rcases hown.2 with ⟨h2, _⟩ | ⟨b, cap, cur, h3, h4, h5, h6⟩
    · rw [h2] at e; simp [Value.ownBlock] at e
    · rw [h3] at e; simp [Value.ownBlock] at e; omega
  refine ⟨v', w', hr, ho, ⟨hqA.b0.trans ⟨hg.os, hg.tape, hg.output, hg.size, fun k hk => by omega⟩, fun k hk hkn => (hg.block k (Nat.lt_of_lt_of_le hk hqA.b0.size) (fun e => hne k hk e.symm)).trans (hqA.block k hk hkn)⟩, ?_⟩
  rw [hg.block pb (Nat.lt_of_lt_of_le hp hqA.b0.size) (fun e => hne pb hp e.symm), hpb]
theorem OwnR.form {e sz n : Nat} {cs : List Value} {a w : World} {v : Value} (h : OwnR e sz a w v n cs) (hn : 0 < n) : ∃ g c, v = .slice (some ⟨g, 0, none⟩) n c := by
  rcases h.2 with ⟨_, h2⟩ | ⟨b, cap, cur, h3, _⟩
  · omega
  · exact ⟨b, cap, h3⟩
theorem stepApp {P : Program} {w w' : World} {ops : Array Oper} {o : Oper} {a : Act} {K : Act → World → Prop} {Q : Exit → Act → World → Prop} {E : Prop} (hgd : o.guard = none) (s x : Operand) (t : TypeId)
    (ho : o.op = .call { callee := .builtin .append, args := #[s, x], argTypes := #[t, t] }) {v xv v' : Value} (hs : a.eval s = v) (hx : a.eval x = xv)
    (hr : (Builtin.append_ #[t, t] o.type #[v, xv]).run P w = .ok v' w') (h : K (a.put o.dst v') w') : if Region.wanted o (yielded ops a.tmps) = true then Oper.wp P o a w K Q else E := by
  have hw : Region.wanted o (yielded ops a.tmps) = true := by simp [Region.wanted, hgd]
  rw [if_pos hw]
  unfold Oper.wp execOp
  simp only [ho, resolve, invoke, builtin, Sem.run_bind, Sem.run_pure, Result.andThen_ok, List.map_toArray, List.map_cons, List.map_nil, hs, hx, hr]
  exact h
/-- A box of its own: its cells, none frozen. -/
structure Box (w : World) (b : Nat) (vs : List Value) : Prop where
  c : ∀ (j : Nat) v, vs[j]? = some v → w.cell? ⟨b, j, none⟩ = some v
  f : ∀ j : Nat, j < vs.length → w.frozen? ⟨b, j, none⟩ = false
theorem Box.new (w : World) (vs : List Value) (t : TypeId) : Box (w.alloc (.cells vs.toArray t)) w.heap.size vs := by
  refine ⟨fun j v hv => ?_, fun j hj => ?_⟩
  · rw [World.cell?_alloc_at _ _ _ _ (by simp)]
    simpa using hv
  · unfold World.frozen?
    rw [heap_alloc_new w _]
    simp
theorem Box.blk {w w' : World} {b : Nat} {vs : List Value} (h : Box w b vs) (e : w'.heap[b]? = w.heap[b]?) : Box w' b vs :=
  ⟨fun j v hv => (cell_block (p := ⟨b, j, none⟩) e).trans (h.c j v hv), fun j hj => (frozen_block (p := ⟨b, j, none⟩) e).trans (h.f j hj)⟩
theorem Box.lt {w : World} {b : Nat} {v : Value} {vs : List Value} (h : Box w b (v :: vs)) : b < w.heap.size := by
  apply Decidable.byContradiction
  intro hn
  have h0 := h.c 0 v rfl
  have : w.heap[b]? = none := by simp; omega
  simp [World.cell?, this] at h0
theorem Box.bw {w w' : World} {b : Nat} {v : Value} {vs : List Value} (h : Box w b (v :: vs)) (g : Bw w w') : Box w' b (v :: vs) := h.blk (Below.block g b h.lt)
theorem Box.ne {w : World} {b c : Nat} {vs : List Value} (h : Box w b vs) (hn : b ≠ c) (j : Nat) (v : Value) : Box (w.setCell ⟨c, j, none⟩ v) b vs := h.blk (Below.heap_setCell _ _ _ _ hn)
theorem Box.set {w : World} {b : Nat} {vs : List Value} (h : Box w b vs) (j : Nat) (hj : j < vs.length) (v : Value) : Box (w.setCell ⟨b, j, none⟩ v) b (vs.set j v) := by
  refine ⟨fun k u hu => ?_, fun k hk => ?_⟩
  · by_cases e : k = j
    · subst e
      rw [List.getElem?_set_self hj] at hu
      rw [World.cell?_setCell_same _ _ _ (h.c k _ (List.getElem?_eq_getElem hj)), Option.some.inj hu]
    · rw [List.getElem?_set_ne (by omega)] at hu
      rw [World.cell?_setCell_other _ _ _ _ (fun h => e (by simpa using (congrArg Addr.off h).symm))]
      exact h.c k u hu
  · rw [World.frozen?_setCell]; exact h.f k (by rw [List.length_set] at hk; exact hk)
theorem Box.q {a w : World} {b pb : Nat} {v : Value} {vs : List Value} (h : Box a b (v :: vs)) (g : Bq pb a w) (hn : b ≠ pb) : Box w b (v :: vs) := h.blk (g.block b h.lt hn)
theorem RdR.q {sz n : Nat} {cs : List Value} {a b : World} {v : Value} {pb : Nat} (h : RdR sz a v n cs) (g : Bq pb a b) (hn : ∀ q k c, v = .slice (some q) k c → 0 < k → q.block ≠ pb) : RdR sz b v n cs := by
  obtain ⟨q, cap, h1, h2, h3, h4, h5⟩ := h
  refine ⟨q, cap, h1, h2, h3, h4, fun h0 => ?_⟩
  obtain ⟨b', o, rfl, h7, h8⟩ := h5 h0
  have hb := hn _ _ _ h1 h0
  exact ⟨b', o, rfl, Nat.lt_of_lt_of_le h7 g.b0.size, fun j u hu => g.keep (h8 j u hu) hb⟩
theorem OwnR.far {e sz n : Nat} {cs : List Value} {a w : World} {v : Value} (h : OwnR e sz a w v n cs) : ∀ q k c, v = .slice (some q) k c → 0 < k → a.heap.size ≤ q.block := fun q k c e hk => by
  rcases h.2 with ⟨h2, _⟩ | ⟨b', cap', cur', h3, h4', _⟩
  · rw [h2] at e; simp at e
  · rw [h3] at e; simp at e; obtain ⟨rfl, _, _⟩ := e; exact h4'
end Go.Proofs.Ytaepjlaegldkhaa
