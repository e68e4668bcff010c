/- LAYER 7's walks: a box that is written beside slices of the call's own. -/
import Derived.Test.YtkffkmiegmaoiaaPolW6
import Derived.Deep.RegionLaw
import Derived.Lib.Strings
namespace Go.Proofs.Ytkffkmiegmaoiaa
open Go.ChangeShapes Go.WideShapes Go.ChangeAt Go.RowKit

/-- From a to b: of the blocks that were there block pb alone may be another. -/
structure Bq (pb : Nat) (a b : World) : Prop where
  b0 : Below 0 a b
  block : ∀ i, i < a.heap.size → i ≠ pb → b.heap[i]? = a.heap[i]?
theorem Bq.refl (pb : Nat) (a : World) : Bq pb a a := ⟨Below.refl _ _, fun _ _ _ => rfl⟩
theorem Bq.bw {pb : Nat} {a b c : World} (h : Bq pb a b) (k : Bw b c) : Bq pb a c :=
  ⟨h.b0.trans (Below.mono k (Nat.zero_le _)), fun i hi hn => (Below.block k i (Nat.lt_of_lt_of_le hi h.b0.size)).trans (h.block i hi hn)⟩
theorem Bq.set {pb : Nat} {a b : World} (h : Bq pb a b) (j : Nat) (v : Value) : Bq pb a (b.setCell ⟨pb, j, none⟩ v) :=
  ⟨h.b0.setCell (Nat.zero_le _) v, fun i hi hn => (Below.heap_setCell _ _ _ _ hn).trans (h.block i hi hn)⟩
theorem Bq.trans {pb : Nat} {a b c : World} (h : Bq pb a b) (k : Bq pb b c) : Bq pb a c :=
  ⟨h.b0.trans k.b0, fun i hi hn => (k.block i (Nat.lt_of_lt_of_le hi h.b0.size) hn).trans (h.block i hi hn)⟩
theorem Bq.keep {pb : Nat} {a b : World} (h : Bq pb a b) {p : Addr} {v : Value} (hv : a.cell? p = some v) (hn : p.block ≠ pb) : b.cell? p = some v := by
  have hb : p.block < a.heap.size := by
    apply Decidable.byContradiction
    intro hx
    have : a.heap[p.block]? = none := by simp; omega
    simp [World.cell?, this] at hv
  rw [cell_block (h.block _ hb hn)]; exact hv
theorem Bq.toBw {pb : Nat} {w a b : World} (h : Bq pb a b) (g : Bw w a) (hp : w.heap.size ≤ pb) : Bw w b :=
  Below.trans g ⟨h.b0.os, h.b0.tape, h.b0.output, h.b0.size, fun i hi => h.block i (Nat.lt_of_lt_of_le hi g.size) (by omega)⟩
theorem OwnR.set {e sz n : Nat} {cs : List Value} {a w : World} {v : Value} (h : OwnR e sz a w v n cs) {pb : Nat} (hp : pb < a.heap.size) (j : Nat) (u : Value) : OwnR e sz a (w.setCell ⟨pb, j, none⟩ u) v n cs := by
  obtain ⟨h1, h2⟩ := h
  refine ⟨h1, ?_⟩
  rcases h2 with h2 | ⟨b, cap, cur, h3, h4, h5, h6⟩
  · exact Or.inl h2
  · exact Or.inr ⟨b, cap, cur, h3, h4, by rw [Below.heap_setCell _ _ _ _ (by show b ≠ pb; omega)]; exact h5, h6⟩
theorem appQ {e sz bytes pb : Nat} {z : Value} {t ty : TypeId} (hinf : (Try.prog.info? e).map (fun i => (i.zero, i.size, i.bytes)) = some (some z, sz, bytes)) (ht : Try.prog.underlying t = some (.slice e)) (hzs : z.cells.size = sz) (hsz : 0 < sz) (hby : bytes ≤ 100)
    {a wr : World} {v : Value} {n : Nat} {cs : List Value} (hown : OwnR e sz a wr v n cs) (hq : Bq pb a wr) (hp : pb < a.heap.size) (c : Nat) (news : List Value) (hl : news.length = sz) (h1 : ∀ u ∈ news, u.oneCell' = true) (hn : n ≤ 10000) :
    ∃ v' w', (Builtin.append_ #[t, t] ty #[v, .slice (some ⟨wr.heap.size, 0, none⟩) 1 c]).run Try.prog (wr.alloc (.cells news.toArray e)) = .ok v' w' ∧ OwnR e sz a w' v' (n + 1) (cs ++ news) ∧ Bq pb a w' ∧ w'.heap[pb]? = wr.heap[pb]? := by
  obtain ⟨i, hi, he⟩ := Option.map_eq_some_iff.1 hinf
  simp only [Prod.mk.injEq] at he
  obtain ⟨hz, hs, hb⟩ := he
  have hmul : (n + 1) * bytes ≤ 10001 * 100 := Nat.mul_le_mul (by omega) hby
  have hqA := hq.bw ((Bw.refl wr).alloc (.cells news.toArray e))
  have hpb : (wr.alloc (.cells news.toArray e)).heap[pb]? = wr.heap[pb]? := Below.heap_alloc _ _ _ (Nat.lt_of_lt_of_le hp hq.b0.size)
  have hoA := OwnR.bw hown ((Bw.refl wr).alloc (.cells news.toArray e))
  obtain ⟨v', w', hr, ho, hg, -, hloc⟩ := run_append_own_at (P := Try.prog) (w := wr.alloc (.cells news.toArray e)) a.heap.size t ty e i z sz bytes ht hi hz hs hb hzs hsz v n cs hoA ⟨wr.heap.size, 0, none⟩ 1 c news (by omega) (cell_new wr news e) h1 (by unfold maxLen; omega) (by omega) hqA.b0.size
  have hne : ∀ k, k < a.heap.size → v.ownBlock ≠ some k := fun k hk e => by
    rcases hown.2 with ⟨h2, _⟩ | ⟨b, cap, cur, h3, h4, h5, h6⟩
    · rw [h2] at e; simp [Value.ownBlock] at e
    · rw [h3] at e; simp [Value.ownBlock] at e; omega
  refine ⟨v', w', hr, ho, ⟨hqA.b0.trans ⟨hg.os, hg.tape, hg.output, hg.size, fun k hk => by omega⟩, fun k hk hkn => (hg.block k (Nat.lt_of_lt_of_le hk hqA.b0.size) (fun e => hne k hk e.symm)).trans (hqA.block k hk hkn)⟩, ?_⟩
  rw [hg.block pb (Nat.lt_of_lt_of_le hp hqA.b0.size) (fun e => hne pb hp e.symm), hpb]
theorem OwnR.form {e sz n : Nat} {cs : List Value} {a w : World} {v : Value} (h : OwnR e sz a w v n cs) (hn : 0 < n) : ∃ g c, v = .slice (some ⟨g, 0, none⟩) n c := by
  rcases h.2 with ⟨_, h2⟩ | ⟨b, cap, cur, h3, _⟩
  · omega
  · exact ⟨b, cap, h3⟩
theorem infoSrc : (Try.prog.info? 35).map (fun i => (i.zero, i.size, i.bytes)) = some (some (.agg #[.int .i64 0, .int .u32 0, .int .u32 0, .int .u8 0]), 4, 24) := by kernel_rfl
theorem infoSnk : (Try.prog.info? 37).map (fun i => (i.zero, i.size, i.bytes)) = some (some (.agg #[.int .i64 0, .int .i64 0, .int .u8 0]), 3, 24) := by kernel_rfl
/-- Sources, sinks of the call's own (their element type is e). -/
def OwnSrc (e : Nat) (a w : World) (v : Value) (l : List Pol.Src) : Prop := OwnR e 4 a w v l.length (l.flatMap Pol.srcC)
def OwnSnk (e : Nat) (a w : World) (v : Value) (l : List Pol.Snk) : Prop := OwnR e 3 a w v l.length (l.flatMap Pol.snkC)
theorem OwnSrc.add {e : Nat} {a w : World} {v : Value} {l : List Pol.Src} {s : Pol.Src} (h : OwnR e 4 a w v (l.length + 1) (l.flatMap Pol.srcC ++ Pol.srcC s)) : OwnSrc e a w v (l ++ [s]) := by
  unfold OwnSrc; rw [List.length_append, List.flatMap_append]; simpa using h
theorem OwnSnk.add {e : Nat} {a w : World} {v : Value} {l : List Pol.Snk} {s : Pol.Snk} (h : OwnR e 3 a w v (l.length + 1) (l.flatMap Pol.snkC ++ Pol.snkC s)) : OwnSnk e a w v (l ++ [s]) := by
  unfold OwnSnk; rw [List.length_append, List.flatMap_append]; simpa using h
theorem Pol.srcC_one (s : Pol.Src) : ∀ u ∈ Pol.srcC s, u.oneCell' = true := fun u hu => by
  simp [Pol.srcC] at hu; rcases hu with rfl | rfl | rfl | rfl <;> rfl
theorem Pol.snkC_one (s : Pol.Snk) : ∀ u ∈ Pol.snkC s, u.oneCell' = true := fun u hu => by
  simp [Pol.snkC] at hu; rcases hu with rfl | rfl | rfl <;> rfl
theorem Pol.srcAt_wf {L : List Int} (h : B8s L) (i : Nat) : Pol.SWf (Pol.srcAt L i) := by
  have a := h.g i; have b1 := h.g (i + 1); have b2 := h.g (i + 2); have b3 := h.g (i + 3); have b4 := h.g (i + 4); have b5 := h.g (i + 5); have b6 := h.g (i + 6); have b7 := h.g (i + 7); have b8 := h.g (i + 8); have b9 := h.g (i + 9)
  unfold B8 at *
  constructor <;> simp only [Pol.srcAt, Pol.w4] <;> omega
theorem Pol.snkAt_wf {L : List Int} (h : B8s L) (i : Nat) : Pol.KWf (Pol.snkAt L i) := by
  have a := h.g i; have b1 := h.g (i + 1); have b2 := h.g (i + 2)
  unfold B8 at *
  constructor <;> simp only [Pol.snkAt] <;> omega
theorem Pol.srcsAt_succ (L : List Int) (o k : Nat) : Pol.srcsAt L o (k + 1) = Pol.srcsAt L o k ++ [Pol.srcAt L (o + k * 10)] := by
  unfold Pol.srcsAt; rw [List.range_succ, List.map_append]; rfl
theorem Pol.snksAt_succ (L : List Int) (o k : Nat) : Pol.snksAt L o (k + 1) = Pol.snksAt L o k ++ [Pol.snkAt L (o + k * 3)] := by
  unfold Pol.snksAt; rw [List.range_succ, List.map_append]; rfl
theorem Pol.srcsAt_len (L : List Int) (o k : Nat) : (Pol.srcsAt L o k).length = k := by simp [Pol.srcsAt]
theorem Pol.snksAt_len (L : List Int) (o k : Nat) : (Pol.snksAt L o k).length = k := by simp [Pol.snksAt]
theorem OwnSrc.s {e : Nat} {a w : World} {v : Value} {L : List Int} {o k : Nat} (h : OwnSrc e a w v (Pol.srcsAt L o k)) (h8 : B8s L) : SrcS w v (Pol.srcsAt L o k) :=
  ⟨OwnR.rd h, fun s hs => by simp [Pol.srcsAt] at hs; obtain ⟨i, _, rfl⟩ := hs; exact Pol.srcAt_wf h8 _⟩
theorem OwnSnk.s {e : Nat} {a w : World} {v : Value} {L : List Int} {o k : Nat} (h : OwnSnk e a w v (Pol.snksAt L o k)) (h8 : B8s L) : SnkS w v (Pol.snksAt L o k) :=
  ⟨OwnR.rd h, fun s hs => by simp [Pol.snksAt] at hs; obtain ⟨i, _, rfl⟩ := hs; exact Pol.snkAt_wf h8 _⟩
theorem OwnSrc.next {e : Nat} {a w : World} {v : Value} {L : List Int} {o k : Nat} (h : OwnR e 4 a w v (k + 1) ((Pol.srcsAt L o k).flatMap Pol.srcC ++ Pol.srcC (Pol.srcAt L (o + k * 10)))) : OwnSrc e a w v (Pol.srcsAt L o (k + 1)) := by
  rw [Pol.srcsAt_succ]; exact OwnSrc.add (by rw [Pol.srcsAt_len]; exact h)
theorem OwnSnk.next {e : Nat} {a w : World} {v : Value} {L : List Int} {o k : Nat} (h : OwnR e 3 a w v (k + 1) ((Pol.snksAt L o k).flatMap Pol.snkC ++ Pol.snkC (Pol.snkAt L (o + k * 3)))) : OwnSnk e a w v (Pol.snksAt L o (k + 1)) := by
  rw [Pol.snksAt_succ]; exact OwnSnk.add (by rw [Pol.snksAt_len]; exact h)
/-- What can be read stays so behind writes into the box, if it does not lie there. -/
theorem SrcS.q {pb : Nat} {a b : World} {v : Value} {l : List Pol.Src} (h : SrcS a v l) (g : Bq pb a b) (hn : ∀ q n c, v = .slice (some q) n c → 0 < n → q.block ≠ pb) : SrcS b v l := by
  obtain ⟨⟨q, cap, h1, h2, h3, h4, h5⟩, hw⟩ := h
  refine ⟨⟨q, cap, h1, h2, h3, h4, fun h0 => ?_⟩, hw⟩
  obtain ⟨b', o, rfl, h7, h8⟩ := h5 h0
  have hb := hn _ _ _ h1 h0
  exact ⟨b', o, rfl, Nat.lt_of_lt_of_le h7 g.b0.size, fun j u hu => g.keep (h8 j u hu) hb⟩
theorem stepApp {P : Program} {w w' : World} {ops : Array Oper} {o : Oper} {a : Act} {K : Act → World → Prop} {Q : Exit → Act → World → Prop} {E : Prop} (hgd : o.guard = none) (s x : Operand) (t : TypeId)
    (ho : o.op = .call { callee := .builtin .append, args := #[s, x], argTypes := #[t, t] }) {v xv v' : Value} (hs : a.eval s = v) (hx : a.eval x = xv)
    (hr : (Builtin.append_ #[t, t] o.type #[v, xv]).run P w = .ok v' w') (h : K (a.put o.dst v') w') : if Region.wanted o (yielded ops a.tmps) = true then Oper.wp P o a w K Q else E := by
  have hw : Region.wanted o (yielded ops a.tmps) = true := by simp [Region.wanted, hgd]
  rw [if_pos hw]
  unfold Oper.wp execOp
  simp only [ho, resolve, invoke, builtin, Sem.run_bind, Sem.run_pure, Result.andThen_ok, List.map_toArray, List.map_cons, List.map_nil, hs, hx, hr]
  exact h
/-- The policy's box. -/
structure PBox (w : World) (pb : Nat) (ptr : Bool) (u1 u2 : Value) : Prop where
  c0 : w.cell? ⟨pb, 0, none⟩ = some (.bool ptr)
  c1 : w.cell? ⟨pb, 1, none⟩ = some u1
  c2 : w.cell? ⟨pb, 2, none⟩ = some u2
  f0 : w.frozen? ⟨pb, 0, none⟩ = false
  f1 : w.frozen? ⟨pb, 1, none⟩ = false
  f2 : w.frozen? ⟨pb, 2, none⟩ = false
theorem PBox.new (w : World) (ptr : Bool) (u1 u2 : Value) (t : TypeId) : PBox (w.alloc (.cells #[.bool ptr, u1, u2] t)) w.heap.size ptr u1 u2 := by
  refine ⟨?_, ?_, ?_, ?_, ?_, ?_⟩
  · rw [World.cell?_alloc_at _ _ _ _ (by simp)]; rfl
  · rw [World.cell?_alloc_at _ _ _ _ (by simp)]; rfl
  · rw [World.cell?_alloc_at _ _ _ _ (by simp)]; rfl
  all_goals
    unfold World.frozen?
    rw [heap_alloc_new w _]
    simp
theorem PBox.blk {w w' : World} {pb : Nat} {ptr : Bool} {u1 u2 : Value} (h : PBox w pb ptr u1 u2) (e : w'.heap[pb]? = w.heap[pb]?) : PBox w' pb ptr u1 u2 :=
  ⟨(cell_block (p := ⟨pb, 0, none⟩) e).trans h.c0, (cell_block (p := ⟨pb, 1, none⟩) e).trans h.c1, (cell_block (p := ⟨pb, 2, none⟩) e).trans h.c2, (frozen_block (p := ⟨pb, 0, none⟩) e).trans h.f0, (frozen_block (p := ⟨pb, 1, none⟩) e).trans h.f1, (frozen_block (p := ⟨pb, 2, none⟩) e).trans h.f2⟩
theorem PBox.lt {w : World} {pb : Nat} {ptr : Bool} {u1 u2 : Value} (h : PBox w pb ptr u1 u2) : pb < w.heap.size := by
  apply Decidable.byContradiction
  intro hn
  have h0 := h.c0
  have : w.heap[pb]? = none := by simp; omega
  simp [World.cell?, this] at h0
theorem PBox.bw {w w' : World} {pb : Nat} {ptr : Bool} {u1 u2 : Value} (h : PBox w pb ptr u1 u2) (g : Bw w w') : PBox w' pb ptr u1 u2 := h.blk (Below.block g pb h.lt)
theorem PBox.set1 {w : World} {pb : Nat} {ptr : Bool} {u1 u2 : Value} (h : PBox w pb ptr u1 u2) (v : Value) : PBox (w.setCell ⟨pb, 1, none⟩ v) pb ptr v u2 := by
  refine ⟨?_, World.cell?_setCell_same _ _ _ h.c1, ?_, ?_, ?_, ?_⟩
  · rw [World.cell?_setCell_other _ _ _ _ (by simp)]; exact h.c0
  · rw [World.cell?_setCell_other _ _ _ _ (by simp)]; exact h.c2
  · rw [World.frozen?_setCell]; exact h.f0
  · rw [World.frozen?_setCell]; exact h.f1
  · rw [World.frozen?_setCell]; exact h.f2
theorem PBox.set2 {w : World} {pb : Nat} {ptr : Bool} {u1 u2 : Value} (h : PBox w pb ptr u1 u2) (v : Value) : PBox (w.setCell ⟨pb, 2, none⟩ v) pb ptr u1 v := by
  refine ⟨?_, ?_, World.cell?_setCell_same _ _ _ h.c2, ?_, ?_, ?_⟩
  · rw [World.cell?_setCell_other _ _ _ _ (by simp)]; exact h.c0
  · rw [World.cell?_setCell_other _ _ _ _ (by simp)]; exact h.c1
  · rw [World.frozen?_setCell]; exact h.f0
  · rw [World.frozen?_setCell]; exact h.f1
  · rw [World.frozen?_setCell]; exact h.f2
theorem PBox.ne {w : World} {pb c : Nat} {ptr : Bool} {u1 u2 : Value} (h : PBox w pb ptr u1 u2) (hn : pb ≠ c) (j : Nat) (v : Value) : PBox (w.setCell ⟨c, j, none⟩ v) pb ptr u1 u2 := h.blk (Below.heap_setCell _ _ _ _ hn)
theorem SnkS.q {pb : Nat} {a b : World} {v : Value} {l : List Pol.Snk} (h : SnkS a v l) (g : Bq pb a b) (hn : ∀ q n c, v = .slice (some q) n c → 0 < n → q.block ≠ pb) : SnkS b v l := by
  obtain ⟨⟨q, cap, h1, h2, h3, h4, h5⟩, hw⟩ := h
  refine ⟨⟨q, cap, h1, h2, h3, h4, fun h0 => ?_⟩, hw⟩
  obtain ⟨b', o, rfl, h7, h8⟩ := h5 h0
  have hb := hn _ _ _ h1 h0
  exact ⟨b', o, rfl, Nat.lt_of_lt_of_le h7 g.b0.size, fun j u hu => g.keep (h8 j u hu) hb⟩
theorem OwnR.far {e sz n : Nat} {cs : List Value} {a w : World} {v : Value} (h : OwnR e sz a w v n cs) : ∀ q k c, v = .slice (some q) k c → 0 < k → a.heap.size ≤ q.block := fun q k c e hk => by
  rcases h.2 with ⟨h2, _⟩ | ⟨b', cap', cur', h3, h4', _⟩
  · rw [h2] at e; simp at e
  · rw [h3] at e; simp at e; obtain ⟨rfl, _, _⟩ := e; exact h4'
end Go.Proofs.Ytkffkmiegmaoiaa
