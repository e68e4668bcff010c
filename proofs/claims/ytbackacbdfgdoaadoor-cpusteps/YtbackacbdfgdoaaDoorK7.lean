/- LAYER 7's walks, what they stand on: the world behind a call (its old blocks stand), slices that can be read, slices of the call's own. · BYTES of the call's own, written cell by cell; append of whatever can be read; what append leaves of the other blocks. · BOXES that are written beside slices of the call's own; append onto such a slice. · A MEMORY in a law's hands where all that is known of the world is that old blocks stand (Bw): its blocks are the law's own and none of P. · append(x, y...) onto a slice of the call's own, y whatever can be read. · BYTES of the call's own by rows (P8); words and texts as bytes; the reference's W32. · BOXES of any number of cells, read and written whole: the world behind by what is known of it. -/
import Derived.Test.YtbackacbdfgdoaaDoorK1
import Derived.Maps.AppendAt
import Derived.Deep.LoopGhost
import Derived.Deep.RegionHeld3
import Derived.LoopTactic
import Derived.Lib.ConvBytes
import Derived.Lib.AppendStr
import Derived.Lib.EndianBits
import Derived.Lib.Strings
import Derived.Deep.RegionLaw
import Derived.ArgAppend
import Derived.Lib.SlBytesConst
import Derived.Test.YtbackacbdfgdoaaDoorK6
import Derived.Deep.MidRow
namespace Go.Proofs.YtbackacbdfgdoaaDoor
open Go.ChangeShapes Go.WideShapes Go.ChangeAt Go.RowKit

/-- Behind a call: every block that was there stands. -/
def Bw (w w' : World) : Prop := Below w.heap.size w w'
theorem Bw.refl (w : World) : Bw w w := Below.refl _ _
theorem Bw.trans {a b c : World} (h : Bw a b) (k : Bw b c) : Bw a c := Below.trans h (Below.mono k h.size)
theorem Bw.alloc {a w : World} (h : Bw a w) (o : Obj) : Bw a (w.alloc o) := Below.alloc h h.size o
theorem Bw.drew {a w : World} (h : Bw a w) : Bw a w.drew := Below.drew h
theorem Bw.drewN {a w : World} (h : Bw a w) (n : Nat) : Bw a (w.drewN n) := ⟨h.os, h.tape, h.output, h.size, h.block⟩
theorem Bw.setCell {a w : World} (h : Bw a w) {p : Addr} (hp : a.heap.size ≤ p.block) (v : Value) : Bw a (w.setCell p v) := Below.setCell h hp v
theorem Gr.bw {a w : World} (h : Gr a w) : Bw a w := h.b
theorem Bw.gr {a b c : World} (h : Bw a b) (k : Gr b c) : Bw a c := h.trans k.b
theorem Bw.keep {a w : World} (h : Bw a w) {p : Addr} {v : Value} (hv : a.cell? p = some v) : w.cell? p = some v := by
  have hb : p.block < a.heap.size := by
    apply Decidable.byContradiction
    intro hn
    have : a.heap[p.block]? = none := by simp; omega
    simp [World.cell?, this] at hv
  rw [Below.cell h hb]; exact hv
theorem wpApp {P : Program} {w w' : World} {ops : Array Oper} {rest : List Oper} {o : Oper} {a : Act} {Q : Exit → Act → World → Prop} (hgd : o.guard = none) (s x : Operand) (t : TypeId)
    (ho : o.op = .call { callee := .builtin .append, args := #[s, x], argTypes := #[t, t] }) {v xv v' : Value} (hs : a.eval s = v) (hx : a.eval x = xv)
    (hr : (Builtin.append_ #[t, t] o.type #[v, xv]).run P w = .ok v' w') (h : wpList P ops Q rest (a.put o.dst v') w') : wpList P ops Q (o :: rest) a w := by
  refine wpList_plain hgd fun K hK => ?_
  unfold Oper.wp execOp
  simp only [ho, resolve, invoke, builtin, Sem.run_bind, Sem.run_pure, Result.andThen_ok, List.map_toArray, List.map_cons, List.map_nil, hs, hx, hr]
  exact hK _ _ h

/-- A slice of the call's own: n elements of sz cells, element type e. -/
def OwnR (e sz : Nat) (w0 w : World) (v : Value) (n : Nat) (cs : List Value) : Prop := w.ownsRow w0.heap.size e sz v n cs
theorem OwnR.bw {e sz n : Nat} {cs : List Value} {w0 w w' : World} {v : Value} (h : OwnR e sz w0 w v n cs) (g : Bw w w') : OwnR e sz w0 w' v n cs := by
  obtain ⟨h1, h2⟩ := h
  refine ⟨h1, ?_⟩
  rcases h2 with h2 | ⟨b, cap, cur, h3, h4, h5, h6⟩
  · exact Or.inl h2
  · exact Or.inr ⟨b, cap, cur, h3, h4, by rw [Below.block g b (Array.getElem?_eq_some_iff.1 h5).1]; exact h5, h6⟩
theorem OwnR.nil (e sz : Nat) (w0 w : World) : OwnR e sz w0 w (.slice none 0 0) 0 [] := ⟨by simp, Or.inl ⟨rfl, rfl⟩⟩
theorem appR {e sz bytes : Nat} {z : Value} {t ty : TypeId} (hinf : (Tryd.prog.info? e).map (fun i => (i.zero, i.size, i.bytes)) = some (some z, sz, bytes)) (ht : Tryd.prog.underlying t = some (.slice e)) (hzs : z.cells.size = sz) (hsz : 0 < sz) (hby : bytes ≤ 100)
    {w0 wr : World} {v : Value} {n : Nat} {cs : List Value} (hown : OwnR e sz w0 wr v n cs) (hbw : Bw w0 wr) (a : Addr) (m c : Nat) (news : List Value) (hl : news.length = m * sz)
    (hnews : ∀ j u, news[j]? = some u → wr.cell? (a.add j) = some u) (h1 : ∀ u ∈ news, u.oneCell' = true) (hn : n + m ≤ 1000000) :
    ∃ v' w', (Builtin.append_ #[t, t] ty #[v, .slice (some a) m c]).run Tryd.prog wr = .ok v' w' ∧ OwnR e sz w0 w' v' (n + m) (cs ++ news) ∧ Bw w0 w' := by
  obtain ⟨i, hi, he⟩ := Option.map_eq_some_iff.1 hinf
  simp only [Prod.mk.injEq] at he
  obtain ⟨hz, hs, hb⟩ := he
  have hmul : (n + m) * bytes ≤ 1000000 * 100 := Nat.mul_le_mul hn hby
  obtain ⟨v', w', hr, ho, hg, -, hloc⟩ := run_append_own_at (P := Tryd.prog) (w := wr) w0.heap.size t ty e i z sz bytes ht hi hz hs hb hzs hsz v n cs hown a m c news hl hnews h1 (by unfold maxLen; omega) (by omega) hbw.size
  refine ⟨v', w', hr, ho, Below.grown hbw hg hbw.size (fun k hk => ?_)⟩
  obtain ⟨h1, h2⟩ := hown
  rcases h2 with ⟨h2, _⟩ | ⟨b, cap, cur, h3, h4, h5, h6⟩
  · rw [h2] at hk; simp [Value.ownBlock] at hk
  · rw [h3] at hk; simp [Value.ownBlock] at hk; omega
theorem cell_new (w : World) (news : List Value) (e : TypeId) : ∀ j u, news[j]? = some u → (w.alloc (.cells news.toArray e)).cell? ((⟨w.heap.size, 0, none⟩ : Addr).add j) = some u := fun j u hu => by
  have hadd : (⟨w.heap.size, 0, none⟩ : Addr).add j = ⟨w.heap.size, j, none⟩ := by unfold Addr.add; split <;> simp_all
  have hj := (List.getElem?_eq_some_iff.1 hu).1
  rw [hadd, World.cell?_alloc_at _ _ _ _ (by simp)]
  simpa using hu
/-- A slice that reads so: n elements, all their cells. -/
def RdR (sz : Nat) (w : World) (v : Value) (n : Nat) (cs : List Value) : Prop :=
  ∃ q cap, v = .slice q n cap ∧ n ≤ cap ∧ cap ≤ 9223372036854775807 ∧ cs.length = n * sz ∧ (0 < n → ∃ b o, q = some ⟨b, o, none⟩ ∧ b < w.heap.size ∧ ∀ j u, cs[j]? = some u → w.cell? ⟨b, o + j, none⟩ = some u)
theorem RdR.bw {sz n : Nat} {cs : List Value} {w w' : World} {v : Value} (h : RdR sz w v n cs) (g : Bw w w') : RdR sz w' v n cs := by
  obtain ⟨q, cap, h1, h2, h3, h4, h5⟩ := h
  refine ⟨q, cap, h1, h2, h3, h4, fun h0 => ?_⟩
  obtain ⟨b, o, h6, h7, h8⟩ := h5 h0
  exact ⟨b, o, h6, Nat.lt_of_lt_of_le h7 g.size, fun j u hu => g.keep (h8 j u hu)⟩
theorem RdR.nil (sz : Nat) (w : World) : RdR sz w (.slice none 0 0) 0 [] := ⟨none, 0, rfl, Nat.le_refl _, by omega, by simp, fun h => by omega⟩
theorem OwnR.rd {e sz n : Nat} {cs : List Value} {w0 w : World} {v : Value} (h : OwnR e sz w0 w v n cs) : RdR sz w v n cs := by
  obtain ⟨h1, h2⟩ := h
  rcases h2 with ⟨rfl, rfl⟩ | ⟨g, cap, cur, rfl, hb, hc, h4, h5, h6, h7⟩
  · exact ⟨none, 0, rfl, Nat.le_refl _, by omega, h1, fun h => by omega⟩
  · refine ⟨_, cap, rfl, h4, by unfold maxLen at h5; omega, h1, fun _ => ⟨g, 0, rfl, (Array.getElem?_eq_some_iff.1 hc).1, fun j u hu => ?_⟩⟩
    have hj : j < n * sz := by rw [← h1]; exact (List.getElem?_eq_some_iff.1 hu).1
    rw [← h7, List.getElem?_take_of_lt hj] at hu
    rw [Nat.zero_add]
    simp [World.cell?, hc] at hu ⊢
    exact hu
/-- A row's cells, element by element. -/
theorem chunk {α β : Type} (f : α → List β) (k : Nat) (hk : ∀ x, (f x).length = k) : ∀ (l : List α) (i : Nat) (x : α) (j : Nat), l[i]? = some x → j < k → (l.flatMap f)[i * k + j]? = (f x)[j]? := by
  intro l
  induction l with
  | nil => intro i x j h; simp at h
  | cons a r ih =>
    intro i x j h hj
    rw [List.flatMap_cons]
    cases i with
    | zero =>
      simp at h; subst h
      rw [Nat.zero_mul, Nat.zero_add, List.getElem?_append_left (by rw [hk]; exact hj)]
    | succ i =>
      rw [List.getElem?_append_right (by rw [hk, Nat.succ_mul]; omega), hk, show (i + 1) * k + j - k = i * k + j by rw [Nat.succ_mul]; omega]
      exact ih i x j (by simpa using h) hj
theorem chunk_len {α β : Type} (f : α → List β) (k : Nat) (hk : ∀ x, (f x).length = k) : ∀ l : List α, (l.flatMap f).length = l.length * k := by
  intro l
  induction l with
  | nil => simp
  | cons a r ih => rw [List.flatMap_cons, List.length_append, ih, hk, List.length_cons, Nat.succ_mul, Nat.add_comm]
end Go.Proofs.YtbackacbdfgdoaaDoor
set_option linter.unusedSimpArgs false
namespace Go.Proofs.YtbackacbdfgdoaaDoor
open Go.ChangeShapes Go.WideShapes Go.ChangeAt Go.RowKit

theorem heap_setCells_ne (b i : Nat) (h : i ≠ b) : ∀ (vs : List Value) (o : Nat) (w : World), (w.setCells b o vs).heap[i]? = w.heap[i]?
  | [], _, _ => rfl
  | v :: r, o, w => by rw [World.setCells, heap_setCells_ne b i h r]; exact Below.heap_setCell _ _ _ _ h
theorem below0_setCells (b : Nat) : ∀ (vs : List Value) (o : Nat) (w : World), Below 0 w (w.setCells b o vs)
  | [], _, _ => Below.refl _ _
  | v :: r, o, w => ((Below.refl 0 w).setCell (p := ⟨b, o, none⟩) (Nat.zero_le _) v).trans (below0_setCells b r (o + 1) _)
theorem isSome_setCells (b : Nat) (vs : List Value) (o : Nat) (w : World) (h : ∀ j, j < vs.length → (w.cell? ⟨b, o + j, none⟩).isSome = true) (k : Nat) (hk : (w.cell? ⟨b, k, none⟩).isSome = true) : ((w.setCells b o vs).cell? ⟨b, k, none⟩).isSome = true := by
  by_cases hi : o ≤ k ∧ k < o + vs.length
  · obtain ⟨j, rfl⟩ : ∃ j, k = o + j := ⟨k - o, by omega⟩
    rw [World.cell?_setCells_in b vs o w h j (by omega)]; rfl
  · rw [World.cell?_setCells_out b vs o w _ (fun _ _ => by dsimp only; omega)]; exact hk
/-- From (w, v) to (w', v'): v's block alone was written of those that were there. -/
structure Ap (w w' : World) (v v' : Value) : Prop where
  b : Below 0 w w'
  block : ∀ i, i < w.heap.size → v.ownBlock ≠ some i → w'.heap[i]? = w.heap[i]?
  own : v'.ownBlock = v.ownBlock ∨ ∃ n, w.heap.size ≤ n ∧ v'.ownBlock = some n
theorem Ap.refl (w : World) (v : Value) : Ap w w v v := ⟨Below.refl _ _, fun _ _ _ => rfl, Or.inl rfl⟩
theorem Ap.bw {w w' : World} (v : Value) (h : Bw w w') : Ap w w' v v := ⟨Below.mono h (Nat.zero_le _), fun i hi _ => Below.block h i hi, Or.inl rfl⟩
theorem Ap.trans {a b c : World} {u v x : Value} (h : Ap a b u v) (k : Ap b c v x) : Ap a c u x := by
  refine ⟨h.b.trans k.b, fun i hi hn => ?_, ?_⟩
  · have hv : v.ownBlock ≠ some i := fun e => by
      rcases h.own with h1 | ⟨n, h1, h2⟩
      · exact hn (h1 ▸ e)
      · rw [e] at h2; have := Option.some.inj h2; omega
    rw [k.block i (Nat.lt_of_lt_of_le hi h.b.size) hv, h.block i hi hn]
  · rcases k.own with h1 | ⟨n, h1, h2⟩
    · rw [h1]; exact h.own
    · exact Or.inr ⟨n, Nat.le_trans h.b.size h1, h2⟩
theorem Ap.alloc {a w : World} {u v : Value} (h : Ap a w u v) (o : Obj) : Ap a (w.alloc o) u v := h.trans (Ap.bw v ((Bw.refl w).alloc o))
theorem Ap.cell {w w' : World} {v v' : Value} (h : Ap w w' v v') {p : Addr} (hp : p.block < w.heap.size) (hn : v.ownBlock ≠ some p.block) : w'.cell? p = w.cell? p := by
  simp only [World.cell?, h.block p.block hp hn]
theorem Ap.toBw {w0 w w' : World} {v v' : Value} (h : Ap w w' v v') (g : Bw w0 w) (ho : ∀ k, v.ownBlock = some k → w0.heap.size ≤ k) : Bw w0 w' :=
  Below.trans g ⟨h.b.os, h.b.tape, h.b.output, h.b.size, fun i hi => h.block i (Nat.lt_of_lt_of_le hi g.size) (fun e => by have := ho i e; omega)⟩
def ints8 (l : List Int) : List Value := l.map fun x => Value.int .u8 x
/-- A slice of bytes that the call made, its cells not frozen. -/
def Own8 (w0 w : World) (v : Value) (l : List Int) : Prop :=
  (v = .slice none 0 0 ∧ l = []) ∨ ∃ g cap, v = .slice (some ⟨g, 0, none⟩) l.length cap ∧ w0.heap.size ≤ g ∧ g < w.heap.size ∧ l.length ≤ cap ∧ cap ≤ maxLen ∧ (∀ j x, l[j]? = some x → w.cell? ⟨g, j, none⟩ = some (.int .u8 x)) ∧
    (∀ j, j < cap → (w.cell? ⟨g, j, none⟩).isSome = true ∧ w.frozen? ⟨g, j, none⟩ = false)
theorem Own8.nil (w0 w : World) : Own8 w0 w (.slice none 0 0) [] := Or.inl ⟨rfl, rfl⟩
theorem Own8.blk {w0 w : World} {v : Value} {l : List Int} (h : Own8 w0 w v l) : ∀ k, v.ownBlock = some k → w0.heap.size ≤ k ∧ k < w.heap.size := by
  intro k hk
  rcases h with ⟨rfl, _⟩ | ⟨g, cap, rfl, h1, h2, _⟩
  · simp [Value.ownBlock] at hk
  · simp [Value.ownBlock] at hk; subst hk; exact ⟨h1, h2⟩
theorem frozen_block {w w' : World} {p : Addr} (h : w'.heap[p.block]? = w.heap[p.block]?) : w'.frozen? p = w.frozen? p := by unfold World.frozen?; rw [h]
theorem cell_block {w w' : World} {p : Addr} (h : w'.heap[p.block]? = w.heap[p.block]?) : w'.cell? p = w.cell? p := by unfold World.cell?; rw [h]
theorem Own8.bw {w0 w w' : World} {v : Value} {l : List Int} (h : Own8 w0 w v l) (k : Bw w w') : Own8 w0 w' v l := by
  rcases h with h | ⟨g, cap, rfl, h1, h2, h3, h4, h5, h6⟩
  · exact Or.inl h
  · have hb := Below.block k g h2
    refine Or.inr ⟨g, cap, rfl, h1, Nat.lt_of_lt_of_le h2 k.size, h3, h4, fun j x hx => ?_, fun j hj => ?_⟩
    · rw [cell_block (p := ⟨g, j, none⟩) hb]; exact h5 j x hx
    · rw [cell_block (p := ⟨g, j, none⟩) hb, frozen_block (p := ⟨g, j, none⟩) hb]; exact h6 j hj
theorem Own8.of {w0 w : World} {v : Value} {l : List Int} (h : w.ownsRow w0.heap.size 5 1 v l.length (ints8 l)) : Own8 w0 w v l := by
  obtain ⟨h1, h2⟩ := h
  rcases h2 with ⟨rfl, h3⟩ | ⟨g, cap, cur, rfl, hb, hc, h4, h5, h6, h7⟩
  · exact Or.inl ⟨rfl, List.eq_nil_of_length_eq_zero h3⟩
  · refine Or.inr ⟨g, cap, rfl, hb, (Array.getElem?_eq_some_iff.1 hc).1, h4, h5, fun j x hx => ?_, fun j hj => ⟨?_, ?_⟩⟩
    · have hj : j < l.length := (List.getElem?_eq_some_iff.1 hx).1
      have h8 : (ints8 l)[j]? = some (.int .u8 x) := by simp [ints8, hx]
      rw [← h7, List.getElem?_take_of_lt (by omega)] at h8
      simp [World.cell?, hc] at h8 ⊢
      exact h8
    · have : j < cur.size := by omega
      simp [World.cell?, hc, this]
    · simp [World.frozen?, hc]
theorem info8 : (Tryd.prog.info? 5).map (fun i => (i.zero, i.size, i.bytes)) = some (some (.int .u8 0), 1, 1) := by kernel_rfl
theorem app8G {w0 wa : World} {v : Value} {l : List Int} (hown : Own8 w0 wa v l) (hbw : Bw w0 wa) (xs : List Int) (a : Addr) (hnew : ∀ j u, (ints8 xs)[j]? = some u → wa.cell? (a.add j) = some u) (hx0 : 0 < xs.length) (hn : l.length + xs.length ≤ 1000000) (c : Nat) :
    ∃ v' w', (Builtin.append_ #[38, 38] 38 #[v, .slice (some a) xs.length c]).run Tryd.prog wa = .ok v' w' ∧ Own8 w0 w' v' (l ++ xs) ∧ Bw w0 w' ∧ Ap wa w' v v' := by
  obtain ⟨i, hi, he⟩ := Option.map_eq_some_iff.1 info8
  simp only [Prod.mk.injEq] at he
  obtain ⟨hz, hs, hb⟩ := he
  have h1c : ∀ u ∈ ints8 xs, u.oneCell' = true := fun u hu => by simp [ints8] at hu; obtain ⟨x, _, rfl⟩ := hu; rfl
  have hlx : (ints8 xs).length = xs.length := by simp [ints8]
  have hblk := hown.blk
  have finish : ∀ v' w', (Builtin.append_ #[38, 38] 38 #[v, .slice (some a) xs.length c]).run Tryd.prog wa = .ok v' w' → Own8 w0 w' v' (l ++ xs) → Ap wa w' v v' →
      ∃ v' w', (Builtin.append_ #[38, 38] 38 #[v, .slice (some a) xs.length c]).run Tryd.prog wa = .ok v' w' ∧ Own8 w0 w' v' (l ++ xs) ∧ Bw w0 w' ∧ Ap wa w' v v' := fun v' w' hr ho ha =>
    ⟨v', w', hr, ho, ha.toBw hbw (fun k hk => (hblk k hk).1), ha⟩
  have hof : ∀ v' w', w'.ownsRow wa.heap.size 5 1 v' (l.length + xs.length) (ints8 l ++ ints8 xs) → Own8 w0 w' v' (l ++ xs) := fun v' w' h => by
    refine Own8.of (?_ : w'.ownsRow w0.heap.size 5 1 v' (l ++ xs).length (ints8 (l ++ xs)))
    rw [List.length_append, show ints8 (l ++ xs) = ints8 l ++ ints8 xs by simp [ints8]]
    obtain ⟨h1, h2⟩ := h
    refine ⟨h1, ?_⟩
    rcases h2 with h2 | ⟨g, cap, cur, h3, h4, h5⟩
    · exact Or.inl h2
    · exact Or.inr ⟨g, cap, cur, h3, Nat.le_trans hbw.size h4, h5⟩
  have hgr : ∀ v' w', w'.ownsRow wa.heap.size 5 1 v' (l.length + xs.length) (ints8 l ++ ints8 xs) → wa.grownBy w' none → Ap wa w' v v' := fun v' w' h g => by
    refine ⟨⟨g.os, g.tape, g.output, g.size, fun k hk => by omega⟩, fun k hk _ => g.block k hk (by simp), ?_⟩
    rcases h.2 with ⟨_, h2⟩ | ⟨g', cap, cur, rfl, h4, _⟩
    · omega
    · exact Or.inr ⟨g', h4, rfl⟩
  rcases hown with ⟨rfl, rfl⟩ | ⟨g, cap, rfl, g1, g2, g3, g4, g5, g6⟩
  · obtain ⟨v', w', hr, h2, h3, _, _⟩ := run_append_own_at (P := Tryd.prog) (w := wa) wa.heap.size 38 38 5 i (.int .u8 0) 1 1 Tryd.underlying38 hi hz hs hb rfl (by decide) (.slice none 0 0) 0 [] (World.ownsRow_nil _ _ _ _) a xs.length c (ints8 xs) (by omega) hnew h1c (by unfold maxLen; simp at hn ⊢; omega) (by simp at hn ⊢; omega) (Nat.le_refl _)
    exact finish v' w' hr (hof v' w' (by simpa [ints8] using h2)) (hgr v' w' (by simpa [ints8] using h2) (by simpa [Value.ownBlock] using h3))
  · by_cases hroom : l.length + xs.length ≤ cap
    · have hc : ∀ j, j < (ints8 xs).length → (wa.cell? ⟨g, 0 + l.length * i.size + j, none⟩).isSome = true := fun j hj => by
        rw [hs, show 0 + l.length * 1 + j = l.length + j by omega]; exact (g6 _ (by omega)).1
      have hf : ∀ j, j < (ints8 xs).length → wa.frozen? ⟨g, 0 + l.length * i.size + j, none⟩ = false := fun j hj => by
        rw [hs, show 0 + l.length * 1 + j = l.length + j by omega]; exact (g6 _ (by omega)).2
      have hr := run_append_room_cells (P := Tryd.prog) wa 38 38 5 i Tryd.underlying38 hi g 0 l.length cap a xs.length c (ints8 xs) (by rw [hs]; omega) hnew h1c hroom hc hf
      rw [hs, show 0 + l.length * 1 = l.length by omega] at hr
      simp only [hs, show 0 + l.length * 1 = l.length by omega] at hc
      refine finish _ _ hr (Or.inr ⟨g, cap, by rw [List.length_append], g1, ?_, by rw [List.length_append]; exact hroom, g4, fun j x hx => ?_, fun j hj => ⟨isSome_setCells g _ _ wa hc j (g6 j hj).1, by rw [World.frozen?_setCells]; exact (g6 j hj).2⟩⟩) ⟨below0_setCells _ _ _ _, fun k _ hk => heap_setCells_ne g k (fun e => hk (by rw [e]; rfl)) _ _ _, Or.inl rfl⟩
      · exact Nat.lt_of_lt_of_le g2 (below0_setCells g (ints8 xs) l.length wa).size
      · by_cases hj : j < l.length
        · rw [World.cell?_setCells_out g _ _ wa _ (fun _ _ => Or.inl hj)]
          rw [List.getElem?_append_left hj] at hx
          exact g5 j x hx
        · rw [List.getElem?_append_right (by omega)] at hx
          have hjx := (List.getElem?_eq_some_iff.1 hx).1
          have := World.cell?_setCells_in g (ints8 xs) l.length wa hc (j - l.length) (by omega)
          rw [show l.length + (j - l.length) = j by omega] at this
          rw [this]
          have h8 : (ints8 xs)[j - l.length]? = some (.int .u8 x) := by simp [ints8, hx]
          rw [List.getElem?_eq_getElem (by omega)] at h8
          exact h8
    · obtain ⟨v', w', hr, h2, h3⟩ := run_append_arg_grows (P := Tryd.prog) wa 38 38 5 i (.int .u8 0) 1 1 Tryd.underlying38 hi hz hs hb rfl (by decide) ⟨g, 0, none⟩ l.length cap (ints8 l) (by simp [ints8]) (fun j u hu => by
          have hadd : (⟨g, 0, none⟩ : Addr).add j = ⟨g, j, none⟩ := by unfold Addr.add; split <;> simp_all
          rw [hadd]
          simp only [ints8, List.getElem?_map, Option.map_eq_some_iff] at hu
          obtain ⟨x, hx, rfl⟩ := hu
          exact g5 j x hx) a xs.length c (ints8 xs) (by omega) hnew (by omega) (by unfold maxLen; omega) (by omega)
      exact finish v' w' hr (hof v' w' h2) (hgr v' w' h2 h3)
theorem app8 {w0 wr : World} {v : Value} {l : List Int} (hown : Own8 w0 wr v l) (hbw : Bw w0 wr) (xs : List Int) (hx0 : 0 < xs.length) (hn : l.length + xs.length ≤ 1000000) (c : Nat) :
    ∃ v' w', (Builtin.append_ #[38, 38] 38 #[v, .slice (some ⟨wr.heap.size, 0, none⟩) xs.length c]).run Tryd.prog (wr.alloc (.cells (ints8 xs).toArray 5)) = .ok v' w' ∧ Own8 w0 w' v' (l ++ xs) ∧ Bw w0 w' ∧ Ap wr w' v v' := by
  have hA : Ap wr (wr.alloc (.cells (ints8 xs).toArray 5)) v v := (Ap.refl wr v).alloc _
  obtain ⟨v', w', h1, h2, h3, h4⟩ := app8G (hown.bw ((Bw.refl wr).alloc _)) (hbw.alloc (.cells (ints8 xs).toArray 5)) xs ⟨wr.heap.size, 0, none⟩ (cell_new wr (ints8 xs) 5) hx0 hn c
  exact ⟨v', w', h1, h2, h3, hA.trans h4⟩
theorem Own8.le {w0 w1 w : World} {v : Value} {l : List Int} (h : Own8 w1 w v l) (k : w0.heap.size ≤ w1.heap.size) : Own8 w0 w v l := by
  rcases h with h | ⟨g, cap, h0, h1, h2⟩
  · exact Or.inl h
  · exact Or.inr ⟨g, cap, h0, Nat.le_trans k h1, h2⟩
theorem Own8.marked {w0 w : World} (h : w0.heap.size ≤ w.heap.size) (l : List Int) (hl : l.length ≤ 1000) (f : Nat × Nat) (hf : f = (0, 0) ∨ f = (l.length, l.length + 1)) : Own8 w0 (w.alloc (.cells (ints8 l).toArray 5 f)) (.slice (some ⟨w.heap.size, 0, none⟩) l.length l.length) l := by
  have hb : (w.alloc (.cells (ints8 l).toArray 5 f)).heap[w.heap.size]? = some (.cells (ints8 l).toArray 5 f) := heap_alloc_new w _
  refine Or.inr ⟨w.heap.size, l.length, rfl, h, by simp, Nat.le_refl _, by unfold maxLen; omega, fun j x hx => ?_, fun j hj => ⟨?_, ?_⟩⟩
  · have h8 : (ints8 l)[j]? = some (.int .u8 x) := by simp [ints8, hx]
    simp only [World.cell?, hb]
    simpa using h8
  · simp only [World.cell?, hb]
    simp [ints8, hj]
  · simp only [World.frozen?, hb]
    rcases hf with rfl | rfl
    · simp
    · simp; omega
theorem Own8.set {w0 w : World} {g cap : Nat} {l : List Int} (h : Own8 w0 w (.slice (some ⟨g, 0, none⟩) l.length cap) l) (i : Nat) (hi : i < l.length) (x : Int) : Own8 w0 (w.setCell ⟨g, i, none⟩ (.int .u8 x)) (.slice (some ⟨g, 0, none⟩) l.length cap) (l.set i x) := by
  rcases h with ⟨h, _⟩ | ⟨g', cap', h0, g1, g2, g3, g4, g5, g6⟩
  · simp at h
  · simp at h0
    obtain ⟨rfl, rfl⟩ := h0
    have hsz : (w.setCell ⟨g, i, none⟩ (.int .u8 x)).heap.size = w.heap.size := by simp [World.setCell]
    obtain ⟨u, hu⟩ := Option.isSome_iff_exists.1 (g6 i (by omega)).1
    refine Or.inr ⟨g, cap, by rw [List.length_set], g1, by omega, by rw [List.length_set]; exact g3, g4, fun j y hy => ?_, fun j hj => ⟨?_, by rw [World.frozen?_setCell]; exact (g6 j hj).2⟩⟩
    · by_cases e : j = i
      · subst e
        rw [List.getElem?_set_self hi] at hy
        rw [World.cell?_setCell_same _ _ _ hu, Option.some.inj hy]
      · rw [List.getElem?_set_ne (by omega)] at hy
        rw [World.cell?_setCell_other _ _ _ _ (fun h => e (by simpa using (congrArg Addr.off h).symm))]
        exact g5 j y hy
    · by_cases e : j = i
      · subst e
        rw [World.cell?_setCell_same _ _ _ hu]; rfl
      · rw [World.cell?_setCell_other _ _ _ _ (fun h => e (by simpa using (congrArg Addr.off h).symm))]
        exact (g6 j hj).1
theorem Own8.form {w0 w : World} {v : Value} {l : List Int} (h : Own8 w0 w v l) (hl : 0 < l.length) : ∃ g cap, v = .slice (some ⟨g, 0, none⟩) l.length cap ∧ w0.heap.size ≤ g ∧ g < w.heap.size ∧ l.length ≤ cap ∧ cap ≤ 9223372036854775807 ∧ (∀ j x, l[j]? = some x → w.cell? ⟨g, j, none⟩ = some (.int .u8 x)) ∧ ∀ j, j < l.length → w.frozen? ⟨g, j, none⟩ = false := by
  rcases h with ⟨_, h⟩ | ⟨g, cap, h0, g1, g2, g3, g4, g5, g6⟩
  · subst h; simp at hl
  · exact ⟨g, cap, h0, g1, g2, g3, by unfold maxLen at g4; omega, g5, fun j hj => (g6 j (by omega)).2⟩
/-- As something that can be read. -/
def Rd8 (w : World) (v : Value) (l : List Int) : Prop := RdR 1 w v l.length (ints8 l)
theorem Rd8.bw {w w' : World} {v : Value} {l : List Int} (h : Rd8 w v l) (g : Bw w w') : Rd8 w' v l := RdR.bw h g
theorem Own8.rd {w0 w : World} {v : Value} {l : List Int} (h : Own8 w0 w v l) : Rd8 w v l := by
  rcases h with ⟨rfl, rfl⟩ | ⟨g, cap, rfl, g1, g2, g3, g4, g5, g6⟩
  · exact RdR.nil _ _
  · refine ⟨_, cap, rfl, g3, by unfold maxLen at g4; omega, by simp [ints8], fun _ => ⟨g, 0, rfl, g2, fun j u hu => ?_⟩⟩
    simp only [ints8, List.getElem?_map, Option.map_eq_some_iff] at hu
    obtain ⟨x, hx, rfl⟩ := hu
    rw [Nat.zero_add]
    exact g5 j x hx
theorem Rd8.open {w : World} {v : Value} {l : List Int} (h : Rd8 w v l) : ∃ q cap, v = .slice q l.length cap ∧ l.length ≤ cap ∧ cap ≤ 9223372036854775807 ∧ (0 < l.length → ∃ b o, q = some ⟨b, o, none⟩ ∧ b < w.heap.size ∧ ∀ i x, l[i]? = some x → w.cell? ⟨b, o + i, none⟩ = some (.int .u8 x)) := by
  obtain ⟨q, cap, h1, h2, h3, h4, h5⟩ := h
  refine ⟨q, cap, h1, h2, h3, fun h0 => ?_⟩
  obtain ⟨b, o, h6, h7, h8⟩ := h5 h0
  exact ⟨b, o, h6, h7, fun i x hx => h8 i _ (by simp [ints8, hx])⟩
theorem conv8 {w0 w : World} {v : Value} {l : List Int} (h : Own8 w0 w v l) : (convert 38 9 v).run Tryd.prog w = .ok (.string (strOfNums l)) w := by
  rcases h with ⟨rfl, rfl⟩ | ⟨g, cap, rfl, g1, g2, g3, g4, g5, g6⟩
  · exact run_convert_bytes_nil w 38 5 Tryd.underlying38 Tryd.underlying5 0 0 _ Tryd.underlying9
  · refine run_convert_bytes_arg w 38 5 Tryd.underlying38 Tryd.underlying5 g 0 l.length cap l rfl (fun i hi => ?_) _ Tryd.underlying9
    rw [Nat.zero_add]
    exact g5 i _ (by simp [List.getD, List.getElem?_eq_getElem hi])
theorem conv8R {w : World} {b o n cap : Nat} {l : List Int} (hn : n = l.length) (hc : ∀ i x, l[i]? = some x → w.cell? ⟨b, o + i, none⟩ = some (.int .u8 x)) : (convert 38 9 (.slice (some ⟨b, o, none⟩) n cap)).run Tryd.prog w = .ok (.string (strOfNums l)) w := by
  subst hn
  refine run_convert_bytes_arg w 38 5 Tryd.underlying38 Tryd.underlying5 b o l.length cap l rfl (fun i hi => ?_) _ Tryd.underlying9
  exact hc i _ (by simp [List.getD, List.getElem?_eq_getElem hi])
theorem run_app8_none {w0 wr : World} {v : Value} {l : List Int} (hown : Own8 w0 wr v l) (q : Option Addr) (c : Nat) : (Builtin.append_ #[38, 38] 38 #[v, .slice q 0 c]).run Tryd.prog wr = .ok v wr := by
  obtain ⟨i, hi, he⟩ := Option.map_eq_some_iff.1 info8
  rcases hown with ⟨rfl, rfl⟩ | ⟨g, cap, rfl, g1, g2, g3, g4, g5, g6⟩
  · cases q <;> simp [Builtin.append_, run_underlying Tryd.underlying38, sizeOf, typeInfo, hi, Builtin.lenOf, Builtin.firstCells, loadCells, loadCellsFrom]
  · cases q <;> simp [Builtin.append_, run_underlying Tryd.underlying38, sizeOf, typeInfo, hi, Builtin.lenOf, g3, Builtin.firstCells, storeCells, loadCells, loadCellsFrom]
/-- append(x, y...), y whatever can be read. -/
theorem app8S {w0 wr : World} {v x : Value} {l xs : List Int} (hown : Own8 w0 wr v l) (hbw : Bw w0 wr) (hx : Rd8 wr x xs) (hn : l.length + xs.length ≤ 1000000) :
    ∃ v' w', (Builtin.append_ #[38, 38] 38 #[v, x]).run Tryd.prog wr = .ok v' w' ∧ Own8 w0 w' v' (l ++ xs) ∧ Bw w0 w' ∧ Ap wr w' v v' := by
  obtain ⟨q, cap, rfl, h2, h3, h4, h5⟩ := hx
  by_cases h0 : 0 < xs.length
  · obtain ⟨b, o, rfl, h7, h8⟩ := h5 h0
    exact app8G hown hbw xs ⟨b, o, none⟩ (fun j u hu => by rw [Addr.add_lit]; exact h8 j u hu) h0 hn cap
  · have he : xs = [] := List.eq_nil_of_length_eq_zero (by omega)
    subst he
    exact ⟨v, wr, run_app8_none hown q cap, by simpa using hown, hbw, Ap.refl _ _⟩
def B8 (x : Int) : Prop := 0 ≤ x ∧ x < 256
def B8s (l : List Int) : Prop := ∀ x ∈ l, B8 x
theorem B8s.app {a b : List Int} (h : B8s a) (k : B8s b) : B8s (a ++ b) := fun x hx => by rcases List.mem_append.1 hx with h1 | h1; exact h x h1; exact k x h1
theorem strOf_list (a : List Int) : (strOfNums a).toList = a.map fun n => UInt8.ofNat n.toNat := by
  rw [Lib.toList_data]; simp [strOfNums]
theorem u8_of {x y : Int} (hx : B8 x) (hy : B8 y) : UInt8.ofNat x.toNat = UInt8.ofNat y.toNat ↔ x = y := by
  obtain ⟨a, b⟩ := hx; obtain ⟨c, d⟩ := hy
  constructor
  · intro h
    have := congrArg UInt8.toNat h
    simp only [UInt8.toNat_ofNat'] at this
    omega
  · intro h; rw [h]
theorem strOf_map {a b : List Int} (ha : B8s a) (hb : B8s b) : (a.map fun n => UInt8.ofNat n.toNat) = (b.map fun n => UInt8.ofNat n.toNat) ↔ a = b := by
  constructor
  · intro h
    apply List.ext_getElem?
    intro i
    have := congrArg (·[i]?) h
    simp only [List.getElem?_map] at this
    cases hx : a[i]? with
    | none =>
      cases hy : b[i]? with
      | none => rfl
      | some y => rw [hx, hy] at this; simp at this
    | some x =>
      cases hy : b[i]? with
      | none => rw [hx, hy] at this; simp at this
      | some y =>
        rw [hx, hy] at this
        simp only [Option.map_some, Option.some.injEq] at this
        rw [(u8_of (ha x (List.mem_of_getElem? hx)) (hb y (List.mem_of_getElem? hy))).1 this]
  · intro h; rw [h]
theorem Rd8.conv {w : World} {v : Value} {l : List Int} (h : Rd8 w v l) : (convert 38 9 v).run Tryd.prog w = .ok (.string (strOfNums l)) w := by
  obtain ⟨q, cap, rfl, h2, h3, h4⟩ := h.open
  by_cases h0 : 0 < l.length
  · obtain ⟨b, o, rfl, h7, h8⟩ := h4 h0
    exact conv8R rfl h8
  · have he : l = [] := List.eq_nil_of_length_eq_zero (by omega)
    subst he
    cases q with
    | none => exact run_convert_bytes_nil w 38 5 Tryd.underlying38 Tryd.underlying5 0 cap _ Tryd.underlying9
    | some a => simp [convert, run_underlying Tryd.underlying38, run_underlying Tryd.underlying9, run_underlying Tryd.underlying5, Conv.bytesToString, loadCells, loadCellsFrom, strOfNums]; rfl
theorem RdR.new {sz n : Nat} (w : World) (cs : List Value) (t : TypeId) (h : cs.length = n * sz) (hn : n ≤ 100000) : RdR sz (w.alloc (.cells cs.toArray t)) (.slice (some ⟨w.heap.size, 0, none⟩) n n) n cs := by
  refine ⟨_, n, rfl, Nat.le_refl _, by omega, h, fun _ => ⟨w.heap.size, 0, rfl, by simp, fun j u hu => ?_⟩⟩
  have := cell_new w cs t j u hu
  rw [Nat.zero_add]
  have hadd : (⟨w.heap.size, 0, none⟩ : Addr).add j = ⟨w.heap.size, j, none⟩ := by unfold Addr.add; split <;> simp_all
  rwa [hadd] at this
theorem Rd8.new (w : World) (l : List Int) (hl : l.length ≤ 100000) : Rd8 (w.alloc (.cells (ints8 l).toArray 5)) (.slice (some ⟨w.heap.size, 0, none⟩) l.length l.length) l := RdR.new w _ _ (by simp [ints8]) hl
/-- A part of what can be read can be read. -/
theorem Rd8.part {w : World} {b o c2 : Nat} {l : List Int} (hbl : b < w.heap.size) (hc : ∀ i x, l[i]? = some x → w.cell? ⟨b, o + i, none⟩ = some (.int .u8 x)) (i m : Nat) (him : i + m ≤ l.length) (hm : m ≤ c2) (hc2 : c2 ≤ 9223372036854775807) :
    Rd8 w (.slice (some ⟨b, o + i, none⟩) m c2) ((l.drop i).take m) := by
  have hlen : ((l.drop i).take m).length = m := by rw [List.length_take, List.length_drop]; omega
  refine ⟨_, c2, by rw [hlen], by omega, hc2, by simp [ints8], fun _ => ⟨b, o + i, rfl, hbl, fun j u hu => ?_⟩⟩
  simp only [ints8, List.getElem?_map, Option.map_eq_some_iff] at hu
  obtain ⟨y, hy, rfl⟩ := hu
  rw [List.getElem?_take] at hy
  split at hy
  · rw [List.getElem?_drop] at hy
    rw [Nat.add_assoc]; exact hc _ y hy
  · simp at hy
end Go.Proofs.YtbackacbdfgdoaaDoor
namespace Go.Proofs.YtbackacbdfgdoaaDoor
open Go.ChangeShapes Go.WideShapes Go.ChangeAt Go.RowKit

/-- From a to b: of the blocks that were there block pb alone may be another. -/
structure Bq (pb : Nat) (a b : World) : Prop where
  b0 : Below 0 a b
  block : ∀ i, i < a.heap.size → i ≠ pb → b.heap[i]? = a.heap[i]?
theorem Bq.refl (pb : Nat) (a : World) : Bq pb a a := ⟨Below.refl _ _, fun _ _ _ => rfl⟩
theorem Bq.bw {pb : Nat} {a b c : World} (h : Bq pb a b) (k : Bw b c) : Bq pb a c :=
  ⟨h.b0.trans (Below.mono k (Nat.zero_le _)), fun i hi hn => (Below.block k i (Nat.lt_of_lt_of_le hi h.b0.size)).trans (h.block i hi hn)⟩
theorem Bq.set {pb : Nat} {a b : World} (h : Bq pb a b) (j : Nat) (v : Value) : Bq pb a (b.setCell ⟨pb, j, none⟩ v) :=
  ⟨h.b0.setCell (Nat.zero_le _) v, fun i hi hn => (Below.heap_setCell _ _ _ _ hn).trans (h.block i hi hn)⟩
theorem Bq.trans {pb : Nat} {a b c : World} (h : Bq pb a b) (k : Bq pb b c) : Bq pb a c :=
  ⟨h.b0.trans k.b0, fun i hi hn => (k.block i (Nat.lt_of_lt_of_le hi h.b0.size) hn).trans (h.block i hi hn)⟩
theorem Bq.keep {pb : Nat} {a b : World} (h : Bq pb a b) {p : Addr} {v : Value} (hv : a.cell? p = some v) (hn : p.block ≠ pb) : b.cell? p = some v := by
  have hb : p.block < a.heap.size := by
    apply Decidable.byContradiction
    intro hx
    have : a.heap[p.block]? = none := by simp; omega
    simp [World.cell?, this] at hv
  rw [cell_block (h.block _ hb hn)]; exact hv
theorem Bq.toBw {pb : Nat} {w a b : World} (h : Bq pb a b) (g : Bw w a) (hp : w.heap.size ≤ pb) : Bw w b :=
  Below.trans g ⟨h.b0.os, h.b0.tape, h.b0.output, h.b0.size, fun i hi => h.block i (Nat.lt_of_lt_of_le hi g.size) (by omega)⟩
theorem OwnR.set {e sz n : Nat} {cs : List Value} {a w : World} {v : Value} (h : OwnR e sz a w v n cs) {pb : Nat} (hp : pb < a.heap.size) (j : Nat) (u : Value) : OwnR e sz a (w.setCell ⟨pb, j, none⟩ u) v n cs := by
  obtain ⟨h1, h2⟩ := h
  refine ⟨h1, ?_⟩
  rcases h2 with h2 | ⟨b, cap, cur, h3, h4, h5, h6⟩
  · exact Or.inl h2
  · exact Or.inr ⟨b, cap, cur, h3, h4, by rw [Below.heap_setCell _ _ _ _ (by show b ≠ pb; omega)]; exact h5, h6⟩
theorem appQ {e sz bytes pb : Nat} {z : Value} {t ty : TypeId} (hinf : (Tryd.prog.info? e).map (fun i => (i.zero, i.size, i.bytes)) = some (some z, sz, bytes)) (ht : Tryd.prog.underlying t = some (.slice e)) (hzs : z.cells.size = sz) (hsz : 0 < sz) (hby : bytes ≤ 100)
    {a wr : World} {v : Value} {n : Nat} {cs : List Value} (hown : OwnR e sz a wr v n cs) (hq : Bq pb a wr) (hp : pb < a.heap.size) (c : Nat) (news : List Value) (hl : news.length = sz) (h1 : ∀ u ∈ news, u.oneCell' = true) (hn : n ≤ 10000) :
    ∃ v' w', (Builtin.append_ #[t, t] ty #[v, .slice (some ⟨wr.heap.size, 0, none⟩) 1 c]).run Tryd.prog (wr.alloc (.cells news.toArray e)) = .ok v' w' ∧ OwnR e sz a w' v' (n + 1) (cs ++ news) ∧ Bq pb a w' ∧ w'.heap[pb]? = wr.heap[pb]? := by
  obtain ⟨i, hi, he⟩ := Option.map_eq_some_iff.1 hinf
  simp only [Prod.mk.injEq] at he
  obtain ⟨hz, hs, hb⟩ := he
  have hmul : (n + 1) * bytes ≤ 10001 * 100 := Nat.mul_le_mul (by omega) hby
  have hqA := hq.bw ((Bw.refl wr).alloc (.cells news.toArray e))
  have hpb : (wr.alloc (.cells news.toArray e)).heap[pb]? = wr.heap[pb]? := Below.heap_alloc _ _ _ (Nat.lt_of_lt_of_le hp hq.b0.size)
  have hoA := OwnR.bw hown ((Bw.refl wr).alloc (.cells news.toArray e))
  obtain ⟨v', w', hr, ho, hg, -, hloc⟩ := run_append_own_at (P := Tryd.prog) (w := wr.alloc (.cells news.toArray e)) a.heap.size t ty e i z sz bytes ht hi hz hs hb hzs hsz v n cs hoA ⟨wr.heap.size, 0, none⟩ 1 c news (by omega) (cell_new wr news e) h1 (by unfold maxLen; omega) (by omega) hqA.b0.size
  have hne : ∀ k, k < a.heap.size → v.ownBlock ≠ some k := fun k hk e => by
    rcases hown.2 with ⟨h2, _⟩ | ⟨b, cap, cur, h3, h4, h5, h6⟩
    · rw [h2] at e; simp [Value.ownBlock] at e
    · rw [h3] at e; simp [Value.ownBlock] at e; omega
  refine ⟨v', w', hr, ho, ⟨hqA.b0.trans ⟨hg.os, hg.tape, hg.output, hg.size, fun k hk => by omega⟩, fun k hk hkn => (hg.block k (Nat.lt_of_lt_of_le hk hqA.b0.size) (fun e => hne k hk e.symm)).trans (hqA.block k hk hkn)⟩, ?_⟩
  rw [hg.block pb (Nat.lt_of_lt_of_le hp hqA.b0.size) (fun e => hne pb hp e.symm), hpb]
theorem OwnR.form {e sz n : Nat} {cs : List Value} {a w : World} {v : Value} (h : OwnR e sz a w v n cs) (hn : 0 < n) : ∃ g c, v = .slice (some ⟨g, 0, none⟩) n c := by
  rcases h.2 with ⟨_, h2⟩ | ⟨b, cap, cur, h3, _⟩
  · omega
  · exact ⟨b, cap, h3⟩
theorem stepApp {P : Program} {w w' : World} {ops : Array Oper} {o : Oper} {a : Act} {K : Act → World → Prop} {Q : Exit → Act → World → Prop} {E : Prop} (hgd : o.guard = none) (s x : Operand) (t : TypeId)
    (ho : o.op = .call { callee := .builtin .append, args := #[s, x], argTypes := #[t, t] }) {v xv v' : Value} (hs : a.eval s = v) (hx : a.eval x = xv)
    (hr : (Builtin.append_ #[t, t] o.type #[v, xv]).run P w = .ok v' w') (h : K (a.put o.dst v') w') : if Region.wanted o (yielded ops a.tmps) = true then Oper.wp P o a w K Q else E := by
  have hw : Region.wanted o (yielded ops a.tmps) = true := by simp [Region.wanted, hgd]
  rw [if_pos hw]
  unfold Oper.wp execOp
  simp only [ho, resolve, invoke, builtin, Sem.run_bind, Sem.run_pure, Result.andThen_ok, List.map_toArray, List.map_cons, List.map_nil, hs, hx, hr]
  exact h
/-- A box of its own: its cells, none frozen. -/
structure Box (w : World) (b : Nat) (vs : List Value) : Prop where
  c : ∀ (j : Nat) v, vs[j]? = some v → w.cell? ⟨b, j, none⟩ = some v
  f : ∀ j : Nat, j < vs.length → w.frozen? ⟨b, j, none⟩ = false
theorem Box.new (w : World) (vs : List Value) (t : TypeId) : Box (w.alloc (.cells vs.toArray t)) w.heap.size vs := by
  refine ⟨fun j v hv => ?_, fun j hj => ?_⟩
  · rw [World.cell?_alloc_at _ _ _ _ (by simp)]
    simpa using hv
  · unfold World.frozen?
    rw [heap_alloc_new w _]
    simp
theorem Box.blk {w w' : World} {b : Nat} {vs : List Value} (h : Box w b vs) (e : w'.heap[b]? = w.heap[b]?) : Box w' b vs :=
  ⟨fun j v hv => (cell_block (p := ⟨b, j, none⟩) e).trans (h.c j v hv), fun j hj => (frozen_block (p := ⟨b, j, none⟩) e).trans (h.f j hj)⟩
theorem Box.lt {w : World} {b : Nat} {v : Value} {vs : List Value} (h : Box w b (v :: vs)) : b < w.heap.size := by
  apply Decidable.byContradiction
  intro hn
  have h0 := h.c 0 v rfl
  have : w.heap[b]? = none := by simp; omega
  simp [World.cell?, this] at h0
theorem Box.bw {w w' : World} {b : Nat} {v : Value} {vs : List Value} (h : Box w b (v :: vs)) (g : Bw w w') : Box w' b (v :: vs) := h.blk (Below.block g b h.lt)
theorem Box.ne {w : World} {b c : Nat} {vs : List Value} (h : Box w b vs) (hn : b ≠ c) (j : Nat) (v : Value) : Box (w.setCell ⟨c, j, none⟩ v) b vs := h.blk (Below.heap_setCell _ _ _ _ hn)
theorem Box.set {w : World} {b : Nat} {vs : List Value} (h : Box w b vs) (j : Nat) (hj : j < vs.length) (v : Value) : Box (w.setCell ⟨b, j, none⟩ v) b (vs.set j v) := by
  refine ⟨fun k u hu => ?_, fun k hk => ?_⟩
  · by_cases e : k = j
    · subst e
      rw [List.getElem?_set_self hj] at hu
      rw [World.cell?_setCell_same _ _ _ (h.c k _ (List.getElem?_eq_getElem hj)), Option.some.inj hu]
    · rw [List.getElem?_set_ne (by omega)] at hu
      rw [World.cell?_setCell_other _ _ _ _ (fun h => e (by simpa using (congrArg Addr.off h).symm))]
      exact h.c k u hu
  · rw [World.frozen?_setCell]; exact h.f k (by rw [List.length_set] at hk; exact hk)
theorem Box.q {a w : World} {b pb : Nat} {v : Value} {vs : List Value} (h : Box a b (v :: vs)) (g : Bq pb a w) (hn : b ≠ pb) : Box w b (v :: vs) := h.blk (g.block b h.lt hn)
theorem RdR.q {sz n : Nat} {cs : List Value} {a b : World} {v : Value} {pb : Nat} (h : RdR sz a v n cs) (g : Bq pb a b) (hn : ∀ q k c, v = .slice (some q) k c → 0 < k → q.block ≠ pb) : RdR sz b v n cs := by
  obtain ⟨q, cap, h1, h2, h3, h4, h5⟩ := h
  refine ⟨q, cap, h1, h2, h3, h4, fun h0 => ?_⟩
  obtain ⟨b', o, rfl, h7, h8⟩ := h5 h0
  have hb := hn _ _ _ h1 h0
  exact ⟨b', o, rfl, Nat.lt_of_lt_of_le h7 g.b0.size, fun j u hu => g.keep (h8 j u hu) hb⟩
theorem OwnR.far {e sz n : Nat} {cs : List Value} {a w : World} {v : Value} (h : OwnR e sz a w v n cs) : ∀ q k c, v = .slice (some q) k c → 0 < k → a.heap.size ≤ q.block := fun q k c e hk => by
  rcases h.2 with ⟨h2, _⟩ | ⟨b', cap', cur', h3, h4', _⟩
  · rw [h2] at e; simp at e
  · rw [h3] at e; simp at e; obtain ⟨rfl, _, _⟩ := e; exact h4'
end Go.Proofs.YtbackacbdfgdoaaDoor
namespace Go.Proofs.YtbackacbdfgdoaaDoor
open Go.ChangeShapes Go.WideShapes Go.ChangeAt Go.RowKit
set_option linter.unusedVariables false

def HasB (w0 w : World) (mb N : Nat) (S : MS) (P : Nat → Prop) : Prop := ∃ F, Bw w0 w ∧ (∀ i, F i → w0.heap.size ≤ i ∧ ¬ P i) ∧ Own w mb F N S
/-- P's blocks are as they were. -/
def Kp (P : Nat → Prop) (w w' : World) : Prop := w.heap.size ≤ w'.heap.size ∧ ∀ i, i < w.heap.size → P i → w'.heap[i]? = w.heap[i]?
theorem Kp.refl (P : Nat → Prop) (w : World) : Kp P w w := ⟨Nat.le_refl _, fun _ _ _ => rfl⟩
theorem Kp.trans {P : Nat → Prop} {a b c : World} (h : Kp P a b) (k : Kp P b c) : Kp P a c := ⟨Nat.le_trans h.1 k.1, fun i hi hp => (k.2 i (Nat.lt_of_lt_of_le hi h.1) hp).trans (h.2 i hi hp)⟩
theorem Kp.mono {P Q : Nat → Prop} {a b : World} (h : Kp P a b) (hq : ∀ i, Q i → P i) : Kp Q a b := ⟨h.1, fun i hi hp => h.2 i hi (hq i hp)⟩
theorem Kp.bw {P : Nat → Prop} {a b : World} (h : Bw a b) : Kp P a b := ⟨h.size, fun i hi _ => Below.block h i hi⟩
theorem Fr.toBw {F : Nat → Prop} {w0 w w' : World} (fr : Fr F w w') (g : Bw w0 w) (hF : ∀ i, F i → w0.heap.size ≤ i) : Bw w0 w' :=
  Below.trans g ⟨fr.os, fr.tape, fr.output, fr.size, fun i hi => fr.block i (Nat.lt_of_lt_of_le hi g.size) (fun hf => by have := hF i hf; omega)⟩
theorem Fr.kp {F P : Nat → Prop} {w w' : World} (fr : Fr F w w') (hF : ∀ i, F i → ¬ P i) : Kp P w w' := ⟨fr.size, fun i hi hp => fr.block i hi (fun hf => hF i hf hp)⟩
theorem Bw.of_kp {w a b : World} (h : Bw w a) (k : Bw w b) (hk : Kp (fun i => i < a.heap.size) a b) : Bw a b :=
  ⟨k.os.trans h.os.symm, k.tape.trans h.tape.symm, k.output.trans h.output.symm, hk.1, fun i hi => hk.2 i hi hi⟩
section
variable {w0 w w1 : World} {mb N : Nat} {S : MS} {P : Nat → Prop}
theorem HasB.bw (h : HasB w0 w mb N S P) : Bw w0 w := by obtain ⟨F, g, _⟩ := h; exact g
theorem HasB.ok (h : HasB w0 w mb N S P) : S.Ok := by obtain ⟨F, _, _, o⟩ := h; exact o.ok
theorem HasB.on (h : HasB w0 w mb N S P) (g : Bw w w1) : HasB w0 w1 mb N S P := by
  obtain ⟨F, g0, hF, L, o⟩ := h
  exact ⟨F, g0.trans g, hF, L, o.congr g.size (fun i hi => Below.block g i (o.lt i hi))⟩
theorem HasB.more (h : HasB w0 w mb N S P) {Q : Nat → Prop} (hQ : ∀ i, Q i → P i ∨ w.heap.size ≤ i) : HasB w0 w mb N S Q := by
  obtain ⟨F, g0, hF, L, o⟩ := h
  refine ⟨F, g0, fun i hi => ⟨(hF i hi).1, fun hq => ?_⟩, L, o⟩
  rcases hQ i hq with h1 | h1
  · exact (hF i hi).2 h1
  · have := o.lt i hi; omega
theorem New_b (g : Bw w0 w) (n : Int) (hn : 1 ≤ n ∧ n ≤ 4096) :
    Calls Tryd.prog 24 #[.int .i64 n] w fun e w' => ∃ mb, e = .returned (.tuple #[.pointer (some ⟨mb, 0, none⟩), .int .i64 0]) ∧ HasB w0 w' mb 0 (MS.new n) (fun i => i < w.heap.size) ∧ Bw w w' :=
  (New_c n hn w).mono (fun _ _ ⟨mb, F, h1, h2, h3, h4⟩ => ⟨mb, h1, ⟨F, g.trans h2.b, fun i hi => ⟨Nat.le_trans g.size (h3 i hi), fun h => by have := h3 i hi; omega⟩, h4⟩, h2.b⟩)
theorem Map_b (h : HasB w0 w mb N S P) (hP : ∀ i, P i → i < w.heap.size) (a n perm : Int) (ha : U4 a) (hn : U4 n) (hN : N + 4096 < maxLen) (hI : S.mapE a n perm = 0 → InsSpec S.th (lb S.th (a / 256))) :
    Calls Tryd.prog 25 #[.pointer (some ⟨mb, 0, none⟩), .int .u32 a, .int .u32 n, .int .i64 perm] w fun e w' => e = .returned (.int .i64 (S.mapE a n perm)) ∧ HasB w0 w' mb (N + 4096) (S.mapS a n perm) P ∧ Kp P w w' := by
  obtain ⟨F, g, hF, o⟩ := h
  refine (Map_c o a n perm ha hn hN hI).mono (fun e w' ⟨h1, h2, h3⟩ => ⟨h1, ⟨_, h2.toBw g (fun i hi => (hF i hi).1), fun i hi => ?_, h3⟩, h2.kp (fun i hi => (hF i hi).2)⟩)
  rcases hi with hi | hi
  · exact hF i hi
  · exact ⟨Nat.le_trans g.size hi.1, fun hp => by have := hP i hp; omega⟩
theorem Load_b (h : HasB w0 w mb N S P) (a size need : Int) (ha : U4 a) :
    Calls Tryd.prog 31 #[.pointer (some ⟨mb, 0, none⟩), .int .u32 a, .int .i64 size, .int .i64 need] w fun e w' => e = .returned (.tuple #[.int .u32 (S.load a size need), .int .i64 (S.ask a size need)]) ∧ w' = w := by
  obtain ⟨F, g, hF, L, o⟩ := h
  exact Load_c o a size need ha
theorem Perm_b (h : HasB w0 w mb N S P) (a : Int) (ha : U4 a) :
    Calls Tryd.prog 30 #[.pointer (some ⟨mb, 0, none⟩), .int .u32 a] w fun e w' => e = .returned (.tuple #[.int .i64 (S.permOf a), .bool (S.pg (a / 256)).isSome]) ∧ w' = w := by
  obtain ⟨F, g, hF, L, o⟩ := h
  exact Perm_c o a ha
theorem Pages_b (h : HasB w0 w mb N S P) :
    Calls Tryd.prog 29 #[.pointer (some ⟨mb, 0, none⟩)] w fun e w' => e = .returned (.slice (some ⟨w.heap.size, 0, none⟩) S.th.length S.th.length) ∧ HasB w0 w' mb N S P ∧ Bw w w' := by
  have h' := h
  obtain ⟨F, g, hF, L, o⟩ := h
  exact (Pages_c o).mono (fun e w' ⟨h1, h2, h3⟩ => ⟨h1, h'.on h2.b, h2.b⟩)
end
end Go.Proofs.YtbackacbdfgdoaaDoor
namespace Go.Proofs.YtbackacbdfgdoaaDoor
open Go.ChangeShapes Go.WideShapes Go.ChangeAt Go.RowKit

theorem run_append_none {e sz bytes : Nat} {z : Value} {t ty : TypeId} (hinf : (Tryd.prog.info? e).map (fun i => (i.zero, i.size, i.bytes)) = some (some z, sz, bytes)) (ht : Tryd.prog.underlying t = some (.slice e))
    {w0 wr : World} {v : Value} {n : Nat} {cs : List Value} (hown : OwnR e sz w0 wr v n cs) (c : Nat) : (Builtin.append_ #[t, t] ty #[v, .slice none 0 c]).run Tryd.prog wr = .ok v wr := by
  obtain ⟨i, hi, he⟩ := Option.map_eq_some_iff.1 hinf
  rcases hown.2 with ⟨rfl, rfl⟩ | ⟨g, cap, cur, rfl, hbg, hg, hnc, hcm, hcs, htake⟩
  · simp [Builtin.append_, run_underlying ht, sizeOf, typeInfo, hi, Builtin.lenOf, Builtin.firstCells]
  · simp [Builtin.append_, run_underlying ht, sizeOf, typeInfo, hi, Builtin.lenOf, hnc, Builtin.firstCells, storeCells]
theorem appS {e sz bytes : Nat} {z : Value} {t ty : TypeId} (hinf : (Tryd.prog.info? e).map (fun i => (i.zero, i.size, i.bytes)) = some (some z, sz, bytes)) (ht : Tryd.prog.underlying t = some (.slice e)) (hzs : z.cells.size = sz) (hsz : 0 < sz) (hby : bytes ≤ 100)
    {w0 wr : World} {v : Value} {n : Nat} {cs : List Value} (hown : OwnR e sz w0 wr v n cs) (hbw : Bw w0 wr) {x : Value} {m : Nat} {ds : List Value} (hx : RdR sz wr x m ds) (h1 : ∀ u ∈ ds, u.oneCell' = true) (hn : n + m ≤ 1000000) :
    ∃ v' w', (Builtin.append_ #[t, t] ty #[v, x]).run Tryd.prog wr = .ok v' w' ∧ OwnR e sz w0 w' v' (n + m) (cs ++ ds) ∧ Bw w0 w' := by
  obtain ⟨q, cap, rfl, h2, h3, h4, h5⟩ := hx
  cases q with
  | none =>
    have hm : m = 0 := Nat.eq_zero_of_not_pos (fun h => by obtain ⟨b, o, h6, _⟩ := h5 h; simp at h6)
    subst hm
    have hd : ds = [] := List.eq_nil_of_length_eq_zero (by simpa using h4)
    subst hd
    exact ⟨v, wr, run_append_none hinf ht hown cap, by simpa using hown, hbw⟩
  | some a =>
    refine appR hinf ht hzs hsz hby hown hbw a m cap ds h4 (fun j u hu => ?_) h1 hn
    have hm : 0 < m := Nat.pos_of_ne_zero (fun h => by rw [h, Nat.zero_mul] at h4; rw [List.eq_nil_of_length_eq_zero h4] at hu; simp at hu)
    obtain ⟨b, o, h6, _, h8⟩ := h5 hm
    simp at h6
    subst h6
    rw [Addr.add_lit]; exact h8 j u hu
/-- An empty slice that the call makes. -/
theorem OwnR.empty (e sz : Nat) {w0 w : World} (h : w0.heap.size ≤ w.heap.size) : OwnR e sz w0 (w.alloc (.cells #[] e)) (.slice (some ⟨w.heap.size, 0, none⟩) 0 0) 0 [] :=
  ⟨by simp, Or.inr ⟨w.heap.size, 0, #[], rfl, h, heap_alloc_new w _, Nat.le_refl _, by decide, by simp, by simp⟩⟩
end Go.Proofs.YtbackacbdfgdoaaDoor
namespace Go.Proofs.YtbackacbdfgdoaaDoor
open Go.ChangeShapes Go.WideShapes Go.ChangeAt Go.RowKit
set_option linter.unusedSimpArgs false

def Fee.w4 (x : Int) : List Int := [x % 256, x / 256 % 256, x / 65536 % 256, x / 16777216]
def Fee.sb (s : ByteArray) : List Int := s.data.toList.map fun b => (b.toNat : Int)
def Fee.txt (l : List Int) : List Int := Fee.w4 l.length ++ l
def Fee.argB (s : ByteArray) : List Int := Fee.txt (Fee.sb s)
theorem Fee.w4_len (x : Int) : (Fee.w4 x).length = 4 := rfl
theorem Fee.sb_len (s : ByteArray) : (Fee.sb s).length = s.size := by unfold Fee.sb; rw [List.length_map]; exact Array.length_toList
theorem Fee.txt_len (l : List Int) : (Fee.txt l).length = 4 + l.length := by unfold Fee.txt; rw [List.length_append, Fee.w4_len]
theorem Fee.sb_of {l : List Int} (h : B8s l) : Fee.sb (strOfNums l) = l := by
  unfold Fee.sb strOfNums
  simp only [List.map_map]
  conv => rhs; rw [← List.map_id l]
  apply List.map_congr_left
  intro x hx
  obtain ⟨a, b⟩ := h x hx
  simp
  omega
theorem str_sb (s : ByteArray) : strOfNums (Fee.sb s) = s := by
  apply ByteArray.ext
  unfold strOfNums Fee.sb
  simp only [List.map_map]
  have : ((fun n : Int => UInt8.ofNat n.toNat) ∘ fun b : UInt8 => (b.toNat : Int)) = id := by
    funext b
    simp
  rw [this, List.map_id]
theorem take_flat {α β : Type} (F : α → List β) {l : List α} {k : Nat} {x : α} (h : l[k]? = some x) : (l.take (k + 1)).flatMap F = (l.take k).flatMap F ++ F x := by
  rw [List.take_add_one, h]; simp
/-- Bytes of the call's own. -/
def P8 (w0 w : World) (v : Value) (l : List Int) : Prop := OwnR 5 1 w0 w v l.length (ints8 l)
theorem P8.nil (w0 w : World) : P8 w0 w (.slice none 0 0) [] := OwnR.nil _ _ _ _
theorem P8.own {w0 w : World} {v : Value} {l : List Int} (h : P8 w0 w v l) : Own8 w0 w v l := Own8.of h
theorem P8.le {w0 w1 w : World} {v : Value} {l : List Int} (h : P8 w1 w v l) (k : w0.heap.size ≤ w1.heap.size) : P8 w0 w v l := by
  obtain ⟨h1, h2⟩ := h
  refine ⟨h1, ?_⟩
  rcases h2 with h2 | ⟨b, cap, cur, h3, h4, h5⟩
  · exact Or.inl h2
  · exact Or.inr ⟨b, cap, cur, h3, Nat.le_trans k h4, h5⟩
theorem ints8_app (a b : List Int) : ints8 (a ++ b) = ints8 a ++ ints8 b := by simp [ints8]
theorem P8.blk {w0 w : World} {v : Value} {l : List Int} (h : P8 w0 w v l) : ∀ j, v.ownBlock = some j → w0.heap.size ≤ j ∧ j < w.heap.size := fun j hj => by
  rcases h.2 with ⟨h2, _⟩ | ⟨b, cap, cur, h3, h4, h5, h6⟩
  · rw [h2] at hj; simp [Value.ownBlock] at hj
  · rw [h3] at hj; simp [Value.ownBlock] at hj; subst hj; exact ⟨h4, (Array.getElem?_eq_some_iff.1 h5).1⟩
theorem P8.row {w0 wr : World} {v : Value} {l : List Int} (hown : P8 w0 wr v l) (hbw : Bw w0 wr) (xs : List Int) (hn : l.length + xs.length ≤ 1000000) (c : Nat) :
    ∃ v' w', (Builtin.append_ #[38, 38] 38 #[v, .slice (some ⟨wr.heap.size, 0, none⟩) xs.length c]).run Tryd.prog (wr.alloc (.cells (ints8 xs).toArray 5)) = .ok v' w' ∧ P8 w0 w' v' (l ++ xs) ∧ Bw w0 w' ∧ Ap wr w' v v' := by
  obtain ⟨i, hi, he⟩ := Option.map_eq_some_iff.1 info8
  simp only [Prod.mk.injEq] at he
  obtain ⟨hz, hs, hb⟩ := he
  have hoA := OwnR.bw hown ((Bw.refl wr).alloc (.cells (ints8 xs).toArray 5))
  have hbA := hbw.alloc (.cells (ints8 xs).toArray 5)
  obtain ⟨v', w', hr, ho, hg, -, hloc⟩ := run_append_own_at (P := Tryd.prog) (w := wr.alloc (.cells (ints8 xs).toArray 5)) w0.heap.size 38 38 5 i (.int .u8 0) 1 1 Tryd.underlying38 hi hz hs hb rfl (by omega) v l.length (ints8 l) hoA ⟨wr.heap.size, 0, none⟩ xs.length c (ints8 xs) (by simp [ints8]) (cell_new wr (ints8 xs) 5) (fun u hu => by simp [ints8] at hu; obtain ⟨x, _, rfl⟩ := hu; rfl) (by unfold maxLen; omega) (by omega) hbA.size
  have hA : Ap wr w' v v' := (Ap.refl wr v).alloc (.cells (ints8 xs).toArray 5) |>.trans ⟨⟨hg.os, hg.tape, hg.output, hg.size, fun k hk => by omega⟩, fun k hk hkn => hg.block k hk (fun e => hkn e.symm), by
    rcases hloc with h | h
    · exact Or.inl h
    · exact Or.inr ⟨_, Nat.le_refl _, h⟩⟩
  exact ⟨v', w', hr, by unfold P8; rw [List.length_append, ints8_app]; exact ho, hA.toBw hbw (fun k hk => (hown.blk k hk).1), hA⟩
theorem P8.str {w0 wr : World} {v : Value} {l : List Int} (hown : P8 w0 wr v l) (hbw : Bw w0 wr) (s : ByteArray) (hn : l.length + s.size ≤ 1000000) :
    ∃ v' w', (Builtin.append_ #[38, 9] 38 #[v, .string s]).run Tryd.prog wr = .ok v' w' ∧ P8 w0 w' v' (l ++ Fee.sb s) ∧ Bw w0 w' ∧ ∀ k, k < wr.heap.size → v.ownBlock ≠ some k → w'.heap[k]? = wr.heap[k]? := by
  obtain ⟨i, hi, he⟩ := Option.map_eq_some_iff.1 info8
  simp only [Prod.mk.injEq] at he
  obtain ⟨hz, hs, hb⟩ := he
  obtain ⟨v', w', hr, ho, hg, _⟩ := Lib.run_append_own_string (P := Tryd.prog) (w := wr) w0.heap.size 38 9 38 5 i Tryd.underlying38 Tryd.underlying9 hi hz hs hb v l.length (ints8 l) hown s (by unfold maxLen; omega) (by omega) hbw.size
  refine ⟨v', w', hr, ?_, Below.grown hbw hg hbw.size (fun k hk => ?_), fun k hk hkn => hg.block k hk (fun e => hkn e.symm)⟩
  · unfold P8 OwnR
    rw [List.length_append, Fee.sb_len, ints8_app]
    have e : ints8 (Fee.sb s) = Lib.strCells s := by
      unfold ints8 Fee.sb Lib.strCells
      rw [List.map_map]
      rfl
    rw [e]
    exact ho
  · obtain ⟨h1, h2⟩ := hown
    rcases h2 with ⟨h2, _⟩ | ⟨b, cap, cur, h3, h4, h5, h6⟩
    · rw [h2] at hk; simp [Value.ownBlock] at hk
    · rw [h3] at hk; simp [Value.ownBlock] at hk; omega
theorem wpApp2 {P : Program} {w w' : World} {ops : Array Oper} {rest : List Oper} {o : Oper} {a : Act} {Q : Exit → Act → World → Prop} (hgd : o.guard = none) (s x : Operand) (t t2 : TypeId)
    (ho : o.op = .call { callee := .builtin .append, args := #[s, x], argTypes := #[t, t2] }) {v xv v' : Value} (hs : a.eval s = v) (hx : a.eval x = xv)
    (hr : (Builtin.append_ #[t, t2] o.type #[v, xv]).run P w = .ok v' w') (h : wpList P ops Q rest (a.put o.dst v') w') : wpList P ops Q (o :: rest) a w := by
  refine wpList_plain hgd fun K hK => ?_
  unfold Oper.wp execOp
  simp only [ho, resolve, invoke, builtin, Sem.run_bind, Sem.run_pure, Result.andThen_ok, List.map_toArray, List.map_cons, List.map_nil, hs, hx, hr]
  exact hK _ _ h
/-- append(x, y...), y whatever can be read. -/
theorem P8.all {w0 wr : World} {v x : Value} {l xs : List Int} (hown : P8 w0 wr v l) (hbw : Bw w0 wr) (hx : Rd8 wr x xs) (hn : l.length + xs.length ≤ 1000000) :
    ∃ v' w', (Builtin.append_ #[38, 38] 38 #[v, x]).run Tryd.prog wr = .ok v' w' ∧ P8 w0 w' v' (l ++ xs) ∧ Bw w0 w' := by
  obtain ⟨v', w', h1, h2, h3⟩ := appS (ty := 38) info8 Tryd.underlying38 rfl (by omega) (by omega) hown hbw hx (fun u hu => by simp [ints8] at hu; obtain ⟨y, _, rfl⟩ := hu; rfl) hn
  exact ⟨v', w', h1, by unfold P8; rw [List.length_append, ints8_app]; exact h2, h3⟩
end Go.Proofs.YtbackacbdfgdoaaDoor
namespace Go.Proofs.YtbackacbdfgdoaaDoor
open Go.ChangeShapes Go.WideShapes Go.ChangeAt Go.RowKit
set_option linter.unusedVariables false

theorem Bq.sets {pb : Nat} : ∀ (vs : List Value) (o : Nat) {a b : World}, Bq pb a b → Bq pb a (b.setCells pb o vs)
  | [], _, _, _, h => h
  | v :: r, o, _, _, h => Bq.sets r (o + 1) (h.set o v)
theorem Box.there {w : World} {b : Nat} {l : List Value} (h : Box w b l) : w.there b 0 l.length := fun j hj => by
  rw [Nat.zero_add]
  exact ⟨by rw [h.c j _ (List.getElem?_eq_getElem hj)]; rfl, h.f j hj⟩
theorem Box.range {w : World} {b : Nat} {l : List Value} (h : Box w b l) : w.rangeAt b 0 l := fun j v hv => by rw [Nat.zero_add]; exact h.c j v hv
theorem Box.sets {w : World} {b : Nat} {l l' : List Value} (h : Box w b l) (e : l'.length = l.length) : Box (w.setCells b 0 l') b l' := by
  have ht : w.there b 0 l'.length := by rw [e]; exact h.there
  refine ⟨fun j v hv => ?_, fun j hj => ?_⟩
  · have := World.rangeAt_setCells_same w b 0 l' ht j v hv
    rwa [Nat.zero_add] at this
  · rw [World.frozen?_setCells]; exact h.f j (by omega)
/-- A whole value written into a box: a plain region's list. -/
theorem wpStoreBox {P : Program} {ops : Array Oper} {rest : List Oper} {op : Oper} {a : Act} {w : World} {Q : Exit → Act → World → Prop} (hgd : op.guard = none) (ty : TypeId) (x y : Operand) (ho : op.op = .store ty x y)
    (b : Nat) {l l' : List Value} (hx : a.eval x = .pointer (some ⟨b, 0, none⟩)) (hy : a.eval y = .agg l'.toArray) (hb : Box w b l) (e : l'.length = l.length) (hi : (P.info? ty).map (·.size) = some l'.length) (h1 : ∀ v ∈ l', v.oneCell' = true)
    (h : ∀ w', Box w' b l' → Bq b w w' → wpList P ops Q rest (a.put op.dst undef) w') : wpList P ops Q (op :: rest) a w :=
  wpList_store_mid hgd ty x y ho b 0 l'.toArray hx hy (by simpa [e] using hb.there) (by simpa using hi) (all_oneCell_toArray h1) (h _ (hb.sets e) (Bq.sets l' 0 (Bq.refl b w)))
/-- The same, when it comes up in a drawn region. -/
theorem stepStoreBox {P : Program} {ops : Array Oper} {op : Oper} {a : Act} {w : World} {K : Act → World → Prop} {Q : Exit → Act → World → Prop} {E : Prop} (hgd : op.guard = none) (ty : TypeId) (x y : Operand) (ho : op.op = .store ty x y)
    (b : Nat) {l l' : List Value} (hx : a.eval x = .pointer (some ⟨b, 0, none⟩)) (hy : a.eval y = .agg l'.toArray) (hb : Box w b l) (e : l'.length = l.length) (hi : (P.info? ty).map (·.size) = some l'.length) (h1 : ∀ v ∈ l', v.oneCell' = true)
    (h : ∀ w', Box w' b l' → Bq b w w' → K (a.put op.dst undef) w') : if Region.wanted op (yielded ops a.tmps) = true then Oper.wp P op a w K Q else E := by
  have hw : Region.wanted op (yielded ops a.tmps) = true := by simp [Region.wanted, hgd]
  rw [if_pos hw]
  exact wp_store_mid ty x y ho b 0 l'.toArray hx hy (by simpa [e] using hb.there) (by simpa using hi) (all_oneCell_toArray h1) (h _ (hb.sets e) (Bq.sets l' 0 (Bq.refl b w)))
/-- A whole value read out of a box. -/
theorem wpLoadBox {P : Program} {ops : Array Oper} {rest : List Oper} {op : Oper} {a : Act} {w : World} {Q : Exit → Act → World → Prop} (hgd : op.guard = none) (ty : TypeId) (x : Operand) (ho : op.op = .load ty x)
    (b : Nat) {l : List Value} {d : TypeDesc} (hx : a.eval x = .pointer (some ⟨b, 0, none⟩)) (hb : Box w b l) (hu : P.underlying ty = some d) (hd : d.isRow = true) (hi : (P.info? ty).map (·.size) = some l.length)
    (h : wpList P ops Q rest (a.put op.dst (.agg l.toArray)) w) : wpList P ops Q (op :: rest) a w :=
  wpList_load_mid hgd ty x ho b 0 hx l d hb.range hu hd hi h
theorem stepLoadBox {P : Program} {ops : Array Oper} {op : Oper} {a : Act} {w : World} {K : Act → World → Prop} {Q : Exit → Act → World → Prop} {E : Prop} (hgd : op.guard = none) (ty : TypeId) (x : Operand) (ho : op.op = .load ty x)
    (b : Nat) {l : List Value} {d : TypeDesc} (hx : a.eval x = .pointer (some ⟨b, 0, none⟩)) (hb : Box w b l) (hu : P.underlying ty = some d) (hd : d.isRow = true) (hi : (P.info? ty).map (·.size) = some l.length)
    (h : K (a.put op.dst (.agg l.toArray)) w) : if Region.wanted op (yielded ops a.tmps) = true then Oper.wp P op a w K Q else E := by
  have hw : Region.wanted op (yielded ops a.tmps) = true := by simp [Region.wanted, hgd]
  rw [if_pos hw]
  exact wp_load_mid ty x ho b 0 hx l d hb.range hu hd hi h
theorem results_two {P : Program} {fn : Func} {p1 p2 : Tmp} {t1 t2 : TypeId} (h : fn.results = #[.cell p1 t1, .cell p2 t2]) (tmps : Array Value) (w : World) (g1 g2 : Nat) (l1 l2 : List Value) {d1 d2 : TypeDesc}
    (hp1 : tmps.getD p1 undef = .pointer (some ⟨g1, 0, none⟩)) (hp2 : tmps.getD p2 undef = .pointer (some ⟨g2, 0, none⟩)) (h1 : Box w g1 l1) (h2 : Box w g2 l2)
    (hu1 : P.underlying t1 = some d1) (hd1 : d1.isRow = true) (hi1 : (P.info? t1).map (·.size) = some l1.length) (hu2 : P.underlying t2 = some d2) (hd2 : d2.isRow = true) (hi2 : (P.info? t2).map (·.size) = some l2.length) :
    (results fn tmps).run P w = .ok (.tuple #[.agg l1.toArray, .agg l2.toArray]) w := by
  have hp1' : tmps[p1]?.getD undef = .pointer (some ⟨g1, 0, none⟩) := by simpa using hp1
  have hp2' : tmps[p2]?.getD undef = .pointer (some ⟨g2, 0, none⟩) := by simpa using hp2
  have r1 := run_loadVar_mid (P := P) w g1 0 t1 l1 d1 h1.range hu1 hd1 hi1
  have r2 := run_loadVar_mid (P := P) w g2 0 t2 l2 d2 h2.range hu2 hd2 hi2
  simp [results, h, hp1', hp2', asAddr, r1, r2]
theorem one5 {a b c d : Int} {e : Int} : ∀ v ∈ [Value.int .i64 a, .int .i64 b, .int .i64 c, .int .i64 d, .int .i32 e], v.oneCell' = true := by
  intro v hv; simp at hv; rcases hv with rfl | rfl | rfl | rfl | rfl <;> rfl
theorem one3e {a b c : Int} : ∀ v ∈ [Value.int .i64 a, .int .u32 b, .int .i64 c], v.oneCell' = true := by
  intro v hv; simp at hv; rcases hv with rfl | rfl | rfl <;> rfl
end Go.Proofs.YtbackacbdfgdoaaDoor
