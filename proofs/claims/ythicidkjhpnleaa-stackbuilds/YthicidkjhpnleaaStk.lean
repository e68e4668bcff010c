/- LAYER 10, plain: a program's first stack: where the texts lie, its bytes, its words. -/
import Derived.Test.YthicidkjhpnleaaP8
import Derived.Test.YthicidkjhpnleaaNul
import Derived.Test.YthicidkjhpnleaaAppC
namespace Go.Proofs.Ythicidkjhpnleaa
open Go.ChangeShapes Go.WideShapes Go.ChangeAt Go.RowKit

/-- xs written over b from place o on. -/
def ovr (b : List Int) (o : Nat) (xs : List Int) : List Int := b.take o ++ xs ++ b.drop (o + xs.length)
theorem ovr_len {b : List Int} {o : Nat} {xs : List Int} (h : o + xs.length ≤ b.length) : (ovr b o xs).length = b.length := by
  unfold ovr
  simp only [List.length_append, List.length_take, List.length_drop]
  omega
theorem ovr_in {b : List Int} {o : Nat} {xs : List Int} (h : o + xs.length ≤ b.length) {j : Nat} (hj : j < xs.length) : (ovr b o xs)[o + j]? = xs[j]? := by
  unfold ovr
  rw [List.append_assoc, List.getElem?_append_right (by rw [List.length_take]; omega), List.length_take, Nat.min_eq_left (by omega), show o + j - o = j by omega, List.getElem?_append_left hj]
theorem ovr_out {b : List Int} {o : Nat} {xs : List Int} (h : o + xs.length ≤ b.length) {j : Nat} (hj : j < o ∨ o + xs.length ≤ j) : (ovr b o xs)[j]? = b[j]? := by
  unfold ovr
  rcases hj with hj | hj
  · rw [List.append_assoc, List.getElem?_append_left (by rw [List.length_take]; omega), List.getElem?_take_of_lt hj]
  · rw [List.getElem?_append_right (by rw [List.length_append, List.length_take]; omega), List.length_append, List.length_take, Nat.min_eq_left (by omega), List.getElem?_drop]
    congr 1; omega
theorem ovr_app {b : List Int} {o : Nat} {xs ys : List Int} (h : o + xs.length + ys.length ≤ b.length) : ovr (ovr b o xs) (o + xs.length) ys = ovr b o (xs ++ ys) := by
  have h1 : (ovr b o xs).length = b.length := ovr_len (by omega)
  apply List.ext_getElem?
  intro j
  by_cases h2 : o + xs.length ≤ j ∧ j < o + xs.length + ys.length
  · obtain ⟨i, rfl⟩ : ∃ i, j = o + xs.length + i := ⟨j - (o + xs.length), by omega⟩
    rw [ovr_in (by omega) (by omega), Nat.add_assoc, ovr_in (by rw [List.length_append]; omega) (by rw [List.length_append]; omega), List.getElem?_append_right (by omega)]
    congr 1; omega
  · rw [ovr_out (by omega) (by omega)]
    by_cases h3 : o ≤ j ∧ j < o + xs.length
    · obtain ⟨i, rfl⟩ : ∃ i, j = o + i := ⟨j - o, by omega⟩
      rw [ovr_in (by omega) (by omega), ovr_in (by rw [List.length_append]; omega) (by rw [List.length_append]; omega), List.getElem?_append_left (by omega)]
    · rw [ovr_out (by omega) (by omega), ovr_out (by rw [List.length_append]; omega) (by rw [List.length_append]; omega)]
theorem ovr_nil (b : List Int) (o : Nat) : ovr b o [] = b := by unfold ovr; simp
theorem ovr_b8 {b : List Int} {o : Nat} {xs : List Int} (h : B8s b) (k : B8s xs) : B8s (ovr b o xs) :=
  (B8s.app (fun x hx => h x (List.mem_of_mem_take hx)) k).app (fun x hx => h x (List.mem_of_mem_drop hx))
def Stk.room : List ByteArray → Nat
  | [] => 0
  | s :: r => s.size + 1 + Stk.room r
theorem Stk.room_cons (s : ByteArray) (r : List ByteArray) : Stk.room (s :: r) = s.size + 1 + Stk.room r := rfl
def Stk.sum : List ByteArray → Nat
  | [] => 0
  | s :: r => s.size + Stk.sum r
theorem Stk.room_sum (l : List ByteArray) : Stk.room l = l.length + Stk.sum l := by
  induction l with
  | nil => rfl
  | cons s r ih => unfold Stk.room Stk.sum; rw [ih, List.length_cons]; omega
/-- Where each lies from o on, and how long it is. -/
def Stk.pls (o : Nat) : List ByteArray → List (Nat × Nat)
  | [] => []
  | s :: r => (o, s.size) :: Stk.pls (o + s.size + 1) r
theorem Stk.pls_len (l : List ByteArray) : ∀ o, (Stk.pls o l).length = l.length := by
  induction l with
  | nil => intro o; rfl
  | cons s r ih => intro o; unfold Stk.pls; rw [List.length_cons, ih, List.length_cons]
/-- The texts, laid from o on. -/
def Stk.txs (b : List Int) (o : Nat) : List ByteArray → List Int
  | [] => b
  | s :: r => Stk.txs (ovr b o (Fee.sb s)) (o + s.size + 1) r
/-- Words, laid from o on. -/
def Stk.nms (b : List Int) (o : Nat) : List Int → List Int
  | [] => b
  | x :: r => Stk.nms (ovr b o (Fee.w4 x)) (o + 4) r
theorem Stk.txs_len (l : List ByteArray) : ∀ b o, o + Stk.room l ≤ b.length → (Stk.txs b o l).length = b.length := by
  induction l with
  | nil => intro b o _; rfl
  | cons s r ih =>
    intro b o h
    unfold Stk.room at h
    have hl := Fee.sb_len s
    unfold Stk.txs
    have h1 : (ovr b o (Fee.sb s)).length = b.length := ovr_len (by omega)
    rw [ih _ _ (by omega), h1]
theorem Stk.nms_len (l : List Int) : ∀ b o, o + 4 * l.length ≤ b.length → (Stk.nms b o l).length = b.length := by
  induction l with
  | nil => intro b o _; rfl
  | cons x r ih =>
    intro b o h
    rw [List.length_cons] at h
    unfold Stk.nms
    have h1 : (ovr b o (Fee.w4 x)).length = b.length := ovr_len (by rw [Fee.w4_len]; omega)
    rw [ih _ _ (by omega), h1]
theorem Stk.nms_eq (l : List Int) : ∀ b o, o + 4 * l.length ≤ b.length → Stk.nms b o l = ovr b o (l.flatMap Fee.w4) := by
  induction l with
  | nil => intro b o _; exact (ovr_nil b o).symm
  | cons x r ih =>
    intro b o h
    rw [List.length_cons] at h
    have h1 : (ovr b o (Fee.w4 x)).length = b.length := ovr_len (by rw [Fee.w4_len]; omega)
    unfold Stk.nms
    rw [ih _ _ (by omega), List.flatMap_cons]
    have h2 : (r.flatMap Fee.w4).length = r.length * 4 := chunk_len Fee.w4 4 Fee.w4_len r
    have := ovr_app (b := b) (o := o) (xs := Fee.w4 x) (ys := r.flatMap Fee.w4) (by rw [Fee.w4_len]; omega)
    rw [Fee.w4_len] at this
    exact this
def Stk.first (l : List ByteArray) : Nat := 4096 - Stk.room l
def Stk.sp (l : List ByteArray) : Nat := (Stk.first l - 4 * (l.length + 3)) / 16 * 16
def Stk.words (l : List ByteArray) : List Int := (l.length : Int) :: (Stk.pls (Stk.first l) l).map fun p => 2147475456 + (p.1 : Int)
def Stk.bytes (l : List ByteArray) : List Int := Stk.nms (Stk.txs (List.replicate 4096 0) (Stk.first l) l) (Stk.sp l) (Stk.words l)
def Stk.err (l : List ByteArray) : Nat := if 16 < l.length ∨ l.any Fee.nul = true then 1 else if 3000 < Stk.room l then 2 else 0
theorem Stk.words_len (l : List ByteArray) : (Stk.words l).length = l.length + 1 := by unfold Stk.words; rw [List.length_cons, List.length_map, Stk.pls_len]
theorem Stk.err_ok {l : List ByteArray} (h : Stk.err l = 0) : l.length ≤ 16 ∧ l.any Fee.nul = false ∧ Stk.room l ≤ 3000 := by
  unfold Stk.err at h
  by_cases h1 : 16 < l.length ∨ l.any Fee.nul = true
  · rw [if_pos h1] at h; omega
  · rw [if_neg h1] at h
    by_cases h2 : 3000 < Stk.room l
    · rw [if_pos h2] at h; omega
    · exact ⟨by omega, by cases hh : l.any Fee.nul; rfl; exact absurd (Or.inr hh) h1, by omega⟩
theorem Stk.bytes_len {l : List ByteArray} (h : Stk.err l = 0) : (Stk.bytes l).length = 4096 := by
  obtain ⟨h1, -, h2⟩ := Stk.err_ok h
  have h3 : (Stk.txs (List.replicate 4096 0) (Stk.first l) l).length = 4096 := by
    rw [Stk.txs_len _ _ _ (by rw [List.length_replicate]; unfold Stk.first; omega), List.length_replicate]
  unfold Stk.bytes
  rw [Stk.nms_len _ _ _ (by rw [h3, Stk.words_len]; unfold Stk.sp Stk.first; omega), h3]
theorem Stk.room_drop {l : List ByteArray} {k : Nat} {s : ByteArray} {r : List ByteArray} (h : l.drop k = s :: r) : Stk.room (l.drop k) = s.size + 1 + Stk.room r := by rw [h]; rfl
/-- The k-th place. -/
theorem Stk.pls_at (l : List ByteArray) : ∀ o k p, (Stk.pls o l)[k]? = some p → ∃ s, l[k]? = some s ∧ p = (o + Stk.room (l.take k), s.size) := by
  induction l with
  | nil => intro o k p h; simp [Stk.pls] at h
  | cons s r ih =>
    intro o k p h
    unfold Stk.pls at h
    cases k with
    | zero => simp at h; exact ⟨s, rfl, by rw [← h]; simp [Stk.room]⟩
    | succ k =>
      rw [List.getElem?_cons_succ] at h
      obtain ⟨s', h1, h2⟩ := ih _ _ _ h
      refine ⟨s', by rw [List.getElem?_cons_succ]; exact h1, ?_⟩
      rw [h2, List.take_succ_cons, Stk.room_cons]
      congr 1; omega
theorem Stk.room_take (l : List ByteArray) (k : Nat) : Stk.room (l.take k) + Stk.room (l.drop k) = Stk.room l := by
  induction l generalizing k with
  | nil => simp [Stk.room]
  | cons s r ih =>
    cases k with
    | zero => simp [Stk.room]
    | succ k => rw [List.take_succ_cons, List.drop_succ_cons, Stk.room_cons, Stk.room_cons]; have := ih k; omega
end Go.Proofs.Ythicidkjhpnleaa
