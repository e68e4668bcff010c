/- PLAIN MATHEMATICS OF LAYER 6: remarks and empty lines change nothing. -/
import Derived.Test.YthkampohgbddnaaDoorAsmJoin
namespace Go.Proofs.YthkampohgbddnaaDoor
namespace Asm

def noteP (f : Nat → Rv.Ins) (nt : List UInt8) (i : Nat) : List UInt8 := 10 :: (gtext (f i) ++ 35 :: (nt ++ [10]))
def notes (f : Nat → Rv.Ins) (nt : List UInt8) (k : Nat) : List UInt8 := (List.range k).flatMap (noteP f nt)
theorem notes_succ (f : Nat → Rv.Ins) (nt : List UInt8) (k : Nat) : notes f nt (k + 1) = notes f nt k ++ noteP f nt k := by simp [notes, List.range_succ]
theorem notes_len (f : Nat → Rv.Ins) (nt : List UInt8) (hn : nt.length ≤ 50) : ∀ k, (∀ i, i < k → okI (f i)) → (notes f nt k).length ≤ 133 * k
  | 0, _ => by simp [notes]
  | k + 1, h => by
    have h1 := notes_len f nt hn k (fun i hi => h i (by omega))
    have h2 := gtext_len (h k (by omega)).1 (h k (by omega)).2
    rw [notes_succ]; simp [noteP]; omega
theorem notes_count (f : Nat → Rv.Ins) (nt : List UInt8) (hn : ∀ b ∈ nt, b ≠ 10) : ∀ k, (∀ i, i < k → okI (f i)) → (notes f nt k).count 10 = 2 * k
  | 0, _ => by simp [notes]
  | k + 1, h => by
    have h1 := notes_count f nt hn k (fun i hi => h i (by omega))
    have h2 : (gtext (f k)).count 10 = 0 := List.count_eq_zero.2 (fun hb => (gtext_clean (h k (by omega)).1 10 hb).1 rfl)
    have h3 : nt.count 10 = 0 := List.count_eq_zero.2 (fun hb => hn 10 hb rfl)
    rw [notes_succ, List.count_append, h1]
    simp [noteP, h2, h3]; omega
theorem notes_run (f : Nat → Rv.Ins) (nt : List UInt8) (hn : ∀ b ∈ nt, b ≠ 10) (n : Int) : ∀ k (r : List UInt8) (acc : List Int), (∀ i, i < k → okI (f i)) →
    runL n (lines (notes f nt k ++ r)) acc = runL (n + 2 * k) (lines r) (acc ++ bytesL f k)
  | 0, r, acc, _ => by simp [notes, bytesL]
  | k + 1, r, acc, h => by
    have hg := h k (by omega)
    rw [notes_succ, List.append_assoc, notes_run f nt hn n k _ acc (fun i hi => h i (by omega))]
    have e1 : lines (noteP f nt k ++ r) = [] :: (gtext (f k) ++ 35 :: nt) :: lines r := by
      have : noteP f nt k ++ r = [] ++ 10 :: ((gtext (f k) ++ 35 :: nt) ++ 10 :: r) := by simp [noteP]
      rw [this, lines_line (by simp), lines_line]
      intro b hb
      rw [List.mem_append, List.mem_cons] at hb
      rcases hb with hb | rfl | hb
      · exact (gtext_clean hg.1 b hb).1
      · decide
      · exact hn b hb
    obtain ⟨ts, ht⟩ := tok_gtext hg.1
    have e2 : upto 35 (gtext (f k) ++ 35 :: nt) = gtext (f k) := (upto_all (fun b hb => (gtext_clean hg.1 b hb).2)).1
    have e0 : tok (upto 35 []) = [] := rfl
    rw [e1, runL, if_pos e0, runL, e2, if_neg (by rw [ht]; simp), lineW_gtext hg.1 hg.2, if_pos rfl, bytesL_succ, List.append_assoc]
    congr 1
    omega
theorem all_notes (f : Nat → Rv.Ins) (nt : List UInt8) (k : Nat) (hk : k ≤ 30) (hl : nt.length ≤ 50) (hn : ∀ b ∈ nt, b ≠ 10) (h : ∀ i, i < k → okI (f i)) : all (notes f nt k) = (bytesL f k, 0, 0) := by
  have h1 := notes_len f nt hl k h
  have hc : count (notes f nt k) ≤ 61 := by unfold count; rw [notes_count f nt hn k h]; split <;> omega
  unfold all
  rw [if_neg (by omega)]
  have e := notes_run f nt hn 1 k [] [] h
  rw [List.append_nil, List.nil_append, lines_nil, runL] at e
  exact e
def what : List UInt8 := [119, 104, 97, 116]
theorem all_what (f : Nat → Rv.Ins) (nt : List UInt8) (k : Nat) (hk : k ≤ 30) (hl : nt.length ≤ 50) (hn : ∀ b ∈ nt, b ≠ 10) (h : ∀ i, i < k → okI (f i)) : all (notes f nt k ++ what) = ([], 1 + 2 * (k : Int), 7) := by
  have h1 := notes_len f nt hl k h
  have hc : count (notes f nt k ++ what) ≤ 61 := by
    unfold count
    rw [List.count_append, notes_count f nt hn k h]
    have : what.count 10 = 0 := by decide
    split <;> omega
  have hlw : (notes f nt k ++ what).length ≤ 4000 := by rw [List.length_append]; have : what.length = 4 := rfl; omega
  unfold all
  rw [if_neg (by omega), notes_run f nt hn 1 k what [] h]
  have e : ∀ (n : Int) (acc : List Int), runL n (lines what) acc = ([], n, 7) := by
    intro n acc
    have e1 : lines what = [what] := by decide
    have e2 : upto 35 what = what := by decide
    have e3 : tok what = [what] := by decide
    have e4 : lineW [what] = (0, 7) := by decide +kernel
    rw [e1, runL, e2, e3, e4]
    rfl
  exact e _ _
end Asm
end Go.Proofs.YthkampohgbddnaaDoor
