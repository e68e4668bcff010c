/- PLAIN MATHEMATICS OF LAYER 6: lines, and the words of all of them. -/
import Derived.Test.YthkampohgbddnaaDoorAsmW8
namespace Go.Proofs.YthkampohgbddnaaDoor
namespace Asm

/-- What stands ahead of the first c; what stands behind it. -/
def upto (c : UInt8) (l : List UInt8) : List UInt8 := l.takeWhile (fun b => b != c)
def past (c : UInt8) (l : List UInt8) : List UInt8 := (l.dropWhile (fun b => b != c)).drop 1
theorem past_nil (c : UInt8) : past c [] = [] := rfl
theorem past_lt (c : UInt8) {l : List UInt8} (h : l ≠ []) : (past c l).length < l.length := by
  have h1 : (l.dropWhile (fun b => b != c)).length ≤ l.length := by
    have := congrArg List.length (List.takeWhile_append_dropWhile (p := fun b => b != c) (l := l))
    rw [List.length_append] at this; omega
  have h2 : 0 < l.length := by cases l with | nil => exact absurd rfl h | cons a t => simp
  unfold past
  rw [List.length_drop]; omega
theorem upto_le (c : UInt8) (l : List UInt8) : (upto c l).length ≤ l.length := by
  have := congrArg List.length (List.takeWhile_append_dropWhile (p := fun b => b != c) (l := l))
  rw [List.length_append] at this
  show (l.takeWhile _).length ≤ _; omega
/-- The lines of a text: a byte 10 ends one. -/
def linesA : List UInt8 → List UInt8 → List (List UInt8)
  | cur, [] => fin cur
  | cur, b :: l => if b = 10 then cur :: linesA [] l else linesA (cur ++ [b]) l
def lines (l : List UInt8) : List (List UInt8) := linesA [] l
theorem linesA_cut (l : List UInt8) : ∀ cur, cur ++ l ≠ [] → linesA cur l = (cur ++ upto 10 l) :: lines (past 10 l) := by
  induction l with
  | nil => intro cur h; simp at h; simp [linesA, fin_ne h, upto, past, lines, fin_nil]
  | cons b l ih =>
    intro cur _
    by_cases hb : b = 10
    · subst hb; simp [linesA, upto, past, lines]
    · have h1 : (b != 10) = true := by simpa using hb
      rw [linesA, if_neg hb, ih (cur ++ [b]) (by simp)]
      simp [upto, past, h1]
theorem lines_cut {l : List UInt8} (h : l ≠ []) : lines l = upto 10 l :: lines (past 10 l) := by
  unfold lines
  rw [linesA_cut l [] (by simpa using h)]; rfl
theorem lines_nil : lines [] = [] := rfl
/-- A line's word, by its words: what stands behind 'word', or an instruction's. -/
def wordName : List UInt8 := [119, 111, 114, 100]
def plainW : List (List UInt8) → Int × Int
  | [t] => if numOk t = true ∧ 0 ≤ num t ∧ num t < 4294967296 then (num t, 0) else (0, 7)
  | _ => (0, 7)
def lineW (ts : List (List UInt8)) : Int × Int := if ts.head? = some wordName then plainW ts.tail else (wrd (parse ts), (parse ts).2)
/-- A word's four bytes, the lowest first. -/
def le4 (w : Int) : List Int := [w % 256, w / 256 % 256, w / 65536 % 256, w / 16777216]
/-- All lines from a line's number on: their bytes, or the line that is none and its error. -/
def runL : Int → List (List UInt8) → List Int → List Int × Int × Int
  | _, [], acc => (acc, 0, 0)
  | n, s :: ls, acc =>
    if tok (upto 35 s) = [] then runL (n + 1) ls acc
    else if (lineW (tok (upto 35 s))).2 = 0 then runL (n + 1) ls (acc ++ le4 (lineW (tok (upto 35 s))).1)
    else ([], n, (lineW (tok (upto 35 s))).2)
/-- How many lines. -/
def count (l : List UInt8) : Nat := l.count 10 + (if l ≠ [] ∧ l.getLast? ≠ some 10 then 1 else 0)
def all (l : List UInt8) : List Int × Int × Int := if 16384 < l.length ∨ 400 < count l then ([], 0, 2) else runL 1 (lines l) []
theorem lines_count (l : List UInt8) : ∀ cur, (linesA cur l).length ≤ l.count 10 + 1 := by
  induction l with
  | nil => intro cur; simp [linesA, fin]; split <;> simp
  | cons b l ih =>
    intro cur
    by_cases hb : b = 10
    · subst hb; simp [linesA]; exact ih []
    · rw [linesA, if_neg hb, List.count_cons_of_ne (by simpa using hb)]; exact ih _
theorem wrd_bd (x : Rv.Ins × Int) (h : x.2 = 0 → Rv.good x.1) : 0 ≤ wrd x ∧ wrd x < 4294967296 := by
  unfold wrd
  split
  · rename_i e
    have := Rv.enc_U32 (h e).1
    exact ⟨this.1, this.2⟩
  · omega
theorem parse_good (ts : List (List UInt8)) : (parse ts).2 = 0 → Rv.good (parse ts).1 := by
  intro h
  cases ts with
  | nil => simp [parse] at h
  | cons n ts =>
    rw [parse] at h ⊢
    by_cases e : opOf n = 0
    · rw [if_pos e] at h; simp at h
    · rw [if_neg e] at h ⊢
      unfold behind at h ⊢
      cases hp : parts (shape (opOf n)) ts ⟨opOf n, 0, 0, 0, 0⟩ true with
      | none => rw [hp] at h; simp at h
      | some x =>
        rw [hp] at h
        dsimp only at h ⊢
        unfold fine at h ⊢
        split
        · rename_i hg; simp at hg; exact (goodB_iff _).1 hg.1
        · rename_i hg; rw [if_neg hg] at h; simp at h
theorem parse_wrd (ts : List (List UInt8)) : 0 ≤ wrd (parse ts) ∧ wrd (parse ts) < 4294967296 := wrd_bd _ (parse_good ts)
theorem lineW_bd (ts : List (List UInt8)) : 0 ≤ (lineW ts).1 ∧ (lineW ts).1 < 4294967296 := by
  unfold lineW
  split
  · unfold plainW
    split
    · split
      · rename_i h; exact h.2
      · simp
    · simp
  · exact parse_wrd ts
end Asm
end Go.Proofs.YthkampohgbddnaaDoor
