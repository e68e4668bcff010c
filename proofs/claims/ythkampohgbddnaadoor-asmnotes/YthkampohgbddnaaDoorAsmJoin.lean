/- PLAIN MATHEMATICS OF LAYER 6: instructions' texts, a line each, come to their words. -/
import Derived.Test.YthkampohgbddnaaDoorAsmAllW
import Derived.Test.YthkampohgbddnaaDoorAsmLawBack
import Derived.Laws.BytesArg
namespace Go.Proofs.YthkampohgbddnaaDoor
open Go.ChangeShapes Go.WideShapes Go.ChangeAt Go.RowKit
namespace Asm
open Go.Lib

theorem nm_b2 : ∀ a, a < 50 → (Rv.nmT.getD a []).all (fun b => b != 10 && b != 35) = true := by decide +kernel
theorem nm_word : ∀ a, a < 50 → Rv.nmT.getD a [] ≠ wordName := by decide +kernel
def clean (b : UInt8) : Prop := b ≠ 10 ∧ b ≠ 35
theorem itoa_clean (n : Int) : ∀ b ∈ itoa n, clean b := by
  intro b hb
  rcases itoa_b n b hb with rfl | h
  · exact ⟨by decide, by decide⟩
  · have := isD_bd h
    exact ⟨by rintro rfl; simp at this, by rintro rfl; simp at this⟩
theorem ptext_clean (i : Rv.Ins) (p : UInt8) (hp : clean p) : ∀ b ∈ ptext i p, clean b := by
  unfold ptext
  have hx : clean 120 := ⟨by decide, by decide⟩
  intro b hb
  (repeat' split at hb)
  · simp at hb; rcases hb with rfl | hb; exact hx; exact itoa_clean _ b hb
  · simp at hb; rcases hb with rfl | hb; exact hx; exact itoa_clean _ b hb
  · simp at hb; rcases hb with rfl | hb; exact hx; exact itoa_clean _ b hb
  · exact itoa_clean _ b hb
  · exact itoa_clean _ b hb
  · simp at hb; rcases hb with rfl | rfl <;> exact ⟨by decide, by decide⟩
  · simp at hb; subst hb; exact hp
theorem gtext_clean {i : Rv.Ins} (h : Rv.good i) : ∀ b ∈ gtext i, clean b := by
  intro b hb
  unfold gtext at hb
  rw [List.mem_append, List.mem_append] at hb
  rcases hb with hb | hb | hb
  · have := List.all_eq_true.1 (nm_b2 i.op.toNat (by have := h.1; omega)) b hb
    simp at this; exact this
  · split at hb
    · simp at hb
    · simp at hb; subst hb; exact ⟨by decide, by decide⟩
  · unfold ptexts at hb
    rw [List.mem_flatMap] at hb
    obtain ⟨p, hp, hb⟩ := hb
    refine ptext_clean i p ?_ b hb
    have := (shape_b i.op).2 p hp
    simp only [List.mem_cons, List.not_mem_nil, or_false] at this
    rcases this with rfl | rfl | rfl | rfl | rfl | rfl | rfl | rfl <;> exact ⟨by decide, by decide⟩
theorem upto_all {c : UInt8} {l r : List UInt8} (h : ∀ b ∈ l, b ≠ c) : upto c (l ++ c :: r) = l ∧ past c (l ++ c :: r) = r := by
  induction l with
  | nil => simp [upto, past]
  | cons a l ih =>
    have ha : (a != c) = true := by simpa using h a (by simp)
    obtain ⟨h1, h2⟩ := ih (fun b hb => h b (by simp [hb]))
    unfold upto past at *
    simp only [List.cons_append, List.takeWhile_cons, List.dropWhile_cons, ha, if_true]
    exact ⟨by rw [h1], h2⟩
theorem upto_none {c : UInt8} {l : List UInt8} (h : ∀ b ∈ l, b ≠ c) : upto c l = l := by
  unfold upto
  induction l with
  | nil => rfl
  | cons a l ih =>
    have ha : (a != c) = true := by simpa using h a (by simp)
    rw [List.takeWhile_cons, if_pos ha, ih (fun b hb => h b (by simp [hb]))]
theorem lines_line {l r : List UInt8} (h : ∀ b ∈ l, b ≠ 10) : lines (l ++ 10 :: r) = l :: lines r := by
  rw [lines_cut (by simp)]
  obtain ⟨h1, h2⟩ := upto_all (r := r) h
  rw [h1, h2]
theorem tok_gtext {i : Rv.Ins} (h : Rv.good i) : ∃ ts, tok (gtext i) = Rv.nmT.getD i.op.toNat [] :: ts := by
  have hop := h.1
  have he : ends ((if shape i.op = [] then [] else [32]) ++ ptexts i (shape i.op)) := by
    split
    · rename_i e; rw [e]; exact ends_nil
    · exact e32 _
  exact ⟨_, tok_name (k := i.op.toNat) (by omega) (by omega) he⟩
theorem lineW_gtext {i : Rv.Ins} (h : Rv.good i) (hm : -2147483648 ≤ i.imm ∧ i.imm < 2147483648) : lineW (tok (gtext i)) = (Rv.enc i, 0) := by
  have hop := h.1
  obtain ⟨ts, ht⟩ := tok_gtext h
  unfold lineW
  rw [if_neg (by rw [ht]; simpa using nm_word i.op.toNat (by omega)), parse_gtext h hm]
  simp [wrd]
/-- The texts of the first k, a line each; their words' bytes. -/
def texts (f : Nat → Rv.Ins) (k : Nat) : List UInt8 := (List.range k).flatMap fun i => gtext (f i) ++ [10]
def bytesL (f : Nat → Rv.Ins) (k : Nat) : List Int := (List.range k).flatMap fun i => le4 (Rv.enc (f i))
theorem texts_succ (f : Nat → Rv.Ins) (k : Nat) : texts f (k + 1) = texts f k ++ (gtext (f k) ++ [10]) := by simp [texts, List.range_succ]
theorem bytesL_succ (f : Nat → Rv.Ins) (k : Nat) : bytesL f (k + 1) = bytesL f k ++ le4 (Rv.enc (f k)) := by simp [bytesL, List.range_succ]
theorem bytesL_len (f : Nat → Rv.Ins) : ∀ k, (bytesL f k).length = 4 * k
  | 0 => rfl
  | k + 1 => by rw [bytesL_succ, List.length_append, bytesL_len f k]; simp [le4]; omega
def okI (i : Rv.Ins) : Prop := Rv.good i ∧ -2147483648 ≤ i.imm ∧ i.imm < 2147483648
theorem texts_len (f : Nat → Rv.Ins) : ∀ k, (∀ i, i < k → okI (f i)) → (texts f k).length ≤ 81 * k
  | 0, _ => by simp [texts]
  | k + 1, h => by
    have h1 := texts_len f k (fun i hi => h i (by omega))
    have h2 := gtext_len (h k (by omega)).1 (h k (by omega)).2
    rw [texts_succ]; simp; omega
theorem runL_append (g : List (List UInt8)) : ∀ (n : Int) (acc : List Int) (rest : List (List UInt8)) (ws : List Int), g.length = ws.length →
    (∀ (j : Nat) s w, g[j]? = some s → ws[j]? = some w → tok (upto 35 s) ≠ [] ∧ lineW (tok (upto 35 s)) = (w, 0)) →
    runL n (g ++ rest) acc = runL (n + g.length) rest (acc ++ ws.flatMap le4) := by
  induction g with
  | nil => intro n acc rest ws hl _; cases ws with | nil => simp | cons a t => simp at hl
  | cons s g ih =>
    intro n acc rest ws hl h
    cases ws with
    | nil => simp at hl
    | cons w ws =>
      obtain ⟨h1, h2⟩ := h 0 s w rfl rfl
      rw [List.cons_append, runL, if_neg h1, if_pos (by rw [h2]), h2, ih _ _ _ ws (by simpa using hl) (fun j s' w' hs hw => h (j + 1) s' w' hs hw)]
      simp only [List.flatMap_cons, List.append_assoc, List.length_cons]
      congr 1
      omega
theorem texts_lines (f : Nat → Rv.Ins) : ∀ k (r : List UInt8), (∀ i, i < k → okI (f i)) → lines (texts f k ++ r) = (List.range k).map (fun i => gtext (f i)) ++ lines r
  | 0, r, _ => by simp [texts]
  | k + 1, r, h => by
    rw [texts_succ, List.append_assoc, texts_lines f k _ (fun i hi => h i (by omega)), List.append_assoc, List.cons_append, List.nil_append,
      lines_line (fun b hb => (gtext_clean (h k (by omega)).1 b hb).1)]
    simp [List.range_succ]
theorem texts_count (f : Nat → Rv.Ins) : ∀ k, (∀ i, i < k → okI (f i)) → (texts f k).count 10 = k
  | 0, _ => by simp [texts]
  | k + 1, h => by
    have h1 := texts_count f k (fun i hi => h i (by omega))
    have h2 : (gtext (f k)).count 10 = 0 := List.count_eq_zero.2 (fun hb => (gtext_clean (h k (by omega)).1 10 hb).1 rfl)
    rw [texts_succ, List.count_append, h1, List.count_append, h2]; simp
theorem all_texts (f : Nat → Rv.Ins) (k : Nat) (hk : k ≤ 60) (h : ∀ i, i < k → okI (f i)) : all (texts f k) = (bytesL f k, 0, 0) := by
  have hl := texts_len f k h
  have hc : count (texts f k) ≤ 61 := by unfold count; rw [texts_count f k h]; split <;> omega
  unfold all
  rw [if_neg (by omega)]
  have e := texts_lines f k [] h
  rw [List.append_nil] at e
  rw [e, runL_append _ _ _ _ ((List.range k).map fun i => Rv.enc (f i)) (by simp)]
  · rw [lines_nil, runL]
    simp [bytesL, List.flatMap_map]
  · intro j s w hs hw
    rw [List.getElem?_map] at hs hw
    by_cases hj : j < k
    · rw [List.getElem?_range hj] at hs hw
      simp at hs hw
      subst hs hw
      have hg := h j hj
      rw [upto_none (fun b hb => (gtext_clean hg.1 b hb).2)]
      exact ⟨by obtain ⟨ts, ht⟩ := tok_gtext hg.1; rw [ht]; simp, lineW_gtext hg.1 hg.2⟩
    · rw [List.getElem?_eq_none (by simpa using hj)] at hs; simp at hs
end Asm
theorem conv8 {w0 w : World} {v : Value} {l : List Int} (h : Own8 w0 w v l) : (convert 30 9 v).run Tryd.prog w = .ok (.string (strOfNums l)) w := by
  obtain ⟨h1, h2⟩ := h
  rcases h2 with ⟨rfl, h3⟩ | ⟨g, cap, cur, rfl, hb, hc, h4, h5, h6, h7⟩
  · have : l = [] := List.eq_nil_of_length_eq_zero h3
    subst this
    exact run_convert_bytes_nil w 30 5 Tryd.underlying30 Tryd.underlying5 0 0 _ Tryd.underlying9
  · refine run_convert_bytes_arg w 30 5 Tryd.underlying30 Tryd.underlying5 g 0 l.length cap l rfl (fun i hi => ?_) _ Tryd.underlying9
    have h8 : (ints8 l)[i]? = some (.int .u8 (l.getD i 0)) := by simp [ints8, List.getD, List.getElem?_eq_getElem hi]
    rw [← h7, List.getElem?_take_of_lt (by omega)] at h8
    rw [Nat.zero_add]
    simp [World.cell?, hc] at h8 ⊢
    exact h8
end Go.Proofs.YthkampohgbddnaaDoor
