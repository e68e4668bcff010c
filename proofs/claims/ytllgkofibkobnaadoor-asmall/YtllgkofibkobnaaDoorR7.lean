/- PLAIN MATHEMATICS OF LAYER 6 (texts): the words of a text, numbers in words; no Go in sight. -/
import Derived.Lib.ItoaNum
import Derived.Test.YtllgkofibkobnaaDoorR1
namespace Go.Proofs.YtllgkofibkobnaaDoor
namespace Asm
open Go.Lib

/-- The bytes that end a word: the blanks 32 and 9, the marks 44, 40, 41. -/
def bl (b : UInt8) : Bool := b == 32 || b == 9
def mk (b : UInt8) : Bool := b == 44 || b == 40 || b == 41
def st (b : UInt8) : Bool := bl b || mk b

def fin (cur : List UInt8) : List (List UInt8) := if cur = [] then [] else [cur]
/-- The words of a text behind what was read of one. -/
def tokA : List UInt8 → List UInt8 → List (List UInt8)
  | cur, [] => fin cur
  | cur, b :: l => if bl b then fin cur ++ tokA [] l else if mk b then fin cur ++ [b] :: tokA [] l else tokA (cur ++ [b]) l
def tok (l : List UInt8) : List (List UInt8) := tokA [] l

theorem fin_nil : fin [] = [] := rfl
theorem fin_ne {c : List UInt8} (h : c ≠ []) : fin c = [c] := by simp [fin, h]
theorem tok_nil : tok [] = [] := rfl
theorem tok_bl {b : UInt8} (l : List UInt8) (h : bl b = true) : tok (b :: l) = tok l := by simp [tok, tokA, h, fin_nil]
theorem mk_bl {b : UInt8} (h : mk b = true) : bl b = false := by
  simp [mk, bl] at *; rcases h with (rfl | rfl) | rfl <;> decide
theorem tok_mk {b : UInt8} (l : List UInt8) (h : mk b = true) : tok (b :: l) = [b] :: tok l := by simp [tok, tokA, h, mk_bl h, fin_nil]
theorem st_false {b : UInt8} (h : st b = false) : bl b = false ∧ mk b = false := by simpa [st] using h

/-- What is cut off at first: the blanks; the word; what stands behind it. -/
def trimB (l : List UInt8) : List UInt8 := l.dropWhile bl
def word (l : List UInt8) : List UInt8 := (trimB l).takeWhile (fun b => !st b)
def rest (l : List UInt8) : List UInt8 := (trimB l).dropWhile (fun b => !st b)

theorem tok_trim (l : List UInt8) : tok (trimB l) = tok l := by
  induction l with
  | nil => rfl
  | cons b l ih =>
    unfold trimB
    rw [List.dropWhile_cons]
    cases h : bl b
    · simp
    · simp only [if_true]; rw [tok_bl l h]; exact ih
theorem tokA_word (cur w r : List UInt8) (h : ∀ b ∈ w, st b = false) : tokA cur (w ++ r) = tokA (cur ++ w) r := by
  induction w generalizing cur with
  | nil => simp
  | cons b w ih =>
    have hb := st_false (h b (by simp))
    rw [List.cons_append, tokA, if_neg (by simp [hb.1]), if_neg (by simp [hb.2]), ih _ (fun x hx => h x (by simp [hx]))]
    simp
/-- What stands behind a word: nothing, or what ends it. -/
def ends (r : List UInt8) : Prop := ∀ b, r.head? = some b → st b = true
theorem tokA_ends (cur r : List UInt8) (hc : cur ≠ []) (h : ends r) : tokA cur r = cur :: tok r := by
  cases r with
  | nil => simp [tokA, tok, fin_ne hc, fin_nil]
  | cons b r =>
    have hb := h b rfl
    simp only [st, Bool.or_eq_true] at hb
    cases h1 : bl b
    · have h2 : mk b = true := by simpa [h1] using hb
      simp [tok, tokA, h1, h2, fin_ne hc, fin_nil]
    · simp [tok, tokA, h1, fin_ne hc, fin_nil]
theorem tok_word {w r : List UInt8} (hw : w ≠ []) (h : ∀ b ∈ w, st b = false) (hr : ends r) : tok (w ++ r) = w :: tok r := by
  unfold tok
  rw [tokA_word _ _ _ h, List.nil_append, tokA_ends _ _ hw hr]; rfl
theorem word_rest (l : List UInt8) : word l ++ rest l = trimB l := List.takeWhile_append_dropWhile
theorem takeWhile_all {α : Type} (p : α → Bool) (l : List α) : ∀ b ∈ l.takeWhile p, p b = true := by
  induction l with
  | nil => simp
  | cons a l ih =>
    rw [List.takeWhile_cons]
    cases h : p a
    · simp
    · simp only [if_true, List.mem_cons]; rintro b (rfl | hb)
      · exact h
      · exact ih b hb
theorem dropWhile_head {α : Type} (p : α → Bool) (l : List α) : ∀ b, (l.dropWhile p).head? = some b → p b = false := by
  induction l with
  | nil => simp
  | cons a l ih =>
    rw [List.dropWhile_cons]
    cases h : p a
    · intro b hb; simp at hb; subst hb; exact h
    · simp only [if_true]; exact ih
theorem word_st (l : List UInt8) : ∀ b ∈ word l, st b = false := fun b hb => by simpa using takeWhile_all _ _ b hb
theorem rest_ends (l : List UInt8) : ends (rest l) := fun b hb => by simpa using dropWhile_head _ _ b hb
theorem trim_head (l : List UInt8) : ∀ b, (trimB l).head? = some b → bl b = false := dropWhile_head _ l
theorem tok_cut {l : List UInt8} (h : word l ≠ []) : tok l = word l :: tok (rest l) := by
  rw [← tok_trim, ← word_rest, tok_word h (word_st l) (rest_ends l)]
/-- No word comes next: nothing, or a mark. -/
theorem tok_none {l : List UInt8} (h : word l = []) : (trimB l = [] ∧ tok l = []) ∨ ∃ b r, mk b = true ∧ trimB l = b :: r ∧ tok l = [b] :: tok r := by
  rw [← tok_trim]
  cases hl : trimB l with
  | nil => exact Or.inl ⟨rfl, rfl⟩
  | cons b r =>
    right
    have h1 := trim_head l b (by rw [hl]; rfl)
    have h2 : st b = true := by
      unfold word at h
      rw [hl, List.takeWhile_cons] at h
      cases hs : st b
      · simp [hs] at h
      · rfl
    have h3 : mk b = true := by simpa [st, h1] using h2
    exact ⟨b, r, h3, rfl, tok_mk r h3⟩
theorem tok_empty (l : List UInt8) : tok l = [] ↔ trimB l = [] := by
  constructor
  · intro h
    by_cases hw : word l = []
    · rcases tok_none hw with ⟨h1, _⟩ | ⟨b, r, _, _, h2⟩
      · exact h1
      · rw [h2] at h; simp at h
    · rw [tok_cut hw] at h; simp at h
  · intro h; rw [← tok_trim, h]; rfl

/-- Blanks about what ends words change nothing. -/
theorem tokA_fin (l : List UInt8) : ∀ cur, (∀ b, l.head? = some b → st b = true) → tokA cur l = fin cur ++ tok l := by
  intro cur h
  by_cases hc : cur = []
  · subst hc; simp [fin_nil, tok]
  · rw [tokA_ends cur l hc h, fin_ne hc]; rfl
theorem tokA_bls (g l : List UInt8) (cur : List UInt8) (hg : ∀ b ∈ g, bl b = true) (hl : ∀ b, l.head? = some b → st b = true) : tokA cur (g ++ l) = tokA cur l := by
  induction g generalizing cur with
  | nil => rfl
  | cons b g ih =>
    have hb := hg b (by simp)
    rw [List.cons_append, tokA, if_pos hb, ih [] (fun x hx => hg x (by simp [hx])), tokA_fin l cur hl]; rfl
theorem tok_bls (g l : List UInt8) (hg : ∀ b ∈ g, bl b = true) : tok (g ++ l) = tok l := by
  induction g with
  | nil => rfl
  | cons b g ih => rw [List.cons_append, tok_bl _ (hg b (by simp))]; exact ih (fun x hx => hg x (by simp [hx]))
theorem tokA_gap (c : UInt8) (hc : st c = true) (g h l cur : List UInt8) (hg : ∀ b ∈ g, bl b = true) (hh : ∀ b ∈ h, bl b = true) (l' : List UInt8) (hl : tok l' = tok l) :
    tokA cur (g ++ c :: (h ++ l')) = tokA cur (c :: l) := by
  rw [tokA_bls g _ cur hg (fun b hb => by simp at hb; subst hb; exact hc)]
  simp only [tokA]
  have : tokA [] (h ++ l') = tokA [] l := by show tok (h ++ l') = tok l; rw [tok_bls h l' hh, hl]
  rw [this]
  cases h1 : bl c
  · have h2 : mk c = true := by simpa [st, h1] using hc
    simp [h2]
  · simp
/-- A text with blanks laid about what ends its words. -/
def spread (g : Nat → List UInt8) : Nat → List UInt8 → List UInt8
  | _, [] => []
  | k, c :: l => if st c then g k ++ c :: (g k ++ spread g (k + 1) l) else c :: spread g (k + 1) l
theorem tokA_spread (g : Nat → List UInt8) (hg : ∀ k, ∀ b ∈ g k, bl b = true) (l : List UInt8) : ∀ k cur, tokA cur (spread g k l) = tokA cur l := by
  induction l with
  | nil => intro k cur; rfl
  | cons c l ih =>
    intro k cur
    cases hc : st c
    · have hs := st_false hc
      simp only [spread, hc, Bool.false_eq_true, if_false, tokA, hs.1, hs.2]
      exact ih _ _
    · simp only [spread, hc, if_true]
      exact tokA_gap c hc (g k) (g k) l cur (hg k) (hg k) _ (ih _ _)
/-- A byte that is a digit. -/
def isD (b : UInt8) : Bool := decide (48 ≤ b.toNat) && decide (b.toNat ≤ 57)
def digOk (l : List UInt8) : Bool := decide (1 ≤ l.length) && decide (l.length ≤ 10) && (l.head? != some 48 || l == [48]) && l.all isD
def valA (n : Int) (l : List UInt8) : Int := l.foldl (fun n b => n * 10 + ((b.toNat : Int) - 48)) n
def val (l : List UInt8) : Int := valA 0 l
def dig (l : List UInt8) : Int := if digOk l then val l else 0
def numOk (l : List UInt8) : Bool := if l.head? = some 45 then digOk l.tail && dig l.tail != 0 else digOk l
def num (l : List UInt8) : Int := if l.head? = some 45 then - dig l.tail else dig l
def regOk (l : List UInt8) : Bool := l.head? == some 120 && digOk l.tail && decide (dig l.tail < 32)
def reg (l : List UInt8) : Int := if regOk l then dig l.tail else 0

theorem valA_cons (n : Int) (b : UInt8) (l : List UInt8) : valA n (b :: l) = valA (n * 10 + ((b.toNat : Int) - 48)) l := rfl
theorem valA_snoc (n : Int) (l : List UInt8) (b : UInt8) : valA n (l ++ [b]) = valA n l * 10 + ((b.toNat : Int) - 48) := by simp [valA, List.foldl_append]
theorem isD_bd {b : UInt8} (h : isD b = true) : 48 ≤ b.toNat ∧ b.toNat ≤ 57 := by simpa [isD] using h
theorem valA_bd (l : List UInt8) : ∀ (n : Int) (k : Nat), 0 ≤ n → n < 10 ^ k → l.all isD = true → 0 ≤ valA n l ∧ valA n l < 10 ^ (k + l.length) := by
  induction l with
  | nil => intro n k h0 h1 _; exact ⟨h0, h1⟩
  | cons b l ih =>
    intro n k h0 h1 h
    simp only [List.all_cons, Bool.and_eq_true] at h
    have hb := isD_bd h.1
    have := ih (n * 10 + ((b.toNat : Int) - 48)) (k + 1) (by omega) (by rw [Int.pow_succ]; omega) h.2
    rw [valA_cons]
    rw [List.length_cons, show k + (l.length + 1) = k + 1 + l.length by omega]
    exact this
theorem val_bd10 {l : List UInt8} (h : l.all isD = true) (h10 : l.length ≤ 10) : 0 ≤ valA 0 l ∧ valA 0 l < 10000000000 := by
  have := valA_bd l 0 0 (by omega) (by omega) h
  refine ⟨this.1, ?_⟩
  have h2 : (10 : Int) ^ (0 + l.length) ≤ 10 ^ 10 := by
    have h3 : (10 : Nat) ^ (0 + l.length) ≤ 10 ^ 10 := Nat.pow_le_pow_right (by omega) (by omega)
    exact_mod_cast h3
  have : (10 : Int) ^ 10 = 10000000000 := by decide
  omega
theorem dig_bd (l : List UInt8) : 0 ≤ dig l ∧ dig l < 10000000000 := by
  unfold dig
  split
  · rename_i h
    simp only [digOk, Bool.and_eq_true, decide_eq_true_eq] at h
    exact val_bd10 h.2 h.1.1.2
  · omega
theorem num_bd (l : List UInt8) : -10000000000 < num l ∧ num l < 10000000000 := by
  unfold num
  have h1 := dig_bd l
  have h2 := dig_bd l.tail
  split <;> omega
theorem reg_bd (l : List UInt8) : 0 ≤ reg l ∧ reg l < 32 := by
  unfold reg
  have h2 := dig_bd l.tail
  split
  · rename_i h; simp [regOk] at h; omega
  · omega

/-! ### The numerals -/
theorem dec_small {u : Nat} (h : u < 10) : decDigits u = [UInt8.ofNat (48 + u)] := by rw [decDigits, dif_pos h]
theorem dec_big {u : Nat} (h : ¬ u < 10) : decDigits u = decDigits (u / 10) ++ [UInt8.ofNat (48 + u % 10)] := by rw [decDigits, dif_neg h]
theorem d8 {k : Nat} (h : k < 10) : (UInt8.ofNat (48 + k)).toNat = 48 + k := by
  simp [UInt8.toNat_ofNat']; omega
theorem dec_facts : ∀ (k u : Nat), u < 10 ^ k → 1 ≤ k → (decDigits u).length ≤ k ∧ 1 ≤ (decDigits u).length ∧ (decDigits u).all isD = true ∧ valA 0 (decDigits u) = u ∧ (0 < u → (decDigits u).head? ≠ some 48)
  | 0, _, _, h => by omega
  | k + 1, u, h, _ => by
    by_cases hu : u < 10
    · rw [dec_small hu]
      have hx := d8 hu
      generalize UInt8.ofNat (48 + u) = x at hx
      refine ⟨by simp, by simp, by simp [isD, hx]; omega, by simp [valA, hx]; omega, fun h0 he => ?_⟩
      simp at he
      subst he
      simp at hx
      omega
    · have hk : 1 ≤ k := by
        rcases Nat.eq_zero_or_pos k with rfl | h1
        · simp at h; omega
        · exact h1
      have hq : u / 10 < 10 ^ k := by rw [Nat.pow_succ] at h; omega
      obtain ⟨a1, a2, a3, a4, a5⟩ := dec_facts k (u / 10) hq hk
      rw [dec_big hu]
      have hx := d8 (k := u % 10) (by omega)
      generalize UInt8.ofNat (48 + u % 10) = x at hx
      have hd : isD x = true := by simp [isD, hx]; omega
      refine ⟨by simp; omega, by simp, by simp [hd]; simpa using a3, by rw [valA_snoc, a4, hx]; omega, fun _ => ?_⟩
      have h5 := a5 (by omega)
      cases hd : decDigits (u / 10) with
      | nil => rw [hd] at a2; simp at a2
      | cons x xs => rw [hd] at h5; simpa using h5
theorem dec_ok {u : Nat} (h : u < 10000000000) : digOk (decDigits u) = true ∧ dig (decDigits u) = u := by
  obtain ⟨a1, a2, a3, a4, a5⟩ := dec_facts 10 u (by simpa using h) (by omega)
  have : digOk (decDigits u) = true := by
    simp only [digOk, Bool.and_eq_true, decide_eq_true_eq, Bool.or_eq_true]
    refine ⟨⟨⟨a2, a1⟩, ?_⟩, a3⟩
    rcases Nat.eq_zero_or_pos u with rfl | h0
    · right; decide +kernel
    · left; simpa using a5 h0
  exact ⟨this, by rw [dig, if_pos this]; exact a4⟩
theorem dec_st {u : Nat} : ∀ b ∈ decDigits u, isD b = true := by
  have := (dec_facts (u + 1) u (Nat.lt_of_lt_of_le (Nat.lt_pow_self (by omega)) (Nat.pow_le_pow_right (by omega) (by omega))) (by omega)).2.2.1
  simpa using this
theorem dec_ne (u : Nat) : decDigits u ≠ [] := by
  have := (dec_facts (u + 1) u (Nat.lt_of_lt_of_le (Nat.lt_pow_self (by omega)) (Nat.pow_le_pow_right (by omega) (by omega))) (by omega)).2.1
  intro h; rw [h] at this; simp at this
theorem dec_head45 (u : Nat) : (decDigits u).head? ≠ some 45 := by
  intro h
  have : (45 : UInt8) ∈ decDigits u := List.mem_of_mem_head? h
  have := dec_st _ this
  simp [isD] at this
theorem itoa_ok {n : Int} (h0 : -10000000000 < n) (h1 : n < 10000000000) : numOk (itoa n) = true ∧ num (itoa n) = n := by
  unfold itoa
  by_cases h : n < 0
  · rw [if_pos h]
    obtain ⟨a, b⟩ := dec_ok (u := n.natAbs) (by omega)
    simp [numOk, num, a, b]
    omega
  · rw [if_neg h]
    obtain ⟨a, b⟩ := dec_ok (u := n.toNat) (by omega)
    simp [numOk, num, a, b, dec_head45]
    omega
theorem reg_ok {n : Int} (h0 : 0 ≤ n) (h1 : n < 32) : regOk (120 :: itoa n) = true ∧ reg (120 :: itoa n) = n := by
  obtain ⟨a, b⟩ := dec_ok (u := n.toNat) (by omega)
  have e : itoa n = decDigits n.toNat := by unfold itoa; rw [if_neg (by omega)]
  have h : regOk (120 :: itoa n) = true := by simp [regOk, e, a, b]; omega
  exact ⟨h, by rw [reg, if_pos h]; simp [e, b]; omega⟩
theorem itoa_len {n : Int} (h0 : -10000000000 < n) (h1 : n < 10000000000) : (itoa n).length ≤ 11 := by
  unfold itoa
  split
  · have := (dec_facts 10 n.natAbs (by simp; omega) (by omega)).1
    simp; omega
  · have := (dec_facts 10 n.toNat (by simp; omega) (by omega)).1
    omega
theorem itoa_ne (n : Int) : itoa n ≠ [] := by unfold itoa; split; simp; exact dec_ne _
theorem itoa_b (n : Int) : ∀ b ∈ itoa n, b = 45 ∨ isD b = true := by
  unfold itoa; split
  · intro b hb; simp at hb; rcases hb with rfl | hb
    · exact Or.inl rfl
    · exact Or.inr (dec_st b hb)
  · intro b hb; exact Or.inr (dec_st b hb)
end Asm
end Go.Proofs.YtllgkofibkobnaaDoor
