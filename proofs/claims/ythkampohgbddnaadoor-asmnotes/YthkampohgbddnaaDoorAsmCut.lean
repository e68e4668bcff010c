/- LAYER 6's walks: strings.Cut and Trim as All calls them, countLines. -/
import Derived.Test.YthkampohgbddnaaDoorAsmLines
namespace Go.Proofs.YthkampohgbddnaaDoor
open Go.ChangeShapes Go.WideShapes Go.ChangeAt Go.RowKit

theorem Asm.ib_cases (c : UInt8) : ∀ l : List UInt8,
    (Lib.indexByte l c = -1 ∧ Asm.upto c l = l ∧ Asm.past c l = []) ∨ ∃ k : Nat, Lib.indexByte l c = k ∧ k < l.length ∧ Asm.upto c l = l.take k ∧ Asm.past c l = l.drop (k + 1)
  | [] => Or.inl ⟨rfl, rfl, rfl⟩
  | b :: l => by
    rw [Lib.indexByte]
    by_cases hb : b = c
    · subst hb
      right; exact ⟨0, by simp, by simp, by simp [Asm.upto], by simp [Asm.past]⟩
    · have h0 : (b == c) = false := by simpa using hb
      have h1 : (b != c) = true := by simpa using hb
      rw [h0]
      rcases Asm.ib_cases c l with ⟨e1, e2, e3⟩ | ⟨k, e1, e2, e3, e4⟩
      · left
        refine ⟨by simp [e1], ?_, ?_⟩
        · unfold Asm.upto at e2 ⊢; rw [List.takeWhile_cons, if_pos h1, e2]
        · unfold Asm.past at e3 ⊢; rw [List.dropWhile_cons, if_pos h1]; exact e3
      · right
        refine ⟨k + 1, ?_, by simp; omega, ?_, ?_⟩
        · rw [e1]
          have : ((k : Int) == -1) = false := by simp
          simp [this]
        · unfold Asm.upto at e3 ⊢; rw [List.takeWhile_cons, if_pos h1, e3]; simp
        · unfold Asm.past at e4 ⊢; rw [List.dropWhile_cons, if_pos h1]; simpa using e4
theorem Asm.ret_ssb {a b c d : ByteArray} {x y : Bool} (h : a = c) (h2 : b = d) (h3 : x = y) : Ending.returned (.tuple #[.string a, .string b, .bool x]) = .returned (.tuple #[.string c, .string d, .bool y]) := by rw [h, h2, h3]
theorem Cut45_c (l : List UInt8) (c : UInt8) (w : World) (hl : l.length < 4294967281) :
    Calls Tryd.prog 45 #[.string (bs l), .string ⟨#[c]⟩] w fun e w' => ∃ b, e = .returned (.tuple #[.string (bs (Asm.upto c l)), .string (bs (Asm.past c l)), .bool b]) ∧ Bw w w' := by
  have hI : Calls Tryd.prog 71 #[.string (bs l), .string ⟨#[c]⟩] w fun e w' => e = .returned (.int .i64 (Lib.indexByte l c)) ∧ w' = w := by
    have := Any.stringslite_Index_one (P := Tryd.prog) { Tryd.lays143 with } (bs l) c w
    rw [bs_data] at this
    exact this
  rcases Asm.ib_cases c l with ⟨e1, e2, e3⟩ | ⟨k, e1, e2, e3, e4⟩
  · rw [e1] at hI
    rw [e2, e3]
    go_enter Tryd.func45, Tryd.ntmps45
    go_wp2_with (go_at_call 71; refine hI.mono ?_; rintro e w' ⟨rfl, rfl⟩)
    go_returns
    exact ⟨_, rfl, Bw.refl _⟩
  · rw [e1] at hI
    rw [e3, e4]
    have hk1 : (k : Int) + 1 ≤ (l.length : Int) := by omega
    clear e1 e3 e4
    go_enter Tryd.func45, Tryd.ntmps45
    go_wp2_with (go_at_call 71; refine hI.mono ?_; rintro e w' ⟨rfl, rfl⟩)
    go_region
    go_wp2
    go_returns
    exact ⟨true, Asm.ret_ssb (bs_take l k) (bs_drop l (k + 1)) rfl, (Bw.refl _).drew⟩
theorem Cut_c (l : List UInt8) (c : UInt8) (w : World) (hl : l.length < 4294967281) :
    Calls Tryd.prog 26 #[.string (bs l), .string ⟨#[c]⟩] w fun e w' => ∃ b, e = .returned (.tuple #[.string (bs (Asm.upto c l)), .string (bs (Asm.past c l)), .bool b]) ∧ Bw w w' := by
  have hC := Cut45_c l c w hl
  go_enter Tryd.func26, Tryd.ntmps26
  go_wp2_with (go_at_call 45; refine hC.mono ?_; rintro e w' ⟨b, rfl, hb⟩)
  go_returns
  exact ⟨b, rfl, hb⟩
theorem Asm.dropWhile_nil {p : UInt8 → Bool} : ∀ {l : List UInt8}, l.dropWhile p = [] ↔ ∀ b ∈ l, p b = true
  | [] => by simp
  | a :: l => by
    rw [List.dropWhile_cons]
    cases h : p a
    · simp [h]
    · simp [h, Asm.dropWhile_nil (l := l)]
theorem Asm.trimS_empty (l : List UInt8) : (Lib.trimS l [32, 9]).isEmpty = (Asm.tok l).isEmpty := by
  have e1 : (Lib.trimS l [32, 9] = []) ↔ ∀ b ∈ l, Asm.bl b = true := by
    unfold Lib.trimS
    rw [Asm.trimS_eq, Asm.trimB, Asm.dropWhile_nil]
    unfold Lib.trimRightS
    have hbl : ∀ b : UInt8, ([32, 9] : List UInt8).contains b = Asm.bl b := fun b => by rw [Bool.eq_iff_iff]; simp [Asm.bl]
    constructor
    · intro h
      by_cases hall : ∀ b ∈ l.reverse, ([32, 9] : List UInt8).contains b = true
      · intro b hb; rw [← hbl]; exact hall b (by simpa using hb)
      · exfalso
        have hne : l.reverse.dropWhile (fun b => ([32, 9] : List UInt8).contains b) ≠ [] := fun e => hall (Asm.dropWhile_nil.1 e)
        obtain ⟨x, xs, hx⟩ := List.exists_cons_of_ne_nil hne
        have h1 := Asm.dropWhile_head (fun b => ([32, 9] : List UInt8).contains b) l.reverse x (by rw [hx]; rfl)
        have h2 := h x (by rw [hx]; simp)
        rw [← hbl] at h2
        rw [h1] at h2; simp at h2
    · intro h b hb
      have : b ∈ l.reverse.dropWhile (fun b => ([32, 9] : List UInt8).contains b) := by simpa using hb
      exact h b (by simpa using (List.dropWhile_sublist _).mem this)
  have e2 : (Asm.tok l = []) ↔ ∀ b ∈ l, Asm.bl b = true := by
    rw [Asm.tok_empty, Asm.trimB, Asm.dropWhile_nil]
  rw [Bool.eq_iff_iff, List.isEmpty_iff, List.isEmpty_iff, e1, e2]
theorem Trim_c (l : List UInt8) (w : World) (hl : l.length < 4294967281) :
    Calls Tryd.prog 27 #[.string (bs l), .string ⟨#[32, 9]⟩] w fun e w' => ∃ t : List UInt8, e = .returned (.string (bs t)) ∧ t.isEmpty = (Asm.tok l).isEmpty ∧ Bw w w' := by
  refine (Any.strings_Trim_laid Tryd.lays160 (by kernel_rfl) (bs l) ⟨#[32, 9]⟩ w (by rw [bs_size]; omega) (by decide) (ascii_of_all (by decide))).mono ?_
  rintro e w' ⟨rfl, hb⟩
  rw [bs_data]
  exact ⟨_, rfl, Asm.trimS_empty l, hb⟩
theorem countLines_c (l : List UInt8) (w : World) (hl : l.length ≤ 16384) :
    Calls Tryd.prog 25 #[.string (bs l)] w fun e w' => e = .returned (.int .i64 (Asm.count l)) ∧ w' = w := by
  have hN : Calls Tryd.prog 43 #[.string (bs l), .string ⟨#[10]⟩] w fun e w' => e = .returned (.int .i64 (l.count 10 : Nat)) ∧ w' = w := by
    have := Any.strings_Count_one Tryd.lays138 (bs l) 10 w
    rw [bs_data] at this
    exact this
  have hle : l.count 10 ≤ l.length := List.count_le_length
  have hS : Calls Tryd.prog 44 #[.string (bs l), .string ⟨#[10]⟩] w fun e w' => e = .returned (.bool (l.getLast? == some 10)) ∧ w' = w := by
    have := Any.strings_HasSuffix Tryd.lays100 (bs l) ⟨#[10]⟩ w (by rw [bs_size]; omega)
    rw [bs_data] at this
    have e : Lib.hasSuffix l [10] = (l.getLast? == some 10) := by
      unfold Lib.hasSuffix
      rw [Bool.eq_iff_iff]
      simp [List.isSuffixOf_iff_suffix]
      constructor
      · rintro ⟨t, rfl⟩; simp
      · intro h
        refine ⟨l.dropLast, ?_⟩
        rw [List.getLast?_eq_some_iff] at h
        obtain ⟨ys, rfl⟩ := h
        simp
    rw [← e]
    exact this
  unfold Asm.count
  generalize l.count 10 = N at *
  by_cases h0 : l = []
  · subst h0
    go_enter Tryd.func25, Tryd.ntmps25
    go_wp2_with (first
      | (go_at_call 43; refine hN.mono ?_; rintro e w' ⟨rfl, rfl⟩)
      | (go_at_call 44; refine hS.mono ?_; rintro e w' ⟨rfl, rfl⟩))
    go_ret
    exact ⟨rfl, rfl⟩
  · have he : l.isEmpty = false := by simpa using h0
    by_cases h1 : l.getLast? = some 10
    · have e1 : (l.getLast? == some 10) = true := by simpa using h1
      rw [e1] at hS
      rw [if_neg (fun h => h.2 h1)]
      clear h1 e1
      go_enter Tryd.func25, Tryd.ntmps25
      go_wp2_with (first
        | (go_at_call 43; refine hN.mono ?_; rintro e w' ⟨rfl, rfl⟩)
        | (go_at_call 44; refine hS.mono ?_; rintro e w' ⟨rfl, rfl⟩))
      go_ret
      exact ⟨rfl, rfl⟩
    · have e1 : (l.getLast? == some 10) = false := by simpa using h1
      rw [e1] at hS
      rw [if_pos ⟨h0, h1⟩]
      clear h1 e1
      go_enter Tryd.func25, Tryd.ntmps25
      go_wp2_with (first
        | (go_at_call 43; refine hN.mono ?_; rintro e w' ⟨rfl, rfl⟩)
        | (go_at_call 44; refine hS.mono ?_; rintro e w' ⟨rfl, rfl⟩))
      go_ret
      exact ⟨Asm.ret_i (by simp), rfl⟩
end Go.Proofs.YthkampohgbddnaaDoor
