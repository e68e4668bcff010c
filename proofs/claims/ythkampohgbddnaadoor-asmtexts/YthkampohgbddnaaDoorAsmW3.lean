/- LAYER 6's walks: numberOf, registerOf, shape. -/
import Derived.Test.YthkampohgbddnaaDoorAsmW2
import Derived.Test.YthkampohgbddnaaDoorAsmPar
namespace Go.Proofs.YthkampohgbddnaaDoor
open Go.ChangeShapes Go.WideShapes Go.ChangeAt Go.RowKit

theorem Asm.pre_one (l : List UInt8) (c : UInt8) : Lib.hasPrefix l [c] = (l.head? == some c) := by
  cases l with
  | nil => rfl
  | cons b t => rw [Bool.eq_iff_iff]; simp [Lib.hasPrefix, List.isPrefixOf]; exact ⟨fun h => h.symm, fun h => h.symm⟩
theorem Asm.trimPre_no {l : List UInt8} {c : UInt8} (h : l.head? ≠ some c) : Lib.trimPrefix l [c] = l := by
  rw [Lib.trimPrefix, Asm.pre_one]; simp [h]
theorem Asm.trimPre_yes {l : List UInt8} {c : UInt8} (h : l.head? = some c) : Lib.trimPrefix l [c] = l.tail := by
  rw [Lib.trimPrefix, Asm.pre_one]; simp [h]
theorem CutPrefix_no {l : List UInt8} {c : UInt8} (h : l.head? ≠ some c) (w : World) :
    Calls Tryd.prog 77 #[.string (bs l), .string ⟨#[c]⟩] w fun e w' => e = .returned (.tuple #[.string (bs l), .bool false]) ∧ w' = w := by
  have := Any.strings_CutPrefix Tryd.lays103 (bs l) ⟨#[c]⟩ w
  rw [bs_data] at this
  have e : (⟨#[c]⟩ : ByteArray).data.toList = [c] := rfl
  rw [e, Asm.trimPre_no h, Asm.pre_one] at this
  have e2 : (l.head? == some c) = false := by simpa using h
  rw [e2] at this
  exact this
theorem CutPrefix_yes {l : List UInt8} {c : UInt8} (h : l.head? = some c) (w : World) :
    Calls Tryd.prog 77 #[.string (bs l), .string ⟨#[c]⟩] w fun e w' => e = .returned (.tuple #[.string (bs l.tail), .bool true]) ∧ w' = w := by
  have := Any.strings_CutPrefix Tryd.lays103 (bs l) ⟨#[c]⟩ w
  rw [bs_data] at this
  have e : (⟨#[c]⟩ : ByteArray).data.toList = [c] := rfl
  rw [e, Asm.trimPre_yes h, Asm.pre_one] at this
  have e2 : (l.head? == some c) = true := by simpa using h
  rw [e2] at this
  exact this
theorem numberOf_c (l : List UInt8) (w : World) (hl : l.length < 4294967281) :
    Calls Tryd.prog 54 #[.string (bs l)] w fun e w' => e = .returned (.tuple #[.int .i64 (Asm.num l), .bool (Asm.numOk l)]) ∧ Bw w w' := by
  by_cases h : l.head? = some 45
  · have hb := Asm.dig_bd l.tail
    have hd := digitsOf_c l.tail w (by simp; omega)
    have hn : Asm.num l = - Asm.dig l.tail := by simp [Asm.num, h]
    have hk : Asm.numOk l = (Asm.digOk l.tail && Asm.dig l.tail != 0) := by simp [Asm.numOk, h]
    rw [hn, hk]
    have hc := CutPrefix_yes h w
    clear hn hk h
    generalize Asm.dig l.tail = D at *
    generalize Asm.digOk l.tail = k at *
    obtain ⟨b0, b1⟩ := hb
    cases k
    all_goals
      go_enter Tryd.func54, Tryd.ntmps54
      go_wp2_with (first
        | (go_at_call 77; refine hc.mono ?_; rintro e w' ⟨rfl, rfl⟩)
        | (go_at_call 78; refine hd.mono ?_; rintro e w' ⟨rfl, hbw⟩))
      go_returns
      exact ⟨rfl, hbw⟩
  · have hd := digitsOf_c l w hl
    have hn : Asm.num l = Asm.dig l := by simp [Asm.num, h]
    have hk : Asm.numOk l = Asm.digOk l := by simp [Asm.numOk, h]
    rw [hn, hk]
    have hc := CutPrefix_no h w
    clear hn hk h
    go_enter Tryd.func54, Tryd.ntmps54
    go_wp2_with (first
      | (go_at_call 77; refine hc.mono ?_; rintro e w' ⟨rfl, rfl⟩)
      | (go_at_call 78; refine hd.mono ?_; rintro e w' ⟨rfl, hbw⟩))
    go_returns
    exact ⟨rfl, hbw⟩
theorem registerOf_c (l : List UInt8) (w : World) (hl : l.length < 4294967281) :
    Calls Tryd.prog 85 #[.string (bs l)] w fun e w' => e = .returned (.tuple #[.int .i64 (Asm.reg l), .bool (Asm.regOk l)]) ∧ Bw w w' := by
  by_cases h : l.head? = some 120
  · have hb := Asm.dig_bd l.tail
    have hd := digitsOf_c l.tail w (by simp; omega)
    have hk : Asm.regOk l = (Asm.digOk l.tail && decide (Asm.dig l.tail < 32)) := by simp [Asm.regOk, h]
    have hn : Asm.reg l = if Asm.regOk l then Asm.dig l.tail else 0 := rfl
    rw [hn, hk]
    have hc := CutPrefix_yes h w
    clear hn hk h
    generalize Asm.dig l.tail = D at *
    generalize Asm.digOk l.tail = k at *
    obtain ⟨b0, b1⟩ := hb
    cases k
    · go_enter Tryd.func85, Tryd.ntmps85
      go_wp2_with (first
        | (go_at_call 77; refine hc.mono ?_; rintro e w' ⟨rfl, rfl⟩)
        | (go_at_call 78; refine hd.mono ?_; rintro e w' ⟨rfl, hbw⟩))
      go_returns
      exact ⟨by simp, hbw⟩
    · by_cases h32 : D < 32
      · have e1 : decide (D < 32) = true := by simpa using h32
        rw [e1]
        go_enter Tryd.func85, Tryd.ntmps85
        go_wp2_with (first
          | (go_at_call 77; refine hc.mono ?_; rintro e w' ⟨rfl, rfl⟩)
          | (go_at_call 78; refine hd.mono ?_; rintro e w' ⟨rfl, hbw⟩))
        go_returns
        exact ⟨rfl, hbw⟩
      · have e1 : decide (D < 32) = false := by simpa using h32
        have h33 : 32 ≤ D := by omega
        rw [e1]
        clear h32
        go_enter Tryd.func85, Tryd.ntmps85
        go_wp2_with (first
          | (go_at_call 77; refine hc.mono ?_; rintro e w' ⟨rfl, rfl⟩)
          | (go_at_call 78; refine hd.mono ?_; rintro e w' ⟨rfl, hbw⟩))
        go_returns
        exact ⟨rfl, hbw⟩
  · have hk : Asm.regOk l = false := by simp [Asm.regOk, h]
    have hn : Asm.reg l = 0 := by simp [Asm.reg, hk]
    rw [hn, hk]
    have hc := CutPrefix_no h w
    clear hn hk h
    go_enter Tryd.func85, Tryd.ntmps85
    go_wp2_with (go_at_call 77; refine hc.mono ?_; rintro e w' ⟨rfl, rfl⟩)
    go_returns
    exact ⟨rfl, Bw.refl _⟩
theorem Asm.shape_all (op : Int) : (op ≤ 2 ∧ Asm.shape op = [100, 44, 117]) ∨ ((2 < op ∧ op ≤ 3) ∧ Asm.shape op = [100, 44, 105]) ∨ ((3 < op ∧ op ≤ 4) ∧ Asm.shape op = [100, 44, 105, 40, 115, 41]) ∨
    ((4 < op ∧ op ≤ 10) ∧ Asm.shape op = [115, 44, 116, 44, 105]) ∨ ((10 < op ∧ op ≤ 15) ∧ Asm.shape op = [100, 44, 105, 40, 115, 41]) ∨ ((15 < op ∧ op ≤ 18) ∧ Asm.shape op = [116, 44, 105, 40, 115, 41]) ∨
    ((18 < op ∧ op ≤ 27) ∧ Asm.shape op = [100, 44, 115, 44, 105]) ∨ ((27 < op ∧ op ≤ 45) ∧ Asm.shape op = [100, 44, 115, 44, 116]) ∨ (45 < op ∧ Asm.shape op = []) := by
  obtain h | h | h | h | h | h | h | h | h : op ≤ 2 ∨ (2 < op ∧ op ≤ 3) ∨ (3 < op ∧ op ≤ 4) ∨ (4 < op ∧ op ≤ 10) ∨ (10 < op ∧ op ≤ 15) ∨ (15 < op ∧ op ≤ 18) ∨ (18 < op ∧ op ≤ 27) ∨ (27 < op ∧ op ≤ 45) ∨ 45 < op := by omega
  · exact Or.inl ⟨h, Asm.shape_1 h⟩
  · exact Or.inr (Or.inl ⟨h, Asm.shape_2 (by omega)⟩)
  · exact Or.inr (Or.inr (Or.inl ⟨h, Asm.shape_3 (by omega)⟩))
  · exact Or.inr (Or.inr (Or.inr (Or.inl ⟨h, Asm.shape_4 (by omega)⟩)))
  · exact Or.inr (Or.inr (Or.inr (Or.inr (Or.inl ⟨h, Asm.shape_3 (by omega)⟩))))
  · exact Or.inr (Or.inr (Or.inr (Or.inr (Or.inr (Or.inl ⟨h, Asm.shape_5 (by omega)⟩)))))
  · exact Or.inr (Or.inr (Or.inr (Or.inr (Or.inr (Or.inr (Or.inl ⟨h, Asm.shape_6 (by omega)⟩))))))
  · exact Or.inr (Or.inr (Or.inr (Or.inr (Or.inr (Or.inr (Or.inr (Or.inl ⟨h, Asm.shape_7 (by omega)⟩)))))))
  · exact Or.inr (Or.inr (Or.inr (Or.inr (Or.inr (Or.inr (Or.inr (Or.inr ⟨h, Asm.shape_8 (by omega)⟩)))))))
theorem shape_c (op : Int) (w : World) :
    Calls Tryd.prog 18 #[.int .i64 op] w fun e w' => e = .returned (.string (bs (Asm.shape op))) ∧ w' = w := by
  rcases Asm.shape_all op with ⟨h, e⟩ | ⟨⟨h, h2⟩, e⟩ | ⟨⟨h, h2⟩, e⟩ | ⟨⟨h, h2⟩, e⟩ | ⟨⟨h, h2⟩, e⟩ | ⟨⟨h, h2⟩, e⟩ | ⟨⟨h, h2⟩, e⟩ | ⟨⟨h, h2⟩, e⟩ | ⟨h, e⟩
  all_goals
    rw [e]
    clear e
    go_enter Tryd.func18, Tryd.ntmps18
    go_wp2
    go_ret
    exact ⟨rfl, rfl⟩
end Go.Proofs.YthkampohgbddnaaDoor
