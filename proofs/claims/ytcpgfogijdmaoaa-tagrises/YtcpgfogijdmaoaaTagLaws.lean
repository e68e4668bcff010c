/- THE LAWS OF LAYER 2: their walks. -/
import Derived.Test.YtcpgfogijdmaoaaTagFlow
import Derived.Test.YtcpgfogijdmaoaaTagMath
import Derived.Test.YtcpgfogijdmaoaaTagBox
import Derived.Deep.RegionHeld3
namespace Go.Proofs.Ytcpgfogijdmaoaa
open Go.ChangeShapes Go.WideShapes Go.ChangeAt Go.RowKit
set_option linter.unusedSimpArgs false

/-- '==' of two labels of four bytes. -/
theorem eqTag (a0 a1 a2 a3 b0 b1 b2 b3 : Int) (w : World) : (Op.equalIn 10000 24 (.agg #[.int .u8 a0, .int .u8 a1, .int .u8 a2, .int .u8 a3]) (.agg #[.int .u8 b0, .int .u8 b1, .int .u8 b2, .int .u8 b3])).run Try.prog w = .ok (a0 == b0 && a1 == b1 && a2 == b2 && a3 == b3) w := by
  have u5 := Try.underlying5
  have g5 := Try.isAgg5
  have z5 := Try.sizeOf5
  rw [show (10000 : Nat) = 9999 + 1 from rfl, Op.equalIn]
  simp only [Sem.run_bind, run_underlying Try.underlying24, Result.andThen_ok]
  simp only [Std.Legacy.Range.forIn_eq_forIn_range', Std.Legacy.Range.size, Nat.sub_zero, Nat.add_sub_cancel, Nat.div_one, List.range'_succ, List.range'_zero, List.forIn_cons, List.forIn_nil]
  go_simp
  by_cases h0 : a0 = b0 <;> by_cases h1 : a1 = b1 <;> by_cases h2 : a2 = b2 <;> by_cases h3 : a3 = b3 <;> simp [h0, h1, h2, h3]

theorem flow_known0 : Tag.flow 0 0 0 ⟨1, 0, 0, 0⟩ ⟨0, 2, 0, 0⟩ = ⟨1, 3, 3, 3⟩ := by rfl
theorem all_known0 : Tag.all ⟨1, 3, 3, 3⟩ = 3 := by rfl
theorem err_0 : Alu.err 0 = 0 := by rfl
set_option maxHeartbeats 1000000 in
theorem awake2_c (w : World) :
    Calls Try.prog 12 #[] w fun e w' => e = .returned (.bool true) ∧ Gr w w' := by
  have e1 := flow_known0
  have e2 := all_known0
  have e3 := err_0
  have eT := eqTag
  go_enter Try.func12, Try.ntmps12
  go_wp2_with (first
    | (go_at_call 13; refine (Flow_c _ _ _ _ _ _ _ _ _ _ _ ⟨by omega, by omega⟩ _).mono ?_; rintro e w2 ⟨rfl, h2⟩; have hc2 := h2.cell; have hf2 := h2.f; have hz2 := h2.size; have hA2 := h2.cellA; have hF2 := h2.frozenA; try simp only [World.size_alloc] at hc2 hz2 hA2 hF2)
    | (go_at_call 14; refine (Fill_c _ _).mono ?_; rintro e w2 ⟨rfl, h2⟩; have hc2 := h2.cell; have hf2 := h2.f; have hz2 := h2.size; have hA2 := h2.cellA; have hF2 := h2.frozenA; try simp only [World.size_alloc] at hc2 hz2 hA2 hF2)
    | (go_at_call 17; refine (All_c _ _ _ _ _).mono ?_; rintro e w2 ⟨rfl, h2⟩; have hc2 := h2.cell; have hf2 := h2.f; have hz2 := h2.size; have hA2 := h2.cellA; have hF2 := h2.frozenA; try simp only [World.size_alloc] at hc2 hz2 hA2 hF2))
  go_ret
  refine ⟨rfl, ?_⟩
  (repeat' (first | (with_reducible exact Gr.refl _) | (with_reducible refine Gr.alloc ?_ _ _) | (with_reducible refine Gr.drew ?_) | (with_reducible refine Gr.drewN ?_ _) | (with_reducible refine Gr.setCell ?_ ?_ _) | (with_reducible refine Gr.trans ?_ (by assumption)) | omega | (dsimp only; omega) | (simp; done) | (simp; omega)))

theorem beqT {x y : Int} (h : x = y) : (x == y) = true := by simpa using h
end Go.Proofs.Ytcpgfogijdmaoaa
