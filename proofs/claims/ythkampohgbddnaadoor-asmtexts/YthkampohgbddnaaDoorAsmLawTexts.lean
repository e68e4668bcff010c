/- LAYER 6's law AsmTexts. -/
import Derived.Test.YthkampohgbddnaaDoorAsmRef2
namespace Go.Proofs.YthkampohgbddnaaDoor
open Go.ChangeShapes Go.WideShapes Go.ChangeAt Go.RowKit

theorem rText_bad (i : Rv.Ins) (hm : -2147483648 ≤ i.imm ∧ i.imm < 2147483648) (hg : ¬ Rv.good i) (w : World) :
    Calls Tryd.prog 11 #[Rv.iv i] w fun e w' => e = .returned (.string (bs [])) ∧ Bw w w' := by
  have hE := fun w => rEncode_c i hm w
  have hb0 := (Bw.refl w).alloc (.cells #[.int .i64 i.op, .int .i64 i.rd, .int .i64 i.rs1, .int .i64 i.rs2, .int .i32 i.imm] 27)
  unfold Rv.iv at hE ⊢
  go_enter Tryd.func11, Tryd.ntmps11
  go_wp2_with fail
  refine (hE _).mono ?_
  rintro e w1 ⟨x, b, rfl, g1, hbi, -⟩
  obtain rfl : b = false := by
    cases b
    · rfl
    · exact absurd (hbi.1 rfl) hg
  go_wp2_with fail
  go_ret
  exact ⟨rfl, hb0.gr g1⟩
theorem own_c (i : Rv.Ins) (w : World) :
    Calls Tryd.prog 12 #[Rv.iv i] w fun e w' => e = .returned (Rv.iv i) ∧ Bw w w' := by
  unfold Rv.iv
  go_enter Tryd.func12, Tryd.ntmps12
  go_wp2
  go_returns
  exact ⟨rfl, ((Bw.refl w).alloc _).alloc _⟩
set_option maxHeartbeats 2000000 in
set_option maxRecDepth 100000 in
theorem AsmTexts_w (i : Rv.Ins) (hm : -2147483648 ≤ i.imm ∧ i.imm < 2147483648) (w : World) (ha : All6 w) :
    Calls Tryd.prog 3 #[Rv.iv i] w fun e w' => e = .returned (.bool true) ∧ Bw w w' := by
  have hO := fun w => own_c i w
  obtain ⟨L, hT, hR⟩ : ∃ L : List UInt8, (∀ w, All6 w → Calls Tryd.prog 10 #[Rv.iv i] w fun e w' => e = .returned (.string (bs L)) ∧ Bw w w') ∧ (∀ w, Calls Tryd.prog 11 #[Rv.iv i] w fun e w' => e = .returned (.string (bs L)) ∧ Bw w w') := by
    by_cases hg : Rv.good i
    · exact ⟨_, fun w h => Text_good i w h.t h.n h.p hm hg, fun w => rText_good i hm hg w⟩
    · exact ⟨_, fun w h => Text_bad i w h.t hm hg, fun w => rText_bad i hm hg w⟩
  have hB := IBox.new w i 23
  have hW := (Bw.refl w).alloc (.cells #[.int .i64 i.op, .int .i64 i.rd, .int .i64 i.rs1, .int .i64 i.rs2, .int .i32 i.imm] 23)
  have hq : (L == L) = true := by simp
  unfold Rv.iv at *
  go_enter Tryd.func3, Tryd.ntmps3
  go_wp2_with fail
  go_region_held3 (fun wr => wr.cell? ⟨w.heap.size, 0, none⟩ = some (.int .i64 i.op) ∧ wr.cell? ⟨w.heap.size, 1, none⟩ = some (.int .i64 i.rd) ∧ wr.cell? ⟨w.heap.size, 2, none⟩ = some (.int .i64 i.rs1) ∧ wr.cell? ⟨w.heap.size, 3, none⟩ = some (.int .i64 i.rs2) ∧ wr.cell? ⟨w.heap.size, 4, none⟩ = some (.int .i32 i.imm))
    (first | exact hB.held | exact hB.drew.held)
    (first
      | (go_at_call 9; refine (awake6_c _ (by first | exact ha.bw hW | exact ha.bw hW.drew)).mono ?_; rintro e w3 ⟨rfl, h2⟩; (first | (replace hB := hB.bw h2; replace hW := hW.trans h2) | (replace hB := hB.drew.bw h2; replace hW := hW.drew.trans h2)); clear h2)
      | (go_at_call 10; refine (hT _ (by first | exact ha.bw hW | exact ha.bw hW.drew)).mono ?_; rintro e w3 ⟨rfl, h2⟩; (first | (replace hB := hB.bw h2; replace hW := hW.trans h2) | (replace hB := hB.drew.bw h2; replace hW := hW.drew.trans h2)); clear h2)
      | (go_at_call 12; refine (hO _).mono ?_; rintro e w3 ⟨rfl, h2⟩; (first | (replace hB := hB.bw h2; replace hW := hW.trans h2) | (replace hB := hB.drew.bw h2; replace hW := hW.drew.trans h2)); clear h2)
      | (go_at_call 11; refine (hR _).mono ?_; rintro e w3 ⟨rfl, h2⟩; (first | (replace hB := hB.bw h2; replace hW := hW.trans h2) | (replace hB := hB.drew.bw h2; replace hW := hW.drew.trans h2)); clear h2))
  go_wp2_with fail
  go_ret
  exact ⟨rfl, hW⟩
end Go.Proofs.YthkampohgbddnaaDoor
