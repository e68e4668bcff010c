/- THE REFERENCE OF LAYER 2: tinctureref1.Flow, kind 2. -/
import Derived.Test.YtcpgfogijdmaoaaTagRef
import Derived.Test.YtcpgfogijdmaoaaTagShift
namespace Go.Proofs.Ytcpgfogijdmaoaa
open Go.ChangeShapes Go.WideShapes Go.ChangeAt Go.RowKit
set_option linter.unusedSimpArgs false

set_option maxRecDepth 100000 in
set_option maxHeartbeats 16000000 in
theorem rFlow2_c (a b s0 s1 s2 s3 t1 t2 t3 : Int) (n : Nat) (hn : n < 32) (hb : bits .and .u32 b 31 = (n : Int)) (w : World) :
    Calls Try.prog 24 #[.int .i64 2, .int .u32 a, .int .u32 b, .agg #[.int .u8 s0, .int .u8 s1, .int .u8 s2, .int .u8 s3], .agg #[.int .u8 0, .int .u8 t1, .int .u8 t2, .int .u8 t3]] w fun e w' =>
     e = .returned (.tuple #[.agg #[.int .u8 (Tag.rfN 2 n ⟨s0, s1, s2, s3⟩ 32 0), .int .u8 (Tag.rfN 2 n ⟨s0, s1, s2, s3⟩ 32 1), .int .u8 (Tag.rfN 2 n ⟨s0, s1, s2, s3⟩ 32 2), .int .u8 (Tag.rfN 2 n ⟨s0, s1, s2, s3⟩ 32 3)], .bool true]) ∧ Gr w w' := by
  go_enter Try.func24, Try.ntmps24
  go_wp2
  go_loopw [17] (fun i wr => ∃ m nd : Nat, m ≤ 32 ∧ i = .int .i64 m ∧ wr = ((((w.alloc (.cells #[.int .u8 s0, .int .u8 s1, .int .u8 s2, .int .u8 s3] 24)).alloc (.cells #[.int .u8 0, .int .u8 t1, .int .u8 t2, .int .u8 t3] 24)).alloc (.cells #[.int .u8 0, .int .u8 0, .int .u8 0, .int .u8 0] 24)).alloc (.cells #[.int .u8 (Tag.rfN 2 n ⟨s0, s1, s2, s3⟩ m 0), .int .u8 (Tag.rfN 2 n ⟨s0, s1, s2, s3⟩ m 1), .int .u8 (Tag.rfN 2 n ⟨s0, s1, s2, s3⟩ m 2), .int .u8 (Tag.rfN 2 n ⟨s0, s1, s2, s3⟩ m 3)] 24)).drewN nd) (fun i _ => 32 - (intOf i).toNat)
  case atStart => exact ⟨0, 0, by omega, rfl, rfl⟩
  case round =>
    clear hb
    obtain ⟨m, nd, hm, rfl, rfl⟩ := hrel
    by_cases hm4 : m = 32
    · subst hm4
      go_wp2
      refine bodyPost_ret (v := .tuple #[.agg #[.int .u8 (Tag.rfN 2 n ⟨s0, s1, s2, s3⟩ 32 0), .int .u8 (Tag.rfN 2 n ⟨s0, s1, s2, s3⟩ 32 1), .int .u8 (Tag.rfN 2 n ⟨s0, s1, s2, s3⟩ 32 2), .int .u8 (Tag.rfN 2 n ⟨s0, s1, s2, s3⟩ 32 3)], .bool true]) (by simp [results, Try.results24, go_sem]) rfl (And.intro rfl ?_)
      (repeat' (first | (with_reducible exact Gr.refl _) | (with_reducible refine Gr.alloc ?_ _ _) | (with_reducible refine Gr.drew ?_) | (with_reducible refine Gr.drewN ?_ _) | (with_reducible refine Gr.setCell ?_ ?_ _) | (with_reducible refine Gr.trans ?_ (by assumption)) | omega | (dsimp only; omega) | (simp; done) | (simp; omega)))
    have hlt : m < 32 := by omega
    clear hm4 hm
    by_cases hv : n ≤ m
    · have HS : Hid (Tag.src 2 n m = some (m - n)) := by show _ = _; simp [Tag.src, hv]
      have hv0 : (0 : Int) ≤ ((m : Int) - (n : Int)) := by omega
      have hvi : decide ((0 : Int) ≤ ((m : Int) - (n : Int))) = true := by simp; omega
      have hvj : decide (((m : Int) - (n : Int)) < 32) = true := by simp; omega
      have hj : m / 8 = 0 ∨ m / 8 = 1 ∨ m / 8 = 2 ∨ m / 8 = 3 := by omega
      have hc : (m - n) / 8 = 0 ∨ (m - n) / 8 = 1 ∨ (m - n) / 8 = 2 ∨ (m - n) / 8 = 3 := by omega
      rcases hj with hj | hj | hj | hj <;> rcases hc with hc | hc | hc | hc
      · have HJ : Hid (m / 8 = 0) := hj
        have HC : Hid ((m - n) / 8 = 0) := hc
        have hji : (m : Int) / 8 = 0 := by omega
        have hci : ((m : Int) - (n : Int)) / 8 = 0 := by omega
        clear hj hc
        go_wp2
        go_region
        go_wp2
        go_roundw
        case rel =>
          refine ⟨m + 1, nd + 1, by omega, by go_num, ?_⟩
          rw [Tag.rfN_some 2 n ⟨s0, s1, s2, s3⟩ (j := 0) HS.out HJ.out HC.out, Tag.rfN_other 2 n ⟨s0, s1, s2, s3⟩ (m := m) (j := 1) (by have := HJ.out; omega), Tag.rfN_other 2 n ⟨s0, s1, s2, s3⟩ (m := m) (j := 2) (by have := HJ.out; omega), Tag.rfN_other 2 n ⟨s0, s1, s2, s3⟩ (m := m) (j := 3) (by have := HJ.out; omega)]
          rfl
        case measure => simp [intOf]; omega
      · exfalso; omega
      · exfalso; omega
      · exfalso; omega
      · have HJ : Hid (m / 8 = 1) := hj
        have HC : Hid ((m - n) / 8 = 0) := hc
        have hji : (m : Int) / 8 = 1 := by omega
        have hci : ((m : Int) - (n : Int)) / 8 = 0 := by omega
        clear hj hc
        go_wp2
        go_region
        go_wp2
        go_roundw
        case rel =>
          refine ⟨m + 1, nd + 1, by omega, by go_num, ?_⟩
          rw [Tag.rfN_some 2 n ⟨s0, s1, s2, s3⟩ (j := 1) HS.out HJ.out HC.out, Tag.rfN_other 2 n ⟨s0, s1, s2, s3⟩ (m := m) (j := 0) (by have := HJ.out; omega), Tag.rfN_other 2 n ⟨s0, s1, s2, s3⟩ (m := m) (j := 2) (by have := HJ.out; omega), Tag.rfN_other 2 n ⟨s0, s1, s2, s3⟩ (m := m) (j := 3) (by have := HJ.out; omega)]
          rfl
        case measure => simp [intOf]; omega
      · have HJ : Hid (m / 8 = 1) := hj
        have HC : Hid ((m - n) / 8 = 1) := hc
        have hji : (m : Int) / 8 = 1 := by omega
        have hci : ((m : Int) - (n : Int)) / 8 = 1 := by omega
        clear hj hc
        go_wp2
        go_region
        go_wp2
        go_roundw
        case rel =>
          refine ⟨m + 1, nd + 1, by omega, by go_num, ?_⟩
          rw [Tag.rfN_some 2 n ⟨s0, s1, s2, s3⟩ (j := 1) HS.out HJ.out HC.out, Tag.rfN_other 2 n ⟨s0, s1, s2, s3⟩ (m := m) (j := 0) (by have := HJ.out; omega), Tag.rfN_other 2 n ⟨s0, s1, s2, s3⟩ (m := m) (j := 2) (by have := HJ.out; omega), Tag.rfN_other 2 n ⟨s0, s1, s2, s3⟩ (m := m) (j := 3) (by have := HJ.out; omega)]
          rfl
        case measure => simp [intOf]; omega
      · exfalso; omega
      · exfalso; omega
      · have HJ : Hid (m / 8 = 2) := hj
        have HC : Hid ((m - n) / 8 = 0) := hc
        have hji : (m : Int) / 8 = 2 := by omega
        have hci : ((m : Int) - (n : Int)) / 8 = 0 := by omega
        clear hj hc
        go_wp2
        go_region
        go_wp2
        go_roundw
        case rel =>
          refine ⟨m + 1, nd + 1, by omega, by go_num, ?_⟩
          rw [Tag.rfN_some 2 n ⟨s0, s1, s2, s3⟩ (j := 2) HS.out HJ.out HC.out, Tag.rfN_other 2 n ⟨s0, s1, s2, s3⟩ (m := m) (j := 0) (by have := HJ.out; omega), Tag.rfN_other 2 n ⟨s0, s1, s2, s3⟩ (m := m) (j := 1) (by have := HJ.out; omega), Tag.rfN_other 2 n ⟨s0, s1, s2, s3⟩ (m := m) (j := 3) (by have := HJ.out; omega)]
          rfl
        case measure => simp [intOf]; omega
      · have HJ : Hid (m / 8 = 2) := hj
        have HC : Hid ((m - n) / 8 = 1) := hc
        have hji : (m : Int) / 8 = 2 := by omega
        have hci : ((m : Int) - (n : Int)) / 8 = 1 := by omega
        clear hj hc
        go_wp2
        go_region
        go_wp2
        go_roundw
        case rel =>
          refine ⟨m + 1, nd + 1, by omega, by go_num, ?_⟩
          rw [Tag.rfN_some 2 n ⟨s0, s1, s2, s3⟩ (j := 2) HS.out HJ.out HC.out, Tag.rfN_other 2 n ⟨s0, s1, s2, s3⟩ (m := m) (j := 0) (by have := HJ.out; omega), Tag.rfN_other 2 n ⟨s0, s1, s2, s3⟩ (m := m) (j := 1) (by have := HJ.out; omega), Tag.rfN_other 2 n ⟨s0, s1, s2, s3⟩ (m := m) (j := 3) (by have := HJ.out; omega)]
          rfl
        case measure => simp [intOf]; omega
      · have HJ : Hid (m / 8 = 2) := hj
        have HC : Hid ((m - n) / 8 = 2) := hc
        have hji : (m : Int) / 8 = 2 := by omega
        have hci : ((m : Int) - (n : Int)) / 8 = 2 := by omega
        clear hj hc
        go_wp2
        go_region
        go_wp2
        go_roundw
        case rel =>
          refine ⟨m + 1, nd + 1, by omega, by go_num, ?_⟩
          rw [Tag.rfN_some 2 n ⟨s0, s1, s2, s3⟩ (j := 2) HS.out HJ.out HC.out, Tag.rfN_other 2 n ⟨s0, s1, s2, s3⟩ (m := m) (j := 0) (by have := HJ.out; omega), Tag.rfN_other 2 n ⟨s0, s1, s2, s3⟩ (m := m) (j := 1) (by have := HJ.out; omega), Tag.rfN_other 2 n ⟨s0, s1, s2, s3⟩ (m := m) (j := 3) (by have := HJ.out; omega)]
          rfl
        case measure => simp [intOf]; omega
      · exfalso; omega
      · have HJ : Hid (m / 8 = 3) := hj
        have HC : Hid ((m - n) / 8 = 0) := hc
        have hji : (m : Int) / 8 = 3 := by omega
        have hci : ((m : Int) - (n : Int)) / 8 = 0 := by omega
        clear hj hc
        go_wp2
        go_region
        go_wp2
        go_roundw
        case rel =>
          refine ⟨m + 1, nd + 1, by omega, by go_num, ?_⟩
          rw [Tag.rfN_some 2 n ⟨s0, s1, s2, s3⟩ (j := 3) HS.out HJ.out HC.out, Tag.rfN_other 2 n ⟨s0, s1, s2, s3⟩ (m := m) (j := 0) (by have := HJ.out; omega), Tag.rfN_other 2 n ⟨s0, s1, s2, s3⟩ (m := m) (j := 1) (by have := HJ.out; omega), Tag.rfN_other 2 n ⟨s0, s1, s2, s3⟩ (m := m) (j := 2) (by have := HJ.out; omega)]
          rfl
        case measure => simp [intOf]; omega
      · have HJ : Hid (m / 8 = 3) := hj
        have HC : Hid ((m - n) / 8 = 1) := hc
        have hji : (m : Int) / 8 = 3 := by omega
        have hci : ((m : Int) - (n : Int)) / 8 = 1 := by omega
        clear hj hc
        go_wp2
        go_region
        go_wp2
        go_roundw
        case rel =>
          refine ⟨m + 1, nd + 1, by omega, by go_num, ?_⟩
          rw [Tag.rfN_some 2 n ⟨s0, s1, s2, s3⟩ (j := 3) HS.out HJ.out HC.out, Tag.rfN_other 2 n ⟨s0, s1, s2, s3⟩ (m := m) (j := 0) (by have := HJ.out; omega), Tag.rfN_other 2 n ⟨s0, s1, s2, s3⟩ (m := m) (j := 1) (by have := HJ.out; omega), Tag.rfN_other 2 n ⟨s0, s1, s2, s3⟩ (m := m) (j := 2) (by have := HJ.out; omega)]
          rfl
        case measure => simp [intOf]; omega
      · have HJ : Hid (m / 8 = 3) := hj
        have HC : Hid ((m - n) / 8 = 2) := hc
        have hji : (m : Int) / 8 = 3 := by omega
        have hci : ((m : Int) - (n : Int)) / 8 = 2 := by omega
        clear hj hc
        go_wp2
        go_region
        go_wp2
        go_roundw
        case rel =>
          refine ⟨m + 1, nd + 1, by omega, by go_num, ?_⟩
          rw [Tag.rfN_some 2 n ⟨s0, s1, s2, s3⟩ (j := 3) HS.out HJ.out HC.out, Tag.rfN_other 2 n ⟨s0, s1, s2, s3⟩ (m := m) (j := 0) (by have := HJ.out; omega), Tag.rfN_other 2 n ⟨s0, s1, s2, s3⟩ (m := m) (j := 1) (by have := HJ.out; omega), Tag.rfN_other 2 n ⟨s0, s1, s2, s3⟩ (m := m) (j := 2) (by have := HJ.out; omega)]
          rfl
        case measure => simp [intOf]; omega
      · have HJ : Hid (m / 8 = 3) := hj
        have HC : Hid ((m - n) / 8 = 3) := hc
        have hji : (m : Int) / 8 = 3 := by omega
        have hci : ((m : Int) - (n : Int)) / 8 = 3 := by omega
        clear hj hc
        go_wp2
        go_region
        go_wp2
        go_roundw
        case rel =>
          refine ⟨m + 1, nd + 1, by omega, by go_num, ?_⟩
          rw [Tag.rfN_some 2 n ⟨s0, s1, s2, s3⟩ (j := 3) HS.out HJ.out HC.out, Tag.rfN_other 2 n ⟨s0, s1, s2, s3⟩ (m := m) (j := 0) (by have := HJ.out; omega), Tag.rfN_other 2 n ⟨s0, s1, s2, s3⟩ (m := m) (j := 1) (by have := HJ.out; omega), Tag.rfN_other 2 n ⟨s0, s1, s2, s3⟩ (m := m) (j := 2) (by have := HJ.out; omega)]
          rfl
        case measure => simp [intOf]; omega
    · have HS : Hid (Tag.src 2 n m = none) := by show _ = _; simp [Tag.src, hv]
      have hvi : decide ((0 : Int) ≤ ((m : Int) - (n : Int))) = false := by simp; omega
      go_wp2
      go_roundw
      case rel =>
        refine ⟨m + 1, nd, by omega, by go_num, ?_⟩
        rw [Tag.rfN_none 2 n ⟨s0, s1, s2, s3⟩ _ HS.out, Tag.rfN_none 2 n ⟨s0, s1, s2, s3⟩ _ HS.out, Tag.rfN_none 2 n ⟨s0, s1, s2, s3⟩ _ HS.out, Tag.rfN_none 2 n ⟨s0, s1, s2, s3⟩ _ HS.out]
      case measure => simp [intOf]; omega
end Go.Proofs.Ytcpgfogijdmaoaa
