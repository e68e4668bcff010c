/- LAYER 9's walks: hasNought, argsStand, shortStands. -/
import Derived.Test.YtaepjlaegldkhaaFee
namespace Go.Proofs.Ytaepjlaegldkhaa
open Go.ChangeShapes Go.WideShapes Go.ChangeAt Go.RowKit

set_option maxHeartbeats 1000000 in
set_option maxRecDepth 100000 in
theorem hasNought_c (s : ByteArray) (w : World) : Calls Try.prog 52 #[.string s] w fun e w' => e = .returned (.bool (Fee.nul s)) ∧ w' = w := by
  go_enter Try.func52, Try.ntmps52
  go_wp2_with fail
  refine (Any.strings_IndexByte Try.lays137 s 0 w).mono ?_
  rintro e w1 ⟨rfl, rfl⟩
  go_wp2_with fail
  go_returns
  exact ⟨rfl, rfl⟩
set_option maxHeartbeats 1000000 in
set_option maxRecDepth 100000 in
theorem argsStand_c (v : Value) (l : List ByteArray) (w : World) (hv : TxS w v l) : Calls Try.prog 48 #[v] w fun e w' => e = .returned (.bool (Fee.argsOk l)) ∧ Bw w w' := by
  obtain ⟨q, cap, rfl, hc1, hc2, hcell⟩ := RdR.at1 hv
  generalize hR : Fee.argsOk l = R
  unfold Fee.argsOk at hR
  by_cases h8 : 16 < l.length
  · rw [decide_eq_false (by omega), Bool.false_and] at hR
    have h8i : (16 : Int) < l.length := by omega
    subst hR
    go_enter Try.func48, Try.ntmps48
    go_wp2_with fail
    go_returns
    exact ⟨rfl, by (repeat' (first | (with_reducible assumption) | (with_reducible exact Bw.refl _) | (with_reducible refine Bw.alloc ?_ _) | (with_reducible refine Bw.drew ?_) | (with_reducible refine Bw.drewN ?_ _) | (with_reducible refine Bw.setCell ?_ ?_ _) | exact Nat.le_refl _))⟩
  rw [decide_eq_true (by omega), Bool.true_and] at hR
  have h8i : (l.length : Int) ≤ 16 := by omega
  have HR : Hid _ := hR
  clear hR hv
  go_enter Try.func48, Try.ntmps48
  go_wp2_with fail
  go_loopg [10] l.length (fun g j wr => ∃ k : Nat, k + g = l.length ∧ j = .int .i64 k ∧ Bw w wr ∧ (l.drop k).all Fee.argOk = R)
  case atStart => exact ⟨0, by omega, rfl, Bw.refl _, HR⟩
  case round =>
    obtain ⟨k, hkg, rfl, hbw, hrun⟩ := hrel
    have HRun : Hid _ := hrun
    clear hrun HR
    by_cases hk : k = l.length
    · subst hk
      have hRe : Hid (true = R) := by rw [List.drop_length] at HRun; exact HRun
      go_wp2_with fail
      go_returns
      exact ret_bool hRe hbw
    · have hkl : k < l.length := by omega
      have hki : (k : Int) < (l.length : Int) := by omega
      obtain ⟨s, hs, hd⟩ := dropAt hkl
      rw [hd, List.all_cons] at HRun
      obtain ⟨b, o, rfl, hb, c0⟩ := hcell k s hs
      replace c0 := hbw.keep c0
      have hN := hasNought_c s
      unfold Fee.argOk at HRun
      clear hd hs
      by_cases h2 : 200 < s.size
      · rw [decide_eq_false (by omega), Bool.false_and, Bool.false_and] at HRun
        have h2i : (200 : Int) < s.size := by omega
        obtain rfl : false = R := HRun
        go_wp2_with fail
        go_returns
        exact ⟨rfl, hbw⟩
      · rw [decide_eq_true (by omega), Bool.true_and] at HRun
        have h2i : (s.size : Int) ≤ 200 := by omega
        cases hnu : Fee.nul s with
        | true =>
          rw [hnu] at HRun hN
          obtain rfl : false = R := HRun
          go_wp2_with (go_at_call 52; refine (hN _).mono ?_; rintro e w2 ⟨rfl, rfl⟩)
          go_returns
          exact ⟨rfl, hbw⟩
        | false =>
          rw [hnu, Bool.not_false, Bool.true_and] at HRun
          rw [hnu] at hN
          go_wp2_with (go_at_call 52; refine (hN _).mono ?_; rintro e w2 ⟨rfl, rfl⟩)
          go_roundg (l.length - (k + 1))
          case measure => omega
          case rel => exact ⟨k + 1, by omega, by simp, hbw, HRun⟩
set_option maxHeartbeats 1000000 in
set_option maxRecDepth 100000 in
theorem shortStands_c (v : Value) (l : List Int) (w : World) (hv : NsS w v l) : Calls Try.prog 49 #[v] w fun e w' => e = .returned (.bool (Fee.shortOk l)) ∧ Bw w w' := by
  obtain ⟨q, cap, rfl, hc1, hc2, hcell⟩ := RdR.at1 hv
  generalize hR : Fee.shortOk l = R
  unfold Fee.shortOk at hR
  by_cases h8 : 64 < l.length
  · rw [decide_eq_false (by omega), Bool.false_and] at hR
    have h8i : (64 : Int) < l.length := by omega
    subst hR
    go_enter Try.func49, Try.ntmps49
    go_wp2_with fail
    go_returns
    exact ⟨rfl, by (repeat' (first | (with_reducible assumption) | (with_reducible exact Bw.refl _) | (with_reducible refine Bw.alloc ?_ _) | (with_reducible refine Bw.drew ?_) | (with_reducible refine Bw.drewN ?_ _) | (with_reducible refine Bw.setCell ?_ ?_ _) | exact Nat.le_refl _))⟩
  rw [decide_eq_true (by omega), Bool.true_and] at hR
  have h8i : (l.length : Int) ≤ 64 := by omega
  have HR : Hid _ := hR
  clear hR hv
  go_enter Try.func49, Try.ntmps49
  go_wp2_with fail
  go_loopg [10] l.length (fun g j wr => ∃ k : Nat, k + g = l.length ∧ j = .int .i64 k ∧ Bw w wr ∧ (l.drop k).all Fee.shOk = R)
  case atStart => exact ⟨0, by omega, rfl, Bw.refl _, HR⟩
  case round =>
    obtain ⟨k, hkg, rfl, hbw, hrun⟩ := hrel
    have HRun : Hid _ := hrun
    clear hrun HR
    by_cases hk : k = l.length
    · subst hk
      have hRe : Hid (true = R) := by rw [List.drop_length] at HRun; exact HRun
      go_wp2_with fail
      go_returns
      exact ret_bool hRe hbw
    · have hkl : k < l.length := by omega
      have hki : (k : Int) < (l.length : Int) := by omega
      obtain ⟨n, hs, hd⟩ := dropAt hkl
      rw [hd, List.all_cons] at HRun
      obtain ⟨b, o, rfl, hb, c0⟩ := hcell k n hs
      replace c0 := hbw.keep c0
      unfold Fee.shOk at HRun
      clear hd hs
      by_cases h2 : n < 0
      · rw [decide_eq_false (by omega), Bool.false_and, Bool.false_and] at HRun
        obtain rfl : false = R := HRun
        go_wp2_with fail
        go_returns
        exact ⟨rfl, hbw⟩
      · rw [decide_eq_true (by omega), Bool.true_and] at HRun
        by_cases h3 : 4096 < n
        · rw [decide_eq_false (by omega), Bool.false_and] at HRun
          obtain rfl : false = R := HRun
          go_wp2_with fail
          go_returns
          exact ⟨rfl, hbw⟩
        · rw [decide_eq_true (by omega), Bool.true_and] at HRun
          go_wp2_with fail
          go_roundg (l.length - (k + 1))
          case measure => omega
          case rel => exact ⟨k + 1, by omega, by simp, hbw, HRun⟩
end Go.Proofs.Ytaepjlaegldkhaa
