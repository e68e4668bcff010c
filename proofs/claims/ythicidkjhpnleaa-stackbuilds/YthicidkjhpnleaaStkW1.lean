/- LAYER 10's walks: anyHasNought, roomOf, spBelow, putWord. -/
import Derived.Test.YthicidkjhpnleaaStk
namespace Go.Proofs.Ythicidkjhpnleaa
open Go.ChangeShapes Go.WideShapes Go.ChangeAt Go.RowKit
set_option linter.unusedSimpArgs false

set_option maxHeartbeats 1000000 in
set_option maxRecDepth 100000 in
theorem anyNought_c (v : Value) (l : List ByteArray) (w : World) (hv : TxS w v l) : Calls Try.prog 18 #[v] w fun e w' => e = .returned (.bool (l.any Fee.nul)) ∧ Bw w w' := by
  obtain ⟨q, cap, rfl, hc1, hc2, hcell⟩ := RdR.at1 hv
  generalize hR : l.any Fee.nul = R
  have HR : Hid _ := hR
  clear hR hv
  go_enter Try.func18, Try.ntmps18
  go_wp2_with fail
  go_loopg [7] l.length (fun g j wr => ∃ k : Nat, k + g = l.length ∧ j = .int .i64 k ∧ Bw w wr ∧ (l.drop k).any Fee.nul = R)
  case atStart => exact ⟨0, by omega, rfl, Bw.refl _, HR⟩
  case round =>
    obtain ⟨k, hkg, rfl, hbw, hrun⟩ := hrel
    have HRun : Hid _ := hrun
    clear hrun HR
    by_cases hk : k = l.length
    · subst hk
      have hRe : Hid (false = R) := by rw [List.drop_length] at HRun; exact HRun
      go_wp2_with fail
      go_returns
      exact ret_bool hRe hbw
    · have hkl : k < l.length := by omega
      have hki : (k : Int) < (l.length : Int) := by omega
      obtain ⟨s, hs, hd⟩ := dropAt hkl
      rw [hd, List.any_cons] at HRun
      obtain ⟨b, o, rfl, hb, c0⟩ := hcell k s hs
      replace c0 := hbw.keep c0
      clear hd hs
      have hN := Any.strings_IndexByte Try.lays137 s 0
      unfold Fee.nul at HRun
      by_cases hnu : 0 ≤ Lib.indexByte s.data.toList 0
      · rw [decide_eq_true hnu, Bool.true_or] at HRun
        obtain rfl : true = R := HRun
        go_wp2_with fail
        refine (hN _).mono ?_
        rintro e w1 ⟨rfl, rfl⟩
        go_wp2_with fail
        go_returns
        exact ⟨rfl, hbw⟩
      · rw [decide_eq_false hnu, Bool.false_or] at HRun
        go_wp2_with fail
        refine (hN _).mono ?_
        rintro e w1 ⟨rfl, rfl⟩
        go_wp2_with fail
        go_roundg (l.length - (k + 1))
        case measure => omega
        case rel => exact ⟨k + 1, by omega, by simp, hbw, HRun⟩
theorem Stk.sum_le {l : List ByteArray} {m : Nat} (h : ∀ s ∈ l, s.size ≤ m) : Stk.sum l ≤ m * l.length := by
  induction l with
  | nil => simp [Stk.sum]
  | cons s r ih =>
    have h1 := h s (by simp)
    have h2 := ih (fun s hs => h s (by simp [hs]))
    rw [List.length_cons, Nat.mul_add, Nat.mul_one]
    unfold Stk.sum
    omega
set_option maxHeartbeats 1000000 in
set_option maxRecDepth 100000 in
theorem roomOf_c (v : Value) (l : List ByteArray) (w : World) (hv : TxS w v l) (hl : Stk.room l ≤ 1000000000) : Calls Try.prog 19 #[v] w fun e w' => e = .returned (.int .i64 (Stk.room l)) ∧ Bw w w' := by
  obtain ⟨q, cap, rfl, hc1, hc2, hcell⟩ := RdR.at1 hv
  rw [Stk.room_sum] at hl ⊢
  go_enter Try.func19, Try.ntmps19
  go_wp2_with fail
  go_loopg [3, 10] l.length (fun g x j wr => ∃ k m : Nat, k + g = l.length ∧ j = .int .i64 k ∧ x = .int .i64 m ∧ Bw w wr ∧ m + Stk.sum (l.drop k) = l.length + Stk.sum l)
  case atStart => exact ⟨0, l.length, by omega, rfl, rfl, Bw.refl _, rfl⟩
  case round =>
    obtain ⟨k, m, hkg, rfl, rfl, hbw, hrun⟩ := hrel
    by_cases hk : k = l.length
    · subst hk
      rw [List.drop_length] at hrun
      obtain rfl : m = l.length + Stk.sum l := by
        have : Stk.sum [] = 0 := rfl
        omega
      go_wp2_with fail
      go_returns
      exact ⟨rfl, hbw⟩
    · have hkl : k < l.length := by omega
      have hki : (k : Int) < (l.length : Int) := by omega
      obtain ⟨s, hs, hd⟩ := dropAt hkl
      rw [hd, show Stk.sum (s :: l.drop (k + 1)) = s.size + Stk.sum (l.drop (k + 1)) from rfl] at hrun
      obtain ⟨b, o, rfl, hb, c0⟩ := hcell k s hs
      replace c0 := hbw.keep c0
      clear hd hs
      go_wp2_with fail
      go_roundg (l.length - (k + 1))
      case measure => omega
      case rel => exact ⟨k + 1, m + s.size, by omega, by simp, by simp, hbw, by omega⟩
set_option maxHeartbeats 1000000 in
set_option maxRecDepth 100000 in
theorem spBelow_c (f n : Nat) (w : World) (h1 : f ≤ 4096) (h2 : n ≤ 16) (h3 : 4 * (n + 3) ≤ f) : Calls Try.prog 21 #[.int .i64 f, .int .i64 n] w fun e w' => e = .returned (.int .i64 ((f - 4 * (n + 3)) / 16 * 16 : Nat)) ∧ w' = w := by
  go_enter Try.func21, Try.ntmps21
  go_wp2_with fail
  go_returns
  refine ⟨congrArg Ending.returned (congrArg (Value.int .i64) (?_ : (f : Int) - 4 * (1 + (n : Int) + 2) - ((f : Int) - 4 * (1 + (n : Int) + 2)) % 16 = _)), rfl⟩
  omega
set_option maxHeartbeats 1000000 in
set_option maxRecDepth 100000 in
theorem addrOf_c (f : Nat) (w : World) (h1 : f ≤ 4096) : Calls Try.prog 23 #[.int .i64 f] w fun e w' => e = .returned (.int .u32 (2147475456 + (f : Int))) ∧ w' = w := by
  go_enter Try.func23, Try.ntmps23
  go_wp2_with fail
  go_returns
  refine ⟨?_, rfl⟩
  first | rfl | (congr 2; omega)
end Go.Proofs.Ythicidkjhpnleaa
