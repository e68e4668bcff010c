/- Noughts in texts, by bytes; the reference's noughts. -/
import Derived.Test.YtmecompcffphcaaFee
import Derived.Lib.IndexLaws
namespace Go.Proofs.Ytmecompcffphcaa
open Go.ChangeShapes Go.WideShapes Go.ChangeAt Go.RowKit

theorem Fee.nul_true {s : ByteArray} {k : Nat} (h : s.data.toList[k]? = some 0) : Fee.nul s = true := by
  unfold Fee.nul
  rw [decide_eq_true_eq]
  have h1 := Lib.indexByte_ge s.data.toList 0
  apply Decidable.byContradiction
  intro hn
  exact Lib.indexByte_none (by omega) k h
theorem Fee.nul_false {s : ByteArray} (h : ∀ k : Nat, s.data.toList[k]? ≠ some 0) : Fee.nul s = false := by
  unfold Fee.nul
  rw [decide_eq_false_iff_not]
  intro hn
  obtain ⟨o, ho⟩ : ∃ o : Nat, Lib.indexByte s.data.toList 0 = o := ⟨(Lib.indexByte s.data.toList 0).toNat, by omega⟩
  exact h o (Lib.indexByte_some ho).1
theorem size_list (s : ByteArray) : s.data.toList.length = s.size := Array.length_toList
theorem byte_at {s : ByteArray} {i : Nat} {x : UInt8} (h : s.data.toList[i]? = some x) : ∀ hi, s[i]'hi = x := by
  intro hi
  have hl : i < s.data.toList.length := (List.getElem?_eq_some_iff.1 h).1
  rw [List.getElem?_eq_getElem hl] at h
  rw [← Option.some.inj h]
  simp [ByteArray.getElem_eq_getElem_data]
set_option maxHeartbeats 1000000 in
set_option maxRecDepth 100000 in
theorem noughts_c (s : ByteArray) (w : World) (hz : s.size ≤ 1000000) : Calls Try.prog 36 #[.string s] w fun e w' => e = .returned (.bool (Fee.nul s)) ∧ Bw w w' := by
  generalize hR : Fee.nul s = R
  have HR : Hid _ := hR
  clear hR
  go_enter Try.func36, Try.ntmps36
  go_wp2_with fail
  go_loopg [3] s.size (fun g j wr => ∃ k : Nat, k + g = s.size ∧ j = .int .i64 k ∧ Bw w wr ∧ ∀ i, i < k → s.data.toList[i]? ≠ some 0)
  case atStart => exact ⟨0, by omega, rfl, Bw.refl _, fun i h => by omega⟩
  case round =>
    obtain ⟨k, hkg, rfl, hbw, hno⟩ := hrel
    have HNo : Hid _ := hno
    clear hno
    by_cases hk : k = s.size
    · subst hk
      have hR : Hid (false = R) := ((show _ = R from HR).symm.trans (Fee.nul_false (fun i => by
        by_cases hi : i < s.size
        · exact (show ∀ i, i < s.size → s.data.toList[i]? ≠ some 0 from HNo) i hi
        · rw [List.getElem?_eq_none (by rw [size_list]; omega)]; simp))).symm
      go_wp2_with fail
      go_returns
      exact ret_bool hR hbw
    · have hkl : k < s.size := by omega
      have hki : (k : Int) < (s.size : Int) := by omega
      have hkn : ¬ (s.size ≤ k) := by omega
      obtain ⟨x, hx⟩ : ∃ x, s.data.toList[k]? = some x := ⟨_, List.getElem?_eq_getElem (by rw [size_list]; exact hkl)⟩
      have hgx := byte_at hx
      by_cases h0 : x = 0
      · subst h0
        have hR : Hid (true = R) := ((show _ = R from HR).symm.trans (Fee.nul_true hx)).symm
        clear hx HNo
        go_wp2_with fail
        go_returns
        exact ret_bool hR hbw
      · have hx0 : ((x.toNat : Int) == 0) = false := by
          rw [beq_eq_false_iff_ne]
          intro e
          apply h0
          rw [← UInt8.toNat_inj]
          simpa using e
        have hx1 : ¬ (x.toNat = 0) := by simpa using hx0
        have HNo2 : Hid (∀ i, i < k + 1 → s.data.toList[i]? ≠ some 0) := fun i hi => by
          by_cases e : i = k
          · subst e; rw [hx]; simpa using h0
          · exact (show ∀ i, i < k → s.data.toList[i]? ≠ some 0 from HNo) i (by omega)
        clear hx HNo
        go_wp2_with fail
        go_roundg (s.size - (k + 1))
        case measure => omega
        case rel => exact ⟨k + 1, by omega, by simp, hbw, HNo2⟩
end Go.Proofs.Ytmecompcffphcaa
