/- LAYER 5's law RvKinds. -/
import Derived.Test.YtfemillfcnhohaaDoorRvLaws
import Derived.Deep.RegionHeld3
namespace Go.Proofs.YtfemillfcnhohaaDoor
open Go.ChangeShapes Go.WideShapes Go.ChangeAt Go.RowKit

set_option maxHeartbeats 1600000 in
theorem RvKinds_w (op : Int) (hop : -9223372036854775808 ≤ op ∧ op ≤ 9223372036854775807) (w : World) (ht : Tabs w) (hn : NTab w) (hk : KTab w) :
    Calls Tryd.prog 9 #[.int .i64 op] w fun e w' => e = .returned (.bool true) ∧ Gr w w' := by
  obtain h | h | h | h | h | h | h | h | h | h | h : op < 19 ∨ 45 < op ∨ (28 ≤ op ∧ op ≤ 45) ∨ op = 19 ∨ op = 20 ∨ op = 21 ∨ op = 22 ∨ op = 23 ∨ op = 24 ∨ op = 25 ∨ (op = 26 ∨ op = 27) := by omega
  · have kb : Rv.kb op = false := by unfold Rv.kb; simp; omega
    have kd : Rv.kd op = 0 := by unfold Rv.kd; rw [if_neg (by omega), if_neg (by omega)]
    go_enter Tryd.func9, Tryd.ntmps9
    go_wp2_with fail
    refine (awake5_c _ ht hn).mono ?_
    rintro e w1 ⟨rfl, g1⟩
    go_wp2_with fail
    refine (Kind_c _ hop _ (hk.gr g1)).mono ?_
    rintro e w2 ⟨rfl, rfl⟩
    rw [kb, kd]
    go_wp2_with fail
    go_ret
    exact ⟨by first | rfl | exact Rv.ret_bool (by decide +kernel), g1⟩
  · have kb : Rv.kb op = false := by unfold Rv.kb; simp; omega
    have kd : Rv.kd op = 0 := by unfold Rv.kd; rw [if_neg (by omega), if_neg (by omega)]
    go_enter Tryd.func9, Tryd.ntmps9
    go_wp2_with fail
    refine (awake5_c _ ht hn).mono ?_
    rintro e w1 ⟨rfl, g1⟩
    go_wp2_with fail
    refine (Kind_c _ hop _ (hk.gr g1)).mono ?_
    rintro e w2 ⟨rfl, rfl⟩
    rw [kb, kd]
    go_wp2_with fail
    go_ret
    exact ⟨by first | rfl | exact Rv.ret_bool (by decide +kernel), g1⟩
  · have kb : Rv.kb op = true := by unfold Rv.kb; simp; omega
    have kd : Rv.kd op = op - 28 := by unfold Rv.kd; rw [if_neg (by omega), if_pos h]
    obtain ⟨h0, h1⟩ := h
    go_enter Tryd.func9, Tryd.ntmps9
    go_wp2_with fail
    refine (awake5_c _ ht hn).mono ?_
    rintro e w1 ⟨rfl, g1⟩
    go_wp2_with fail
    refine (Kind_c _ hop _ (hk.gr g1)).mono ?_
    rintro e w2 ⟨rfl, rfl⟩
    rw [kb, kd]
    go_wp2_with fail
    go_ret
    exact ⟨by first | rfl | exact Rv.ret_bool (by decide +kernel), g1⟩
  · subst h
    have kb : Rv.kb 19 = true := by decide
    have kd : Rv.kd 19 = 0 := by decide
    have n1 : Rv.name 19 = ⟨#[97, 100, 100, 105]⟩ := by decide +kernel
    have n2 : Rv.name 28 = ⟨#[97, 100, 100]⟩ := by decide +kernel
    go_enter Tryd.func9, Tryd.ntmps9
    go_wp2_with fail
    refine (awake5_c _ ht hn).mono ?_
    rintro e w1 ⟨rfl, g1⟩
    go_wp2_with fail
    refine (Kind_c _ hop _ (hk.gr g1)).mono ?_
    rintro e w2 ⟨rfl, rfl⟩
    rw [kb, kd]
    go_wp2_with fail
    refine (Name_c 19 _ (hn.gr g1)).mono ?_
    rintro e w3 ⟨rfl, rfl⟩
    rw [n1]
    go_wp2_with fail
    refine (Name_c 28 _ (hn.gr g1)).mono ?_
    rintro e w4 ⟨rfl, rfl⟩
    rw [n2]
    go_wp2_with fail
    go_ret
    exact ⟨by first | rfl | exact Rv.ret_bool (by decide +kernel), g1⟩
  · subst h
    have kb : Rv.kb 20 = true := by decide
    have kd : Rv.kd 20 = 3 := by decide
    have n1 : Rv.name 20 = ⟨#[115, 108, 116, 105]⟩ := by decide +kernel
    have n2 : Rv.name 31 = ⟨#[115, 108, 116]⟩ := by decide +kernel
    go_enter Tryd.func9, Tryd.ntmps9
    go_wp2_with fail
    refine (awake5_c _ ht hn).mono ?_
    rintro e w1 ⟨rfl, g1⟩
    go_wp2_with fail
    refine (Kind_c _ hop _ (hk.gr g1)).mono ?_
    rintro e w2 ⟨rfl, rfl⟩
    rw [kb, kd]
    go_wp2_with fail
    refine (Name_c 20 _ (hn.gr g1)).mono ?_
    rintro e w3 ⟨rfl, rfl⟩
    rw [n1]
    go_wp2_with fail
    refine (Name_c 31 _ (hn.gr g1)).mono ?_
    rintro e w4 ⟨rfl, rfl⟩
    rw [n2]
    go_wp2_with fail
    go_ret
    exact ⟨by first | rfl | exact Rv.ret_bool (by decide +kernel), g1⟩
  · subst h
    have kb : Rv.kb 21 = true := by decide
    have kd : Rv.kd 21 = 4 := by decide
    have n1 : Rv.name 21 = ⟨#[115, 108, 116, 105, 117]⟩ := by decide +kernel
    have n2 : Rv.name 32 = ⟨#[115, 108, 116, 117]⟩ := by decide +kernel
    go_enter Tryd.func9, Tryd.ntmps9
    go_wp2_with fail
    refine (awake5_c _ ht hn).mono ?_
    rintro e w1 ⟨rfl, g1⟩
    go_wp2_with fail
    refine (Kind_c _ hop _ (hk.gr g1)).mono ?_
    rintro e w2 ⟨rfl, rfl⟩
    rw [kb, kd]
    go_wp2_with fail
    refine (Name_c 21 _ (hn.gr g1)).mono ?_
    rintro e w3 ⟨rfl, rfl⟩
    rw [n1]
    go_wp2_with fail
    refine (Name_c 32 _ (hn.gr g1)).mono ?_
    rintro e w4 ⟨rfl, rfl⟩
    rw [n2]
    go_wp2_with fail
    go_ret
    exact ⟨by first | rfl | exact Rv.ret_bool (by decide +kernel), g1⟩
  · subst h
    have kb : Rv.kb 22 = true := by decide
    have kd : Rv.kd 22 = 5 := by decide
    have n1 : Rv.name 22 = ⟨#[120, 111, 114, 105]⟩ := by decide +kernel
    have n2 : Rv.name 33 = ⟨#[120, 111, 114]⟩ := by decide +kernel
    go_enter Tryd.func9, Tryd.ntmps9
    go_wp2_with fail
    refine (awake5_c _ ht hn).mono ?_
    rintro e w1 ⟨rfl, g1⟩
    go_wp2_with fail
    refine (Kind_c _ hop _ (hk.gr g1)).mono ?_
    rintro e w2 ⟨rfl, rfl⟩
    rw [kb, kd]
    go_wp2_with fail
    refine (Name_c 22 _ (hn.gr g1)).mono ?_
    rintro e w3 ⟨rfl, rfl⟩
    rw [n1]
    go_wp2_with fail
    refine (Name_c 33 _ (hn.gr g1)).mono ?_
    rintro e w4 ⟨rfl, rfl⟩
    rw [n2]
    go_wp2_with fail
    go_ret
    exact ⟨by first | rfl | exact Rv.ret_bool (by decide +kernel), g1⟩
  · subst h
    have kb : Rv.kb 23 = true := by decide
    have kd : Rv.kd 23 = 8 := by decide
    have n1 : Rv.name 23 = ⟨#[111, 114, 105]⟩ := by decide +kernel
    have n2 : Rv.name 36 = ⟨#[111, 114]⟩ := by decide +kernel
    go_enter Tryd.func9, Tryd.ntmps9
    go_wp2_with fail
    refine (awake5_c _ ht hn).mono ?_
    rintro e w1 ⟨rfl, g1⟩
    go_wp2_with fail
    refine (Kind_c _ hop _ (hk.gr g1)).mono ?_
    rintro e w2 ⟨rfl, rfl⟩
    rw [kb, kd]
    go_wp2_with fail
    refine (Name_c 23 _ (hn.gr g1)).mono ?_
    rintro e w3 ⟨rfl, rfl⟩
    rw [n1]
    go_wp2_with fail
    refine (Name_c 36 _ (hn.gr g1)).mono ?_
    rintro e w4 ⟨rfl, rfl⟩
    rw [n2]
    go_wp2_with fail
    go_ret
    exact ⟨by first | rfl | exact Rv.ret_bool (by decide +kernel), g1⟩
  · subst h
    have kb : Rv.kb 24 = true := by decide
    have kd : Rv.kd 24 = 9 := by decide
    have n1 : Rv.name 24 = ⟨#[97, 110, 100, 105]⟩ := by decide +kernel
    have n2 : Rv.name 37 = ⟨#[97, 110, 100]⟩ := by decide +kernel
    go_enter Tryd.func9, Tryd.ntmps9
    go_wp2_with fail
    refine (awake5_c _ ht hn).mono ?_
    rintro e w1 ⟨rfl, g1⟩
    go_wp2_with fail
    refine (Kind_c _ hop _ (hk.gr g1)).mono ?_
    rintro e w2 ⟨rfl, rfl⟩
    rw [kb, kd]
    go_wp2_with fail
    refine (Name_c 24 _ (hn.gr g1)).mono ?_
    rintro e w3 ⟨rfl, rfl⟩
    rw [n1]
    go_wp2_with fail
    refine (Name_c 37 _ (hn.gr g1)).mono ?_
    rintro e w4 ⟨rfl, rfl⟩
    rw [n2]
    go_wp2_with fail
    go_ret
    exact ⟨by first | rfl | exact Rv.ret_bool (by decide +kernel), g1⟩
  · subst h
    have kb : Rv.kb 25 = true := by decide
    have kd : Rv.kd 25 = 2 := by decide
    have n1 : Rv.name 25 = ⟨#[115, 108, 108, 105]⟩ := by decide +kernel
    have n2 : Rv.name 30 = ⟨#[115, 108, 108]⟩ := by decide +kernel
    go_enter Tryd.func9, Tryd.ntmps9
    go_wp2_with fail
    refine (awake5_c _ ht hn).mono ?_
    rintro e w1 ⟨rfl, g1⟩
    go_wp2_with fail
    refine (Kind_c _ hop _ (hk.gr g1)).mono ?_
    rintro e w2 ⟨rfl, rfl⟩
    rw [kb, kd]
    go_wp2_with fail
    refine (Name_c 25 _ (hn.gr g1)).mono ?_
    rintro e w3 ⟨rfl, rfl⟩
    rw [n1]
    go_wp2_with fail
    refine (Name_c 30 _ (hn.gr g1)).mono ?_
    rintro e w4 ⟨rfl, rfl⟩
    rw [n2]
    go_wp2_with fail
    go_ret
    exact ⟨by first | rfl | exact Rv.ret_bool (by decide +kernel), g1⟩
  · rcases h with h | h
    · subst h
      have kb : Rv.kb 26 = true := by decide
      have kd : Rv.kd 26 = 6 := by decide
      have n1 : Rv.name 26 = ⟨#[115, 114, 108, 105]⟩ := by decide +kernel
      have n2 : Rv.name 34 = ⟨#[115, 114, 108]⟩ := by decide +kernel
      go_enter Tryd.func9, Tryd.ntmps9
      go_wp2_with fail
      refine (awake5_c _ ht hn).mono ?_
      rintro e w1 ⟨rfl, g1⟩
      go_wp2_with fail
      refine (Kind_c _ hop _ (hk.gr g1)).mono ?_
      rintro e w2 ⟨rfl, rfl⟩
      rw [kb, kd]
      go_wp2_with fail
      refine (Name_c 26 _ (hn.gr g1)).mono ?_
      rintro e w3 ⟨rfl, rfl⟩
      rw [n1]
      go_wp2_with fail
      refine (Name_c 34 _ (hn.gr g1)).mono ?_
      rintro e w4 ⟨rfl, rfl⟩
      rw [n2]
      go_wp2_with fail
      go_ret
      exact ⟨by first | rfl | exact Rv.ret_bool (by decide +kernel), g1⟩
    · subst h
      have kb : Rv.kb 27 = true := by decide
      have kd : Rv.kd 27 = 7 := by decide
      have n1 : Rv.name 27 = ⟨#[115, 114, 97, 105]⟩ := by decide +kernel
      have n2 : Rv.name 35 = ⟨#[115, 114, 97]⟩ := by decide +kernel
      go_enter Tryd.func9, Tryd.ntmps9
      go_wp2_with fail
      refine (awake5_c _ ht hn).mono ?_
      rintro e w1 ⟨rfl, g1⟩
      go_wp2_with fail
      refine (Kind_c _ hop _ (hk.gr g1)).mono ?_
      rintro e w2 ⟨rfl, rfl⟩
      rw [kb, kd]
      go_wp2_with fail
      refine (Name_c 27 _ (hn.gr g1)).mono ?_
      rintro e w3 ⟨rfl, rfl⟩
      rw [n1]
      go_wp2_with fail
      refine (Name_c 35 _ (hn.gr g1)).mono ?_
      rintro e w4 ⟨rfl, rfl⟩
      rw [n2]
      go_wp2_with fail
      go_ret
      exact ⟨by first | rfl | exact Rv.ret_bool (by decide +kernel), g1⟩
end Go.Proofs.YtfemillfcnhohaaDoor
