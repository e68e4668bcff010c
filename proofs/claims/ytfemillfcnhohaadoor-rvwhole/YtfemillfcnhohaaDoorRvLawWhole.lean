/- LAYER 5's laws RvWhole and RvKinds. -/
import Derived.Test.YtfemillfcnhohaaDoorRvLaws
import Derived.Deep.RegionHeld3
namespace Go.Proofs.YtfemillfcnhohaaDoor
open Go.ChangeShapes Go.WideShapes Go.ChangeAt Go.RowKit

def Rv.only (a : Int) : Rv.Ins := ⟨a, 0, 0, 0, 0⟩
theorem Rv.good_only {a : Int} (h : 1 ≤ a ∧ a ≤ 49) : Rv.good (Rv.only a) := by
  unfold Rv.good Rv.only Rv.reg; dsimp only; omega
theorem Rv.name_ne : ∀ a, a < 50 → 0 < a → (Rv.nmS a).toList ≠ [] := by decide +kernel
theorem Rv.name_inj : ∀ a, a < 50 → 0 < a → ∀ b, b < 50 → 0 < b → (Rv.nmS a).toList = (Rv.nmS b).toList → a = b := by decide +kernel

set_option maxHeartbeats 1600000 in
theorem RvWhole_w (a b : Int) (w : World) (ht : Tabs w) (hn : NTab w) :
    Calls Tryd.prog 8 #[.int .i64 a, .int .i64 b] w fun e w' => e = .returned (.bool true) ∧ Gr w w' := by
  by_cases ha : 1 ≤ a ∧ a ≤ 49
  · by_cases hb : 1 ≤ b ∧ b ≤ 49
    · have hE := fun w ht => Encode_good (Rv.only a) w ht ⟨by simp [Rv.only], by simp [Rv.only]⟩ (Rv.good_only ha)
      have hu := Rv.enc_U32 (Rv.good_only ha).1
      have hd := Rv.dec_enc (Rv.good_only ha) ⟨by simp [Rv.only], by simp [Rv.only]⟩
      have hD := fun w ht => Decode_c (Rv.enc (Rv.only a)) hu.1 hu.2 w ht
      rw [hd] at hD
      have na : Rv.name a = Rv.nmS a.toNat := by unfold Rv.name; rw [if_pos ha]
      have nb : Rv.name b = Rv.nmS b.toNat := by unfold Rv.name; rw [if_pos hb]
      have hA := fun w hn => Name_c a w hn
      have hB := fun w hn => Name_c b w hn
      generalize Rv.enc (Rv.only a) = E at *
      have n0 : (Rv.name a).toList.isEmpty = false := by
        have := Rv.name_ne a.toNat (by omega) (by omega)
        rw [← na] at this
        cases h : (Rv.name a).toList.isEmpty
        · rfl
        · exact absurd (by simpa using h) this
      have n1 := Rv.name_inj a.toNat (by omega) (by omega) b.toNat (by omega) (by omega)
      rw [← na, ← nb] at n1
      clear na nb hd
      obtain ⟨a0, a1⟩ := ha
      obtain ⟨b0, b1⟩ := hb
      by_cases hab : a = b
      · subst hab
        clear n1
        go_enter Tryd.func8, Tryd.ntmps8
        go_wp2_with fail
        refine (awake5_c _ ht hn).mono ?_
        rintro e w1 ⟨rfl, g1⟩
        go_wp2_with fail
        refine (hE _ (ht.gr g1)).mono ?_
        rintro e w2 ⟨rfl, h2⟩
        replace g1 := g1.trans h2; clear h2
        go_wp2_with fail
        refine (hA _ (hn.gr g1)).mono ?_
        rintro e w3 ⟨rfl, rfl⟩
        go_wp2_with fail
        refine (hA _ (hn.gr g1)).mono ?_
        rintro e w4 ⟨rfl, rfl⟩
        go_wp2_with fail
        refine (hB _ (hn.gr g1)).mono ?_
        rintro e w5 ⟨rfl, rfl⟩
        go_wp2_with fail
        refine (hD _ (ht.gr g1)).mono ?_
        rintro e w6 ⟨rfl, h2⟩
        unfold Rv.iv Rv.only
        replace g1 := g1.trans h2; clear h2
        go_wp2_with fail
        go_ret
        exact ⟨rfl, g1⟩
      · have eab := Rv.beqF hab
        have nab : ((Rv.name a).toList == (Rv.name b).toList) = false := by
          cases h : ((Rv.name a).toList == (Rv.name b).toList)
          · rfl
          · exact absurd (n1 (by simpa using h)) (by omega)
        clear n1 hab
        go_enter Tryd.func8, Tryd.ntmps8
        go_wp2_with fail
        refine (awake5_c _ ht hn).mono ?_
        rintro e w1 ⟨rfl, g1⟩
        go_wp2_with fail
        refine (hE _ (ht.gr g1)).mono ?_
        rintro e w2 ⟨rfl, h2⟩
        replace g1 := g1.trans h2; clear h2
        go_wp2_with fail
        refine (hA _ (hn.gr g1)).mono ?_
        rintro e w3 ⟨rfl, rfl⟩
        go_wp2_with fail
        refine (hA _ (hn.gr g1)).mono ?_
        rintro e w4 ⟨rfl, rfl⟩
        go_wp2_with fail
        refine (hB _ (hn.gr g1)).mono ?_
        rintro e w5 ⟨rfl, rfl⟩
        go_wp2_with fail
        refine (hD _ (ht.gr g1)).mono ?_
        rintro e w6 ⟨rfl, h2⟩
        unfold Rv.iv Rv.only
        replace g1 := g1.trans h2; clear h2
        go_wp2_with fail
        go_ret
        exact ⟨rfl, g1⟩
    · obtain ⟨a0, a1⟩ := ha
      obtain hb | hb : b < 1 ∨ 49 < b := by omega
      all_goals
        go_enter Tryd.func8, Tryd.ntmps8
        go_wp2_with fail
        refine (awake5_c _ ht hn).mono ?_
        rintro e w1 ⟨rfl, g1⟩
        go_wp2_with fail
        go_ret
        exact ⟨rfl, g1⟩
  · obtain ha | ha : a < 1 ∨ 49 < a := by omega
    all_goals
      go_enter Tryd.func8, Tryd.ntmps8
      go_wp2_with fail
      refine (awake5_c _ ht hn).mono ?_
      rintro e w1 ⟨rfl, g1⟩
      go_wp2_with fail
      go_ret
      exact ⟨rfl, g1⟩
end Go.Proofs.YtfemillfcnhohaaDoor
