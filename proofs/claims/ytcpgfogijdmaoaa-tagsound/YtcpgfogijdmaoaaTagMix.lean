/- THE WALK OF mix: a number whose labelled bytes are another's. -/
import Derived.Test.YtcpgfogijdmaoaaTagB
import Derived.Test.YtcpgfogijdmaoaaTagSound3
import Derived.Laws.BitsAllLaws
namespace Go.Proofs.Ytcpgfogijdmaoaa
open Go.ChangeShapes Go.WideShapes Go.ChangeAt Go.RowKit
set_option linter.unusedSimpArgs false

theorem mask_u32 {c : Int} (h : Alu.U32 c) (m : Nat) (hm : m < 4) : bits .and .u32 c (255 * 2 ^ (8 * m)) = Tag.by4 c m * 2 ^ (8 * m) := by
  obtain ⟨c, rfl⟩ := Int.eq_ofNat_of_zero_le h.1
  have h2 := h.2
  have e : (255 * 2 ^ (8 * m) : Int) = ((255 * 2 ^ (8 * m) : Nat) : Int) := by simp
  have hb : 255 * 2 ^ (8 * m) < 4294967296 := by
    rcases Tag.four hm with rfl | rfl | rfl | rfl <;> decide
  rw [e, u32_and_nat _ _ (by omega) hb, Tag.nat_mask, Tag.by4_nat]
  simp
theorem join_u32 {x z : Int} (m : Nat) (hm : m < 4) (hx0 : 0 ≤ x) (hx : x < 2 ^ (8 * m)) (hz0 : 0 ≤ z) (hz : z < 256) : bits .or .u32 x (z * 2 ^ (8 * m)) = x + z * 2 ^ (8 * m) := by
  obtain ⟨x, rfl⟩ := Int.eq_ofNat_of_zero_le hx0
  obtain ⟨z, rfl⟩ := Int.eq_ofNat_of_zero_le hz0
  have e : ((z : Int) * 2 ^ (8 * m)) = ((z * 2 ^ (8 * m) : Nat) : Int) := by simp
  have hx' : x < 2 ^ (8 * m) := by
    have : ((2 ^ (8 * m) : Nat) : Int) = 2 ^ (8 * m) := by simp
    omega
  have hb : z * 2 ^ (8 * m) < 4294967296 ∧ x < 4294967296 := by
    rcases Tag.four hm with rfl | rfl | rfl | rfl <;> simp at hx' ⊢ <;> omega
  rw [e, u32_or_nat _ _ hb.2 hb.1, Nat.or_comm, nat_join (8 * m) _ _ (by simp) hx', Nat.add_comm]
  simp
theorem step_yes {a c : Int} {s0 s1 s2 s3 l : BitVec 8} (hc : Alu.U32 c) (m : Nat) (hm : m < 4) (h : ¬ Tag.g4 s0 s1 s2 s3 m &&& l = 0#8) :
    bits .or .u32 (Tag.mixN a c s0 s1 s2 s3 l m) (bits .and .u32 c (255 * 2 ^ (8 * m))) = Tag.mixN a c s0 s1 s2 s3 l (m + 1) := by
  have b := Tag.mix_bd a c s0 s1 s2 s3 l m (by omega)
  have z := Tag.by4_bd c m
  rw [mask_u32 hc m hm, join_u32 m hm b.1 b.2 z.1 z.2, Tag.mixN, Tag.zb, if_neg h]
theorem step_no {a c : Int} {s0 s1 s2 s3 l : BitVec 8} (ha : Alu.U32 a) (m : Nat) (hm : m < 4) (h : Tag.g4 s0 s1 s2 s3 m &&& l = 0#8) :
    bits .or .u32 (Tag.mixN a c s0 s1 s2 s3 l m) (bits .and .u32 a (255 * 2 ^ (8 * m))) = Tag.mixN a c s0 s1 s2 s3 l (m + 1) := by
  have b := Tag.mix_bd a c s0 s1 s2 s3 l m (by omega)
  have z := Tag.by4_bd a m
  rw [mask_u32 ha m hm, join_u32 m hm b.1 b.2 z.1 z.2, Tag.mixN, Tag.zb, if_pos h]
theorem lab_ne {x l : BitVec 8} (h : ¬ x &&& l = 0#8) : (bits .and .u8 (Tag.b8 x) (Tag.b8 l) != 0) = true := by
  rw [Tag.and_all, Tag.n_b8, bne_iff_ne]; intro e; exact h ((Tag.b8_ze _).1 e)
theorem lab_eq {x l : BitVec 8} (h : x &&& l = 0#8) : (bits .and .u8 (Tag.b8 x) (Tag.b8 l) != 0) = false := by
  rw [Tag.and_all, Tag.n_b8, h, Tag.b8_0]; rfl
theorem lab_eq' {x l : BitVec 8} (h : x &&& l = 0#8) : (bits .and .u8 (Tag.b8 x) (Tag.b8 l) == 0) = true := by
  rw [Tag.and_all, Tag.n_b8, h, Tag.b8_0]; rfl
theorem lab_ne' {x l : BitVec 8} (h : ¬ x &&& l = 0#8) : (bits .and .u8 (Tag.b8 x) (Tag.b8 l) == 0) = false := by
  rw [Tag.and_all, Tag.n_b8, beq_eq_false_iff_ne]; intro e; exact h ((Tag.b8_ze _).1 e)

set_option maxHeartbeats 2000000 in
theorem mix_c (a c : Int) (s0 s1 s2 s3 l : BitVec 8) (ha : Alu.U32 a) (hc : Alu.U32 c) (w : World) :
    Calls Try.prog 25 #[.int .u32 a, .int .u32 c, .agg #[.int .u8 (Tag.b8 s0), .int .u8 (Tag.b8 s1), .int .u8 (Tag.b8 s2), .int .u8 (Tag.b8 s3)], .int .u8 (Tag.b8 l)] w fun e w' => e = .returned (.int .u32 (Tag.mixN a c s0 s1 s2 s3 l 4)) ∧ Gr w w' := by
  go_enter Try.func25, Try.ntmps25
  go_wp2
  go_loop [9, 10] (fun v i => ∃ m : Nat, m ≤ 4 ∧ i = .int .i64 m ∧ v = .int .u32 (Tag.mixN a c s0 s1 s2 s3 l m)) (fun _ i => 4 - (intOf i).toNat)
  case atStart => exact ⟨0, by omega, rfl, rfl⟩
  case round =>
    obtain ⟨m, hm, rfl, rfl⟩ := hrel
    by_cases hm4 : m = 4
    · subst hm4
      go_wp2
      go_ret
      refine ⟨rfl, ?_⟩
      (repeat' (first | (with_reducible assumption) | (with_reducible exact Gr.refl _) | (with_reducible refine Gr.alloc ?_ _ _) | (with_reducible refine Gr.drew ?_) | (with_reducible refine Gr.drewN ?_ _) | (with_reducible refine Gr.setCell ?_ ?_ _) | (with_reducible refine Gr.trans ?_ (by assumption)) | omega | (dsimp only; omega) | (simp; done) | (simp; omega)))
    have h4 : m = 0 ∨ m = 1 ∨ m = 2 ∨ m = 3 := by omega
    clear hm4 hm
    rcases h4 with rfl | rfl | rfl | rfl
    · by_cases h : s0 &&& l = 0#8
      · have e := lab_eq h
        have H : Hid (bits .or .u32 (Tag.mixN a c s0 s1 s2 s3 l 0) (bits .and .u32 a 255) = Tag.mixN a c s0 s1 s2 s3 l 1) := step_no ha 0 (by omega) h
        clear h
        go_wp2
        go_round
        case rel => exact ⟨1, by omega, rfl, congrArg (Value.int IntKind.u32) H.out⟩
        case measure => simp [intOf]
      · have e := lab_ne h
        have H : Hid (bits .or .u32 (Tag.mixN a c s0 s1 s2 s3 l 0) (bits .and .u32 c 255) = Tag.mixN a c s0 s1 s2 s3 l 1) := step_yes hc 0 (by omega) h
        clear h
        go_wp2
        go_round
        case rel => exact ⟨1, by omega, rfl, congrArg (Value.int IntKind.u32) H.out⟩
        case measure => simp [intOf]
    · by_cases h : s1 &&& l = 0#8
      · have e := lab_eq h
        have H : Hid (bits .or .u32 (Tag.mixN a c s0 s1 s2 s3 l 1) (bits .and .u32 a 65280) = Tag.mixN a c s0 s1 s2 s3 l 2) := step_no ha 1 (by omega) h
        clear h
        go_wp2
        go_round
        case rel => exact ⟨2, by omega, rfl, congrArg (Value.int IntKind.u32) H.out⟩
        case measure => simp [intOf]
      · have e := lab_ne h
        have H : Hid (bits .or .u32 (Tag.mixN a c s0 s1 s2 s3 l 1) (bits .and .u32 c 65280) = Tag.mixN a c s0 s1 s2 s3 l 2) := step_yes hc 1 (by omega) h
        clear h
        go_wp2
        go_round
        case rel => exact ⟨2, by omega, rfl, congrArg (Value.int IntKind.u32) H.out⟩
        case measure => simp [intOf]
    · by_cases h : s2 &&& l = 0#8
      · have e := lab_eq h
        have H : Hid (bits .or .u32 (Tag.mixN a c s0 s1 s2 s3 l 2) (bits .and .u32 a 16711680) = Tag.mixN a c s0 s1 s2 s3 l 3) := step_no ha 2 (by omega) h
        clear h
        go_wp2
        go_round
        case rel => exact ⟨3, by omega, rfl, congrArg (Value.int IntKind.u32) H.out⟩
        case measure => simp [intOf]
      · have e := lab_ne h
        have H : Hid (bits .or .u32 (Tag.mixN a c s0 s1 s2 s3 l 2) (bits .and .u32 c 16711680) = Tag.mixN a c s0 s1 s2 s3 l 3) := step_yes hc 2 (by omega) h
        clear h
        go_wp2
        go_round
        case rel => exact ⟨3, by omega, rfl, congrArg (Value.int IntKind.u32) H.out⟩
        case measure => simp [intOf]
    · by_cases h : s3 &&& l = 0#8
      · have e := lab_eq h
        have H : Hid (bits .or .u32 (Tag.mixN a c s0 s1 s2 s3 l 3) (bits .and .u32 a 4278190080) = Tag.mixN a c s0 s1 s2 s3 l 4) := step_no ha 3 (by omega) h
        clear h
        go_wp2
        go_round
        case rel => exact ⟨4, by omega, rfl, congrArg (Value.int IntKind.u32) H.out⟩
        case measure => simp [intOf]
      · have e := lab_ne h
        have H : Hid (bits .or .u32 (Tag.mixN a c s0 s1 s2 s3 l 3) (bits .and .u32 c 4278190080) = Tag.mixN a c s0 s1 s2 s3 l 4) := step_yes hc 3 (by omega) h
        clear h
        go_wp2
        go_round
        case rel => exact ⟨4, by omega, rfl, congrArg (Value.int IntKind.u32) H.out⟩
        case measure => simp [intOf]
end Go.Proofs.Ytcpgfogijdmaoaa
