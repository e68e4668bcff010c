/- THE WALKS OF LAYER 2, more: shifts. -/
import Derived.Test.YtcpgfogijdmaoaaTagWalks
namespace Go.Proofs.Ytcpgfogijdmaoaa
open Go.ChangeShapes Go.WideShapes Go.ChangeAt Go.RowKit

theorem shifted1_c (k b s0 s1 s2 s3 c : Int) (hc : ¬ c = 0) (w : World) :
    Calls Try.prog 28 #[.int .i64 k, .int .u32 b, .agg #[.int .u8 s0, .int .u8 s1, .int .u8 s2, .int .u8 s3], .int .u8 c] w fun e w' =>
     e = .returned (.tuple #[.agg #[.int .u8 (Tag.shifted k b ⟨s0, s1, s2, s3⟩ c).x0, .int .u8 (Tag.shifted k b ⟨s0, s1, s2, s3⟩ c).x1, .int .u8 (Tag.shifted k b ⟨s0, s1, s2, s3⟩ c).x2, .int .u8 (Tag.shifted k b ⟨s0, s1, s2, s3⟩ c).x3], .int .i64 0]) ∧ Gr w w' := by
  have hE : Tag.shifted k b ⟨s0, s1, s2, s3⟩ c = Tag.fill (Tag.o (Tag.all ⟨s0, s1, s2, s3⟩) c) := by unfold Tag.shifted; rw [if_neg hc]
  rw [hE]
  clear hE
  have e1 : (c != 0) = true := by simpa using hc
  clear hc
  go_enter Try.func28, Try.ntmps28
  go_wp2_with (first
    | (go_at_call 17; refine (All_c _ _ _ _ _).mono ?_; rintro e w1 ⟨rfl, h1⟩; have hc1 := h1.cell; have hf1 := h1.f; have hz1 := h1.size; have hA1 := h1.cellA; have hF1 := h1.frozenA; try simp only [World.size_alloc] at hc1 hz1 hA1 hF1)
    | (go_at_call 14; refine (Fill_c _ _).mono ?_; rintro e w2 ⟨rfl, h2⟩; replace h1 := h1.trans h2; clear hc1 hf1 hz1 hA1 hF1; have hc1 := h1.cell; have hf1 := h1.f; have hz1 := h1.size; have hA1 := h1.cellA; have hF1 := h1.frozenA; try simp only [World.size_alloc] at hc1 hz1 hA1 hF1))
  refine bodyPost_ret (v := .tuple #[.agg #[.int .u8 (Tag.o (Tag.all ⟨s0, s1, s2, s3⟩) c), .int .u8 (Tag.o (Tag.all ⟨s0, s1, s2, s3⟩) c), .int .u8 (Tag.o (Tag.all ⟨s0, s1, s2, s3⟩) c), .int .u8 (Tag.o (Tag.all ⟨s0, s1, s2, s3⟩) c)], .int .i64 0]) (by simp [results, Try.results28, go_sem, hc1, Tag.o]) rfl (And.intro rfl ?_)
  (repeat' (first | (with_reducible exact Gr.refl _) | (with_reducible refine Gr.alloc ?_ _ _) | (with_reducible refine Gr.drew ?_) | (with_reducible refine Gr.drewN ?_ _) | (with_reducible refine Gr.setCell ?_ ?_ _) | (with_reducible refine Gr.trans ?_ (by assumption)) | omega | (dsimp only; omega) | (simp; done) | (simp; omega)))

theorem kinds3 {k : Int} (hk : k = 2 ∨ k = 6 ∨ k = 7) : Alu.err k = 0 := by rcases hk with rfl | rfl | rfl <;> decide
theorem hit0 (k b : Int) (j : Nat) : Tag.hit k b 0 j = (Tag.by4 (Alu.val k 255 b) j != 0) := by unfold Tag.hit; rfl
theorem inn_hit0 (k b : Int) (s : Tag.T4) {j : Nat} (h : (Tag.by4 (Alu.val k 255 b) j != 0) = true) : Tag.inn k b s 0 (j + 1) j = Tag.o (Tag.inn k b s 0 j j) s.x0 := Tag.inn_hit k b s 0 j (by rw [hit0]; exact h)
theorem inn_miss0 (k b : Int) (s : Tag.T4) {j : Nat} (h : (Tag.by4 (Alu.val k 255 b) j != 0) = false) (i : Nat) : Tag.inn k b s 0 (j + 1) i = Tag.inn k b s 0 j i := by
  by_cases e : i = j
  · subst e; exact Tag.inn_miss k b s 0 i (by rw [hit0]; exact h)
  · exact Tag.inn_other k b s 0 e
theorem hit1 (k b : Int) (j : Nat) : Tag.hit k b 1 j = (Tag.by4 (Alu.val k 65280 b) j != 0) := by unfold Tag.hit; rfl
theorem inn_hit1 (k b : Int) (s : Tag.T4) {j : Nat} (h : (Tag.by4 (Alu.val k 65280 b) j != 0) = true) : Tag.inn k b s 1 (j + 1) j = Tag.o (Tag.inn k b s 1 j j) s.x1 := Tag.inn_hit k b s 1 j (by rw [hit1]; exact h)
theorem inn_miss1 (k b : Int) (s : Tag.T4) {j : Nat} (h : (Tag.by4 (Alu.val k 65280 b) j != 0) = false) (i : Nat) : Tag.inn k b s 1 (j + 1) i = Tag.inn k b s 1 j i := by
  by_cases e : i = j
  · subst e; exact Tag.inn_miss k b s 1 i (by rw [hit1]; exact h)
  · exact Tag.inn_other k b s 1 e
theorem hit2 (k b : Int) (j : Nat) : Tag.hit k b 2 j = (Tag.by4 (Alu.val k 16711680 b) j != 0) := by unfold Tag.hit; rfl
theorem inn_hit2 (k b : Int) (s : Tag.T4) {j : Nat} (h : (Tag.by4 (Alu.val k 16711680 b) j != 0) = true) : Tag.inn k b s 2 (j + 1) j = Tag.o (Tag.inn k b s 2 j j) s.x2 := Tag.inn_hit k b s 2 j (by rw [hit2]; exact h)
theorem inn_miss2 (k b : Int) (s : Tag.T4) {j : Nat} (h : (Tag.by4 (Alu.val k 16711680 b) j != 0) = false) (i : Nat) : Tag.inn k b s 2 (j + 1) i = Tag.inn k b s 2 j i := by
  by_cases e : i = j
  · subst e; exact Tag.inn_miss k b s 2 i (by rw [hit2]; exact h)
  · exact Tag.inn_other k b s 2 e
theorem hit3 (k b : Int) (j : Nat) : Tag.hit k b 3 j = (Tag.by4 (Alu.val k 4278190080 b) j != 0) := by unfold Tag.hit; rfl
theorem inn_hit3 (k b : Int) (s : Tag.T4) {j : Nat} (h : (Tag.by4 (Alu.val k 4278190080 b) j != 0) = true) : Tag.inn k b s 3 (j + 1) j = Tag.o (Tag.inn k b s 3 j j) s.x3 := Tag.inn_hit k b s 3 j (by rw [hit3]; exact h)
theorem inn_miss3 (k b : Int) (s : Tag.T4) {j : Nat} (h : (Tag.by4 (Alu.val k 4278190080 b) j != 0) = false) (i : Nat) : Tag.inn k b s 3 (j + 1) i = Tag.inn k b s 3 j i := by
  by_cases e : i = j
  · subst e; exact Tag.inn_miss k b s 3 i (by rw [hit3]; exact h)
  · exact Tag.inn_other k b s 3 e
set_option maxHeartbeats 8000000 in
theorem shifted0_c (k b s0 s1 s2 s3 : Int) (hk : k = 2 ∨ k = 6 ∨ k = 7) (hb : Alu.U32 b) (w : World) :
    Calls Try.prog 28 #[.int .i64 k, .int .u32 b, .agg #[.int .u8 s0, .int .u8 s1, .int .u8 s2, .int .u8 s3], .int .u8 0] w fun e w' =>
     e = .returned (.tuple #[.agg #[.int .u8 (Tag.moved k b ⟨s0, s1, s2, s3⟩).x0, .int .u8 (Tag.moved k b ⟨s0, s1, s2, s3⟩).x1, .int .u8 (Tag.moved k b ⟨s0, s1, s2, s3⟩).x2, .int .u8 (Tag.moved k b ⟨s0, s1, s2, s3⟩).x3], .int .i64 0]) ∧ Gr w w' := by
  have he := kinds3 hk
  clear hk
  have i0 : ∀ w, (Instr.index 24 (.agg #[.int .u8 s0, .int .u8 s1, .int .u8 s2, .int .u8 s3]) (.int .i64 0)).run Try.prog w = .ok (.int .u8 s0) w := fun _ => by kernel_rfl
  have i1 : ∀ w, (Instr.index 24 (.agg #[.int .u8 s0, .int .u8 s1, .int .u8 s2, .int .u8 s3]) (.int .i64 1)).run Try.prog w = .ok (.int .u8 s1) w := fun _ => by kernel_rfl
  have i2 : ∀ w, (Instr.index 24 (.agg #[.int .u8 s0, .int .u8 s1, .int .u8 s2, .int .u8 s3]) (.int .i64 2)).run Try.prog w = .ok (.int .u8 s2) w := fun _ => by kernel_rfl
  have i3 : ∀ w, (Instr.index 24 (.agg #[.int .u8 s0, .int .u8 s1, .int .u8 s2, .int .u8 s3]) (.int .i64 3)).run Try.prog w = .ok (.int .u8 s3) w := fun _ => by kernel_rfl
  go_enter Try.func28, Try.ntmps28
  go_wp2
  go_loopw [24] (fun i wr => ∃ m : Nat, m ≤ 4 ∧ i = .int .i64 m ∧ wr = (((w.alloc (.cells #[.int .u8 s0, .int .u8 s1, .int .u8 s2, .int .u8 s3] 24)).alloc (.cells #[.int .u8 0, .int .u8 0, .int .u8 0, .int .u8 0] 24)).alloc (.cells #[.int .u8 (Tag.mvN k b ⟨s0, s1, s2, s3⟩ m 0), .int .u8 (Tag.mvN k b ⟨s0, s1, s2, s3⟩ m 1), .int .u8 (Tag.mvN k b ⟨s0, s1, s2, s3⟩ m 2), .int .u8 (Tag.mvN k b ⟨s0, s1, s2, s3⟩ m 3)] 24))) (fun i _ => 4 - (intOf i).toNat)
  case atStart => exact ⟨0, by omega, rfl, rfl⟩
  case round =>
    obtain ⟨m, hm, rfl, rfl⟩ := hrel
    by_cases hm4 : m = 4
    · subst hm4
      go_wp2
      go_returns
      refine ⟨rfl, ?_⟩
      (repeat' (first | (with_reducible exact Gr.refl _) | (with_reducible refine Gr.alloc ?_ _ _) | (with_reducible refine Gr.drew ?_) | (with_reducible refine Gr.drewN ?_ _) | (with_reducible refine Gr.setCell ?_ ?_ _) | (with_reducible refine Gr.trans ?_ (by assumption)) | omega | (dsimp only; omega) | (simp; done) | (simp; omega)))
    have hc : m = 0 ∨ m = 1 ∨ m = 2 ∨ m = 3 := by omega
    clear hm4 hm
    rcases hc with rfl | rfl | rfl | rfl
    · go_wp2_with (go_at_call 26; refine (Do_c _ _ _ (by unfold Alu.U32; omega) hb _).mono ?_; rintro e w' ⟨rfl, rfl⟩)
      go_loopw [41] (fun i wr => ∃ j : Nat, j ≤ 4 ∧ i = .int .i64 j ∧ wr = ((w.alloc (.cells #[.int .u8 s0, .int .u8 s1, .int .u8 s2, .int .u8 s3] 24)).alloc (.cells #[.int .u8 0, .int .u8 0, .int .u8 0, .int .u8 0] 24)).alloc (.cells #[.int .u8 (Tag.inn k b ⟨s0, s1, s2, s3⟩ 0 j 0), .int .u8 (Tag.inn k b ⟨s0, s1, s2, s3⟩ 0 j 1), .int .u8 (Tag.inn k b ⟨s0, s1, s2, s3⟩ 0 j 2), .int .u8 (Tag.inn k b ⟨s0, s1, s2, s3⟩ 0 j 3)] 24)) (fun i _ => 4 - (intOf i).toNat)
      case atStart => exact ⟨0, by omega, rfl, rfl⟩
      case round =>
        obtain ⟨j, hj, rfl, rfl⟩ := hrel
        by_cases hj4 : j = 4
        · subst hj4
          go_wp2
          go_roundw
          case rel => exact ⟨1, by omega, rfl, rfl⟩
          case measure => simp [intOf]
        have hc : j = 0 ∨ j = 1 ∨ j = 2 ∨ j = 3 := by omega
        have e1 := Bool.eq_false_or_eq_true (Tag.by4 (Alu.val k 255 b) j != 0)
        clear hj4 hj
        rcases e1 with e1 | e1
        · have hh := inn_hit0 k b ⟨s0, s1, s2, s3⟩ e1
          have H : Hid (∀ i, i ≠ j → Tag.inn k b ⟨s0, s1, s2, s3⟩ 0 (j + 1) i = Tag.inn k b ⟨s0, s1, s2, s3⟩ 0 j i) := fun i hi => Tag.inn_other k b ⟨s0, s1, s2, s3⟩ 0 hi
          have HH : Hid (Tag.inn k b ⟨s0, s1, s2, s3⟩ 0 (j + 1) j = Tag.o (Tag.inn k b ⟨s0, s1, s2, s3⟩ 0 j j) s0) := hh
          clear hh
          rcases hc with rfl | rfl | rfl | rfl
          all_goals go_wp2_with (go_at_call 37; refine (byteOf_c _ _ (by omega) (by omega) _).mono ?_; rintro e w' ⟨rfl, rfl⟩)
          all_goals go_roundw
          all_goals first
            | (first | refine ⟨1, by omega, rfl, ?_⟩ | refine ⟨2, by omega, rfl, ?_⟩ | refine ⟨3, by omega, rfl, ?_⟩ | refine ⟨4, by omega, rfl, ?_⟩); refine cells4 ?_ ?_ ?_ ?_ <;> first | exact HH.out.symm | exact (H.out _ (by decide)).symm
            | (simp [intOf]; done)
        · have H : Hid (∀ i, Tag.inn k b ⟨s0, s1, s2, s3⟩ 0 (j + 1) i = Tag.inn k b ⟨s0, s1, s2, s3⟩ 0 j i) := fun i => inn_miss0 k b ⟨s0, s1, s2, s3⟩ e1 i
          rcases hc with rfl | rfl | rfl | rfl
          all_goals go_wp2_with (go_at_call 37; refine (byteOf_c _ _ (by omega) (by omega) _).mono ?_; rintro e w' ⟨rfl, rfl⟩)
          all_goals go_roundw
          all_goals first
            | (first | refine ⟨1, by omega, rfl, ?_⟩ | refine ⟨2, by omega, rfl, ?_⟩ | refine ⟨3, by omega, rfl, ?_⟩ | refine ⟨4, by omega, rfl, ?_⟩); exact cells4 (H.out 0).symm (H.out 1).symm (H.out 2).symm (H.out 3).symm
            | (simp [intOf]; done)
    · go_wp2_with (go_at_call 26; refine (Do_c _ _ _ (by unfold Alu.U32; omega) hb _).mono ?_; rintro e w' ⟨rfl, rfl⟩)
      go_loopw [41] (fun i wr => ∃ j : Nat, j ≤ 4 ∧ i = .int .i64 j ∧ wr = ((w.alloc (.cells #[.int .u8 s0, .int .u8 s1, .int .u8 s2, .int .u8 s3] 24)).alloc (.cells #[.int .u8 0, .int .u8 0, .int .u8 0, .int .u8 0] 24)).alloc (.cells #[.int .u8 (Tag.inn k b ⟨s0, s1, s2, s3⟩ 1 j 0), .int .u8 (Tag.inn k b ⟨s0, s1, s2, s3⟩ 1 j 1), .int .u8 (Tag.inn k b ⟨s0, s1, s2, s3⟩ 1 j 2), .int .u8 (Tag.inn k b ⟨s0, s1, s2, s3⟩ 1 j 3)] 24)) (fun i _ => 4 - (intOf i).toNat)
      case atStart => exact ⟨0, by omega, rfl, rfl⟩
      case round =>
        obtain ⟨j, hj, rfl, rfl⟩ := hrel
        by_cases hj4 : j = 4
        · subst hj4
          go_wp2
          go_roundw
          case rel => exact ⟨2, by omega, rfl, rfl⟩
          case measure => simp [intOf]
        have hc : j = 0 ∨ j = 1 ∨ j = 2 ∨ j = 3 := by omega
        have e1 := Bool.eq_false_or_eq_true (Tag.by4 (Alu.val k 65280 b) j != 0)
        clear hj4 hj
        rcases e1 with e1 | e1
        · have hh := inn_hit1 k b ⟨s0, s1, s2, s3⟩ e1
          have H : Hid (∀ i, i ≠ j → Tag.inn k b ⟨s0, s1, s2, s3⟩ 1 (j + 1) i = Tag.inn k b ⟨s0, s1, s2, s3⟩ 1 j i) := fun i hi => Tag.inn_other k b ⟨s0, s1, s2, s3⟩ 1 hi
          have HH : Hid (Tag.inn k b ⟨s0, s1, s2, s3⟩ 1 (j + 1) j = Tag.o (Tag.inn k b ⟨s0, s1, s2, s3⟩ 1 j j) s1) := hh
          clear hh
          rcases hc with rfl | rfl | rfl | rfl
          all_goals go_wp2_with (go_at_call 37; refine (byteOf_c _ _ (by omega) (by omega) _).mono ?_; rintro e w' ⟨rfl, rfl⟩)
          all_goals go_roundw
          all_goals first
            | (first | refine ⟨1, by omega, rfl, ?_⟩ | refine ⟨2, by omega, rfl, ?_⟩ | refine ⟨3, by omega, rfl, ?_⟩ | refine ⟨4, by omega, rfl, ?_⟩); refine cells4 ?_ ?_ ?_ ?_ <;> first | exact HH.out.symm | exact (H.out _ (by decide)).symm
            | (simp [intOf]; done)
        · have H : Hid (∀ i, Tag.inn k b ⟨s0, s1, s2, s3⟩ 1 (j + 1) i = Tag.inn k b ⟨s0, s1, s2, s3⟩ 1 j i) := fun i => inn_miss1 k b ⟨s0, s1, s2, s3⟩ e1 i
          rcases hc with rfl | rfl | rfl | rfl
          all_goals go_wp2_with (go_at_call 37; refine (byteOf_c _ _ (by omega) (by omega) _).mono ?_; rintro e w' ⟨rfl, rfl⟩)
          all_goals go_roundw
          all_goals first
            | (first | refine ⟨1, by omega, rfl, ?_⟩ | refine ⟨2, by omega, rfl, ?_⟩ | refine ⟨3, by omega, rfl, ?_⟩ | refine ⟨4, by omega, rfl, ?_⟩); exact cells4 (H.out 0).symm (H.out 1).symm (H.out 2).symm (H.out 3).symm
            | (simp [intOf]; done)
    · go_wp2_with (go_at_call 26; refine (Do_c _ _ _ (by unfold Alu.U32; omega) hb _).mono ?_; rintro e w' ⟨rfl, rfl⟩)
      go_loopw [41] (fun i wr => ∃ j : Nat, j ≤ 4 ∧ i = .int .i64 j ∧ wr = ((w.alloc (.cells #[.int .u8 s0, .int .u8 s1, .int .u8 s2, .int .u8 s3] 24)).alloc (.cells #[.int .u8 0, .int .u8 0, .int .u8 0, .int .u8 0] 24)).alloc (.cells #[.int .u8 (Tag.inn k b ⟨s0, s1, s2, s3⟩ 2 j 0), .int .u8 (Tag.inn k b ⟨s0, s1, s2, s3⟩ 2 j 1), .int .u8 (Tag.inn k b ⟨s0, s1, s2, s3⟩ 2 j 2), .int .u8 (Tag.inn k b ⟨s0, s1, s2, s3⟩ 2 j 3)] 24)) (fun i _ => 4 - (intOf i).toNat)
      case atStart => exact ⟨0, by omega, rfl, rfl⟩
      case round =>
        obtain ⟨j, hj, rfl, rfl⟩ := hrel
        by_cases hj4 : j = 4
        · subst hj4
          go_wp2
          go_roundw
          case rel => exact ⟨3, by omega, rfl, rfl⟩
          case measure => simp [intOf]
        have hc : j = 0 ∨ j = 1 ∨ j = 2 ∨ j = 3 := by omega
        have e1 := Bool.eq_false_or_eq_true (Tag.by4 (Alu.val k 16711680 b) j != 0)
        clear hj4 hj
        rcases e1 with e1 | e1
        · have hh := inn_hit2 k b ⟨s0, s1, s2, s3⟩ e1
          have H : Hid (∀ i, i ≠ j → Tag.inn k b ⟨s0, s1, s2, s3⟩ 2 (j + 1) i = Tag.inn k b ⟨s0, s1, s2, s3⟩ 2 j i) := fun i hi => Tag.inn_other k b ⟨s0, s1, s2, s3⟩ 2 hi
          have HH : Hid (Tag.inn k b ⟨s0, s1, s2, s3⟩ 2 (j + 1) j = Tag.o (Tag.inn k b ⟨s0, s1, s2, s3⟩ 2 j j) s2) := hh
          clear hh
          rcases hc with rfl | rfl | rfl | rfl
          all_goals go_wp2_with (go_at_call 37; refine (byteOf_c _ _ (by omega) (by omega) _).mono ?_; rintro e w' ⟨rfl, rfl⟩)
          all_goals go_roundw
          all_goals first
            | (first | refine ⟨1, by omega, rfl, ?_⟩ | refine ⟨2, by omega, rfl, ?_⟩ | refine ⟨3, by omega, rfl, ?_⟩ | refine ⟨4, by omega, rfl, ?_⟩); refine cells4 ?_ ?_ ?_ ?_ <;> first | exact HH.out.symm | exact (H.out _ (by decide)).symm
            | (simp [intOf]; done)
        · have H : Hid (∀ i, Tag.inn k b ⟨s0, s1, s2, s3⟩ 2 (j + 1) i = Tag.inn k b ⟨s0, s1, s2, s3⟩ 2 j i) := fun i => inn_miss2 k b ⟨s0, s1, s2, s3⟩ e1 i
          rcases hc with rfl | rfl | rfl | rfl
          all_goals go_wp2_with (go_at_call 37; refine (byteOf_c _ _ (by omega) (by omega) _).mono ?_; rintro e w' ⟨rfl, rfl⟩)
          all_goals go_roundw
          all_goals first
            | (first | refine ⟨1, by omega, rfl, ?_⟩ | refine ⟨2, by omega, rfl, ?_⟩ | refine ⟨3, by omega, rfl, ?_⟩ | refine ⟨4, by omega, rfl, ?_⟩); exact cells4 (H.out 0).symm (H.out 1).symm (H.out 2).symm (H.out 3).symm
            | (simp [intOf]; done)
    · go_wp2_with (go_at_call 26; refine (Do_c _ _ _ (by unfold Alu.U32; omega) hb _).mono ?_; rintro e w' ⟨rfl, rfl⟩)
      go_loopw [41] (fun i wr => ∃ j : Nat, j ≤ 4 ∧ i = .int .i64 j ∧ wr = ((w.alloc (.cells #[.int .u8 s0, .int .u8 s1, .int .u8 s2, .int .u8 s3] 24)).alloc (.cells #[.int .u8 0, .int .u8 0, .int .u8 0, .int .u8 0] 24)).alloc (.cells #[.int .u8 (Tag.inn k b ⟨s0, s1, s2, s3⟩ 3 j 0), .int .u8 (Tag.inn k b ⟨s0, s1, s2, s3⟩ 3 j 1), .int .u8 (Tag.inn k b ⟨s0, s1, s2, s3⟩ 3 j 2), .int .u8 (Tag.inn k b ⟨s0, s1, s2, s3⟩ 3 j 3)] 24)) (fun i _ => 4 - (intOf i).toNat)
      case atStart => exact ⟨0, by omega, rfl, rfl⟩
      case round =>
        obtain ⟨j, hj, rfl, rfl⟩ := hrel
        by_cases hj4 : j = 4
        · subst hj4
          go_wp2
          go_roundw
          case rel => exact ⟨4, by omega, rfl, rfl⟩
          case measure => simp [intOf]
        have hc : j = 0 ∨ j = 1 ∨ j = 2 ∨ j = 3 := by omega
        have e1 := Bool.eq_false_or_eq_true (Tag.by4 (Alu.val k 4278190080 b) j != 0)
        clear hj4 hj
        rcases e1 with e1 | e1
        · have hh := inn_hit3 k b ⟨s0, s1, s2, s3⟩ e1
          have H : Hid (∀ i, i ≠ j → Tag.inn k b ⟨s0, s1, s2, s3⟩ 3 (j + 1) i = Tag.inn k b ⟨s0, s1, s2, s3⟩ 3 j i) := fun i hi => Tag.inn_other k b ⟨s0, s1, s2, s3⟩ 3 hi
          have HH : Hid (Tag.inn k b ⟨s0, s1, s2, s3⟩ 3 (j + 1) j = Tag.o (Tag.inn k b ⟨s0, s1, s2, s3⟩ 3 j j) s3) := hh
          clear hh
          rcases hc with rfl | rfl | rfl | rfl
          all_goals go_wp2_with (go_at_call 37; refine (byteOf_c _ _ (by omega) (by omega) _).mono ?_; rintro e w' ⟨rfl, rfl⟩)
          all_goals go_roundw
          all_goals first
            | (first | refine ⟨1, by omega, rfl, ?_⟩ | refine ⟨2, by omega, rfl, ?_⟩ | refine ⟨3, by omega, rfl, ?_⟩ | refine ⟨4, by omega, rfl, ?_⟩); refine cells4 ?_ ?_ ?_ ?_ <;> first | exact HH.out.symm | exact (H.out _ (by decide)).symm
            | (simp [intOf]; done)
        · have H : Hid (∀ i, Tag.inn k b ⟨s0, s1, s2, s3⟩ 3 (j + 1) i = Tag.inn k b ⟨s0, s1, s2, s3⟩ 3 j i) := fun i => inn_miss3 k b ⟨s0, s1, s2, s3⟩ e1 i
          rcases hc with rfl | rfl | rfl | rfl
          all_goals go_wp2_with (go_at_call 37; refine (byteOf_c _ _ (by omega) (by omega) _).mono ?_; rintro e w' ⟨rfl, rfl⟩)
          all_goals go_roundw
          all_goals first
            | (first | refine ⟨1, by omega, rfl, ?_⟩ | refine ⟨2, by omega, rfl, ?_⟩ | refine ⟨3, by omega, rfl, ?_⟩ | refine ⟨4, by omega, rfl, ?_⟩); exact cells4 (H.out 0).symm (H.out 1).symm (H.out 2).symm (H.out 3).symm
            | (simp [intOf]; done)
end Go.Proofs.Ytcpgfogijdmaoaa
