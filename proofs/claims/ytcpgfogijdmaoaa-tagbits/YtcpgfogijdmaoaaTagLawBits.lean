/- THE LAWS OF LAYER 2: TagBits. -/
import Derived.Test.YtcpgfogijdmaoaaTagB
namespace Go.Proofs.Ytcpgfogijdmaoaa
open Go.ChangeShapes Go.WideShapes Go.ChangeAt Go.RowKit
set_option linter.unusedSimpArgs false

theorem fb_sh (k a b : Int) (hk : k = 2 ∨ k = 6) (s0 s1 s2 s3 : BitVec 8) (j : Nat) : Tag.fb k a b s0 s1 s2 s3 0#8 0#8 0#8 0#8 j = (if Tag.hit k b 0 j then s0 else 0#8) ||| (if Tag.hit k b 1 j then s1 else 0#8) ||| (if Tag.hit k b 2 j then s2 else 0#8) ||| (if Tag.hit k b 3 j then s3 else 0#8) := by
  unfold Tag.fb
  rw [if_neg (by omega), if_neg (by omega), if_neg (by omega), if_pos (by omega), if_pos rfl]
theorem args8 {x0 x1 x2 x3 y0 y1 y2 y3 : Int} {c : Int} (h0 : x0 = y0) (h1 : x1 = y1) (h2 : x2 = y2) (h3 : x3 = y3) : Ending.returned (.tuple #[.agg #[.int .u8 x0, .int .u8 x1, .int .u8 x2, .int .u8 x3], .int .i64 c]) = .returned (.tuple #[.agg #[.int .u8 y0, .int .u8 y1, .int .u8 y2, .int .u8 y3], .int .i64 c]) := by rw [h0, h1, h2, h3]
theorem sh2_0 (a : Int) (t0 t1 t2 t3 : BitVec 8) (w : World) :
    Calls Try.prog 13 #[.int .i64 2, .int .u32 a, .int .u32 0, .agg #[.int .u8 (Tag.b8 t0), .int .u8 (Tag.b8 t1), .int .u8 (Tag.b8 t2), .int .u8 (Tag.b8 t3)], .agg #[.int .u8 0, .int .u8 0, .int .u8 0, .int .u8 0]] w fun e w' =>
     e = .returned (.tuple #[.agg #[.int .u8 (Tag.b8 t0), .int .u8 (Tag.b8 t1), .int .u8 (Tag.b8 t2), .int .u8 (Tag.b8 t3)], .int .i64 0]) ∧ Gr w w' := by
  refine (Flow_b1 _ _ _ _ _ _ _ ⟨by omega, by omega⟩ _).mono ?_
  rintro e w' ⟨rfl, h⟩
  refine ⟨args8 ?_ ?_ ?_ ?_, h⟩
  · rw [fb_sh _ _ _ (by omega)]; simp [show Tag.hit 2 0 0 0 = true from rfl, show Tag.hit 2 0 1 0 = false from rfl, show Tag.hit 2 0 2 0 = false from rfl, show Tag.hit 2 0 3 0 = false from rfl, Tag.b8_0]
  · rw [fb_sh _ _ _ (by omega)]; simp [show Tag.hit 2 0 0 1 = false from rfl, show Tag.hit 2 0 1 1 = true from rfl, show Tag.hit 2 0 2 1 = false from rfl, show Tag.hit 2 0 3 1 = false from rfl, Tag.b8_0]
  · rw [fb_sh _ _ _ (by omega)]; simp [show Tag.hit 2 0 0 2 = false from rfl, show Tag.hit 2 0 1 2 = false from rfl, show Tag.hit 2 0 2 2 = true from rfl, show Tag.hit 2 0 3 2 = false from rfl, Tag.b8_0]
  · rw [fb_sh _ _ _ (by omega)]; simp [show Tag.hit 2 0 0 3 = false from rfl, show Tag.hit 2 0 1 3 = false from rfl, show Tag.hit 2 0 2 3 = false from rfl, show Tag.hit 2 0 3 3 = true from rfl, Tag.b8_0]
theorem sh2_1 (a : Int) (t0 t1 t2 t3 : BitVec 8) (w : World) :
    Calls Try.prog 13 #[.int .i64 2, .int .u32 a, .int .u32 8, .agg #[.int .u8 (Tag.b8 t0), .int .u8 (Tag.b8 t1), .int .u8 (Tag.b8 t2), .int .u8 (Tag.b8 t3)], .agg #[.int .u8 0, .int .u8 0, .int .u8 0, .int .u8 0]] w fun e w' =>
     e = .returned (.tuple #[.agg #[.int .u8 0, .int .u8 (Tag.b8 t0), .int .u8 (Tag.b8 t1), .int .u8 (Tag.b8 t2)], .int .i64 0]) ∧ Gr w w' := by
  refine (Flow_b1 _ _ _ _ _ _ _ ⟨by omega, by omega⟩ _).mono ?_
  rintro e w' ⟨rfl, h⟩
  refine ⟨args8 ?_ ?_ ?_ ?_, h⟩
  · rw [fb_sh _ _ _ (by omega)]; simp [show Tag.hit 2 8 0 0 = false from rfl, show Tag.hit 2 8 1 0 = false from rfl, show Tag.hit 2 8 2 0 = false from rfl, show Tag.hit 2 8 3 0 = false from rfl, Tag.b8_0]
  · rw [fb_sh _ _ _ (by omega)]; simp [show Tag.hit 2 8 0 1 = true from rfl, show Tag.hit 2 8 1 1 = false from rfl, show Tag.hit 2 8 2 1 = false from rfl, show Tag.hit 2 8 3 1 = false from rfl, Tag.b8_0]
  · rw [fb_sh _ _ _ (by omega)]; simp [show Tag.hit 2 8 0 2 = false from rfl, show Tag.hit 2 8 1 2 = true from rfl, show Tag.hit 2 8 2 2 = false from rfl, show Tag.hit 2 8 3 2 = false from rfl, Tag.b8_0]
  · rw [fb_sh _ _ _ (by omega)]; simp [show Tag.hit 2 8 0 3 = false from rfl, show Tag.hit 2 8 1 3 = false from rfl, show Tag.hit 2 8 2 3 = true from rfl, show Tag.hit 2 8 3 3 = false from rfl, Tag.b8_0]
theorem sh2_2 (a : Int) (t0 t1 t2 t3 : BitVec 8) (w : World) :
    Calls Try.prog 13 #[.int .i64 2, .int .u32 a, .int .u32 16, .agg #[.int .u8 (Tag.b8 t0), .int .u8 (Tag.b8 t1), .int .u8 (Tag.b8 t2), .int .u8 (Tag.b8 t3)], .agg #[.int .u8 0, .int .u8 0, .int .u8 0, .int .u8 0]] w fun e w' =>
     e = .returned (.tuple #[.agg #[.int .u8 0, .int .u8 0, .int .u8 (Tag.b8 t0), .int .u8 (Tag.b8 t1)], .int .i64 0]) ∧ Gr w w' := by
  refine (Flow_b1 _ _ _ _ _ _ _ ⟨by omega, by omega⟩ _).mono ?_
  rintro e w' ⟨rfl, h⟩
  refine ⟨args8 ?_ ?_ ?_ ?_, h⟩
  · rw [fb_sh _ _ _ (by omega)]; simp [show Tag.hit 2 16 0 0 = false from rfl, show Tag.hit 2 16 1 0 = false from rfl, show Tag.hit 2 16 2 0 = false from rfl, show Tag.hit 2 16 3 0 = false from rfl, Tag.b8_0]
  · rw [fb_sh _ _ _ (by omega)]; simp [show Tag.hit 2 16 0 1 = false from rfl, show Tag.hit 2 16 1 1 = false from rfl, show Tag.hit 2 16 2 1 = false from rfl, show Tag.hit 2 16 3 1 = false from rfl, Tag.b8_0]
  · rw [fb_sh _ _ _ (by omega)]; simp [show Tag.hit 2 16 0 2 = true from rfl, show Tag.hit 2 16 1 2 = false from rfl, show Tag.hit 2 16 2 2 = false from rfl, show Tag.hit 2 16 3 2 = false from rfl, Tag.b8_0]
  · rw [fb_sh _ _ _ (by omega)]; simp [show Tag.hit 2 16 0 3 = false from rfl, show Tag.hit 2 16 1 3 = true from rfl, show Tag.hit 2 16 2 3 = false from rfl, show Tag.hit 2 16 3 3 = false from rfl, Tag.b8_0]
theorem sh2_3 (a : Int) (t0 t1 t2 t3 : BitVec 8) (w : World) :
    Calls Try.prog 13 #[.int .i64 2, .int .u32 a, .int .u32 24, .agg #[.int .u8 (Tag.b8 t0), .int .u8 (Tag.b8 t1), .int .u8 (Tag.b8 t2), .int .u8 (Tag.b8 t3)], .agg #[.int .u8 0, .int .u8 0, .int .u8 0, .int .u8 0]] w fun e w' =>
     e = .returned (.tuple #[.agg #[.int .u8 0, .int .u8 0, .int .u8 0, .int .u8 (Tag.b8 t0)], .int .i64 0]) ∧ Gr w w' := by
  refine (Flow_b1 _ _ _ _ _ _ _ ⟨by omega, by omega⟩ _).mono ?_
  rintro e w' ⟨rfl, h⟩
  refine ⟨args8 ?_ ?_ ?_ ?_, h⟩
  · rw [fb_sh _ _ _ (by omega)]; simp [show Tag.hit 2 24 0 0 = false from rfl, show Tag.hit 2 24 1 0 = false from rfl, show Tag.hit 2 24 2 0 = false from rfl, show Tag.hit 2 24 3 0 = false from rfl, Tag.b8_0]
  · rw [fb_sh _ _ _ (by omega)]; simp [show Tag.hit 2 24 0 1 = false from rfl, show Tag.hit 2 24 1 1 = false from rfl, show Tag.hit 2 24 2 1 = false from rfl, show Tag.hit 2 24 3 1 = false from rfl, Tag.b8_0]
  · rw [fb_sh _ _ _ (by omega)]; simp [show Tag.hit 2 24 0 2 = false from rfl, show Tag.hit 2 24 1 2 = false from rfl, show Tag.hit 2 24 2 2 = false from rfl, show Tag.hit 2 24 3 2 = false from rfl, Tag.b8_0]
  · rw [fb_sh _ _ _ (by omega)]; simp [show Tag.hit 2 24 0 3 = true from rfl, show Tag.hit 2 24 1 3 = false from rfl, show Tag.hit 2 24 2 3 = false from rfl, show Tag.hit 2 24 3 3 = false from rfl, Tag.b8_0]
theorem sh6_0 (a : Int) (t0 t1 t2 t3 : BitVec 8) (w : World) :
    Calls Try.prog 13 #[.int .i64 6, .int .u32 a, .int .u32 0, .agg #[.int .u8 (Tag.b8 t0), .int .u8 (Tag.b8 t1), .int .u8 (Tag.b8 t2), .int .u8 (Tag.b8 t3)], .agg #[.int .u8 0, .int .u8 0, .int .u8 0, .int .u8 0]] w fun e w' =>
     e = .returned (.tuple #[.agg #[.int .u8 (Tag.b8 t0), .int .u8 (Tag.b8 t1), .int .u8 (Tag.b8 t2), .int .u8 (Tag.b8 t3)], .int .i64 0]) ∧ Gr w w' := by
  refine (Flow_b1 _ _ _ _ _ _ _ ⟨by omega, by omega⟩ _).mono ?_
  rintro e w' ⟨rfl, h⟩
  refine ⟨args8 ?_ ?_ ?_ ?_, h⟩
  · rw [fb_sh _ _ _ (by omega)]; simp [show Tag.hit 6 0 0 0 = true from rfl, show Tag.hit 6 0 1 0 = false from rfl, show Tag.hit 6 0 2 0 = false from rfl, show Tag.hit 6 0 3 0 = false from rfl, Tag.b8_0]
  · rw [fb_sh _ _ _ (by omega)]; simp [show Tag.hit 6 0 0 1 = false from rfl, show Tag.hit 6 0 1 1 = true from rfl, show Tag.hit 6 0 2 1 = false from rfl, show Tag.hit 6 0 3 1 = false from rfl, Tag.b8_0]
  · rw [fb_sh _ _ _ (by omega)]; simp [show Tag.hit 6 0 0 2 = false from rfl, show Tag.hit 6 0 1 2 = false from rfl, show Tag.hit 6 0 2 2 = true from rfl, show Tag.hit 6 0 3 2 = false from rfl, Tag.b8_0]
  · rw [fb_sh _ _ _ (by omega)]; simp [show Tag.hit 6 0 0 3 = false from rfl, show Tag.hit 6 0 1 3 = false from rfl, show Tag.hit 6 0 2 3 = false from rfl, show Tag.hit 6 0 3 3 = true from rfl, Tag.b8_0]
theorem sh6_1 (a : Int) (t0 t1 t2 t3 : BitVec 8) (w : World) :
    Calls Try.prog 13 #[.int .i64 6, .int .u32 a, .int .u32 8, .agg #[.int .u8 (Tag.b8 t0), .int .u8 (Tag.b8 t1), .int .u8 (Tag.b8 t2), .int .u8 (Tag.b8 t3)], .agg #[.int .u8 0, .int .u8 0, .int .u8 0, .int .u8 0]] w fun e w' =>
     e = .returned (.tuple #[.agg #[.int .u8 (Tag.b8 t1), .int .u8 (Tag.b8 t2), .int .u8 (Tag.b8 t3), .int .u8 0], .int .i64 0]) ∧ Gr w w' := by
  refine (Flow_b1 _ _ _ _ _ _ _ ⟨by omega, by omega⟩ _).mono ?_
  rintro e w' ⟨rfl, h⟩
  refine ⟨args8 ?_ ?_ ?_ ?_, h⟩
  · rw [fb_sh _ _ _ (by omega)]; simp [show Tag.hit 6 8 0 0 = false from rfl, show Tag.hit 6 8 1 0 = true from rfl, show Tag.hit 6 8 2 0 = false from rfl, show Tag.hit 6 8 3 0 = false from rfl, Tag.b8_0]
  · rw [fb_sh _ _ _ (by omega)]; simp [show Tag.hit 6 8 0 1 = false from rfl, show Tag.hit 6 8 1 1 = false from rfl, show Tag.hit 6 8 2 1 = true from rfl, show Tag.hit 6 8 3 1 = false from rfl, Tag.b8_0]
  · rw [fb_sh _ _ _ (by omega)]; simp [show Tag.hit 6 8 0 2 = false from rfl, show Tag.hit 6 8 1 2 = false from rfl, show Tag.hit 6 8 2 2 = false from rfl, show Tag.hit 6 8 3 2 = true from rfl, Tag.b8_0]
  · rw [fb_sh _ _ _ (by omega)]; simp [show Tag.hit 6 8 0 3 = false from rfl, show Tag.hit 6 8 1 3 = false from rfl, show Tag.hit 6 8 2 3 = false from rfl, show Tag.hit 6 8 3 3 = false from rfl, Tag.b8_0]
theorem sh6_2 (a : Int) (t0 t1 t2 t3 : BitVec 8) (w : World) :
    Calls Try.prog 13 #[.int .i64 6, .int .u32 a, .int .u32 16, .agg #[.int .u8 (Tag.b8 t0), .int .u8 (Tag.b8 t1), .int .u8 (Tag.b8 t2), .int .u8 (Tag.b8 t3)], .agg #[.int .u8 0, .int .u8 0, .int .u8 0, .int .u8 0]] w fun e w' =>
     e = .returned (.tuple #[.agg #[.int .u8 (Tag.b8 t2), .int .u8 (Tag.b8 t3), .int .u8 0, .int .u8 0], .int .i64 0]) ∧ Gr w w' := by
  refine (Flow_b1 _ _ _ _ _ _ _ ⟨by omega, by omega⟩ _).mono ?_
  rintro e w' ⟨rfl, h⟩
  refine ⟨args8 ?_ ?_ ?_ ?_, h⟩
  · rw [fb_sh _ _ _ (by omega)]; simp [show Tag.hit 6 16 0 0 = false from rfl, show Tag.hit 6 16 1 0 = false from rfl, show Tag.hit 6 16 2 0 = true from rfl, show Tag.hit 6 16 3 0 = false from rfl, Tag.b8_0]
  · rw [fb_sh _ _ _ (by omega)]; simp [show Tag.hit 6 16 0 1 = false from rfl, show Tag.hit 6 16 1 1 = false from rfl, show Tag.hit 6 16 2 1 = false from rfl, show Tag.hit 6 16 3 1 = true from rfl, Tag.b8_0]
  · rw [fb_sh _ _ _ (by omega)]; simp [show Tag.hit 6 16 0 2 = false from rfl, show Tag.hit 6 16 1 2 = false from rfl, show Tag.hit 6 16 2 2 = false from rfl, show Tag.hit 6 16 3 2 = false from rfl, Tag.b8_0]
  · rw [fb_sh _ _ _ (by omega)]; simp [show Tag.hit 6 16 0 3 = false from rfl, show Tag.hit 6 16 1 3 = false from rfl, show Tag.hit 6 16 2 3 = false from rfl, show Tag.hit 6 16 3 3 = false from rfl, Tag.b8_0]
theorem sh6_3 (a : Int) (t0 t1 t2 t3 : BitVec 8) (w : World) :
    Calls Try.prog 13 #[.int .i64 6, .int .u32 a, .int .u32 24, .agg #[.int .u8 (Tag.b8 t0), .int .u8 (Tag.b8 t1), .int .u8 (Tag.b8 t2), .int .u8 (Tag.b8 t3)], .agg #[.int .u8 0, .int .u8 0, .int .u8 0, .int .u8 0]] w fun e w' =>
     e = .returned (.tuple #[.agg #[.int .u8 (Tag.b8 t3), .int .u8 0, .int .u8 0, .int .u8 0], .int .i64 0]) ∧ Gr w w' := by
  refine (Flow_b1 _ _ _ _ _ _ _ ⟨by omega, by omega⟩ _).mono ?_
  rintro e w' ⟨rfl, h⟩
  refine ⟨args8 ?_ ?_ ?_ ?_, h⟩
  · rw [fb_sh _ _ _ (by omega)]; simp [show Tag.hit 6 24 0 0 = false from rfl, show Tag.hit 6 24 1 0 = false from rfl, show Tag.hit 6 24 2 0 = false from rfl, show Tag.hit 6 24 3 0 = true from rfl, Tag.b8_0]
  · rw [fb_sh _ _ _ (by omega)]; simp [show Tag.hit 6 24 0 1 = false from rfl, show Tag.hit 6 24 1 1 = false from rfl, show Tag.hit 6 24 2 1 = false from rfl, show Tag.hit 6 24 3 1 = false from rfl, Tag.b8_0]
  · rw [fb_sh _ _ _ (by omega)]; simp [show Tag.hit 6 24 0 2 = false from rfl, show Tag.hit 6 24 1 2 = false from rfl, show Tag.hit 6 24 2 2 = false from rfl, show Tag.hit 6 24 3 2 = false from rfl, Tag.b8_0]
  · rw [fb_sh _ _ _ (by omega)]; simp [show Tag.hit 6 24 0 3 = false from rfl, show Tag.hit 6 24 1 3 = false from rfl, show Tag.hit 6 24 2 3 = false from rfl, show Tag.hit 6 24 3 3 = false from rfl, Tag.b8_0]
set_option maxRecDepth 100000 in
set_option maxHeartbeats 8000000 in
theorem TagBits_w (a n : Int) (t0 t1 t2 t3 : BitVec 8) (hn : Alu.U32 n) (w : World) :
    Calls Try.prog 11 #[.int .u32 a, .agg #[.int .u8 (Tag.b8 t0), .int .u8 (Tag.b8 t1), .int .u8 (Tag.b8 t2), .int .u8 (Tag.b8 t3)], .int .u32 n] w fun e w' => e = .returned (.bool true) ∧ Gr w w' := by
  by_cases h3 : 3 < n
  · have hd : decide (3 < n) = true := by simpa using h3
    go_enter Try.func11, Try.ntmps11
    go_wp2_with fail
    refine (awake2_c _).mono ?_
    rintro e w1 ⟨rfl, h1⟩
    go_wp2
    go_ret
    exact ⟨rfl, h1.drop⟩
  have hc : n = 0 ∨ n = 1 ∨ n = 2 ∨ n = 3 := by unfold Alu.U32 at hn; omega
  clear h3 hn
  rcases hc with rfl | rfl | rfl | rfl
  · go_enter Try.func11, Try.ntmps11
    go_wp2_with fail
    refine (awake2_c _).mono ?_
    rintro e w1 ⟨rfl, h1⟩
    have ch1 := h1.cell; have fh1 := h1.f; have zh1 := h1.size; have Ah1 := h1.cellA; have Fh1 := h1.frozenA; try simp only [World.size_alloc, World.size_drew] at ch1 zh1 Ah1 Fh1
    go_wp2_with fail
    refine (sh2_0 _ _ _ _ _ _).mono ?_
    rintro e w2 ⟨rfl, h2⟩
    have k2 := h1.trans h2
    clear ch1 fh1 zh1 Ah1 Fh1
    have ck2 := k2.cell; have fk2 := k2.f; have zk2 := k2.size; have Ak2 := k2.cellA; have Fk2 := k2.frozenA; try simp only [World.size_alloc, World.size_drew] at ck2 zk2 Ak2 Fk2
    go_wp2_with fail
    refine (sh6_0 _ _ _ _ _ _).mono ?_
    rintro e w3 ⟨rfl, h3⟩
    have k3 := (k2.alloc _ _).trans h3
    clear ck2 fk2 zk2 Ak2 Fk2
    have ch3 := h3.cell; have fh3 := h3.f; have zh3 := h3.size; have Ah3 := h3.cellA; have Fh3 := h3.frozenA; try simp only [World.size_alloc, World.size_drew] at ch3 zh3 Ah3 Fh3
    have ck3 := k3.cell; have fk3 := k3.f; have zk3 := k3.size; have Ak3 := k3.cellA; have Fk3 := k3.frozenA; try simp only [World.size_alloc, World.size_drew] at ck3 zk3 Ak3 Fk3
    go_wp2_with fail
    refine wp_loop_rounds 5 ?_
    iterate 4 (rw [rounds_succ]; go_wp2)
    rw [rounds_succ]; go_wp2
    go_ret
    refine ⟨rfl, ?_⟩
    exact (k3.alloc _ _).drop
  · go_enter Try.func11, Try.ntmps11
    go_wp2_with fail
    refine (awake2_c _).mono ?_
    rintro e w1 ⟨rfl, h1⟩
    have ch1 := h1.cell; have fh1 := h1.f; have zh1 := h1.size; have Ah1 := h1.cellA; have Fh1 := h1.frozenA; try simp only [World.size_alloc, World.size_drew] at ch1 zh1 Ah1 Fh1
    go_wp2_with fail
    refine (sh2_1 _ _ _ _ _ _).mono ?_
    rintro e w2 ⟨rfl, h2⟩
    have k2 := h1.trans h2
    clear ch1 fh1 zh1 Ah1 Fh1
    have ck2 := k2.cell; have fk2 := k2.f; have zk2 := k2.size; have Ak2 := k2.cellA; have Fk2 := k2.frozenA; try simp only [World.size_alloc, World.size_drew] at ck2 zk2 Ak2 Fk2
    go_wp2_with fail
    refine (sh6_1 _ _ _ _ _ _).mono ?_
    rintro e w3 ⟨rfl, h3⟩
    have k3 := (k2.alloc _ _).trans h3
    clear ck2 fk2 zk2 Ak2 Fk2
    have ch3 := h3.cell; have fh3 := h3.f; have zh3 := h3.size; have Ah3 := h3.cellA; have Fh3 := h3.frozenA; try simp only [World.size_alloc, World.size_drew] at ch3 zh3 Ah3 Fh3
    have ck3 := k3.cell; have fk3 := k3.f; have zk3 := k3.size; have Ak3 := k3.cellA; have Fk3 := k3.frozenA; try simp only [World.size_alloc, World.size_drew] at ck3 zk3 Ak3 Fk3
    go_wp2_with fail
    refine wp_loop_rounds 5 ?_
    iterate 4 (rw [rounds_succ]; go_wp2)
    rw [rounds_succ]; go_wp2
    go_ret
    refine ⟨rfl, ?_⟩
    exact (k3.alloc _ _).drop
  · go_enter Try.func11, Try.ntmps11
    go_wp2_with fail
    refine (awake2_c _).mono ?_
    rintro e w1 ⟨rfl, h1⟩
    have ch1 := h1.cell; have fh1 := h1.f; have zh1 := h1.size; have Ah1 := h1.cellA; have Fh1 := h1.frozenA; try simp only [World.size_alloc, World.size_drew] at ch1 zh1 Ah1 Fh1
    go_wp2_with fail
    refine (sh2_2 _ _ _ _ _ _).mono ?_
    rintro e w2 ⟨rfl, h2⟩
    have k2 := h1.trans h2
    clear ch1 fh1 zh1 Ah1 Fh1
    have ck2 := k2.cell; have fk2 := k2.f; have zk2 := k2.size; have Ak2 := k2.cellA; have Fk2 := k2.frozenA; try simp only [World.size_alloc, World.size_drew] at ck2 zk2 Ak2 Fk2
    go_wp2_with fail
    refine (sh6_2 _ _ _ _ _ _).mono ?_
    rintro e w3 ⟨rfl, h3⟩
    have k3 := (k2.alloc _ _).trans h3
    clear ck2 fk2 zk2 Ak2 Fk2
    have ch3 := h3.cell; have fh3 := h3.f; have zh3 := h3.size; have Ah3 := h3.cellA; have Fh3 := h3.frozenA; try simp only [World.size_alloc, World.size_drew] at ch3 zh3 Ah3 Fh3
    have ck3 := k3.cell; have fk3 := k3.f; have zk3 := k3.size; have Ak3 := k3.cellA; have Fk3 := k3.frozenA; try simp only [World.size_alloc, World.size_drew] at ck3 zk3 Ak3 Fk3
    go_wp2_with fail
    refine wp_loop_rounds 5 ?_
    iterate 4 (rw [rounds_succ]; go_wp2)
    rw [rounds_succ]; go_wp2
    go_ret
    refine ⟨rfl, ?_⟩
    exact (k3.alloc _ _).drop
  · go_enter Try.func11, Try.ntmps11
    go_wp2_with fail
    refine (awake2_c _).mono ?_
    rintro e w1 ⟨rfl, h1⟩
    have ch1 := h1.cell; have fh1 := h1.f; have zh1 := h1.size; have Ah1 := h1.cellA; have Fh1 := h1.frozenA; try simp only [World.size_alloc, World.size_drew] at ch1 zh1 Ah1 Fh1
    go_wp2_with fail
    refine (sh2_3 _ _ _ _ _ _).mono ?_
    rintro e w2 ⟨rfl, h2⟩
    have k2 := h1.trans h2
    clear ch1 fh1 zh1 Ah1 Fh1
    have ck2 := k2.cell; have fk2 := k2.f; have zk2 := k2.size; have Ak2 := k2.cellA; have Fk2 := k2.frozenA; try simp only [World.size_alloc, World.size_drew] at ck2 zk2 Ak2 Fk2
    go_wp2_with fail
    refine (sh6_3 _ _ _ _ _ _).mono ?_
    rintro e w3 ⟨rfl, h3⟩
    have k3 := (k2.alloc _ _).trans h3
    clear ck2 fk2 zk2 Ak2 Fk2
    have ch3 := h3.cell; have fh3 := h3.f; have zh3 := h3.size; have Ah3 := h3.cellA; have Fh3 := h3.frozenA; try simp only [World.size_alloc, World.size_drew] at ch3 zh3 Ah3 Fh3
    have ck3 := k3.cell; have fk3 := k3.f; have zk3 := k3.size; have Ak3 := k3.cellA; have Fk3 := k3.frozenA; try simp only [World.size_alloc, World.size_drew] at ck3 zk3 Ak3 Fk3
    go_wp2_with fail
    refine wp_loop_rounds 5 ?_
    iterate 4 (rw [rounds_succ]; go_wp2)
    rw [rounds_succ]; go_wp2
    go_ret
    refine ⟨rfl, ?_⟩
    exact (k3.alloc _ _).drop
end Go.Proofs.Ytcpgfogijdmaoaa
