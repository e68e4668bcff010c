/- THE LAWS OF LAYER 2: TagSound: no label is lost. -/
import Derived.Test.YtcpgfogijdmaoaaTagMix
import Derived.Deep.QuietTactic
import Derived.BigQuiet
namespace Go.Proofs.Ytcpgfogijdmaoaa
open Go.ChangeShapes Go.WideShapes Go.ChangeAt Go.RowKit
set_option linter.unusedSimpArgs false

theorem snd0 {v u : Int} (h : Tag.by4 v 0 = Tag.by4 u 0) : (v % 256 != u % 256) = false := by
  rw [Tag.by4_0, Tag.by4_0] at h; rw [h]; simp
theorem snd1 {v u : Int} (h : Tag.by4 v 1 = Tag.by4 u 1) : (v / 256 % 256 != u / 256 % 256) = false := by
  rw [Tag.by4_1, Tag.by4_1] at h; rw [h]; simp
theorem snd2 {v u : Int} (h : Tag.by4 v 2 = Tag.by4 u 2) : (v / 65536 % 256 != u / 65536 % 256) = false := by
  rw [Tag.by4_2, Tag.by4_2] at h; rw [h]; simp
theorem snd3 {v u : Int} (h : Tag.by4 v 3 = Tag.by4 u 3) : (v / 16777216 % 256 != u / 16777216 % 256) = false := by
  rw [Tag.by4_3, Tag.by4_3] at h; rw [h]; simp
theorem orself (x : BitVec 8) : bits .or .u8 (Tag.b8 x) (Tag.b8 x) = Tag.b8 x := by rw [Tag.or_all, Tag.o_b8, BitVec.or_self]
set_option maxRecDepth 100000 in
set_option maxHeartbeats 8000000 in
theorem TagSound_w (k a b c d : Int) (s0 s1 s2 s3 t0 t1 t2 t3 l : BitVec 8) (ha : Alu.U32 a) (hb : Alu.U32 b) (hc : Alu.U32 c) (hd : Alu.U32 d) (w : World) :
    Calls Try.prog 6 #[.int .i64 k, .int .u32 a, .int .u32 b, .int .u32 c, .int .u32 d, .agg #[.int .u8 (Tag.b8 s0), .int .u8 (Tag.b8 s1), .int .u8 (Tag.b8 s2), .int .u8 (Tag.b8 s3)], .agg #[.int .u8 (Tag.b8 t0), .int .u8 (Tag.b8 t1), .int .u8 (Tag.b8 t2), .int .u8 (Tag.b8 t3)], .int .u8 (Tag.b8 l)] w fun e w' => e = .returned (.bool true) ∧ Gr w w' := by
  have uX := Tag.mix_U32 a c s0 s1 s2 s3 l
  have uY := Tag.mix_U32 b d t0 t1 t2 t3 l
  have aX := Tag.mix_ali a c s0 s1 s2 s3 l
  have aY := Tag.mix_ali b d t0 t1 t2 t3 l
  go_enter Try.func6, Try.ntmps6
  go_wp2_with fail
  refine (awake2_c _).mono ?_
  rintro e w1 ⟨rfl, h1⟩
  go_wp2_with fail
  go_region_held3 (fun wr => wr.cell? ⟨w.heap.size, 0, none⟩ = some (.int .u8 (Tag.b8 s0)) ∧ wr.cell? ⟨w.heap.size, 1, none⟩ = some (.int .u8 (Tag.b8 s1)) ∧ wr.cell? ⟨w.heap.size, 2, none⟩ = some (.int .u8 (Tag.b8 s2)) ∧ wr.cell? ⟨w.heap.size, 3, none⟩ = some (.int .u8 (Tag.b8 s3)) ∧ wr.cell? ⟨w.heap.size + 1, 0, none⟩ = some (.int .u8 (Tag.b8 t0)) ∧ wr.cell? ⟨w.heap.size + 1, 1, none⟩ = some (.int .u8 (Tag.b8 t1)) ∧ wr.cell? ⟨w.heap.size + 1, 2, none⟩ = some (.int .u8 (Tag.b8 t2)) ∧ wr.cell? ⟨w.heap.size + 1, 3, none⟩ = some (.int .u8 (Tag.b8 t3))) (first | exact box2 h1 | exact box2 h1.drew)
    (first
    | (go_at_call_of 25 (Value.int IntKind.u32 a); refine (mix_c a c s0 s1 s2 s3 l ha hc _).mono ?_; rintro e w2 ⟨rfl, h2⟩; (first | replace h1 := h1.trans h2 | replace h1 := h1.drew.trans h2); clear h2)
    | (go_at_call_of 25 (Value.int IntKind.u32 b); refine (mix_c b d t0 t1 t2 t3 l hb hd _).mono ?_; rintro e w2 ⟨rfl, h2⟩; (first | replace h1 := h1.trans h2 | replace h1 := h1.drew.trans h2); clear h2))
  generalize Tag.mixN a c s0 s1 s2 s3 l 4 = X at *
  generalize Tag.mixN b d t0 t1 t2 t3 l 4 = Y at *
  have ch1 := h1.cell; have fh1 := h1.f; have zh1 := h1.size; have Ah1 := h1.cellA; have Fh1 := h1.frozenA; try simp only [World.size_alloc, World.size_drew] at ch1 zh1 Ah1 Fh1
  go_wp2_with fail
  refine (Do_c k a b ha hb _).mono ?_
  rintro e w' ⟨rfl, rfl⟩
  go_wp2_with fail
  refine (Do_c k X Y uX uY _).mono ?_
  rintro e w' ⟨rfl, rfl⟩
  go_wp2_with fail
  refine (Flow_b k a b _ _ _ _ _ _ _ _ hb _).mono ?_
  rintro e w4 ⟨rfl, h4⟩
  have k4 := h1.trans h4
  clear ch1 fh1 zh1 Ah1 Fh1
  have ck4 := k4.cell; have fk4 := k4.f; have zk4 := k4.size; have Ak4 := k4.cellA; have Fk4 := k4.frozenA; try simp only [World.size_alloc, World.size_drew] at ck4 zk4 Ak4 Fk4
  go_wp2_with fail
  refine (Flow_b k X Y _ _ _ _ _ _ _ _ uY _).mono ?_
  rintro e w5 ⟨rfl, h5⟩
  have k5 := (k4.alloc _ _).trans h5
  clear ck4 fk4 zk4 Ak4 Fk4 h1 h4
  rw [← Tag.fb_same k aX aY 0 (by omega), ← Tag.fb_same k aX aY 1 (by omega), ← Tag.fb_same k aX aY 2 (by omega), ← Tag.fb_same k aX aY 3 (by omega)]
  have g0 : 0 ≤ k → k ≤ 17 → Tag.fb k a b s0 s1 s2 s3 t0 t1 t2 t3 0 &&& l = 0#8 → Tag.by4 (Alu.val k a b) 0 = Tag.by4 (Alu.val k X Y) 0 := fun h0 h17 hz => Tag.sound k h0 h17 ha hb uX uY aX aY 0 (by omega) hz
  have g1 : 0 ≤ k → k ≤ 17 → Tag.fb k a b s0 s1 s2 s3 t0 t1 t2 t3 1 &&& l = 0#8 → Tag.by4 (Alu.val k a b) 1 = Tag.by4 (Alu.val k X Y) 1 := fun h0 h17 hz => Tag.sound k h0 h17 ha hb uX uY aX aY 1 (by omega) hz
  have g2 : 0 ≤ k → k ≤ 17 → Tag.fb k a b s0 s1 s2 s3 t0 t1 t2 t3 2 &&& l = 0#8 → Tag.by4 (Alu.val k a b) 2 = Tag.by4 (Alu.val k X Y) 2 := fun h0 h17 hz => Tag.sound k h0 h17 ha hb uX uY aX aY 2 (by omega) hz
  have g3 : 0 ≤ k → k ≤ 17 → Tag.fb k a b s0 s1 s2 s3 t0 t1 t2 t3 3 &&& l = 0#8 → Tag.by4 (Alu.val k a b) 3 = Tag.by4 (Alu.val k X Y) 3 := fun h0 h17 hz => Tag.sound k h0 h17 ha hb uX uY aX aY 3 (by omega) hz
  clear aX aY
  generalize Tag.fb k a b s0 s1 s2 s3 t0 t1 t2 t3 0 = p0 at *
  generalize Tag.fb k a b s0 s1 s2 s3 t0 t1 t2 t3 1 = p1 at *
  generalize Tag.fb k a b s0 s1 s2 s3 t0 t1 t2 t3 2 = p2 at *
  generalize Tag.fb k a b s0 s1 s2 s3 t0 t1 t2 t3 3 = p3 at *
  generalize Alu.val k a b = v at *
  generalize Alu.val k X Y = u at *
  by_cases hk : Alu.known k = true
  · have hk2 : 0 ≤ k ∧ k ≤ 17 := by simpa [Alu.known] using hk
    have he : Alu.err k = 0 := by unfold Alu.err; rw [if_pos hk]
    clear hk
    replace g0 : Hid (p0 &&& l = 0#8 → Tag.by4 v 0 = Tag.by4 u 0) := g0 hk2.1 hk2.2
    replace g1 : Hid (p1 &&& l = 0#8 → Tag.by4 v 1 = Tag.by4 u 1) := g1 hk2.1 hk2.2
    replace g2 : Hid (p2 &&& l = 0#8 → Tag.by4 v 2 = Tag.by4 u 2) := g2 hk2.1 hk2.2
    replace g3 : Hid (p3 &&& l = 0#8 → Tag.by4 v 3 = Tag.by4 u 3) := g3 hk2.1 hk2.2
    clear hk2
    go_wp2_with fail
    obtain ⟨x0, x1, x2, x3⟩ := box1 (h5.alloc #[.int .u8 (Tag.b8 p0), .int .u8 (Tag.b8 p1), .int .u8 (Tag.b8 p2), .int .u8 (Tag.b8 p3)] 24)
    obtain ⟨y0, y1, y2, y3⟩ := box1 (Gr.refl (w5.alloc (.cells #[.int .u8 (Tag.b8 p0), .int .u8 (Tag.b8 p1), .int .u8 (Tag.b8 p2), .int .u8 (Tag.b8 p3)] 24)))
    have kr := (k5.alloc #[.int .u8 (Tag.b8 p0), .int .u8 (Tag.b8 p1), .int .u8 (Tag.b8 p2), .int .u8 (Tag.b8 p3)] 24).drop.drop
    clear h5 k5 k4
    have o0 := orself p0
    have o1 := orself p1
    have o2 := orself p2
    have o3 := orself p3
    go_loopw [27] (fun i wr => ∃ m nd : Nat, m ≤ 4 ∧ i = .int .i64 m ∧ wr = (w5.alloc (.cells #[.int .u8 (Tag.b8 p0), .int .u8 (Tag.b8 p1), .int .u8 (Tag.b8 p2), .int .u8 (Tag.b8 p3)] 24)).drewN nd) (fun i _ => 4 - (intOf i).toNat)
    case atStart => exact ⟨0, 0, by omega, rfl, rfl⟩
    case round =>
      obtain ⟨m, nd, hm, rfl, rfl⟩ := hrel
      by_cases hm4 : m = 4
      · subst hm4
        go_wp2
        go_ret
        exact ⟨rfl, kr.drewN _⟩
      have hm3 : m = 0 ∨ m = 1 ∨ m = 2 ∨ m = 3 := by omega
      clear hm4 hm
      rcases hm3 with rfl | rfl | rfl | rfl
      · by_cases hz : p0 &&& l = 0#8
        · have e1 := lab_eq' hz
          have e2 := snd0 (g0.out hz)
          clear hz
          go_wp2_with fail
          go_quiet (fail)
          go_wp2_with fail
          go_quiet (fail)
          go_wp2_with fail
          go_roundw
          case rel => exact ⟨1, _, by omega, rfl, rfl⟩
          case measure => simp [intOf]
        · have e1 := lab_ne' hz
          clear hz
          go_wp2_with fail
          go_quiet (fail)
          go_wp2_with fail
          go_quiet (fail)
          go_wp2_with fail
          go_roundw
          case rel => exact ⟨1, _, by omega, rfl, rfl⟩
          case measure => simp [intOf]
      · by_cases hz : p1 &&& l = 0#8
        · have e1 := lab_eq' hz
          have e2 := snd1 (g1.out hz)
          clear hz
          go_wp2_with fail
          go_quiet (fail)
          go_wp2_with fail
          go_quiet (fail)
          go_wp2_with fail
          go_roundw
          case rel => exact ⟨2, _, by omega, rfl, rfl⟩
          case measure => simp [intOf]
        · have e1 := lab_ne' hz
          clear hz
          go_wp2_with fail
          go_quiet (fail)
          go_wp2_with fail
          go_quiet (fail)
          go_wp2_with fail
          go_roundw
          case rel => exact ⟨2, _, by omega, rfl, rfl⟩
          case measure => simp [intOf]
      · by_cases hz : p2 &&& l = 0#8
        · have e1 := lab_eq' hz
          have e2 := snd2 (g2.out hz)
          clear hz
          go_wp2_with fail
          go_quiet (fail)
          go_wp2_with fail
          go_quiet (fail)
          go_wp2_with fail
          go_roundw
          case rel => exact ⟨3, _, by omega, rfl, rfl⟩
          case measure => simp [intOf]
        · have e1 := lab_ne' hz
          clear hz
          go_wp2_with fail
          go_quiet (fail)
          go_wp2_with fail
          go_quiet (fail)
          go_wp2_with fail
          go_roundw
          case rel => exact ⟨3, _, by omega, rfl, rfl⟩
          case measure => simp [intOf]
      · by_cases hz : p3 &&& l = 0#8
        · have e1 := lab_eq' hz
          have e2 := snd3 (g3.out hz)
          clear hz
          go_wp2_with fail
          go_quiet (fail)
          go_wp2_with fail
          go_quiet (fail)
          go_wp2_with fail
          go_roundw
          case rel => exact ⟨4, _, by omega, rfl, rfl⟩
          case measure => simp [intOf]
        · have e1 := lab_ne' hz
          clear hz
          go_wp2_with fail
          go_quiet (fail)
          go_wp2_with fail
          go_quiet (fail)
          go_wp2_with fail
          go_roundw
          case rel => exact ⟨4, _, by omega, rfl, rfl⟩
          case measure => simp [intOf]
  · have he : Alu.err k = 1 := by unfold Alu.err; rw [if_neg hk]
    clear hk g0 g1 g2 g3
    go_wp2
    go_ret
    refine ⟨rfl, ?_⟩
    exact (k5.alloc _ _).drop.drop
end Go.Proofs.Ytcpgfogijdmaoaa
