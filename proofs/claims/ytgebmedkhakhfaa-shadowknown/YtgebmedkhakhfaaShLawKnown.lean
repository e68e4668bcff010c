/- LAYER 4's LAWS: ShadowKnown. -/
import Derived.Test.YtgebmedkhakhfaaShLawClean
import Derived.Test.YtgebmedkhakhfaaShLawNum
namespace Go.Proofs.Ytgebmedkhakhfaa
open Go.ChangeShapes Go.WideShapes Go.ChangeAt Go.RowKit Go.Shelf
set_option linter.unusedSimpArgs false
set_option linter.unusedVariables false

/-- '==' of two labels of four bytes. -/
theorem eqTag4 (a0 a1 a2 a3 b0 b1 b2 b3 : Int) (w : World) : (Op.equalIn 10000 57 (.agg #[.int .u8 a0, .int .u8 a1, .int .u8 a2, .int .u8 a3]) (.agg #[.int .u8 b0, .int .u8 b1, .int .u8 b2, .int .u8 b3])).run Try.prog w = .ok (a0 == b0 && a1 == b1 && a2 == b2 && a3 == b3) w := by
  have u5 := Try.underlying5
  have g5 := Try.isAgg5
  have z5 := Try.sizeOf5
  rw [show (10000 : Nat) = 9999 + 1 from rfl, Op.equalIn]
  simp only [Sem.run_bind, run_underlying Try.underlying57, Result.andThen_ok]
  simp only [Std.Legacy.Range.forIn_eq_forIn_range', Std.Legacy.Range.size, Nat.sub_zero, Nat.add_sub_cancel, Nat.div_one, List.range'_succ, List.range'_zero, List.forIn_cons, List.forIn_nil]
  go_simp
  by_cases h0 : a0 = b0 <;> by_cases h1 : a1 = b1 <;> by_cases h2 : a2 = b2 <;> by_cases h3 : a3 = b3 <;> simp [h0, h1, h2, h3]
theorem SNew_no (n : Int) (h : n < 0 ∨ 4096 < n) (w : World) : Calls Try.prog 37 #[.int .i64 n] w fun e w' => e = .returned (.tuple #[.pointer none, .int .i64 1]) ∧ w' = w := by
  rcases h with h | h
  · go_enter Try.func37, Try.ntmps37
    go_wp2
    go_returns
    exact ⟨rfl, rfl⟩
  · have h' : ¬ n < 0 := by omega
    go_enter Try.func37, Try.ntmps37
    go_wp2
    go_returns
    exact ⟨rfl, rfl⟩
/-- Bytes that are there: those of a few places. -/
def kL (p q r s : Int) (x : Int) : Int := if x = 254 then p else if x = 255 then q else if x = 4294967294 then r else if x = 4294967295 then s else 0
def b3 (i : Nat) : Int := if i = 0 then 1 else if i = 1 then 2 else 0
def b2 (i : Nat) : Int := if i = 0 then 1 else 2
theorem k1 : (⟨2, fun _ => 0⟩ : SS).put 4294967294 (fun _ => 3) 2 = ⟨2, kL 0 0 3 3⟩ := by
  unfold SS.put
  simp only [SS.mk.injEq, true_and]
  funext x
  unfold kL
  by_cases h : 4294967294 ≤ x ∧ x < 4294967294 + ((2 : Nat) : Int)
  · rw [if_pos h, if_neg (by omega), if_neg (by omega)]
    by_cases e : x = 4294967294
    · rw [if_pos e]
    · rw [if_neg e, if_pos (by omega)]
  · rw [if_neg h]
    split
    · rfl
    · split
      · rfl
      · rw [if_neg (by omega), if_neg (by omega)]
theorem k2 : (⟨2, kL 0 0 3 3⟩ : SS).put 0 (fun _ => 0) 1048576 = ⟨2, kL 0 0 3 3⟩ := by
  unfold SS.put
  simp only [SS.mk.injEq, true_and]
  funext x
  unfold kL
  by_cases h : 0 ≤ x ∧ x < 0 + ((1048576 : Nat) : Int)
  · rw [if_pos h]
    split
    · rfl
    · split
      · rfl
      · rw [if_neg (by omega), if_neg (by omega)]
  · rw [if_neg h]
theorem k3 : (⟨2, kL 0 0 3 3⟩ : SS).put 254 b3 3 = ⟨2, kL 1 2 3 3⟩ := by
  unfold SS.put
  simp only [SS.mk.injEq, true_and]
  funext x
  unfold kL
  by_cases h : 254 ≤ x ∧ x < 254 + ((3 : Nat) : Int)
  · have : x = 254 ∨ x = 255 ∨ x = 256 := by omega
    rcases this with rfl | rfl | rfl <;> rfl
  · have e1 : ¬ x = 254 := by omega
    have e2 : ¬ x = 255 := by omega
    rw [if_neg h]
    simp only [e1, e2, if_false]
theorem k5 : (⟨2, kL 1 2 3 3⟩ : SS).put 4294967294 (fun _ => 0) 1 = ⟨2, kL 1 2 0 3⟩ := by
  unfold SS.put
  simp only [SS.mk.injEq, true_and]
  funext x
  unfold kL
  by_cases h : 4294967294 ≤ x ∧ x < 4294967294 + ((1 : Nat) : Int)
  · obtain rfl : x = 4294967294 := by omega
    rfl
  · have : ¬ x = 4294967294 := by omega
    rw [if_neg h]
    simp only [this, if_false]
theorem k6 (t : Nat → Int) (h0 : t 0 = 0) : (⟨2, kL 1 2 0 3⟩ : SS).put 4294967295 t 1 = ⟨2, kL 1 2 0 0⟩ := by
  unfold SS.put
  simp only [SS.mk.injEq, true_and]
  funext x
  unfold kL
  by_cases h : 4294967295 ≤ x ∧ x < 4294967295 + ((1 : Nat) : Int)
  · obtain rfl : x = 4294967295 := by omega
    rw [if_pos h]
    exact h0
  · have : ¬ x = 4294967295 := by omega
    rw [if_neg h]
    simp only [this, if_false]
theorem kL_le {p q r s : Int} {ks : List Int} (h : Enum ⟨2, kL p q r s⟩ ks) : ks.length ≤ 2 := by
  have := h.le (ps := [16777215, 0]) (fun k k0 k1 hk => nz_zero.2 (fun i hi => by
    simp only [List.mem_cons, List.not_mem_nil, or_false, not_or] at hk
    simp only [SS.pg, kL]
    rw [if_neg (by omega), if_neg (by omega), if_neg (by omega), if_neg (by omega)]))
  simpa using this
theorem kL_le1 {r s : Int} {ks : List Int} (h : Enum ⟨2, kL 0 0 r s⟩ ks) : ks.length ≤ 1 := by
  have := h.le (ps := [16777215]) (fun k k0 k1 hk => nz_zero.2 (fun i hi => by
    simp only [List.mem_cons, List.not_mem_nil, or_false] at hk
    simp only [SS.pg, kL]
    split
    · rfl
    · split
      · rfl
      · rw [if_neg (by omega), if_neg (by omega)]))
  simpa using this
theorem kL_one {ks : List Int} (h : Enum ⟨2, kL 1 2 0 0⟩ ks) : ks.length = 1 := by
  have h1 := h.le (ps := [0]) (fun k k0 k1 hk => nz_zero.2 (fun i hi => by
    simp only [List.mem_cons, List.not_mem_nil, or_false] at hk
    simp only [SS.pg, kL]
    rw [if_neg (by omega), if_neg (by omega)]
    split
    · rfl
    · split <;> rfl))
  have h2 := h.pos (k := 0) (by omega) (by omega) (i := 254) (by omega) (by simp [SS.pg, kL])
  simp at h1
  omega
/-- With two pages there is no room for a third. -/
theorem k4 {ks : List Int} (h : Enum ((⟨2, kL 1 2 3 3⟩ : SS).put 255 b2 2) ks) : 3 ≤ ks.length := by
  have := nodup_le (ks := [0, 1, 16777215]) (ps := ks) (by decide) (fun k hk => by
    simp only [List.mem_cons, List.not_mem_nil, or_false] at hk
    rcases hk with rfl | rfl | rfl
    · exact (h.2 _).2 ⟨by omega, by omega, nz_of (i := 254) (by omega) (by simp [SS.pg, SS.put, kL])⟩
    · exact (h.2 _).2 ⟨by omega, by omega, nz_of (i := 0) (by omega) (by simp [SS.pg, SS.put, kL, b2])⟩
    · exact (h.2 _).2 ⟨by omega, by omega, nz_of (i := 254) (by omega) (by simp [SS.pg, SS.put, kL])⟩)
  simpa using this
/-- A Set of bytes that were laid just now. -/
theorem Set_new {w0 w : World} {sb N : Nat} {S : SS} {ks : List Int} (h : HasS w0 w sb N S ks) (A : Int) (hA : U4 A) (cs : Array Value) (bs : Nat → Int) (len : Nat) (hl : len ≤ 1000) (hcs : ∀ i, i < len → cs[i]? = some (.int .u8 (bs i)) ∧ 0 ≤ bs i ∧ bs i < 256)
    (m : Nat) (hm : (m : Int) = max 0 (min (len : Int) (4294967296 - A))) (hN : N ≤ 1000000000) :
    Calls Try.prog 39 #[.pointer (some ⟨sb, 0, none⟩), .int .u32 A, .slice (some ⟨w.heap.size, 0, none⟩) len len] (w.alloc (.cells cs 5)) (SetH w0 w sb (N + rowN A m) S (S.put A bs m)) := by
  obtain ⟨b, hk, L, hS, rfl⟩ := h
  have hr := rowN_small (A := A) (m := m) (by unfold U4 at hA; omega)
  have g1 : Below w.heap.size w (w.alloc (.cells cs 5)) := bl_alloc (Below.refl _ _) _
  have hby : Bys (w.alloc (.cells cs 5)) w.heap.size 0 len bs := fun i hi => ⟨by
    have := BoxN.new w 5 cs
    simp only [World.cell?, show (w.alloc (.cells cs 5)).heap[w.heap.size]? = _ from this]
    simp [(hcs i hi).1], (hcs i hi).2⟩
  refine (Set_c (hS.bl g1) A hA (g := w.heap.size) (o := 0) (len := len) (cap := len) (bs := bs) ⟨Nat.le_refl _, by omega, hby, .inr rfl⟩ m hm hk (by omega) (by unfold maxLen; omega) (fun _ x => by have := x.2; omega)).mono ?_
  intro e w' hp
  exact SetPost.has b rfl (SetPost.up g1 hp)
set_option maxRecDepth 100000 in
set_option maxHeartbeats 4000000 in
theorem ShadowKnown_w (W : World) : Calls Try.prog 4 #[] W fun e w' => e = .returned (.bool true) ∧ Below W.heap.size W w' := by
  have eT := eqTag4
  go_enter Try.func4, Try.ntmps4
  go_wp2_with fail
  refine (awake4_c _).mono ?_
  rintro e w1 ⟨rfl, b1⟩
  go_wp2_with fail
  refine (SNew_no (-1) (by omega) _).mono ?_
  rintro e w2 ⟨rfl, rfl⟩
  go_wp2_with fail
  refine (SNew_no 4097 (by omega) _).mono ?_
  rintro e w2 ⟨rfl, rfl⟩
  go_wp2_with fail
  refine (SNew_h 2 (by omega) (by omega) W _ b1).mono ?_
  rintro e w2 ⟨sb, rfl, b2', hs⟩
  go_wp2_with fail
  refine (Fill_h hs 4294967294 9 3 (by unfold U4; omega) (by omega) (by omega) 2 (by omega) (by omega) (by omega)).mono ?_
  rw [k1]
  rintro e w3 (⟨ks1, he1, hf1, rfl, b3'⟩ | ⟨ks1, rfl, h3, b3'⟩)
  · have := kL_le he1
    simp at hf1
    omega
  have r1 := rowN_le (A := 4294967294) (n := 2)
  go_wp2_with fail
  refine (Fill_big 0 1048577 0 (by omega)).mono ?_
  rintro e w4 ⟨rfl, rfl⟩
  go_wp2_with fail
  refine (Fill_h h3 0 1048576 0 (by unfold U4; omega) (by omega) (by omega) 1048576 (by omega) (by omega) (by omega)).mono ?_
  rw [k2]
  rintro e w5 (⟨ks2, he2, hf2, rfl, b5⟩ | ⟨ks2, rfl, h5, b5⟩)
  · have := kL_le he2
    simp at hf2
    omega
  have r2 := rowN_le (A := 0) (n := 1048576)
  go_wp2_with fail
  refine (Set_new h5 254 (by unfold U4; omega) _ b3 3 (by omega) (fun i hi => by
    have : i = 0 ∨ i = 1 ∨ i = 2 := by omega
    rcases this with rfl | rfl | rfl <;> exact ⟨rfl, by decide, by decide⟩) 3 (by omega) (by omega)).mono ?_
  rw [k3]
  rintro e w6 (⟨ks3, he3, hf3, rfl, b6⟩ | ⟨ks3, rfl, h6, b6⟩)
  · have := kL_le he3
    simp at hf3
    omega
  have r3 := rowN_le (A := 254) (n := 3)
  go_wp2_with fail
  refine (Set_new h6 255 (by unfold U4; omega) _ b2 2 (by omega) (fun i hi => by
    have : i = 0 ∨ i = 1 := by omega
    rcases this with rfl | rfl <;> exact ⟨rfl, by decide, by decide⟩) 2 (by omega) (by omega)).mono ?_
  rintro e w7 (⟨ks4, he4, hf4, rfl, b7⟩ | ⟨ks4, rfl, h7, b7⟩)
  rotate_left
  · have := k4 h7.enum
    have hr := h7.room
    simp [SS.put] at hr
    omega
  have h7 := h6.on b7
  clear he4 hf4 b7 h6 b6 h5 b5 h3 b3' hs b2' b1
  have T7 := Tag_h h7 4294967294 4 (by unfold U4; omega) 2 (by decide)
  rw [tagv_congr (g := fun j => if j = 0 then 3 else if j = 1 then 3 else 0) (fun j hj => four_cases (P := fun j => (if j < 2 then (⟨2, kL 1 2 3 3⟩ : SS).lab (4294967294 + (j : Int)) else 0) = if j = 0 then 3 else if j = 1 then 3 else 0) hj rfl rfl rfl rfl)] at T7
  simp only [tagv] at T7
  simp at T7
  go_wp2_with fail
  refine T7.mono ?_
  rintro e w8 ⟨rfl, b8⟩
  have h8 := h7.on b8
  clear T7 h7 b8
  go_wp2_with fail
  obtain ⟨bW, hk8, L, hS, hks⟩ := h8
  have hl8 := kL_le (by rw [← hks] at hk8; exact hS.enum)
  obtain ⟨N, hN⟩ : ∃ N, 0 + rowN 4294967294 2 + rowN 0 1048576 + rowN 254 3 = N := ⟨_, rfl⟩
  have hN9 : N ≤ 10000 := by omega
  rw [hN] at hS
  clear hN r1 r2 r3
  have g9 : Below w8.heap.size w8 (w8.alloc (.cells #[.int .u8 3, .int .u8 3, .int .u8 0, .int .u8 0] 57)) := bl_alloc (Below.refl _ _) _
  have bx := BoxN.new w8 57 #[.int .u8 3, .int .u8 3, .int .u8 0, .int .u8 0]
  have hS9 := hS.bl g9
  have hz : ∀ r, OrP (kL 1 2 3 3) (fun a => 0 ≤ a ∧ a < 0 + ((0 : Nat) : Int)) r → r = 0 := fun r hr => hr.eq (OrP.none _ _ (fun a ha => by omega))
  have A9 := Any_c hS9 0 (-5) (by unfold U4; omega) (by omega) (by omega) 0 (by omega) (by omega)
  refine A9.mono ?_
  rintro e w10 ⟨r, rfl, o10, b10⟩
  obtain rfl := hz _ o10
  have hS10 := hS9.bl b10
  have bx10 := bx.bl b10
  have h3 : ∀ r, OrP (kL 1 2 3 3) (fun a => 4294967295 ≤ a ∧ a < 4294967295 + ((1 : Nat) : Int)) r → r = 3 := fun r hr => hr.eq ((OrP.one (lab := kL 1 2 3 3) (a := 4294967295) (by decide)).congr (fun a => by omega))
  have A10 := Any_c hS10 4294967295 100 (by unfold U4; omega) (by omega) (by omega) 1 (by omega) (by omega)
  clear A9 o10 hz
  go_wp2_with fail
  refine A10.mono ?_
  rintro e w11 ⟨r, rfl, o11, b11⟩
  obtain rfl := h3 _ o11
  have hS11 := hS10.bl b11
  have bx11 := bx10.bl b11
  have b811 : Below w8.heap.size w8 w11 := bl_trans (bl_trans g9 b10) b11
  have C11 := Clear_c hS11 4294967294 1 (by unfold U4; omega) (by omega) (by omega) 1 (by omega) (by omega) (by unfold maxLen; omega)
  clear A10 o11 h3 hS10 hS9 bx10
  rw [k5] at C11
  go_wp2_with fail
  refine C11.mono ?_
  rintro e w12 ⟨rfl, fF, L', G, hS12, hG, hl12⟩
  have hbx : w8.heap.size < w11.heap.size := bx11.lt
  have bx12 : BoxN w12 w8.heap.size 57 #[.int .u8 3, .int .u8 3, .int .u8 0, .int .u8 0] := (fF.block _ hbx (fun x => by have := x.2; omega)).trans bx11
  have hGx : ¬ G w8.heap.size := fun y => by
    rcases hG.2 _ y with y | ⟨y, _⟩
    · have := y.2; omega
    · omega
  have A12 := SAt_c hS12 4294967294 (by unfold U4; omega)
  rw [show (⟨2, kL 1 2 0 3⟩ : SS).lab 4294967294 = 0 from rfl] at A12
  clear C11
  go_wp2_with fail
  refine A12.mono ?_
  rintro e w13 ⟨rfl, rfl⟩
  have hle12 := kL_le hS12.enum
  have P12 := Put_c hS12 4294967295 4 (by unfold U4; omega) (fun _ => 0) (by simp) 1 (by decide) (by show (L'.ks.length : Int) ≤ 2; omega) (by have := rowN_le (A := 4294967295) (n := 1); unfold maxLen; omega)
  rw [k6 (fun _ => 0) rfl] at P12
  simp only [tagv] at P12
  clear A12
  go_wp2_with fail
  refine P12.mono ?_
  rintro e w14 ⟨ks14, he14, (⟨rfl, _, hf⟩ | ⟨rfl, _, fG, L14, G14, hS14, lG14, hl14⟩)⟩
  · have := kL_le he14
    simp at hf
    omega
  have bx14 : BoxN w14 w8.heap.size 57 #[.int .u8 3, .int .u8 3, .int .u8 0, .int .u8 0] := (fG.block _ bx12.lt hGx).trans bx12
  obtain ⟨t0, t1, t2, t3⟩ := numCells (t := fun j => if j = 0 then 3 else if j = 1 then 3 else 0) bx14
  simp only [↓reduceIte, Nat.reduceEqDiff] at t0 t1 t2 t3
  have A14 := SAt_c hS14 255 (by unfold U4; omega)
  rw [show (⟨2, kL 1 2 0 0⟩ : SS).lab 255 = 2 from rfl] at A14
  have hone := kL_one hS14.enum
  have D14 := Dirty_c hS14 (by omega)
  rw [hone] at D14
  have bEnd : Below W.heap.size W w14 := by
    have f1 : Fs (fun i => W.heap.size ≤ i ∧ i < w8.heap.size) w11 w14 := fF.trans fG (fun i hi y => by
      rcases hG.2 i y with y | ⟨y, _⟩
      · exact y
      · omega)
    exact (bl_trans bW b811).trans (f1.bl (by have := (bl_trans bW b811).size; omega) (fun i _ x => x.1))
  clear P12
  go_wp2_with fail
  refine A14.mono ?_
  rintro e w15 ⟨rfl, rfl⟩
  go_wp2_with fail
  refine D14.mono ?_
  rintro e w16 ⟨q, cap, rfl, b16⟩
  go_wp2_with fail
  go_returns
  exact ⟨rfl, bl_trans bEnd b16⟩
end Go.Proofs.Ytgebmedkhakhfaa
