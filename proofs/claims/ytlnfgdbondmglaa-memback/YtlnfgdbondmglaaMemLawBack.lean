/- THE LAWS OF LAYER 3: MemBack. -/
import Derived.Test.YtlnfgdbondmglaaMemLaws
namespace Go.Proofs.Ytlnfgdbondmglaa
open Go.ChangeShapes Go.WideShapes Go.ChangeAt Go.RowKit
set_option linter.unusedSimpArgs false
set_option linter.unusedVariables false

/-- The one page at address 0, to be read and written. -/
structure OneP (S : MS) (p : Pg) : Prop where
  pg : S.pg 0 = some p
  perm : p.perm = 3
theorem OneP.store {S : MS} {p : Pg} (h : OneP S p) {a size v : Int} (ha : 0 ≤ a ∧ a < 256) (hs : (size = 1 ∨ size = 2 ∨ size = 4) ∧ a % size = 0) :
    S.ask a size 2 = 0 ∧ OneP (S.store a size v) { p.wrt a.toNat v size.toNat with gen := (p.gen + 1) % 4294967296 } := by
  have e0 : a / 256 = 0 := by omega
  have e1 : a % 256 = a := by omega
  have hp : S.pg (a / 256) = some p := by rw [e0]; exact h.pg
  have h0 : S.ask a size 2 = 0 := ask_pg hp hs (by rw [h.perm]; exact b32)
  have h2 := store_pg (v := v) hp h0
  rw [e0, e1] at h2
  exact ⟨h0, h2, h.perm⟩
theorem OneP.load {S : MS} {p : Pg} (h : OneP S p) {a size : Int} (ha : 0 ≤ a ∧ a < 256) (hs : (size = 1 ∨ size = 2 ∨ size = 4) ∧ a % size = 0) :
    S.ask a size 1 = 0 ∧ S.load a size 1 = p.val a.toNat size := by
  have e0 : a / 256 = 0 := by omega
  have e1 : a % 256 = a := by omega
  have hp : S.pg (a / 256) = some p := by rw [e0]; exact h.pg
  have h0 : S.ask a size 1 = 0 := ask_pg hp hs (by rw [h.perm]; exact b31)
  have h2 := load_pg hp h0
  rw [e1] at h2
  exact ⟨h0, h2⟩
theorem wrt_in (p : Pg) {o k i : Nat} {v : Int} (h : o ≤ i ∧ i < o + k) : (p.wrt o v k).byt i = v / 256 ^ (i - o) % 256 := by
  simp only [Pg.wrt]; rw [if_pos h]
theorem wrt_out (p : Pg) {o k i : Nat} {v : Int} (h : ¬ (o ≤ i ∧ i < o + k)) : (p.wrt o v k).byt i = p.byt i := by
  simp only [Pg.wrt]; rw [if_neg h]
theorem one_val (p : Pg) (o : Nat) : p.val o 1 = p.byt o := by simp [Pg.val]

/-- The page behind the three stores of MemBack. -/
def back (x size v p q : Int) : Pg :=
  let p1 : Pg := { (Pg.fresh 3 1).wrt (x - 1).toNat p 1 with gen := 2 }
  let p2 : Pg := { p1.wrt (x + size).toNat q 1 with gen := 3 }
  { p2.wrt x.toNat v size.toNat with gen := 4 }
theorem back_bytes {x v p q : Int} {sz : Nat} (hx : 1 ≤ x ∧ x ≤ 250) (hs : sz = 1 ∨ sz = 2 ∨ sz = 4) (hp : 0 ≤ p ∧ p < 256) (hq : 0 ≤ q ∧ q < 256) :
    (back x sz v p q).byt (x - 1).toNat = p ∧ (back x sz v p q).byt (x + sz).toNat = q ∧ ∀ i : Nat, i < sz → (back x sz v p q).byt (x + i).toNat = v / 256 ^ i % 256 := by
  refine ⟨?_, ?_, fun i hi => ?_⟩
  · show (({ (({ (Pg.fresh 3 1).wrt (x - 1).toNat p 1 with gen := 2 } : Pg)).wrt (x + sz).toNat q 1 with gen := 3 } : Pg).wrt x.toNat v (sz : Int).toNat).byt _ = p
    rw [wrt_out _ (by omega)]
    show ((({ (Pg.fresh 3 1).wrt (x - 1).toNat p 1 with gen := 2 } : Pg)).wrt (x + sz).toNat q 1).byt _ = p
    rw [wrt_out _ (by omega)]
    show ((Pg.fresh 3 1).wrt (x - 1).toNat p 1).byt _ = p
    rw [wrt_in _ (by omega)]; simp; omega
  · show (({ (({ (Pg.fresh 3 1).wrt (x - 1).toNat p 1 with gen := 2 } : Pg)).wrt (x + sz).toNat q 1 with gen := 3 } : Pg).wrt x.toNat v (sz : Int).toNat).byt _ = q
    rw [wrt_out _ (by omega)]
    show ((({ (Pg.fresh 3 1).wrt (x - 1).toNat p 1 with gen := 2 } : Pg)).wrt (x + sz).toNat q 1).byt _ = q
    rw [wrt_in _ (by omega)]; simp; omega
  · show (({ (({ (Pg.fresh 3 1).wrt (x - 1).toNat p 1 with gen := 2 } : Pg)).wrt (x + sz).toNat q 1 with gen := 3 } : Pg).wrt x.toNat v (sz : Int).toNat).byt _ = _
    rw [wrt_in _ (by omega)]
    rw [show (x + i).toNat - x.toNat = i by omega]

set_option maxRecDepth 100000 in
set_option maxHeartbeats 4000000 in
theorem MemBack_no (x size v p q : Int) (hno : ¬ ((size = 1 ∨ size = 2 ∨ size = 4) ∧ 1 ≤ x ∧ x ≤ 250 ∧ x % size = 0)) (w : World) :
    Calls Try.prog 5 #[.int .i64 x, .int .i64 size, .int .u32 v, .int .u8 p, .int .u8 q] w fun e w' => e = .returned (.bool true) ∧ Gr w w' := by
  by_cases hs : size = 1 ∨ size = 2 ∨ size = 4
  · by_cases h1 : x < 1
    · rcases hs with rfl | rfl | rfl
      all_goals
        go_enter Try.func5, Try.ntmps5
        go_wp2_with fail
        refine (awake_c _).mono ?_
        rintro e w1 ⟨rfl, g1⟩
        go_wp2_with fail
        go_returns
        exact ⟨rfl, g1⟩
    · by_cases h2 : 250 < x
      · rcases hs with rfl | rfl | rfl
        all_goals
          go_enter Try.func5, Try.ntmps5
          go_wp2_with fail
          refine (awake_c _).mono ?_
          rintro e w1 ⟨rfl, g1⟩
          go_wp2_with fail
          go_returns
          exact ⟨rfl, g1⟩
      · have h3 : x % size ≠ 0 := fun e => hno ⟨hs, by omega, by omega, e⟩
        have h0 : 0 ≤ x := by omega
        have h3' : (x % size != 0) = true := by simpa using h3
        have h3'' : (x % size == 0) = false := by simpa using h3
        clear hno
        rcases hs with rfl | rfl | rfl
        · omega
        all_goals
          go_enter Try.func5, Try.ntmps5
          go_wp2_with fail
          refine (awake_c _).mono ?_
          rintro e w1 ⟨rfl, g1⟩
          go_wp2_with fail
          go_returns
          exact ⟨rfl, g1⟩
  · have s1 : (size == 1) = false := by simp; omega
    have s2 : (size == 2) = false := by simp; omega
    have s4 : (size == 4) = false := by simp; omega
    go_enter Try.func5, Try.ntmps5
    go_wp2_with fail
    refine (awake_c _).mono ?_
    rintro e w1 ⟨rfl, g1⟩
    go_wp2_with fail
    go_returns
    exact ⟨rfl, g1⟩

def backS (x size v p q : Int) : MS := ((((MS.new 2).mapS 0 256 3).store (x - 1) 1 p).store (x + size) 1 q).store x size v
structure BackF (x size v p q : Int) : Prop where
  m0 : (MS.new 2).mapE 0 256 3 = 0
  s1 : ((MS.new 2).mapS 0 256 3).ask (x - 1) 1 2 = 0
  s2 : (((MS.new 2).mapS 0 256 3).store (x - 1) 1 p).ask (x + size) 1 2 = 0
  s3 : ((((MS.new 2).mapS 0 256 3).store (x - 1) 1 p).store (x + size) 1 q).ask x size 2 = 0
  a1 : (backS x size v p q).ask x size 1 = 0
  v1 : (backS x size v p q).load x size 1 = if size = 1 then v % 256 else if size = 2 then v % 65536 else v
  a2 : (backS x size v p q).ask (x - 1) 1 1 = 0
  v2 : (backS x size v p q).load (x - 1) 1 1 = p
  a3 : (backS x size v p q).ask (x + size) 1 1 = 0
  v3 : (backS x size v p q).load (x + size) 1 1 = q
  a4 : ∀ i : Int, 0 ≤ i → i < size → (backS x size v p q).ask (x + i) 1 1 = 0
  v4 : ∀ i : Int, 0 ≤ i → i < size → (backS x size v p q).load (x + i) 1 1 = v / 256 ^ i.toNat % 256
theorem back_facts {x v p q size : Int} {sz : Nat} (hz : size = sz) (hs : sz = 1 ∨ sz = 2 ∨ sz = 4) (hx : 1 ≤ x ∧ x ≤ 250) (hm : x % size = 0) (hv : U4 v) (hp : 0 ≤ p ∧ p < 256) (hq : 0 ≤ q ∧ q < 256) : BackF x size v p q := by
  subst hz
  have m0 : (MS.new 2).mapE 0 256 3 = 0 := new_map (by omega) (by omega) (by omega)
  have o1 : OneP ((MS.new 2).mapS 0 256 3) (Pg.fresh 3 1) := ⟨new_pg m0 (by omega) (by omega), rfl⟩
  obtain ⟨s1, o2⟩ := o1.store (a := x - 1) (size := 1) (v := p) (by omega) (by omega)
  obtain ⟨s2, o3⟩ := o2.store (a := x + sz) (size := 1) (v := q) (by omega) (by omega)
  obtain ⟨s3, o4⟩ := o3.store (a := x) (size := sz) (v := v) (by omega) (by omega)
  have o5 : OneP (backS x sz v p q) (back x sz v p q) := o4
  obtain ⟨b1, b2, b3⟩ := back_bytes (v := v) hx hs hp hq
  obtain ⟨l1, l1'⟩ := o5.load (a := x) (size := sz) (by omega) (by omega)
  obtain ⟨l2, l2'⟩ := o5.load (a := x - 1) (size := 1) (by omega) (by omega)
  obtain ⟨l3, l3'⟩ := o5.load (a := x + sz) (size := 1) (by omega) (by omega)
  rw [one_val, b1] at l2'
  rw [one_val, b2] at l3'
  refine ⟨m0, s1, s2, s3, l1, ?_, l2, l2', l3, l3', fun i h0 h1 => ?_, fun i h0 h1 => ?_⟩
  · rw [l1']
    have c0 := b3 0
    have c1 := b3 1
    have c2 := b3 2
    have c3 := b3 3
    rw [show (x + ((0 : Nat) : Int)).toNat = x.toNat by omega] at c0
    rw [show (x + ((1 : Nat) : Int)).toNat = x.toNat + 1 by omega] at c1
    rw [show (x + ((2 : Nat) : Int)).toNat = x.toNat + 2 by omega] at c2
    rw [show (x + ((3 : Nat) : Int)).toNat = x.toNat + 3 by omega] at c3
    simp only [Int.pow_zero, show (256 : Int) ^ 1 = 256 from rfl, show (256 : Int) ^ 2 = 65536 from rfl, show (256 : Int) ^ 3 = 16777216 from rfl] at c0 c1 c2 c3
    obtain ⟨v0, v1⟩ := hv
    unfold Pg.val
    rcases hs with rfl | rfl | rfl
    · simp only [show (((1 : Nat) : Int) = 1) from rfl, if_true] at c0 ⊢
      rw [c0 (by omega)]; omega
    · simp only [show (((2 : Nat) : Int) = 2) from rfl, show ((2 : Int) = 1) = False from by simp, if_true, if_false] at c0 c1 ⊢
      rw [c0 (by omega), c1 (by omega)]; omega
    · simp only [show (((4 : Nat) : Int) = 4) from rfl, show ((4 : Int) = 1) = False from by simp, show ((4 : Int) = 2) = False from by simp, if_false] at c0 c1 c2 c3 ⊢
      rw [c0 (by omega), c1 (by omega), c2 (by omega), c3 (by omega)]; omega
  · exact (o5.load (a := x + i) (size := 1) (by omega) (by omega)).1
  · rw [(o5.load (a := x + i) (size := 1) (by omega) (by omega)).2, one_val]
    have := b3 i.toNat (by omega)
    rw [show ((i.toNat : Nat) : Int) = i by omega] at this
    exact this
theorem and255 {b : Int} (h : U4 b) : bits .and .u32 b 255 = b % 256 := by
  obtain ⟨h0, h1⟩ := h
  rw [u32_and b 255 h0 h1 (by omega) (by omega)]
  have : b.toNat &&& (255 : Int).toNat = b.toNat % 2 ^ 8 := Nat.and_two_pow_sub_one_eq_mod _ 8
  rw [this]; omega
theorem and65535 {b : Int} (h : U4 b) : bits .and .u32 b 65535 = b % 65536 := by
  obtain ⟨h0, h1⟩ := h
  rw [u32_and b 65535 h0 h1 (by omega) (by omega)]
  have : b.toNat &&& (65535 : Int).toNat = b.toNat % 2 ^ 16 := Nat.and_two_pow_sub_one_eq_mod _ 16
  rw [this]; omega

set_option maxRecDepth 100000 in
set_option maxHeartbeats 4000000 in
theorem MemBack_1 (x v p q : Int) (hx : 1 ≤ x ∧ x ≤ 250) (hm : x % 1 = 0) (hv : U4 v) (hp : 0 ≤ p ∧ p < 256) (hq : 0 ≤ q ∧ q < 256) (w : World) :
    Calls Try.prog 5 #[.int .i64 x, .int .i64 1, .int .u32 v, .int .u8 p, .int .u8 q] w fun e w' => e = .returned (.bool true) ∧ Gr w w' := by
  have B := back_facts (size := 1) (sz := 1) rfl (by omega) hx hm hv hp hq
  have v1 := B.v1
  have a40 := B.a4 0 (by omega) (by omega)
  rw [show x + 0 = x by omega] at a40
  have v40 := B.v4 0 (by omega) (by omega)
  rw [show x + 0 = x by omega] at v40
  simp only [show (256 : Int) ^ (0 : Int).toNat = 1 from rfl, show (256 : Int) ^ (1 : Int).toNat = 256 from rfl, show (256 : Int) ^ (2 : Int).toNat = 65536 from rfl, show (256 : Int) ^ (3 : Int).toNat = 16777216 from rfl] at v40
  have d255 := and255 hv
  have d65535 := and65535 hv
  obtain ⟨hx1, hx2⟩ := hx
  have hv' := hv
  obtain ⟨hv0, hv1⟩ := hv
  obtain ⟨hp0, hp1⟩ := hp
  obtain ⟨hq0, hq1⟩ := hq
  go_enter Try.func5, Try.ntmps5
  go_wp2_with fail
  refine (awake_c _).mono ?_
  rintro e w1 ⟨rfl, g1⟩
  go_wp2_with fail
  refine (New_h g1 2 (by omega)).mono ?_
  rintro e w2 ⟨mb, rfl, h0⟩
  go_wp2_with fail
  refine (Map_h h0 0 256 3 (by unfold U4; omega) (by unfold U4; omega) (by unfold maxLen; omega) (fun _ => new_ins _ _)).mono ?_
  rw [B.m0]
  rintro e w3 ⟨rfl, h1⟩
  go_wp2_with fail
  refine (Store_h h1 (x - 1) 1 p (by unfold U4; omega) (by unfold U4; omega)).mono ?_
  rw [B.s1]
  rintro e w4 ⟨rfl, h2⟩
  go_wp2_with fail
  refine (Store_h h2 (x + 1) 1 q (by unfold U4; omega) (by unfold U4; omega)).mono ?_
  rw [B.s2]
  rintro e w5 ⟨rfl, h3⟩
  go_wp2_with fail
  refine (Store_h h3 x 1 v (by unfold U4; omega) hv').mono ?_
  rw [B.s3]
  rintro e w6 ⟨rfl, h4⟩
  replace h4 : Has w w6 mb (0 + 4096) (backS x 1 v p q) := h4
  go_wp2_with fail
  refine (Load_h h4 x 1 1 (by unfold U4; omega)).mono ?_
  rw [B.a1, v1]
  rintro e w7 ⟨rfl, rfl⟩
  go_wp2_with fail
  refine (Load_h h4 (x - 1) 1 1 (by unfold U4; omega)).mono ?_
  rw [B.a2, B.v2]
  rintro e w8 ⟨rfl, rfl⟩
  go_wp2_with fail
  refine (Load_h h4 (x + 1) 1 1 (by unfold U4; omega)).mono ?_
  rw [B.a3, B.v3]
  rintro e w9 ⟨rfl, rfl⟩
  go_wp2_with fail
  refine wp_loop_rounds 2 ?_
  rw [rounds_succ]
  go_wp2_with fail
  refine (Load_h h4 x 1 1 (by unfold U4; omega)).mono ?_
  rw [a40, v40]
  rintro e w20 ⟨rfl, rfl⟩
  go_wp2_with fail
  rw [rounds_succ]
  go_wp2_with fail
  go_returns
  exact ⟨rfl, h4.gr⟩

set_option maxRecDepth 100000 in
set_option maxHeartbeats 4000000 in
theorem MemBack_2 (x v p q : Int) (hx : 1 ≤ x ∧ x ≤ 250) (hm : x % 2 = 0) (hv : U4 v) (hp : 0 ≤ p ∧ p < 256) (hq : 0 ≤ q ∧ q < 256) (w : World) :
    Calls Try.prog 5 #[.int .i64 x, .int .i64 2, .int .u32 v, .int .u8 p, .int .u8 q] w fun e w' => e = .returned (.bool true) ∧ Gr w w' := by
  have B := back_facts (size := 2) (sz := 2) rfl (by omega) hx hm hv hp hq
  have v1 := B.v1
  have a40 := B.a4 0 (by omega) (by omega)
  rw [show x + 0 = x by omega] at a40
  have v40 := B.v4 0 (by omega) (by omega)
  have a41 := B.a4 1 (by omega) (by omega)
  have v41 := B.v4 1 (by omega) (by omega)
  rw [show x + 0 = x by omega] at v40
  simp only [show (256 : Int) ^ (0 : Int).toNat = 1 from rfl, show (256 : Int) ^ (1 : Int).toNat = 256 from rfl, show (256 : Int) ^ (2 : Int).toNat = 65536 from rfl, show (256 : Int) ^ (3 : Int).toNat = 16777216 from rfl] at v40 v41
  have d255 := and255 hv
  have d65535 := and65535 hv
  obtain ⟨hx1, hx2⟩ := hx
  have hv' := hv
  obtain ⟨hv0, hv1⟩ := hv
  obtain ⟨hp0, hp1⟩ := hp
  obtain ⟨hq0, hq1⟩ := hq
  go_enter Try.func5, Try.ntmps5
  go_wp2_with fail
  refine (awake_c _).mono ?_
  rintro e w1 ⟨rfl, g1⟩
  go_wp2_with fail
  refine (New_h g1 2 (by omega)).mono ?_
  rintro e w2 ⟨mb, rfl, h0⟩
  go_wp2_with fail
  refine (Map_h h0 0 256 3 (by unfold U4; omega) (by unfold U4; omega) (by unfold maxLen; omega) (fun _ => new_ins _ _)).mono ?_
  rw [B.m0]
  rintro e w3 ⟨rfl, h1⟩
  go_wp2_with fail
  refine (Store_h h1 (x - 1) 1 p (by unfold U4; omega) (by unfold U4; omega)).mono ?_
  rw [B.s1]
  rintro e w4 ⟨rfl, h2⟩
  go_wp2_with fail
  refine (Store_h h2 (x + 2) 1 q (by unfold U4; omega) (by unfold U4; omega)).mono ?_
  rw [B.s2]
  rintro e w5 ⟨rfl, h3⟩
  go_wp2_with fail
  refine (Store_h h3 x 2 v (by unfold U4; omega) hv').mono ?_
  rw [B.s3]
  rintro e w6 ⟨rfl, h4⟩
  replace h4 : Has w w6 mb (0 + 4096) (backS x 2 v p q) := h4
  go_wp2_with fail
  refine (Load_h h4 x 2 1 (by unfold U4; omega)).mono ?_
  rw [B.a1, v1]
  rintro e w7 ⟨rfl, rfl⟩
  go_wp2_with fail
  refine (Load_h h4 (x - 1) 1 1 (by unfold U4; omega)).mono ?_
  rw [B.a2, B.v2]
  rintro e w8 ⟨rfl, rfl⟩
  go_wp2_with fail
  refine (Load_h h4 (x + 2) 1 1 (by unfold U4; omega)).mono ?_
  rw [B.a3, B.v3]
  rintro e w9 ⟨rfl, rfl⟩
  go_wp2_with fail
  refine wp_loop_rounds 3 ?_
  rw [rounds_succ]
  go_wp2_with fail
  refine (Load_h h4 x 1 1 (by unfold U4; omega)).mono ?_
  rw [a40, v40]
  rintro e w20 ⟨rfl, rfl⟩
  go_wp2_with fail
  rw [rounds_succ]
  go_wp2_with fail
  refine (Load_h h4 (x + 1) 1 1 (by unfold U4; omega)).mono ?_
  rw [a41, v41]
  rintro e w21 ⟨rfl, rfl⟩
  go_wp2_with fail
  rw [rounds_succ]
  go_wp2_with fail
  go_returns
  exact ⟨rfl, h4.gr⟩

set_option maxRecDepth 100000 in
set_option maxHeartbeats 4000000 in
theorem MemBack_4 (x v p q : Int) (hx : 1 ≤ x ∧ x ≤ 250) (hm : x % 4 = 0) (hv : U4 v) (hp : 0 ≤ p ∧ p < 256) (hq : 0 ≤ q ∧ q < 256) (w : World) :
    Calls Try.prog 5 #[.int .i64 x, .int .i64 4, .int .u32 v, .int .u8 p, .int .u8 q] w fun e w' => e = .returned (.bool true) ∧ Gr w w' := by
  have B := back_facts (size := 4) (sz := 4) rfl (by omega) hx hm hv hp hq
  have v1 := B.v1
  have a40 := B.a4 0 (by omega) (by omega)
  rw [show x + 0 = x by omega] at a40
  have v40 := B.v4 0 (by omega) (by omega)
  have a41 := B.a4 1 (by omega) (by omega)
  have v41 := B.v4 1 (by omega) (by omega)
  have a42 := B.a4 2 (by omega) (by omega)
  have v42 := B.v4 2 (by omega) (by omega)
  have a43 := B.a4 3 (by omega) (by omega)
  have v43 := B.v4 3 (by omega) (by omega)
  rw [show x + 0 = x by omega] at v40
  simp only [show (256 : Int) ^ (0 : Int).toNat = 1 from rfl, show (256 : Int) ^ (1 : Int).toNat = 256 from rfl, show (256 : Int) ^ (2 : Int).toNat = 65536 from rfl, show (256 : Int) ^ (3 : Int).toNat = 16777216 from rfl] at v40 v41 v42 v43
  have d255 := and255 hv
  have d65535 := and65535 hv
  obtain ⟨hx1, hx2⟩ := hx
  have hv' := hv
  obtain ⟨hv0, hv1⟩ := hv
  obtain ⟨hp0, hp1⟩ := hp
  obtain ⟨hq0, hq1⟩ := hq
  go_enter Try.func5, Try.ntmps5
  go_wp2_with fail
  refine (awake_c _).mono ?_
  rintro e w1 ⟨rfl, g1⟩
  go_wp2_with fail
  refine (New_h g1 2 (by omega)).mono ?_
  rintro e w2 ⟨mb, rfl, h0⟩
  go_wp2_with fail
  refine (Map_h h0 0 256 3 (by unfold U4; omega) (by unfold U4; omega) (by unfold maxLen; omega) (fun _ => new_ins _ _)).mono ?_
  rw [B.m0]
  rintro e w3 ⟨rfl, h1⟩
  go_wp2_with fail
  refine (Store_h h1 (x - 1) 1 p (by unfold U4; omega) (by unfold U4; omega)).mono ?_
  rw [B.s1]
  rintro e w4 ⟨rfl, h2⟩
  go_wp2_with fail
  refine (Store_h h2 (x + 4) 1 q (by unfold U4; omega) (by unfold U4; omega)).mono ?_
  rw [B.s2]
  rintro e w5 ⟨rfl, h3⟩
  go_wp2_with fail
  refine (Store_h h3 x 4 v (by unfold U4; omega) hv').mono ?_
  rw [B.s3]
  rintro e w6 ⟨rfl, h4⟩
  replace h4 : Has w w6 mb (0 + 4096) (backS x 4 v p q) := h4
  go_wp2_with fail
  refine (Load_h h4 x 4 1 (by unfold U4; omega)).mono ?_
  rw [B.a1, v1]
  rintro e w7 ⟨rfl, rfl⟩
  go_wp2_with fail
  refine (Load_h h4 (x - 1) 1 1 (by unfold U4; omega)).mono ?_
  rw [B.a2, B.v2]
  rintro e w8 ⟨rfl, rfl⟩
  go_wp2_with fail
  refine (Load_h h4 (x + 4) 1 1 (by unfold U4; omega)).mono ?_
  rw [B.a3, B.v3]
  rintro e w9 ⟨rfl, rfl⟩
  go_wp2_with fail
  refine wp_loop_rounds 5 ?_
  rw [rounds_succ]
  go_wp2_with fail
  refine (Load_h h4 x 1 1 (by unfold U4; omega)).mono ?_
  rw [a40, v40]
  rintro e w20 ⟨rfl, rfl⟩
  go_wp2_with fail
  rw [rounds_succ]
  go_wp2_with fail
  refine (Load_h h4 (x + 1) 1 1 (by unfold U4; omega)).mono ?_
  rw [a41, v41]
  rintro e w21 ⟨rfl, rfl⟩
  go_wp2_with fail
  rw [rounds_succ]
  go_wp2_with fail
  refine (Load_h h4 (x + 2) 1 1 (by unfold U4; omega)).mono ?_
  rw [a42, v42]
  rintro e w22 ⟨rfl, rfl⟩
  go_wp2_with fail
  rw [rounds_succ]
  go_wp2_with fail
  refine (Load_h h4 (x + 3) 1 1 (by unfold U4; omega)).mono ?_
  rw [a43, v43]
  rintro e w23 ⟨rfl, rfl⟩
  go_wp2_with fail
  rw [rounds_succ]
  go_wp2_with fail
  go_returns
  exact ⟨rfl, h4.gr⟩

theorem MemBack_w (x size v p q : Int) (hv : U4 v) (hp : 0 ≤ p ∧ p < 256) (hq : 0 ≤ q ∧ q < 256) (w : World) :
    Calls Try.prog 5 #[.int .i64 x, .int .i64 size, .int .u32 v, .int .u8 p, .int .u8 q] w fun e w' => e = .returned (.bool true) ∧ Gr w w' := by
  by_cases h : (size = 1 ∨ size = 2 ∨ size = 4) ∧ 1 ≤ x ∧ x ≤ 250 ∧ x % size = 0
  · obtain ⟨hs, h1, h2, h3⟩ := h
    rcases hs with rfl | rfl | rfl
    · exact MemBack_1 x v p q ⟨h1, h2⟩ h3 hv hp hq w
    · exact MemBack_2 x v p q ⟨h1, h2⟩ h3 hv hp hq w
    · exact MemBack_4 x v p q ⟨h1, h2⟩ h3 hv hp hq w
  · exact MemBack_no x size v p q h w
end Go.Proofs.Ytlnfgdbondmglaa
