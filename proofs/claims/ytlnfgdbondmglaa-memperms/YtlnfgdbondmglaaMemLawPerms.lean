/- THE LAWS OF LAYER 3: MemPerms. -/
import Derived.Test.YtlnfgdbondmglaaMemLaws2
namespace Go.Proofs.Ytlnfgdbondmglaa
open Go.ChangeShapes Go.WideShapes Go.ChangeAt Go.RowKit
set_option linter.unusedSimpArgs false
set_option linter.unusedVariables false

set_option maxRecDepth 100000 in
set_option maxHeartbeats 4000000 in
theorem MemPerms_no (perm need size : Int) (hno : ¬ ((0 ≤ perm ∧ perm ≤ 7) ∧ (0 ≤ need ∧ need ≤ 7) ∧ (size = 1 ∨ size = 2 ∨ size = 4))) (w : World) :
    Calls Try.prog 10 #[.int .i64 perm, .int .i64 need, .int .i64 size] w fun e w' => e = .returned (.bool true) ∧ Gr w w' := by
  have fin : ∀ P : Prop, P → P := fun _ h => h
  by_cases h1 : perm < 0
  · go_enter Try.func10, Try.ntmps10
    go_wp2_with fail
    refine (awake_c _).mono ?_
    rintro e w1 ⟨rfl, g1⟩
    go_wp2_with fail
    go_returns
    exact ⟨rfl, g1⟩
  · by_cases h2 : 7 < perm
    · go_enter Try.func10, Try.ntmps10
      go_wp2_with fail
      refine (awake_c _).mono ?_
      rintro e w1 ⟨rfl, g1⟩
      go_wp2_with fail
      go_returns
      exact ⟨rfl, g1⟩
    · by_cases h3 : need < 0
      · go_enter Try.func10, Try.ntmps10
        go_wp2_with fail
        refine (awake_c _).mono ?_
        rintro e w1 ⟨rfl, g1⟩
        go_wp2_with fail
        go_returns
        exact ⟨rfl, g1⟩
      · by_cases h4 : 7 < need
        · go_enter Try.func10, Try.ntmps10
          go_wp2_with fail
          refine (awake_c _).mono ?_
          rintro e w1 ⟨rfl, g1⟩
          go_wp2_with fail
          go_returns
          exact ⟨rfl, g1⟩
        · have s1 : (size != 1) = true := by simp; omega
          have s2 : (size != 2) = true := by simp; omega
          have s4 : (size != 4) = true := by simp; omega
          have k1 : decide (perm < 0) = false := by simpa using h1
          have k2 : decide (7 < perm) = false := by simpa using h2
          have k3 : decide (need < 0) = false := by simpa using h3
          have k4 : decide (7 < need) = false := by simpa using h4
          clear hno h1 h2 h3 h4
          go_enter Try.func10, Try.ntmps10
          go_wp2_with fail
          refine (awake_c _).mono ?_
          rintro e w1 ⟨rfl, g1⟩
          go_wp2_with fail
          go_returns
          exact ⟨rfl, g1⟩

/-- What the four calls answer. -/
structure PermF (perm need size : Int) (a b : Int) : Prop where
  m0 : (MS.new 1).mapE 256 256 perm = 0
  s1 : ((MS.new 1).mapS 256 256 perm).ask 256 size need = a
  s2 : ((MS.new 1).mapS 256 256 perm).ask 256 size 2 = b
  pg : ∃ p, (((MS.new 1).mapS 256 256 perm).store 256 size 1).pg (256 / 256) = some p ∧ p.perm = perm
theorem perm_facts {perm need size : Int} (hp : 0 ≤ perm ∧ perm ≤ 7) (hs : size = 1 ∨ size = 2 ∨ size = 4) :
    PermF perm need size (if (bits .and .i64 perm need == need) = true then 0 else 2) (if (bits .and .i64 perm 2 == 2) = true then 0 else 2) := by
  have m0 : (MS.new 1).mapE 256 256 perm = 0 := new_map (by omega) hp (by omega)
  have p0 : ((MS.new 1).mapS 256 256 perm).pg (256 / 256) = some (Pg.fresh perm 1) := new_pg m0 (by omega) (by omega)
  have hm : (256 : Int) % size = 0 := by rcases hs with rfl | rfl | rfl <;> omega
  refine ⟨m0, ?_, ?_, ?_⟩
  · unfold MS.ask; rw [if_pos ⟨hs, hm⟩, p0]; rfl
  · unfold MS.ask; rw [if_pos ⟨hs, hm⟩, p0]; rfl
  · by_cases h : ((MS.new 1).mapS 256 256 perm).ask 256 size 2 = 0
    · exact ⟨_, store_pg p0 h, rfl⟩
    · unfold MS.store
      rw [if_neg h]; exact ⟨_, p0, rfl⟩

theorem Read_any {w0 w : World} {mb N : Nat} {S : MS} (h : Has w0 w mb N S) (a : Int) (ha : U4 a) (B : Bool) (hm : May S a 1 1 ↔ B = true) :
    Calls Try.prog 16 #[.pointer (some ⟨mb, 0, none⟩), .int .u32 a, .int .i64 1] w fun e w' => ∃ v c, e = .returned (.tuple #[v, .int .i64 c]) ∧ (c = if B then 0 else 8) ∧ Has w0 w' mb N S := by
  cases B
  · exact (Read_hn h a 1 ha (by omega) (fun x => absurd (hm.1 x) (by simp))).mono (fun e w' ⟨h1, _, h3⟩ => ⟨_, 8, h1, rfl, h3⟩)
  · exact (Read_hy h a 1 ha (by omega) (hm.2 rfl)).mono (fun e w' ⟨v, h1, _, h3, _⟩ => ⟨v, 0, h1, rfl, h3⟩)
theorem Write_any {w0 w : World} {mb N : Nat} {S : MS} (h : Has w0 w mb N S) (a : Int) (ha : U4 a) (B : Bool) (hm : May S a 1 2 ↔ B = true) :
    Calls Try.prog 27 #[.pointer (some ⟨mb, 0, none⟩), .int .u32 a, .slice (some ⟨w.heap.size, 0, none⟩) 1 1] (w.alloc (.cells #[.int .u8 1] 5)) fun e w' => ∃ c S', e = .returned (.int .i64 c) ∧ (c = if B then 0 else 8) ∧ Has w0 w' mb N S' := by
  cases B
  · exact (Write_hn (h.on ((Gr.refl w).alloc _ _)) a 1 ha (by omega) (fun x => absurd (hm.1 x) (by simp)) _ 1).mono (fun e w' ⟨h1, h3⟩ => ⟨8, _, h1, rfl, h3⟩)
  · refine (Write_hy h ((Gr.refl w).alloc #[.int .u8 1] 5) a 1 ha (by omega) (by omega) (hm.2 rfl) w.heap.size 0 1 (fun _ => 1) (by omega) (fun i hi => ?_) (by omega) (.inr (by omega))).mono (fun e w' ⟨h1, h3⟩ => ⟨0, _, h1, rfl, h3⟩)
    obtain rfl : i = 0 := by omega
    simp

set_option maxRecDepth 100000 in
set_option maxHeartbeats 4000000 in
theorem MemPerms_1 (perm need : Int) (hp : 0 ≤ perm ∧ perm ≤ 7) (hn : 0 ≤ need ∧ need ≤ 7) (w : World) :
    Calls Try.prog 10 #[.int .i64 perm, .int .i64 need, .int .i64 1] w fun e w' => e = .returned (.bool true) ∧ Gr w w' := by
  have P := perm_facts (need := need) (size := 1) hp (by omega)
  obtain ⟨p, hpg, hpp⟩ := P.pg
  have mr : May (((MS.new 1).mapS 256 256 perm).store 256 1 1) 256 1 1 ↔ (bits .and .i64 perm 1 == 1) = true := by
    rw [may_one (by omega)]
    constructor
    · rintro ⟨q, q1, q2⟩; rw [hpg] at q1; cases q1; rw [hpp] at q2; exact q2
    · intro q; exact ⟨p, hpg, by rw [hpp]; exact q⟩
  have mw : May (((MS.new 1).mapS 256 256 perm).store 256 1 1) 256 1 2 ↔ (bits .and .i64 perm 2 == 2) = true := by
    rw [may_one (by omega)]
    constructor
    · rintro ⟨q, q1, q2⟩; rw [hpg] at q1; cases q1; rw [hpp] at q2; exact q2
    · intro q; exact ⟨p, hpg, by rw [hpp]; exact q⟩
  have sa := P.s1
  have sb := P.s2
  have m0 := P.m0
  clear P hpg hpp
  obtain ⟨la, hla⟩ : ∃ la, la = ((MS.new 1).mapS 256 256 perm).load 256 1 need := ⟨_, rfl⟩
  obtain ⟨xa, hxa⟩ : ∃ xa : Int, xa = if (bits .and .i64 perm need == need) = true then 0 else 2 := ⟨_, rfl⟩
  obtain ⟨xb, hxb⟩ : ∃ xb : Int, xb = if (bits .and .i64 perm 2 == 2) = true then 0 else 2 := ⟨_, rfl⟩
  rw [← hxa] at sa
  rw [← hxb] at sb
  have XA : Hid _ := hxa
  have XB : Hid _ := hxb
  have hpn0 : ¬ perm < 0 := by omega
  have hpn1 : ¬ 7 < perm := by omega
  have hpn2 : ¬ need < 0 := by omega
  have hpn3 : ¬ 7 < need := by omega
  clear hp hn hxa hxb
  have LA : Hid _ := hla
  have SA : Hid _ := sa
  have SB : Hid _ := sb
  have M0 : Hid _ := m0
  have MR : Hid _ := mr
  have MW : Hid _ := mw
  clear hla sa sb m0 mr mw
  go_enter Try.func10, Try.ntmps10
  go_wp2_with fail
  refine (awake_c _).mono ?_
  rintro e w1 ⟨rfl, g1⟩
  go_wp2_with fail
  refine (New_h g1 1 (by omega)).mono ?_
  rintro e w2 ⟨mb, rfl, h0⟩
  go_wp2_with fail
  refine (Map_h h0 256 256 perm (by unfold U4; omega) (by unfold U4; omega) (by unfold maxLen; omega) (fun _ => new_ins _ _)).mono ?_
  rw [M0.out]
  rintro e w3 ⟨rfl, h1⟩
  go_wp2_with fail
  refine (Load_h h1 256 _ need (by unfold U4; omega)).mono ?_
  rw [SA.out, ← LA.out]
  rintro e w4 ⟨rfl, rfl⟩
  go_wp2_with fail
  refine (Store_h h1 256 _ 1 (by unfold U4; omega) (by unfold U4; omega)).mono ?_
  rw [SB.out]
  rintro e w5 ⟨rfl, h2⟩
  go_wp2_with fail
  refine (Read_any h2 256 (by unfold U4; omega) _ MR.out).mono ?_
  rintro e w6 ⟨v, xc, rfl, hxc, h3⟩
  have XC : Hid _ := hxc
  clear hxc
  go_wp2_with fail
  refine (Write_any h3 256 (by unfold U4; omega) _ MW.out).mono ?_
  rintro e w7 ⟨xd, S', rfl, hxd, h4⟩
  have g4 := h4.gr
  have xa := XA.out
  have xb := XB.out
  have xc := XC.out
  clear XA XB XC SA SB LA MR MW M0 h0 h1 h2 h3 h4 g1
  by_cases c1 : (bits .and .i64 perm need == need) = true <;> by_cases c2 : (bits .and .i64 perm 2 == 2) = true <;> by_cases c3 : (bits .and .i64 perm 1 == 1) = true
  all_goals
    simp only [c1, c2, c3, if_true, if_false, Bool.false_eq_true] at xa xb xc hxd
    subst xa xb xc hxd
    try simp only [Bool.not_eq_true] at c1
    try simp only [Bool.not_eq_true] at c2
    try simp only [Bool.not_eq_true] at c3
    go_wp2_with fail
    go_returns
    exact ⟨rfl, g4⟩

set_option maxRecDepth 100000 in
set_option maxHeartbeats 4000000 in
theorem MemPerms_2 (perm need : Int) (hp : 0 ≤ perm ∧ perm ≤ 7) (hn : 0 ≤ need ∧ need ≤ 7) (w : World) :
    Calls Try.prog 10 #[.int .i64 perm, .int .i64 need, .int .i64 2] w fun e w' => e = .returned (.bool true) ∧ Gr w w' := by
  have P := perm_facts (need := need) (size := 2) hp (by omega)
  obtain ⟨p, hpg, hpp⟩ := P.pg
  have mr : May (((MS.new 1).mapS 256 256 perm).store 256 2 1) 256 1 1 ↔ (bits .and .i64 perm 1 == 1) = true := by
    rw [may_one (by omega)]
    constructor
    · rintro ⟨q, q1, q2⟩; rw [hpg] at q1; cases q1; rw [hpp] at q2; exact q2
    · intro q; exact ⟨p, hpg, by rw [hpp]; exact q⟩
  have mw : May (((MS.new 1).mapS 256 256 perm).store 256 2 1) 256 1 2 ↔ (bits .and .i64 perm 2 == 2) = true := by
    rw [may_one (by omega)]
    constructor
    · rintro ⟨q, q1, q2⟩; rw [hpg] at q1; cases q1; rw [hpp] at q2; exact q2
    · intro q; exact ⟨p, hpg, by rw [hpp]; exact q⟩
  have sa := P.s1
  have sb := P.s2
  have m0 := P.m0
  clear P hpg hpp
  obtain ⟨la, hla⟩ : ∃ la, la = ((MS.new 1).mapS 256 256 perm).load 256 2 need := ⟨_, rfl⟩
  obtain ⟨xa, hxa⟩ : ∃ xa : Int, xa = if (bits .and .i64 perm need == need) = true then 0 else 2 := ⟨_, rfl⟩
  obtain ⟨xb, hxb⟩ : ∃ xb : Int, xb = if (bits .and .i64 perm 2 == 2) = true then 0 else 2 := ⟨_, rfl⟩
  rw [← hxa] at sa
  rw [← hxb] at sb
  have XA : Hid _ := hxa
  have XB : Hid _ := hxb
  have hpn0 : ¬ perm < 0 := by omega
  have hpn1 : ¬ 7 < perm := by omega
  have hpn2 : ¬ need < 0 := by omega
  have hpn3 : ¬ 7 < need := by omega
  clear hp hn hxa hxb
  have LA : Hid _ := hla
  have SA : Hid _ := sa
  have SB : Hid _ := sb
  have M0 : Hid _ := m0
  have MR : Hid _ := mr
  have MW : Hid _ := mw
  clear hla sa sb m0 mr mw
  go_enter Try.func10, Try.ntmps10
  go_wp2_with fail
  refine (awake_c _).mono ?_
  rintro e w1 ⟨rfl, g1⟩
  go_wp2_with fail
  refine (New_h g1 1 (by omega)).mono ?_
  rintro e w2 ⟨mb, rfl, h0⟩
  go_wp2_with fail
  refine (Map_h h0 256 256 perm (by unfold U4; omega) (by unfold U4; omega) (by unfold maxLen; omega) (fun _ => new_ins _ _)).mono ?_
  rw [M0.out]
  rintro e w3 ⟨rfl, h1⟩
  go_wp2_with fail
  refine (Load_h h1 256 _ need (by unfold U4; omega)).mono ?_
  rw [SA.out, ← LA.out]
  rintro e w4 ⟨rfl, rfl⟩
  go_wp2_with fail
  refine (Store_h h1 256 _ 1 (by unfold U4; omega) (by unfold U4; omega)).mono ?_
  rw [SB.out]
  rintro e w5 ⟨rfl, h2⟩
  go_wp2_with fail
  refine (Read_any h2 256 (by unfold U4; omega) _ MR.out).mono ?_
  rintro e w6 ⟨v, xc, rfl, hxc, h3⟩
  have XC : Hid _ := hxc
  clear hxc
  go_wp2_with fail
  refine (Write_any h3 256 (by unfold U4; omega) _ MW.out).mono ?_
  rintro e w7 ⟨xd, S', rfl, hxd, h4⟩
  have g4 := h4.gr
  have xa := XA.out
  have xb := XB.out
  have xc := XC.out
  clear XA XB XC SA SB LA MR MW M0 h0 h1 h2 h3 h4 g1
  by_cases c1 : (bits .and .i64 perm need == need) = true <;> by_cases c2 : (bits .and .i64 perm 2 == 2) = true <;> by_cases c3 : (bits .and .i64 perm 1 == 1) = true
  all_goals
    simp only [c1, c2, c3, if_true, if_false, Bool.false_eq_true] at xa xb xc hxd
    subst xa xb xc hxd
    try simp only [Bool.not_eq_true] at c1
    try simp only [Bool.not_eq_true] at c2
    try simp only [Bool.not_eq_true] at c3
    go_wp2_with fail
    go_returns
    exact ⟨rfl, g4⟩

set_option maxRecDepth 100000 in
set_option maxHeartbeats 4000000 in
theorem MemPerms_4 (perm need : Int) (hp : 0 ≤ perm ∧ perm ≤ 7) (hn : 0 ≤ need ∧ need ≤ 7) (w : World) :
    Calls Try.prog 10 #[.int .i64 perm, .int .i64 need, .int .i64 4] w fun e w' => e = .returned (.bool true) ∧ Gr w w' := by
  have P := perm_facts (need := need) (size := 4) hp (by omega)
  obtain ⟨p, hpg, hpp⟩ := P.pg
  have mr : May (((MS.new 1).mapS 256 256 perm).store 256 4 1) 256 1 1 ↔ (bits .and .i64 perm 1 == 1) = true := by
    rw [may_one (by omega)]
    constructor
    · rintro ⟨q, q1, q2⟩; rw [hpg] at q1; cases q1; rw [hpp] at q2; exact q2
    · intro q; exact ⟨p, hpg, by rw [hpp]; exact q⟩
  have mw : May (((MS.new 1).mapS 256 256 perm).store 256 4 1) 256 1 2 ↔ (bits .and .i64 perm 2 == 2) = true := by
    rw [may_one (by omega)]
    constructor
    · rintro ⟨q, q1, q2⟩; rw [hpg] at q1; cases q1; rw [hpp] at q2; exact q2
    · intro q; exact ⟨p, hpg, by rw [hpp]; exact q⟩
  have sa := P.s1
  have sb := P.s2
  have m0 := P.m0
  clear P hpg hpp
  obtain ⟨la, hla⟩ : ∃ la, la = ((MS.new 1).mapS 256 256 perm).load 256 4 need := ⟨_, rfl⟩
  obtain ⟨xa, hxa⟩ : ∃ xa : Int, xa = if (bits .and .i64 perm need == need) = true then 0 else 2 := ⟨_, rfl⟩
  obtain ⟨xb, hxb⟩ : ∃ xb : Int, xb = if (bits .and .i64 perm 2 == 2) = true then 0 else 2 := ⟨_, rfl⟩
  rw [← hxa] at sa
  rw [← hxb] at sb
  have XA : Hid _ := hxa
  have XB : Hid _ := hxb
  have hpn0 : ¬ perm < 0 := by omega
  have hpn1 : ¬ 7 < perm := by omega
  have hpn2 : ¬ need < 0 := by omega
  have hpn3 : ¬ 7 < need := by omega
  clear hp hn hxa hxb
  have LA : Hid _ := hla
  have SA : Hid _ := sa
  have SB : Hid _ := sb
  have M0 : Hid _ := m0
  have MR : Hid _ := mr
  have MW : Hid _ := mw
  clear hla sa sb m0 mr mw
  go_enter Try.func10, Try.ntmps10
  go_wp2_with fail
  refine (awake_c _).mono ?_
  rintro e w1 ⟨rfl, g1⟩
  go_wp2_with fail
  refine (New_h g1 1 (by omega)).mono ?_
  rintro e w2 ⟨mb, rfl, h0⟩
  go_wp2_with fail
  refine (Map_h h0 256 256 perm (by unfold U4; omega) (by unfold U4; omega) (by unfold maxLen; omega) (fun _ => new_ins _ _)).mono ?_
  rw [M0.out]
  rintro e w3 ⟨rfl, h1⟩
  go_wp2_with fail
  refine (Load_h h1 256 _ need (by unfold U4; omega)).mono ?_
  rw [SA.out, ← LA.out]
  rintro e w4 ⟨rfl, rfl⟩
  go_wp2_with fail
  refine (Store_h h1 256 _ 1 (by unfold U4; omega) (by unfold U4; omega)).mono ?_
  rw [SB.out]
  rintro e w5 ⟨rfl, h2⟩
  go_wp2_with fail
  refine (Read_any h2 256 (by unfold U4; omega) _ MR.out).mono ?_
  rintro e w6 ⟨v, xc, rfl, hxc, h3⟩
  have XC : Hid _ := hxc
  clear hxc
  go_wp2_with fail
  refine (Write_any h3 256 (by unfold U4; omega) _ MW.out).mono ?_
  rintro e w7 ⟨xd, S', rfl, hxd, h4⟩
  have g4 := h4.gr
  have xa := XA.out
  have xb := XB.out
  have xc := XC.out
  clear XA XB XC SA SB LA MR MW M0 h0 h1 h2 h3 h4 g1
  by_cases c1 : (bits .and .i64 perm need == need) = true <;> by_cases c2 : (bits .and .i64 perm 2 == 2) = true <;> by_cases c3 : (bits .and .i64 perm 1 == 1) = true
  all_goals
    simp only [c1, c2, c3, if_true, if_false, Bool.false_eq_true] at xa xb xc hxd
    subst xa xb xc hxd
    try simp only [Bool.not_eq_true] at c1
    try simp only [Bool.not_eq_true] at c2
    try simp only [Bool.not_eq_true] at c3
    go_wp2_with fail
    go_returns
    exact ⟨rfl, g4⟩
theorem MemPerms_w (perm need size : Int) (w : World) :
    Calls Try.prog 10 #[.int .i64 perm, .int .i64 need, .int .i64 size] w fun e w' => e = .returned (.bool true) ∧ Gr w w' := by
  by_cases h : (0 ≤ perm ∧ perm ≤ 7) ∧ (0 ≤ need ∧ need ≤ 7) ∧ (size = 1 ∨ size = 2 ∨ size = 4)
  · obtain ⟨h1, h2, rfl | rfl | rfl⟩ := h
    · exact MemPerms_1 perm need h1 h2 w
    · exact MemPerms_2 perm need h1 h2 w
    · exact MemPerms_4 perm need h1 h2 w
  · exact MemPerms_no perm need size h w
end Go.Proofs.Ytlnfgdbondmglaa
