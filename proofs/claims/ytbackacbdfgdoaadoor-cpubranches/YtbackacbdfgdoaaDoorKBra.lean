/- LAYER 12's laws: two memories side by side; a State built in place; its registers loaded whole. · LAYER 12's law CpuBranches. -/
import Derived.Test.YtbackacbdfgdoaaDoorK13
import Derived.BigFrame
namespace Go.Proofs.YtbackacbdfgdoaaDoor
open Go.ChangeShapes Go.WideShapes Go.ChangeAt Go.RowKit
open Cpu
set_option linter.unusedVariables false

theorem HasB.kp {w0 w w' : World} {mb N : Nat} {S : MS} {P Q : Nat → Prop} (h : HasB w0 w mb N S P) (k : Kp Q w w') (hQ : ∀ i, ¬ P i → Q i) (g : Bw w0 w') : HasB w0 w' mb N S P := by
  obtain ⟨F, _, hF, L, o⟩ := h
  exact ⟨F, g, hF, L, o.congr k.1 (fun i hi => k.2 i (o.lt i hi) (hQ i (hF i hi).2))⟩
/-- The registers of a State's box. -/
def xl (f : Nat → Int) : List Value := (List.range 32).map fun i => Value.int .u32 (f i)
theorem SB.xrange {w : World} {b : Nat} {s : St} (h : SB w b s) : w.rangeAt b 0 (xl s.x) := fun j v hv => by
  rw [Nat.zero_add]
  have hj : j < 32 := by have := (List.getElem?_eq_some_iff.1 hv).1; simpa [xl] using this
  unfold xl at hv
  rw [List.getElem?_map, List.getElem?_range hj] at hv
  simp at hv
  subst hv
  exact h.c hj
theorem infoX (f : Nat → Int) : (Tryd.prog.info? 30).map (·.size) = some (xl f).length := by
  rw [show (xl f).length = 32 by simp [xl]]; kernel_rfl
theorem wpLoadX {ops : Array Oper} {rest : List Oper} {op : Oper} {a : Act} {w : World} {Q : Exit → Act → World → Prop} (hw : Region.wanted op (yielded ops a.tmps) = true) (x : Operand) (ho : op.op = .load 30 x)
    (b : Nat) {s : St} (hx : a.eval x = .pointer (some ⟨b, 0, none⟩)) (hb : SB w b s) (h : wpList Tryd.prog ops Q rest (a.put op.dst (.agg (xl s.x).toArray)) w) : wpList Tryd.prog ops Q (op :: rest) a w :=
  BigFrame.wpList_want hw fun _ hK => wp_load_mid 30 x ho b 0 hx (xl s.x) _ hb.xrange Tryd.underlying30 rfl (infoX _) (hK _ _ h)
theorem x_eqlL (f : Nat → Int) (hs : ∀ i, U4 (f i)) (w : World) : (binOp .eql 30 (.agg (xl f).toArray) (.agg (xl f).toArray)).run Tryd.prog w = .ok (.bool true) w := x_eql f hs w
/-- A State with two registers set. -/
def st2 (i j : Nat) (a b : Int) : St := ((awS.put i a).put j b)
theorem st2_ok {i j : Nat} {a b : Int} (ha : U4 a) (hb : U4 b) : (st2 i j a b).Ok := by
  refine ⟨fun k => ?_, awS_ok.pc, awS_ok.ret⟩
  show U4 (if k = j then b else if k = i then a else 0)
  split
  · exact hb
  · split
    · exact ha
    · exact ⟨by decide, by decide⟩
/-- A State's box, its two registers set in place. -/
theorem SB.two {w : World} {b : Nat} (h : SB w b awS) {i j : Nat} (hi : i < 32) (hj : j < 32) (x y : Int) : SB ((w.setCell ⟨b, i, none⟩ (.int .u32 x)).setCell ⟨b, j, none⟩ (.int .u32 y)) b (st2 i j x y) := (h.put hi x).put hj y
theorem done_x {s : St} (h0 : s.x 0 = 0) (pc : Int) : (done s 0 0 pc).x = s.x := by
  funext i
  show (if i = 0 then 0 else if i = (0 : Int).toNat then 0 else s.x i) = s.x i
  by_cases h : i = 0
  · subst h; rw [if_pos rfl, h0]
  · rw [if_neg h, if_neg (by simpa using h)]
end Go.Proofs.YtbackacbdfgdoaaDoor
namespace Go.Proofs.YtbackacbdfgdoaaDoor
open Go.ChangeShapes Go.WideShapes Go.ChangeAt Go.RowKit
open Cpu
set_option linter.unusedVariables false
set_option linter.unusedSimpArgs false

theorem at_load {P : Program} {ops : Array Oper} {Q : Exit → Act → World → Prop} {d : Option Tmp} {ty : TypeId} {x : Operand} {t : TypeId} {pos : String} {after : Array Edge} {g : Option (Nat × Bool)} {rest : List Oper} {a : Act} {w : World}
    (h : wpList P ops Q ({ dst := d, op := .load ty x, type := t, pos := pos, after := after, guard := g } :: rest) a w) : wpList P ops Q ({ dst := d, op := .load ty x, type := t, pos := pos, after := after, guard := g } :: rest) a w := h
theorem br_good {op : Int} (h : 5 ≤ op ∧ op ≤ 10) : Rv.good ⟨op, 0, 1, 2, 64⟩ := by
  rw [Rv.good_3 (by unfold Rv.lay; dsimp only; rw [if_neg (by omega), if_neg (by omega), if_pos h])]
  unfold Rv.reg
  dsimp only
  omega
theorem im64 : -2147483648 ≤ (64 : Int) ∧ (64 : Int) < 2147483648 := ⟨by decide, by decide⟩
def brTo (op a b : Int) : Int := if Alu.tst (tk op) a b = true then 4160 else 4100
/-- A branch's step. -/
theorem br_step {op a b : Int} (h : 5 ≤ op ∧ op ≤ 10) : Cpu.step (mkS [Rv.enc ⟨op, 0, 1, 2, 64⟩] []) (st2 1 2 a b) = ⟨done (st2 1 2 a b) 0 0 (brTo op a b), nx, mkS [Rv.enc ⟨op, 0, 1, 2, 64⟩] []⟩ := by
  rw [step_ins [Rv.enc ⟨op, 0, 1, 2, 64⟩] [] (k := 0) (st2 1 2 a b) (by omega) rfl (br_good h) im64 rfl]
  unfold Cpu.run
  dsimp only
  rw [if_neg (by omega), if_neg (by omega), if_neg (by omega), if_neg (by omega), if_pos (by omega)]
  unfold brn brTo
  rw [show reg (st2 1 2 a b) (Rv.Ins.mk op 0 1 2 64).rs1 = a from rfl, show reg (st2 1 2 a b) (Rv.Ins.mk op 0 1 2 64).rs2 = b from rfl]
  split <;> rfl
theorem br_opp {op other a b : Int} (h : 5 ≤ op ∧ op ≤ 10) (ho : (op - 5) % 2 = 0 ∧ other = op + 1 ∨ (op - 5) % 2 = 1 ∧ other = op - 1) : Alu.tst (tk other) a b = !Alu.tst (tk op) a b := by
  have h2 : op = 5 ∧ other = 6 ∨ op = 6 ∧ other = 5 ∨ op = 7 ∧ other = 8 ∨ op = 8 ∧ other = 7 ∨ op = 9 ∧ other = 10 ∨ op = 10 ∧ other = 9 := by omega
  have k5 : tk 5 = 0 := by decide
  have k6 : tk 6 = 1 := by decide
  have k7 : tk 7 = 4 := by decide
  have k8 : tk 8 = 5 := by decide
  have k9 : tk 9 = 6 := by decide
  have k10 : tk 10 = 7 := by decide
  rcases h2 with ⟨rfl, rfl⟩ | ⟨rfl, rfl⟩ | ⟨rfl, rfl⟩ | ⟨rfl, rfl⟩ | ⟨rfl, rfl⟩ | ⟨rfl, rfl⟩ <;> simp only [k5, k6, k7, k8, k9, k10, Alu.tst] <;> simp <;> (try rw [← decide_not]) <;> simp
set_option maxRecDepth 100000 in
set_option maxHeartbeats 4000000 in
theorem CpuBr_no (op a b : Int) (hop : -9223372036854775808 ≤ op ∧ op ≤ 9223372036854775807) (W : World) (ha : All12 W) (h : ¬ (5 ≤ op ∧ op ≤ 10)) :
    Calls Tryd.prog 8 #[.int .i64 op, .int .u32 a, .int .u32 b] W fun e w' => e = .returned (.bool true) ∧ Bw W w' := by
  have hA := awake12_c W ha
  rcases (show op < 5 ∨ ¬ op < 5 ∧ 10 < op by omega) with h | ⟨h1, h⟩
  all_goals
    go_enter Tryd.func8, Tryd.ntmps8
    go_wp2_with (first | (go_at_call 10; refine hA.mono ?_; rintro e w1 ⟨rfl, b1⟩))
    go_returns
    exact ⟨rfl, b1⟩
set_option maxRecDepth 100000 in
set_option maxHeartbeats 800000 in
theorem CpuBr_yes (op a b : Int) (h : 5 ≤ op ∧ op ≤ 10) (hua : U4 a) (hub : U4 b) (W : World) (ha : All12 W) (q : Int) (hq : (op - 5) % 2 = q) (other : Int) (ho : q = 0 ∧ other = op + 1 ∨ q = 1 ∧ other = op - 1) (x y : Int) (hx : brTo op a b = x) (hy : brTo other a b = y) (hxy : x = 4160 ∧ y = 4100 ∨ x = 4100 ∧ y = 4160) :
    Calls Tryd.prog 8 #[.int .i64 op, .int .u32 a, .int .u32 b] W fun e w' => e = .returned (.bool true) ∧ Bw W w' := by
  have hA := awake12_c W ha
  have h2 : 5 ≤ other ∧ other ≤ 10 := by omega
  have hs1 := br_step (a := a) (b := b) h
  have hs2 := br_step (a := a) (b := b) h2
  rw [hx] at hs1
  rw [hy] at hs2
  have hW1 := fun X (g : Bw W X) => word_c X ⟨op, 0, 1, 2, 64⟩ (ha.t.bw g) im64 (br_good h)
  have hW2 := fun X (g : Bw W X) => word_c X ⟨other, 0, 1, 2, 64⟩ (ha.t.bw g) im64 (br_good h2)
  have u1 := enc_u4 (br_good h).1
  have u2 := enc_u4 (br_good h2).1
  obtain ⟨k1, hk1⟩ : ∃ k, Rv.enc ⟨op, 0, 1, 2, 64⟩ = k := ⟨_, rfl⟩
  obtain ⟨k2, hk2⟩ : ∃ k, Rv.enc ⟨other, 0, 1, 2, 64⟩ = k := ⟨_, rfl⟩
  rw [hk1] at u1 hW1 hs1
  rw [hk2] at u2 hW2 hs2
  unfold Rv.iv at hW1 hW2
  dsimp only at hW1 hW2
  obtain ⟨p, hp⟩ : ∃ p, st2 1 2 a b = p := ⟨_, rfl⟩
  have hpo : p.Ok := by rw [← hp]; exact st2_ok hua hub
  have hp0 : p.x 0 = 0 := by rw [← hp]; rfl
  have hpr : p.ret = 0 := by rw [← hp]; rfl
  rw [hp] at hs1 hs2
  obtain ⟨R1, hR1⟩ : ∃ R, Cpu.step (mkS [k1] []) p = R := ⟨_, rfl⟩
  obtain ⟨R2, hR2⟩ : ∃ R, Cpu.step (mkS [k2] []) p = R := ⟨_, rfl⟩
  have a1 : R1.ev = nx := by rw [← hR1, hs1]
  have a2 : R1.st.x = p.x := by rw [← hR1, hs1]; exact done_x hp0 _
  have a3 : R1.st.pc = x := by rw [← hR1, hs1]; rfl
  have a4 : R1.st.ret = 1 := by rw [← hR1, hs1]; show p.ret + 1 = 1; rw [hpr]; rfl
  have d1 : R2.ev = nx := by rw [← hR2, hs2]
  have d3 : R2.st.pc = y := by rw [← hR2, hs2]; rfl
  have hXe := x_eqlL p.x hpo.x
  clear hs1 hs2 hx hy hk1 hk2 hp0 hpr
  have i1 : ¬ op < 5 := by omega
  have i2 : ¬ 10 < op := by omega
  obtain ⟨o0, o1⟩ := h
  rcases ho with ⟨rfl, rfl⟩ | ⟨rfl, rfl⟩ <;> rcases hxy with ⟨rfl, rfl⟩ | ⟨rfl, rfl⟩
  all_goals
    go_enter Tryd.func8, Tryd.ntmps8
    go_wp2_with fail
    refine hA.mono ?_
    rintro e w1 ⟨rfl, b1⟩
    clear hA
    have hW1' := hW1 _ b1
    clear hW1
    go_wp2_with fail
    refine hW1'.mono ?_
    rintro e w2 ⟨rfl, b2⟩
    clear hW1'
    go_wp2_with fail
    refine (made1_c w2 k1 u1).mono ?_
    rintro e w3 ⟨ma, rfl, hMA⟩
    clear u1
    have hW2' := hW2 _ (b1.trans (b2.trans hMA.bw))
    clear hW2
    go_wp2_with fail
    refine hW2'.mono ?_
    rintro e w4 ⟨rfl, b4⟩
    clear hW2'
    go_wp2_with fail
    refine (made1_c w4 k2 u2).mono ?_
    rintro e w5 ⟨mc, rfl, hMC⟩
    clear u2
    have z35 : w3.heap.size ≤ w5.heap.size := Nat.le_trans (Below.size b4) (Below.size hMC.bw)
    have gW5 : Bw W w5 := ((b1.trans (b2.trans hMA.bw)).trans b4).trans hMC.bw
    have hZ0 : Box (w5.alloc (.cells (cl zst).toArray 32)) w5.heap.size (cl zst) := Box.new w5 (cl zst) _
    have hMA5 : HasB W w5 ma 12288 (mkS [k1] []) (fun i => i < w2.heap.size ∨ w3.heap.size ≤ i) := ((hMA.base (b1.trans b2)).more (fun i hi => hi)).on (b4.trans hMC.bw)
    have hMC5 : HasB W w5 mc 12288 (mkS [k2] []) (fun i => i < w4.heap.size ∨ w5.heap.size ≤ i) := (hMC.base ((b1.trans (b2.trans hMA.bw)).trans b4)).more (fun i hi => hi)
    have z24 : w2.heap.size ≤ w3.heap.size ∧ w3.heap.size ≤ w4.heap.size ∧ w4.heap.size ≤ w5.heap.size := ⟨Below.size hMA.bw, Below.size b4, Below.size hMC.bw⟩
    clear hMA hMC b1 b2 b4
    go_wp2_with (first
    | (refine wpStoreBox rfl 32 _ _ rfl w5.heap.size (l := cl zst) (l' := cl awS) rfl rfl hZ0 (by rw [cl_len, cl_len]) (infoL _) (cl_one _) ?_; intro w6 h6 q6; have s6 : SB w6 w5.heap.size awS := h6; have s61 := s6.c (i := 1) (by omega); have s62 := s6.c (i := 2) (by omega); have f61 := s6.f (i := 1) (by omega); have f62 := s6.f (i := 2) (by omega); have g6 : Bw w5 w6 := q6.toBw ((Bw.refl _).alloc _) (Nat.le_refl _); clear hZ0)
    | (refine wpLoadBox rfl 32 _ rfl w5.heap.size (l := cl p) rfl (hp ▸ s6.two (by omega) (by omega) a b) Tryd.underlying32 rfl (infoL _) ?_; go_loud (obtain ⟨w7, hw7⟩ : ∃ w7, ((w6.setCell ⟨w5.heap.size, 1, none⟩ (.int .u32 a)).setCell ⟨w5.heap.size, 2, none⟩ (.int .u32 b)) = w7 := ⟨_, rfl⟩; have s7 : SB w7 w5.heap.size p := hw7 ▸ hp ▸ s6.two (by omega) (by omega) a b; have g7 : Bw w5 w7 := hw7 ▸ (g6.setCell (Nat.le_refl _) _).setCell (Nat.le_refl _) _; rw [hw7]; clear hw7 s6 s61 s62 f61 f62 g6 q6 h6))
    | fail)
    have hMA7 := hMA5.on g7
    have hMC7 := hMC5.on g7
    have gW7 := gW5.trans g7
    have z57 := Below.size g7
    clear hMA5 hMC5 g7 gW5
    have hT1 := Step_c hMA7 ha p hpo
    rw [hR1, a1] at hT1
    unfold sv Cpu.ev nx at hT1
    dsimp only at hT1
    have l7 := s7.lt
    clear hMA7
    refine hT1.mono ?_
    rintro e wS1 ⟨rfl, hMS1, kS1⟩
    clear hT1
    obtain ⟨hZ1, hY1⟩ := zbox wS1
    go_wp2_with (first
    | (refine wpStoreBox rfl 32 _ _ rfl wS1.heap.size (l := cl zst) (l' := cl R1.st) rfl rfl hZ1 (by rw [cl_len, cl_len]) (infoL _) (cl_one _) ?_; intro wT1 h41 q41)
    | (refine wpStoreBox rfl 35 _ _ rfl (wS1.heap.size + 1) (l := [.int .i64 0, .int .u32 0, .int .i64 0]) (l' := [.int .i64 0, .int .u32 0, .int .i64 0]) rfl rfl (Box.q hY1 q41 (by omega)) rfl (by kernel_rfl) one3e ?_; intro wU1 h51 q51; obtain ⟨hS1, bU1⟩ := two_aft h41 q41 h51 q51; have hM1 := hMS1.on bU1; clear hZ1 hY1 h41 q41 q51 hMS1; go_loud (have kU : Kp (fun i => i < w2.heap.size ∨ w3.heap.size ≤ i) w7 wU1 := kS1.trans (Kp.bw bU1); have hMC8 := hMC7.kp kU (fun i hi => by simp at hi ⊢; omega) hM1.bw; have s8 : SB wU1 w5.heap.size p := s7.blk (kU.2 _ l7 (Or.inr z35)); clear hMC7 s7 kU))
    | (refine wpLoadBox rfl 32 _ rfl w5.heap.size (l := cl p) rfl s8 Tryd.underlying32 rfl (infoL _) ?_)
    | fail)
    have hT2 := Step_c hMC8 ha p hpo
    rw [hR2, d1] at hT2
    unfold sv Cpu.ev nx at hT2
    dsimp only at hT2
    have l51 : w5.heap.size ≤ wS1.heap.size := Nat.le_trans z57 kS1.1
    have lS : wS1.heap.size < wU1.heap.size ∧ wS1.heap.size + 1 < wU1.heap.size := ⟨hS1.lt, h51.lt⟩
    clear hMC8
    refine hT2.mono ?_
    rintro e wS2 ⟨rfl, hMS2, kS2⟩
    clear hT2
    obtain ⟨hZ2, hY2⟩ := zbox wS2
    go_wp2_with (first
    | (refine wpStoreBox rfl 32 _ _ rfl wS2.heap.size (l := cl zst) (l' := cl R2.st) rfl rfl hZ2 (by rw [cl_len, cl_len]) (infoL _) (cl_one _) ?_; intro wT2 h42 q42)
    | (refine wpStoreBox rfl 35 _ _ rfl (wS2.heap.size + 1) (l := [.int .i64 0, .int .u32 0, .int .i64 0]) (l' := [.int .i64 0, .int .u32 0, .int .i64 0]) rfl rfl (Box.q hY2 q42 (by omega)) rfl (by kernel_rfl) one3e ?_; intro wU2 h52 q52; obtain ⟨hS2, bU2⟩ := two_aft h42 q42 h52 q52; have hM2 := hMS2.on bU2; clear hZ2 hY2 h42 q42 q52 hMS2; go_loud (have kV : Kp (fun i => i < w4.heap.size ∨ w5.heap.size ≤ i) wU1 wU2 := kS2.trans (Kp.bw bU2); have s9 : SB wU2 w5.heap.size p := s8.blk (kV.2 _ s8.lt (Or.inr (Nat.le_refl _))); have t9 : SB wU2 wS1.heap.size R1.st := hS1.blk (kV.2 _ lS.1 (Or.inr l51)); have e9 := h51.blk (kV.2 _ lS.2 (Or.inr (by omega))); have q1 := e9.c 0 _ rfl; have q2 := h52.c 0 _ rfl; have q3 := t9.pc; have q4 := t9.ret; have q5 := hS2.pc; rw [a3] at q3; rw [a4] at q4; rw [d3] at q5; clear s8 hS1 h51 hM1 kS2 kV); change Hid _)
    | fail)
    unfold Hid
    go_wp2_with (first
    | (with_reducible refine at_load (ty := 30) ?_; refine wpLoadX (by kernel_rfl) _ rfl wS1.heap.size rfl t9 ?_; rw [a2])
    | (with_reducible refine at_load (ty := 30) ?_; refine wpLoadX (by kernel_rfl) _ rfl w5.heap.size rfl s9 ?_)
    | fail)
    go_returns
    exact ⟨rfl, hM2.bw⟩
theorem CpuBranches_w (op a b : Int) (hop : -9223372036854775808 ≤ op ∧ op ≤ 9223372036854775807) (hua : U4 a) (hub : U4 b) (W : World) (ha : All12 W) :
    Calls Tryd.prog 8 #[.int .i64 op, .int .u32 a, .int .u32 b] W fun e w' => e = .returned (.bool true) ∧ Bw W w' := by
  by_cases h : 5 ≤ op ∧ op ≤ 10
  · obtain ⟨q, hq⟩ : ∃ q, (op - 5) % 2 = q := ⟨_, rfl⟩
    obtain ⟨other, ho⟩ : ∃ o, q = 0 ∧ o = op + 1 ∨ q = 1 ∧ o = op - 1 := by
      rcases (show q = 0 ∨ q = 1 by omega) with e | e
      · exact ⟨op + 1, Or.inl ⟨e, rfl⟩⟩
      · exact ⟨op - 1, Or.inr ⟨e, rfl⟩⟩
    have hopp := br_opp (a := a) (b := b) h (other := other) (by rw [hq]; exact ho)
    refine CpuBr_yes op a b h hua hub W ha q hq other ho _ _ rfl rfl ?_
    unfold brTo
    rw [hopp]
    cases Alu.tst (tk op) a b
    · right; exact ⟨rfl, rfl⟩
    · left; exact ⟨rfl, rfl⟩
  · exact CpuBr_no op a b hop W ha h
end Go.Proofs.YtbackacbdfgdoaaDoor
