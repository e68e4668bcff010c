/- LAYER 12's law CpuSteps (by cpusteps.py). -/
import Derived.Test.YtbackacbdfgdoaaDoorKR4
import Derived.Test.YtbackacbdfgdoaaDoorKPg
import Derived.Test.YtbackacbdfgdoaaDoorK14
import Derived.Test.YtbackacbdfgdoaaDoorK12
import Derived.BigQuiet
import Derived.BigFrame
namespace Go.Proofs.YtbackacbdfgdoaaDoor
open Go.ChangeShapes Go.WideShapes Go.ChangeAt Go.RowKit
open Cpu
set_option linter.unusedVariables false
set_option linter.unusedSimpArgs false

theorem eqEv (a b c : Int) (w : World) : (binOp .neq 35 (.agg #[.int .i64 a, .int .u32 b, .int .i64 c]) (.agg #[.int .i64 a, .int .u32 b, .int .i64 c])).run Tryd.prog w = .ok (.bool false) w := by
  have h : (Op.equalIn 10000 35 (.agg #[.int .i64 a, .int .u32 b, .int .i64 c]) (.agg #[.int .i64 a, .int .u32 b, .int .i64 c])).run Tryd.prog w = .ok true w := by
    rw [show (10000 : Nat) = 9999 + 1 from rfl]
    go_simp
  rw [run_neq_struct, h]; rfl
theorem RdW.at0 {W : World} {v : Value} {ws : List Int} (h : RdW W v ws) : ∃ q c, v = .slice q ws.length c := by
  obtain ⟨q, c, e, -⟩ := h
  exact ⟨q, c, e⟩
theorem Rd8.at0 {W : World} {v : Value} {l : List Int} (h : Rd8 W v l) : ∃ q c, v = .slice q l.length c := by
  obtain ⟨q, c, e, -⟩ := h
  exact ⟨q, c, e⟩
/-- The reference's pages, read. -/
theorem RM.rd {G : Nat → Prop} {w : World} {rb N : Nat} {S : MS} (h : RM G w rb N S) : ∃ b v gv, Box w rb [.int .i64 b, v, gv] ∧ RdR 258 w v S.th.length (pgs S) := by
  obtain ⟨b, v, gv, gs, hx⟩ := h
  obtain ⟨q, cap, e, k1, k2, k3⟩ := hx.row
  refine ⟨b, v, gv, hx.box, q, cap, e, k1, k2, ?_, fun h0 => ?_⟩
  · unfold pgs
    rw [chunk_len _ 258 (pgc_len _)]
  · obtain ⟨g, e2, k4, k5, -⟩ := k3 h0
    exact ⟨g, 0, e2, k4, fun j u hu => by rw [Nat.zero_add]; exact k5.c j u hu⟩
theorem two0 (w : World) (x : Value) (l l' : List Value) (t t' : TypeId) : Box ((w.alloc (.cells (x :: l).toArray t)).alloc (.cells l'.toArray t')) w.heap.size (x :: l) ∧ Box ((w.alloc (.cells (x :: l).toArray t)).alloc (.cells l'.toArray t')) (w.heap.size + 1) l' := by
  refine ⟨Box.bw (Box.new w (x :: l) t) ((Bw.refl _).alloc _), ?_⟩
  have := Box.new (w.alloc (.cells (x :: l).toArray t)) l' t'
  rw [World.size_alloc] at this
  exact this
theorem aft2 {w w4 w5 : World} {o o' : Obj} {x : Value} {l l' : List Value} (h4 : Box w4 w.heap.size (x :: l)) (q4 : Bq w.heap.size ((w.alloc o).alloc o') w4) (h5 : Box w5 (w.heap.size + 1) l') (q5 : Bq (w.heap.size + 1) w4 w5) : Box w5 w.heap.size (x :: l) ∧ Bw w w5 :=
  ⟨h4.blk (q5.block _ h4.lt (by omega)), q5.toBw (q4.toBw (((Bw.refl w).alloc _).alloc _) (Nat.le_refl _)) (by omega)⟩
theorem wpLoadW {P : Program} {ops : Array Oper} {rest : List Oper} {op : Oper} {a : Act} {w : World} {Q : Exit → Act → World → Prop} (hw : Region.wanted op (yielded ops a.tmps) = true) (ty : TypeId) (x : Operand) (ho : op.op = .load ty x)
    (b : Nat) {l : List Value} {d : TypeDesc} (hx : a.eval x = .pointer (some ⟨b, 0, none⟩)) (hb : Box w b l) (hu : P.underlying ty = some d) (hd : d.isRow = true) (hi : (P.info? ty).map (·.size) = some l.length)
    (h : wpList P ops Q rest (a.put op.dst (.agg l.toArray)) w) : wpList P ops Q (op :: rest) a w :=
  BigFrame.wpList_want hw fun _ hK => wp_load_mid ty x ho b 0 hx l d hb.range hu hd hi (hK _ _ h)
/-- What the round holds: two States alike, two memories alike, apart. -/
structure RL (W : World) (tb ma rb k : Nat) (P : Nat → Prop) (X : World) (c : St) (G : Nat → Prop) (T : MS) : Prop where
  bw : Bw W X
  s : SB X W.heap.size c
  t : SB X tb c
  m : HasB W X ma 12288 T P
  r : RM G X rb k T
  gd : ∀ i, G i → P i ∧ W.heap.size < i ∧ i ≠ tb
  lo : ∀ i, X.heap.size ≤ i → P i
  ps : P W.heap.size
  pt : P tb
  lt : W.heap.size < tb
  ok : c.Ok
  ret : c.ret ≤ 1099511627776 + (k : Int)
section
variable {W X Y Z : World} {tb ma rb k : Nat} {P : Nat → Prop} {c r : St} {G G' : Nat → Prop} {T T' : MS}
theorem RL.b (h : RL W tb ma rb k P X c G T) (g : Bw X Y) : RL W tb ma rb k P Y c G T :=
  ⟨h.bw.trans g, h.s.bw g, h.t.bw g, h.m.on g, h.r.bw g, h.gd, fun i hi => h.lo i (Nat.le_trans (Below.size g) hi), h.ps, h.pt, h.lt, h.ok, h.ret⟩
theorem RL.ok2 (h : RL W tb ma rb k P X c G T) (u : Uo c r) (hk : k ≤ 20) : r.Ok := ⟨u.x, u.pc, by have h1 := u.ret; have h2 := h.ok.ret; have h3 := h.ret; constructor <;> omega⟩
/-- The program has stepped. -/
theorem RL.one (h : RL W tb ma rb k P X c G T) (hm : HasB W Y ma 12288 T' P) (hk : Kp P X Y) (g : Bw Y Z) :
    HasB W Z ma 12288 T' P ∧ RM G Z rb k T ∧ SB Z W.heap.size c ∧ SB Z tb c ∧ X.heap.size ≤ Y.heap.size ∧ Y.heap.size ≤ Z.heap.size := by
  have kU : Kp P X Z := hk.trans (Kp.bw g)
  exact ⟨hm.on g, h.r.kp kU (fun i hi => (h.gd i hi).1), h.s.blk (kU.2 _ h.s.lt h.ps), h.t.blk (kU.2 _ h.t.lt h.pt), hk.1, Below.size g⟩
/-- So has the document. -/
theorem RL.two {V : World} {x : Value} {l : List Value} (h : RL W tb ma rb k P X c G T) (M1 : HasB W Y ma 12288 T' P) (R1 : RM G Y rb k T) (s1 : SB Y W.heap.size c) (t1 : SB Y tb c) (u1 : SB Y V.heap.size r) (f1 : Box Y (V.heap.size + 1) (x :: l)) (l1 : X.heap.size ≤ V.heap.size) (l2 : V.heap.size ≤ Y.heap.size)
    (R3 : RM G' Z rb (k + 1) T') (q : Sq G G' Y Z) :
    HasB W Z ma 12288 T' P ∧ SB Z W.heap.size c ∧ SB Z tb c ∧ SB Z V.heap.size r ∧ Box Z (V.heap.size + 1) (x :: l) ∧ (∀ i, G' i → P i ∧ W.heap.size < i ∧ i ≠ tb) ∧ (∀ i, Z.heap.size ≤ i → P i) := by
  have hG := h.r.gb
  have hW : Bw W Z := q.fz.toBw M1.bw (fun i hi => Nat.le_of_lt (h.gd i hi).2.1)
  have hn : ∀ i, X.heap.size ≤ i → ¬ G i := fun i hi hg => by have := hG i hg; omega
  have hz := q.fz.b0.size
  refine ⟨M1.kp (Q := fun i => ¬ G i) (q.fz.kp (fun i hi => hi)) (fun i hi hg => hi (h.gd i hg).1) hW, s1.blk (q.fz.block _ s1.lt (fun hg => by have := (h.gd _ hg).2.1; omega)), t1.blk (q.fz.block _ t1.lt (fun hg => (h.gd _ hg).2.2 rfl)), u1.blk (q.fz.block _ u1.lt (hn _ l1)), f1.blk (q.fz.block _ f1.lt (hn _ (by omega))), fun i hi => ?_, fun i hi => h.lo i (by omega)⟩
  by_cases hy : i < Y.heap.size
  · exact h.gd i (q.le i hy hi)
  · have h1 := t1.lt
    have h2 := h.lt
    exact ⟨h.lo i (by omega), by omega, by omega⟩
theorem RL.far {V : World} {a : Nat} (h : RL W tb ma rb k P X c G T) (l1 : X.heap.size ≤ V.heap.size) (l2 : V.heap.size ≤ a) : W.heap.size < V.heap.size ∧ tb < V.heap.size ∧ W.heap.size < tb := by
  have h1 := h.t.lt
  have h2 := h.lt
  omega
/-- Both States stored. -/
theorem RL.end_ {A B D : World} (h : RL W tb ma rb k P X c G T) (M : HasB W A ma 12288 T' P) (R : RM G' A rb (k + 1) T') (hr : r.ret ≤ 1099511627776 + ((k + 1 : Nat) : Int)) (hok : r.Ok) (gd : ∀ i, G' i → P i ∧ W.heap.size < i ∧ i ≠ tb) (lo : ∀ i, A.heap.size ≤ i → P i)
    (h5 : Box B W.heap.size (cl r)) (q5 : Bq W.heap.size A B) (h6 : Box D tb (cl r)) (q6 : Bq tb B D) : RL W tb ma rb (k + 1) P D r G' T' := by
  have M5 := M.q h.ps (Nat.le_refl _) q5
  have M6 := M5.q h.pt (Nat.le_of_lt h.lt) q6
  have hl := h.lt
  have z5 := q5.b0.size
  have z6 := q6.b0.size
  refine ⟨M6.bw, Box.q h5 q6 (by omega), h6, M6, R.keep (Nat.le_trans z5 z6) (fun i hi hg => ?_), gd, fun i hi => lo i (by omega), h.ps, h.pt, h.lt, hok, hr⟩
  have h1 := gd i hg
  rw [q6.block i (by omega) h1.2.2, q5.block i hi (by omega)]
end
/-- What the round's comparison holds. -/
theorem held13 {Z0 Z : World} {xb yb W tb : Nat} {op rd rs1 rs2 imm ke ae ye : Int} {c' : St} (h1 : Box Z0 xb [.int .i64 op, .int .i64 rd, .int .i64 rs1, .int .i64 rs2, .int .i32 imm]) (h2 : Box Z0 (xb + 1) [.int .i64 ke, .int .u32 ae, .int .i64 ye]) (h3 : Box Z0 yb [.int .i64 op, .int .i64 rd, .int .i64 rs1, .int .i64 rs2, .int .i32 imm]) (h4 : Box Z0 (yb + 1) [.int .i64 ke, .int .u32 ae, .int .i64 ye]) (h5 : SB Z0 W c') (h6 : SB Z0 tb c') (g : Bw Z0 Z) :
    (Box Z xb [.int .i64 op, .int .i64 rd, .int .i64 rs1, .int .i64 rs2, .int .i32 imm] ∧ Box Z (xb + 1) [.int .i64 ke, .int .u32 ae, .int .i64 ye] ∧ Box Z yb [.int .i64 op, .int .i64 rd, .int .i64 rs1, .int .i64 rs2, .int .i32 imm] ∧ Box Z (yb + 1) [.int .i64 ke, .int .u32 ae, .int .i64 ye] ∧ Box Z W (cl c') ∧ Box Z tb (cl c')) ∧
    Z.cell? ⟨xb, 0, none⟩ = some (.int .i64 op) ∧ Z.cell? ⟨yb, 0, none⟩ = some (.int .i64 op) ∧ Z.cell? ⟨xb, 1, none⟩ = some (.int .i64 rd) ∧ Z.cell? ⟨yb, 1, none⟩ = some (.int .i64 rd) ∧ Z.cell? ⟨xb, 2, none⟩ = some (.int .i64 rs1) ∧ Z.cell? ⟨yb, 2, none⟩ = some (.int .i64 rs1) ∧ Z.cell? ⟨xb, 3, none⟩ = some (.int .i64 rs2) ∧ Z.cell? ⟨yb, 3, none⟩ = some (.int .i64 rs2) ∧ Z.cell? ⟨xb, 4, none⟩ = some (.int .i32 imm) ∧ Z.cell? ⟨yb, 4, none⟩ = some (.int .i32 imm) ∧ Z.cell? ⟨xb + 1, 0, none⟩ = some (.int .i64 ke) := by
  replace h1 := h1.bw g
  replace h2 := h2.bw g
  replace h3 := h3.bw g
  replace h4 := h4.bw g
  exact ⟨⟨h1, h2, h3, h4, h5.bw g, h6.bw g⟩, h1.c 0 _ rfl, h3.c 0 _ rfl, h1.c 1 _ rfl, h3.c 1 _ rfl, h1.c 2 _ rfl, h3.c 2 _ rfl, h1.c 3 _ rfl, h3.c 3 _ rfl, h1.c 4 _ rfl, h3.c 4 _ rfl, h2.c 0 _ rfl⟩
set_option maxRecDepth 100000 in
set_option maxHeartbeats 4000000 in
theorem CpuSteps_no (a b : Value) (ws db : List Int) (c : St) (n : Int) (W : World) (ha : All12 W) (hw : RdW W a ws) (hd : Rd8 W b db)
    (h : 64 < ws.length ∨ 512 < db.length ∨ c.ret < 0 ∨ 1099511627776 < c.ret ∨ n < 1 ∨ 20 < n) :
    Calls Tryd.prog 4 #[a, b, sv c, .int .i64 n] W fun e w' => e = .returned (.bool true) ∧ Bw W w' := by
  obtain ⟨q1, c1, rfl⟩ := hw.at0
  obtain ⟨q2, c2, rfl⟩ := hd.at0
  have hB : SB (W.alloc (.cells (cl c).toArray 32)) W.heap.size c := SB.new W c
  have b0 : Bw W (W.alloc (.cells (cl c).toArray 32)) := (Bw.refl W).alloc _
  have hA := fun X (g : Bw W X) => awake12_c X (ha.bw g)
  unfold sv arr
  obtain ⟨n1, h1⟩ : ∃ n : Int, (ws.length : Int) = n := ⟨_, rfl⟩
  obtain ⟨n2, h2⟩ : ∃ n : Int, (db.length : Int) = n := ⟨_, rfl⟩
  have hq : 64 < n1 ∨ ¬ 64 < n1 ∧ (512 < n2 ∨ ¬ 512 < n2 ∧ (c.ret < 0 ∨ ¬ c.ret < 0 ∧ (1099511627776 < c.ret ∨ ¬ 1099511627776 < c.ret ∧ (n < 1 ∨ ¬ n < 1 ∧ 20 < n)))) := by omega
  clear h hw hd
  rcases hq with h | ⟨g1, h | ⟨g2, h | ⟨g3, h | ⟨g4, h | ⟨g5, h⟩⟩⟩⟩⟩
  all_goals
    go_enter Tryd.func4, Tryd.ntmps4
    go_wp2_with (first | (go_at_call 10; refine (hA _ b0).mono ?_; rintro e w1 ⟨rfl, b1⟩; have r1 := b1.keep hB.ret))
    go_returns
    exact ⟨rfl, b0.trans b1⟩
set_option maxRecDepth 100000 in
set_option maxHeartbeats 16000000 in
theorem CpuSteps_yes (a b : Value) (ws db : List Int) (c : St) (n : Int) (W : World) (ha : All12 W) (hw : RdW W a ws) (hd : Rd8 W b db) (hu : ∀ y ∈ ws, U4 y) (h8 : B8s db) (hc : c.Ok)
    (g1 : ws.length ≤ 64) (g2 : db.length ≤ 512) (g3 : 0 ≤ c.ret) (g4 : c.ret ≤ 1099511627776) (g5 : 1 ≤ n) (g6 : n ≤ 20) :
    Calls Tryd.prog 4 #[a, b, sv c, .int .i64 n] W fun e w' => e = .returned (.bool true) ∧ Bw W w' := by
  have hB : SB (W.alloc (.cells (cl c).toArray 32)) W.heap.size c := SB.new W c
  obtain ⟨X0, hX0⟩ : ∃ X0, W.alloc (.cells (cl c).toArray 32) = X0 := ⟨_, rfl⟩
  have b0 : Bw W X0 := by rw [← hX0]; exact (Bw.refl W).alloc _
  have z0 : X0.heap.size = W.heap.size + 1 := by rw [← hX0]; simp
  rw [hX0] at hB
  have hA := awake12_c X0 (ha.bw b0)
  have hMd := fun X (g : Bw W X) => made_c X a b ws db (hw.bw g) (Rd8.bw hd g) hu h8
  obtain ⟨S, hS⟩ : ∃ S, mkS ws db = S := ⟨_, rfl⟩
  rw [hS] at hMd
  obtain ⟨q1, c1, rfl⟩ := hw.at0
  obtain ⟨q2, c2, rfl⟩ := hd.at0
  obtain ⟨m, rfl⟩ : ∃ m : Nat, n = m := ⟨n.toNat, by omega⟩
  unfold sv arr
  have HX : Hid _ := hX0
  clear hw hd hu h8 hS hX0
  have i1 : ¬ (64 : Int) < (ws.length : Int) := by omega
  have i2 : ¬ (512 : Int) < (db.length : Int) := by omega
  have i3 : ¬ c.ret < 0 := by omega
  have i4 : ¬ 1099511627776 < c.ret := by omega
  have i5 : ¬ (m : Int) < 1 := by omega
  have i6 : ¬ 20 < (m : Int) := by omega
  clear g1 g2
  go_enter Tryd.func4, Tryd.ntmps4
  go_wp2_with fail
  rw [HX.out]
  clear HX
  refine hA.mono ?_
  rintro e w1 ⟨rfl, b1⟩
  clear hA
  have hB1 := hB.bw b1
  have r1 := hB1.ret
  have hMA := hMd w1 (b0.trans b1)
  clear hMd
  go_wp2_with fail
  refine hMA.mono ?_
  rintro e w2 ⟨ma, rfl, hMA⟩
  have g12 : Bw w1 w2 := hMA.bw
  have z1 : W.heap.size < w1.heap.size := by have := Below.size b1; omega
  have z12 : w1.heap.size ≤ w2.heap.size := Below.size g12
  replace hMA : HasB W w2 ma 12288 S (fun i => i < w1.heap.size ∨ w2.heap.size ≤ i) := (hMA.base (b0.trans b1)).more (fun i h => h)
  have hM2 := mem2_c hMA 50
  clear r1
  go_wp2_with fail
  refine hM2.mono ?_
  rintro e w3 ⟨aw, vw, rfl, hb3, ho3, g23, hlt⟩
  clear hM2
  have hR := RM.new hMA.ok hb3 ho3 hlt
  have z23 : w2.heap.size < w3.heap.size := hb3.lt
  have hGd : ∀ i, (i = w2.heap.size ∨ vw.ownBlock = some i) → w2.heap.size ≤ i ∧ i < w3.heap.size := fun i hi => by
    rcases hi with rfl | hi
    · exact ⟨Nat.le_refl _, z23⟩
    · have := ho3.own i hi
      omega
  have hB3 := (hB1.bw g12).bw g23
  have hM3 := hMA.on g23
  clear hb3 ho3 hMA hB1 hB
  have hZ0 : Box (w3.alloc (.cells (cl zst).toArray 32)) w3.heap.size (cl zst) := Box.new w3 (cl zst) _
  go_wp2_with (first
  | ((with_reducible refine p_load (ty := 32) ?_); refine wpLoadBox rfl 32 _ rfl W.heap.size (l := cl c) rfl hB3 Tryd.underlying32 rfl (infoL _) ?_)
  | ((with_reducible refine p_store (ty := 32) ?_); refine wpStoreBox rfl 32 _ _ rfl w3.heap.size (l := cl zst) (l' := cl c) rfl rfl hZ0 (by rw [cl_len, cl_len]) (infoL _) (cl_one _) ?_; intro w4 h4 q4; go_loud (have g4 : Bw w3 w4 := q4.toBw ((Bw.refl _).alloc _) (Nat.le_refl _); have hL0 : RL W w3.heap.size ma w2.heap.size 0 (fun i => i < w1.heap.size ∨ w2.heap.size ≤ i) w4 c _ S := ⟨hM3.bw.trans g4, hB3.bw g4, h4, hM3.on g4, hR.bw g4, fun i hi => ⟨Or.inr (hGd i hi).1, by have := (hGd i hi).1; omega, by have := (hGd i hi).2; omega⟩, fun i hi => Or.inr (by have := Below.size g4; omega), Or.inl z1, Or.inr (by omega), by omega, hc, by omega⟩; clear hZ0 q4 hB3 h4 hM3 hR g4))
  | fail)
  obtain ⟨P, hP⟩ : ∃ P : Nat → Prop, P = (fun i => i < w1.heap.size ∨ w2.heap.size ≤ i) := ⟨_, rfl⟩
  rw [← hP] at hL0
  obtain ⟨tb, htb⟩ : ∃ t, t = w3.heap.size := ⟨_, rfl⟩
  rw [← htb] at hL0 ⊢
  obtain ⟨rb, hrb⟩ : ∃ t, t = w2.heap.size := ⟨_, rfl⟩
  rw [← hrb] at hL0 ⊢
  have hm20 : m ≤ 20 := by omega
  clear htb hrb hP hGd z0 z1 z12 z23 hlt b0 b1 g12 g23 hc g3 g4 i1 i2 i3 i4 i5 i6 g5 g6
  go_loopg [12] m (fun gk s wr => ∃ (k : Nat) (c' : St) (G : Nat → Prop) (T : MS), k + gk = m ∧ s = .int .i64 k ∧ RL W tb ma rb k P wr c' G T)
  case atStart => exact ⟨0, c, _, S, by omega, rfl, hL0⟩
  case round =>
    obtain ⟨k, c', G, T, hkg, rfl, hL⟩ := hrel
    obtain ⟨X, rfl⟩ : ∃ X, X = wr := ⟨_, rfl⟩
    clear hL0
    by_cases hk : k < m
    · have hk3 : (k : Int) < (m : Int) := by omega
      have hk20 : k ≤ 20 := by omega
      have hF1 := Fetch_c hL.m (ha.t.bw hL.bw) c'.pc hL.ok.pc
      have hfo : (fetch T c'.pc).2.kind = 0 → 0 ≤ (fetch T c'.pc).1.rs1 ∧ (fetch T c'.pc).1.rs1 < 32 := fun h => (fetch_fine hL.m.ok h).1.rs1
      have hF2 := fun Y (g : Bw X Y) => rFetch_c (hL.r.bw g) hL.m.ok c'.pc hL.ok.pc
      have p1 := hL.s.pc
      obtain ⟨F, hF⟩ : ∃ F, fetch T c'.pc = F := ⟨_, rfl⟩
      rw [hF] at hF1 hfo
      simp only [hF] at hF2
      obtain ⟨⟨op, rd, rs1, rs2, imm⟩, ⟨ke, ae, ye⟩⟩ := F
      unfold Rv.iv Cpu.ev at hF1 hF2
      dsimp only at hF1 hF2 hfo
      have hNe1 := eqEv ke ae ye
      clear hF
      go_wp2_with fail
      refine hF1.mono ?_
      rintro e X1 ⟨rfl, gF1⟩
      clear hF1 p1
      obtain ⟨hI1, hE1⟩ := two0 X1 (.int .i64 0) [.int .i64 0, .int .i64 0, .int .i64 0, .int .i32 0] [.int .i64 0, .int .u32 0, .int .i64 0] 28 35
      go_wp2_with (first
        | ((with_reducible refine p_store (ty := 28) ?_); refine wpStoreBox rfl 28 _ _ rfl X1.heap.size (l' := [.int .i64 op, .int .i64 rd, .int .i64 rs1, .int .i64 rs2, .int .i32 imm]) rfl rfl hI1 rfl (by kernel_rfl) one5 ?_; intro wa1 ha1 qa1)
        | ((with_reducible refine p_store (ty := 35) ?_); refine wpStoreBox rfl 35 _ _ rfl (X1.heap.size + 1) (l' := [.int .i64 ke, .int .u32 ae, .int .i64 ye]) rfl rfl (hE1.q qa1 (by omega)) rfl (by kernel_rfl) one3e ?_; intro wb1 hb1 qb1; go_loud (obtain ⟨hi1, gi1⟩ := aft2 ha1 qa1 hb1 qb1; clear hI1 hE1 ha1 qa1 qb1; have L3 := hL.b (gF1.trans gi1); have p2 := L3.t.pc))
        | fail)
      replace hF2 := hF2 _ (gF1.trans gi1)
      clear hL gF1 gi1
      refine hF2.mono ?_
      rintro e Y1 ⟨rfl, gG1⟩
      clear hF2 p2
      obtain ⟨hI2, hE2⟩ := two0 Y1 (.int .i64 0) [.int .i64 0, .int .i64 0, .int .i64 0, .int .i32 0] [.int .i64 0, .int .u32 0, .int .i64 0] 43 35
      go_wp2_with (first
        | ((with_reducible refine p_store (ty := 43) ?_); refine wpStoreBox rfl 43 _ _ rfl Y1.heap.size (l' := [.int .i64 op, .int .i64 rd, .int .i64 rs1, .int .i64 rs2, .int .i32 imm]) rfl rfl hI2 rfl (by kernel_rfl) one5 ?_; intro wa2 ha2 qa2)
        | ((with_reducible refine p_store (ty := 35) ?_); refine wpStoreBox rfl 35 _ _ rfl (Y1.heap.size + 1) (l' := [.int .i64 ke, .int .u32 ae, .int .i64 ye]) rfl rfl (hE2.q qa2 (by omega)) rfl (by kernel_rfl) one3e ?_; intro wb2 hb2 qb2; go_loud (obtain ⟨hi2, gi2⟩ := aft2 ha2 qa2 hb2 qb2; clear hI2 hE2 ha2 qa2 qb2; have L5 := L3.b (gG1.trans gi2); have hi12 := hi1.bw (gG1.trans gi2); have hb12 := hb1.bw (gG1.trans gi2); clear L3 hi1 hb1 gG1 gi2))
        | fail)
      by_cases hk0 : ke = 0
      · subst hk0
        have hr1 := hfo rfl
        have hAd := fun X => Address_c ⟨op, rd, rs1, rs2, imm⟩ c' X
        have hBd := fun X => rAddress_c ⟨op, rd, rs1, rs2, imm⟩ c' hr1 X
        obtain ⟨ad, had⟩ : ∃ a, adr ⟨op, rd, rs1, rs2, imm⟩ c' = a := ⟨_, rfl⟩
        rw [had] at hAd hBd
        unfold Rv.iv sv arr at hAd hBd
        dsimp only at hAd hBd
        clear had hfo
        refine wp_region_held_drew (S := fun Y => (Box Y X1.heap.size [.int .i64 op, .int .i64 rd, .int .i64 rs1, .int .i64 rs2, .int .i32 imm] ∧ Box Y (X1.heap.size + 1) [.int .i64 0, .int .u32 ae, .int .i64 ye] ∧ Box Y Y1.heap.size [.int .i64 op, .int .i64 rd, .int .i64 rs1, .int .i64 rs2, .int .i32 imm] ∧ Box Y (Y1.heap.size + 1) [.int .i64 0, .int .u32 ae, .int .i64 ye] ∧ Box Y W.heap.size (cl c') ∧ Box Y tb (cl c')) ∧ Y.cell? ⟨X1.heap.size, 0, none⟩ = some (.int .i64 op) ∧ Y.cell? ⟨Y1.heap.size, 0, none⟩ = some (.int .i64 op) ∧ Y.cell? ⟨X1.heap.size, 1, none⟩ = some (.int .i64 rd) ∧ Y.cell? ⟨Y1.heap.size, 1, none⟩ = some (.int .i64 rd) ∧ Y.cell? ⟨X1.heap.size, 2, none⟩ = some (.int .i64 rs1) ∧ Y.cell? ⟨Y1.heap.size, 2, none⟩ = some (.int .i64 rs1) ∧ Y.cell? ⟨X1.heap.size, 3, none⟩ = some (.int .i64 rs2) ∧ Y.cell? ⟨Y1.heap.size, 3, none⟩ = some (.int .i64 rs2) ∧ Y.cell? ⟨X1.heap.size, 4, none⟩ = some (.int .i32 imm) ∧ Y.cell? ⟨Y1.heap.size, 4, none⟩ = some (.int .i32 imm) ∧ Y.cell? ⟨X1.heap.size + 1, 0, none⟩ = some (.int .i64 0)) (by kernel_rfl) (held13 hi12 hb12 hi2 hb2 L5.s L5.t (Bw.refl _).drew) (fun hHeld => ?_)
        refine wpAnyH_take (i := 0) (oi := ⟨some 74, _, _, _, _, _⟩) (v := .agg [.int .i64 0, .int .u32 ae, .int .i64 ye].toArray) rfl (by kernel_rfl) (by kernel_rfl) (by kernel_rfl) (fun _ _ _ h => h) (yieldsIf_load_mid (by rfl) 35 _ rfl (X1.heap.size + 1) 0 rfl _ _ (fun Y hY => Box.range hY.1.2.1) Tryd.underlying35 rfl (by kernel_rfl)) (by assumption) ?_
        simp only [Act.put, List.setIfInBounds_toArray, List.set_cons_zero, List.set_cons_succ]
        refine wpAnyH_take (i := 1) (oi := ⟨some 75, _, _, _, _, _⟩) (v := .agg [.int .i64 0, .int .u32 ae, .int .i64 ye].toArray) rfl (by kernel_rfl) (by kernel_rfl) (by kernel_rfl) (fun _ _ _ h => h) (yieldsIf_load_mid (by rfl) 35 _ rfl (Y1.heap.size + 1) 0 rfl _ _ (fun Y hY => Box.range hY.1.2.2.2.1) Tryd.underlying35 rfl (by kernel_rfl)) (by assumption) ?_
        simp only [Act.put, List.setIfInBounds_toArray, List.set_cons_zero, List.set_cons_succ]
        refine wpAnyH_take (i := 2) (oi := ⟨some 76, _, _, _, _, _⟩) (v := ?_) rfl (by kernel_rfl) (by kernel_rfl) (by kernel_rfl) (fun _ _ _ h => h) (Or.inl ⟨by rfl, ?_⟩) (by assumption) ?_; (rotate_left 1); (focus (intro wz hSw; (try dsimp only at hSw); go_simp; try (with_reducible rfl))); simp only [Act.put, List.setIfInBounds_toArray, List.set_cons_zero, List.set_cons_succ]
        refine wpAnyH_take (i := 3) (oi := ⟨some 77, _, _, _, _, _⟩) (v := ?_) rfl (by kernel_rfl) (by kernel_rfl) (by kernel_rfl) (fun _ _ _ h => h) (Or.inl ⟨by rfl, ?_⟩) (by assumption) ?_; (rotate_left 1); (focus (intro wz hSw; (try dsimp only at hSw); go_simp; try (with_reducible rfl))); simp only [Act.put, List.setIfInBounds_toArray, List.set_cons_zero, List.set_cons_succ]
        refine wpAnyH_take (i := 4) (oi := ⟨some 78, _, _, _, _, _⟩) (v := ?_) rfl (by kernel_rfl) (by kernel_rfl) (by kernel_rfl) (fun _ _ _ h => h) (Or.inl ⟨by rfl, ?_⟩) (by assumption) ?_; (rotate_left 1); (focus (intro wz hSw; (try dsimp only at hSw); go_simp; try (with_reducible rfl))); simp only [Act.put, List.setIfInBounds_toArray, List.set_cons_zero, List.set_cons_succ]
        refine wpAnyH_take (i := 5) (oi := ⟨some 79, _, _, _, _, _⟩) (v := ?_) rfl (by kernel_rfl) (by kernel_rfl) (by kernel_rfl) (fun _ _ _ h => h) (Or.inl ⟨by rfl, ?_⟩) (by assumption) ?_; (rotate_left 1); (focus (intro wz hSw; (try dsimp only at hSw); go_simp; try (with_reducible rfl))); simp only [Act.put, List.setIfInBounds_toArray, List.set_cons_zero, List.set_cons_succ]
        refine wpAnyH_take (i := 6) (oi := ⟨some 80, _, _, _, _, _⟩) (v := ?_) rfl (by kernel_rfl) (by kernel_rfl) (by kernel_rfl) (fun _ _ _ h => h) (Or.inl ⟨by rfl, ?_⟩) (by assumption) ?_; (rotate_left 1); (focus (intro wz hSw; (try dsimp only at hSw); go_simp; try (with_reducible rfl))); simp only [Act.put, List.setIfInBounds_toArray, List.set_cons_zero, List.set_cons_succ]
        refine wpAnyH_take (i := 7) (oi := ⟨some 81, _, _, _, _, _⟩) (v := ?_) rfl (by kernel_rfl) (by kernel_rfl) (by kernel_rfl) (fun _ _ _ h => h) (Or.inl ⟨by rfl, ?_⟩) (by assumption) ?_; (rotate_left 1); (focus (intro wz hSw; (try dsimp only at hSw); go_simp; try (with_reducible rfl))); simp only [Act.put, List.setIfInBounds_toArray, List.set_cons_zero, List.set_cons_succ]
        refine wpAnyH_take (i := 8) (oi := ⟨some 82, _, _, _, _, _⟩) (v := ?_) rfl (by kernel_rfl) (by kernel_rfl) (by kernel_rfl) (fun _ _ _ h => h) (Or.inl ⟨by rfl, ?_⟩) (by assumption) ?_; (rotate_left 1); (focus (intro wz hSw; (try dsimp only at hSw); go_simp; try (with_reducible rfl))); simp only [Act.put, List.setIfInBounds_toArray, List.set_cons_zero, List.set_cons_succ]
        refine wpAnyH_take (i := 9) (oi := ⟨some 83, _, _, _, _, _⟩) (v := ?_) rfl (by kernel_rfl) (by kernel_rfl) (by kernel_rfl) (fun _ _ _ h => h) (Or.inl ⟨by rfl, ?_⟩) (by assumption) ?_; (rotate_left 1); (focus (intro wz hSw; (try dsimp only at hSw); go_simp; try (with_reducible rfl))); simp only [Act.put, List.setIfInBounds_toArray, List.set_cons_zero, List.set_cons_succ]
        refine wpAnyH_take (i := 10) (oi := ⟨some 84, _, _, _, _, _⟩) (v := ?_) rfl (by kernel_rfl) (by kernel_rfl) (by kernel_rfl) (fun _ _ _ h => h) (Or.inl ⟨by rfl, ?_⟩) (by assumption) ?_; (rotate_left 1); (focus (intro wz hSw; (try dsimp only at hSw); go_simp; try (with_reducible rfl))); simp only [Act.put, List.setIfInBounds_toArray, List.set_cons_zero, List.set_cons_succ]
        refine wpAnyH_take (i := 11) (oi := ⟨some 85, _, _, _, _, _⟩) (v := ?_) rfl (by kernel_rfl) (by kernel_rfl) (by kernel_rfl) (fun _ _ _ h => h) (Or.inl ⟨by rfl, ?_⟩) (by assumption) ?_; (rotate_left 1); (focus (intro wz hSw; (try dsimp only at hSw); go_simp; try (with_reducible rfl))); simp only [Act.put, List.setIfInBounds_toArray, List.set_cons_zero, List.set_cons_succ]
        refine wpAnyH_take (i := 12) (oi := ⟨some 86, _, _, _, _, _⟩) (v := ?_) rfl (by kernel_rfl) (by kernel_rfl) (by kernel_rfl) (fun _ _ _ h => h) (Or.inl ⟨by rfl, ?_⟩) (by assumption) ?_; (rotate_left 1); (focus (intro wz hSw; (try dsimp only at hSw); go_simp; try (with_reducible rfl))); simp only [Act.put, List.setIfInBounds_toArray, List.set_cons_zero, List.set_cons_succ]
        refine wpAnyH_take (i := 13) (oi := ⟨some 87, _, _, _, _, _⟩) (v := ?_) rfl (by kernel_rfl) (by kernel_rfl) (by kernel_rfl) (fun _ _ _ h => h) (Or.inl ⟨by rfl, ?_⟩) (by assumption) ?_; (rotate_left 1); (focus (intro wz hSw; (try dsimp only at hSw); go_simp; try (with_reducible rfl))); simp only [Act.put, List.setIfInBounds_toArray, List.set_cons_zero, List.set_cons_succ]
        refine wpAnyH_take (i := 14) (oi := ⟨some 88, _, _, _, _, _⟩) (v := ?_) rfl (by kernel_rfl) (by kernel_rfl) (by kernel_rfl) (fun _ _ _ h => h) (Or.inl ⟨by rfl, ?_⟩) (by assumption) ?_; (rotate_left 1); (focus (intro wz hSw; (try dsimp only at hSw); go_simp; try (with_reducible rfl))); simp only [Act.put, List.setIfInBounds_toArray, List.set_cons_zero, List.set_cons_succ]
        refine wpAnyH_take (i := 15) (oi := ⟨some 89, _, _, _, _, _⟩) (v := ?_) rfl (by kernel_rfl) (by kernel_rfl) (by kernel_rfl) (fun _ _ _ h => h) (Or.inl ⟨by rfl, ?_⟩) (by assumption) ?_; (rotate_left 1); (focus (intro wz hSw; (try dsimp only at hSw); go_simp; try (with_reducible rfl))); simp only [Act.put, List.setIfInBounds_toArray, List.set_cons_zero, List.set_cons_succ]
        refine wpAnyH_take (i := 16) (oi := ⟨some 90, _, _, _, _, _⟩) (v := ?_) rfl (by kernel_rfl) (by kernel_rfl) (by kernel_rfl) (fun _ _ _ h => h) (Or.inl ⟨by rfl, ?_⟩) (by assumption) ?_; (rotate_left 1); (focus (intro wz hSw; (try dsimp only at hSw); go_simp; try (with_reducible rfl))); simp only [Act.put, List.setIfInBounds_toArray, List.set_cons_zero, List.set_cons_succ]
        refine wpAnyH_take (i := 17) (oi := ⟨some 91, _, _, _, _, _⟩) (v := ?_) rfl (by kernel_rfl) (by kernel_rfl) (by kernel_rfl) (fun _ _ _ h => h) (Or.inl ⟨by rfl, ?_⟩) (by assumption) ?_; (rotate_left 1); (focus (intro wz hSw; (try dsimp only at hSw); go_simp; try (with_reducible rfl))); simp only [Act.put, List.setIfInBounds_toArray, List.set_cons_zero, List.set_cons_succ]
        refine wpAnyH_take (i := 18) (oi := ⟨some 92, _, _, _, _, _⟩) (v := ?_) rfl (by kernel_rfl) (by kernel_rfl) (by kernel_rfl) (fun _ _ _ h => h) (Or.inl ⟨by rfl, ?_⟩) (by assumption) ?_; (rotate_left 1); (focus (intro wz hSw; (try dsimp only at hSw); go_simp; try (with_reducible rfl))); simp only [Act.put, List.setIfInBounds_toArray, List.set_cons_zero, List.set_cons_succ]
        refine wpAnyH_take (i := 19) (oi := ⟨some 93, _, _, _, _, _⟩) (v := ?_) rfl (by kernel_rfl) (by kernel_rfl) (by kernel_rfl) (fun _ _ _ h => h) (Or.inl ⟨by rfl, ?_⟩) (by assumption) ?_; (rotate_left 1); (focus (intro wz hSw; (try dsimp only at hSw); go_simp; try (with_reducible rfl))); simp only [Act.put, List.setIfInBounds_toArray, List.set_cons_zero, List.set_cons_succ]
        refine wpAnyH_take (i := 20) (oi := ⟨some 94, _, _, _, _, _⟩) (v := ?_) rfl (by kernel_rfl) (by kernel_rfl) (by kernel_rfl) (fun _ _ _ h => h) (Or.inl ⟨by rfl, ?_⟩) (by assumption) ?_; (rotate_left 1); (focus (intro wz hSw; (try dsimp only at hSw); go_simp; try (with_reducible rfl))); simp only [Act.put, List.setIfInBounds_toArray, List.set_cons_zero, List.set_cons_succ]
        refine wpAnyH_take (i := 21) (oi := ⟨some 95, _, _, _, _, _⟩) (v := ?_) rfl (by kernel_rfl) (by kernel_rfl) (by kernel_rfl) (fun _ _ _ h => h) (Or.inl ⟨by rfl, ?_⟩) (by assumption) ?_; (rotate_left 1); (focus (intro wz hSw; (try dsimp only at hSw); go_simp; try (with_reducible rfl))); simp only [Act.put, List.setIfInBounds_toArray, List.set_cons_zero, List.set_cons_succ]
        refine wpAnyH_take (i := 22) (oi := ⟨some 96, _, _, _, _, _⟩) (v := ?_) rfl (by kernel_rfl) (by kernel_rfl) (by kernel_rfl) (fun _ _ _ h => h) (Or.inl ⟨by rfl, ?_⟩) (by assumption) ?_; (rotate_left 1); (focus (intro wz hSw; (try dsimp only at hSw); go_simp; try (with_reducible rfl))); simp only [Act.put, List.setIfInBounds_toArray, List.set_cons_zero, List.set_cons_succ]
        refine wpAnyH_take (i := 23) (oi := ⟨some 97, _, _, _, _, _⟩) (v := ?_) rfl (by kernel_rfl) (by kernel_rfl) (by kernel_rfl) (fun _ _ _ h => h) (Or.inl ⟨by rfl, ?_⟩) (by assumption) ?_; (rotate_left 1); (focus (intro wz hSw; (try dsimp only at hSw); go_simp; try (with_reducible rfl))); simp only [Act.put, List.setIfInBounds_toArray, List.set_cons_zero, List.set_cons_succ]
        refine wpAnyH_take (i := 24) (oi := ⟨some 98, _, _, _, _, _⟩) (v := ?_) rfl (by kernel_rfl) (by kernel_rfl) (by kernel_rfl) (fun _ _ _ h => h) (Or.inl ⟨by rfl, ?_⟩) (by assumption) ?_; (rotate_left 1); (focus (intro wz hSw; (try dsimp only at hSw); go_simp; try (with_reducible rfl))); simp only [Act.put, List.setIfInBounds_toArray, List.set_cons_zero, List.set_cons_succ]
        refine wpAnyH_take (i := 25) (oi := ⟨some 99, _, _, _, _, _⟩) (v := ?_) rfl (by kernel_rfl) (by kernel_rfl) (by kernel_rfl) (fun _ _ _ h => h) (Or.inl ⟨by rfl, ?_⟩) (by assumption) ?_; (rotate_left 1); (focus (intro wz hSw; (try dsimp only at hSw); go_simp; try (with_reducible rfl))); simp only [Act.put, List.setIfInBounds_toArray, List.set_cons_zero, List.set_cons_succ]
        refine wpAnyH_take (i := 26) (oi := ⟨some 100, _, _, _, _, _⟩) (v := ?_) rfl (by kernel_rfl) (by kernel_rfl) (by kernel_rfl) (fun _ _ _ h => h) (Or.inl ⟨by rfl, ?_⟩) (by assumption) ?_; (rotate_left 1); (focus (intro wz hSw; (try dsimp only at hSw); go_simp; try (with_reducible rfl))); simp only [Act.put, List.setIfInBounds_toArray, List.set_cons_zero, List.set_cons_succ]
        refine wpAnyH_take (i := 27) (oi := ⟨some 101, _, _, _, _, _⟩) (v := ?_) rfl (by kernel_rfl) (by kernel_rfl) (by kernel_rfl) (fun _ _ _ h => h) (Or.inl ⟨by rfl, ?_⟩) (by assumption) ?_; (rotate_left 1); (focus (intro wz hSw; (try dsimp only at hSw); go_simp; try (with_reducible rfl))); simp only [Act.put, List.setIfInBounds_toArray, List.set_cons_zero, List.set_cons_succ]
        refine wpAnyH_take (i := 28) (oi := ⟨some 102, _, _, _, _, _⟩) (v := ?_) rfl (by kernel_rfl) (by kernel_rfl) (by kernel_rfl) (fun _ _ _ h => h) (Or.inl ⟨by rfl, ?_⟩) (by assumption) ?_; (rotate_left 1); (focus (intro wz hSw; (try dsimp only at hSw); go_simp; try (with_reducible rfl))); simp only [Act.put, List.setIfInBounds_toArray, List.set_cons_zero, List.set_cons_succ]
        refine wpAnyH_take (i := 29) (oi := ⟨some 103, _, _, _, _, _⟩) (v := ?_) rfl (by kernel_rfl) (by kernel_rfl) (by kernel_rfl) (fun _ _ _ h => h) (Or.inl ⟨by rfl, ?_⟩) (by assumption) ?_; (rotate_left 1); (focus (intro wz hSw; (try dsimp only at hSw); go_simp; try (with_reducible rfl))); simp only [Act.put, List.setIfInBounds_toArray, List.set_cons_zero, List.set_cons_succ]
        refine wpAnyH_take (i := 30) (oi := ⟨some 104, _, _, _, _, _⟩) (v := ?_) rfl (by kernel_rfl) (by kernel_rfl) (by kernel_rfl) (fun _ _ _ h => h) (Or.inl ⟨by rfl, ?_⟩) (by assumption) ?_; (rotate_left 1); (focus (intro wz hSw; (try dsimp only at hSw); go_simp; try (with_reducible rfl))); simp only [Act.put, List.setIfInBounds_toArray, List.set_cons_zero, List.set_cons_succ]
        refine wpAnyH_take (i := 31) (oi := ⟨some 105, _, _, _, _, _⟩) (v := ?_) rfl (by kernel_rfl) (by kernel_rfl) (by kernel_rfl) (fun _ _ _ h => h) (Or.inl ⟨by rfl, ?_⟩) (by assumption) ?_; (rotate_left 1); (focus (intro wz hSw; (try dsimp only at hSw); go_simp; try (with_reducible rfl))); simp only [Act.put, List.setIfInBounds_toArray, List.set_cons_zero, List.set_cons_succ]
        refine wpAnyH_take (i := 32) (oi := ⟨some 106, _, _, _, _, _⟩) (v := ?_) rfl (by kernel_rfl) (by kernel_rfl) (by kernel_rfl) (fun _ _ _ h => h) (Or.inl ⟨by rfl, ?_⟩) (by assumption) ?_; (rotate_left 1); (focus (intro wz hSw; (try dsimp only at hSw); go_simp; try (with_reducible rfl))); simp only [Act.put, List.setIfInBounds_toArray, List.set_cons_zero, List.set_cons_succ]
        refine wpAnyH_take (i := 33) (oi := ⟨some 107, _, _, _, _, _⟩) (v := ?_) rfl (by kernel_rfl) (by kernel_rfl) (by kernel_rfl) (fun _ _ _ h => h) (Or.inl ⟨by rfl, ?_⟩) (by assumption) ?_; (rotate_left 1); (focus (intro wz hSw; (try dsimp only at hSw); go_simp; try (with_reducible rfl))); simp only [Act.put, List.setIfInBounds_toArray, List.set_cons_zero, List.set_cons_succ]
        refine wpAnyH_take (i := 34) (oi := ⟨some 108, _, _, _, _, _⟩) (v := ?_) rfl (by kernel_rfl) (by kernel_rfl) (by kernel_rfl) (fun _ _ _ h => h) (Or.inl ⟨by rfl, ?_⟩) (by assumption) ?_; (rotate_left 1); (focus (intro wz hSw; (try dsimp only at hSw); go_simp; try (with_reducible rfl))); simp only [Act.put, List.setIfInBounds_toArray, List.set_cons_zero, List.set_cons_succ]
        refine wpAnyH_take (i := 35) (oi := ⟨some 109, _, _, _, _, _⟩) (v := ?_) rfl (by kernel_rfl) (by kernel_rfl) (by kernel_rfl) (fun _ _ _ h => h) (Or.inl ⟨by rfl, ?_⟩) (by assumption) ?_; (rotate_left 1); (focus (intro wz hSw; (try dsimp only at hSw); go_simp; try (with_reducible rfl))); simp only [Act.put, List.setIfInBounds_toArray, List.set_cons_zero, List.set_cons_succ]
        refine wpAnyH_take (i := 36) (oi := ⟨some 110, _, _, _, _, _⟩) (v := ?_) rfl (by kernel_rfl) (by kernel_rfl) (by kernel_rfl) (fun _ _ _ h => h) (Or.inl ⟨by rfl, ?_⟩) (by assumption) ?_; (rotate_left 1); (focus (intro wz hSw; (try dsimp only at hSw); go_simp; try (with_reducible rfl))); simp only [Act.put, List.setIfInBounds_toArray, List.set_cons_zero, List.set_cons_succ]
        refine wpAnyH_take (i := 37) (oi := ⟨some 111, _, _, _, _, _⟩) (v := ?_) rfl (by kernel_rfl) (by kernel_rfl) (by kernel_rfl) (fun _ _ _ h => h) (Or.inl ⟨by rfl, ?_⟩) (by assumption) ?_; (rotate_left 1); (focus (intro wz hSw; (try dsimp only at hSw); go_simp; try (with_reducible rfl))); simp only [Act.put, List.setIfInBounds_toArray, List.set_cons_zero, List.set_cons_succ]
        refine wpAnyH_take (i := 38) (oi := ⟨some 112, _, _, _, _, _⟩) (v := ?_) rfl (by kernel_rfl) (by kernel_rfl) (by kernel_rfl) (fun _ _ _ h => h) (Or.inl ⟨by rfl, ?_⟩) (by assumption) ?_; (rotate_left 1); (focus (intro wz hSw; (try dsimp only at hSw); go_simp; try (with_reducible rfl))); simp only [Act.put, List.setIfInBounds_toArray, List.set_cons_zero, List.set_cons_succ]
        refine wpAnyH_take (i := 39) (oi := ⟨some 113, _, _, _, _, _⟩) (v := ?_) rfl (by kernel_rfl) (by kernel_rfl) (by kernel_rfl) (fun _ _ _ h => h) (Or.inl ⟨by rfl, ?_⟩) (by assumption) ?_; (rotate_left 1); (focus (intro wz hSw; (try dsimp only at hSw); go_simp; try (with_reducible rfl))); simp only [Act.put, List.setIfInBounds_toArray, List.set_cons_zero, List.set_cons_succ]
        refine wpAnyH_take (i := 40) (oi := ⟨some 114, _, _, _, _, _⟩) (v := ?_) rfl (by kernel_rfl) (by kernel_rfl) (by kernel_rfl) (fun _ _ _ h => h) (Or.inl ⟨by rfl, ?_⟩) (by assumption) ?_; (rotate_left 1); (focus (intro wz hSw; (try dsimp only at hSw); go_simp; try (with_reducible rfl))); simp only [Act.put, List.setIfInBounds_toArray, List.set_cons_zero, List.set_cons_succ]
        refine wpAnyH_take (i := 41) (oi := ⟨some 115, _, _, _, _, _⟩) (v := ?_) rfl (by kernel_rfl) (by kernel_rfl) (by kernel_rfl) (fun _ _ _ h => h) (Or.inl ⟨by rfl, ?_⟩) (by assumption) ?_; (rotate_left 1); (focus (intro wz hSw; (try dsimp only at hSw); go_simp; try (with_reducible rfl))); simp only [Act.put, List.setIfInBounds_toArray, List.set_cons_zero, List.set_cons_succ]
        refine wpAnyH_take (i := 42) (oi := ⟨some 116, _, _, _, _, _⟩) (v := ?_) rfl (by kernel_rfl) (by kernel_rfl) (by kernel_rfl) (fun _ _ _ h => h) (Or.inl ⟨by rfl, ?_⟩) (by assumption) ?_; (rotate_left 1); (focus (intro wz hSw; (try dsimp only at hSw); go_simp; try (with_reducible rfl))); simp only [Act.put, List.setIfInBounds_toArray, List.set_cons_zero, List.set_cons_succ]
        refine wpAnyH_take (i := 43) (oi := ⟨some 117, _, _, _, _, _⟩) (v := .agg [.int .i64 op, .int .i64 rd, .int .i64 rs1, .int .i64 rs2, .int .i32 imm].toArray) rfl (by kernel_rfl) (by kernel_rfl) (by kernel_rfl) (fun _ _ _ h => h) (yieldsIf_load_mid (by rfl) 28 _ rfl X1.heap.size 0 rfl _ _ (fun Y hY => Box.range hY.1.1) Tryd.underlying28 rfl (by kernel_rfl)) (by assumption) ?_
        simp only [Act.put, List.setIfInBounds_toArray, List.set_cons_zero, List.set_cons_succ]
        refine wpAnyH_take (i := 44) (oi := ⟨some 118, _, _, _, _, _⟩) (v := .agg (cl c').toArray) rfl (by kernel_rfl) (by kernel_rfl) (by kernel_rfl) (fun _ _ _ h => h) (yieldsIf_load_mid (by rfl) 32 _ rfl W.heap.size 0 rfl _ _ (fun Y hY => Box.range hY.1.2.2.2.2.1) Tryd.underlying32 rfl (infoL _)) (by assumption) ?_
        simp only [Act.put, List.setIfInBounds_toArray, List.set_cons_zero, List.set_cons_succ]
        refine wpAnyH_take (i := 46) (oi := ⟨some 120, _, _, _, _, _⟩) (v := .agg [.int .i64 op, .int .i64 rd, .int .i64 rs1, .int .i64 rs2, .int .i32 imm].toArray) rfl (by kernel_rfl) (by kernel_rfl) (by kernel_rfl) (fun _ _ _ h => h) (yieldsIf_load_mid (by rfl) 43 _ rfl Y1.heap.size 0 rfl _ _ (fun Y hY => Box.range hY.1.2.2.1) Tryd.underlying43 rfl (by kernel_rfl)) (by assumption) ?_
        simp only [Act.put, List.setIfInBounds_toArray, List.set_cons_zero, List.set_cons_succ]
        refine wpAnyH_take (i := 47) (oi := ⟨some 121, _, _, _, _, _⟩) (v := .agg (cl c').toArray) rfl (by kernel_rfl) (by kernel_rfl) (by kernel_rfl) (fun _ _ _ h => h) (yieldsIf_load_mid (by rfl) 32 _ rfl tb 0 rfl _ _ (fun Y hY => Box.range hY.1.2.2.2.2.2) Tryd.underlying32 rfl (infoL _)) (by assumption) ?_
        simp only [Act.put, List.setIfInBounds_toArray, List.set_cons_zero, List.set_cons_succ]
        refine wpAnyH_ready (rs := [45]) (by kernel_rfl) (by simp) ?_; refine AllReadyH.cons rfl (fun K hK => ?_) AllReadyH.nil; go_simp
        refine (hAd _).mono ?_
        rintro e Z1 ⟨rfl, gz1⟩
        have gz : Bw wb2 Z1 := Bw.trans (Bw.refl wb2).drew gz1
        (try clear hHeld); refine hK.out _ _ ?_ (fun hHeld => ?_)
        · exact held13 hi12 hb12 hi2 hb2 L5.s L5.t gz
        refine wpAnyH_ready (rs := [48]) (by kernel_rfl) (by simp) ?_; refine AllReadyH.cons rfl (fun K hK => ?_) AllReadyH.nil; go_simp
        refine (hBd _).mono ?_
        rintro e Z2 ⟨rfl, gz2⟩
        replace gz := gz.trans gz2
        (try clear hHeld); refine hK.out _ _ ?_ (fun hHeld => ?_)
        · exact held13 hi12 hb12 hi2 hb2 L5.s L5.t gz
        refine wpAnyH_take (i := 49) (oi := ⟨some 123, _, _, _, _, _⟩) (v := ?_) rfl (by kernel_rfl) (by kernel_rfl) (by kernel_rfl) (fun _ _ _ h => h) (Or.inl ⟨by rfl, ?_⟩) (by assumption) ?_; (rotate_left 1); (focus (intro wz hSw; (try dsimp only at hSw); go_simp; try (with_reducible rfl))); simp only [Act.put, List.setIfInBounds_toArray, List.set_cons_zero, List.set_cons_succ]
        refine wpAnyH_take (i := 50) (oi := ⟨some 124, _, _, _, _, _⟩) (v := ?_) rfl (by kernel_rfl) (by kernel_rfl) (by kernel_rfl) (fun _ _ _ h => h) (Or.inl ⟨by rfl, ?_⟩) (by assumption) ?_; (rotate_left 1); (focus (intro wz hSw; (try dsimp only at hSw); go_simp; try (with_reducible rfl))); simp only [Act.put, List.setIfInBounds_toArray, List.set_cons_zero, List.set_cons_succ]
        refine wpAnyH_take (i := 51) (oi := ⟨some 125, _, _, _, _, _⟩) (v := ?_) rfl (by kernel_rfl) (by kernel_rfl) (by kernel_rfl) (fun _ _ _ h => h) (Or.inl ⟨by rfl, ?_⟩) (by assumption) ?_; (rotate_left 1); (focus (intro wz hSw; (try dsimp only at hSw); go_simp; try (with_reducible rfl))); simp only [Act.put, List.setIfInBounds_toArray, List.set_cons_zero, List.set_cons_succ]
        refine wpAnyH_done (by kernel_rfl) ?_ _
        have L6 := L5.b gz
        clear L5 gz hi12 hb12 hi2 hb2 hHeld hAd hBd hNe1
        obtain ⟨R, hR⟩ : ∃ R, Cpu.step T c' = R := ⟨_, rfl⟩
        have hU := Uo.step L6.m.ok L6.ok
        rw [hR] at hU
        have hT1 := Step_c L6.m ha c' L6.ok
        rw [hR] at hT1
        obtain ⟨r, ⟨gk, ga, gy⟩, T'⟩ := R
        unfold sv Cpu.ev at hT1
        dsimp only at hT1 hU
        have hNe2 := eqEv gk ga gy
        have hok2 : r.Ok := L6.ok2 hU hk20
        have hNs := fun X => (st_eql r hok2.x hok2.pc (by have := hok2.ret; omega) X).2
        have hRet : r.ret ≤ 1099511627776 + ((k + 1 : Nat) : Int) := by have := L6.ret; have := hU.ret; omega
        unfold sv arr at hNs
        go_wp2_with (first
          | ((with_reducible refine p_load (ty := 32) ?_); refine wpLoadBox rfl 32 _ rfl W.heap.size (l := cl c') rfl L6.s Tryd.underlying32 rfl (infoL _) ?_)
          | fail)
        refine hT1.mono ?_
        rintro e V1 ⟨rfl, hMS1, kS1⟩
        clear hT1
        obtain ⟨hZ1, hY1⟩ := zbox V1
        go_wp2_with (first
          | ((with_reducible refine p_store (ty := 32) ?_); refine wpStoreBox rfl 32 _ _ rfl V1.heap.size (l := cl zst) (l' := cl r) rfl rfl hZ1 (by rw [cl_len, cl_len]) (infoL _) (cl_one _) ?_; intro wT1 h41 q41)
          | ((with_reducible refine p_store (ty := 35) ?_); refine wpStoreBox rfl 35 _ _ rfl (V1.heap.size + 1) (l := [.int .i64 0, .int .u32 0, .int .i64 0]) (l' := [.int .i64 gk, .int .u32 ga, .int .i64 gy]) rfl rfl (Box.q hY1 q41 (by omega)) rfl (by kernel_rfl) one3e ?_; intro wU1 h51 q51; go_loud (obtain ⟨hS1, bU1⟩ := two_aft h41 q41 h51 q51; clear hZ1 hY1 h41 q41 q51; obtain ⟨M1, R1, s1, t1, l1, l2⟩ := L6.one hMS1 kS1 bU1; clear hMS1 kS1 bU1))
          | ((with_reducible refine p_load (ty := 32) ?_); refine wpLoadBox rfl 32 _ rfl tb (l := cl c') rfl t1 Tryd.underlying32 rfl (infoL _) ?_)
          | fail)
        have hT2 := rStep_c R1 L6.m.ok c' L6.ok (by omega)
        rw [hR] at hT2
        unfold sv Cpu.ev at hT2
        dsimp only at hT2
        clear hR
        refine hT2.mono ?_
        rintro e V3 ⟨rfl, G', R3, kS2⟩
        clear hT2
        obtain ⟨hZ2, hY2⟩ := zbox V3
        obtain ⟨M3, s3, t3, u3, f3, gd3, lo3⟩ := L6.two M1 R1 s1 t1 hS1 h51 l1 l2 R3 kS2
        have l3 := kS2.fz.b0.size
        clear hS1 h51 M1 R1 s1 t1 kS2
        go_wp2_with (first
          | ((with_reducible refine p_store (ty := 32) ?_); refine wpStoreBox rfl 32 _ _ rfl V3.heap.size (l := cl zst) (l' := cl r) rfl rfl hZ2 (by rw [cl_len, cl_len]) (infoL _) (cl_one _) ?_; intro wT2 h42 q42)
          | ((with_reducible refine p_store (ty := 35) ?_); refine wpStoreBox rfl 35 _ _ rfl (V3.heap.size + 1) (l := [.int .i64 0, .int .u32 0, .int .i64 0]) (l' := [.int .i64 gk, .int .u32 ga, .int .i64 gy]) rfl rfl (Box.q hY2 q42 (by omega)) rfl (by kernel_rfl) one3e ?_; intro wU2 h52 q52; go_loud (obtain ⟨hS2, bU2⟩ := two_aft h42 q42 h52 q52; clear hZ2 hY2 h42 q42 q52; have c3 := (Box.bw f3 bU2).c 0 _ rfl; have sU := SB.bw u3 bU2; have fU := Box.bw f3 bU2; clear u3 f3))
          | ((with_reducible refine p_load (ty := 35) ?_); refine wpLoadBox rfl 35 _ rfl (V1.heap.size + 1) (l := [.int .i64 gk, .int .u32 ga, .int .i64 gy]) rfl fU Tryd.underlying35 rfl (by kernel_rfl) ?_)
          | ((with_reducible refine p_load (ty := 35) ?_); refine wpLoadBox rfl 35 _ rfl (V3.heap.size + 1) (l := [.int .i64 gk, .int .u32 ga, .int .i64 gy]) rfl h52 Tryd.underlying35 rfl (by kernel_rfl) ?_)
          | ((with_reducible refine p_load (ty := 32) ?_); refine wpLoadW (by rfl) 32 _ rfl V1.heap.size (l := cl r) rfl sU Tryd.underlying32 rfl (infoL _) ?_)
          | ((with_reducible refine p_load (ty := 32) ?_); refine wpLoadW (by rfl) 32 _ rfl V3.heap.size (l := cl r) rfl hS2 Tryd.underlying32 rfl (infoL _) ?_)
          | fail)
        have sD := SB.bw sU (Bw.refl wU2).drew
        have vD := SB.bw hS2 (Bw.refl wU2).drew
        have cD := (Box.bw fU (Bw.refl wU2).drew)
        have gD : Bw V3 wU2.drew := Bw.trans bU2 (Bw.refl wU2).drew
        have s4 : Box wU2.drew W.heap.size (cl c') := SB.bw s3 gD
        have t4 : Box wU2.drew tb (cl c') := SB.bw t3 gD
        have M4 := M3.on gD
        have R4 := R3.bw gD
        clear sU hS2 fU h52 c3 s3 t3 M3 R3 bU2 hNe2 hNs
        refine wp_region_held_drew (S := fun Y => Box Y V1.heap.size (cl r) ∧ Box Y V3.heap.size (cl r) ∧ Y.cell? ⟨V1.heap.size + 1, 0, none⟩ = some (.int .i64 gk)) (by kernel_rfl) ⟨sD, vD, cD.c 0 _ rfl⟩ (fun hHeld => ?_)
        refine wpAnyH_take (i := 0) (oi := ⟨some 146, _, _, _, _, _⟩) (v := .agg (cl r).toArray) rfl (by kernel_rfl) (by kernel_rfl) (by kernel_rfl) (fun _ _ _ h => h) (yieldsIf_load_mid (by rfl) 32 _ rfl V1.heap.size 0 rfl _ _ (fun Y hY => Box.range hY.1) Tryd.underlying32 rfl (infoL _)) (by assumption) ?_
        simp only [Act.put, List.setIfInBounds_toArray, List.set_cons_zero, List.set_cons_succ]
        refine wpAnyH_take (i := 1) (oi := ⟨some 147, _, _, _, _, _⟩) (v := .agg (cl r).toArray) rfl (by kernel_rfl) (by kernel_rfl) (by kernel_rfl) (fun _ _ _ h => h) (yieldsIf_load_mid (by rfl) 32 _ rfl V3.heap.size 0 rfl _ _ (fun Y hY => Box.range hY.2.1) Tryd.underlying32 rfl (infoL _)) (by assumption) ?_
        simp only [Act.put, List.setIfInBounds_toArray, List.set_cons_zero, List.set_cons_succ]
        have n1 := L6.far l1 l2
        refine wpAnyH_ready (rs := [2]) (by kernel_rfl) (by simp) ?_; refine AllReadyH.cons (o := ⟨none, _, _, _, _, _⟩) rfl (fun K hK => ?_) AllReadyH.nil; refine stepStoreBox rfl 32 _ _ rfl W.heap.size (l := cl c') (l' := cl r) rfl rfl s4 (by rw [cl_len, cl_len]) (infoL _) (cl_one _) ?_; intro w5 h5 q5
        (try clear hHeld); refine hK.out _ _ ?_ (fun hHeld => ?_)
        · exact ⟨Box.q sD q5 (by omega), Box.q vD q5 (by omega), (Box.q cD q5 (by omega)).c 0 _ rfl⟩
        refine wpAnyH_ready (rs := [3]) (by kernel_rfl) (by simp) ?_; refine AllReadyH.cons (o := ⟨none, _, _, _, _, _⟩) rfl (fun K hK => ?_) AllReadyH.nil; refine stepStoreBox rfl 32 _ _ rfl tb (l := cl c') (l' := cl r) rfl rfl (Box.q t4 q5 (by omega)) (by rw [cl_len, cl_len]) (infoL _) (cl_one _) ?_; intro w6 h6 q6
        have c6 := (Box.q (Box.q cD q5 (by omega)) q6 (by omega)).c 0 _ rfl
        (try clear hHeld); refine hK.out _ _ ?_ (fun hHeld => ?_)
        · exact ⟨Box.q (Box.q sD q5 (by omega)) q6 (by omega), Box.q (Box.q vD q5 (by omega)) q6 (by omega), c6⟩
        refine wpAnyH_done (by kernel_rfl) ?_ _
        have L7 := L6.end_ M4 R4 hRet hok2 gd3 (fun i hi => lo3 i (Nat.le_trans (Below.size gD) hi)) h5 q5 h6 q6
        clear L6 M4 R4 h5 h6 s4 t4 sD vD cD gd3 lo3
        by_cases hg : gk = 0
        · subst hg
          go_wp2_with fail
          go_roundg (m - (k + 1))
          case measure => omega
          case rel => exact ⟨k + 1, r, G', T', by omega, by simp, L7⟩
        · have hg' : (gk != 0) = true := by simpa using hg
          go_wp2_with fail
          have M7 := L7.m
          have R7 := L7.r
          refine (mem2_c M7 50).mono ?_
          rintro e w8 ⟨a8, v8, rfl, hb8, ho8, g8, -⟩
          obtain ⟨b9, v9, gv9, hbx, hrd⟩ := (R7.bw g8).rd
          have hSm := sameMem_c M7.ok hb8 hbx ho8.rd hrd
          have gX := M7.bw.trans g8
          go_wp2_with fail
          refine hSm.mono ?_
          rintro e w10 ⟨rfl, g10⟩
          clear hSm
          go_wp2_with fail
          go_returns
          exact ⟨rfl, gX.trans g10⟩
      · have hk0' : (ke == 0) = false := by simpa using hk0
        have hAd := True.intro
        have hBd := True.intro
        clear hfo
        refine wp_region_held_drew (S := fun Y => (Box Y X1.heap.size [.int .i64 op, .int .i64 rd, .int .i64 rs1, .int .i64 rs2, .int .i32 imm] ∧ Box Y (X1.heap.size + 1) [.int .i64 ke, .int .u32 ae, .int .i64 ye] ∧ Box Y Y1.heap.size [.int .i64 op, .int .i64 rd, .int .i64 rs1, .int .i64 rs2, .int .i32 imm] ∧ Box Y (Y1.heap.size + 1) [.int .i64 ke, .int .u32 ae, .int .i64 ye] ∧ Box Y W.heap.size (cl c') ∧ Box Y tb (cl c')) ∧ Y.cell? ⟨X1.heap.size, 0, none⟩ = some (.int .i64 op) ∧ Y.cell? ⟨Y1.heap.size, 0, none⟩ = some (.int .i64 op) ∧ Y.cell? ⟨X1.heap.size, 1, none⟩ = some (.int .i64 rd) ∧ Y.cell? ⟨Y1.heap.size, 1, none⟩ = some (.int .i64 rd) ∧ Y.cell? ⟨X1.heap.size, 2, none⟩ = some (.int .i64 rs1) ∧ Y.cell? ⟨Y1.heap.size, 2, none⟩ = some (.int .i64 rs1) ∧ Y.cell? ⟨X1.heap.size, 3, none⟩ = some (.int .i64 rs2) ∧ Y.cell? ⟨Y1.heap.size, 3, none⟩ = some (.int .i64 rs2) ∧ Y.cell? ⟨X1.heap.size, 4, none⟩ = some (.int .i32 imm) ∧ Y.cell? ⟨Y1.heap.size, 4, none⟩ = some (.int .i32 imm) ∧ Y.cell? ⟨X1.heap.size + 1, 0, none⟩ = some (.int .i64 ke)) (by kernel_rfl) (held13 hi12 hb12 hi2 hb2 L5.s L5.t (Bw.refl _).drew) (fun hHeld => ?_)
        refine wpAnyH_take (i := 0) (oi := ⟨some 74, _, _, _, _, _⟩) (v := .agg [.int .i64 ke, .int .u32 ae, .int .i64 ye].toArray) rfl (by kernel_rfl) (by kernel_rfl) (by kernel_rfl) (fun _ _ _ h => h) (yieldsIf_load_mid (by rfl) 35 _ rfl (X1.heap.size + 1) 0 rfl _ _ (fun Y hY => Box.range hY.1.2.1) Tryd.underlying35 rfl (by kernel_rfl)) (by assumption) ?_
        simp only [Act.put, List.setIfInBounds_toArray, List.set_cons_zero, List.set_cons_succ]
        refine wpAnyH_take (i := 1) (oi := ⟨some 75, _, _, _, _, _⟩) (v := .agg [.int .i64 ke, .int .u32 ae, .int .i64 ye].toArray) rfl (by kernel_rfl) (by kernel_rfl) (by kernel_rfl) (fun _ _ _ h => h) (yieldsIf_load_mid (by rfl) 35 _ rfl (Y1.heap.size + 1) 0 rfl _ _ (fun Y hY => Box.range hY.1.2.2.2.1) Tryd.underlying35 rfl (by kernel_rfl)) (by assumption) ?_
        simp only [Act.put, List.setIfInBounds_toArray, List.set_cons_zero, List.set_cons_succ]
        refine wpAnyH_take (i := 2) (oi := ⟨some 76, _, _, _, _, _⟩) (v := ?_) rfl (by kernel_rfl) (by kernel_rfl) (by kernel_rfl) (fun _ _ _ h => h) (Or.inl ⟨by rfl, ?_⟩) (by assumption) ?_; (rotate_left 1); (focus (intro wz hSw; (try dsimp only at hSw); go_simp; try (with_reducible rfl))); simp only [Act.put, List.setIfInBounds_toArray, List.set_cons_zero, List.set_cons_succ]
        refine wpAnyH_take (i := 3) (oi := ⟨some 77, _, _, _, _, _⟩) (v := ?_) rfl (by kernel_rfl) (by kernel_rfl) (by kernel_rfl) (fun _ _ _ h => h) (Or.inl ⟨by rfl, ?_⟩) (by assumption) ?_; (rotate_left 1); (focus (intro wz hSw; (try dsimp only at hSw); go_simp; try (with_reducible rfl))); simp only [Act.put, List.setIfInBounds_toArray, List.set_cons_zero, List.set_cons_succ]
        refine wpAnyH_take (i := 4) (oi := ⟨some 78, _, _, _, _, _⟩) (v := ?_) rfl (by kernel_rfl) (by kernel_rfl) (by kernel_rfl) (fun _ _ _ h => h) (Or.inl ⟨by rfl, ?_⟩) (by assumption) ?_; (rotate_left 1); (focus (intro wz hSw; (try dsimp only at hSw); go_simp; try (with_reducible rfl))); simp only [Act.put, List.setIfInBounds_toArray, List.set_cons_zero, List.set_cons_succ]
        refine wpAnyH_take (i := 5) (oi := ⟨some 79, _, _, _, _, _⟩) (v := ?_) rfl (by kernel_rfl) (by kernel_rfl) (by kernel_rfl) (fun _ _ _ h => h) (Or.inl ⟨by rfl, ?_⟩) (by assumption) ?_; (rotate_left 1); (focus (intro wz hSw; (try dsimp only at hSw); go_simp; try (with_reducible rfl))); simp only [Act.put, List.setIfInBounds_toArray, List.set_cons_zero, List.set_cons_succ]
        refine wpAnyH_take (i := 6) (oi := ⟨some 80, _, _, _, _, _⟩) (v := ?_) rfl (by kernel_rfl) (by kernel_rfl) (by kernel_rfl) (fun _ _ _ h => h) (Or.inl ⟨by rfl, ?_⟩) (by assumption) ?_; (rotate_left 1); (focus (intro wz hSw; (try dsimp only at hSw); go_simp; try (with_reducible rfl))); simp only [Act.put, List.setIfInBounds_toArray, List.set_cons_zero, List.set_cons_succ]
        refine wpAnyH_take (i := 7) (oi := ⟨some 81, _, _, _, _, _⟩) (v := ?_) rfl (by kernel_rfl) (by kernel_rfl) (by kernel_rfl) (fun _ _ _ h => h) (Or.inl ⟨by rfl, ?_⟩) (by assumption) ?_; (rotate_left 1); (focus (intro wz hSw; (try dsimp only at hSw); go_simp; try (with_reducible rfl))); simp only [Act.put, List.setIfInBounds_toArray, List.set_cons_zero, List.set_cons_succ]
        refine wpAnyH_take (i := 8) (oi := ⟨some 82, _, _, _, _, _⟩) (v := ?_) rfl (by kernel_rfl) (by kernel_rfl) (by kernel_rfl) (fun _ _ _ h => h) (Or.inl ⟨by rfl, ?_⟩) (by assumption) ?_; (rotate_left 1); (focus (intro wz hSw; (try dsimp only at hSw); go_simp; try (with_reducible rfl))); simp only [Act.put, List.setIfInBounds_toArray, List.set_cons_zero, List.set_cons_succ]
        refine wpAnyH_take (i := 9) (oi := ⟨some 83, _, _, _, _, _⟩) (v := ?_) rfl (by kernel_rfl) (by kernel_rfl) (by kernel_rfl) (fun _ _ _ h => h) (Or.inl ⟨by rfl, ?_⟩) (by assumption) ?_; (rotate_left 1); (focus (intro wz hSw; (try dsimp only at hSw); go_simp; try (with_reducible rfl))); simp only [Act.put, List.setIfInBounds_toArray, List.set_cons_zero, List.set_cons_succ]
        refine wpAnyH_take (i := 10) (oi := ⟨some 84, _, _, _, _, _⟩) (v := ?_) rfl (by kernel_rfl) (by kernel_rfl) (by kernel_rfl) (fun _ _ _ h => h) (Or.inl ⟨by rfl, ?_⟩) (by assumption) ?_; (rotate_left 1); (focus (intro wz hSw; (try dsimp only at hSw); go_simp; try (with_reducible rfl))); simp only [Act.put, List.setIfInBounds_toArray, List.set_cons_zero, List.set_cons_succ]
        refine wpAnyH_take (i := 11) (oi := ⟨some 85, _, _, _, _, _⟩) (v := ?_) rfl (by kernel_rfl) (by kernel_rfl) (by kernel_rfl) (fun _ _ _ h => h) (Or.inl ⟨by rfl, ?_⟩) (by assumption) ?_; (rotate_left 1); (focus (intro wz hSw; (try dsimp only at hSw); go_simp; try (with_reducible rfl))); simp only [Act.put, List.setIfInBounds_toArray, List.set_cons_zero, List.set_cons_succ]
        refine wpAnyH_take (i := 12) (oi := ⟨some 86, _, _, _, _, _⟩) (v := ?_) rfl (by kernel_rfl) (by kernel_rfl) (by kernel_rfl) (fun _ _ _ h => h) (Or.inl ⟨by rfl, ?_⟩) (by assumption) ?_; (rotate_left 1); (focus (intro wz hSw; (try dsimp only at hSw); go_simp; try (with_reducible rfl))); simp only [Act.put, List.setIfInBounds_toArray, List.set_cons_zero, List.set_cons_succ]
        refine wpAnyH_take (i := 13) (oi := ⟨some 87, _, _, _, _, _⟩) (v := ?_) rfl (by kernel_rfl) (by kernel_rfl) (by kernel_rfl) (fun _ _ _ h => h) (Or.inl ⟨by rfl, ?_⟩) (by assumption) ?_; (rotate_left 1); (focus (intro wz hSw; (try dsimp only at hSw); go_simp; try (with_reducible rfl))); simp only [Act.put, List.setIfInBounds_toArray, List.set_cons_zero, List.set_cons_succ]
        refine wpAnyH_take (i := 14) (oi := ⟨some 88, _, _, _, _, _⟩) (v := ?_) rfl (by kernel_rfl) (by kernel_rfl) (by kernel_rfl) (fun _ _ _ h => h) (Or.inl ⟨by rfl, ?_⟩) (by assumption) ?_; (rotate_left 1); (focus (intro wz hSw; (try dsimp only at hSw); go_simp; try (with_reducible rfl))); simp only [Act.put, List.setIfInBounds_toArray, List.set_cons_zero, List.set_cons_succ]
        refine wpAnyH_take (i := 15) (oi := ⟨some 89, _, _, _, _, _⟩) (v := ?_) rfl (by kernel_rfl) (by kernel_rfl) (by kernel_rfl) (fun _ _ _ h => h) (Or.inl ⟨by rfl, ?_⟩) (by assumption) ?_; (rotate_left 1); (focus (intro wz hSw; (try dsimp only at hSw); go_simp; try (with_reducible rfl))); simp only [Act.put, List.setIfInBounds_toArray, List.set_cons_zero, List.set_cons_succ]
        refine wpAnyH_take (i := 16) (oi := ⟨some 90, _, _, _, _, _⟩) (v := ?_) rfl (by kernel_rfl) (by kernel_rfl) (by kernel_rfl) (fun _ _ _ h => h) (Or.inl ⟨by rfl, ?_⟩) (by assumption) ?_; (rotate_left 1); (focus (intro wz hSw; (try dsimp only at hSw); go_simp; try (with_reducible rfl))); simp only [Act.put, List.setIfInBounds_toArray, List.set_cons_zero, List.set_cons_succ]
        refine wpAnyH_take (i := 17) (oi := ⟨some 91, _, _, _, _, _⟩) (v := ?_) rfl (by kernel_rfl) (by kernel_rfl) (by kernel_rfl) (fun _ _ _ h => h) (Or.inl ⟨by rfl, ?_⟩) (by assumption) ?_; (rotate_left 1); (focus (intro wz hSw; (try dsimp only at hSw); go_simp; try (with_reducible rfl))); simp only [Act.put, List.setIfInBounds_toArray, List.set_cons_zero, List.set_cons_succ]
        refine wpAnyH_take (i := 18) (oi := ⟨some 92, _, _, _, _, _⟩) (v := ?_) rfl (by kernel_rfl) (by kernel_rfl) (by kernel_rfl) (fun _ _ _ h => h) (Or.inl ⟨by rfl, ?_⟩) (by assumption) ?_; (rotate_left 1); (focus (intro wz hSw; (try dsimp only at hSw); go_simp; try (with_reducible rfl))); simp only [Act.put, List.setIfInBounds_toArray, List.set_cons_zero, List.set_cons_succ]
        refine wpAnyH_take (i := 19) (oi := ⟨some 93, _, _, _, _, _⟩) (v := ?_) rfl (by kernel_rfl) (by kernel_rfl) (by kernel_rfl) (fun _ _ _ h => h) (Or.inl ⟨by rfl, ?_⟩) (by assumption) ?_; (rotate_left 1); (focus (intro wz hSw; (try dsimp only at hSw); go_simp; try (with_reducible rfl))); simp only [Act.put, List.setIfInBounds_toArray, List.set_cons_zero, List.set_cons_succ]
        refine wpAnyH_take (i := 20) (oi := ⟨some 94, _, _, _, _, _⟩) (v := ?_) rfl (by kernel_rfl) (by kernel_rfl) (by kernel_rfl) (fun _ _ _ h => h) (Or.inl ⟨by rfl, ?_⟩) (by assumption) ?_; (rotate_left 1); (focus (intro wz hSw; (try dsimp only at hSw); go_simp; try (with_reducible rfl))); simp only [Act.put, List.setIfInBounds_toArray, List.set_cons_zero, List.set_cons_succ]
        refine wpAnyH_take (i := 21) (oi := ⟨some 95, _, _, _, _, _⟩) (v := ?_) rfl (by kernel_rfl) (by kernel_rfl) (by kernel_rfl) (fun _ _ _ h => h) (Or.inl ⟨by rfl, ?_⟩) (by assumption) ?_; (rotate_left 1); (focus (intro wz hSw; (try dsimp only at hSw); go_simp; try (with_reducible rfl))); simp only [Act.put, List.setIfInBounds_toArray, List.set_cons_zero, List.set_cons_succ]
        refine wpAnyH_take (i := 22) (oi := ⟨some 96, _, _, _, _, _⟩) (v := ?_) rfl (by kernel_rfl) (by kernel_rfl) (by kernel_rfl) (fun _ _ _ h => h) (Or.inl ⟨by rfl, ?_⟩) (by assumption) ?_; (rotate_left 1); (focus (intro wz hSw; (try dsimp only at hSw); go_simp; try (with_reducible rfl))); simp only [Act.put, List.setIfInBounds_toArray, List.set_cons_zero, List.set_cons_succ]
        refine wpAnyH_take (i := 23) (oi := ⟨some 97, _, _, _, _, _⟩) (v := ?_) rfl (by kernel_rfl) (by kernel_rfl) (by kernel_rfl) (fun _ _ _ h => h) (Or.inl ⟨by rfl, ?_⟩) (by assumption) ?_; (rotate_left 1); (focus (intro wz hSw; (try dsimp only at hSw); go_simp; try (with_reducible rfl))); simp only [Act.put, List.setIfInBounds_toArray, List.set_cons_zero, List.set_cons_succ]
        refine wpAnyH_take (i := 24) (oi := ⟨some 98, _, _, _, _, _⟩) (v := ?_) rfl (by kernel_rfl) (by kernel_rfl) (by kernel_rfl) (fun _ _ _ h => h) (Or.inl ⟨by rfl, ?_⟩) (by assumption) ?_; (rotate_left 1); (focus (intro wz hSw; (try dsimp only at hSw); go_simp; try (with_reducible rfl))); simp only [Act.put, List.setIfInBounds_toArray, List.set_cons_zero, List.set_cons_succ]
        refine wpAnyH_take (i := 25) (oi := ⟨some 99, _, _, _, _, _⟩) (v := ?_) rfl (by kernel_rfl) (by kernel_rfl) (by kernel_rfl) (fun _ _ _ h => h) (Or.inl ⟨by rfl, ?_⟩) (by assumption) ?_; (rotate_left 1); (focus (intro wz hSw; (try dsimp only at hSw); go_simp; try (with_reducible rfl))); simp only [Act.put, List.setIfInBounds_toArray, List.set_cons_zero, List.set_cons_succ]
        refine wpAnyH_take (i := 26) (oi := ⟨some 100, _, _, _, _, _⟩) (v := ?_) rfl (by kernel_rfl) (by kernel_rfl) (by kernel_rfl) (fun _ _ _ h => h) (Or.inl ⟨by rfl, ?_⟩) (by assumption) ?_; (rotate_left 1); (focus (intro wz hSw; (try dsimp only at hSw); go_simp; try (with_reducible rfl))); simp only [Act.put, List.setIfInBounds_toArray, List.set_cons_zero, List.set_cons_succ]
        refine wpAnyH_take (i := 27) (oi := ⟨some 101, _, _, _, _, _⟩) (v := ?_) rfl (by kernel_rfl) (by kernel_rfl) (by kernel_rfl) (fun _ _ _ h => h) (Or.inl ⟨by rfl, ?_⟩) (by assumption) ?_; (rotate_left 1); (focus (intro wz hSw; (try dsimp only at hSw); go_simp; try (with_reducible rfl))); simp only [Act.put, List.setIfInBounds_toArray, List.set_cons_zero, List.set_cons_succ]
        refine wpAnyH_take (i := 28) (oi := ⟨some 102, _, _, _, _, _⟩) (v := ?_) rfl (by kernel_rfl) (by kernel_rfl) (by kernel_rfl) (fun _ _ _ h => h) (Or.inl ⟨by rfl, ?_⟩) (by assumption) ?_; (rotate_left 1); (focus (intro wz hSw; (try dsimp only at hSw); go_simp; try (with_reducible rfl))); simp only [Act.put, List.setIfInBounds_toArray, List.set_cons_zero, List.set_cons_succ]
        refine wpAnyH_take (i := 29) (oi := ⟨some 103, _, _, _, _, _⟩) (v := ?_) rfl (by kernel_rfl) (by kernel_rfl) (by kernel_rfl) (fun _ _ _ h => h) (Or.inl ⟨by rfl, ?_⟩) (by assumption) ?_; (rotate_left 1); (focus (intro wz hSw; (try dsimp only at hSw); go_simp; try (with_reducible rfl))); simp only [Act.put, List.setIfInBounds_toArray, List.set_cons_zero, List.set_cons_succ]
        refine wpAnyH_take (i := 30) (oi := ⟨some 104, _, _, _, _, _⟩) (v := ?_) rfl (by kernel_rfl) (by kernel_rfl) (by kernel_rfl) (fun _ _ _ h => h) (Or.inl ⟨by rfl, ?_⟩) (by assumption) ?_; (rotate_left 1); (focus (intro wz hSw; (try dsimp only at hSw); go_simp; try (with_reducible rfl))); simp only [Act.put, List.setIfInBounds_toArray, List.set_cons_zero, List.set_cons_succ]
        refine wpAnyH_take (i := 31) (oi := ⟨some 105, _, _, _, _, _⟩) (v := ?_) rfl (by kernel_rfl) (by kernel_rfl) (by kernel_rfl) (fun _ _ _ h => h) (Or.inl ⟨by rfl, ?_⟩) (by assumption) ?_; (rotate_left 1); (focus (intro wz hSw; (try dsimp only at hSw); go_simp; try (with_reducible rfl))); simp only [Act.put, List.setIfInBounds_toArray, List.set_cons_zero, List.set_cons_succ]
        refine wpAnyH_take (i := 32) (oi := ⟨some 106, _, _, _, _, _⟩) (v := ?_) rfl (by kernel_rfl) (by kernel_rfl) (by kernel_rfl) (fun _ _ _ h => h) (Or.inl ⟨by rfl, ?_⟩) (by assumption) ?_; (rotate_left 1); (focus (intro wz hSw; (try dsimp only at hSw); go_simp; try (with_reducible rfl))); simp only [Act.put, List.setIfInBounds_toArray, List.set_cons_zero, List.set_cons_succ]
        refine wpAnyH_take (i := 33) (oi := ⟨some 107, _, _, _, _, _⟩) (v := ?_) rfl (by kernel_rfl) (by kernel_rfl) (by kernel_rfl) (fun _ _ _ h => h) (Or.inl ⟨by rfl, ?_⟩) (by assumption) ?_; (rotate_left 1); (focus (intro wz hSw; (try dsimp only at hSw); go_simp; try (with_reducible rfl))); simp only [Act.put, List.setIfInBounds_toArray, List.set_cons_zero, List.set_cons_succ]
        refine wpAnyH_take (i := 34) (oi := ⟨some 108, _, _, _, _, _⟩) (v := ?_) rfl (by kernel_rfl) (by kernel_rfl) (by kernel_rfl) (fun _ _ _ h => h) (Or.inl ⟨by rfl, ?_⟩) (by assumption) ?_; (rotate_left 1); (focus (intro wz hSw; (try dsimp only at hSw); go_simp; try (with_reducible rfl))); simp only [Act.put, List.setIfInBounds_toArray, List.set_cons_zero, List.set_cons_succ]
        refine wpAnyH_take (i := 35) (oi := ⟨some 109, _, _, _, _, _⟩) (v := ?_) rfl (by kernel_rfl) (by kernel_rfl) (by kernel_rfl) (fun _ _ _ h => h) (Or.inl ⟨by rfl, ?_⟩) (by assumption) ?_; (rotate_left 1); (focus (intro wz hSw; (try dsimp only at hSw); go_simp; try (with_reducible rfl))); simp only [Act.put, List.setIfInBounds_toArray, List.set_cons_zero, List.set_cons_succ]
        refine wpAnyH_take (i := 36) (oi := ⟨some 110, _, _, _, _, _⟩) (v := ?_) rfl (by kernel_rfl) (by kernel_rfl) (by kernel_rfl) (fun _ _ _ h => h) (Or.inl ⟨by rfl, ?_⟩) (by assumption) ?_; (rotate_left 1); (focus (intro wz hSw; (try dsimp only at hSw); go_simp; try (with_reducible rfl))); simp only [Act.put, List.setIfInBounds_toArray, List.set_cons_zero, List.set_cons_succ]
        refine wpAnyH_take (i := 37) (oi := ⟨some 111, _, _, _, _, _⟩) (v := ?_) rfl (by kernel_rfl) (by kernel_rfl) (by kernel_rfl) (fun _ _ _ h => h) (Or.inl ⟨by rfl, ?_⟩) (by assumption) ?_; (rotate_left 1); (focus (intro wz hSw; (try dsimp only at hSw); go_simp; try (with_reducible rfl))); simp only [Act.put, List.setIfInBounds_toArray, List.set_cons_zero, List.set_cons_succ]
        refine wpAnyH_take (i := 38) (oi := ⟨some 112, _, _, _, _, _⟩) (v := ?_) rfl (by kernel_rfl) (by kernel_rfl) (by kernel_rfl) (fun _ _ _ h => h) (Or.inl ⟨by rfl, ?_⟩) (by assumption) ?_; (rotate_left 1); (focus (intro wz hSw; (try dsimp only at hSw); go_simp; try (with_reducible rfl))); simp only [Act.put, List.setIfInBounds_toArray, List.set_cons_zero, List.set_cons_succ]
        refine wpAnyH_take (i := 39) (oi := ⟨some 113, _, _, _, _, _⟩) (v := ?_) rfl (by kernel_rfl) (by kernel_rfl) (by kernel_rfl) (fun _ _ _ h => h) (Or.inl ⟨by rfl, ?_⟩) (by assumption) ?_; (rotate_left 1); (focus (intro wz hSw; (try dsimp only at hSw); go_simp; try (with_reducible rfl))); simp only [Act.put, List.setIfInBounds_toArray, List.set_cons_zero, List.set_cons_succ]
        refine wpAnyH_take (i := 40) (oi := ⟨some 114, _, _, _, _, _⟩) (v := ?_) rfl (by kernel_rfl) (by kernel_rfl) (by kernel_rfl) (fun _ _ _ h => h) (Or.inl ⟨by rfl, ?_⟩) (by assumption) ?_; (rotate_left 1); (focus (intro wz hSw; (try dsimp only at hSw); go_simp; try (with_reducible rfl))); simp only [Act.put, List.setIfInBounds_toArray, List.set_cons_zero, List.set_cons_succ]
        refine wpAnyH_take (i := 41) (oi := ⟨some 115, _, _, _, _, _⟩) (v := ?_) rfl (by kernel_rfl) (by kernel_rfl) (by kernel_rfl) (fun _ _ _ h => h) (Or.inl ⟨by rfl, ?_⟩) (by assumption) ?_; (rotate_left 1); (focus (intro wz hSw; (try dsimp only at hSw); go_simp; try (with_reducible rfl))); simp only [Act.put, List.setIfInBounds_toArray, List.set_cons_zero, List.set_cons_succ]
        refine wpAnyH_take (i := 42) (oi := ⟨some 116, _, _, _, _, _⟩) (v := ?_) rfl (by kernel_rfl) (by kernel_rfl) (by kernel_rfl) (fun _ _ _ h => h) (Or.inl ⟨by rfl, ?_⟩) (by assumption) ?_; (rotate_left 1); (focus (intro wz hSw; (try dsimp only at hSw); go_simp; try (with_reducible rfl))); simp only [Act.put, List.setIfInBounds_toArray, List.set_cons_zero, List.set_cons_succ]
        refine wpAnyH_take (i := 43) (oi := ⟨some 117, _, _, _, _, _⟩) (v := undef) rfl (by kernel_rfl) (by kernel_rfl) (by kernel_rfl) (fun _ _ _ h => h) (Or.inr ⟨by rfl, rfl⟩) (by assumption) ?_; simp only [Act.put, List.setIfInBounds_toArray, List.set_cons_zero, List.set_cons_succ]
        refine wpAnyH_take (i := 44) (oi := ⟨some 118, _, _, _, _, _⟩) (v := undef) rfl (by kernel_rfl) (by kernel_rfl) (by kernel_rfl) (fun _ _ _ h => h) (Or.inr ⟨by rfl, rfl⟩) (by assumption) ?_; simp only [Act.put, List.setIfInBounds_toArray, List.set_cons_zero, List.set_cons_succ]
        refine wpAnyH_take (i := 45) (oi := ⟨some 119, _, _, _, _, _⟩) (v := undef) rfl (by kernel_rfl) (by kernel_rfl) (by kernel_rfl) (fun _ _ _ h => h) (Or.inr ⟨by rfl, rfl⟩) (by assumption) ?_; simp only [Act.put, List.setIfInBounds_toArray, List.set_cons_zero, List.set_cons_succ]
        refine wpAnyH_take (i := 46) (oi := ⟨some 120, _, _, _, _, _⟩) (v := undef) rfl (by kernel_rfl) (by kernel_rfl) (by kernel_rfl) (fun _ _ _ h => h) (Or.inr ⟨by rfl, rfl⟩) (by assumption) ?_; simp only [Act.put, List.setIfInBounds_toArray, List.set_cons_zero, List.set_cons_succ]
        refine wpAnyH_take (i := 47) (oi := ⟨some 121, _, _, _, _, _⟩) (v := undef) rfl (by kernel_rfl) (by kernel_rfl) (by kernel_rfl) (fun _ _ _ h => h) (Or.inr ⟨by rfl, rfl⟩) (by assumption) ?_; simp only [Act.put, List.setIfInBounds_toArray, List.set_cons_zero, List.set_cons_succ]
        refine wpAnyH_take (i := 48) (oi := ⟨some 122, _, _, _, _, _⟩) (v := undef) rfl (by kernel_rfl) (by kernel_rfl) (by kernel_rfl) (fun _ _ _ h => h) (Or.inr ⟨by rfl, rfl⟩) (by assumption) ?_; simp only [Act.put, List.setIfInBounds_toArray, List.set_cons_zero, List.set_cons_succ]
        refine wpAnyH_take (i := 49) (oi := ⟨some 123, _, _, _, _, _⟩) (v := undef) rfl (by kernel_rfl) (by kernel_rfl) (by kernel_rfl) (fun _ _ _ h => h) (Or.inr ⟨by rfl, rfl⟩) (by assumption) ?_; simp only [Act.put, List.setIfInBounds_toArray, List.set_cons_zero, List.set_cons_succ]
        have gz : Bw wb2 wb2.drew := (Bw.refl wb2).drew
        refine wpAnyH_take (i := 50) (oi := ⟨some 124, _, _, _, _, _⟩) (v := ?_) rfl (by kernel_rfl) (by kernel_rfl) (by kernel_rfl) (fun _ _ _ h => h) (Or.inl ⟨by rfl, ?_⟩) (by assumption) ?_; (rotate_left 1); (focus (intro wz hSw; (try dsimp only at hSw); go_simp; try (with_reducible rfl))); simp only [Act.put, List.setIfInBounds_toArray, List.set_cons_zero, List.set_cons_succ]
        refine wpAnyH_take (i := 51) (oi := ⟨some 125, _, _, _, _, _⟩) (v := ?_) rfl (by kernel_rfl) (by kernel_rfl) (by kernel_rfl) (fun _ _ _ h => h) (Or.inl ⟨by rfl, ?_⟩) (by assumption) ?_; (rotate_left 1); (focus (intro wz hSw; (try dsimp only at hSw); go_simp; try (with_reducible rfl))); simp only [Act.put, List.setIfInBounds_toArray, List.set_cons_zero, List.set_cons_succ]
        refine wpAnyH_done (by kernel_rfl) ?_ _
        have L6 := L5.b gz
        clear L5 gz hi12 hb12 hi2 hb2 hHeld hAd hBd hNe1
        obtain ⟨R, hR⟩ : ∃ R, Cpu.step T c' = R := ⟨_, rfl⟩
        have hU := Uo.step L6.m.ok L6.ok
        rw [hR] at hU
        have hT1 := Step_c L6.m ha c' L6.ok
        rw [hR] at hT1
        obtain ⟨r, ⟨gk, ga, gy⟩, T'⟩ := R
        unfold sv Cpu.ev at hT1
        dsimp only at hT1 hU
        have hNe2 := eqEv gk ga gy
        have hok2 : r.Ok := L6.ok2 hU hk20
        have hNs := fun X => (st_eql r hok2.x hok2.pc (by have := hok2.ret; omega) X).2
        have hRet : r.ret ≤ 1099511627776 + ((k + 1 : Nat) : Int) := by have := L6.ret; have := hU.ret; omega
        unfold sv arr at hNs
        go_wp2_with (first
          | ((with_reducible refine p_load (ty := 32) ?_); refine wpLoadBox rfl 32 _ rfl W.heap.size (l := cl c') rfl L6.s Tryd.underlying32 rfl (infoL _) ?_)
          | fail)
        refine hT1.mono ?_
        rintro e V1 ⟨rfl, hMS1, kS1⟩
        clear hT1
        obtain ⟨hZ1, hY1⟩ := zbox V1
        go_wp2_with (first
          | ((with_reducible refine p_store (ty := 32) ?_); refine wpStoreBox rfl 32 _ _ rfl V1.heap.size (l := cl zst) (l' := cl r) rfl rfl hZ1 (by rw [cl_len, cl_len]) (infoL _) (cl_one _) ?_; intro wT1 h41 q41)
          | ((with_reducible refine p_store (ty := 35) ?_); refine wpStoreBox rfl 35 _ _ rfl (V1.heap.size + 1) (l := [.int .i64 0, .int .u32 0, .int .i64 0]) (l' := [.int .i64 gk, .int .u32 ga, .int .i64 gy]) rfl rfl (Box.q hY1 q41 (by omega)) rfl (by kernel_rfl) one3e ?_; intro wU1 h51 q51; go_loud (obtain ⟨hS1, bU1⟩ := two_aft h41 q41 h51 q51; clear hZ1 hY1 h41 q41 q51; obtain ⟨M1, R1, s1, t1, l1, l2⟩ := L6.one hMS1 kS1 bU1; clear hMS1 kS1 bU1))
          | ((with_reducible refine p_load (ty := 32) ?_); refine wpLoadBox rfl 32 _ rfl tb (l := cl c') rfl t1 Tryd.underlying32 rfl (infoL _) ?_)
          | fail)
        have hT2 := rStep_c R1 L6.m.ok c' L6.ok (by omega)
        rw [hR] at hT2
        unfold sv Cpu.ev at hT2
        dsimp only at hT2
        clear hR
        refine hT2.mono ?_
        rintro e V3 ⟨rfl, G', R3, kS2⟩
        clear hT2
        obtain ⟨hZ2, hY2⟩ := zbox V3
        obtain ⟨M3, s3, t3, u3, f3, gd3, lo3⟩ := L6.two M1 R1 s1 t1 hS1 h51 l1 l2 R3 kS2
        have l3 := kS2.fz.b0.size
        clear hS1 h51 M1 R1 s1 t1 kS2
        go_wp2_with (first
          | ((with_reducible refine p_store (ty := 32) ?_); refine wpStoreBox rfl 32 _ _ rfl V3.heap.size (l := cl zst) (l' := cl r) rfl rfl hZ2 (by rw [cl_len, cl_len]) (infoL _) (cl_one _) ?_; intro wT2 h42 q42)
          | ((with_reducible refine p_store (ty := 35) ?_); refine wpStoreBox rfl 35 _ _ rfl (V3.heap.size + 1) (l := [.int .i64 0, .int .u32 0, .int .i64 0]) (l' := [.int .i64 gk, .int .u32 ga, .int .i64 gy]) rfl rfl (Box.q hY2 q42 (by omega)) rfl (by kernel_rfl) one3e ?_; intro wU2 h52 q52; go_loud (obtain ⟨hS2, bU2⟩ := two_aft h42 q42 h52 q52; clear hZ2 hY2 h42 q42 q52; have c3 := (Box.bw f3 bU2).c 0 _ rfl; have sU := SB.bw u3 bU2; have fU := Box.bw f3 bU2; clear u3 f3))
          | ((with_reducible refine p_load (ty := 35) ?_); refine wpLoadBox rfl 35 _ rfl (V1.heap.size + 1) (l := [.int .i64 gk, .int .u32 ga, .int .i64 gy]) rfl fU Tryd.underlying35 rfl (by kernel_rfl) ?_)
          | ((with_reducible refine p_load (ty := 35) ?_); refine wpLoadBox rfl 35 _ rfl (V3.heap.size + 1) (l := [.int .i64 gk, .int .u32 ga, .int .i64 gy]) rfl h52 Tryd.underlying35 rfl (by kernel_rfl) ?_)
          | ((with_reducible refine p_load (ty := 32) ?_); refine wpLoadW (by rfl) 32 _ rfl V1.heap.size (l := cl r) rfl sU Tryd.underlying32 rfl (infoL _) ?_)
          | ((with_reducible refine p_load (ty := 32) ?_); refine wpLoadW (by rfl) 32 _ rfl V3.heap.size (l := cl r) rfl hS2 Tryd.underlying32 rfl (infoL _) ?_)
          | fail)
        have sD := SB.bw sU (Bw.refl wU2).drew
        have vD := SB.bw hS2 (Bw.refl wU2).drew
        have cD := (Box.bw fU (Bw.refl wU2).drew)
        have gD : Bw V3 wU2.drew := Bw.trans bU2 (Bw.refl wU2).drew
        have s4 : Box wU2.drew W.heap.size (cl c') := SB.bw s3 gD
        have t4 : Box wU2.drew tb (cl c') := SB.bw t3 gD
        have M4 := M3.on gD
        have R4 := R3.bw gD
        clear sU hS2 fU h52 c3 s3 t3 M3 R3 bU2 hNe2 hNs
        refine wp_region_held_drew (S := fun Y => Box Y V1.heap.size (cl r) ∧ Box Y V3.heap.size (cl r) ∧ Y.cell? ⟨V1.heap.size + 1, 0, none⟩ = some (.int .i64 gk)) (by kernel_rfl) ⟨sD, vD, cD.c 0 _ rfl⟩ (fun hHeld => ?_)
        refine wpAnyH_take (i := 0) (oi := ⟨some 146, _, _, _, _, _⟩) (v := .agg (cl r).toArray) rfl (by kernel_rfl) (by kernel_rfl) (by kernel_rfl) (fun _ _ _ h => h) (yieldsIf_load_mid (by rfl) 32 _ rfl V1.heap.size 0 rfl _ _ (fun Y hY => Box.range hY.1) Tryd.underlying32 rfl (infoL _)) (by assumption) ?_
        simp only [Act.put, List.setIfInBounds_toArray, List.set_cons_zero, List.set_cons_succ]
        refine wpAnyH_take (i := 1) (oi := ⟨some 147, _, _, _, _, _⟩) (v := .agg (cl r).toArray) rfl (by kernel_rfl) (by kernel_rfl) (by kernel_rfl) (fun _ _ _ h => h) (yieldsIf_load_mid (by rfl) 32 _ rfl V3.heap.size 0 rfl _ _ (fun Y hY => Box.range hY.2.1) Tryd.underlying32 rfl (infoL _)) (by assumption) ?_
        simp only [Act.put, List.setIfInBounds_toArray, List.set_cons_zero, List.set_cons_succ]
        have n1 := L6.far l1 l2
        refine wpAnyH_ready (rs := [2]) (by kernel_rfl) (by simp) ?_; refine AllReadyH.cons (o := ⟨none, _, _, _, _, _⟩) rfl (fun K hK => ?_) AllReadyH.nil; refine stepStoreBox rfl 32 _ _ rfl W.heap.size (l := cl c') (l' := cl r) rfl rfl s4 (by rw [cl_len, cl_len]) (infoL _) (cl_one _) ?_; intro w5 h5 q5
        (try clear hHeld); refine hK.out _ _ ?_ (fun hHeld => ?_)
        · exact ⟨Box.q sD q5 (by omega), Box.q vD q5 (by omega), (Box.q cD q5 (by omega)).c 0 _ rfl⟩
        refine wpAnyH_ready (rs := [3]) (by kernel_rfl) (by simp) ?_; refine AllReadyH.cons (o := ⟨none, _, _, _, _, _⟩) rfl (fun K hK => ?_) AllReadyH.nil; refine stepStoreBox rfl 32 _ _ rfl tb (l := cl c') (l' := cl r) rfl rfl (Box.q t4 q5 (by omega)) (by rw [cl_len, cl_len]) (infoL _) (cl_one _) ?_; intro w6 h6 q6
        have c6 := (Box.q (Box.q cD q5 (by omega)) q6 (by omega)).c 0 _ rfl
        (try clear hHeld); refine hK.out _ _ ?_ (fun hHeld => ?_)
        · exact ⟨Box.q (Box.q sD q5 (by omega)) q6 (by omega), Box.q (Box.q vD q5 (by omega)) q6 (by omega), c6⟩
        refine wpAnyH_done (by kernel_rfl) ?_ _
        have L7 := L6.end_ M4 R4 hRet hok2 gd3 (fun i hi => lo3 i (Nat.le_trans (Below.size gD) hi)) h5 q5 h6 q6
        clear L6 M4 R4 h5 h6 s4 t4 sD vD cD gd3 lo3
        by_cases hg : gk = 0
        · subst hg
          go_wp2_with fail
          go_roundg (m - (k + 1))
          case measure => omega
          case rel => exact ⟨k + 1, r, G', T', by omega, by simp, L7⟩
        · have hg' : (gk != 0) = true := by simpa using hg
          go_wp2_with fail
          have M7 := L7.m
          have R7 := L7.r
          refine (mem2_c M7 50).mono ?_
          rintro e w8 ⟨a8, v8, rfl, hb8, ho8, g8, -⟩
          obtain ⟨b9, v9, gv9, hbx, hrd⟩ := (R7.bw g8).rd
          have hSm := sameMem_c M7.ok hb8 hbx ho8.rd hrd
          have gX := M7.bw.trans g8
          go_wp2_with fail
          refine hSm.mono ?_
          rintro e w10 ⟨rfl, g10⟩
          clear hSm
          go_wp2_with fail
          go_returns
          exact ⟨rfl, gX.trans g10⟩
    · obtain rfl : k = m := by omega
      have M7 := hL.m
      have R7 := hL.r
      clear hL
      go_wp2_with fail
      refine (mem2_c M7 50).mono ?_
      rintro e w8 ⟨a8, v8, rfl, hb8, ho8, g8, -⟩
      obtain ⟨b9, v9, gv9, hbx, hrd⟩ := (R7.bw g8).rd
      have hSm := sameMem_c M7.ok hb8 hbx ho8.rd hrd
      have gX := M7.bw.trans g8
      go_wp2_with fail
      refine hSm.mono ?_
      rintro e w10 ⟨rfl, g10⟩
      clear hSm
      go_wp2_with fail
      go_returns
      exact ⟨rfl, gX.trans g10⟩
theorem CpuSteps_w (a b : Value) (c : St) (n : Int) (W : World) (ha : All12 W) (hw : WdArg W a) (hd : BtArg W b) (hc : StArg c) :
    Calls Tryd.prog 4 #[a, b, sv c, .int .i64 n] W fun e w' => e = .returned (.bool true) ∧ Bw W w' := by
  obtain ⟨ws, hw, hu⟩ := hw
  obtain ⟨db, hd, h8⟩ := hd
  by_cases h : 64 < ws.length ∨ 512 < db.length ∨ c.ret < 0 ∨ 1099511627776 < c.ret ∨ n < 1 ∨ 20 < n
  · exact CpuSteps_no a b ws db c n W ha hw hd h
  · exact CpuSteps_yes a b ws db c n W ha hw hd hu h8 (hc.ok (by omega) (by omega)) (by omega) (by omega) (by omega) (by omega) (by omega) (by omega)
end Go.Proofs.YtbackacbdfgdoaaDoor
