/- LAYER 12, the document's own steps (tinctureref11): x, set, sizes, Fetch, Address. · LAYER 12, the document's own steps (tinctureref11): sizes, Fetch, Address. · LAYER 12, the document's own steps (tinctureref11): Address. -/
import Derived.Test.YtbackacbdfgdoaaDoorKRm
import Derived.Test.YtbackacbdfgdoaaDoorKRb
import Derived.Test.YtbackacbdfgdoaaDoorKPg
import Derived.Deep.RegionHeld3
namespace Go.Proofs.YtbackacbdfgdoaaDoor
open Go.ChangeShapes Go.WideShapes Go.ChangeAt Go.RowKit
open Cpu
set_option linter.unusedVariables false
set_option linter.unusedSimpArgs false

theorem results_one {P : Program} {fn : Func} {p1 : Tmp} {t1 : TypeId} (h : fn.results = #[.cell p1 t1]) (tmps : Array Value) (w : World) (g1 : Nat) (l1 : List Value) {d1 : TypeDesc}
    (hp1 : tmps.getD p1 undef = .pointer (some ⟨g1, 0, none⟩)) (h1 : Box w g1 l1)
    (hu1 : P.underlying t1 = some d1) (hd1 : d1.isRow = true) (hi1 : (P.info? t1).map (·.size) = some l1.length) :
    (results fn tmps).run P w = .ok (.agg l1.toArray) w := by
  have hp1' : tmps[p1]?.getD undef = .pointer (some ⟨g1, 0, none⟩) := by simpa using hp1
  have r1 := run_loadVar_mid (P := P) w g1 0 t1 l1 d1 h1.range hu1 hd1 hi1
  simp [results, h, hp1', asAddr, r1]
theorem rx_c (s : St) (r : Int) (hr : 0 ≤ r ∧ r < 32) (w : World) :
    Calls Tryd.prog 36 #[sv s, .int .i64 r] w fun e w' => e = .returned (.int .u32 (reg s r)) ∧ Bw w w' := by
  have hB : SB (w.alloc (.cells (cl s).toArray 32)) w.heap.size s := SB.new w s
  have b0 : Bw w (w.alloc (.cells (cl s).toArray 32)) := (Bw.refl w).alloc _
  unfold sv arr
  by_cases h0 : r = 0
  · subst h0
    go_enter Tryd.func36, Tryd.ntmps36
    go_wp2_with fail
    go_returns
    exact ⟨rfl, b0⟩
  · obtain ⟨n, rfl⟩ : ∃ n : Nat, r = n := ⟨r.toNat, by omega⟩
    have hx := hB.c (i := n) (by omega)
    rw [show reg s n = s.x n by unfold reg; rw [if_neg (by omega)]; rfl]
    have k0 : ((n : Int) == 0) = false := by simpa using h0
    have n1 : (n : Int) < 32 := by omega
    go_enter Tryd.func36, Tryd.ntmps36
    go_wp2_with fail
    go_returns
    exact ⟨rfl, b0⟩
set_option maxRecDepth 100000 in
set_option maxHeartbeats 4000000 in
theorem set_c (s : St) (r v pc : Int) (hr : 0 ≤ r ∧ r < 32) (hs : -4611686018427387904 ≤ s.ret ∧ s.ret ≤ 4611686018427387904) (w : World) :
    Calls Tryd.prog 37 #[sv s, .int .i64 r, .int .u32 v, .int .u32 pc] w fun e w' => e = .returned (sv (done s r v pc)) ∧ Bw w w' := by
  have hB : SB (w.alloc (.cells (cl s).toArray 32)) w.heap.size s := SB.new w s
  obtain ⟨wA, hwA⟩ : ∃ wA, w.alloc (.cells (cl s).toArray 32) = wA := ⟨_, rfl⟩
  have bA : Bw w wA := by rw [← hwA]; exact (Bw.refl w).alloc _
  have zA : wA.heap.size = w.heap.size + 1 := by rw [← hwA]; simp
  rw [hwA] at hB
  have hZ : Box (wA.alloc (.cells (cl zst).toArray 32)) wA.heap.size (cl zst) := Box.new wA (cl zst) _
  obtain ⟨wB, hwB⟩ : ∃ wB, wA.alloc (.cells (cl zst).toArray 32) = wB := ⟨_, rfl⟩
  have bB : Bw wA wB := by rw [← hwB]; exact (Bw.refl wA).alloc _
  rw [hwB] at hZ
  rw [zA] at hZ
  have hBB := hB.bw bB
  obtain ⟨n, rfl⟩ : ∃ n : Nat, r = n := ⟨r.toNat, by omega⟩
  have n1 : (n : Int) < 32 := by omega
  have hx := hBB.c (i := n) (by omega)
  have hxf := hBB.f (i := n) (by omega)
  have h0 := hBB.c (i := 0) (by omega)
  have h0f := hBB.f (i := 0) (by omega)
  have hp := hBB.pc
  have hpf := hBB.f (i := 32) (by omega)
  have ht := hBB.ret
  have htf := hBB.f (i := 33) (by omega)
  have hfin : SB ((((wB.setCell ⟨w.heap.size, n, none⟩ (.int .u32 v)).setCell ⟨w.heap.size, 0, none⟩ (.int .u32 0)).setCell ⟨w.heap.size, 32, none⟩ (.int .u32 pc)).setCell ⟨w.heap.size, 33, none⟩ (.int .i64 (s.ret + 1))) w.heap.size (done s n v pc) := by
    have := (((hBB.put (r := n) (by omega) v).put (r := 0) (by omega) 0).setPc pc).setRet (s.ret + 1)
    rw [show done s n v pc = ({ ({ ((s.put n v).put 0 0) with pc := pc } : St) with ret := s.ret + 1 } : St) from ?_]
    · exact this
    · unfold done St.put
      congr 1
  have HF : Hid _ := hfin
  unfold sv arr
  have hwB2 : wA.alloc (.cells #[.int .u32 0, .int .u32 0, .int .u32 0, .int .u32 0, .int .u32 0, .int .u32 0, .int .u32 0, .int .u32 0, .int .u32 0, .int .u32 0, .int .u32 0, .int .u32 0, .int .u32 0, .int .u32 0, .int .u32 0, .int .u32 0, .int .u32 0, .int .u32 0, .int .u32 0, .int .u32 0, .int .u32 0, .int .u32 0, .int .u32 0, .int .u32 0, .int .u32 0, .int .u32 0, .int .u32 0, .int .u32 0, .int .u32 0, .int .u32 0, .int .u32 0, .int .u32 0, .int .u32 0, .int .i64 0] 32) = wB := hwB
  clear hfin hB hwB
  have hq : Bw w ((((wB.setCell ⟨w.heap.size, n, none⟩ (.int .u32 v)).setCell ⟨w.heap.size, 0, none⟩ (.int .u32 0)).setCell ⟨w.heap.size, 32, none⟩ (.int .u32 pc)).setCell ⟨w.heap.size, 33, none⟩ (.int .i64 (s.ret + 1))) := ((((bA.trans bB).setCell (Nat.le_refl _) _).setCell (Nat.le_refl _) _).setCell (Nat.le_refl _) _).setCell (Nat.le_refl _) _
  have hZf : Box ((((wB.setCell ⟨w.heap.size, n, none⟩ (.int .u32 v)).setCell ⟨w.heap.size, 0, none⟩ (.int .u32 0)).setCell ⟨w.heap.size, 32, none⟩ (.int .u32 pc)).setCell ⟨w.heap.size, 33, none⟩ (.int .i64 (s.ret + 1))) (w.heap.size + 1) (cl zst) := (((hZ.ne (by omega) _ _).ne (by omega) _ _).ne (by omega) _ _).ne (by omega) _ _
  have HQ : Hid _ := hq
  have HZ : Hid _ := hZf
  clear hq hZf hZ hBB bA bB
  rcases Nat.eq_zero_or_pos n with h | h
  · subst h
    clear n1 hx hxf
    go_enter Tryd.func37, Tryd.ntmps37
    go_wp2_with (first
    | ((with_reducible refine p_load (ty := 32) ?_); refine wpLoadBox rfl 32 _ rfl w.heap.size (l := cl (done s 0 v pc)) rfl HF.out Tryd.underlying32 rfl (infoL _) ?_)
    | ((with_reducible refine p_store (ty := 32) ?_); refine wpStoreBox rfl 32 _ _ rfl (w.heap.size + 1) (l := cl zst) (l' := cl (done s 0 v pc)) rfl rfl HZ.out (by rw [cl_len, cl_len]) (infoL _) (cl_one _) ?_; intro w9 h9 q9)
    | fail)
    (try simp only [Exit.inBlock, Exit.then])
    refine bodyPost_ret (results_one (fn := Tryd.f37) (p1 := 8) (t1 := 32) Tryd.results37 _ _ _ _ rfl h9 Tryd.underlying32 rfl (infoL _)) rfl ?_
    exact ⟨rfl, q9.toBw HQ.out (by omega)⟩
  · have n0 : n ≠ 0 := by omega
    have n32 : n ≠ 32 := by omega
    have n33 : n ≠ 33 := by omega
    go_enter Tryd.func37, Tryd.ntmps37
    go_wp2_with (first
    | ((with_reducible refine p_load (ty := 32) ?_); refine wpLoadBox rfl 32 _ rfl w.heap.size (l := cl (done s n v pc)) rfl HF.out Tryd.underlying32 rfl (infoL _) ?_)
    | ((with_reducible refine p_store (ty := 32) ?_); refine wpStoreBox rfl 32 _ _ rfl (w.heap.size + 1) (l := cl zst) (l' := cl (done s n v pc)) rfl rfl HZ.out (by rw [cl_len, cl_len]) (infoL _) (cl_one _) ?_; intro w9 h9 q9)
    | fail)
    (try simp only [Exit.inBlock, Exit.then])
    refine bodyPost_ret (results_one (fn := Tryd.f37) (p1 := 8) (t1 := 32) Tryd.results37 _ _ _ _ rfl h9 Tryd.underlying32 rfl (infoL _)) rfl ?_
    exact ⟨rfl, q9.toBw HQ.out (by omega)⟩
end Go.Proofs.YtbackacbdfgdoaaDoor
namespace Go.Proofs.YtbackacbdfgdoaaDoor
open Go.ChangeShapes Go.WideShapes Go.ChangeAt Go.RowKit
open Cpu
set_option linter.unusedVariables false
set_option linter.unusedSimpArgs false

namespace Cpu
def rsz (op : Int) : Int := if op ≤ 15 then lsz op else ssz op
def rsg (op : Int) : Bool := decide (op ≤ 12)
end Cpu
theorem sizes_c (op : Int) (h : 11 ≤ op ∧ op ≤ 18) (w : World) :
    Calls Tryd.prog 39 #[.int .i64 op] w fun e w' => e = .returned (.tuple #[.int .i64 (rsz op), .bool (rsg op)]) ∧ w' = w := by
  rcases (show op = 11 ∨ op = 12 ∨ op = 13 ∨ op = 14 ∨ op = 15 ∨ op = 16 ∨ op = 17 ∨ op = 18 by omega) with rfl | rfl | rfl | rfl | rfl | rfl | rfl | rfl
  all_goals
    go_enter Tryd.func39, Tryd.ntmps39
    go_wp2_with fail
    go_returns
    exact ⟨rfl, rfl⟩
theorem dec_none {v : Int} (h : (Rv.dec v).op = 0) : Rv.dec v = ⟨0, 0, 0, 0, 0⟩ := by
  rw [Rv.dec_op] at h
  unfold Rv.dec
  rw [h]
  have hl : Rv.lay 0 = 0 := by decide
  rw [hl]
  rfl
set_option maxRecDepth 100000 in
set_option maxHeartbeats 4000000 in
theorem rFetch_c {G : Nat → Prop} {w : World} {rb N : Nat} {S : MS} (hH : RM G w rb N S) (hS : S.Ok) (pc : Int) (hpc : U4 pc) :
    Calls Tryd.prog 16 #[.pointer (some ⟨rb, 0, none⟩), .int .u32 pc] w fun e w' => e = .returned (.tuple #[Rv.iv (fetch S pc).1, Cpu.ev (fetch S pc).2]) ∧ Bw w w' := by
  have hL := fun X (g : Bw w X) => Load_r (hH.bw g) pc 4 4 hpc
  have hv := MS.load_u4 hS pc 4 4
  have hD := fun X => rDecode_c (S.load pc 4 4) hv.1 hv.2 X
  have hdn := fun h => dec_none (v := S.load pc 4 4) h
  unfold fetch Rv.iv Cpu.ev
  unfold Rv.iv at hD
  generalize hf : S.ask pc 4 4 = f at *
  generalize S.load pc 4 4 = v at *
  clear hH hf
  obtain ⟨D, hDD⟩ : ∃ D, Rv.dec v = D := ⟨_, rfl⟩
  rw [hDD] at hD hdn ⊢
  clear hDD
  obtain ⟨op, rd, rs1, rs2, imm⟩ := D
  dsimp only at hD hdn ⊢
  have hI := Box.new w [.int .i64 0, .int .i64 0, .int .i64 0, .int .i64 0, .int .i32 0] 43
  obtain ⟨wi, hwi⟩ : ∃ wi, w.alloc (.cells [.int .i64 0, .int .i64 0, .int .i64 0, .int .i64 0, .int .i32 0].toArray 43) = wi := ⟨_, rfl⟩
  have hsi : wi.heap.size = w.heap.size + 1 := by rw [← hwi]; simp
  have hbi : Bw w wi := by rw [← hwi]; exact (Bw.refl w).alloc _
  rw [hwi] at hI
  have hE := Box.new wi [.int .i64 0, .int .u32 0, .int .i64 0] 35
  have hbx : Bw wi (wi.alloc (.cells [.int .i64 0, .int .u32 0, .int .i64 0].toArray 35)) := (Bw.refl wi).alloc _
  obtain ⟨wx, hwx⟩ : ∃ wx, wi.alloc (.cells [.int .i64 0, .int .u32 0, .int .i64 0].toArray 35) = wx := ⟨_, rfl⟩
  rw [hwx] at hE hbx
  replace hI := hI.bw hbx
  rw [hsi] at hE
  have hsx : w.heap.size + 2 ≤ wx.heap.size := by rw [← hwx]; simp; omega
  have hbw := hbi.trans hbx
  have hL := hL wx hbw
  clear hbi hbx
  by_cases h0 : f = 0
  · subst h0
    rw [if_pos rfl]
    by_cases ho : op = 0
    · obtain h5 := hdn ho
      simp only [Rv.Ins.mk.injEq] at h5
      obtain ⟨rfl, rfl, rfl, rfl, rfl⟩ := h5
      rw [if_pos rfl]
      clear hdn ho
      go_enter Tryd.func16, Tryd.ntmps16
      go_wp2_with fail
      refine hL.mono ?_
      rintro e w2 ⟨rfl, g2⟩
      clear hL
      go_wp2_with fail
      refine (hD w2).mono ?_
      rintro e w3 ⟨rfl, g3⟩
      clear hD
      have hZ := Box.new w3 [.int .i64 0, .int .i64 0, .int .i64 0, .int .i64 0, .int .i32 0] 43
      have g23 : Bw wx w3 := (g2.trans g3).b
      have z3 : wx.heap.size ≤ w3.heap.size := Below.size g23
      go_wp2_with (first
        | ((with_reducible refine p_store (ty := 43) ?_); refine wpStoreBox rfl 43 _ _ rfl w3.heap.size (l' := [.int .i64 0, .int .i64 0, .int .i64 0, .int .i64 0, .int .i32 0]) rfl rfl hZ rfl (by kernel_rfl) one5 ?_; intro w4 h4 q4; go_loud (have g4 : Bw w3 w4 := q4.toBw ((Bw.refl _).alloc _) (Nat.le_refl _); have c4 := h4.c 0 _ rfl; have hI4 := hI.bw (g23.trans g4); have hE4 := hE.bw (g23.trans g4); clear hZ))
        | ((with_reducible refine p_load (ty := 43) ?_); refine wpLoadBox rfl 43 _ rfl w3.heap.size rfl h4 Tryd.underlying43 rfl (by kernel_rfl) ?_)
        | ((with_reducible refine p_store (ty := 43) ?_); refine wpStoreBox rfl 43 _ _ rfl w.heap.size (l' := [.int .i64 0, .int .i64 0, .int .i64 0, .int .i64 0, .int .i32 0]) rfl rfl hI4 rfl (by kernel_rfl) one5 ?_; intro w5 hI5 q5)
        | ((with_reducible refine p_store (ty := 35) ?_); refine wpStoreBox rfl 35 _ _ rfl (w.heap.size + 1) (l' := [.int .i64 2, .int .u32 pc, .int .i64 0]) rfl rfl (hE4.q q5 (by omega)) rfl (by kernel_rfl) one3e ?_; intro w6 hE6 q6)
        | fail)
      (try simp only [Exit.inBlock, Exit.then])
      refine bodyPost_ret (results_two (fn := Tryd.f16) (p1 := 4) (p2 := 5) (t1 := 43) (t2 := 35) Tryd.results16 _ _ _ _ _ _ rfl rfl (hI5.q q6 (by omega)) hE6 Tryd.underlying43 rfl (by kernel_rfl) Tryd.underlying35 rfl (by kernel_rfl)) rfl ?_
      exact ⟨rfl, q6.toBw (q5.toBw ((hbw.trans g23).trans g4) (Nat.le_refl _)) (by omega)⟩
    · rw [if_neg ho]
      have ho' : (op == 0) = false := by simpa using ho
      clear hdn
      go_enter Tryd.func16, Tryd.ntmps16
      go_wp2_with fail
      refine hL.mono ?_
      rintro e w2 ⟨rfl, g2⟩
      clear hL
      go_wp2_with fail
      refine (hD w2).mono ?_
      rintro e w3 ⟨rfl, g3⟩
      clear hD
      have hZ := Box.new w3 [.int .i64 0, .int .i64 0, .int .i64 0, .int .i64 0, .int .i32 0] 43
      have g23 : Bw wx w3 := (g2.trans g3).b
      have z3 : wx.heap.size ≤ w3.heap.size := Below.size g23
      go_wp2_with (first
        | ((with_reducible refine p_store (ty := 43) ?_); refine wpStoreBox rfl 43 _ _ rfl w3.heap.size (l' := [.int .i64 op, .int .i64 rd, .int .i64 rs1, .int .i64 rs2, .int .i32 imm]) rfl rfl hZ rfl (by kernel_rfl) one5 ?_; intro w4 h4 q4; go_loud (have g4 : Bw w3 w4 := q4.toBw ((Bw.refl _).alloc _) (Nat.le_refl _); have c4 := h4.c 0 _ rfl; have hI4 := hI.bw (g23.trans g4); have hE4 := hE.bw (g23.trans g4); clear hZ))
        | ((with_reducible refine p_load (ty := 43) ?_); refine wpLoadBox rfl 43 _ rfl w3.heap.size rfl h4 Tryd.underlying43 rfl (by kernel_rfl) ?_)
        | ((with_reducible refine p_store (ty := 43) ?_); refine wpStoreBox rfl 43 _ _ rfl w.heap.size (l' := [.int .i64 op, .int .i64 rd, .int .i64 rs1, .int .i64 rs2, .int .i32 imm]) rfl rfl hI4 rfl (by kernel_rfl) one5 ?_; intro w5 hI5 q5)
        | ((with_reducible refine p_store (ty := 35) ?_); refine wpStoreBox rfl 35 _ _ rfl (w.heap.size + 1) (l' := [.int .i64 0, .int .u32 0, .int .i64 0]) rfl rfl (hE4.q q5 (by omega)) rfl (by kernel_rfl) one3e ?_; intro w6 hE6 q6)
        | fail)
      (try simp only [Exit.inBlock, Exit.then])
      refine bodyPost_ret (results_two (fn := Tryd.f16) (p1 := 4) (p2 := 5) (t1 := 43) (t2 := 35) Tryd.results16 _ _ _ _ _ _ rfl rfl (hI5.q q6 (by omega)) hE6 Tryd.underlying43 rfl (by kernel_rfl) Tryd.underlying35 rfl (by kernel_rfl)) rfl ?_
      exact ⟨rfl, q6.toBw (q5.toBw ((hbw.trans g23).trans g4) (Nat.le_refl _)) (by omega)⟩
  · rw [if_neg h0]
    have h0' : (f != 0) = true := by simpa using h0
    clear hdn hD
    go_enter Tryd.func16, Tryd.ntmps16
    go_wp2_with fail
    refine hL.mono ?_
    rintro e w2 ⟨rfl, g2⟩
    clear hL
    have hI2 := hI.bw g2.b
    have hE2 := hE.bw g2.b
    go_wp2_with (first
      | ((with_reducible refine p_store (ty := 43) ?_); refine wpStoreBox rfl 43 _ _ rfl w.heap.size (l' := [.int .i64 0, .int .i64 0, .int .i64 0, .int .i64 0, .int .i32 0]) rfl rfl hI2 rfl (by kernel_rfl) one5 ?_; intro w5 hI5 q5)
      | ((with_reducible refine p_store (ty := 35) ?_); refine wpStoreBox rfl 35 _ _ rfl (w.heap.size + 1) (l' := [.int .i64 1, .int .u32 pc, .int .i64 f]) rfl rfl (hE2.q q5 (by omega)) rfl (by kernel_rfl) one3e ?_; intro w6 hE6 q6)
      | fail)
    (try simp only [Exit.inBlock, Exit.then])
    refine bodyPost_ret (results_two (fn := Tryd.f16) (p1 := 4) (p2 := 5) (t1 := 43) (t2 := 35) Tryd.results16 _ _ _ _ _ _ rfl rfl (hI5.q q6 (by omega)) hE6 Tryd.underlying43 rfl (by kernel_rfl) Tryd.underlying35 rfl (by kernel_rfl)) rfl ?_
    exact ⟨rfl, q6.toBw (q5.toBw (hbw.trans g2.b) (Nat.le_refl _)) (by omega)⟩
end Go.Proofs.YtbackacbdfgdoaaDoor
namespace Go.Proofs.YtbackacbdfgdoaaDoor
open Go.ChangeShapes Go.WideShapes Go.ChangeAt Go.RowKit
open Cpu
set_option linter.unusedVariables false
set_option linter.unusedSimpArgs false

set_option maxRecDepth 100000 in
set_option maxHeartbeats 4000000 in
theorem rAddress_c (i : Rv.Ins) (s : St) (hr : 0 ≤ i.rs1 ∧ i.rs1 < 32) (w : World) :
    Calls Tryd.prog 18 #[Rv.iv i, sv s] w fun e w' => e = .returned (.int .u32 (adr i s)) ∧ Bw w w' := by
  obtain ⟨op, rd, rs1, rs2, imm⟩ := i
  unfold Rv.iv
  dsimp only at hr ⊢
  have hI := Box.new w [.int .i64 op, .int .i64 rd, .int .i64 rs1, .int .i64 rs2, .int .i32 imm] 43
  obtain ⟨wi, hwi⟩ : ∃ wi, w.alloc (.cells #[.int .i64 op, .int .i64 rd, .int .i64 rs1, .int .i64 rs2, .int .i32 imm] 43) = wi := ⟨_, rfl⟩
  have hsi : wi.heap.size = w.heap.size + 1 := by rw [← hwi]; simp
  have hbi : Bw w wi := by rw [← hwi]; exact (Bw.refl w).alloc _
  rw [hwi] at hI
  have hB : SB (wi.alloc (.cells (cl s).toArray 32)) wi.heap.size s := SB.new wi s
  obtain ⟨wx, hwx⟩ : ∃ wx, wi.alloc (.cells (cl s).toArray 32) = wx := ⟨_, rfl⟩
  have hbx : Bw wi wx := by rw [← hwx]; exact (Bw.refl wi).alloc _
  rw [hwx] at hB
  rw [hsi] at hB
  have hI2 := hI.bw hbx
  have hx := rx_c s rs1 hr wx.drew
  have hb2 := (hbi.trans hbx)
  unfold sv arr at hx ⊢
  clear hI hbi hbx
  go_enter Tryd.func18, Tryd.ntmps18
  go_wp2_with fail
  refine wp_region_held_drew (S := fun Y => Box Y (w.heap.size + 1) (cl s) ∧ Y.cell? ⟨w.heap.size, 2, none⟩ = some (.int .i64 rs1) ∧ Y.cell? ⟨w.heap.size, 4, none⟩ = some (.int .i32 imm)) (by kernel_rfl) ⟨SB.bw hB (Bw.refl _).drew, (hI2.bw (Bw.refl _).drew).c 2 _ rfl, (hI2.bw (Bw.refl _).drew).c 4 _ rfl⟩ (fun hHeld => ?_)
  refine wpAnyH_take (i := 0) (oi := ⟨some 5, _, _, _, _, _⟩) (v := .agg (cl s).toArray) rfl (by kernel_rfl) (by kernel_rfl) (by kernel_rfl) (fun _ _ _ h => h) (yieldsIf_load_mid (by rfl) 32 _ rfl (w.heap.size + 1) 0 rfl _ _ (fun Y hY => Box.range hY.1) Tryd.underlying32 rfl (infoL _)) (by assumption) ?_
  simp only [Act.put, List.setIfInBounds_toArray, List.set_cons_zero, List.set_cons_succ]
  refine wpAnyH_take (i := 1) (oi := ⟨some 6, _, _, _, _, _⟩) (v := ?_) rfl (by kernel_rfl) (by kernel_rfl) (by kernel_rfl) (fun _ _ _ h => h) (Or.inl ⟨by rfl, ?_⟩) (by assumption) ?_; (rotate_left 1); (focus (intro wz hSw; (try dsimp only at hSw); go_simp; try (with_reducible rfl))); simp only [Act.put, List.setIfInBounds_toArray, List.set_cons_zero, List.set_cons_succ]
  refine wpAnyH_take (i := 2) (oi := ⟨some 7, _, _, _, _, _⟩) (v := ?_) rfl (by kernel_rfl) (by kernel_rfl) (by kernel_rfl) (fun _ _ _ h => h) (Or.inl ⟨by rfl, ?_⟩) (by assumption) ?_; (rotate_left 1); (focus (intro wz hSw; (try dsimp only at hSw); go_simp; try (with_reducible rfl))); simp only [Act.put, List.setIfInBounds_toArray, List.set_cons_zero, List.set_cons_succ]
  refine wpAnyH_take (i := 4) (oi := ⟨some 9, _, _, _, _, _⟩) (v := ?_) rfl (by kernel_rfl) (by kernel_rfl) (by kernel_rfl) (fun _ _ _ h => h) (Or.inl ⟨by rfl, ?_⟩) (by assumption) ?_; (rotate_left 1); (focus (intro wz hSw; (try dsimp only at hSw); go_simp; try (with_reducible rfl))); simp only [Act.put, List.setIfInBounds_toArray, List.set_cons_zero, List.set_cons_succ]
  refine wpAnyH_take (i := 5) (oi := ⟨some 10, _, _, _, _, _⟩) (v := ?_) rfl (by kernel_rfl) (by kernel_rfl) (by kernel_rfl) (fun _ _ _ h => h) (Or.inl ⟨by rfl, ?_⟩) (by assumption) ?_; (rotate_left 1); (focus (intro wz hSw; (try dsimp only at hSw); go_simp; try (with_reducible rfl))); simp only [Act.put, List.setIfInBounds_toArray, List.set_cons_zero, List.set_cons_succ]
  refine wpAnyH_take (i := 6) (oi := ⟨some 11, _, _, _, _, _⟩) (v := ?_) rfl (by kernel_rfl) (by kernel_rfl) (by kernel_rfl) (fun _ _ _ h => h) (Or.inl ⟨by rfl, ?_⟩) (by assumption) ?_; (rotate_left 1); (focus (intro wz hSw; (try dsimp only at hSw); go_simp; try (with_reducible rfl))); simp only [Act.put, List.setIfInBounds_toArray, List.set_cons_zero, List.set_cons_succ]
  refine wpAnyH_ready (rs := [3]) (by kernel_rfl) (by simp) ?_; refine AllReadyH.cons rfl (fun K hK => ?_) AllReadyH.nil; go_simp
  refine hx.mono ?_
  rintro e w3 ⟨rfl, g3⟩
  (try clear hHeld); refine hK.out _ _ ?_ (fun hHeld => ?_)
  · have g4 : Bw wx w3 := Bw.trans (Bw.refl wx).drew g3
    exact ⟨SB.bw hB g4, (hI2.bw g4).c 2 _ rfl, (hI2.bw g4).c 4 _ rfl⟩
  have hbz : Bw w w3 := hb2.trans (Bw.trans (Bw.refl wx).drew g3)
  refine wpAnyH_take (i := 7) (oi := ⟨some 12, _, _, _, _, _⟩) (v := ?_) rfl (by kernel_rfl) (by kernel_rfl) (by kernel_rfl) (fun _ _ _ h => h) (Or.inl ⟨by rfl, ?_⟩) (by assumption) ?_; (rotate_left 1); (focus (intro wz hSw; (try dsimp only at hSw); go_simp; try (with_reducible rfl))); simp only [Act.put, List.setIfInBounds_toArray, List.set_cons_zero, List.set_cons_succ]
  refine wpAnyH_take (i := 8) (oi := ⟨some 4, _, _, _, _, _⟩) (v := ?_) rfl (by kernel_rfl) (by kernel_rfl) (by kernel_rfl) (fun _ _ _ h => h) (Or.inl ⟨by rfl, ?_⟩) (by assumption) ?_; (rotate_left 1); (focus (intro wz hSw; (try dsimp only at hSw); go_simp; try (with_reducible rfl))); simp only [Act.put, List.setIfInBounds_toArray, List.set_cons_zero, List.set_cons_succ]
  refine wpAnyH_done (by kernel_rfl) ?_ _
  go_wp2_with fail
  go_returns
  exact ⟨congrArg (fun x => Ending.returned (Value.int .u32 x)) (by unfold adr; rw [IntKind.wrap_u32, IntKind.wrap_u32]; dsimp only; omega), hbz⟩
end Go.Proofs.YtbackacbdfgdoaaDoor
