/- LAYER 12's walks: Fetch; whole States read and written. · LAYER 12's walks: Step (by cpustep.py). -/
import Derived.Test.YtbackacbdfgdoaaDoorK8
import Derived.Test.YtbackacbdfgdoaaDoorK7
import Derived.Test.YtbackacbdfgdoaaDoorK3
import Derived.Test.YtbackacbdfgdoaaDoorK9
import Derived.Test.YtbackacbdfgdoaaDoorK11
namespace Go.Proofs.YtbackacbdfgdoaaDoor
open Go.ChangeShapes Go.WideShapes Go.ChangeAt Go.RowKit
open Cpu
set_option linter.unusedVariables false
set_option linter.unusedSimpArgs false

theorem Tabs.bw {w w' : World} (h : Tabs w) (g : Bw w w') : Tabs w' := by
  obtain ⟨h1, h2, h3, h4, h5, h6⟩ := h
  exact ⟨fun i hi => g.keep (h1 i hi), fun i hi => g.keep (h2 i hi), fun i hi => g.keep (h3 i hi), fun i hi => g.keep (h4 i hi), fun i hi => g.keep (h5 i hi), fun i hi => g.keep (h6 i hi)⟩

set_option maxRecDepth 100000 in
set_option maxHeartbeats 1000000 in
theorem Fetch_c {w0 w : World} {mb N : Nat} {S : MS} {P : Nat → Prop} (hH : HasB w0 w mb N S P) (ht : Tabs w) (pc : Int) (hpc : U4 pc) :
    Calls Tryd.prog 15 #[.pointer (some ⟨mb, 0, none⟩), .int .u32 pc] w fun e w' => e = .returned (.tuple #[Rv.iv (fetch S pc).1, Cpu.ev (fetch S pc).2]) ∧ Bw w w' := by
  have hL := fun X (g : Bw w X) => Load_b (hH.on g) pc 4 4 hpc
  have hv := MS.load_u4 hH.ok pc 4 4
  have hD := fun X (g : Bw w X) => Decode_c (S.load pc 4 4) hv.1 hv.2 X (ht.bw g)
  unfold fetch Rv.iv Cpu.ev
  unfold Rv.iv at hD
  generalize hf : S.ask pc 4 4 = f at *
  generalize S.load pc 4 4 = v at *
  clear hH ht hf
  obtain ⟨D, hDD⟩ : ∃ D, Rv.dec v = D := ⟨_, rfl⟩
  rw [hDD] at hD ⊢
  clear hDD
  obtain ⟨op, rd, rs1, rs2, imm⟩ := D
  dsimp only at hD ⊢
  have hI := Box.new w [.int .i64 0, .int .i64 0, .int .i64 0, .int .i64 0, .int .i32 0] 28
  obtain ⟨wi, hwi⟩ : ∃ wi, w.alloc (.cells [.int .i64 0, .int .i64 0, .int .i64 0, .int .i64 0, .int .i32 0].toArray 28) = wi := ⟨_, rfl⟩
  have hsi : wi.heap.size = w.heap.size + 1 := by rw [← hwi]; simp
  have hbi : Bw w wi := by rw [← hwi]; exact (Bw.refl w).alloc _
  rw [hwi] at hI
  have hE := Box.new wi [.int .i64 0, .int .u32 0, .int .i64 0] 35
  have hbx : Bw wi (wi.alloc (.cells [.int .i64 0, .int .u32 0, .int .i64 0].toArray 35)) := (Bw.refl wi).alloc _
  obtain ⟨wx, hwx⟩ : ∃ wx, wi.alloc (.cells [.int .i64 0, .int .u32 0, .int .i64 0].toArray 35) = wx := ⟨_, rfl⟩
  rw [hwx] at hE hbx
  replace hI := hI.bw hbx
  rw [hsi] at hE
  have hsx : w.heap.size + 2 ≤ wx.heap.size := by rw [← hwx]; simp; omega
  have hbw := hbi.trans hbx
  have hL := hL wx hbw
  have hD := hD wx hbw
  clear hbi hbx
  by_cases h0 : f = 0
  · subst h0
    rw [if_pos rfl]
    by_cases ho : op = 0
    · subst ho
      rw [if_pos rfl]
      go_enter Tryd.func15, Tryd.ntmps15
      go_wp2_with (first
        | (go_at_call 31; refine hL.mono ?_; rintro e w2 ⟨rfl, rfl⟩)
        | (go_at_call 32; refine hD.mono ?_; rintro e w3 ⟨rfl, hg⟩; have hg := hg.b)
        | (refine wpStoreBox rfl 28 _ _ rfl w.heap.size (l' := [.int .i64 0, .int .i64 0, .int .i64 0, .int .i64 0, .int .i32 0]) rfl rfl (hI.bw (Bw.alloc hg (.cells #[.int .i64 0, .int .i64 rd, .int .i64 rs1, .int .i64 rs2, .int .i32 imm] 28))) rfl (by kernel_rfl) one5 ?_; intro w4 hI4 hq4)
        | (refine wpStoreBox rfl 35 _ _ rfl (w.heap.size + 1) (l' := [.int .i64 2, .int .u32 pc, .int .i64 0]) rfl rfl ((hE.bw (Bw.alloc hg (.cells #[.int .i64 0, .int .i64 rd, .int .i64 rs1, .int .i64 rs2, .int .i32 imm] 28))).q hq4 (by omega)) rfl (by kernel_rfl) one3e ?_; intro w5 hE5 hq5))
      have hI5 := hI4.q hq5 (by omega)
      have hb5 : Bw w w5 := hq5.toBw (hq4.toBw ((hbw.trans (Bw.alloc hg (.cells #[.int .i64 0, .int .i64 rd, .int .i64 rs1, .int .i64 rs2, .int .i32 imm] 28)))) (Nat.le_refl _)) (by omega)
      (try simp only [Exit.inBlock, Exit.then])
      refine bodyPost_ret (results_two (fn := Tryd.f15) (p1 := 4) (p2 := 5) (t1 := 28) (t2 := 35) Tryd.results15 _ _ _ _ _ _ rfl rfl hI5 hE5 Tryd.underlying28 rfl (by kernel_rfl) Tryd.underlying35 rfl (by kernel_rfl)) rfl ?_
      exact ⟨rfl, hb5⟩
    · rw [if_neg ho]
      have ho' : (op == 0) = false := by simpa using ho
      go_enter Tryd.func15, Tryd.ntmps15
      go_wp2_with (first
        | (go_at_call 31; refine hL.mono ?_; rintro e w2 ⟨rfl, rfl⟩)
        | (go_at_call 32; refine hD.mono ?_; rintro e w3 ⟨rfl, hg⟩; have hg := hg.b)
        | (refine wpStoreBox rfl 28 _ _ rfl w.heap.size (l' := [.int .i64 op, .int .i64 rd, .int .i64 rs1, .int .i64 rs2, .int .i32 imm]) rfl rfl (hI.bw (Bw.alloc hg (.cells #[.int .i64 op, .int .i64 rd, .int .i64 rs1, .int .i64 rs2, .int .i32 imm] 28))) rfl (by kernel_rfl) one5 ?_; intro w4 hI4 hq4)
        | (refine wpStoreBox rfl 35 _ _ rfl (w.heap.size + 1) (l' := [.int .i64 0, .int .u32 0, .int .i64 0]) rfl rfl ((hE.bw (Bw.alloc hg (.cells #[.int .i64 op, .int .i64 rd, .int .i64 rs1, .int .i64 rs2, .int .i32 imm] 28))).q hq4 (by omega)) rfl (by kernel_rfl) one3e ?_; intro w5 hE5 hq5))
      have hI5 := hI4.q hq5 (by omega)
      have hb5 : Bw w w5 := hq5.toBw (hq4.toBw ((hbw.trans (Bw.alloc hg (.cells #[.int .i64 op, .int .i64 rd, .int .i64 rs1, .int .i64 rs2, .int .i32 imm] 28)))) (Nat.le_refl _)) (by omega)
      (try simp only [Exit.inBlock, Exit.then])
      refine bodyPost_ret (results_two (fn := Tryd.f15) (p1 := 4) (p2 := 5) (t1 := 28) (t2 := 35) Tryd.results15 _ _ _ _ _ _ rfl rfl hI5 hE5 Tryd.underlying28 rfl (by kernel_rfl) Tryd.underlying35 rfl (by kernel_rfl)) rfl ?_
      exact ⟨rfl, hb5⟩
  · rw [if_neg h0]
    have h0' : (f != 0) = true := by simpa using h0
    go_enter Tryd.func15, Tryd.ntmps15
    go_wp2_with (first
      | (go_at_call 31; refine hL.mono ?_; rintro e w2 ⟨rfl, rfl⟩)
      | (refine wpStoreBox rfl 28 _ _ rfl w.heap.size (l' := [.int .i64 0, .int .i64 0, .int .i64 0, .int .i64 0, .int .i32 0]) rfl rfl hI rfl (by kernel_rfl) one5 ?_; intro w4 hI4 hq4)
      | (refine wpStoreBox rfl 35 _ _ rfl (w.heap.size + 1) (l' := [.int .i64 1, .int .u32 pc, .int .i64 f]) rfl rfl (hE.q hq4 (by omega)) rfl (by kernel_rfl) one3e ?_; intro w5 hE5 hq5))
    have hI5 := hI4.q hq5 (by omega)
    have hb5 : Bw w w5 := hq5.toBw (hq4.toBw (hbw) (Nat.le_refl _)) (by omega)
    (try simp only [Exit.inBlock, Exit.then])
    refine bodyPost_ret (results_two (fn := Tryd.f15) (p1 := 4) (p2 := 5) (t1 := 28) (t2 := 35) Tryd.results15 _ _ _ _ _ _ rfl rfl hI5 hE5 Tryd.underlying28 rfl (by kernel_rfl) Tryd.underlying35 rfl (by kernel_rfl)) rfl ?_
    exact ⟨rfl, hb5⟩
end Go.Proofs.YtbackacbdfgdoaaDoor
namespace Go.Proofs.YtbackacbdfgdoaaDoor
open Go.ChangeShapes Go.WideShapes Go.ChangeAt Go.RowKit
open Cpu
set_option linter.unusedVariables false
set_option linter.unusedSimpArgs false

/-- All of package cpu's and rv's tables. -/
structure All12 (w : World) : Prop where
  t : Tabs w
  c : CTab w
  k : KTab w
theorem All12.bw {w w' : World} (h : All12 w) (g : Bw w w') : All12 w' := ⟨h.t.bw g, h.c.bw g, fun i hi => g.keep (h.k i hi)⟩
/-- Behind Fetch: the State that is worked on stands in a box of its own. -/
theorem step_mid {w0 w wC w1 w4 : World} {mb N : Nat} {S : MS} {P : Nat → Prop} {s : St} {op rd rs1 rs2 imm y z : Int} (hHy : HasB w0 wC mb N S (fun i => P i ∨ w.heap.size ≤ i)) (hS3 : SB wC w.heap.size s) (hS4 : SB wC (w.heap.size + 1) zst) (hb5 : Box wC (w.heap.size + 2) [.int .i64 0, .int .u32 0, .int .i64 0])
    (hb1 : Bw wC w1) (h4 : Box w4 (w1.heap.size + 1 + 1) (cl s)) (q4 : Bq (w1.heap.size + 1 + 1) (((w1.alloc (.cells #[.int .i64 op, .int .i64 rd, .int .i64 rs1, .int .i64 rs2, .int .i32 imm] 28)).alloc (.cells #[.int .i64 0, .int .u32 y, .int .i64 z] 35)).alloc (.cells #[.int .u32 0, .int .u32 0, .int .u32 0, .int .u32 0, .int .u32 0, .int .u32 0, .int .u32 0, .int .u32 0, .int .u32 0, .int .u32 0, .int .u32 0, .int .u32 0, .int .u32 0, .int .u32 0, .int .u32 0, .int .u32 0, .int .u32 0, .int .u32 0, .int .u32 0, .int .u32 0, .int .u32 0, .int .u32 0, .int .u32 0, .int .u32 0, .int .u32 0, .int .u32 0, .int .u32 0, .int .u32 0, .int .u32 0, .int .u32 0, .int .u32 0, .int .u32 0, .int .u32 0, .int .i64 0] 32)) w4) (hbw : Bw w wC) (hsC : wC.heap.size = w.heap.size + 3) (hw0 : w0.heap.size ≤ w.heap.size) :
    ¬ w.heap.size = w1.heap.size + 1 + 1 ∧ SB w4 (w1.heap.size + 1 + 1) s ∧ Box w4 w1.heap.size [.int .i64 op, .int .i64 rd, .int .i64 rs1, .int .i64 rs2, .int .i32 imm] ∧ w4.cell? ⟨w.heap.size, 32, none⟩ = some (.int .u32 s.pc) ∧ HasB w0 w4 mb N S (fun i => P i ∨ w.heap.size ≤ i) ∧ Kp P w w4 ∧
    SB w4 w.heap.size s ∧ SB w4 (w.heap.size + 1) zst ∧ Box w4 (w.heap.size + 2) [.int .i64 0, .int .u32 0, .int .i64 0] ∧
    w4.cell? ⟨w1.heap.size + 1 + 1, 0, none⟩ = some (.int .u32 (s.x 0)) ∧ w4.cell? ⟨w1.heap.size + 1 + 1, 32, none⟩ = some (.int .u32 s.pc) ∧ w4.cell? ⟨w1.heap.size + 1 + 1, 33, none⟩ = some (.int .i64 s.ret) ∧
    w4.frozen? ⟨w1.heap.size + 1 + 1, 0, none⟩ = false ∧ w4.frozen? ⟨w1.heap.size + 1 + 1, 32, none⟩ = false ∧ w4.frozen? ⟨w1.heap.size + 1 + 1, 33, none⟩ = false := by
  have hs1 : wC.heap.size ≤ w1.heap.size := Below.size hb1
  have g : Bw wC (((w1.alloc (.cells #[.int .i64 op, .int .i64 rd, .int .i64 rs1, .int .i64 rs2, .int .i32 imm] 28)).alloc (.cells #[.int .i64 0, .int .u32 y, .int .i64 z] 35)).alloc (.cells #[.int .u32 0, .int .u32 0, .int .u32 0, .int .u32 0, .int .u32 0, .int .u32 0, .int .u32 0, .int .u32 0, .int .u32 0, .int .u32 0, .int .u32 0, .int .u32 0, .int .u32 0, .int .u32 0, .int .u32 0, .int .u32 0, .int .u32 0, .int .u32 0, .int .u32 0, .int .u32 0, .int .u32 0, .int .u32 0, .int .u32 0, .int .u32 0, .int .u32 0, .int .u32 0, .int .u32 0, .int .u32 0, .int .u32 0, .int .u32 0, .int .u32 0, .int .u32 0, .int .u32 0, .int .i64 0] 32)) := Bw.alloc (Bw.alloc (Bw.alloc hb1 _) _) _
  have hI : Box (w1.alloc (.cells #[.int .i64 op, .int .i64 rd, .int .i64 rs1, .int .i64 rs2, .int .i32 imm] 28)) w1.heap.size [.int .i64 op, .int .i64 rd, .int .i64 rs1, .int .i64 rs2, .int .i32 imm] := Box.new w1 [.int .i64 op, .int .i64 rd, .int .i64 rs1, .int .i64 rs2, .int .i32 imm] 28
  have hS : SB w4 (w1.heap.size + 1 + 1) s := h4
  have h3 : SB w4 w.heap.size s := (hS3.bw g).blk (q4.block _ (by have := (hS3.bw g).lt; exact this) (by omega))
  refine ⟨by omega, hS, (hI.bw (Bw.alloc (Bw.alloc (Bw.refl _) _) _)).q q4 (by omega), h3.pc, (hHy.on g).q (Or.inr (by omega)) (by omega) q4, (Kp.bw (hbw.trans g)).q q4 (by omega), h3,
    (hS4.bw g).blk (q4.block _ (by have := (hS4.bw g).lt; exact this) (by omega)), (hb5.bw g).q q4 (by omega), hS.c (by omega), hS.pc, hS.ret, hS.f (by omega), hS.f (by omega), hS.f (by omega)⟩
theorem step_aft {w4 : World} {b : Nat} {s : St} (h : SB w4 b s) : SB (((w4.setCell ⟨b, 0, none⟩ (.int .u32 0)).setCell ⟨b, 32, none⟩ (.int .u32 ((s.pc + 4) % 4294967296))).setCell ⟨b, 33, none⟩ (.int .i64 (s.ret + 1))) b (aft s) := by
  have := ((h.put (r := 0) (by omega) 0).setPc ((s.pc + 4) % 4294967296)).setRet (s.ret + 1)
  rw [show aft s = ({ ({ (s.put 0 0) with pc := (s.pc + 4) % 4294967296 } : St) with ret := s.ret + 1 } : St) from rfl]
  exact this
/-- Behind do: the boxes that Step answers in. -/
theorem step_do {w w4 w6 : World} {P : Nat → Prop} {b : Nat} {s : St} {u v t : Value} (h3 : SB w4 w.heap.size s) (h4 : SB w4 (w.heap.size + 1) zst) (h5 : Box w4 (w.heap.size + 2) [.int .i64 0, .int .u32 0, .int .i64 0]) (hK : Kp P w w4)
    (hK6 : Kp (fun j => (P j ∨ w.heap.size ≤ j) ∧ j ≠ b) (((w4.setCell ⟨b, 0, none⟩ u).setCell ⟨b, 32, none⟩ v).setCell ⟨b, 33, none⟩ t) w6) (hb : w.heap.size + 3 ≤ b) :
    SB w6 w.heap.size s ∧ SB w6 (w.heap.size + 1) zst ∧ Box w6 (w.heap.size + 2) [.int .i64 0, .int .u32 0, .int .i64 0] ∧ Kp P w w6 := by
  have e : ∀ j, j < w4.heap.size → w.heap.size ≤ j → j ≠ b → w6.heap[j]? = w4.heap[j]? := fun j hj hw hn => by
    rw [hK6.2 j (by simpa using hj) ⟨Or.inr hw, hn⟩, Below.heap_setCell _ _ _ _ hn, Below.heap_setCell _ _ _ _ hn, Below.heap_setCell _ _ _ _ hn]
  have h5l : w.heap.size + 2 < w4.heap.size := h5.lt
  refine ⟨h3.blk (e _ h3.lt (Nat.le_refl _) (by omega)), h4.blk (e _ h4.lt (by omega) (by omega)), h5.blk (e _ h5l (by omega) (by omega)), ?_⟩
  have hk5 : Kp P w (((w4.setCell ⟨b, 0, none⟩ u).setCell ⟨b, 32, none⟩ v).setCell ⟨b, 33, none⟩ t) := ((hK.hi (by omega) 0 u).hi (by omega) 32 v).hi (by omega) 33 t
  exact ⟨Nat.le_trans hk5.1 hK6.1, fun i hi hp => (hK6.2 i (Nat.lt_of_lt_of_le hi hk5.1) ⟨Or.inl hp, by omega⟩).trans (hk5.2 i hi hp)⟩
set_option maxRecDepth 100000 in
set_option maxHeartbeats 4000000 in
theorem Step_c {w0 w : World} {mb N : Nat} {S : MS} {P : Nat → Prop} (hH : HasB w0 w mb N S P) (ha : All12 w0) (s : St) (hs : s.Ok) :
    Calls Tryd.prog 13 #[.pointer (some ⟨mb, 0, none⟩), sv s] w fun e w' => e = .returned (.tuple #[sv (Cpu.step S s).st, Cpu.ev (Cpu.step S s).ev]) ∧ HasB w0 w' mb N (Cpu.step S s).mem P ∧ Kp P w w' := by
  have hb3 := Box.new w (cl s) 32
  obtain ⟨wA, hwA⟩ : ∃ wA, w.alloc (.cells (cl s).toArray 32) = wA := ⟨_, rfl⟩
  have hsA : wA.heap.size = w.heap.size + 1 := by rw [← hwA]; simp
  have hbA : Bw w wA := by rw [← hwA]; exact (Bw.refl w).alloc _
  rw [hwA] at hb3
  have hb4 := Box.new wA (cl zst) 32
  obtain ⟨wB, hwB⟩ : ∃ wB, wA.alloc (.cells (cl zst).toArray 32) = wB := ⟨_, rfl⟩
  have hsB : wB.heap.size = w.heap.size + 2 := by rw [← hwB]; simp; omega
  have hbB : Bw wA wB := by rw [← hwB]; exact (Bw.refl wA).alloc _
  rw [hwB] at hb4
  have hb5 := Box.new wB [.int .i64 0, .int .u32 0, .int .i64 0] 35
  obtain ⟨wC, hwC⟩ : ∃ wC, wB.alloc (.cells [.int .i64 0, .int .u32 0, .int .i64 0].toArray 35) = wC := ⟨_, rfl⟩
  have hsC : wC.heap.size = w.heap.size + 3 := by rw [← hwC]; simp; omega
  have hbC : Bw wB wC := by rw [← hwC]; exact (Bw.refl wB).alloc _
  rw [hwC] at hb5
  rw [hsA] at hb4
  rw [hsB] at hb5
  have hwB' : wA.alloc (.cells #[.int .u32 0, .int .u32 0, .int .u32 0, .int .u32 0, .int .u32 0, .int .u32 0, .int .u32 0, .int .u32 0, .int .u32 0, .int .u32 0, .int .u32 0, .int .u32 0, .int .u32 0, .int .u32 0, .int .u32 0, .int .u32 0, .int .u32 0, .int .u32 0, .int .u32 0, .int .u32 0, .int .u32 0, .int .u32 0, .int .u32 0, .int .u32 0, .int .u32 0, .int .u32 0, .int .u32 0, .int .u32 0, .int .u32 0, .int .u32 0, .int .u32 0, .int .u32 0, .int .u32 0, .int .i64 0] 32) = wB := hwB
  have hS3 : SB wC w.heap.size s := SB.bw (SB.bw (show SB wA w.heap.size s from hb3) hbB) hbC
  have hS4 : SB wC (w.heap.size + 1) zst := SB.bw (show SB wB (w.heap.size + 1) zst from hb4) hbC
  have hbw := (hbA.trans hbB).trans hbC
  have hHy : HasB w0 wC mb N S (fun i => P i ∨ w.heap.size ≤ i) := (hH.more (Q := fun i => P i ∨ w.heap.size ≤ i) (fun i hi => hi)).on hbw
  have hw0 : w0.heap.size ≤ w.heap.size := hH.bw.size
  have hF := Fetch_c hHy (ha.t.bw hHy.bw) s.pc hs.pc
  have hDec := fun (h : (fetch S s.pc).2.kind = 0) => fetch_ok hH.ok h
  have hstep : ∀ R, Cpu.step S s = R → Cpu.step S s = R := fun _ h => h
  unfold sv Cpu.ev
  unfold Rv.iv Cpu.ev at hF
  unfold Cpu.step at hstep ⊢
  obtain ⟨I, E, hIE⟩ : ∃ I E, fetch S s.pc = (I, E) := ⟨_, _, rfl⟩
  rw [hIE] at hF hDec hstep ⊢
  obtain ⟨op, rd, rs1, rs2, imm⟩ := I
  obtain ⟨k, y, z⟩ := E
  dsimp only at hF hDec hstep ⊢
  have p3 := hS3.pc
  clear hH hIE hb3 hb4 hbA hbB hbC hstep hwB
  by_cases hk : k = 0
  · subst hk
    rw [if_pos rfl]
    obtain ⟨hI, hop1⟩ := hDec rfl
    obtain ⟨R, hR⟩ : ∃ R, run S ⟨op, rd, rs1, rs2, imm⟩ s = R := ⟨_, rfl⟩
    have hno := run_no S ⟨op, rd, rs1, rs2, imm⟩ s
    have hyes := run_ok S ⟨op, rd, rs1, rs2, imm⟩ s
    rw [hR] at hno hyes ⊢
    have hret := hs.ret
    have hwr : IntKind.i64.wrap (s.ret + 1) = s.ret + 1 := by rw [IntKind.wrap_i64]; omega
    by_cases hRk : R.ev.kind = 0
    · have hRE := hyes hRk
      rw [← show R.st = R.st from rfl]
      rw [hRE]
      clear hyes hno
      unfold arr
      go_enter Tryd.func13, Tryd.ntmps13
      go_wp2_with (first
      | (go_at_call 15; refine hF.mono ?_; rintro e w1 ⟨rfl, hb1⟩; have hs1 := Below.size hb1; have hX : Bw wC ((w1.alloc (.cells #[.int .i64 op, .int .i64 rd, .int .i64 rs1, .int .i64 rs2, .int .i32 imm] 28)).alloc (.cells #[.int .i64 0, .int .u32 y, .int .i64 z] 35)) := (Bw.alloc (Bw.alloc hb1 _) _); have h3X : Box ((w1.alloc (.cells #[.int .i64 op, .int .i64 rd, .int .i64 rs1, .int .i64 rs2, .int .i32 imm] 28)).alloc (.cells #[.int .i64 0, .int .u32 y, .int .i64 z] 35)) w.heap.size (cl s) := SB.bw hS3 hX; have hI6 : Box ((w1.alloc (.cells #[.int .i64 op, .int .i64 rd, .int .i64 rs1, .int .i64 rs2, .int .i32 imm] 28)).alloc (.cells #[.int .i64 0, .int .u32 y, .int .i64 z] 35)) w1.heap.size [.int .i64 op, .int .i64 rd, .int .i64 rs1, .int .i64 rs2, .int .i32 imm] := (Box.new w1 [.int .i64 op, .int .i64 rd, .int .i64 rs1, .int .i64 rs2, .int .i32 imm] 28).bw ((Bw.refl _).alloc _); have hZ := Box.new ((w1.alloc (.cells #[.int .i64 op, .int .i64 rd, .int .i64 rs1, .int .i64 rs2, .int .i32 imm] 28)).alloc (.cells #[.int .i64 0, .int .u32 y, .int .i64 z] 35)) (cl zst) 32; have hZ2 : (cl zst).toArray = #[.int .u32 0, .int .u32 0, .int .u32 0, .int .u32 0, .int .u32 0, .int .u32 0, .int .u32 0, .int .u32 0, .int .u32 0, .int .u32 0, .int .u32 0, .int .u32 0, .int .u32 0, .int .u32 0, .int .u32 0, .int .u32 0, .int .u32 0, .int .u32 0, .int .u32 0, .int .u32 0, .int .u32 0, .int .u32 0, .int .u32 0, .int .u32 0, .int .u32 0, .int .u32 0, .int .u32 0, .int .u32 0, .int .u32 0, .int .u32 0, .int .u32 0, .int .u32 0, .int .u32 0, .int .i64 0] := arr_zst; rw [hZ2] at hZ; simp only [World.size_alloc] at hZ)
      | (refine wpLoadBox rfl 32 _ rfl w.heap.size rfl h3X Tryd.underlying32 rfl (infoL s) ?_)
      | (refine wpStoreBox rfl 32 _ _ rfl (w1.heap.size + 1 + 1) (l' := cl s) rfl rfl hZ (by rw [cl_len, cl_len]) (infoL s) (cl_one s) ?_; intro w4 h4 q4; obtain ⟨hne3, h4S, hI4, c32, hH4, hK4, hS34, hS44, hE54, x0, xp, xr, y0, yp, yr⟩ := step_mid hHy hS3 hS4 hb5 hb1 h4 q4 hbw hsC hw0; have j0 := hI4.c 0 _ rfl; have j1 := hI4.c 1 _ rfl; have j2 := hI4.c 2 _ rfl; have j3 := hI4.c 3 _ rfl; have j4 := hI4.c 4 _ rfl; clear h3X hI6 hZ hZ2 hX)
      | (go_at_call 28; refine (do_c (w := (((w4.setCell ⟨w1.heap.size + 1 + 1, 0, none⟩ (.int .u32 0)).setCell ⟨w1.heap.size + 1 + 1, 32, none⟩ (.int .u32 ((s.pc + 4) % 4294967296))).setCell ⟨w1.heap.size + 1 + 1, 33, none⟩ (.int .i64 (s.ret + 1)))) (s := s) (P := fun i => P i ∨ w.heap.size ≤ i) (((hH4.set (Or.inr (by omega)) (by omega) 0 _).set (Or.inr (by omega)) (by omega) 32 _).set (Or.inr (by omega)) (by omega) 33 _) hs (step_aft h4S) (Or.inr (by omega)) (by omega) ha.c ha.k ⟨op, rd, rs1, rs2, imm⟩ hI hop1).mono ?_; rintro e w6 ⟨s2, rfl, hH6, hs6, hst, hK6⟩; rw [hR] at hH6 hst ⊢; replace hst := hst hRk; rw [hRE]; unfold Cpu.ev nx; dsimp only; have hz6 := hK6.1; simp only [World.size_setCell] at hz6; obtain ⟨hS36, hS46, hE56, hK66⟩ := step_do hS34 hS44 hE54 hK4 hK6 (by omega); have x06 := hs6.c (i := 0) (by omega); have y06 := hs6.f (i := 0) (by omega); have hl6 := hs6.lt; clear hE54 hK4 x0 xp xr y0 yp yr h4S hI4)
      | (refine wpLoadBox rfl 32 _ rfl (w1.heap.size + 1 + 1) (l := cl (s2.put 0 0)) rfl (by show SB _ _ (s2.put 0 0); (repeat' (first | (with_reducible assumption) | (with_reducible refine SB.put ?_ (by omega) _) | (with_reducible refine SB.al ?_ _) | (with_reducible refine SB.dr ?_) | (with_reducible refine SB.ne ?_ (by omega) _ _)))) Tryd.underlying32 rfl (infoL _) ?_)
      | (refine wpStoreBox rfl 32 _ _ rfl (w.heap.size + 1) (l := cl zst) (l' := cl R.st) rfl rfl (by show SB _ _ zst; (repeat' (first | (with_reducible assumption) | (with_reducible refine SB.put ?_ (by omega) _) | (with_reducible refine SB.al ?_ _) | (with_reducible refine SB.dr ?_) | (with_reducible refine SB.ne ?_ (by omega) _ _)))) (by rw [cl_len, cl_len]) (infoL _) (cl_one _) ?_; intro w7 h7 q7)
      | (refine wpStoreBox rfl 35 _ _ rfl (w.heap.size + 2) (l' := [.int .i64 0, .int .u32 0, .int .i64 0]) rfl rfl (((hE56.ne (by omega) 0 _).bw ((Bw.refl _).alloc _)).q q7 (by omega)) rfl (by kernel_rfl) one3e ?_; intro w8 h8 q8))
      have hz66 : w.heap.size + 3 ≤ w6.heap.size := by have : w.heap.size + 2 < w6.heap.size := hE56.lt; omega
      have h48 : Box w8 (w.heap.size + 1) (cl R.st) := Box.blk h7 (q8.block _ (by have := (show SB w7 (w.heap.size + 1) R.st from h7).lt; exact this) (by omega))
      (try simp only [Exit.inBlock, Exit.then])
      refine bodyPost_ret (results_two (fn := Tryd.f13) (p1 := 4) (p2 := 5) (t1 := 32) (t2 := 35) Tryd.results13 _ _ _ _ _ _ rfl rfl h48 h8 Tryd.underlying32 rfl (infoL _) Tryd.underlying35 rfl (by kernel_rfl)) rfl ?_
      exact ⟨rfl, ((((hH6.set (Or.inr (by omega)) (by omega) 0 _).on ((Bw.refl _).alloc _)).q (Or.inr (by omega)) (by omega) q7).q (Or.inr (by omega)) (by omega) q8).more (fun i hi => Or.inl (Or.inl hi)), ((((hK66.hi (by omega) 0 _).al _).q q7 (by omega)).q q8 (by omega))⟩
    · obtain ⟨hRs, -⟩ := hno hRk
      rw [hRs]
      obtain ⟨k, y2, z2, hRE⟩ : ∃ a b c, R.ev = ⟨a, b, c⟩ := ⟨_, _, _, rfl⟩
      rw [hRE] at hRk ⊢
      dsimp only at hRk ⊢
      have hk' : (k != 0) = true := by simpa using hRk
      clear hyes hno
      unfold arr
      go_enter Tryd.func13, Tryd.ntmps13
      go_wp2_with (first
      | (go_at_call 15; refine hF.mono ?_; rintro e w1 ⟨rfl, hb1⟩; have hs1 := Below.size hb1; have hX : Bw wC ((w1.alloc (.cells #[.int .i64 op, .int .i64 rd, .int .i64 rs1, .int .i64 rs2, .int .i32 imm] 28)).alloc (.cells #[.int .i64 0, .int .u32 y, .int .i64 z] 35)) := (Bw.alloc (Bw.alloc hb1 _) _); have h3X : Box ((w1.alloc (.cells #[.int .i64 op, .int .i64 rd, .int .i64 rs1, .int .i64 rs2, .int .i32 imm] 28)).alloc (.cells #[.int .i64 0, .int .u32 y, .int .i64 z] 35)) w.heap.size (cl s) := SB.bw hS3 hX; have hI6 : Box ((w1.alloc (.cells #[.int .i64 op, .int .i64 rd, .int .i64 rs1, .int .i64 rs2, .int .i32 imm] 28)).alloc (.cells #[.int .i64 0, .int .u32 y, .int .i64 z] 35)) w1.heap.size [.int .i64 op, .int .i64 rd, .int .i64 rs1, .int .i64 rs2, .int .i32 imm] := (Box.new w1 [.int .i64 op, .int .i64 rd, .int .i64 rs1, .int .i64 rs2, .int .i32 imm] 28).bw ((Bw.refl _).alloc _); have hZ := Box.new ((w1.alloc (.cells #[.int .i64 op, .int .i64 rd, .int .i64 rs1, .int .i64 rs2, .int .i32 imm] 28)).alloc (.cells #[.int .i64 0, .int .u32 y, .int .i64 z] 35)) (cl zst) 32; have hZ2 : (cl zst).toArray = #[.int .u32 0, .int .u32 0, .int .u32 0, .int .u32 0, .int .u32 0, .int .u32 0, .int .u32 0, .int .u32 0, .int .u32 0, .int .u32 0, .int .u32 0, .int .u32 0, .int .u32 0, .int .u32 0, .int .u32 0, .int .u32 0, .int .u32 0, .int .u32 0, .int .u32 0, .int .u32 0, .int .u32 0, .int .u32 0, .int .u32 0, .int .u32 0, .int .u32 0, .int .u32 0, .int .u32 0, .int .u32 0, .int .u32 0, .int .u32 0, .int .u32 0, .int .u32 0, .int .u32 0, .int .i64 0] := arr_zst; rw [hZ2] at hZ; simp only [World.size_alloc] at hZ)
      | (refine wpLoadBox rfl 32 _ rfl w.heap.size rfl h3X Tryd.underlying32 rfl (infoL s) ?_)
      | (refine wpStoreBox rfl 32 _ _ rfl (w1.heap.size + 1 + 1) (l' := cl s) rfl rfl hZ (by rw [cl_len, cl_len]) (infoL s) (cl_one s) ?_; intro w4 h4 q4; obtain ⟨hne3, h4S, hI4, c32, hH4, hK4, hS34, hS44, hE54, x0, xp, xr, y0, yp, yr⟩ := step_mid hHy hS3 hS4 hb5 hb1 h4 q4 hbw hsC hw0; have j0 := hI4.c 0 _ rfl; have j1 := hI4.c 1 _ rfl; have j2 := hI4.c 2 _ rfl; have j3 := hI4.c 3 _ rfl; have j4 := hI4.c 4 _ rfl; clear h3X hI6 hZ hZ2 hX)
      | (go_at_call 28; refine (do_c (w := (((w4.setCell ⟨w1.heap.size + 1 + 1, 0, none⟩ (.int .u32 0)).setCell ⟨w1.heap.size + 1 + 1, 32, none⟩ (.int .u32 ((s.pc + 4) % 4294967296))).setCell ⟨w1.heap.size + 1 + 1, 33, none⟩ (.int .i64 (s.ret + 1)))) (s := s) (P := fun i => P i ∨ w.heap.size ≤ i) (((hH4.set (Or.inr (by omega)) (by omega) 0 _).set (Or.inr (by omega)) (by omega) 32 _).set (Or.inr (by omega)) (by omega) 33 _) hs (step_aft h4S) (Or.inr (by omega)) (by omega) ha.c ha.k ⟨op, rd, rs1, rs2, imm⟩ hI hop1).mono ?_; rintro e w6 ⟨s2, rfl, hH6, hs6, hst, hK6⟩; rw [hR] at hH6 hst ⊢; rw [hRE]; unfold Cpu.ev; dsimp only; have hz6 := hK6.1; simp only [World.size_setCell] at hz6; obtain ⟨hS36, hS46, hE56, hK66⟩ := step_do hS34 hS44 hE54 hK4 hK6 (by omega); have x06 := hs6.c (i := 0) (by omega); have y06 := hs6.f (i := 0) (by omega); have hl6 := hs6.lt; clear hE54 hK4 x0 xp xr y0 yp yr h4S hI4))
      have hE7 := Box.new w6 [.int .i64 k, .int .u32 y2, .int .i64 z2] 35
      have hX : Bw w6 (w6.alloc (.cells [.int .i64 k, .int .u32 y2, .int .i64 z2].toArray 35)) := (Bw.refl w6).alloc _
      have hKX := hK66.al (.cells [.int .i64 k, .int .u32 y2, .int .i64 z2].toArray 35)
      obtain ⟨X, hXX⟩ : ∃ X, w6.alloc (.cells [.int .i64 k, .int .u32 y2, .int .i64 z2].toArray 35) = X := ⟨_, rfl⟩
      rw [hXX] at hE7 hX hKX ⊢
      clear hXX
      have hHX := hH6.on hX
      have hS3 := hS36.bw hX
      have hS4 := hS46.bw hX
      have hE5 := hE56.bw hX
      have hs4z : w4.heap.size ≤ w6.heap.size := by omega
      have hz66 : w.heap.size + 3 ≤ w6.heap.size := by have : w.heap.size + 2 < w6.heap.size := hE56.lt; omega
      clear hHy hF hb5 hX p3 hwA hwB' hwC hH6 hs6 hS36 hS46 hE56 hK66 hst hK6 hS34 hS44 hH4 h4 q4 j0 j1 j2 j3 j4 x06 y06 hI
      have z3 := hS3.lt
      have z4 := hS4.lt
      have z5 : w.heap.size + 2 < X.heap.size := hE5.lt
      have z7 : w6.heap.size < X.heap.size := hE7.lt
      have hHold : ∀ Y : World, Y.heap[w.heap.size]? = X.heap[w.heap.size]? → Y.heap[w6.heap.size]? = X.heap[w6.heap.size]? → (Y.rangeAt w.heap.size 0 (cl s) ∧ Y.cell? ⟨w6.heap.size, 0, none⟩ = some (.int .i64 k) ∧ Y.cell? ⟨w6.heap.size, 1, none⟩ = some (.int .u32 y2) ∧ Y.cell? ⟨w6.heap.size, 2, none⟩ = some (.int .i64 z2)) := fun Y g1 g2 =>
        ⟨Box.range (Box.blk (show Box X w.heap.size (cl s) from hS3) g1), (hE7.blk g2).c 0 _ rfl, (hE7.blk g2).c 1 _ rfl, (hE7.blk g2).c 2 _ rfl⟩
      refine wp_region_held_drew (S := fun X => (X.rangeAt w.heap.size 0 (cl s) ∧ X.cell? ⟨w6.heap.size, 0, none⟩ = some (.int .i64 k) ∧ X.cell? ⟨w6.heap.size, 1, none⟩ = some (.int .u32 y2) ∧ X.cell? ⟨w6.heap.size, 2, none⟩ = some (.int .i64 z2))) (by kernel_rfl) (hHold _ rfl rfl) (fun hHeld => ?_)
      refine wpAnyH_take (i := 0) (oi := ⟨some 41, _, _, _, _, _⟩) (v := sv _) rfl (by kernel_rfl) (by kernel_rfl) (by kernel_rfl) (fun _ _ _ h => h) (yieldsIf_load_mid (by rfl) 32 _ rfl _ 0 (by rfl) (cl _) _ (fun X hX => hX.1) Tryd.underlying32 rfl (infoL _)) (by assumption) ?_; simp only [Act.put, List.setIfInBounds_toArray, List.set_cons_zero, List.set_cons_succ]
      refine wpAnyH_take (i := 1) (oi := ⟨some 42, _, _, _, _, _⟩) (v := ?_) rfl (by kernel_rfl) (by kernel_rfl) (by kernel_rfl) (fun _ _ _ h => h) (Or.inl ⟨by rfl, ?_⟩) (by assumption) ?_; (rotate_left 1); (focus (intro wz hSw; (try dsimp only at hSw); go_simp; try (with_reducible rfl))); simp only [Act.put, List.setIfInBounds_toArray, List.set_cons_zero, List.set_cons_succ]
      refine wpAnyH_ready (rs := [2]) (by kernel_rfl) (by simp) ?_; refine AllReadyH.cons rfl (fun K hK => ?_) AllReadyH.nil
      refine stepStoreBox rfl 32 _ _ rfl (w.heap.size + 1) (l' := cl s) (by rfl) (by rfl) (show Box X.drew _ _ from hS4.dr) (by rw [cl_len, cl_len]) (infoL s) (cl_one s) ?_
      intro w4 h4 q4
      simp only [Act.put, List.setIfInBounds_toArray, List.set_cons_zero, List.set_cons_succ]
      (try clear hHeld)
      refine hK.out _ _ (hHold _ (q4.block _ (by simp; omega) (by omega)) (q4.block _ (by simp; omega) (by omega))) (fun hHeld => ?_)
      refine wpAnyH_ready (rs := [3]) (by kernel_rfl) (by simp) ?_; refine AllReadyH.cons rfl (fun K hK => ?_) AllReadyH.nil
      refine stepStoreBox rfl 35 _ _ rfl (w.heap.size + 2) (l' := [.int .i64 k, .int .u32 y2, .int .i64 z2]) (by rfl) (by rfl) ((hE5.bw (Bw.refl X).drew).q q4 (by omega)) rfl (by kernel_rfl) one3e ?_
      intro w5 h5 q5
      simp only [Act.put, List.setIfInBounds_toArray, List.set_cons_zero, List.set_cons_succ]
      (try clear hHeld)
      refine hK.out _ _ (hHold _ ((q5.block _ (by have := q4.b0.size; simp at this; omega) (by omega)).trans (q4.block _ (by simp; omega) (by omega))) ((q5.block _ (by have := q4.b0.size; simp at this; omega) (by omega)).trans (q4.block _ (by simp; omega) (by omega)))) (fun hHeld => ?_)
      refine wpAnyH_done (by kernel_rfl) ?_ _
      (try clear hHeld)
      go_wp2_with fail
      (try simp only [Exit.inBlock, Exit.then])
      refine bodyPost_ret (results_two (fn := Tryd.f13) (p1 := 4) (p2 := 5) (t1 := 32) (t2 := 35) Tryd.results13 _ _ _ _ _ _ rfl rfl (Box.blk h4 (q5.block _ (by have := q4.b0.size; simp at this; omega) (by omega))) h5 Tryd.underlying32 rfl (infoL _) Tryd.underlying35 rfl (by kernel_rfl)) rfl ?_
      exact ⟨rfl, ((((hHX.on (Bw.refl X).drew).q (Or.inr (by omega)) (by omega) q4).q (Or.inr (by omega)) (by omega) q5)).more (fun i hi => Or.inl (Or.inl hi)), ((hKX.dr.q q4 (by omega)).q q5 (by omega))⟩
  · rw [if_neg hk]
    dsimp only
    have hk' : (k != 0) = true := by simpa using hk
    unfold arr
    go_enter Tryd.func13, Tryd.ntmps13
    go_wp2_with (first | (go_at_call 15; refine hF.mono ?_; rintro e w1 ⟨rfl, hb1⟩))
    have hE7 := Box.new (w1.alloc (.cells #[.int .i64 op, .int .i64 rd, .int .i64 rs1, .int .i64 rs2, .int .i32 imm] 28)) [.int .i64 k, .int .u32 y, .int .i64 z] 35
    have hX : Bw wC ((w1.alloc (.cells #[.int .i64 op, .int .i64 rd, .int .i64 rs1, .int .i64 rs2, .int .i32 imm] 28)).alloc (.cells [.int .i64 k, .int .u32 y, .int .i64 z].toArray 35)) := (hb1.alloc _).alloc _
    obtain ⟨X, hXX⟩ : ∃ X, (w1.alloc (.cells #[.int .i64 op, .int .i64 rd, .int .i64 rs1, .int .i64 rs2, .int .i32 imm] 28)).alloc (.cells [.int .i64 k, .int .u32 y, .int .i64 z].toArray 35) = X := ⟨_, rfl⟩
    rw [hXX] at hE7 hX ⊢
    simp only [World.size_alloc] at hE7
    clear hXX
    have hs1 := Below.size hb1
    have hHX := hHy.on hX
    have hKX : Kp P w X := Kp.bw (hbw.trans hX)
    have hS3 := hS3.bw hX
    have hS4 := hS4.bw hX
    have hE5 := hb5.bw hX
    clear hHy hF hb1 hb5 hX p3 hwA hwB' hwC
    have z3 := hS3.lt
    have z4 := hS4.lt
    have z5 : w.heap.size + 2 < X.heap.size := hE5.lt
    have z7 : w1.heap.size + 1 < X.heap.size := hE7.lt
    have hHold : ∀ Y : World, Y.heap[w.heap.size]? = X.heap[w.heap.size]? → Y.heap[w1.heap.size + 1]? = X.heap[w1.heap.size + 1]? → (Y.rangeAt w.heap.size 0 (cl s) ∧ Y.cell? ⟨w1.heap.size + 1, 0, none⟩ = some (.int .i64 k) ∧ Y.cell? ⟨w1.heap.size + 1, 1, none⟩ = some (.int .u32 y) ∧ Y.cell? ⟨w1.heap.size + 1, 2, none⟩ = some (.int .i64 z)) := fun Y g1 g2 =>
      ⟨Box.range (Box.blk (show Box X w.heap.size (cl s) from hS3) g1), (hE7.blk g2).c 0 _ rfl, (hE7.blk g2).c 1 _ rfl, (hE7.blk g2).c 2 _ rfl⟩
    refine wp_region_held_drew (S := fun X => (X.rangeAt w.heap.size 0 (cl s) ∧ X.cell? ⟨w1.heap.size + 1, 0, none⟩ = some (.int .i64 k) ∧ X.cell? ⟨w1.heap.size + 1, 1, none⟩ = some (.int .u32 y) ∧ X.cell? ⟨w1.heap.size + 1, 2, none⟩ = some (.int .i64 z))) (by kernel_rfl) (hHold _ rfl rfl) (fun hHeld => ?_)
    refine wpAnyH_take (i := 0) (oi := ⟨some 20, _, _, _, _, _⟩) (v := sv _) rfl (by kernel_rfl) (by kernel_rfl) (by kernel_rfl) (fun _ _ _ h => h) (yieldsIf_load_mid (by rfl) 32 _ rfl _ 0 (by rfl) (cl _) _ (fun X hX => hX.1) Tryd.underlying32 rfl (infoL _)) (by assumption) ?_; simp only [Act.put, List.setIfInBounds_toArray, List.set_cons_zero, List.set_cons_succ]
    refine wpAnyH_take (i := 1) (oi := ⟨some 21, _, _, _, _, _⟩) (v := ?_) rfl (by kernel_rfl) (by kernel_rfl) (by kernel_rfl) (fun _ _ _ h => h) (Or.inl ⟨by rfl, ?_⟩) (by assumption) ?_; (rotate_left 1); (focus (intro wz hSw; (try dsimp only at hSw); go_simp; try (with_reducible rfl))); simp only [Act.put, List.setIfInBounds_toArray, List.set_cons_zero, List.set_cons_succ]
    refine wpAnyH_ready (rs := [2]) (by kernel_rfl) (by simp) ?_; refine AllReadyH.cons rfl (fun K hK => ?_) AllReadyH.nil
    refine stepStoreBox rfl 32 _ _ rfl (w.heap.size + 1) (l' := cl s) (by rfl) (by rfl) (show Box X.drew _ _ from hS4.dr) (by rw [cl_len, cl_len]) (infoL s) (cl_one s) ?_
    intro w4 h4 q4
    simp only [Act.put, List.setIfInBounds_toArray, List.set_cons_zero, List.set_cons_succ]
    (try clear hHeld)
    refine hK.out _ _ (hHold _ (q4.block _ (by simp; omega) (by omega)) (q4.block _ (by simp; omega) (by omega))) (fun hHeld => ?_)
    refine wpAnyH_ready (rs := [3]) (by kernel_rfl) (by simp) ?_; refine AllReadyH.cons rfl (fun K hK => ?_) AllReadyH.nil
    refine stepStoreBox rfl 35 _ _ rfl (w.heap.size + 2) (l' := [.int .i64 k, .int .u32 y, .int .i64 z]) (by rfl) (by rfl) ((hE5.bw (Bw.refl X).drew).q q4 (by omega)) rfl (by kernel_rfl) one3e ?_
    intro w5 h5 q5
    simp only [Act.put, List.setIfInBounds_toArray, List.set_cons_zero, List.set_cons_succ]
    (try clear hHeld)
    refine hK.out _ _ (hHold _ ((q5.block _ (by have := q4.b0.size; simp at this; omega) (by omega)).trans (q4.block _ (by simp; omega) (by omega))) ((q5.block _ (by have := q4.b0.size; simp at this; omega) (by omega)).trans (q4.block _ (by simp; omega) (by omega)))) (fun hHeld => ?_)
    refine wpAnyH_done (by kernel_rfl) ?_ _
    (try clear hHeld)
    go_wp2_with fail
    (try simp only [Exit.inBlock, Exit.then])
    refine bodyPost_ret (results_two (fn := Tryd.f13) (p1 := 4) (p2 := 5) (t1 := 32) (t2 := 35) Tryd.results13 _ _ _ _ _ _ rfl rfl (Box.blk h4 (q5.block _ (by have := q4.b0.size; simp at this; omega) (by omega))) h5 Tryd.underlying32 rfl (infoL _) Tryd.underlying35 rfl (by kernel_rfl)) rfl ?_
    exact ⟨rfl, ((((hHX.on (Bw.refl X).drew).q (Or.inr (by omega)) (by omega) q4).q (Or.inr (by omega)) (by omega) q5)).more (fun i hi => Or.inl (Or.inl hi)), ((hKX.dr.q q4 (by omega)).q q5 (by omega))⟩

end Go.Proofs.YtbackacbdfgdoaaDoor
