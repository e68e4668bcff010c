/- LAYER 12's walks: branch. · LAYER 12's walks: load. · LAYER 12's walks: store. -/
import Derived.Test.YtbackacbdfgdoaaDoorK8
import Derived.Test.YtbackacbdfgdoaaDoorK1
import Derived.Deep.CutBlock
namespace Go.Proofs.YtbackacbdfgdoaaDoor
open Go.ChangeShapes Go.WideShapes Go.ChangeAt Go.RowKit
open Cpu
set_option linter.unusedVariables false
set_option linter.unusedSimpArgs false

set_option maxRecDepth 100000 in
set_option maxHeartbeats 1000000 in
theorem branch_c {w : World} {b : Nat} {s : St} (h : SB w b s) (ht : CTab w) (hx : ∀ k, U4 (s.x k)) (op : Int) (hop : 5 ≤ op ∧ op ≤ 10) (rd rs1 rs2 : Nat) (h1 : rs1 < 32) (h2 : rs2 < 32) (imm pc : Int) :
    Calls Tryd.prog 61 #[Rv.iv ⟨op, rd, rs1, rs2, imm⟩, .int .u32 pc, .pointer (some ⟨b, 0, none⟩)] w fun e w' =>
      e = .returned (Cpu.ev (if Alu.tst (tk op) (s.x rs1) (s.x rs2) = true then jmpE ((pc + imm) % 4294967296) else nx)) ∧
      SB w' b (if Alu.tst (tk op) (s.x rs1) (s.x rs2) = true then jmpS s ((pc + imm) % 4294967296) else s) ∧ Bq b w w' := by
  unfold Rv.iv Cpu.ev
  have hl := h.lt
  have c1 := h.c h1
  have c2 := h.c h2
  have i1 : (rs1 : Int) < 32 := by omega
  have i2 : (rs2 : Int) < 32 := by omega
  have x1 := hx rs1
  have x2 := hx rs2
  have htab := ht.ts (op - 5).toNat (by omega)
  have hgl : 2 < w.heap.size := by
    apply Decidable.byContradiction
    intro hn
    have : w.heap[2]? = Option.none := by simp; omega
    simp [World.cell?, this] at htab
  obtain ⟨k, hk⟩ : ∃ k, tk op = k := ⟨_, rfl⟩
  rw [show ((tsN.getD (op - 5).toNat 0 : Nat) : Int) = k from hk] at htab
  rw [hk]
  obtain ⟨o0, o1⟩ := hop
  have q0 : 0 ≤ op - 5 := by omega
  have q1 : op - 5 < 6 := by omega
  have hT := fun X => Test_c k (s.x rs1) (s.x rs2) x1 x2 X
  have hto := U4.mod (pc + imm)
  generalize s.x rs1 = a1 at *
  generalize s.x rs2 = a2 at *
  generalize Alu.tst k a1 a2 = t at *
  clear hk ht x1 x2 hx
  cases t with
  | false =>
    rw [if_neg (by decide), if_neg (by decide)]
    go_enter Tryd.func61, Tryd.ntmps61
    go_wp2_with fail
    go_quiet (first | (go_at_call 85; refine Calls.quiet_of_same (hT _)))
    go_wp2_with fail
    go_returns
    exact ⟨rfl, by (repeat' (first | (with_reducible assumption) | (with_reducible refine SB.put ?_ (by assumption) _) | (with_reducible refine SB.setPc ?_ _) | (with_reducible refine SB.setRet ?_ _) | (with_reducible refine SB.al ?_ _) | (with_reducible refine SB.dr ?_) | (with_reducible refine SB.drN ?_ _) | (with_reducible refine SB.ne ?_ (by omega) _ _) | (with_reducible refine SB.bw ?_ (by assumption)))), by (repeat' (first | (with_reducible assumption) | (with_reducible exact Bq.refl _ _) | (with_reducible refine Bq.set ?_ _ _) | (with_reducible refine Bq.al ?_ _) | (with_reducible refine Bq.dr ?_) | (with_reducible refine Bq.drN ?_ _) | (with_reducible refine Bq.hi ?_ (by omega) _ _) | (with_reducible refine Bq.trans ?_ (by assumption)) | (with_reducible refine Bq.bw ?_ (by assumption))))⟩
  | true =>
    rw [if_pos rfl, if_pos rfl]
    generalize hE : jmpE ((pc + imm) % 4294967296) = E
    go_enter Tryd.func61, Tryd.ntmps61
    go_wp2_with fail
    go_quiet (first | (go_at_call 85; refine Calls.quiet_of_same (hT _)))
    go_wp2_with (go_at_call 84; refine (jump_c (s := s) ?hs ((pc + imm) % 4294967296) hto).mono ?_; (case hs => (repeat' (first | (with_reducible assumption) | (with_reducible refine SB.put ?_ (by assumption) _) | (with_reducible refine SB.setPc ?_ _) | (with_reducible refine SB.setRet ?_ _) | (with_reducible refine SB.al ?_ _) | (with_reducible refine SB.dr ?_) | (with_reducible refine SB.drN ?_ _) | (with_reducible refine SB.ne ?_ (by omega) _ _) | (with_reducible refine SB.bw ?_ (by assumption))))); rintro e w2 ⟨rfl, hs2, hq2⟩; rw [hE]; unfold Cpu.ev; (obtain ⟨ev0, ev1, ev2, eg0, eg1, eg2⟩ := evBn hq2 (by simp; omega); simp only [World.size_setCell, World.size_drew, World.size_alloc] at ev0 ev1 ev2 eg0 eg1 eg2))
    ((try simp only [Exit.inBlock, Exit.then]); obtain ⟨r0, r1, r2⟩ := evSet ev0 ev1 ev2; refine bodyPost_ret (by simp [results, Tryd.results61, go_sem, r0, r1, r2]; try rfl) rfl ?_)
    exact ⟨rfl, by (repeat' (first | (with_reducible assumption) | (with_reducible refine SB.put ?_ (by assumption) _) | (with_reducible refine SB.setPc ?_ _) | (with_reducible refine SB.setRet ?_ _) | (with_reducible refine SB.al ?_ _) | (with_reducible refine SB.dr ?_) | (with_reducible refine SB.drN ?_ _) | (with_reducible refine SB.ne ?_ (by omega) _ _) | (with_reducible refine SB.bw ?_ (by assumption)))), by (repeat' (first | (with_reducible assumption) | (with_reducible exact Bq.refl _ _) | (with_reducible refine Bq.set ?_ _ _) | (with_reducible refine Bq.al ?_ _) | (with_reducible refine Bq.dr ?_) | (with_reducible refine Bq.drN ?_ _) | (with_reducible refine Bq.hi ?_ (by omega) _ _) | (with_reducible refine Bq.trans ?_ (by assumption)) | (with_reducible refine Bq.bw ?_ (by assumption))))⟩
end Go.Proofs.YtbackacbdfgdoaaDoor
namespace Go.Proofs.YtbackacbdfgdoaaDoor
open Go.ChangeShapes Go.WideShapes Go.ChangeAt Go.RowKit
open Cpu
set_option linter.unusedVariables false
set_option linter.unusedSimpArgs false


set_option maxRecDepth 100000 in
set_option maxHeartbeats 1000000 in
theorem load_c {w0 w : World} {mb N : Nat} {S : MS} {P : Nat → Prop} (hH : HasB w0 w mb N S P) {b : Nat} {s : St} (h : SB w b s) (ht : CTab w) (hne : b ≠ 4) (op : Int) (hop : 11 ≤ op ∧ op ≤ 15) (rd rs1 rs2 : Nat) (hrd : rd < 32) (imm : Int) :
    Calls Tryd.prog 62 #[.pointer (some ⟨mb, 0, none⟩), Rv.iv ⟨op, rd, rs1, rs2, imm⟩, .pointer (some ⟨b, 0, none⟩)] w fun e w' =>
      e = .returned (Cpu.ev (if S.ask (adr ⟨op, rd, rs1, rs2, imm⟩ s) (lsz op) 1 = 0 then nx else ⟨3, adr ⟨op, rd, rs1, rs2, imm⟩ s, S.ask (adr ⟨op, rd, rs1, rs2, imm⟩ s) (lsz op) 1⟩)) ∧
      SB w' b (if S.ask (adr ⟨op, rd, rs1, rs2, imm⟩ s) (lsz op) 1 = 0 then s.put rd (Alu.ext (S.load (adr ⟨op, rd, rs1, rs2, imm⟩ s) (lsz op) 1) (lbt op)) else s) ∧ Bq b w w' := by
  have ha : U4 (adr ⟨op, rd, rs1, rs2, imm⟩ s) := adr_u4 _ _
  have hA := Address_c ⟨op, rd, rs1, rs2, imm⟩ s
  unfold Rv.iv Cpu.ev
  unfold Rv.iv at hA
  have hv := MS.load_u4 hH.ok (adr ⟨op, rd, rs1, rs2, imm⟩ s) (lsz op) 1
  generalize adr ⟨op, rd, rs1, rs2, imm⟩ s = A at *
  have hl := h.lt
  have hI := Box.new w [.int .i64 op, .int .i64 rd, .int .i64 rs1, .int .i64 rs2, .int .i32 imm] 28
  obtain ⟨wi, hwi⟩ : ∃ wi, w.alloc (.cells [.int .i64 op, .int .i64 rd, .int .i64 rs1, .int .i64 rs2, .int .i32 imm].toArray 28) = wi := ⟨_, rfl⟩
  have hsi : wi.heap.size = w.heap.size + 1 := by rw [← hwi]; simp
  have hbi : Bw w wi := by rw [← hwi]; exact (Bw.refl w).alloc _
  rw [hwi] at hI
  have hE := Box.new wi [.int .i64 0, .int .u32 0, .int .i64 0] 35
  have hS := h.bw hbi
  have hbx : Bw wi (wi.alloc (.cells [.int .i64 0, .int .u32 0, .int .i64 0].toArray 35)) := (Bw.refl wi).alloc _
  obtain ⟨wx, hwx⟩ : ∃ wx, wi.alloc (.cells [.int .i64 0, .int .u32 0, .int .i64 0].toArray 35) = wx := ⟨_, rfl⟩
  rw [hwx] at hE hbx
  replace hI := hI.bw hbx
  replace hS := hS.bw hbx
  rw [hsi] at hE
  have hHx := hH.on (hbi.trans hbx)
  have htx := ht.bw (hbi.trans hbx)
  have hq : Bq b w wx := (Bq.refl b w).bw (hbi.trans hbx)
  have hsx : w.heap.size + 2 ≤ wx.heap.size := by rw [← hwx]; simp; omega
  have hHold : ∀ X, Bw wx X → (X.rangeAt b 0 (cl s) ∧ X.cell? ⟨w.heap.size, 0, none⟩ = some (.int .i64 op) ∧ X.cell? ⟨w.heap.size, 1, none⟩ = some (.int .i64 rd) ∧ X.cell? ⟨w.heap.size, 2, none⟩ = some (.int .i64 rs1) ∧ X.cell? ⟨w.heap.size, 3, none⟩ = some (.int .i64 rs2) ∧ X.cell? ⟨w.heap.size, 4, none⟩ = some (.int .i32 imm)) := fun X g => ⟨(hS.bw g).range, (hI.bw g).c 0 _ rfl, (hI.bw g).c 1 _ rfl, (hI.bw g).c 2 _ rfl, (hI.bw g).c 3 _ rfl, (hI.bw g).c 4 _ rfl⟩
  have hL := fun X hb => Load_b (hHx.on hb : HasB w0 X mb N S P) A (lsz op) 1 ha
  have t0 := fun X hb => (CTab.bw (w' := X) htx hb).ls (op - 11).toNat (by omega)
  have t1 := fun X hb => (CTab.bw (w' := X) htx hb).lb (op - 11).toNat (by omega)
  rw [show ((lsN.getD (op - 11).toNat 0 : Nat) : Int) = lsz op from rfl] at t0
  rw [show ((lbN.getD (op - 11).toNat 0 : Nat) : Int) = lbt op from rfl] at t1
  generalize S.load A (lsz op) 1 = v at *
  generalize S.ask A (lsz op) 1 = f at *
  generalize lsz op = sz at *
  generalize lbt op = bt at *
  clear hbi h hH ht hHx htx
  go_enter Tryd.func62, Tryd.ntmps62
  go_upto_block 1 with fail
  clear hwi hwx hbx
  refine wp_region_held_drew (S := fun X => (X.rangeAt b 0 (cl s) ∧ X.cell? ⟨w.heap.size, 0, none⟩ = some (.int .i64 op) ∧ X.cell? ⟨w.heap.size, 1, none⟩ = some (.int .i64 rd) ∧ X.cell? ⟨w.heap.size, 2, none⟩ = some (.int .i64 rs1) ∧ X.cell? ⟨w.heap.size, 3, none⟩ = some (.int .i64 rs2) ∧ X.cell? ⟨w.heap.size, 4, none⟩ = some (.int .i32 imm))) (by kernel_rfl) (hHold _ (Bw.refl wx).drew) (fun hHeld => ?_)
  refine wpAnyH_take (i := 0) (oi := ⟨some 10, _, _, _, _, _⟩) (v := ?_) rfl (by kernel_rfl) (by kernel_rfl) (by kernel_rfl) (fun _ _ _ h => h) (Or.inl ⟨by rfl, ?_⟩) (by assumption) ?_; (rotate_left 1); (focus (intro wz hSw; (try dsimp only at hSw); go_simp; try (with_reducible rfl))); simp only [Act.put, List.setIfInBounds_toArray, List.set_cons_zero, List.set_cons_succ]
  refine wpAnyH_take (i := 1) (oi := ⟨some 11, _, _, _, _, _⟩) (v := ?_) rfl (by kernel_rfl) (by kernel_rfl) (by kernel_rfl) (fun _ _ _ h => h) (Or.inl ⟨by rfl, ?_⟩) (by assumption) ?_; (rotate_left 1); (focus (intro wz hSw; (try dsimp only at hSw); go_simp; try (with_reducible rfl))); simp only [Act.put, List.setIfInBounds_toArray, List.set_cons_zero, List.set_cons_succ]
  refine wpAnyH_take (i := 2) (oi := ⟨some 12, _, _, _, _, _⟩) (v := ?_) rfl (by kernel_rfl) (by kernel_rfl) (by kernel_rfl) (fun _ _ _ h => h) (Or.inl ⟨by rfl, ?_⟩) (by assumption) ?_; (rotate_left 1); (focus (intro wz hSw; (try dsimp only at hSw); go_simp; try (with_reducible rfl))); simp only [Act.put, List.setIfInBounds_toArray, List.set_cons_zero, List.set_cons_succ]
  refine wpAnyH_take (i := 3) (oi := ⟨some 13, _, _, _, _, _⟩) (v := sv _) rfl (by kernel_rfl) (by kernel_rfl) (by kernel_rfl) (fun _ _ _ h => h) (yieldsIf_load_mid (by rfl) 32 _ rfl _ 0 (by rfl) (cl _) _ (fun X hX => hX.1) Tryd.underlying32 rfl (infoL _)) (by assumption) ?_; simp only [Act.put, List.setIfInBounds_toArray, List.set_cons_zero, List.set_cons_succ]
  refine wpAnyH_ready (rs := [4]) (by kernel_rfl) (by simp) ?_; refine AllReadyH.cons rfl (fun K hK => ?_) AllReadyH.nil; go_simp
  refine (hA _).mono ?_
  rintro e w2 ⟨rfl, hb2⟩
  replace hb2 := ((Bw.refl wx).drew).trans hb2
  (try clear hHeld); refine hK.out _ _ ?_ (fun hHeld => ?_)
  · exact hHold _ hb2
  refine wpAnyH_take (i := 5) (oi := ⟨some 7, _, _, _, _, _⟩) (v := ?_) rfl (by kernel_rfl) (by kernel_rfl) (by kernel_rfl) (fun _ _ _ h => h) (Or.inl ⟨by rfl, ?_⟩) (by assumption) ?_; (rotate_left 1); (focus (intro wz hSw; (try dsimp only at hSw); go_simp; try (with_reducible rfl))); simp only [Act.put, List.setIfInBounds_toArray, List.set_cons_zero, List.set_cons_succ]
  refine wpAnyH_done (by kernel_rfl) ?_ _
  have hS2 := hS.bw hb2
  have i0 := (hI.bw hb2).c 0 _ rfl
  have i1 := (hI.bw hb2).c 1 _ rfl
  have e0 := (hE.bw hb2).c 0 _ rfl
  have e1 := (hE.bw hb2).c 1 _ rfl
  have e2 := (hE.bw hb2).c 2 _ rfl
  have g0 := (hE.bw hb2).f 0 (by simp)
  have g1 := (hE.bw hb2).f 1 (by simp)
  have g2 := (hE.bw hb2).f 2 (by simp)
  have hq2 := hq.bw hb2
  have hs2 := hb2.size
  have cd := hS2.c hrd
  have fd := hS2.f (i := rd) (by omega)
  have hrd' : (rd : Int) < 32 := by omega
  have hb4 : b ≠ 4 := hne
  replace hL := hL w2 hb2
  replace t0 := t0 w2 hb2
  replace t1 := t1 w2 hb2
  clear hHold hI hE hS hq hHeld hA hb2
  obtain ⟨o0, o1⟩ := hop
  have q0 : 0 ≤ op - 11 := by omega
  have q1 : op - 11 < 5 := by omega
  have hwr : IntKind.i64.wrap (op - 11) = op - 11 := by rw [IntKind.wrap_i64]; omega
  by_cases hf : f = 0
  · subst hf
    have hext := fun X => Extend_c v bt hv X
    go_wp2_with (first | (go_at_call 31; refine hL.mono ?_; rintro e w3 ⟨rfl, rfl⟩))
    have hK2 : ∀ X, Bw w3 X → (X.cell? ⟨w.heap.size, 0, none⟩ = some (.int .i64 op) ∧ X.cell? ⟨w.heap.size, 1, none⟩ = some (.int .i64 rd) ∧ X.cell? ⟨4, (op - 11).toNat, none⟩ = some (.int .i64 bt)) := fun X g => ⟨g.keep i0, g.keep i1, g.keep t1⟩
    have hK3 : ∀ v, ((w3.drew.setCell ⟨b, rd, none⟩ v).cell? ⟨w.heap.size, 0, none⟩ = some (.int .i64 op) ∧ (w3.drew.setCell ⟨b, rd, none⟩ v).cell? ⟨w.heap.size, 1, none⟩ = some (.int .i64 rd) ∧ (w3.drew.setCell ⟨b, rd, none⟩ v).cell? ⟨4, (op - 11).toNat, none⟩ = some (.int .i64 bt)) := fun v =>
      ⟨(World.cell?_setCell_other _ _ _ _ (fun e => by have := congrArg Addr.block e; simp at this; omega)).trans i0, (World.cell?_setCell_other _ _ _ _ (fun e => by have := congrArg Addr.block e; simp at this; omega)).trans i1, (World.cell?_setCell_other _ _ _ _ (fun e => by have := congrArg Addr.block e; simp at this; omega)).trans t1⟩
    refine wp_region_held_drew (S := fun X => (X.cell? ⟨w.heap.size, 0, none⟩ = some (.int .i64 op) ∧ X.cell? ⟨w.heap.size, 1, none⟩ = some (.int .i64 rd) ∧ X.cell? ⟨4, (op - 11).toNat, none⟩ = some (.int .i64 bt))) (by kernel_rfl) (hK2 _ (Bw.refl w3).drew) (fun hHeld => ?_)
    refine wpAnyH_take (i := 0) (oi := ⟨some 31, _, _, _, _, _⟩) (v := ?_) rfl (by kernel_rfl) (by kernel_rfl) (by kernel_rfl) (fun _ _ _ h => h) (Or.inl ⟨by rfl, ?_⟩) (by assumption) ?_; (rotate_left 1); (focus (intro wz hSw; (try dsimp only at hSw); go_simp; try (with_reducible rfl))); simp only [Act.put, List.setIfInBounds_toArray, List.set_cons_zero, List.set_cons_succ]
    refine wpAnyH_take (i := 1) (oi := ⟨some 32, _, _, _, _, _⟩) (v := ?_) rfl (by kernel_rfl) (by kernel_rfl) (by kernel_rfl) (fun _ _ _ h => h) (Or.inl ⟨by rfl, ?_⟩) (by assumption) ?_; (rotate_left 1); (focus (intro wz hSw; (try dsimp only at hSw); go_simp; try (with_reducible rfl))); simp only [Act.put, List.setIfInBounds_toArray, List.set_cons_zero, List.set_cons_succ]
    refine wpAnyH_take (i := 2) (oi := ⟨some 33, _, _, _, _, _⟩) (v := ?_) rfl (by kernel_rfl) (by kernel_rfl) (by kernel_rfl) (fun _ _ _ h => h) (Or.inl ⟨by rfl, ?_⟩) (by assumption) ?_; (rotate_left 1); (focus (intro wz hSw; (try dsimp only at hSw); go_simp; try (with_reducible rfl))); simp only [Act.put, List.setIfInBounds_toArray, List.set_cons_zero, List.set_cons_succ]
    refine wpAnyH_take (i := 3) (oi := ⟨some 34, _, _, _, _, _⟩) (v := ?_) rfl (by kernel_rfl) (by kernel_rfl) (by kernel_rfl) (fun _ _ _ h => h) (Or.inl ⟨by rfl, ?_⟩) (by assumption) ?_; (rotate_left 1); (focus (intro wz hSw; (try dsimp only at hSw); go_simp; try (with_reducible rfl))); simp only [Act.put, List.setIfInBounds_toArray, List.set_cons_zero, List.set_cons_succ]
    refine wpAnyH_take (i := 4) (oi := ⟨some 35, _, _, _, _, _⟩) (v := ?_) rfl (by kernel_rfl) (by kernel_rfl) (by kernel_rfl) (fun _ _ _ h => h) (Or.inl ⟨by rfl, ?_⟩) (by assumption) ?_; (rotate_left 1); (focus (intro wz hSw; (try dsimp only at hSw); go_simp; try (with_reducible rfl))); simp only [Act.put, List.setIfInBounds_toArray, List.set_cons_zero, List.set_cons_succ]
    refine wpAnyH_take (i := 5) (oi := ⟨some 36, _, _, _, _, _⟩) (v := ?_) rfl (by kernel_rfl) (by kernel_rfl) (by kernel_rfl) (fun _ _ _ h => h) (Or.inl ⟨by rfl, ?_⟩) (by assumption) ?_; (rotate_left 1); (focus (intro wz hSw; (try dsimp only at hSw); go_simp; try (with_reducible rfl))); simp only [Act.put, List.setIfInBounds_toArray, List.set_cons_zero, List.set_cons_succ]
    refine wpAnyH_take (i := 6) (oi := ⟨some 37, _, _, _, _, _⟩) (v := ?_) rfl (by kernel_rfl) (by kernel_rfl) (by kernel_rfl) (fun _ _ _ h => h) (Or.inl ⟨by rfl, ?_⟩) (by assumption) ?_; (rotate_left 1); (focus (intro wz hSw; (try dsimp only at hSw); go_simp; try (with_reducible rfl))); simp only [Act.put, List.setIfInBounds_toArray, List.set_cons_zero, List.set_cons_succ]
    refine wpAnyH_take (i := 7) (oi := ⟨some 38, _, _, _, _, _⟩) (v := ?_) rfl (by kernel_rfl) (by kernel_rfl) (by kernel_rfl) (fun _ _ _ h => h) (Or.inl ⟨by rfl, ?_⟩) (by assumption) ?_; (rotate_left 1); (focus (intro wz hSw; (try dsimp only at hSw); go_simp; try (with_reducible rfl))); simp only [Act.put, List.setIfInBounds_toArray, List.set_cons_zero, List.set_cons_succ]
    refine wpAnyH_take (i := 8) (oi := ⟨some 39, _, _, _, _, _⟩) (v := ?_) rfl (by kernel_rfl) (by kernel_rfl) (by kernel_rfl) (fun _ _ _ h => h) (Or.inl ⟨by rfl, ?_⟩) (by assumption) ?_; (rotate_left 1); (focus (intro wz hSw; (try dsimp only at hSw); go_simp; try (with_reducible rfl))); simp only [Act.put, List.setIfInBounds_toArray, List.set_cons_zero, List.set_cons_succ]
    refine wpAnyH_take (i := 10) (oi := ⟨some 41, _, _, _, _, _⟩) (v := ?_) rfl (by kernel_rfl) (by kernel_rfl) (by kernel_rfl) (fun _ _ _ h => h) (Or.inl ⟨by rfl, ?_⟩) (by assumption) ?_; (rotate_left 1); (focus (intro wz hSw; (try dsimp only at hSw); go_simp; try (with_reducible rfl))); simp only [Act.put, List.setIfInBounds_toArray, List.set_cons_zero, List.set_cons_succ]
    refine wpAnyH_take (i := 11) (oi := ⟨some 42, _, _, _, _, _⟩) (v := ?_) rfl (by kernel_rfl) (by kernel_rfl) (by kernel_rfl) (fun _ _ _ h => h) (Or.inl ⟨by rfl, ?_⟩) (by assumption) ?_; (rotate_left 1); (focus (intro wz hSw; (try dsimp only at hSw); go_simp; try (with_reducible rfl))); simp only [Act.put, List.setIfInBounds_toArray, List.set_cons_zero, List.set_cons_succ]
    refine wpAnyH_ready (rs := [9]) (by kernel_rfl) (by simp) ?_; refine AllReadyH.cons rfl (fun K hK => ?_) AllReadyH.nil; go_simp
    refine (hext _).mono ?_
    rintro e w4 ⟨rfl, rfl⟩
    (try clear hHeld); refine hK.out _ _ ?_ (fun hHeld => ?_)
    · exact hK2 _ (Bw.refl w3).drew
    refine wpAnyH_take (i := 12) (oi := ⟨some 43, _, _, _, _, _⟩) (v := ?_) rfl (by kernel_rfl) (by kernel_rfl) (by kernel_rfl) (fun _ _ _ h => h) (Or.inl ⟨by rfl, ?_⟩) (by assumption) ?_; (rotate_left 1); (focus (intro wz hSw; (try dsimp only at hSw); go_simp; try (with_reducible rfl))); simp only [Act.put, List.setIfInBounds_toArray, List.set_cons_zero, List.set_cons_succ]
    refine wpAnyH_ready (rs := [13]) (by kernel_rfl) (by simp) ?_; refine AllReadyH.cons rfl (fun K hK => ?_) AllReadyH.nil; go_simp
    (try clear hHeld); refine hK.out _ _ ?_ (fun hHeld => ?_)
    · exact hK3 _
    refine wpAnyH_done (by kernel_rfl) ?_ _
    clear hHeld hK2 hK3 t0 t1 hL hext
    have hS4 := hS2.put hrd (Alu.ext v bt)
    have hq4 := hq2.set rd (.int .u32 (Alu.ext v bt))
    have hne2 : w.heap.size + 1 ≠ b := by omega
    have e0 := (World.cell?_setCell_other w3 ⟨b, rd, none⟩ ⟨w.heap.size + 1, 0, none⟩ (.int .u32 (Alu.ext v bt)) (fun e => hne2 (congrArg Addr.block e).symm)).trans e0
    have e1 := (World.cell?_setCell_other w3 ⟨b, rd, none⟩ ⟨w.heap.size + 1, 1, none⟩ (.int .u32 (Alu.ext v bt)) (fun e => hne2 (congrArg Addr.block e).symm)).trans e1
    have e2 := (World.cell?_setCell_other w3 ⟨b, rd, none⟩ ⟨w.heap.size + 1, 2, none⟩ (.int .u32 (Alu.ext v bt)) (fun e => hne2 (congrArg Addr.block e).symm)).trans e2
    have g0 : (w3.setCell ⟨b, rd, none⟩ (.int .u32 (Alu.ext v bt))).frozen? ⟨w.heap.size + 1, 0, none⟩ = false := by rw [World.frozen?_setCell]; exact g0
    have g1 : (w3.setCell ⟨b, rd, none⟩ (.int .u32 (Alu.ext v bt))).frozen? ⟨w.heap.size + 1, 1, none⟩ = false := by rw [World.frozen?_setCell]; exact g1
    have g2 : (w3.setCell ⟨b, rd, none⟩ (.int .u32 (Alu.ext v bt))).frozen? ⟨w.heap.size + 1, 2, none⟩ = false := by rw [World.frozen?_setCell]; exact g2
    go_wp2_with fail
    ((try simp only [Exit.inBlock, Exit.then]); obtain ⟨r0, r1, r2⟩ := evSet e0 e1 e2; refine bodyPost_ret (by simp [results, Tryd.results62, go_sem, r0, r1, r2]; try rfl) rfl ?_)
    exact ⟨rfl, by (try rw [if_pos rfl]); (repeat' (first | (with_reducible assumption) | (with_reducible refine SB.put ?_ (by assumption) _) | (with_reducible refine SB.setPc ?_ _) | (with_reducible refine SB.setRet ?_ _) | (with_reducible refine SB.al ?_ _) | (with_reducible refine SB.dr ?_) | (with_reducible refine SB.drN ?_ _) | (with_reducible refine SB.ne ?_ (by omega) _ _) | (with_reducible refine SB.bw ?_ (by assumption)))), by (repeat' (first | (with_reducible assumption) | (with_reducible exact Bq.refl _ _) | (with_reducible refine Bq.set ?_ _ _) | (with_reducible refine Bq.al ?_ _) | (with_reducible refine Bq.dr ?_) | (with_reducible refine Bq.drN ?_ _) | (with_reducible refine Bq.hi ?_ (by omega) _ _) | (with_reducible refine Bq.trans ?_ (by assumption)) | (with_reducible refine Bq.bw ?_ (by assumption))))⟩
  · have hf' : (f != 0) = true := by simpa using hf
    go_wp2_with (first | (go_at_call 31; refine hL.mono ?_; rintro e w3 ⟨rfl, rfl⟩))
    ((try simp only [Exit.inBlock, Exit.then]); obtain ⟨r0, r1, r2⟩ := evSet e0 e1 e2; refine bodyPost_ret (by simp [results, Tryd.results62, go_sem, r0, r1, r2]; try rfl) rfl ?_)
    exact ⟨by first | rfl | rw [if_neg hf], by (try rw [if_neg hf]); (repeat' (first | (with_reducible assumption) | (with_reducible refine SB.put ?_ (by assumption) _) | (with_reducible refine SB.setPc ?_ _) | (with_reducible refine SB.setRet ?_ _) | (with_reducible refine SB.al ?_ _) | (with_reducible refine SB.dr ?_) | (with_reducible refine SB.drN ?_ _) | (with_reducible refine SB.ne ?_ (by omega) _ _) | (with_reducible refine SB.bw ?_ (by assumption)))), by (repeat' (first | (with_reducible assumption) | (with_reducible exact Bq.refl _ _) | (with_reducible refine Bq.set ?_ _ _) | (with_reducible refine Bq.al ?_ _) | (with_reducible refine Bq.dr ?_) | (with_reducible refine Bq.drN ?_ _) | (with_reducible refine Bq.hi ?_ (by omega) _ _) | (with_reducible refine Bq.trans ?_ (by assumption)) | (with_reducible refine Bq.bw ?_ (by assumption))))⟩
end Go.Proofs.YtbackacbdfgdoaaDoor
namespace Go.Proofs.YtbackacbdfgdoaaDoor
open Go.ChangeShapes Go.WideShapes Go.ChangeAt Go.RowKit
open Cpu
set_option linter.unusedVariables false
set_option linter.unusedSimpArgs false

set_option maxRecDepth 100000 in
set_option maxHeartbeats 1000000 in
theorem store_c {w0 w : World} {mb N : Nat} {S : MS} {P : Nat → Prop} (hH : HasB w0 w mb N S P) {b : Nat} {s : St} (h : SB w b s) (hPb : P b) (ht : CTab w0) (hx : ∀ k, U4 (s.x k)) (op : Int) (hop : 16 ≤ op ∧ op ≤ 18) (rd rs1 rs2 : Nat) (h2 : rs2 < 32) (imm : Int) :
    Calls Tryd.prog 63 #[.pointer (some ⟨mb, 0, none⟩), Rv.iv ⟨op, rd, rs1, rs2, imm⟩, .pointer (some ⟨b, 0, none⟩)] w fun e w' =>
      e = .returned (Cpu.ev (if S.ask (adr ⟨op, rd, rs1, rs2, imm⟩ s) (ssz op) 2 = 0 then nx else ⟨4, adr ⟨op, rd, rs1, rs2, imm⟩ s, S.ask (adr ⟨op, rd, rs1, rs2, imm⟩ s) (ssz op) 2⟩)) ∧
      HasB w0 w' mb N (S.store (adr ⟨op, rd, rs1, rs2, imm⟩ s) (ssz op) (s.x rs2)) P ∧ SB w' b s ∧ Kp P w w' := by
  have ha : U4 (adr ⟨op, rd, rs1, rs2, imm⟩ s) := adr_u4 _ _
  have hA := Address_c ⟨op, rd, rs1, rs2, imm⟩ s
  unfold Rv.iv Cpu.ev
  unfold Rv.iv at hA
  generalize adr ⟨op, rd, rs1, rs2, imm⟩ s = A at *
  have hl := h.lt
  have hI := Box.new w [.int .i64 op, .int .i64 rd, .int .i64 rs1, .int .i64 rs2, .int .i32 imm] 28
  obtain ⟨wi, hwi⟩ : ∃ wi, w.alloc (.cells [.int .i64 op, .int .i64 rd, .int .i64 rs1, .int .i64 rs2, .int .i32 imm].toArray 28) = wi := ⟨_, rfl⟩
  have hsi : wi.heap.size = w.heap.size + 1 := by rw [← hwi]; simp
  have hbi : Bw w wi := by rw [← hwi]; exact (Bw.refl w).alloc _
  rw [hwi] at hI
  have hE := Box.new wi [.int .i64 0, .int .u32 0, .int .i64 0] 35
  have hS := h.bw hbi
  have hbx : Bw wi (wi.alloc (.cells [.int .i64 0, .int .u32 0, .int .i64 0].toArray 35)) := (Bw.refl wi).alloc _
  obtain ⟨wx, hwx⟩ : ∃ wx, wi.alloc (.cells [.int .i64 0, .int .u32 0, .int .i64 0].toArray 35) = wx := ⟨_, rfl⟩
  rw [hwx] at hE hbx
  replace hI := hI.bw hbx
  replace hS := hS.bw hbx
  rw [hsi] at hE
  have hsx : w.heap.size + 2 ≤ wx.heap.size := by rw [← hwx]; simp; omega
  have hbwx := hbi.trans hbx
  -- what may not be the memory's: P and all that is new
  have hHx : HasB w0 wx mb N S (fun i => P i ∨ w.heap.size ≤ i) := (hH.more (Q := fun i => P i ∨ w.heap.size ≤ i) (fun i hi => hi)).on hbwx
  have hw0 : w0.heap.size ≤ w.heap.size := hH.bw.size
  have hbw := hH.bw.trans hbwx
  have hg := ht.bw hH.bw
  have t0 := (ht.bw (hH.bw.trans hbwx)).ss (op - 16).toNat (by omega)
  have hgl : 5 < w0.heap.size := by
    apply Decidable.byContradiction
    intro hn
    have : w0.heap[5]? = Option.none := by simp; omega
    have h0 := ht.ss 0 (by omega)
    simp [World.cell?, this] at h0
  rw [show ((ssN.getD (op - 16).toNat 0 : Nat) : Int) = ssz op from rfl] at t0
  have hx2 := hx rs2
  have hSt := fun X hb => Store_b (hHx.on hb : HasB w0 X mb N S _) A (ssz op) (s.x rs2) ha hx2
  generalize S.store A (ssz op) (s.x rs2) = S' at *
  generalize S.ask A (ssz op) 2 = f at *
  generalize ssz op = sz at *
  obtain ⟨o0, o1⟩ := hop
  have q0 : 0 ≤ op - 16 := by omega
  have q1 : op - 16 < 3 := by omega
  have hwr : IntKind.i64.wrap (op - 16) = op - 16 := by rw [IntKind.wrap_i64]; omega
  have hr2 : (rs2 : Int) < 32 := by omega
  have hHold : ∀ X, Bw wx X → (X.rangeAt b 0 (cl s) ∧ X.cell? ⟨w.heap.size, 0, none⟩ = some (.int .i64 op) ∧ X.cell? ⟨w.heap.size, 3, none⟩ = some (.int .i64 rs2) ∧ X.cell? ⟨w.heap.size, 1, none⟩ = some (.int .i64 rd) ∧ X.cell? ⟨w.heap.size, 2, none⟩ = some (.int .i64 rs1) ∧ X.cell? ⟨w.heap.size, 4, none⟩ = some (.int .i32 imm)) := fun X g => ⟨(hS.bw g).range, (hI.bw g).c 0 _ rfl, (hI.bw g).c 3 _ rfl, (hI.bw g).c 1 _ rfl, (hI.bw g).c 2 _ rfl, (hI.bw g).c 4 _ rfl⟩
  clear hbi h hH ht hHx hg hx
  go_enter Tryd.func63, Tryd.ntmps63
  go_upto_block 1 with fail
  clear hwi hwx hbx
  refine wp_region_held_drew (S := fun X => (X.rangeAt b 0 (cl s) ∧ X.cell? ⟨w.heap.size, 0, none⟩ = some (.int .i64 op) ∧ X.cell? ⟨w.heap.size, 3, none⟩ = some (.int .i64 rs2) ∧ X.cell? ⟨w.heap.size, 1, none⟩ = some (.int .i64 rd) ∧ X.cell? ⟨w.heap.size, 2, none⟩ = some (.int .i64 rs1) ∧ X.cell? ⟨w.heap.size, 4, none⟩ = some (.int .i32 imm))) (by kernel_rfl) (hHold _ (Bw.refl wx).drew) (fun hHeld => ?_)
  refine wpAnyH_take (i := 0) (oi := ⟨some 9, _, _, _, _, _⟩) (v := ?_) rfl (by kernel_rfl) (by kernel_rfl) (by kernel_rfl) (fun _ _ _ h => h) (Or.inl ⟨by rfl, ?_⟩) (by assumption) ?_; (rotate_left 1); (focus (intro wz hSw; (try dsimp only at hSw); go_simp; try (with_reducible rfl))); simp only [Act.put, List.setIfInBounds_toArray, List.set_cons_zero, List.set_cons_succ]
  refine wpAnyH_take (i := 1) (oi := ⟨some 10, _, _, _, _, _⟩) (v := ?_) rfl (by kernel_rfl) (by kernel_rfl) (by kernel_rfl) (fun _ _ _ h => h) (Or.inl ⟨by rfl, ?_⟩) (by assumption) ?_; (rotate_left 1); (focus (intro wz hSw; (try dsimp only at hSw); go_simp; try (with_reducible rfl))); simp only [Act.put, List.setIfInBounds_toArray, List.set_cons_zero, List.set_cons_succ]
  refine wpAnyH_take (i := 2) (oi := ⟨some 11, _, _, _, _, _⟩) (v := ?_) rfl (by kernel_rfl) (by kernel_rfl) (by kernel_rfl) (fun _ _ _ h => h) (Or.inl ⟨by rfl, ?_⟩) (by assumption) ?_; (rotate_left 1); (focus (intro wz hSw; (try dsimp only at hSw); go_simp; try (with_reducible rfl))); simp only [Act.put, List.setIfInBounds_toArray, List.set_cons_zero, List.set_cons_succ]
  refine wpAnyH_take (i := 3) (oi := ⟨some 12, _, _, _, _, _⟩) (v := sv _) rfl (by kernel_rfl) (by kernel_rfl) (by kernel_rfl) (fun _ _ _ h => h) (yieldsIf_load_mid (by rfl) 32 _ rfl _ 0 (by rfl) (cl _) _ (fun X hX => hX.1) Tryd.underlying32 rfl (infoL _)) (by assumption) ?_; simp only [Act.put, List.setIfInBounds_toArray, List.set_cons_zero, List.set_cons_succ]
  refine wpAnyH_ready (rs := [4]) (by kernel_rfl) (by simp) ?_; refine AllReadyH.cons rfl (fun K hK => ?_) AllReadyH.nil; go_simp
  refine (hA _).mono ?_
  rintro e w2 ⟨rfl, hb2⟩
  replace hb2 := ((Bw.refl wx).drew).trans hb2
  (try clear hHeld); refine hK.out _ _ ?_ (fun hHeld => ?_)
  · exact hHold _ hb2
  refine wpAnyH_take (i := 5) (oi := ⟨some 7, _, _, _, _, _⟩) (v := ?_) rfl (by kernel_rfl) (by kernel_rfl) (by kernel_rfl) (fun _ _ _ h => h) (Or.inl ⟨by rfl, ?_⟩) (by assumption) ?_; (rotate_left 1); (focus (intro wz hSw; (try dsimp only at hSw); go_simp; try (with_reducible rfl))); simp only [Act.put, List.setIfInBounds_toArray, List.set_cons_zero, List.set_cons_succ]
  refine wpAnyH_done (by kernel_rfl) ?_ _
  have hS2 := hS.bw hb2
  have hI2 := hI.bw hb2
  have hE2 := hE.bw hb2
  have t2 := hb2.keep t0
  have hSt2 := hSt _ ((hb2).trans (Bw.refl w2).drew)
  have hs2 := hb2.size
  have hbw2 := hbw.trans hb2
  have hk2 : Kp P w w2 := Kp.bw (hbwx.trans hb2)
  have hHold2 : ∀ X, Kp (fun i => i < w0.heap.size ∨ P i ∨ w.heap.size ≤ i) w2 X → (X.cell? ⟨w.heap.size, 0, none⟩ = some (.int .i64 op) ∧ X.cell? ⟨w.heap.size, 3, none⟩ = some (.int .i64 rs2) ∧ X.cell? ⟨5, (op - 16).toNat, none⟩ = some (.int .i64 sz) ∧ X.cell? ⟨b, rs2, none⟩ = some (.int .u32 (s.x rs2))) := fun X g => 
    ⟨(cell_block (p := ⟨w.heap.size, 0, none⟩) (g.2 _ (by show w.heap.size < _; omega) (Or.inr (Or.inr (Nat.le_refl _))))).trans (hI2.c 0 _ rfl),
     (cell_block (p := ⟨w.heap.size, 3, none⟩) (g.2 _ (by show w.heap.size < _; omega) (Or.inr (Or.inr (Nat.le_refl _))))).trans (hI2.c 3 _ rfl),
     (cell_block (p := ⟨5, (op - 16).toNat, none⟩) (g.2 _ (by show 5 < _; omega) (Or.inl hgl))).trans t2,
     (cell_block (p := ⟨b, rs2, none⟩) (g.2 _ (by show b < _; omega) (Or.inr (Or.inl hPb)))).trans (hS2.c h2)⟩
  clear hHold hHeld hA hSt t0 hS hI hE
  go_wp2_with fail
  refine wp_region_held_drew (S := fun X => (X.cell? ⟨w.heap.size, 0, none⟩ = some (.int .i64 op) ∧ X.cell? ⟨w.heap.size, 3, none⟩ = some (.int .i64 rs2) ∧ X.cell? ⟨5, (op - 16).toNat, none⟩ = some (.int .i64 sz) ∧ X.cell? ⟨b, rs2, none⟩ = some (.int .u32 (s.x rs2)))) (by kernel_rfl) (hHold2 _ (Kp.bw (Bw.refl w2).drew)) (fun hHeld => ?_)
  refine wpAnyH_take (i := 0) (oi := ⟨some 14, _, _, _, _, _⟩) (v := ?_) rfl (by kernel_rfl) (by kernel_rfl) (by kernel_rfl) (fun _ _ _ h => h) (Or.inl ⟨by rfl, ?_⟩) (by assumption) ?_; (rotate_left 1); (focus (intro wz hSw; (try dsimp only at hSw); go_simp; try (with_reducible rfl))); simp only [Act.put, List.setIfInBounds_toArray, List.set_cons_zero, List.set_cons_succ]
  refine wpAnyH_take (i := 1) (oi := ⟨some 15, _, _, _, _, _⟩) (v := ?_) rfl (by kernel_rfl) (by kernel_rfl) (by kernel_rfl) (fun _ _ _ h => h) (Or.inl ⟨by rfl, ?_⟩) (by assumption) ?_; (rotate_left 1); (focus (intro wz hSw; (try dsimp only at hSw); go_simp; try (with_reducible rfl))); simp only [Act.put, List.setIfInBounds_toArray, List.set_cons_zero, List.set_cons_succ]
  refine wpAnyH_take (i := 2) (oi := ⟨some 16, _, _, _, _, _⟩) (v := ?_) rfl (by kernel_rfl) (by kernel_rfl) (by kernel_rfl) (fun _ _ _ h => h) (Or.inl ⟨by rfl, ?_⟩) (by assumption) ?_; (rotate_left 1); (focus (intro wz hSw; (try dsimp only at hSw); go_simp; try (with_reducible rfl))); simp only [Act.put, List.setIfInBounds_toArray, List.set_cons_zero, List.set_cons_succ]
  refine wpAnyH_take (i := 3) (oi := ⟨some 17, _, _, _, _, _⟩) (v := ?_) rfl (by kernel_rfl) (by kernel_rfl) (by kernel_rfl) (fun _ _ _ h => h) (Or.inl ⟨by rfl, ?_⟩) (by assumption) ?_; (rotate_left 1); (focus (intro wz hSw; (try dsimp only at hSw); go_simp; try (with_reducible rfl))); simp only [Act.put, List.setIfInBounds_toArray, List.set_cons_zero, List.set_cons_succ]
  refine wpAnyH_take (i := 4) (oi := ⟨some 18, _, _, _, _, _⟩) (v := ?_) rfl (by kernel_rfl) (by kernel_rfl) (by kernel_rfl) (fun _ _ _ h => h) (Or.inl ⟨by rfl, ?_⟩) (by assumption) ?_; (rotate_left 1); (focus (intro wz hSw; (try dsimp only at hSw); go_simp; try (with_reducible rfl))); simp only [Act.put, List.setIfInBounds_toArray, List.set_cons_zero, List.set_cons_succ]
  refine wpAnyH_take (i := 5) (oi := ⟨some 19, _, _, _, _, _⟩) (v := ?_) rfl (by kernel_rfl) (by kernel_rfl) (by kernel_rfl) (fun _ _ _ h => h) (Or.inl ⟨by rfl, ?_⟩) (by assumption) ?_; (rotate_left 1); (focus (intro wz hSw; (try dsimp only at hSw); go_simp; try (with_reducible rfl))); simp only [Act.put, List.setIfInBounds_toArray, List.set_cons_zero, List.set_cons_succ]
  refine wpAnyH_take (i := 6) (oi := ⟨some 20, _, _, _, _, _⟩) (v := ?_) rfl (by kernel_rfl) (by kernel_rfl) (by kernel_rfl) (fun _ _ _ h => h) (Or.inl ⟨by rfl, ?_⟩) (by assumption) ?_; (rotate_left 1); (focus (intro wz hSw; (try dsimp only at hSw); go_simp; try (with_reducible rfl))); simp only [Act.put, List.setIfInBounds_toArray, List.set_cons_zero, List.set_cons_succ]
  refine wpAnyH_take (i := 7) (oi := ⟨some 21, _, _, _, _, _⟩) (v := ?_) rfl (by kernel_rfl) (by kernel_rfl) (by kernel_rfl) (fun _ _ _ h => h) (Or.inl ⟨by rfl, ?_⟩) (by assumption) ?_; (rotate_left 1); (focus (intro wz hSw; (try dsimp only at hSw); go_simp; try (with_reducible rfl))); simp only [Act.put, List.setIfInBounds_toArray, List.set_cons_zero, List.set_cons_succ]
  refine wpAnyH_take (i := 8) (oi := ⟨some 22, _, _, _, _, _⟩) (v := ?_) rfl (by kernel_rfl) (by kernel_rfl) (by kernel_rfl) (fun _ _ _ h => h) (Or.inl ⟨by rfl, ?_⟩) (by assumption) ?_; (rotate_left 1); (focus (intro wz hSw; (try dsimp only at hSw); go_simp; try (with_reducible rfl))); simp only [Act.put, List.setIfInBounds_toArray, List.set_cons_zero, List.set_cons_succ]
  refine wpAnyH_take (i := 9) (oi := ⟨some 23, _, _, _, _, _⟩) (v := ?_) rfl (by kernel_rfl) (by kernel_rfl) (by kernel_rfl) (fun _ _ _ h => h) (Or.inl ⟨by rfl, ?_⟩) (by assumption) ?_; (rotate_left 1); (focus (intro wz hSw; (try dsimp only at hSw); go_simp; try (with_reducible rfl))); simp only [Act.put, List.setIfInBounds_toArray, List.set_cons_zero, List.set_cons_succ]
  refine wpAnyH_take (i := 10) (oi := ⟨some 24, _, _, _, _, _⟩) (v := ?_) rfl (by kernel_rfl) (by kernel_rfl) (by kernel_rfl) (fun _ _ _ h => h) (Or.inl ⟨by rfl, ?_⟩) (by assumption) ?_; (rotate_left 1); (focus (intro wz hSw; (try dsimp only at hSw); go_simp; try (with_reducible rfl))); simp only [Act.put, List.setIfInBounds_toArray, List.set_cons_zero, List.set_cons_succ]
  refine wpAnyH_take (i := 11) (oi := ⟨some 25, _, _, _, _, _⟩) (v := ?_) rfl (by kernel_rfl) (by kernel_rfl) (by kernel_rfl) (fun _ _ _ h => h) (Or.inl ⟨by rfl, ?_⟩) (by assumption) ?_; (rotate_left 1); (focus (intro wz hSw; (try dsimp only at hSw); go_simp; try (with_reducible rfl))); simp only [Act.put, List.setIfInBounds_toArray, List.set_cons_zero, List.set_cons_succ]
  refine wpAnyH_take (i := 12) (oi := ⟨some 26, _, _, _, _, _⟩) (v := ?_) rfl (by kernel_rfl) (by kernel_rfl) (by kernel_rfl) (fun _ _ _ h => h) (Or.inl ⟨by rfl, ?_⟩) (by assumption) ?_; (rotate_left 1); (focus (intro wz hSw; (try dsimp only at hSw); go_simp; try (with_reducible rfl))); simp only [Act.put, List.setIfInBounds_toArray, List.set_cons_zero, List.set_cons_succ]
  refine wpAnyH_take (i := 13) (oi := ⟨some 27, _, _, _, _, _⟩) (v := ?_) rfl (by kernel_rfl) (by kernel_rfl) (by kernel_rfl) (fun _ _ _ h => h) (Or.inl ⟨by rfl, ?_⟩) (by assumption) ?_; (rotate_left 1); (focus (intro wz hSw; (try dsimp only at hSw); go_simp; try (with_reducible rfl))); simp only [Act.put, List.setIfInBounds_toArray, List.set_cons_zero, List.set_cons_succ]
  refine wpAnyH_ready (rs := [14]) (by kernel_rfl) (by simp) ?_; refine AllReadyH.cons rfl (fun K hK => ?_) AllReadyH.nil; go_simp
  refine hSt2.mono ?_
  rintro e w3 ⟨rfl, hH3, hk3⟩
  have hk3' := Kp.or hk3 hbw2.drew hH3.bw
  replace hk3' : Kp (fun i => i < w0.heap.size ∨ P i ∨ w.heap.size ≤ i) w2 w3 := (Kp.bw (Bw.refl w2).drew).trans hk3'
  (try clear hHeld); refine hK.out _ _ ?_ (fun hHeld => ?_)
  · exact hHold2 _ hk3'
  refine wpAnyH_take (i := 15) (oi := ⟨some 8, _, _, _, _, _⟩) (v := ?_) rfl (by kernel_rfl) (by kernel_rfl) (by kernel_rfl) (fun _ _ _ h => h) (Or.inl ⟨by rfl, ?_⟩) (by assumption) ?_; (rotate_left 1); (focus (intro wz hSw; (try dsimp only at hSw); go_simp; try (with_reducible rfl))); simp only [Act.put, List.setIfInBounds_toArray, List.set_cons_zero, List.set_cons_succ]
  refine wpAnyH_done (by kernel_rfl) ?_ _
  have hS3 := hS2.blk (hk3'.2 b (by omega) (Or.inr (Or.inl hPb)))
  have hE3 := hE2.blk (hk3'.2 (w.heap.size + 1) (by omega) (Or.inr (Or.inr (by omega))))
  have hs3 := hk3'.1
  have e0 := hE3.c 0 _ rfl
  have e1 := hE3.c 1 _ rfl
  have e2 := hE3.c 2 _ rfl
  have g0 := hE3.f 0 (by simp)
  have g1 := hE3.f 1 (by simp)
  have g2 := hE3.f 2 (by simp)
  have hkf : Kp P w w3 := hk2.trans (hk3'.mono (fun i hi => Or.inr (Or.inl hi)))
  clear hHold2 hHeld hSt2 hS2 hI2 hE2 t2 hk2 hE3
  have hend : ∀ u0 u1 u2, HasB w0 (((w3.setCell ⟨w.heap.size + 1, 0, none⟩ u0).setCell ⟨w.heap.size + 1, 1, none⟩ u1).setCell ⟨w.heap.size + 1, 2, none⟩ u2) mb N S' P ∧ SB (((w3.setCell ⟨w.heap.size + 1, 0, none⟩ u0).setCell ⟨w.heap.size + 1, 1, none⟩ u1).setCell ⟨w.heap.size + 1, 2, none⟩ u2) b s ∧ Kp P w (((w3.setCell ⟨w.heap.size + 1, 0, none⟩ u0).setCell ⟨w.heap.size + 1, 1, none⟩ u1).setCell ⟨w.heap.size + 1, 2, none⟩ u2) := fun u0 u1 u2 =>
    ⟨(((hH3.set (Or.inr (by omega)) (by omega) 0 u0).set (Or.inr (by omega)) (by omega) 1 u1).set (Or.inr (by omega)) (by omega) 2 u2).more (fun i hi => Or.inl (Or.inl hi)),
     ((hS3.ne (by omega) 0 u0).ne (by omega) 1 u1).ne (by omega) 2 u2, ((hkf.hi (by omega) 0 u0).hi (by omega) 1 u1).hi (by omega) 2 u2⟩
  clear hH3 hk3 hk3' hkf
  by_cases hf : f = 0
  · subst hf
    go_wp2_with fail
    ((try simp only [Exit.inBlock, Exit.then]); obtain ⟨r0, r1, r2⟩ := evSet e0 e1 e2; refine bodyPost_ret (by simp [results, Tryd.results63, go_sem, r0, r1, r2]; try rfl) rfl ?_)
    exact ⟨rfl, hend _ _ _⟩
  · have hf' : (f != 0) = true := by simpa using hf
    go_wp2_with fail
    ((try simp only [Exit.inBlock, Exit.then]); obtain ⟨r0, r1, r2⟩ := evSet e0 e1 e2; refine bodyPost_ret (by simp [results, Tryd.results63, go_sem, r0, r1, r2]; try rfl) rfl ?_)
    exact ⟨by first | rfl | rw [if_neg hf], hend _ _ _⟩
end Go.Proofs.YtbackacbdfgdoaaDoor
