/- LAYER 12's walks: do (by cpudo.py). -/
import Derived.Test.YtbackacbdfgdoaaDoorK9
import Derived.Test.YtbackacbdfgdoaaDoorK10
namespace Go.Proofs.YtbackacbdfgdoaaDoor
open Go.ChangeShapes Go.WideShapes Go.ChangeAt Go.RowKit
open Cpu
set_option linter.unusedVariables false
set_option linter.unusedSimpArgs false

/-- A whole State read, when it comes up in a drawn region. -/
theorem stepLoadSt {w : World} {ops : Array Oper} {o : Oper} {a : Act} {K : Act → World → Prop} {Q : Exit → Act → World → Prop} {E : Prop} {b : Nat} {s : St} (hgd : o.guard = Option.none) (x : Operand) (ho : o.op = .load 32 x)
    (hx : a.eval x = .pointer (some ⟨b, 0, Option.none⟩)) (hs : SB w b s) (h : K (a.put o.dst (sv s)) w) : if Region.wanted o (yielded ops a.tmps) = true then Oper.wp Tryd.prog o a w K Q else E := by
  have hw : Region.wanted o (yielded ops a.tmps) = true := by simp [Region.wanted, hgd]
  rw [if_pos hw]
  exact wp_load_mid 32 x ho b 0 hx (cl s) _ hs.range Tryd.underlying32 rfl (infoL s) h
/-- Behind what do has done: the event's box, the memory, the State's box. -/
theorem do_end {w0 w wx w2 : World} {mb N : Nat} {S : MS} {P : Nat → Prop} {b : Nat} {s2 : St} {x y z : Value} (hH : HasB w0 w mb N S P) (hPb : P b) (hb0 : w0.heap.size ≤ b) (hb : b < w.heap.size) (hbw : Bw w wx) (hsx : w.heap.size + 2 ≤ wx.heap.size)
    (hE : Box wx (w.heap.size + 1) [x, y, z]) (hq : Bq b wx w2) (hs : SB w2 b s2) :
    (w2.cell? ⟨w.heap.size + 1, 0, none⟩ = some x ∧ w2.cell? ⟨w.heap.size + 1, 1, none⟩ = some y ∧ w2.cell? ⟨w.heap.size + 1, 2, none⟩ = some z ∧ w2.frozen? ⟨w.heap.size + 1, 0, none⟩ = false ∧ w2.frozen? ⟨w.heap.size + 1, 1, none⟩ = false ∧ w2.frozen? ⟨w.heap.size + 1, 2, none⟩ = false) ∧
    ∀ u0 u1 u2, HasB w0 (((w2.setCell ⟨w.heap.size + 1, 0, none⟩ u0).setCell ⟨w.heap.size + 1, 1, none⟩ u1).setCell ⟨w.heap.size + 1, 2, none⟩ u2) mb N S P ∧ SB (((w2.setCell ⟨w.heap.size + 1, 0, none⟩ u0).setCell ⟨w.heap.size + 1, 1, none⟩ u1).setCell ⟨w.heap.size + 1, 2, none⟩ u2) b s2 ∧ Kp (fun j => P j ∧ j ≠ b) w (((w2.setCell ⟨w.heap.size + 1, 0, none⟩ u0).setCell ⟨w.heap.size + 1, 1, none⟩ u1).setCell ⟨w.heap.size + 1, 2, none⟩ u2) := by
  have hE2 := hE.blk (hq.block _ (by omega) (by omega))
  have hw0 : w0.heap.size ≤ w.heap.size := hH.bw.size
  have hH2 : HasB w0 w2 mb N S (fun i => P i ∨ w.heap.size ≤ i) := ((hH.more (Q := fun i => P i ∨ w.heap.size ≤ i) (fun i hi => hi)).on hbw).q (Or.inl hPb) hb0 hq
  have hk : Kp (fun j => P j ∧ j ≠ b) w w2 := (Kp.bw hbw).trans (Kp.toBq (Kp.refl _ _) hq (fun h => h.2 rfl))
  exact ⟨⟨hE2.c 0 _ rfl, hE2.c 1 _ rfl, hE2.c 2 _ rfl, hE2.f 0 (by simp), hE2.f 1 (by simp), hE2.f 2 (by simp)⟩, fun u0 u1 u2 =>
    ⟨(((hH2.set (Or.inr (by omega)) (by omega) 0 u0).set (Or.inr (by omega)) (by omega) 1 u1).set (Or.inr (by omega)) (by omega) 2 u2).more (fun i hi => Or.inl (Or.inl hi)),
     ((hs.ne (by omega) 0 u0).ne (by omega) 1 u1).ne (by omega) 2 u2, ((hk.hi (by omega) 0 u0).hi (by omega) 1 u1).hi (by omega) 2 u2⟩⟩
theorem do_endS {w0 w wx w2 : World} {mb N : Nat} {S : MS} {P : Nat → Prop} {b : Nat} {s2 : St} {x y z : Value} (hH : HasB w0 w2 mb N S (fun i => P i ∨ w.heap.size ≤ i)) (hw0 : w0.heap.size ≤ w.heap.size) (hb : b < w.heap.size) (hbw : Bw w wx) (hsx : w.heap.size + 2 ≤ wx.heap.size)
    (hE : Box wx (w.heap.size + 1) [x, y, z]) (hs : SB w2 b s2) (hk : Kp (fun i => P i ∨ w.heap.size ≤ i) wx w2) :
    (w2.cell? ⟨w.heap.size + 1, 0, none⟩ = some x ∧ w2.cell? ⟨w.heap.size + 1, 1, none⟩ = some y ∧ w2.cell? ⟨w.heap.size + 1, 2, none⟩ = some z ∧ w2.frozen? ⟨w.heap.size + 1, 0, none⟩ = false ∧ w2.frozen? ⟨w.heap.size + 1, 1, none⟩ = false ∧ w2.frozen? ⟨w.heap.size + 1, 2, none⟩ = false) ∧
    ∀ u0 u1 u2, HasB w0 (((w2.setCell ⟨w.heap.size + 1, 0, none⟩ u0).setCell ⟨w.heap.size + 1, 1, none⟩ u1).setCell ⟨w.heap.size + 1, 2, none⟩ u2) mb N S P ∧ SB (((w2.setCell ⟨w.heap.size + 1, 0, none⟩ u0).setCell ⟨w.heap.size + 1, 1, none⟩ u1).setCell ⟨w.heap.size + 1, 2, none⟩ u2) b s2 ∧ Kp (fun j => P j ∧ j ≠ b) w (((w2.setCell ⟨w.heap.size + 1, 0, none⟩ u0).setCell ⟨w.heap.size + 1, 1, none⟩ u1).setCell ⟨w.heap.size + 1, 2, none⟩ u2) := by
  have hE2 := hE.blk (hk.2 _ (by omega) (Or.inr (by omega)))
  have hkk : Kp (fun j => P j ∧ j ≠ b) w w2 := (Kp.bw hbw).trans (hk.mono (fun i hi => Or.inl hi.1))
  exact ⟨⟨hE2.c 0 _ rfl, hE2.c 1 _ rfl, hE2.c 2 _ rfl, hE2.f 0 (by simp), hE2.f 1 (by simp), hE2.f 2 (by simp)⟩, fun u0 u1 u2 =>
    ⟨(((hH.set (Or.inr (by omega)) (by omega) 0 u0).set (Or.inr (by omega)) (by omega) 1 u1).set (Or.inr (by omega)) (by omega) 2 u2).more (fun i hi => Or.inl (Or.inl hi)),
     ((hs.ne (by omega) 0 u0).ne (by omega) 1 u1).ne (by omega) 2 u2, ((hkk.hi (by omega) 0 u0).hi (by omega) 1 u1).hi (by omega) 2 u2⟩⟩
set_option maxRecDepth 100000 in
set_option maxHeartbeats 4000000 in
theorem do_c {w0 w : World} {mb N : Nat} {S : MS} {P : Nat → Prop} (hH : HasB w0 w mb N S P) {b : Nat} {s : St} (hs : s.Ok) (h : SB w b (aft s)) (hPb : P b) (hb0 : w0.heap.size ≤ b) (ht : CTab w0) (hk : KTab w0) (i : Rv.Ins) (hi : InsOk i) (hi1 : 1 ≤ i.op) :
    Calls Tryd.prog 28 #[.pointer (some ⟨mb, 0, none⟩), Rv.iv i, .int .u32 s.pc, .pointer (some ⟨b, 0, none⟩)] w fun e w' =>
      ∃ s2, e = .returned (Cpu.ev (run S i s).ev) ∧ HasB w0 w' mb N (run S i s).mem P ∧ SB w' b s2 ∧ ((run S i s).ev.kind = 0 → s2.put 0 0 = (run S i s).st) ∧ Kp (fun j => P j ∧ j ≠ b) w w' := by
  obtain ⟨op, rd, rs1, rs2, imm⟩ := i
  obtain ⟨hOp, hrd, hr1, hr2, him⟩ := hi
  dsimp only at hOp hrd hr1 hr2 him hi1
  obtain ⟨d, rfl⟩ : ∃ d : Nat, rd = d := ⟨rd.toNat, by omega⟩
  obtain ⟨p, rfl⟩ : ∃ p : Nat, rs1 = p := ⟨rs1.toNat, by omega⟩
  obtain ⟨q, rfl⟩ : ∃ q : Nat, rs2 = q := ⟨rs2.toNat, by omega⟩
  have hd : d < 32 := by omega
  have hp : p < 32 := by omega
  have hq : q < 32 := by omega
  have hdi : (d : Int) < 32 := by omega
  clear hrd hr1 hr2
  have hl := h.lt
  have hx := fun k => aft_u4 hs k
  have hxp := aft_reg s hp
  have hxq := aft_reg s hq
  have hA := adr_aft ⟨op, d, p, q, imm⟩ s
  have hgl : 4 < w0.heap.size := by
    apply Decidable.byContradiction
    intro hn
    have : w0.heap[4]? = Option.none := by simp; omega
    have h0 := ht.lb 0 (by omega)
    simp [World.cell?, this] at h0
  have hne : b ≠ 4 := by omega
  obtain ⟨R, hR⟩ : ∃ R, run S ⟨op, d, p, q, imm⟩ s = R := ⟨_, rfl⟩
  rw [hR]
  unfold Rv.iv
  have hI := Box.new w [.int .i64 op, .int .i64 d, .int .i64 p, .int .i64 q, .int .i32 imm] 28
  obtain ⟨wi, hwi⟩ : ∃ wi, w.alloc (.cells [.int .i64 op, .int .i64 d, .int .i64 p, .int .i64 q, .int .i32 imm].toArray 28) = wi := ⟨_, rfl⟩
  have hsi : wi.heap.size = w.heap.size + 1 := by rw [← hwi]; simp
  have hbi : Bw w wi := by rw [← hwi]; exact (Bw.refl w).alloc _
  rw [hwi] at hI
  have hE := Box.new wi [.int .i64 0, .int .u32 0, .int .i64 0] 35
  have hSx := h.bw hbi
  have hbx : Bw wi (wi.alloc (.cells [.int .i64 0, .int .u32 0, .int .i64 0].toArray 35)) := (Bw.refl wi).alloc _
  obtain ⟨wx, hwx⟩ : ∃ wx, wi.alloc (.cells [.int .i64 0, .int .u32 0, .int .i64 0].toArray 35) = wx := ⟨_, rfl⟩
  rw [hwx] at hE hbx
  replace hI := hI.bw hbx
  replace hSx := hSx.bw hbx
  rw [hsi] at hE
  have hsx : w.heap.size + 2 ≤ wx.heap.size := by rw [← hwx]; simp; omega
  have hbw := hbi.trans hbx
  have hEnd := fun (w2 : World) (s2 : St) => do_end (w2 := w2) (s2 := s2) hH hPb hb0 hl hbw hsx hE
  have hHx := hH.on hbw
  have i0 := hI.c 0 _ rfl
  have i1 := hI.c 1 _ rfl
  have i2 := hI.c 2 _ rfl
  have i3 := hI.c 3 _ rfl
  have i4 := hI.c 4 _ rfl
  have cd := hSx.c hd
  have fd := hSx.f (i := d) (by omega)
  have htx := ht.bw (hH.bw.trans hbw)
  have hkx : KTab wx := fun j hj => (hH.bw.trans hbw).keep (hk j hj)
  have hto := U4.mod (s.pc + imm)
  clear hbi h hbx hk hs
  by_cases h1 : op = 1
  · skip
    subst h1
    have hEv : R.ev = nx := by rw [← hR]; rfl
    have hMem : R.mem = S := by rw [← hR]; rfl
    have hSt : R.ev.kind = 0 → ((aft s).put d (imm % 4294967296)).put 0 0 = R.st := fun _ => by rw [← hR]; exact done_next s _
    obtain ⟨⟨e0, e1, e2, g0, g1, g2⟩, hend⟩ := hEnd _ _ ((Bq.refl b wx).set d (.int .u32 (imm % 4294967296))) (hSx.put hd (imm % 4294967296))
    clear hEnd hR hA hx hxp hxq htx hkx hHx hE hI hH ht hSx
    have HEv : Hid _ := hEv
    have HMem : Hid _ := hMem
    have HSt : Hid _ := hSt
    clear hEv hMem hSt
    go_enter Tryd.func28, Tryd.ntmps28
    go_wp2_with fail
    go_region
    all_goals go_wp2_with fail
    all_goals skip
    all_goals ((try simp only [Exit.inBlock, Exit.then]); obtain ⟨r0, r1, r2⟩ := evSet e0 e1 e2; refine bodyPost_ret (by simp [results, Tryd.results28, go_sem, r0, r1, r2]; try rfl) rfl ?_)
    all_goals have hEv : R.ev = _ := HEv
    all_goals have hMem : R.mem = _ := HMem
    all_goals have hSt : R.ev.kind = 0 → _ := HSt
    all_goals first | exact ⟨_, congrArg (fun x => Ending.returned (Cpu.ev x)) hEv.symm, hMem ▸ (hend _ _ _).1.on (Bw.refl _).drew, (hend _ _ _).2.1.dr, hSt, (hend _ _ _).2.2.dr⟩ | exact ⟨congrArg (fun x => Ending.returned (Cpu.ev x)) hEv.symm, hMem ▸ (hend _ _ _).1.on (Bw.refl _).drew, _, (hend _ _ _).2.1.dr, hSt, (hend _ _ _).2.2.dr⟩
  by_cases h2 : op = 2
  · skip
    subst h2
    have hEv : R.ev = nx := by rw [← hR]; rfl
    have hMem : R.mem = S := by rw [← hR]; rfl
    have hSt : R.ev.kind = 0 → ((aft s).put d ((s.pc + imm) % 4294967296)).put 0 0 = R.st := fun _ => by rw [← hR]; exact done_next s _
    obtain ⟨⟨e0, e1, e2, g0, g1, g2⟩, hend⟩ := hEnd _ _ ((Bq.refl b wx).set d (.int .u32 ((s.pc + imm) % 4294967296))) (hSx.put hd ((s.pc + imm) % 4294967296))
    clear hEnd hR hA hx hxp hxq htx hkx hHx hE hI hH ht hSx
    have HEv : Hid _ := hEv
    have HMem : Hid _ := hMem
    have HSt : Hid _ := hSt
    clear hEv hMem hSt
    go_enter Tryd.func28, Tryd.ntmps28
    go_wp2_with fail
    go_region
    all_goals go_wp2_with fail
    all_goals skip
    all_goals ((try simp only [Exit.inBlock, Exit.then]); obtain ⟨r0, r1, r2⟩ := evSet e0 e1 e2; refine bodyPost_ret (by simp [results, Tryd.results28, go_sem, r0, r1, r2]; try rfl) rfl ?_)
    all_goals have hEv : R.ev = _ := HEv
    all_goals have hMem : R.mem = _ := HMem
    all_goals have hSt : R.ev.kind = 0 → _ := HSt
    all_goals first | exact ⟨_, congrArg (fun x => Ending.returned (Cpu.ev x)) hEv.symm, hMem ▸ (hend _ _ _).1.on (Bw.refl _).drew, (hend _ _ _).2.1.dr, hSt, (hend _ _ _).2.2.dr⟩ | exact ⟨congrArg (fun x => Ending.returned (Cpu.ev x)) hEv.symm, hMem ▸ (hend _ _ _).1.on (Bw.refl _).drew, _, (hend _ _ _).2.1.dr, hSt, (hend _ _ _).2.2.dr⟩
  by_cases h3 : op = 3
  · skip
    subst h3
    have hEv : R.ev = jmpE ((s.pc + imm) % 4294967296) := by rw [← hR]; exact hop_ev S s d (next s) _
    have hMem : R.mem = S := by rw [← hR]; exact hop_mem S s d (next s) _
    have hSt : R.ev.kind = 0 → (jmpS ((aft s).put d (aft s).pc) ((s.pc + imm) % 4294967296)).put 0 0 = R.st := by rw [← hR]; exact hop_st S s (r := d) (next s) _
    clear hR hA hx hxp hxq htx hkx hHx hE hI hH ht
    have HEv : Hid _ := hEv
    have HMem : Hid _ := hMem
    have HSt : Hid _ := hSt
    clear hEv hMem hSt
    go_enter Tryd.func28, Tryd.ntmps28
    go_wp2_with (go_at_call 60; refine (link_c (s := aft s) hSx d hd ((s.pc + imm) % 4294967296) hto).mono ?_; rintro e w2 ⟨rfl, hs2, hq2⟩; unfold Cpu.ev; obtain ⟨⟨e0, e1, e2, g0, g1, g2⟩, hend⟩ := hEnd _ _ hq2 hs2; clear hEnd)
    ((try simp only [Exit.inBlock, Exit.then]); obtain ⟨r0, r1, r2⟩ := evSet e0 e1 e2; refine bodyPost_ret (by simp [results, Tryd.results28, go_sem, r0, r1, r2]; try rfl) rfl ?_)
    have hEv : R.ev = _ := HEv
    have hMem : R.mem = _ := HMem
    have hSt : R.ev.kind = 0 → _ := HSt
    first | exact ⟨_, congrArg (fun x => Ending.returned (Cpu.ev x)) hEv.symm, hMem ▸ (hend _ _ _).1, (hend _ _ _).2.1, hSt, (hend _ _ _).2.2⟩ | exact ⟨congrArg (fun x => Ending.returned (Cpu.ev x)) hEv.symm, hMem ▸ (hend _ _ _).1, _, (hend _ _ _).2.1, hSt, (hend _ _ _).2.2⟩
  by_cases h4 : op = 4
  · skip
    subst h4
    have hE32 := even32 (adr_u4 ⟨4, d, p, q, imm⟩ s)
    have hAc := Address_c ⟨4, d, p, q, imm⟩ (aft s)
    unfold Rv.iv at hAc
    rw [hA] at hAc
    obtain ⟨A, hAA⟩ : ∃ A, adr ⟨4, d, p, q, imm⟩ s = A := ⟨_, rfl⟩
    have hA4 := adr_u4 ⟨4, d, p, q, imm⟩ s
    have hrun : run S ⟨4, d, p, q, imm⟩ s = hop S s d (next s) (A - A % 2) := by rw [← hAA]; rfl
    rw [hAA] at hAc hE32 hA4
    have hT : U4 (A - A % 2) := ⟨by have := hA4.1; omega, by have := hA4.2; have := hA4.1; omega⟩
    have hEv : R.ev = jmpE (A - A % 2) := by rw [← hR, hrun]; exact hop_ev S s d (next s) _
    have hMem : R.mem = S := by rw [← hR, hrun]; exact hop_mem S s d (next s) _
    have hSt : R.ev.kind = 0 → (jmpS ((aft s).put d (aft s).pc) (A - A % 2)).put 0 0 = R.st := by rw [← hR, hrun]; exact hop_st S s (r := d) (next s) _
    clear hrun hR hA hx hxp hxq htx hkx hHx hE hAA hA4 hto
    have hHold : ∀ X : World, X.heap[w.heap.size]? = wx.heap[w.heap.size]? → (X.cell? ⟨w.heap.size, 0, none⟩ = some (.int .i64 4) ∧ X.cell? ⟨w.heap.size, 1, none⟩ = some (.int .i64 d) ∧ X.cell? ⟨w.heap.size, 2, none⟩ = some (.int .i64 p) ∧ X.cell? ⟨w.heap.size, 3, none⟩ = some (.int .i64 q) ∧ X.cell? ⟨w.heap.size, 4, none⟩ = some (.int .i32 imm)) := fun X g =>
      have hI2 := hI.blk g
      ⟨hI2.c 0 _ rfl, hI2.c 1 _ rfl, hI2.c 2 _ rfl, hI2.c 3 _ rfl, hI2.c 4 _ rfl⟩
    have HEv : Hid _ := hEv
    have HMem : Hid _ := hMem
    have HSt : Hid _ := hSt
    clear hEv hMem hSt
    go_enter Tryd.func28, Tryd.ntmps28
    go_wp2_with fail
    refine wp_region_held_drew (S := fun X => (X.cell? ⟨w.heap.size, 0, none⟩ = some (.int .i64 4) ∧ X.cell? ⟨w.heap.size, 1, none⟩ = some (.int .i64 d) ∧ X.cell? ⟨w.heap.size, 2, none⟩ = some (.int .i64 p) ∧ X.cell? ⟨w.heap.size, 3, none⟩ = some (.int .i64 q) ∧ X.cell? ⟨w.heap.size, 4, none⟩ = some (.int .i32 imm))) (by kernel_rfl) (hHold _ rfl) (fun hHeld => ?_)
    refine wpAnyH_take (i := 0) (oi := ⟨some 53, _, _, _, _, _⟩) (v := ?_) rfl (by kernel_rfl) (by kernel_rfl) (by kernel_rfl) (fun _ _ _ h => h) (Or.inl ⟨by rfl, ?_⟩) (by assumption) ?_; (rotate_left 1); (focus (intro wz hSw; (try dsimp only at hSw); go_simp; try (with_reducible rfl))); simp only [Act.put, List.setIfInBounds_toArray, List.set_cons_zero, List.set_cons_succ]
    refine wpAnyH_take (i := 1) (oi := ⟨some 54, _, _, _, _, _⟩) (v := ?_) rfl (by kernel_rfl) (by kernel_rfl) (by kernel_rfl) (fun _ _ _ h => h) (Or.inl ⟨by rfl, ?_⟩) (by assumption) ?_; (rotate_left 1); (focus (intro wz hSw; (try dsimp only at hSw); go_simp; try (with_reducible rfl))); simp only [Act.put, List.setIfInBounds_toArray, List.set_cons_zero, List.set_cons_succ]
    refine wpAnyH_take (i := 2) (oi := ⟨some 55, _, _, _, _, _⟩) (v := ?_) rfl (by kernel_rfl) (by kernel_rfl) (by kernel_rfl) (fun _ _ _ h => h) (Or.inl ⟨by rfl, ?_⟩) (by assumption) ?_; (rotate_left 1); (focus (intro wz hSw; (try dsimp only at hSw); go_simp; try (with_reducible rfl))); simp only [Act.put, List.setIfInBounds_toArray, List.set_cons_zero, List.set_cons_succ]
    refine wpAnyH_take (i := 3) (oi := ⟨some 56, _, _, _, _, _⟩) (v := ?_) rfl (by kernel_rfl) (by kernel_rfl) (by kernel_rfl) (fun _ _ _ h => h) (Or.inl ⟨by rfl, ?_⟩) (by assumption) ?_; (rotate_left 1); (focus (intro wz hSw; (try dsimp only at hSw); go_simp; try (with_reducible rfl))); simp only [Act.put, List.setIfInBounds_toArray, List.set_cons_zero, List.set_cons_succ]
    refine wpAnyH_take (i := 4) (oi := ⟨some 57, _, _, _, _, _⟩) (v := ?_) rfl (by kernel_rfl) (by kernel_rfl) (by kernel_rfl) (fun _ _ _ h => h) (Or.inl ⟨by rfl, ?_⟩) (by assumption) ?_; (rotate_left 1); (focus (intro wz hSw; (try dsimp only at hSw); go_simp; try (with_reducible rfl))); simp only [Act.put, List.setIfInBounds_toArray, List.set_cons_zero, List.set_cons_succ]
    refine wpAnyH_take (i := 8) (oi := ⟨some 61, _, _, _, _, _⟩) (v := ?_) rfl (by kernel_rfl) (by kernel_rfl) (by kernel_rfl) (fun _ _ _ h => h) (Or.inl ⟨by rfl, ?_⟩) (by assumption) ?_; (rotate_left 1); (focus (intro wz hSw; (try dsimp only at hSw); go_simp; try (with_reducible rfl))); simp only [Act.put, List.setIfInBounds_toArray, List.set_cons_zero, List.set_cons_succ]
    refine wpAnyH_ready (rs := [5]) (by kernel_rfl) (by simp) ?_; refine AllReadyH.cons rfl (fun K hK => ?_) AllReadyH.nil
    refine stepLoadSt rfl _ rfl (by rfl) hSx.dr ?_
    simp only [Act.put, List.setIfInBounds_toArray, List.set_cons_zero, List.set_cons_succ]
    (try clear hHeld); refine hK.out _ _ ?_ (fun hHeld => ?_)
    · exact hHold _ rfl
    refine wpAnyH_ready (rs := [6]) (by kernel_rfl) (by simp) ?_; refine AllReadyH.cons rfl (fun K hK => ?_) AllReadyH.nil; go_simp
    refine (hAc _).mono ?_
    rintro e w2 ⟨rfl, hb2⟩
    replace hb2 := ((Bw.refl wx).drew).trans hb2
    (try clear hHeld); refine hK.out _ _ ?_ (fun hHeld => ?_)
    · exact hHold _ (Below.block hb2 _ (by omega))
    refine wpAnyH_take (i := 7) (oi := ⟨some 60, _, _, _, _, _⟩) (v := ?_) rfl (by kernel_rfl) (by kernel_rfl) (by kernel_rfl) (fun _ _ _ h => h) (Or.inl ⟨by rfl, ?_⟩) (by assumption) ?_; (rotate_left 1); (focus (intro wz hSw; (try dsimp only at hSw); go_simp; try (with_reducible rfl))); simp only [Act.put, List.setIfInBounds_toArray, List.set_cons_zero, List.set_cons_succ]
    refine wpAnyH_ready (rs := [9]) (by kernel_rfl) (by simp) ?_; refine AllReadyH.cons rfl (fun K hK => ?_) AllReadyH.nil; go_simp
    refine (link_c (s := aft s) (hSx.bw hb2) d hd (A - A % 2) hT).mono ?_
    rintro e w3 ⟨rfl, hs3, hq3⟩
    replace hq3 : Bq b wx w3 := ((Bq.refl b wx).bw hb2).trans hq3
    obtain ⟨⟨e0, e1, e2, g0, g1, g2⟩, hend⟩ := hEnd _ _ hq3 hs3
    unfold Cpu.ev
    (try clear hHeld); refine hK.out _ _ ?_ (fun hHeld => ?_)
    · exact hHold _ (hq3.block _ (by omega) (by omega))
    refine wpAnyH_ready (rs := [10]) (by kernel_rfl) (by simp) ?_; refine AllReadyH.cons rfl (fun K hK => ?_) AllReadyH.nil; go_simp
    (try clear hHeld); refine hK.out _ _ ?_ (fun hHeld => ?_)
    · exact hHold _ (by rw [Below.heap_setCell _ _ _ _ (by simp), Below.heap_setCell _ _ _ _ (by simp), Below.heap_setCell _ _ _ _ (by simp)]; exact hq3.block _ (by omega) (by omega))
    refine wpAnyH_done (by kernel_rfl) ?_ _
    clear hHold hHeld hAc
    go_wp2_with fail
    ((try simp only [Exit.inBlock, Exit.then]); obtain ⟨r0, r1, r2⟩ := evSet e0 e1 e2; refine bodyPost_ret (by simp [results, Tryd.results28, go_sem, r0, r1, r2]; try rfl) rfl ?_)
    have hEv : R.ev = _ := HEv
    have hMem : R.mem = _ := HMem
    have hSt : R.ev.kind = 0 → _ := HSt
    first | exact ⟨_, congrArg (fun x => Ending.returned (Cpu.ev x)) hEv.symm, hMem ▸ (hend _ _ _).1, (hend _ _ _).2.1, hSt, (hend _ _ _).2.2⟩ | exact ⟨congrArg (fun x => Ending.returned (Cpu.ev x)) hEv.symm, hMem ▸ (hend _ _ _).1, _, (hend _ _ _).2.1, hSt, (hend _ _ _).2.2⟩
  by_cases h5 : op ≤ 10
  · skip
    have hb5 : 5 ≤ op ∧ op ≤ 10 := by omega
    have hB := branch_c (s := aft s) hSx htx hx op hb5 d p q hp hq imm s.pc
    rw [hxp, hxq] at hB
    have hrun := run_b S ⟨op, d, p, q, imm⟩ s hb5
    obtain ⟨t, ht'⟩ : ∃ t, Alu.tst (tk op) (reg s p) (reg s q) = t := ⟨_, rfl⟩
    rw [ht'] at hB
    have hr2 : R = if t = true then Cpu.hop S s 0 0 ((s.pc + imm) % 4294967296) else ⟨done s 0 0 (next s), nx, S⟩ := by
      rw [← hR, hrun, ← ht']; rfl
    have hEv : R.ev = if t = true then jmpE ((s.pc + imm) % 4294967296) else nx := by
      rw [hr2]; cases t
      · rfl
      · exact hop_ev S s 0 0 _
    have hMem : R.mem = S := by
      rw [hr2]; cases t
      · rfl
      · exact hop_mem S s 0 0 _
    have hSt : R.ev.kind = 0 → (if t = true then jmpS (aft s) ((s.pc + imm) % 4294967296) else aft s).put 0 0 = R.st := by
      rw [hr2]; cases t
      · exact fun _ => done_stay s
      · exact hop_st0 S s _
    obtain ⟨E, hEE⟩ : ∃ E, (if t = true then jmpE ((s.pc + imm) % 4294967296) else nx) = E := ⟨_, rfl⟩
    obtain ⟨z, hz⟩ : ∃ z, (if t = true then jmpS (aft s) ((s.pc + imm) % 4294967296) else aft s) = z := ⟨_, rfl⟩
    rw [hEE] at hB hEv
    rw [hz] at hB hSt
    clear hEE hz
    have b1 : (op == 1) = false := by simp; omega
    have b2 : (op == 2) = false := by simp; omega
    have b3 : (op == 3) = false := by simp; omega
    have b4 : (op == 4) = false := by simp; omega
    have o5 := hb5.1
    clear hr2 ht' hrun hR hA hx hxp hxq htx hkx hHx hE hI hH ht hto
    have HEv : Hid _ := hEv
    have HMem : Hid _ := hMem
    have HSt : Hid _ := hSt
    clear hEv hMem hSt
    go_enter Tryd.func28, Tryd.ntmps28
    go_wp2_with (go_at_call 61; unfold Rv.iv at hB; refine hB.mono ?_; rintro e w2 ⟨rfl, hs2, hq2⟩; unfold Cpu.ev; obtain ⟨⟨e0, e1, e2, g0, g1, g2⟩, hend⟩ := hEnd _ _ hq2 hs2; clear hEnd)
    ((try simp only [Exit.inBlock, Exit.then]); obtain ⟨r0, r1, r2⟩ := evSet e0 e1 e2; refine bodyPost_ret (by simp [results, Tryd.results28, go_sem, r0, r1, r2]; try rfl) rfl ?_)
    have hEv : R.ev = _ := HEv
    have hMem : R.mem = _ := HMem
    have hSt : R.ev.kind = 0 → _ := HSt
    first | exact ⟨_, congrArg (fun x => Ending.returned (Cpu.ev x)) hEv.symm, hMem ▸ (hend _ _ _).1, (hend _ _ _).2.1, hSt, (hend _ _ _).2.2⟩ | exact ⟨congrArg (fun x => Ending.returned (Cpu.ev x)) hEv.symm, hMem ▸ (hend _ _ _).1, _, (hend _ _ _).2.1, hSt, (hend _ _ _).2.2⟩
  by_cases h6 : op ≤ 15
  · skip
    have hb5 : 11 ≤ op ∧ op ≤ 15 := by omega
    have hB := load_c (s := aft s) hHx hSx htx hne op hb5 d p q hd imm
    rw [hA] at hB
    have hrun := run_l S ⟨op, d, p, q, imm⟩ s hb5
    obtain ⟨A, hAA⟩ : ∃ A, adr ⟨op, d, p, q, imm⟩ s = A := ⟨_, rfl⟩
    obtain ⟨f, hf⟩ : ∃ f, S.ask A (lsz op) 1 = f := ⟨_, rfl⟩
    rw [hAA, hf] at hB
    have hr2 : R = if f = 0 then ⟨done s d (Alu.ext (S.load A (lsz op) 1) (lbt op)) (next s), nx, S⟩ else ⟨s, ⟨3, A, f⟩, S⟩ := by
      rw [← hR, hrun, ← hf, ← hAA]; rfl
    have hEv : R.ev = if f = 0 then nx else ⟨3, A, f⟩ := by rw [hr2]; split <;> rfl
    have hMem : R.mem = S := by rw [hr2]; split <;> rfl
    have hSt : R.ev.kind = 0 → (if f = 0 then (aft s).put d (Alu.ext (S.load A (lsz op) 1) (lbt op)) else aft s).put 0 0 = R.st := by
      rw [hr2]; split
      · exact fun _ => done_next s _
      · exact fun h => by simp at h
    obtain ⟨E, hEE⟩ : ∃ E : Ev, (if f = 0 then nx else ⟨3, A, f⟩) = E := ⟨_, rfl⟩
    obtain ⟨z, hz⟩ : ∃ z, (if f = 0 then (aft s).put d (Alu.ext (S.load A (lsz op) 1) (lbt op)) else aft s) = z := ⟨_, rfl⟩
    rw [hEE] at hB hEv
    rw [hz] at hB hSt
    clear hEE hz
    have b1 : (op == 1) = false := by simp; omega
    have b2 : (op == 2) = false := by simp; omega
    have b3 : (op == 3) = false := by simp; omega
    have b4 : (op == 4) = false := by simp; omega
    have o5 := hb5.1
    clear hr2 hf hrun hR hA hx hxp hxq htx hkx hHx hE hI hH ht hto hAA
    have HEv : Hid _ := hEv
    have HMem : Hid _ := hMem
    have HSt : Hid _ := hSt
    clear hEv hMem hSt
    go_enter Tryd.func28, Tryd.ntmps28
    go_wp2_with (go_at_call 62; unfold Rv.iv at hB; refine hB.mono ?_; rintro e w2 ⟨rfl, hs2, hq2⟩; unfold Cpu.ev; obtain ⟨⟨e0, e1, e2, g0, g1, g2⟩, hend⟩ := hEnd _ _ hq2 hs2; clear hEnd)
    ((try simp only [Exit.inBlock, Exit.then]); obtain ⟨r0, r1, r2⟩ := evSet e0 e1 e2; refine bodyPost_ret (by simp [results, Tryd.results28, go_sem, r0, r1, r2]; try rfl) rfl ?_)
    have hEv : R.ev = _ := HEv
    have hMem : R.mem = _ := HMem
    have hSt : R.ev.kind = 0 → _ := HSt
    first | exact ⟨_, congrArg (fun x => Ending.returned (Cpu.ev x)) hEv.symm, hMem ▸ (hend _ _ _).1, (hend _ _ _).2.1, hSt, (hend _ _ _).2.2⟩ | exact ⟨congrArg (fun x => Ending.returned (Cpu.ev x)) hEv.symm, hMem ▸ (hend _ _ _).1, _, (hend _ _ _).2.1, hSt, (hend _ _ _).2.2⟩
  by_cases h7 : op ≤ 18
  · skip
    have hb5 : 16 ≤ op ∧ op ≤ 18 := by omega
    have hHy : HasB w0 wx mb N S (fun i => P i ∨ w.heap.size ≤ i) := (hH.more (Q := fun i => P i ∨ w.heap.size ≤ i) (fun i hi => hi)).on hbw
    have hB := store_c (s := aft s) hHy hSx (Or.inl hPb) ht hx op hb5 d p q hq imm
    rw [hA, hxq] at hB
    have hrun := run_s S ⟨op, d, p, q, imm⟩ s hb5
    obtain ⟨A, hAA⟩ : ∃ A, adr ⟨op, d, p, q, imm⟩ s = A := ⟨_, rfl⟩
    obtain ⟨f, hf⟩ : ∃ f, S.ask A (ssz op) 2 = f := ⟨_, rfl⟩
    obtain ⟨S', hS'⟩ : ∃ S', S.store A (ssz op) (reg s q) = S' := ⟨_, rfl⟩
    rw [hAA, hf, hS'] at hB
    have hr2 : R = if f = 0 then ⟨done s 0 0 (next s), nx, S'⟩ else ⟨s, ⟨4, A, f⟩, S⟩ := by
      rw [← hR, hrun, ← hS', ← hf, ← hAA]; rfl
    have hEv : R.ev = if f = 0 then nx else ⟨4, A, f⟩ := by rw [hr2]; split <;> rfl
    have hMem : R.mem = S' := by
      rw [hr2]; split
      · rfl
      · rename_i hn
        rw [← hS']
        unfold MS.store
        rw [hf, if_neg hn]
    have hSt : R.ev.kind = 0 → (aft s).put 0 0 = R.st := by
      rw [hr2]; split
      · exact fun _ => done_stay s
      · exact fun h => by simp at h
    obtain ⟨E, hEE⟩ : ∃ E : Ev, (if f = 0 then nx else ⟨4, A, f⟩) = E := ⟨_, rfl⟩
    rw [hEE] at hB hEv
    clear hEE
    have b1 : (op == 1) = false := by simp; omega
    have b2 : (op == 2) = false := by simp; omega
    have b3 : (op == 3) = false := by simp; omega
    have b4 : (op == 4) = false := by simp; omega
    have o5 := hb5.1
    have hw0 : w0.heap.size ≤ w.heap.size := hH.bw.size
    clear hr2 hf hrun hR hA hx hxp hxq htx hkx hHx hI hH ht hto hAA hHy hEnd
    have HEv : Hid _ := hEv
    have HMem : Hid _ := hMem
    have HSt : Hid _ := hSt
    clear hEv hMem hSt
    go_enter Tryd.func28, Tryd.ntmps28
    go_wp2_with (go_at_call 63; unfold Rv.iv at hB; refine hB.mono ?_; rintro e w2 ⟨rfl, hH2, hs2, hk2⟩; unfold Cpu.ev; obtain ⟨⟨e0, e1, e2, g0, g1, g2⟩, hend⟩ := do_endS hH2 hw0 hl hbw hsx hE hs2 hk2)
    ((try simp only [Exit.inBlock, Exit.then]); obtain ⟨r0, r1, r2⟩ := evSet e0 e1 e2; refine bodyPost_ret (by simp [results, Tryd.results28, go_sem, r0, r1, r2]; try rfl) rfl ?_)
    have hEv : R.ev = _ := HEv
    have hMem : R.mem = _ := HMem
    have hSt : R.ev.kind = 0 → _ := HSt
    first | exact ⟨_, congrArg (fun x => Ending.returned (Cpu.ev x)) hEv.symm, hMem ▸ (hend _ _ _).1, (hend _ _ _).2.1, hSt, (hend _ _ _).2.2⟩ | exact ⟨congrArg (fun x => Ending.returned (Cpu.ev x)) hEv.symm, hMem ▸ (hend _ _ _).1, _, (hend _ _ _).2.1, hSt, (hend _ _ _).2.2⟩
  by_cases h8 : op ≤ 45
  · skip
    have hb5 : 19 ≤ op ∧ op ≤ 45 := by omega
    have hB := reckon_c (s := aft s) hSx hkx hx op hb5 d p q hd hp hq imm
    have hrun := run_r S ⟨op, d, p, q, imm⟩ s hb5
    unfold rckV at hB
    rw [hxp, hxq] at hB
    have hEv : R.ev = nx := by rw [← hR, hrun]; rfl
    have hMem : R.mem = S := by rw [← hR, hrun]; rfl
    have hSt : R.ev.kind = 0 → ((aft s).put d (Alu.val (Rv.kd op) (reg s p) (if op ≤ 27 then imm % 4294967296 else reg s q))).put 0 0 = R.st := fun _ => by rw [← hR, hrun]; exact done_next s _
    obtain ⟨V, hV⟩ : ∃ V, Alu.val (Rv.kd op) (reg s p) (if op ≤ 27 then imm % 4294967296 else reg s q) = V := ⟨_, rfl⟩
    rw [hV] at hB hSt
    clear hV
    have b1 : (op == 1) = false := by simp; omega
    have b2 : (op == 2) = false := by simp; omega
    have b3 : (op == 3) = false := by simp; omega
    have b4 : (op == 4) = false := by simp; omega
    have b48 : (op == 48) = false := by simp; omega
    have b49 : (op == 49) = false := by simp; omega
    have o5 := hb5.1
    clear hrun hR hA hx hxp hxq htx hkx hHx hE hI hH ht hto
    have HEv : Hid _ := hEv
    have HMem : Hid _ := hMem
    have HSt : Hid _ := hSt
    clear hEv hMem hSt
    go_enter Tryd.func28, Tryd.ntmps28
    go_wp2_with (go_at_call 64; unfold Rv.iv at hB; refine hB.mono ?_; rintro e w2 ⟨rfl, hs2, hq2⟩; obtain ⟨⟨e0, e1, e2, g0, g1, g2⟩, hend⟩ := hEnd _ _ hq2 hs2; clear hEnd)
    ((try simp only [Exit.inBlock, Exit.then]); obtain ⟨r0, r1, r2⟩ := evSet e0 e1 e2; refine bodyPost_ret (by simp [results, Tryd.results28, go_sem, r0, r1, r2]; try rfl) rfl ?_)
    have hEv : R.ev = _ := HEv
    have hMem : R.mem = _ := HMem
    have hSt : R.ev.kind = 0 → _ := HSt
    first | exact ⟨_, congrArg (fun x => Ending.returned (Cpu.ev x)) hEv.symm, hMem ▸ (hend _ _ _).1, (hend _ _ _).2.1, hSt, (hend _ _ _).2.2⟩ | exact ⟨congrArg (fun x => Ending.returned (Cpu.ev x)) hEv.symm, hMem ▸ (hend _ _ _).1, _, (hend _ _ _).2.1, hSt, (hend _ _ _).2.2⟩
  by_cases h9 : op ≤ 47
  · skip
    have hb5 : 46 ≤ op ∧ op ≤ 47 := by omega
    have hrun := run_f S ⟨op, d, p, q, imm⟩ s hb5
    have hEv : R.ev = nx := by rw [← hR, hrun]
    have hMem : R.mem = S := by rw [← hR, hrun]
    have hSt : R.ev.kind = 0 → (aft s).put 0 0 = R.st := fun _ => by rw [← hR, hrun]; exact done_stay s
    obtain ⟨⟨e0, e1, e2, g0, g1, g2⟩, hend⟩ := hEnd _ _ (Bq.refl b wx) hSx
    have b1 : (op == 1) = false := by simp; omega
    have b2 : (op == 2) = false := by simp; omega
    have b3 : (op == 3) = false := by simp; omega
    have b4 : (op == 4) = false := by simp; omega
    have b48 : (op == 48) = false := by simp; omega
    have b49 : (op == 49) = false := by simp; omega
    have o5 := hb5.1
    clear hEnd hrun hR hA hx hxp hxq htx hkx hHx hE hI hH ht hto
    have HEv : Hid _ := hEv
    have HMem : Hid _ := hMem
    have HSt : Hid _ := hSt
    clear hEv hMem hSt
    go_enter Tryd.func28, Tryd.ntmps28
    go_wp2_with fail
    ((try simp only [Exit.inBlock, Exit.then]); obtain ⟨r0, r1, r2⟩ := evSet e0 e1 e2; refine bodyPost_ret (by simp [results, Tryd.results28, go_sem, r0, r1, r2]; try rfl) rfl ?_)
    have hEv : R.ev = _ := HEv
    have hMem : R.mem = _ := HMem
    have hSt : R.ev.kind = 0 → _ := HSt
    first | exact ⟨_, congrArg (fun x => Ending.returned (Cpu.ev x)) hEv.symm, hMem ▸ (hend _ _ _).1, (hend _ _ _).2.1, hSt, (hend _ _ _).2.2⟩ | exact ⟨congrArg (fun x => Ending.returned (Cpu.ev x)) hEv.symm, hMem ▸ (hend _ _ _).1, _, (hend _ _ _).2.1, hSt, (hend _ _ _).2.2⟩
  by_cases h10 : op = 48
  · skip
    subst h10
    have hEv : R.ev = ⟨5, s.pc, 0⟩ := by rw [← hR]; rfl
    have hMem : R.mem = S := by rw [← hR]; rfl
    have hSt : R.ev.kind = 0 → (aft s).put 0 0 = R.st := by rw [hEv]; intro h; simp at h
    obtain ⟨⟨e0, e1, e2, g0, g1, g2⟩, hend⟩ := hEnd _ _ (Bq.refl b wx) hSx
    clear hEnd hR hA hx hxp hxq htx hkx hHx hE hI hH ht hto
    have HEv : Hid _ := hEv
    have HMem : Hid _ := hMem
    have HSt : Hid _ := hSt
    clear hEv hMem hSt
    go_enter Tryd.func28, Tryd.ntmps28
    go_wp2_with fail
    ((try simp only [Exit.inBlock, Exit.then]); obtain ⟨r0, r1, r2⟩ := evSet e0 e1 e2; refine bodyPost_ret (by simp [results, Tryd.results28, go_sem, r0, r1, r2]; try rfl) rfl ?_)
    have hEv : R.ev = _ := HEv
    have hMem : R.mem = _ := HMem
    have hSt : R.ev.kind = 0 → _ := HSt
    first | exact ⟨_, congrArg (fun x => Ending.returned (Cpu.ev x)) hEv.symm, hMem ▸ (hend _ _ _).1, (hend _ _ _).2.1, hSt, (hend _ _ _).2.2⟩ | exact ⟨congrArg (fun x => Ending.returned (Cpu.ev x)) hEv.symm, hMem ▸ (hend _ _ _).1, _, (hend _ _ _).2.1, hSt, (hend _ _ _).2.2⟩
  by_cases h11 : op = 49
  · skip
    subst h11
    have hEv : R.ev = ⟨6, s.pc, 0⟩ := by rw [← hR]; rfl
    have hMem : R.mem = S := by rw [← hR]; rfl
    have hSt : R.ev.kind = 0 → (aft s).put 0 0 = R.st := by rw [hEv]; intro h; simp at h
    obtain ⟨⟨e0, e1, e2, g0, g1, g2⟩, hend⟩ := hEnd _ _ (Bq.refl b wx) hSx
    clear hEnd hR hA hx hxp hxq htx hkx hHx hE hI hH ht hto
    have HEv : Hid _ := hEv
    have HMem : Hid _ := hMem
    have HSt : Hid _ := hSt
    clear hEv hMem hSt
    go_enter Tryd.func28, Tryd.ntmps28
    go_wp2_with fail
    ((try simp only [Exit.inBlock, Exit.then]); obtain ⟨r0, r1, r2⟩ := evSet e0 e1 e2; refine bodyPost_ret (by simp [results, Tryd.results28, go_sem, r0, r1, r2]; try rfl) rfl ?_)
    have hEv : R.ev = _ := HEv
    have hMem : R.mem = _ := HMem
    have hSt : R.ev.kind = 0 → _ := HSt
    first | exact ⟨_, congrArg (fun x => Ending.returned (Cpu.ev x)) hEv.symm, hMem ▸ (hend _ _ _).1, (hend _ _ _).2.1, hSt, (hend _ _ _).2.2⟩ | exact ⟨congrArg (fun x => Ending.returned (Cpu.ev x)) hEv.symm, hMem ▸ (hend _ _ _).1, _, (hend _ _ _).2.1, hSt, (hend _ _ _).2.2⟩
  exact absurd hOp.2 (by omega)
end Go.Proofs.YtbackacbdfgdoaaDoor
