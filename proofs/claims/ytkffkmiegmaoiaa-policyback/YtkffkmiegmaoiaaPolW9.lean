/- LAYER 7's laws: pol, samePolicy. -/
import Derived.Test.YtkffkmiegmaoiaaPolQ
namespace Go.Proofs.Ytkffkmiegmaoiaa
open Go.ChangeShapes Go.WideShapes Go.ChangeAt Go.RowKit

theorem infoRSrc : (Try.prog.info? 69).map (fun i => (i.zero, i.size, i.bytes)) = some (some (.agg #[.int .i64 0, .int .u32 0, .int .u32 0, .int .u8 0]), 4, 24) := by kernel_rfl
theorem infoRSnk : (Try.prog.info? 70).map (fun i => (i.zero, i.size, i.bytes)) = some (some (.agg #[.int .i64 0, .int .i64 0, .int .u8 0]), 3, 24) := by kernel_rfl
set_option linter.unusedSimpArgs false
set_option maxHeartbeats 4000000 in
set_option maxRecDepth 100000 in
theorem pol_c (v : Value) (p : Pol.Plc) (w : World) (hv : IsPol w v p) (hl : p.srcs.length ≤ 1000 ∧ p.snks.length ≤ 1000) :
    Calls Try.prog 18 #[v] w fun e w' => ∃ u, e = .returned u ∧ IsPol w' u p ∧ Bw w w' := by
  obtain ⟨v1, v2, rfl, h1, h2⟩ := hv
  have hw1 := h1.2
  have hw2 := h2.2
  obtain ⟨q1, cap1, rfl, hc1, hc2, hcell1⟩ := h1.open
  obtain ⟨q2, cap2, rfl, hd1, hd2, hcell2⟩ := h2.open
  clear h1 h2
  go_enter Try.func18, Try.ntmps18
  go_wp2_with fail
  have hw0 := (Bw.refl w).alloc (.cells #[.bool p.ptr, .slice q1 p.srcs.length cap1, .slice q2 p.snks.length cap2] 26)
  have hP0 := PBox.new w p.ptr (.slice q1 p.srcs.length cap1) (.slice q2 p.snks.length cap2) 26
  have hR0 := PBox.new (w.alloc (.cells #[.bool p.ptr, .slice q1 p.srcs.length cap1, .slice q2 p.snks.length cap2] 26)) false (.slice none 0 0) (.slice none 0 0) 46
  have hQ0 := PBox.new ((w.alloc (.cells #[.bool p.ptr, .slice q1 p.srcs.length cap1, .slice q2 p.snks.length cap2] 26)).alloc (.cells #[.bool false, .slice none 0 0, .slice none 0 0] 46)) p.ptr (.slice none 0 0) (.slice none 0 0) 46
  simp only [World.size_alloc] at hR0 hQ0
  obtain ⟨wA, hwA, hbA, hp0, hr0, hq0⟩ : ∃ wA, (((w.alloc (.cells #[.bool p.ptr, .slice q1 p.srcs.length cap1, .slice q2 p.snks.length cap2] 26)).alloc (.cells #[.bool false, .slice none 0 0, .slice none 0 0] 46)).alloc (.cells #[.bool p.ptr, .slice none 0 0, .slice none 0 0] 46)) = wA ∧ Bw w wA ∧ PBox wA w.heap.size p.ptr (.slice q1 p.srcs.length cap1) (.slice q2 p.snks.length cap2) ∧ PBox wA (w.heap.size + 1) false (.slice none 0 0) (.slice none 0 0) ∧ PBox wA (w.heap.size + 1 + 1) p.ptr (.slice none 0 0) (.slice none 0 0) :=
    ⟨_, rfl, by (repeat' (first | (with_reducible assumption) | (with_reducible exact Bw.refl _) | (with_reducible refine Bw.alloc ?_ _) | (with_reducible refine Bw.drew ?_) | (with_reducible refine Bw.drewN ?_ _) | (with_reducible refine Bw.setCell ?_ ?_ _) | exact Nat.le_refl _)), hP0.bw (((Bw.refl _).alloc _).alloc _), hR0.bw ((Bw.refl _).alloc _), hQ0⟩
  have hpl3 := hq0.lt
  rw [hwA]
  obtain ⟨pb, hpb⟩ : ∃ pb, w.heap.size + 1 + 1 = pb := ⟨_, rfl⟩
  rw [hpb] at hq0 hpl3 ⊢
  have hne0 : w.heap.size ≠ pb := by omega
  have hne1 : w.heap.size + 1 ≠ pb := by omega
  have hlep : w.heap.size ≤ pb := by omega
  clear hwA hP0 hR0 hQ0 hw0 hpb
  go_loopg [4] p.srcs.length (fun g v wr => ∃ k : Nat, ∃ u1 : Value, k + g = p.srcs.length ∧ v = .int .i64 k ∧ Bq pb wA wr ∧ OwnSrc 69 wA wr u1 (p.srcs.take k) ∧ PBox wr pb p.ptr u1 (.slice none 0 0))
  case atStart => exact ⟨0, .slice none 0 0, by omega, rfl, Bq.refl _ _, OwnR.nil _ _ _ _, hq0⟩
  case round =>
    obtain ⟨k, u1, hkg, rfl, hbq, hown, hbox⟩ := hrel
    have hbwr := hbq.toBw hbA hlep
    have hpr := hp0.blk (hbq.block w.heap.size hp0.lt hne0)
    have p0 := hpr.c0; have p1 := hpr.c1; have p2 := hpr.c2
    by_cases hk : k = p.srcs.length
    · subst hk
      rw [List.take_length] at hown
      have hfar := OwnR.far hown
      have hS1 : SrcS wr u1 p.srcs := ⟨OwnR.rd hown, hw1⟩
      have hrr := hr0.blk (hbq.block (w.heap.size + 1) hr0.lt hne1)
      have hplr : pb < wr.heap.size := Nat.lt_of_lt_of_le hpl3 hbq.b0.size
      have hwl := hr0.lt
      have hwO : wA.heap.size ≤ wr.heap.size := hbq.b0.size
      obtain ⟨wO, hwO'⟩ : ∃ x, x = wr := ⟨_, rfl⟩
      subst hwO'
      clear hown
      go_wp2_with fail
      go_loopg [6] p.snks.length (fun g v wx => ∃ k : Nat, ∃ u2 : Value, k + g = p.snks.length ∧ v = .int .i64 k ∧ Bq pb wO wx ∧ OwnSnk 70 wO wx u2 (p.snks.take k) ∧ PBox wx pb p.ptr u1 u2)
      case atStart => exact ⟨0, .slice none 0 0, by omega, rfl, Bq.refl _ _, OwnR.nil _ _ _ _, hbox⟩
      case round =>
        obtain ⟨k, u2, hkg, rfl, hbq2, hown2, hbox2⟩ := hrel
        have hbwx := hbq2.toBw hbwr hlep
        have hpx := hpr.blk (hbq2.block w.heap.size hpr.lt hne0)
        clear p0 p1 p2
        have p2 := hpx.c2
        by_cases hk : k = p.snks.length
        · subst hk
          rw [List.take_length] at hown2
          have hS2 : SnkS wr u2 p.snks := ⟨OwnR.rd hown2, hw2⟩
          have hfar2 := OwnR.far hown2
          have hS1' : SrcS wr u1 p.srcs := SrcS.q hS1 hbq2 (fun q n c e hn => by have := hfar q n c e hn; omega)
          have hrx := hrr.blk (hbq2.block (w.heap.size + 1) hrr.lt hne1)
          have b0 := hbox2.c0; have b1 := hbox2.c1; have b2 := hbox2.c2
          have r0 := hrx.c0; have r1 := hrx.c1; have r2 := hrx.c2; have z0 := hrx.f0; have z1 := hrx.f1; have z2 := hrx.f2
          obtain ⟨qa, na, ca, rfl⟩ : ∃ q n c, u1 = .slice q n c := by obtain ⟨⟨q, c, h1, _⟩, _⟩ := hS1'; exact ⟨q, _, c, h1⟩
          obtain ⟨qb, nb, cb, rfl⟩ : ∃ q n c, u2 = .slice q n c := by obtain ⟨⟨q, c, h1, _⟩, _⟩ := hS2; exact ⟨q, _, c, h1⟩
          have HS1 : Hid _ := hS1'
          have HS2 : Hid _ := hS2
          have HF1 : Hid _ := hfar
          have HF2 : Hid _ := hfar2
          clear hS1 hS1' hS2 hfar hfar2 hown2
          go_wp2_with fail
          (try simp only [Exit.inBlock, Exit.then]); refine bodyPost_ret (by simp [results, Try.results18, go_sem, r0, r1, r2]; try rfl) rfl ?_
          have hQ := (((Bq.refl (w.heap.size + 1) wr).set 0 (.bool p.ptr)).set 1 (.slice qa na ca)).set 2 (.slice qb nb cb)
          refine ⟨_, rfl, ⟨_, _, rfl, SrcS.q HS1 hQ (fun q n c e hn => by have := (show _ from HF1) q n c e hn; omega), SnkS.q HS2 hQ (fun q n c e hn => by have := (show _ from HF2) q n c e hn; omega)⟩, ?_⟩
          exact ((hbwx.setCell (by show w.heap.size ≤ w.heap.size + 1; omega) _).setCell (by show w.heap.size ≤ w.heap.size + 1; omega) _).setCell (by show w.heap.size ≤ w.heap.size + 1; omega) _
        · have hkl : k < p.snks.length := by omega
          have hki : (k : Int) < (p.snks.length : Int) := by omega
          obtain ⟨s, hs, hd⟩ := Pol.drop_at hkl
          obtain ⟨b, o, rfl, hb, c0, c1, c2⟩ := hcell2 k s hs
          have HSX : Hid (∀ X, Bq pb wO X → (X.cell? ⟨w.heap.size, 2, none⟩ = some (.slice (some ⟨b, o, none⟩) p.snks.length cap2) ∧ X.cell? ⟨b, o + k * 3, none⟩ = some (.int .i64 s.kind) ∧ X.cell? ⟨b, o + k * 3 + 1, none⟩ = some (.int .i64 s.arg) ∧ X.cell? ⟨b, o + k * 3 + 2, none⟩ = some (.int .u8 s.mask))) := fun X hX => ⟨hX.keep hpr.c2 hne0, (hX.toBw hbwr hlep).keep c0, (hX.toBw hbwr hlep).keep c1, (hX.toBw hbwr hlep).keep c2⟩
          replace c0 := hbwx.keep c0
          replace c1 := hbwx.keep c1
          replace c2 := hbwx.keep c2
          have b2 := hbox2.c2; have b2f := hbox2.f2
          have b2a := fun o => ((Bw.refl wr).alloc o).keep b2
          have htl : (p.snks.take k).length = k := by rw [List.length_take]; omega
          have hbwd : Bw wr wr.drew := (Bw.refl wr).drew
          obtain ⟨v6, w6, hr6, ho6, hq6, hpb6⟩ := appQ (ty := 44) infoRSnk Try.underlying44 rfl (by omega) (by omega) (OwnR.bw hown2 hbwd) (hbq2.bw hbwd) hplr 1 (Pol.snkC s) rfl (Pol.snkC_one _) (by omega)
          rw [htl] at ho6
          obtain ⟨g6, cp6, rfl⟩ := OwnR.form ho6 (by omega)
          have hr7 : (Builtin.append_ #[44, 44] 44 #[u2, .slice (some ⟨wr.heap.size, 0, none⟩) 1 1]).run Try.prog (wr.drew.alloc (.cells #[.int .i64 s.kind, .int .i64 s.arg, .int .u8 s.mask] 70)) = .ok (.slice (some ⟨g6, 0, none⟩) (k + 1) cp6) w6 := hr6
          have hbox6 := (hbox2.bw hbwd).blk hpb6
          have e1 := hbox6.c2; have e1f := hbox6.f2
          have HT : Hid _ := Pol.take_flat Pol.snkC hs
          have HTl : Hid ((p.snks.take (k + 1)).length = k + 1) := by show _ = _; rw [List.length_take]; omega
          clear hr6 hd hs
          go_wp2_with fail
          refine wp_region_held_drew (S := fun wr => wr.cell? ⟨w.heap.size, 2, none⟩ = some (.slice (some ⟨b, o, none⟩) p.snks.length cap2) ∧ wr.cell? ⟨b, o + k * 3, none⟩ = some (.int .i64 s.kind) ∧ wr.cell? ⟨b, o + k * 3 + 1, none⟩ = some (.int .i64 s.arg) ∧ wr.cell? ⟨b, o + k * 3 + 2, none⟩ = some (.int .u8 s.mask)) (by kernel_rfl) ⟨hbwd.keep p2, hbwd.keep c0, hbwd.keep c1, hbwd.keep c2⟩ (fun hHeld => ?_)
          refine wpAnyH_take (i := 0) (oi := ⟨some 43, _, _, _, _, _⟩) (v := ?_) rfl (by kernel_rfl) (by kernel_rfl) (by kernel_rfl) (fun _ _ _ h => h) (Or.inl ⟨by rfl, ?_⟩) (by assumption) ?_; (rotate_left 1); (focus (intro wz hSw; (try dsimp only at hSw); go_simp; try (with_reducible rfl))); simp only [Act.put, List.setIfInBounds_toArray, List.set_cons_zero, List.set_cons_succ]
          refine wpAnyH_take (i := 2) (oi := ⟨some 45, _, _, _, _, _⟩) (v := ?_) rfl (by kernel_rfl) (by kernel_rfl) (by kernel_rfl) (fun _ _ _ h => h) (Or.inl ⟨by rfl, ?_⟩) (by assumption) ?_; (rotate_left 1); (focus (intro wz hSw; (try dsimp only at hSw); go_simp; try (with_reducible rfl))); simp only [Act.put, List.setIfInBounds_toArray, List.set_cons_zero, List.set_cons_succ]
          refine wpAnyH_take (i := 3) (oi := ⟨some 46, _, _, _, _, _⟩) (v := ?_) rfl (by kernel_rfl) (by kernel_rfl) (by kernel_rfl) (fun _ _ _ h => h) (Or.inl ⟨by rfl, ?_⟩) (by assumption) ?_; (rotate_left 1); (focus (intro wz hSw; (try dsimp only at hSw); go_simp; try (with_reducible rfl))); simp only [Act.put, List.setIfInBounds_toArray, List.set_cons_zero, List.set_cons_succ]
          refine wpAnyH_take (i := 4) (oi := ⟨some 47, _, _, _, _, _⟩) (v := ?_) rfl (by kernel_rfl) (by kernel_rfl) (by kernel_rfl) (fun _ _ _ h => h) (Or.inl ⟨by rfl, ?_⟩) (by assumption) ?_; (rotate_left 1); (focus (intro wz hSw; (try dsimp only at hSw); go_simp; try (with_reducible rfl))); simp only [Act.put, List.setIfInBounds_toArray, List.set_cons_zero, List.set_cons_succ]
          refine wpAnyH_take (i := 5) (oi := ⟨some 48, _, _, _, _, _⟩) (v := ?_) rfl (by kernel_rfl) (by kernel_rfl) (by kernel_rfl) (fun _ _ _ h => h) (Or.inl ⟨by rfl, ?_⟩) (by assumption) ?_; (rotate_left 1); (focus (intro wz hSw; (try dsimp only at hSw); go_simp; try (with_reducible rfl))); simp only [Act.put, List.setIfInBounds_toArray, List.set_cons_zero, List.set_cons_succ]
          refine wpAnyH_take (i := 6) (oi := ⟨some 49, _, _, _, _, _⟩) (v := ?_) rfl (by kernel_rfl) (by kernel_rfl) (by kernel_rfl) (fun _ _ _ h => h) (Or.inl ⟨by rfl, ?_⟩) (by assumption) ?_; (rotate_left 1); (focus (intro wz hSw; (try dsimp only at hSw); go_simp; try (with_reducible rfl))); simp only [Act.put, List.setIfInBounds_toArray, List.set_cons_zero, List.set_cons_succ]
          refine wpAnyH_take (i := 7) (oi := ⟨some 50, _, _, _, _, _⟩) (v := ?_) rfl (by kernel_rfl) (by kernel_rfl) (by kernel_rfl) (fun _ _ _ h => h) (Or.inl ⟨by rfl, ?_⟩) (by assumption) ?_; (rotate_left 1); (focus (intro wz hSw; (try dsimp only at hSw); go_simp; try (with_reducible rfl))); simp only [Act.put, List.setIfInBounds_toArray, List.set_cons_zero, List.set_cons_succ]
          refine wpAnyH_take (i := 8) (oi := ⟨some 51, _, _, _, _, _⟩) (v := ?_) rfl (by kernel_rfl) (by kernel_rfl) (by kernel_rfl) (fun _ _ _ h => h) (Or.inl ⟨by rfl, ?_⟩) (by assumption) ?_; (rotate_left 1); (focus (intro wz hSw; (try dsimp only at hSw); go_simp; try (with_reducible rfl))); simp only [Act.put, List.setIfInBounds_toArray, List.set_cons_zero, List.set_cons_succ]
          refine wpAnyH_take (i := 9) (oi := ⟨some 52, _, _, _, _, _⟩) (v := ?_) rfl (by kernel_rfl) (by kernel_rfl) (by kernel_rfl) (fun _ _ _ h => h) (Or.inl ⟨by rfl, ?_⟩) (by assumption) ?_; (rotate_left 1); (focus (intro wz hSw; (try dsimp only at hSw); go_simp; try (with_reducible rfl))); simp only [Act.put, List.setIfInBounds_toArray, List.set_cons_zero, List.set_cons_succ]
          refine wpAnyH_take (i := 10) (oi := ⟨some 53, _, _, _, _, _⟩) (v := ?_) rfl (by kernel_rfl) (by kernel_rfl) (by kernel_rfl) (fun _ _ _ h => h) (Or.inl ⟨by rfl, ?_⟩) (by assumption) ?_; (rotate_left 1); (focus (intro wz hSw; (try dsimp only at hSw); go_simp; try (with_reducible rfl))); simp only [Act.put, List.setIfInBounds_toArray, List.set_cons_zero, List.set_cons_succ]
          refine wpAnyH_take (i := 11) (oi := ⟨some 54, _, _, _, _, _⟩) (v := ?_) rfl (by kernel_rfl) (by kernel_rfl) (by kernel_rfl) (fun _ _ _ h => h) (Or.inl ⟨by rfl, ?_⟩) (by assumption) ?_; (rotate_left 1); (focus (intro wz hSw; (try dsimp only at hSw); go_simp; try (with_reducible rfl))); simp only [Act.put, List.setIfInBounds_toArray, List.set_cons_zero, List.set_cons_succ]
          refine wpAnyH_take (i := 12) (oi := ⟨some 55, _, _, _, _, _⟩) (v := ?_) rfl (by kernel_rfl) (by kernel_rfl) (by kernel_rfl) (fun _ _ _ h => h) (Or.inl ⟨by rfl, ?_⟩) (by assumption) ?_; (rotate_left 1); (focus (intro wz hSw; (try dsimp only at hSw); go_simp; try (with_reducible rfl))); simp only [Act.put, List.setIfInBounds_toArray, List.set_cons_zero, List.set_cons_succ]
          refine wpAnyH_take (i := 13) (oi := ⟨some 56, _, _, _, _, _⟩) (v := ?_) rfl (by kernel_rfl) (by kernel_rfl) (by kernel_rfl) (fun _ _ _ h => h) (Or.inl ⟨by rfl, ?_⟩) (by assumption) ?_; (rotate_left 1); (focus (intro wz hSw; (try dsimp only at hSw); go_simp; try (with_reducible rfl))); simp only [Act.put, List.setIfInBounds_toArray, List.set_cons_zero, List.set_cons_succ]
          refine wpAnyH_take (i := 14) (oi := ⟨some 57, _, _, _, _, _⟩) (v := ?_) rfl (by kernel_rfl) (by kernel_rfl) (by kernel_rfl) (fun _ _ _ h => h) (Or.inl ⟨by rfl, ?_⟩) (by assumption) ?_; (rotate_left 1); (focus (intro wz hSw; (try dsimp only at hSw); go_simp; try (with_reducible rfl))); simp only [Act.put, List.setIfInBounds_toArray, List.set_cons_zero, List.set_cons_succ]
          refine wpAnyH_take (i := 15) (oi := ⟨some 58, _, _, _, _, _⟩) (v := ?_) rfl (by kernel_rfl) (by kernel_rfl) (by kernel_rfl) (fun _ _ _ h => h) (Or.inl ⟨by rfl, ?_⟩) (by assumption) ?_; (rotate_left 1); (focus (intro wz hSw; (try dsimp only at hSw); go_simp; try (with_reducible rfl))); simp only [Act.put, List.setIfInBounds_toArray, List.set_cons_zero, List.set_cons_succ]
          refine wpAnyH_take (i := 16) (oi := ⟨some 59, _, _, _, _, _⟩) (v := ?_) rfl (by kernel_rfl) (by kernel_rfl) (by kernel_rfl) (fun _ _ _ h => h) (Or.inl ⟨by rfl, ?_⟩) (by assumption) ?_; (rotate_left 1); (focus (intro wz hSw; (try dsimp only at hSw); go_simp; try (with_reducible rfl))); simp only [Act.put, List.setIfInBounds_toArray, List.set_cons_zero, List.set_cons_succ]
          refine wpAnyH_take (i := 17) (oi := ⟨some 60, _, _, _, _, _⟩) (v := ?_) rfl (by kernel_rfl) (by kernel_rfl) (by kernel_rfl) (fun _ _ _ h => h) (Or.inl ⟨by rfl, ?_⟩) (by assumption) ?_; (rotate_left 1); (focus (intro wz hSw; (try dsimp only at hSw); go_simp; try (with_reducible rfl))); simp only [Act.put, List.setIfInBounds_toArray, List.set_cons_zero, List.set_cons_succ]
          refine wpAnyH_take (i := 18) (oi := ⟨some 61, _, _, _, _, _⟩) (v := ?_) rfl (by kernel_rfl) (by kernel_rfl) (by kernel_rfl) (fun _ _ _ h => h) (Or.inl ⟨by rfl, ?_⟩) (by assumption) ?_; (rotate_left 1); (focus (intro wz hSw; (try dsimp only at hSw); go_simp; try (with_reducible rfl))); simp only [Act.put, List.setIfInBounds_toArray, List.set_cons_zero, List.set_cons_succ]
          refine wpAnyH_take (i := 19) (oi := ⟨some 62, _, _, _, _, _⟩) (v := ?_) rfl (by kernel_rfl) (by kernel_rfl) (by kernel_rfl) (fun _ _ _ h => h) (Or.inl ⟨by rfl, ?_⟩) (by assumption) ?_; (rotate_left 1); (focus (intro wz hSw; (try dsimp only at hSw); go_simp; try (with_reducible rfl))); simp only [Act.put, List.setIfInBounds_toArray, List.set_cons_zero, List.set_cons_succ]
          refine wpAnyH_take (i := 20) (oi := ⟨some 63, _, _, _, _, _⟩) (v := ?_) rfl (by kernel_rfl) (by kernel_rfl) (by kernel_rfl) (fun _ _ _ h => h) (Or.inl ⟨by rfl, ?_⟩) (by assumption) ?_; (rotate_left 1); (focus (intro wz hSw; (try dsimp only at hSw); go_simp; try (with_reducible rfl))); simp only [Act.put, List.setIfInBounds_toArray, List.set_cons_zero, List.set_cons_succ]
          refine wpAnyH_ready (rs := [1, 21]) (by kernel_rfl) (by simp) ?_
          refine AllReadyH.cons rfl (fun K hK => ?_) (AllReadyH.cons rfl (fun K hK => ?_) AllReadyH.nil)
          · go_simp; (try clear hHeld); refine hK.out _ _ ?_ (fun hHeld => ?_); focus (exact (show ∀ X, _ → _ from HSX) _ (by first | exact hq6 | exact hq6.set _ _ | exact hbq2.bw (by (repeat' (first | (with_reducible assumption) | (with_reducible exact Bw.refl _) | (with_reducible refine Bw.alloc ?_ _) | (with_reducible refine Bw.drew ?_) | (with_reducible refine Bw.drewN ?_ _) | (with_reducible refine Bw.setCell ?_ ?_ _) | exact Nat.le_refl _)))))
            refine wpAnyH_ready (rs := [21]) (by kernel_rfl) (by simp) ?_; refine AllReadyH.cons rfl (fun K hK => ?_) AllReadyH.nil; go_simp; (try clear hHeld); refine hK.out _ _ ?_ (fun hHeld => ?_); focus (exact (show ∀ X, _ → _ from HSX) _ (by first | exact hq6 | exact hq6.set _ _ | exact hbq2.bw (by (repeat' (first | (with_reducible assumption) | (with_reducible exact Bw.refl _) | (with_reducible refine Bw.alloc ?_ _) | (with_reducible refine Bw.drew ?_) | (with_reducible refine Bw.drewN ?_ _) | (with_reducible refine Bw.setCell ?_ ?_ _) | exact Nat.le_refl _)))))
            refine wpAnyH_ready (rs := [22]) (by kernel_rfl) (by simp) ?_; refine AllReadyH.cons rfl (fun K hK => ?_) AllReadyH.nil; refine stepApp rfl _ _ 44 rfl rfl rfl hr7 ?_; (try clear hHeld); refine hK.out _ _ ?_ (fun hHeld => ?_); focus (exact (show ∀ X, _ → _ from HSX) _ (by first | exact hq6 | exact hq6.set _ _ | exact hbq2.bw (by (repeat' (first | (with_reducible assumption) | (with_reducible exact Bw.refl _) | (with_reducible refine Bw.alloc ?_ _) | (with_reducible refine Bw.drew ?_) | (with_reducible refine Bw.drewN ?_ _) | (with_reducible refine Bw.setCell ?_ ?_ _) | exact Nat.le_refl _)))))
            simp only [Act.put, List.setIfInBounds_toArray, List.set_cons_zero, List.set_cons_succ]
            refine wpAnyH_take (i := 23) (oi := ⟨some 66, _, _, _, _, _⟩) (v := ?_) rfl (by kernel_rfl) (by kernel_rfl) (by kernel_rfl) (fun _ _ _ h => h) (Or.inl ⟨by rfl, ?_⟩) (by assumption) ?_; (rotate_left 1); (focus (intro wz hSw; (try dsimp only at hSw); go_simp; try (with_reducible rfl))); simp only [Act.put, List.setIfInBounds_toArray, List.set_cons_zero, List.set_cons_succ]
            refine wpAnyH_ready (rs := [24]) (by kernel_rfl) (by simp) ?_; refine AllReadyH.cons rfl (fun K hK => ?_) AllReadyH.nil; go_simp; (try clear hHeld); refine hK.out _ _ ?_ (fun hHeld => ?_); focus (exact (show ∀ X, _ → _ from HSX) _ (by first | exact hq6 | exact hq6.set _ _ | exact hbq2.bw (by (repeat' (first | (with_reducible assumption) | (with_reducible exact Bw.refl _) | (with_reducible refine Bw.alloc ?_ _) | (with_reducible refine Bw.drew ?_) | (with_reducible refine Bw.drewN ?_ _) | (with_reducible refine Bw.setCell ?_ ?_ _) | exact Nat.le_refl _)))))
            refine wpAnyH_done (by kernel_rfl) ?_ _
            go_wp2_with fail
            go_roundg (p.snks.length - (k + 1))
            case measure => omega
            case rel => exact ⟨k + 1, _, by omega, by simp, hq6.set _ _, by unfold OwnSnk; rw [show _ = _ from HT, show _ = k + 1 from HTl]; exact ho6.set hplr _ _, hbox6.set2 _⟩
          · go_simp; (try clear hHeld); refine hK.out _ _ ?_ (fun hHeld => ?_); focus (exact (show ∀ X, _ → _ from HSX) _ (by first | exact hq6 | exact hq6.set _ _ | exact hbq2.bw (by (repeat' (first | (with_reducible assumption) | (with_reducible exact Bw.refl _) | (with_reducible refine Bw.alloc ?_ _) | (with_reducible refine Bw.drew ?_) | (with_reducible refine Bw.drewN ?_ _) | (with_reducible refine Bw.setCell ?_ ?_ _) | exact Nat.le_refl _)))))
            refine wpAnyH_ready (rs := [1]) (by kernel_rfl) (by simp) ?_; refine AllReadyH.cons rfl (fun K hK => ?_) AllReadyH.nil; go_simp; (try clear hHeld); refine hK.out _ _ ?_ (fun hHeld => ?_); focus (exact (show ∀ X, _ → _ from HSX) _ (by first | exact hq6 | exact hq6.set _ _ | exact hbq2.bw (by (repeat' (first | (with_reducible assumption) | (with_reducible exact Bw.refl _) | (with_reducible refine Bw.alloc ?_ _) | (with_reducible refine Bw.drew ?_) | (with_reducible refine Bw.drewN ?_ _) | (with_reducible refine Bw.setCell ?_ ?_ _) | exact Nat.le_refl _)))))
            refine wpAnyH_ready (rs := [22]) (by kernel_rfl) (by simp) ?_; refine AllReadyH.cons rfl (fun K hK => ?_) AllReadyH.nil; refine stepApp rfl _ _ 44 rfl rfl rfl hr7 ?_; (try clear hHeld); refine hK.out _ _ ?_ (fun hHeld => ?_); focus (exact (show ∀ X, _ → _ from HSX) _ (by first | exact hq6 | exact hq6.set _ _ | exact hbq2.bw (by (repeat' (first | (with_reducible assumption) | (with_reducible exact Bw.refl _) | (with_reducible refine Bw.alloc ?_ _) | (with_reducible refine Bw.drew ?_) | (with_reducible refine Bw.drewN ?_ _) | (with_reducible refine Bw.setCell ?_ ?_ _) | exact Nat.le_refl _)))))
            simp only [Act.put, List.setIfInBounds_toArray, List.set_cons_zero, List.set_cons_succ]
            refine wpAnyH_take (i := 23) (oi := ⟨some 66, _, _, _, _, _⟩) (v := ?_) rfl (by kernel_rfl) (by kernel_rfl) (by kernel_rfl) (fun _ _ _ h => h) (Or.inl ⟨by rfl, ?_⟩) (by assumption) ?_; (rotate_left 1); (focus (intro wz hSw; (try dsimp only at hSw); go_simp; try (with_reducible rfl))); simp only [Act.put, List.setIfInBounds_toArray, List.set_cons_zero, List.set_cons_succ]
            refine wpAnyH_ready (rs := [24]) (by kernel_rfl) (by simp) ?_; refine AllReadyH.cons rfl (fun K hK => ?_) AllReadyH.nil; go_simp; (try clear hHeld); refine hK.out _ _ ?_ (fun hHeld => ?_); focus (exact (show ∀ X, _ → _ from HSX) _ (by first | exact hq6 | exact hq6.set _ _ | exact hbq2.bw (by (repeat' (first | (with_reducible assumption) | (with_reducible exact Bw.refl _) | (with_reducible refine Bw.alloc ?_ _) | (with_reducible refine Bw.drew ?_) | (with_reducible refine Bw.drewN ?_ _) | (with_reducible refine Bw.setCell ?_ ?_ _) | exact Nat.le_refl _)))))
            refine wpAnyH_done (by kernel_rfl) ?_ _
            go_wp2_with fail
            go_roundg (p.snks.length - (k + 1))
            case measure => omega
            case rel => exact ⟨k + 1, _, by omega, by simp, hq6.set _ _, by unfold OwnSnk; rw [show _ = _ from HT, show _ = k + 1 from HTl]; exact ho6.set hplr _ _, hbox6.set2 _⟩
    · have hkl : k < p.srcs.length := by omega
      have hki : (k : Int) < (p.srcs.length : Int) := by omega
      obtain ⟨s, hs, hd⟩ := Pol.drop_at hkl
      obtain ⟨b, o, rfl, hb, c0, c1, c2, c3⟩ := hcell1 k s hs
      replace c0 := hbwr.keep c0
      replace c1 := hbwr.keep c1
      replace c2 := hbwr.keep c2
      replace c3 := hbwr.keep c3
      have hws := (Bw.refl wr).alloc (.cells #[.int .i64 s.kind, .int .u32 s.arg, .int .u32 s.len, .int .u8 s.label] 35)
      have hbox1 := hbox.bw hws
      have b1 := hbox1.c1; have b1f := hbox1.f1
      have htl : (p.srcs.take k).length = k := by rw [List.length_take]; omega
      obtain ⟨v6, w6, hr6, ho6, hq6, hpb6⟩ := appQ (ty := 43) infoRSrc Try.underlying43 rfl (by omega) (by omega) (OwnR.bw hown hws) (hbq.bw hws) hpl3 1 (Pol.srcC s) rfl (Pol.srcC_one _) (by omega)
      simp only [World.size_alloc] at hr6
      rw [htl] at ho6
      obtain ⟨g6, cp6, rfl⟩ := OwnR.form ho6 (by omega)
      have hr7 : (Builtin.append_ #[43, 43] 43 #[u1, .slice (some ⟨wr.heap.size + 1, 0, none⟩) 1 1]).run Try.prog ((wr.alloc (.cells #[.int .i64 s.kind, .int .u32 s.arg, .int .u32 s.len, .int .u8 s.label] 35)).alloc (.cells #[.int .i64 s.kind, .int .u32 s.arg, .int .u32 s.len, .int .u8 s.label] 69)) = .ok (.slice (some ⟨g6, 0, none⟩) (k + 1) cp6) w6 := hr6
      have hbox6 := hbox1.blk hpb6
      have e1 := hbox6.c1; have e1f := hbox6.f1
      have HT : Hid _ := Pol.take_flat Pol.srcC hs
      have HTl : Hid ((p.srcs.take (k + 1)).length = k + 1) := by show _ = _; rw [List.length_take]; omega
      clear hr6 hd hs
      go_wp2_with (at_builtin; refine wpApp rfl _ _ 43 rfl rfl rfl hr7 ?_)
      go_roundg (p.srcs.length - (k + 1))
      case measure => omega
      case rel => exact ⟨k + 1, _, by omega, by simp, hq6.set _ _, by unfold OwnSrc; rw [show _ = _ from HT, show _ = k + 1 from HTl]; exact ho6.set hpl3 _ _, hbox6.set1 _⟩
end Go.Proofs.Ytkffkmiegmaoiaa
