/- LAYER 10's walks: putWord, layNumbers. -/
import Derived.Test.YthicidkjhpnleaaStkW2
namespace Go.Proofs.Ythicidkjhpnleaa
open Go.ChangeShapes Go.WideShapes Go.ChangeAt Go.RowKit
set_option linter.unusedSimpArgs false

set_option maxHeartbeats 2000000 in
set_option maxRecDepth 100000 in
theorem putWord_c {w : World} {gb o m c : Nat} (x : Int) (x0 : 0 ≤ x) (x1 : x < 4294967296) (hm : 4 ≤ m) (hf : ∀ j, j < 4 → (w.cell? ⟨gb, o + j, none⟩).isSome = true ∧ w.frozen? ⟨gb, o + j, none⟩ = false) :
    Calls Try.prog 32 #[.slice (some ⟨gb, o, none⟩) m c, .int .u32 x] w fun e w' => e = .returned (.tuple #[]) ∧ w' = w.setCells gb o (ints8 (Fee.w4 x)) := by
  obtain ⟨u0, hu0⟩ := Option.isSome_iff_exists.1 (hf 0 (by omega)).1
  obtain ⟨u1, hu1⟩ := Option.isSome_iff_exists.1 (hf 1 (by omega)).1
  obtain ⟨u2, hu2⟩ := Option.isSome_iff_exists.1 (hf 2 (by omega)).1
  obtain ⟨u3, hu3⟩ := Option.isSome_iff_exists.1 (hf 3 (by omega)).1
  have f0 := (hf 0 (by omega)).2
  have f1 := (hf 1 (by omega)).2
  have f2 := (hf 2 (by omega)).2
  have f3 := (hf 3 (by omega)).2
  rw [Nat.add_zero] at hu0 f0
  clear hf
  have m0 : (0 : Int) < m := by omega
  have m1 : (1 : Int) < m := by omega
  have m2 : (2 : Int) < m := by omega
  have m3 : (3 : Int) < m := by omega
  go_enter Try.func32, Try.ntmps32
  go_wp2_with fail
  refine wp_loop_rounds 5 ?_
  iterate 5 (rw [rounds_succ]; go_wp2_with fail)
  go_returns
  refine ⟨rfl, ?_⟩
  simp [World.setCells, ints8, Fee.w4]
theorem Own8.cells {w0 w : World} {gb cap n : Nat} {L : List Int} (h : Own8 w0 w (.slice (some ⟨gb, 0, none⟩) n cap) L) (hn : n = L.length) : n ≤ cap ∧ ∀ j, j < n → (w.cell? ⟨gb, j, none⟩).isSome = true ∧ w.frozen? ⟨gb, j, none⟩ = false := by
  rcases h with ⟨h, _⟩ | ⟨g, cap', h0, g1, g2, g3, g4, g5, g6⟩
  · simp at h
  · simp at h0
    obtain ⟨rfl, -, rfl⟩ := h0
    exact ⟨by omega, fun j hj => g6 j (by omega)⟩
def Stk.adr (p : Nat × Nat) : Int := 2147475456 + (p.1 : Int)
set_option maxHeartbeats 2000000 in
set_option maxRecDepth 100000 in
theorem layNumbers_c (w0 w : World) (gb cap o m c pg n cp : Nat) (L : List Int) (ps : List (Nat × Nat)) (hbw : Bw w0 w) (hL : L.length = 4096) (hO : Own8 w0 w (.slice (some ⟨gb, 0, none⟩) 4096 cap) L) (hgb : w0.heap.size ≤ gb) (hP : PlW w pg n ps n) (hne : pg ≠ gb) (hps : ps.length = n) (hn : n ≤ 16) (hp4 : ∀ p ∈ ps, p.1 ≤ 4096)
    (hm : 4 * (n + 2) ≤ m) (hmc : m ≤ c) (ho : o + 4 * (n + 1) ≤ 4096) (hcp : n ≤ cp) :
    Calls Try.prog 22 #[.slice (some ⟨gb, o, none⟩) m c, .slice (some ⟨pg, 0, none⟩) n cp] w fun e w' => e = .returned (.tuple #[]) ∧ Own8 w0 w' (.slice (some ⟨gb, 0, none⟩) 4096 cap) (Stk.nms L o ((n : Int) :: ps.map Stk.adr)) ∧ Bw w0 w' ∧ PlW w' pg n ps n := by
  have hOL : Own8 w0 w (.slice (some ⟨gb, 0, none⟩) L.length cap) L := by rw [hL]; exact hO
  obtain ⟨hcap, hcells⟩ := Own8.cells hO hL.symm
  have hPw := putWord_c (w := w) (gb := gb) (o := o) (m := m) (c := c) (n : Int) (by omega) (by omega) (by omega) (fun j hj => hcells _ (by omega))
  have hO1 := hOL.over o (Fee.w4 n) (by rw [Fee.w4_len]; omega)
  rw [hL] at hO1
  have hq1 : Bq gb w (w.setCells gb o (ints8 (Fee.w4 n))) := Bq.cells w o _
  have hb1 := hq1.toBw hbw hgb
  have hP1 := hP.blk (hq1.block pg hP.lt hne)
  have hL1 : (ovr L o (Fee.w4 n)).length = 4096 := by rw [ovr_len (by rw [Fee.w4_len]; omega), hL]
  obtain ⟨W1, hW1⟩ : ∃ W1, w.setCells gb o (ints8 (Fee.w4 n)) = W1 := ⟨_, rfl⟩
  rw [hW1] at hPw hO1 hq1 hb1 hP1
  generalize hR : Stk.nms L o ((n : Int) :: ps.map Stk.adr) = R
  have HR : Hid (Stk.nms (ovr L o (Fee.w4 n)) (o + 4 * (0 + 1)) ((ps.drop 0).map Stk.adr) = R) := hR
  have hn8 : (n : Int) % 4294967296 = n := by omega
  clear hR hW1 hO hOL hP hq1 hcells hbw
  go_enter Try.func22, Try.ntmps22
  go_wp2_with fail
  refine hPw.mono ?_
  rintro e w1 ⟨rfl, rfl⟩
  go_wp2_with fail
  go_loopg [13] n (fun g j wr => ∃ (k : Nat) (M : List Int), k + g = n ∧ j = .int .i64 k ∧ Bw w0 wr ∧ M.length = 4096 ∧ Own8 w0 wr (.slice (some ⟨gb, 0, none⟩) 4096 cap) M ∧ Stk.nms M (o + 4 * (k + 1)) ((ps.drop k).map Stk.adr) = R ∧ PlW wr pg n ps n)
  case atStart => exact ⟨0, _, by omega, rfl, hb1, hL1, hO1, HR, hP1⟩
  case round =>
    obtain ⟨k, M, hkg, rfl, hbr, hM, hOr, hrun, hPr⟩ := hrel
    have HRun : Hid _ := hrun
    clear hrun HR hO1 hb1 hP1 hPw
    by_cases hk : k = n
    · subst hk
      have hRe : M = R := by
        have h1 : Stk.nms M (o + 4 * (k + 1)) ((ps.drop k).map Stk.adr) = R := HRun
        rw [List.drop_eq_nil_of_le (by omega)] at h1
        exact h1
      subst hRe
      go_wp2_with fail
      go_returns
      exact ⟨rfl, hOr, hbr, hPr⟩
    · have hkl : k < n := by omega
      have hki : (k : Int) < (n : Int) := by omega
      obtain ⟨p, hp, hd⟩ := dropAt (l := ps) (k := k) (by omega)
      have hp1 := hp4 p (List.mem_of_getElem? hp)
      rw [hd] at HRun
      obtain ⟨c0, c1⟩ := hPr.c k p hkl hp
      have hsl : ∀ w, (Instr.slice 23 (.slice (some ⟨gb, o, none⟩) m c) (some (.int .i64 (4 * ((k : Int) + 1)))) none none).run Try.prog w = .ok (.slice (some ⟨gb, o + 4 * (k + 1), none⟩) (m - 4 * (k + 1)) (c - 4 * (k + 1))) w := fun w => by
        have := slice_own gb o m c (4 * (k + 1)) (by omega) hmc (by omega) w
        rwa [show ((4 * (k + 1) : Nat) : Int) = 4 * ((k : Int) + 1) by omega] at this
      have hal : Bw wr ((wr.alloc (.cells #[.int .u32 (2147475456 + (p.1 : Int)), .int .i64 (p.2 : Int)] 45)).drew) := ((Bw.refl wr).alloc _).drew
      obtain ⟨W2, hW2⟩ : ∃ W2, (wr.alloc (.cells #[.int .u32 (2147475456 + (p.1 : Int)), .int .i64 (p.2 : Int)] 45)).drew = W2 := ⟨_, rfl⟩
      have hO2 : Own8 w0 W2 (.slice (some ⟨gb, 0, none⟩) 4096 cap) M := by rw [← hW2]; exact hOr.bw hal
      have hgbr : gb < wr.heap.size := (hOr.blk gb rfl).2
      have hOM : Own8 w0 W2 (.slice (some ⟨gb, 0, none⟩) M.length cap) M := by rw [hM]; exact hO2
      obtain ⟨-, hcells⟩ := Own8.cells hO2 hM.symm
      have hPk := putWord_c (w := W2) (gb := gb) (o := o + 4 * (k + 1)) (m := m - 4 * (k + 1)) (c := c - 4 * (k + 1)) (2147475456 + (p.1 : Int)) (by omega) (by omega) (by omega) (fun j hj => hcells _ (by omega))
      have hO3 := hOM.over (o + 4 * (k + 1)) (Fee.w4 (2147475456 + (p.1 : Int))) (by rw [Fee.w4_len]; omega)
      rw [hM] at hO3
      have hM3 : (ovr M (o + 4 * (k + 1)) (Fee.w4 (2147475456 + (p.1 : Int)))).length = 4096 := by rw [ovr_len (by rw [Fee.w4_len]; omega), hM]
      have hb2 : Bw w0 W2 := by rw [← hW2]; exact hbr.trans hal
      have hP2 : PlW W2 pg n ps n := by rw [← hW2]; exact hPr.blk (Below.block hal pg hPr.lt)
      have hq3 : Bq gb W2 (W2.setCells gb (o + 4 * (k + 1)) (ints8 (Fee.w4 (2147475456 + (p.1 : Int))))) := Bq.cells W2 _ _
      have hb3 := hq3.toBw hb2 hgb
      have hP3 := hP2.blk (hq3.block pg hP2.lt hne)
      have HRun2 : Hid (Stk.nms (ovr M (o + 4 * (k + 1)) (Fee.w4 (2147475456 + (p.1 : Int)))) (o + 4 * (k + 1 + 1)) ((ps.drop (k + 1)).map Stk.adr) = R) := HRun
      obtain ⟨W3, hW3⟩ : ∃ W3, W2.setCells gb (o + 4 * (k + 1)) (ints8 (Fee.w4 (2147475456 + (p.1 : Int)))) = W3 := ⟨_, rfl⟩
      rw [hW3] at hPk hO3 hq3 hb3 hP3
      have hS5 : W3.cell? ⟨wr.heap.size, 0, none⟩ = some (.int .u32 (2147475456 + (p.1 : Int))) := by
        rw [cell_block (p := ⟨wr.heap.size, 0, none⟩) (hq3.block wr.heap.size (by rw [← hW2]; simp) (by have := hbr.size; have := hgbr; omega)), ← hW2]
        exact (Box.new wr [.int .u32 (2147475456 + (p.1 : Int)), .int .i64 (p.2 : Int)] 45).c 0 _ rfl
      rw [← hW2] at hPk
      clear hO2 hOM hcells hb2 hP2 hq3 hd hp HRun hW3 hOr hW2 hal
      have hw1 : IntKind.i64.wrap ((k : Int) + 1) = (k : Int) + 1 := by rw [IntKind.wrap_i64]; omega
      have hw2 : IntKind.i64.wrap (4 * ((k : Int) + 1)) = 4 * ((k : Int) + 1) := by rw [IntKind.wrap_i64]; omega
      have hS0 : ((wr.alloc (.cells #[.int .u32 (2147475456 + (p.1 : Int)), .int .i64 (p.2 : Int)] 45)).drew).cell? ⟨wr.heap.size, 0, none⟩ = some (.int .u32 (2147475456 + (p.1 : Int))) :=
        (Box.new wr [.int .u32 (2147475456 + (p.1 : Int)), .int .i64 (p.2 : Int)] 45).c 0 _ rfl
      go_wp2_with fail
      refine wp_region_held_drew (S := fun X => X.cell? ⟨wr.heap.size, 0, none⟩ = some (.int .u32 (2147475456 + (p.1 : Int)))) (by kernel_rfl) hS0 (fun hHeld => ?_)
      refine wpAnyH_take (i := 0) (oi := ⟨some 18, _, _, _, _, _⟩) (v := ?_) rfl (by kernel_rfl) (by kernel_rfl) (by kernel_rfl) (fun _ _ _ h => h) (Or.inl ⟨by rfl, ?_⟩) (by assumption) ?_; (rotate_left 1); (focus (intro wz hSw; (try dsimp only at hSw); go_simp; try (with_reducible rfl))); simp only [Act.put, List.setIfInBounds_toArray, List.set_cons_zero, List.set_cons_succ]
      refine wpAnyH_take (i := 1) (oi := ⟨some 19, _, _, _, _, _⟩) (v := ?_) rfl (by kernel_rfl) (by kernel_rfl) (by kernel_rfl) (fun _ _ _ h => h) (Or.inl ⟨by rfl, ?_⟩) (by assumption) ?_; (rotate_left 1); (focus (intro wz hSw; (try dsimp only at hSw); go_simp; try (with_reducible rfl))); simp only [Act.put, List.setIfInBounds_toArray, List.set_cons_zero, List.set_cons_succ]
      refine wpAnyH_take (i := 2) (oi := ⟨some 20, _, _, _, _, _⟩) (v := ?_) rfl (by kernel_rfl) (by kernel_rfl) (by kernel_rfl) (fun _ _ _ h => h) (Or.inl ⟨by rfl, ?_⟩) (by assumption) ?_; (rotate_left 1); (focus (intro wz hSw; (try dsimp only at hSw); go_simp; try (with_reducible rfl))); simp only [Act.put, List.setIfInBounds_toArray, List.set_cons_zero, List.set_cons_succ]
      refine wpAnyH_take (i := 3) (oi := ⟨some 21, _, _, _, _, _⟩) (v := ?_) rfl (by kernel_rfl) (by kernel_rfl) (by kernel_rfl) (fun _ _ _ h => h) (Or.inl ⟨by rfl, ?_⟩) (by assumption) ?_; (rotate_left 1); (focus (intro wz hSw; (try dsimp only at hSw); go_simp; try (with_reducible rfl))); simp only [Act.put, List.setIfInBounds_toArray, List.set_cons_zero, List.set_cons_succ]
      refine wpAnyH_take (i := 4) (oi := ⟨some 22, _, _, _, _, _⟩) (v := ?_) rfl (by kernel_rfl) (by kernel_rfl) (by kernel_rfl) (fun _ _ _ h => h) (Or.inl ⟨by rfl, ?_⟩) (by assumption) ?_; (rotate_left 1); (focus (intro wz hSw; (try dsimp only at hSw); go_simp; try (with_reducible rfl))); simp only [Act.put, List.setIfInBounds_toArray, List.set_cons_zero, List.set_cons_succ]
      refine wpAnyH_take (i := 5) (oi := ⟨some 23, _, _, _, _, _⟩) (v := ?_) rfl (by kernel_rfl) (by kernel_rfl) (by kernel_rfl) (fun _ _ _ h => h) (Or.inl ⟨by rfl, ?_⟩) (by assumption) ?_; (rotate_left 1); (focus (intro wz hSw; (try dsimp only at hSw); go_simp; try (with_reducible rfl))); simp only [Act.put, List.setIfInBounds_toArray, List.set_cons_zero, List.set_cons_succ]
      refine wpAnyH_take (i := 6) (oi := ⟨some 24, _, _, _, _, _⟩) (v := ?_) rfl (by kernel_rfl) (by kernel_rfl) (by kernel_rfl) (fun _ _ _ h => h) (Or.inl ⟨by rfl, ?_⟩) (by assumption) ?_; (rotate_left 1); (focus (intro wz hSw; (try dsimp only at hSw); go_simp; try (with_reducible rfl))); simp only [Act.put, List.setIfInBounds_toArray, List.set_cons_zero, List.set_cons_succ]
      refine wpAnyH_ready (rs := [7]) (by kernel_rfl) (by simp) ?_; refine AllReadyH.cons rfl (fun K hK => ?_) AllReadyH.nil; go_simp
      refine hPk.mono ?_
      rintro e w5 ⟨rfl, rfl⟩
      (try clear hHeld); refine hK.out _ _ ?_ (fun hHeld => ?_)
      · exact hS5
      refine wpAnyH_done (by kernel_rfl) ?_ _
      go_wp2_with fail
      go_roundg (n - (k + 1))
      case measure => omega
      case rel => exact ⟨k + 1, _, by omega, by simp, hb3, hM3, hO3, HRun2, hP3⟩
end Go.Proofs.Ythicidkjhpnleaa
