/- LAYER 8's walks: allBytes, allSizes, anyShare, entryStands. -/
import Derived.Test.YtaejcbmmapcpgaaImgW1
namespace Go.Proofs.Ytaejcbmmapcpgaa
open Go.ChangeShapes Go.WideShapes Go.ChangeAt Go.RowKit

theorem ret_u64 {a b : Int} {w w' : World} (h : a = b) (g : Bw w w') : Ending.returned (.int .u64 a) = .returned (.int .u64 b) ∧ Bw w w' := ⟨by rw [h], g⟩
theorem ret_i64 {a b : Int} {w w' : World} (h : a = b) (g : Bw w w') : Ending.returned (.int .i64 a) = .returned (.int .i64 b) ∧ Bw w w' := ⟨by rw [h], g⟩
set_option maxHeartbeats 2000000 in
set_option maxRecDepth 100000 in
theorem allSizes_c (v : Value) (l : List Img.Seg) (w : World) (hv : SegS w v l) (hl : l.length ≤ 1000) : Calls Try.prog 28 #[v] w fun e w' => e = .returned (.int .u64 (Img.sizes l)) ∧ Bw w w' := by
  have hwf := hv.wf
  obtain ⟨q, cap, rfl, hc1, hc2, hcell⟩ := hv.open
  generalize hR : Img.sizes l = R
  have HR : Hid _ := hR
  clear hR
  go_enter Try.func28, Try.ntmps28
  go_wp2_with fail
  go_loopg [3, 8] l.length (fun g a i wr => ∃ k : Nat, ∃ acc : Int, k + g = l.length ∧ a = .int .u64 acc ∧ i = .int .i64 k ∧ Bw w wr ∧ acc + Img.sizes (l.drop k) = R ∧ 0 ≤ acc ∧ acc ≤ k * 4294967296)
  case atStart => exact ⟨0, 0, by omega, rfl, rfl, Bw.refl _, by rw [Int.zero_add]; exact HR, by omega, by omega⟩
  case round =>
    obtain ⟨k, acc, hkg, rfl, rfl, hbw, hrun, ha0, ha1⟩ := hrel
    have HRun : Hid _ := hrun
    clear hrun HR
    by_cases hk : k = l.length
    · subst hk
      have hRe : Hid (acc = R) := by rw [← (show _ = R from HRun), List.drop_length]; show _ = _; simp [Img.sizes]
      go_wp2_with fail
      go_returns
      exact ret_u64 hRe hbw
    · have hkl : k < l.length := by omega
      have hki : (k : Int) < (l.length : Int) := by omega
      obtain ⟨s, hs, hd⟩ := Img.drop_at hkl
      rw [hd, Img.sizes] at HRun
      obtain ⟨b, o, qs, cs, rfl, hb, c0, c1, c2, c3, -, -, -⟩ := hcell k s hs
      replace c0 := hbw.keep c0
      replace c1 := hbw.keep c1
      replace c2 := hbw.keep c2
      replace c3 := hbw.keep c3
      obtain ⟨a0, a1, z0, z1, _, _, _⟩ := hwf s (List.mem_of_getElem? hs)
      have hwz : IntKind.u64.wrap s.size = s.size := by rw [IntKind.wrap_u64]; omega
      have hwa : IntKind.u64.wrap (acc + s.size) = acc + s.size := by rw [IntKind.wrap_u64]; omega
      clear hd hs
      go_wp2_with fail
      go_roundg (l.length - (k + 1))
      case measure => omega
      case rel => exact ⟨k + 1, _, by omega, rfl, by simp, hbw.alloc _, by rw [← (show _ = R from HRun)]; omega, by omega, by omega⟩
set_option maxHeartbeats 2000000 in
set_option maxRecDepth 100000 in
theorem allBytes_c (v : Value) (l : List Img.Seg) (w : World) (hv : SegS w v l) (hl : l.length ≤ 1000) (hb : Img.lens l ≤ 100000000) : Calls Try.prog 23 #[v] w fun e w' => e = .returned (.int .i64 (Img.lens l)) ∧ Bw w w' := by
  obtain ⟨q, cap, rfl, hc1, hc2, hcell⟩ := hv.open
  generalize hR : Img.lens l = R at hb ⊢
  have HR : Hid _ := hR
  clear hR
  go_enter Try.func23, Try.ntmps23
  go_wp2_with fail
  go_loopg [3, 8] l.length (fun g a i wr => ∃ k : Nat, ∃ acc : Nat, k + g = l.length ∧ a = .int .i64 acc ∧ i = .int .i64 k ∧ Bw w wr ∧ acc + Img.lens (l.drop k) = R)
  case atStart => exact ⟨0, 0, by omega, rfl, rfl, Bw.refl _, by rw [Nat.zero_add]; exact HR⟩
  case round =>
    obtain ⟨k, acc, hkg, rfl, rfl, hbw, hrun⟩ := hrel
    have HRun : Hid _ := hrun
    have hacc : acc ≤ 100000000 := by omega
    clear HR
    by_cases hk : k = l.length
    · subst hk
      have hRe : Hid (acc = R) := by rw [← hrun, List.drop_length]; show _ = _; simp [Img.lens]
      clear hrun
      go_wp2_with fail
      go_returns
      exact ret_i64 (congrArg Int.ofNat hRe) hbw
    · have hkl : k < l.length := by omega
      have hki : (k : Int) < (l.length : Int) := by omega
      obtain ⟨s, hs, hd⟩ := Img.drop_at hkl
      rw [hd, Img.lens] at hrun
      have HRun : Hid _ := hrun
      have hlen : (s.bytes.length : Int) ≤ 100000000 := by omega
      obtain ⟨b, o, qs, cs, rfl, hb, c0, c1, c2, c3, -, -, -⟩ := hcell k s hs
      replace c0 := hbw.keep c0
      replace c1 := hbw.keep c1
      replace c2 := hbw.keep c2
      replace c3 := hbw.keep c3
      clear hd hs hrun
      go_wp2_with fail
      go_roundg (l.length - (k + 1))
      case measure => omega
      case rel => exact ⟨k + 1, acc + s.bytes.length, by omega, by simp, by simp, hbw.alloc _, by rw [← (show _ = R from HRun)]; omega⟩
set_option maxHeartbeats 2000000 in
set_option maxRecDepth 100000 in
theorem entryStands_c (v : Value) (i : Img.Im) (w : World) (hv : IsImg w v i) : Calls Try.prog 30 #[v] w fun e w' => e = .returned (.bool (Img.entryOk i)) ∧ Bw w w' := by
  obtain ⟨u, rfl, hv, e0, e1⟩ := hv
  have hwf := hv.wf
  obtain ⟨q, cap, rfl, hc1, hc2, hcell⟩ := hv.open
  generalize hR : Img.entryOk i = R
  have HR : Hid _ := hR
  clear hR hv
  by_cases h4 : i.entry % 4 = 0
  rotate_left
  · have hR : Hid (false = R) := by rw [← (show _ = R from HR)]; show _ = _; unfold Img.entryOk; simp [h4]
    go_enter Try.func30, Try.ntmps30
    go_wp2_with fail
    go_returns
    exact ret_bool hR (by (repeat' (first | (with_reducible assumption) | (with_reducible exact Bw.refl _) | (with_reducible refine Bw.alloc ?_ _) | (with_reducible refine Bw.drew ?_) | (with_reducible refine Bw.drewN ?_ _) | (with_reducible refine Bw.setCell ?_ ?_ _) | exact Nat.le_refl _)))
  have hR : Hid (i.segs.any (Img.inX i.entry) = R) := by rw [← (show _ = R from HR)]; show _ = _; unfold Img.entryOk; simp [h4]
  clear HR
  have hwe : IntKind.u64.wrap i.entry = i.entry := by rw [IntKind.wrap_u64]; omega
  go_enter Try.func30, Try.ntmps30
  go_wp2_with fail
  go_loopg [12] i.segs.length (fun g j wr => ∃ k : Nat, k + g = i.segs.length ∧ j = .int .i64 k ∧ Bw w wr ∧ wr.cell? ⟨w.heap.size, 0, none⟩ = some (.int .u32 i.entry) ∧ (i.segs.drop k).any (Img.inX i.entry) = R)
  case atStart => exact ⟨0, by omega, rfl, (Bw.refl _).alloc _, by rw [World.cell?_alloc_at _ _ _ _ (by simp)]; rfl, hR⟩
  case round =>
    obtain ⟨k, hkg, rfl, hbw, hx0, hrun⟩ := hrel
    clear h4
    have HRun : Hid _ := hrun
    clear hrun hR
    by_cases hk : k = i.segs.length
    · subst hk
      have hRe : Hid (false = R) := by rw [List.drop_length] at HRun; exact HRun
      go_wp2_with fail
      go_returns
      exact ret_bool hRe hbw
    · have hkl : k < i.segs.length := by omega
      have hki : (k : Int) < (i.segs.length : Int) := by omega
      obtain ⟨s, hs, hd⟩ := Img.drop_at hkl
      rw [hd, List.any_cons] at HRun
      obtain ⟨b, o, qs, cs, rfl, hb, c0, c1, c2, c3, -, -, -⟩ := hcell k s hs
      replace c0 := hbw.keep c0
      replace c1 := hbw.keep c1
      replace c2 := hbw.keep c2
      replace c3 := hbw.keep c3
      have hE := end_c s (hwf s (List.mem_of_getElem? hs)) qs s.bytes.length cs
      clear hd hs
      have hin : Img.inX i.entry s = ((bits .and .i64 s.perm 4 != 0) && decide (s.addr ≤ i.entry) && decide (i.entry < Img.fin s)) := rfl
      rw [hin] at HRun
      clear hin
      generalize Img.fin s = F at *
      generalize hP : (bits .and .i64 s.perm 4 != 0) = P at *
      generalize hB : decide (s.addr ≤ i.entry) = B at *
      cases P
      · rw [Bool.false_and, Bool.false_and, Bool.false_or] at HRun
        go_wp2_with fail
        obtain ⟨wB, hwB, hbB, hsB⟩ : ∃ wB, wr.alloc (.cells #[.int .u32 s.addr, .int .u32 s.size, .int .i64 s.perm, .slice qs s.bytes.length cs] 30) = wB ∧ Bw wr wB ∧ SBox wB wr.heap.size s (.slice qs s.bytes.length cs) := ⟨_, rfl, (Bw.refl wr).alloc _, SBox.new wr s _ _⟩
        rw [hwB]
        have hBw := (Bw.refl wB).drew
        have hS : ∀ wx, Bw wB wx → (wx.cell? ⟨w.heap.size, 0, none⟩ = some (.int .u32 i.entry) ∧ wx.cell? ⟨wr.heap.size, 0, none⟩ = some (.int .u32 s.addr) ∧ wx.cell? ⟨wr.heap.size, 1, none⟩ = some (.int .u32 s.size) ∧ wx.cell? ⟨wr.heap.size, 2, none⟩ = some (.int .i64 s.perm) ∧ wx.cell? ⟨wr.heap.size, 3, none⟩ = some (.slice qs s.bytes.length cs)) := fun wx g => ⟨(hbB.trans g).keep hx0, g.keep hsB.c0, g.keep hsB.c1, g.keep hsB.c2, g.keep hsB.c3⟩
        refine wp_region_held_drew (S := fun wx => wx.cell? ⟨w.heap.size, 0, none⟩ = some (.int .u32 i.entry) ∧ wx.cell? ⟨wr.heap.size, 0, none⟩ = some (.int .u32 s.addr) ∧ wx.cell? ⟨wr.heap.size, 1, none⟩ = some (.int .u32 s.size) ∧ wx.cell? ⟨wr.heap.size, 2, none⟩ = some (.int .i64 s.perm) ∧ wx.cell? ⟨wr.heap.size, 3, none⟩ = some (.slice qs s.bytes.length cs)) (by kernel_rfl) (hS _ hBw) (fun hHeld => ?_)
        refine wpAnyH_take (i := 0) (oi := ⟨some 16, _, _, _, _, _⟩) (v := ?_) rfl (by kernel_rfl) (by kernel_rfl) (by kernel_rfl) (fun _ _ _ h => h) (Or.inl ⟨by rfl, ?_⟩) (by assumption) ?_; (rotate_left 1); (focus (intro wz hSw; (try dsimp only at hSw); go_simp; try (with_reducible rfl))); simp only [Act.put, List.setIfInBounds_toArray, List.set_cons_zero, List.set_cons_succ]
        refine wpAnyH_take (i := 1) (oi := ⟨some 17, _, _, _, _, _⟩) (v := ?_) rfl (by kernel_rfl) (by kernel_rfl) (by kernel_rfl) (fun _ _ _ h => h) (Or.inl ⟨by rfl, ?_⟩) (by assumption) ?_; (rotate_left 1); (focus (intro wz hSw; (try dsimp only at hSw); go_simp; try (with_reducible rfl))); simp only [Act.put, List.setIfInBounds_toArray, List.set_cons_zero, List.set_cons_succ]
        refine wpAnyH_take (i := 2) (oi := ⟨some 18, _, _, _, _, _⟩) (v := ?_) rfl (by kernel_rfl) (by kernel_rfl) (by kernel_rfl) (fun _ _ _ h => h) (Or.inl ⟨by rfl, ?_⟩) (by assumption) ?_; (rotate_left 1); (focus (intro wz hSw; (try dsimp only at hSw); go_simp; try (with_reducible rfl))); simp only [Act.put, List.setIfInBounds_toArray, List.set_cons_zero, List.set_cons_succ]
        refine wpAnyH_take (i := 3) (oi := ⟨some 19, _, _, _, _, _⟩) (v := ?_) rfl (by kernel_rfl) (by kernel_rfl) (by kernel_rfl) (fun _ _ _ h => h) (Or.inl ⟨by rfl, ?_⟩) (by assumption) ?_; (rotate_left 1); (focus (intro wz hSw; (try dsimp only at hSw); go_simp; try (with_reducible rfl))); simp only [Act.put, List.setIfInBounds_toArray, List.set_cons_zero, List.set_cons_succ]
        refine wpAnyH_take (i := 4) (oi := ⟨some 20, _, _, _, _, _⟩) (v := ?_) rfl (by kernel_rfl) (by kernel_rfl) (by kernel_rfl) (fun _ _ _ h => h) (Or.inl ⟨by rfl, ?_⟩) (by assumption) ?_; (rotate_left 1); (focus (intro wz hSw; (try dsimp only at hSw); go_simp; try (with_reducible rfl))); simp only [Act.put, List.setIfInBounds_toArray, List.set_cons_zero, List.set_cons_succ]
        refine wpAnyH_take (i := 5) (oi := ⟨some 21, _, _, _, _, _⟩) (v := undef) rfl (by kernel_rfl) (by kernel_rfl) (by kernel_rfl) (fun _ _ _ h => h) (Or.inr ⟨by rfl, rfl⟩) (by assumption) ?_; simp only [Act.put, List.setIfInBounds_toArray, List.set_cons_zero, List.set_cons_succ]
        refine wpAnyH_take (i := 6) (oi := ⟨some 22, _, _, _, _, _⟩) (v := undef) rfl (by kernel_rfl) (by kernel_rfl) (by kernel_rfl) (fun _ _ _ h => h) (Or.inr ⟨by rfl, rfl⟩) (by assumption) ?_; simp only [Act.put, List.setIfInBounds_toArray, List.set_cons_zero, List.set_cons_succ]
        refine wpAnyH_take (i := 7) (oi := ⟨some 23, _, _, _, _, _⟩) (v := undef) rfl (by kernel_rfl) (by kernel_rfl) (by kernel_rfl) (fun _ _ _ h => h) (Or.inr ⟨by rfl, rfl⟩) (by assumption) ?_; simp only [Act.put, List.setIfInBounds_toArray, List.set_cons_zero, List.set_cons_succ]
        refine wpAnyH_take (i := 8) (oi := ⟨some 24, _, _, _, _, _⟩) (v := undef) rfl (by kernel_rfl) (by kernel_rfl) (by kernel_rfl) (fun _ _ _ h => h) (Or.inr ⟨by rfl, rfl⟩) (by assumption) ?_; simp only [Act.put, List.setIfInBounds_toArray, List.set_cons_zero, List.set_cons_succ]
        refine wpAnyH_take (i := 9) (oi := ⟨some 25, _, _, _, _, _⟩) (v := undef) rfl (by kernel_rfl) (by kernel_rfl) (by kernel_rfl) (fun _ _ _ h => h) (Or.inr ⟨by rfl, rfl⟩) (by assumption) ?_; simp only [Act.put, List.setIfInBounds_toArray, List.set_cons_zero, List.set_cons_succ]
        refine wpAnyH_take (i := 10) (oi := ⟨some 26, _, _, _, _, _⟩) (v := ?_) rfl (by kernel_rfl) (by kernel_rfl) (by kernel_rfl) (fun _ _ _ h => h) (Or.inl ⟨by rfl, ?_⟩) (by assumption) ?_; (rotate_left 1); (focus (intro wz hSw; (try dsimp only at hSw); go_simp; try (with_reducible rfl))); simp only [Act.put, List.setIfInBounds_toArray, List.set_cons_zero, List.set_cons_succ]
        refine wpAnyH_take (i := 11) (oi := ⟨some 27, _, _, _, _, _⟩) (v := ?_) rfl (by kernel_rfl) (by kernel_rfl) (by kernel_rfl) (fun _ _ _ h => h) (Or.inl ⟨by rfl, ?_⟩) (by assumption) ?_; (rotate_left 1); (focus (intro wz hSw; (try dsimp only at hSw); go_simp; try (with_reducible rfl))); simp only [Act.put, List.setIfInBounds_toArray, List.set_cons_zero, List.set_cons_succ]
        refine wpAnyH_take (i := 12) (oi := ⟨some 28, _, _, _, _, _⟩) (v := undef) rfl (by kernel_rfl) (by kernel_rfl) (by kernel_rfl) (fun _ _ _ h => h) (Or.inr ⟨by rfl, rfl⟩) (by assumption) ?_; simp only [Act.put, List.setIfInBounds_toArray, List.set_cons_zero, List.set_cons_succ]
        refine wpAnyH_take (i := 13) (oi := ⟨some 29, _, _, _, _, _⟩) (v := undef) rfl (by kernel_rfl) (by kernel_rfl) (by kernel_rfl) (fun _ _ _ h => h) (Or.inr ⟨by rfl, rfl⟩) (by assumption) ?_; simp only [Act.put, List.setIfInBounds_toArray, List.set_cons_zero, List.set_cons_succ]
        refine wpAnyH_take (i := 14) (oi := ⟨some 30, _, _, _, _, _⟩) (v := undef) rfl (by kernel_rfl) (by kernel_rfl) (by kernel_rfl) (fun _ _ _ h => h) (Or.inr ⟨by rfl, rfl⟩) (by assumption) ?_; simp only [Act.put, List.setIfInBounds_toArray, List.set_cons_zero, List.set_cons_succ]
        refine wpAnyH_take (i := 15) (oi := ⟨some 31, _, _, _, _, _⟩) (v := undef) rfl (by kernel_rfl) (by kernel_rfl) (by kernel_rfl) (fun _ _ _ h => h) (Or.inr ⟨by rfl, rfl⟩) (by assumption) ?_; simp only [Act.put, List.setIfInBounds_toArray, List.set_cons_zero, List.set_cons_succ]
        refine wpAnyH_take (i := 16) (oi := ⟨some 32, _, _, _, _, _⟩) (v := undef) rfl (by kernel_rfl) (by kernel_rfl) (by kernel_rfl) (fun _ _ _ h => h) (Or.inr ⟨by rfl, rfl⟩) (by assumption) ?_; simp only [Act.put, List.setIfInBounds_toArray, List.set_cons_zero, List.set_cons_succ]
        refine wpAnyH_take (i := 17) (oi := ⟨some 33, _, _, _, _, _⟩) (v := undef) rfl (by kernel_rfl) (by kernel_rfl) (by kernel_rfl) (fun _ _ _ h => h) (Or.inr ⟨by rfl, rfl⟩) (by assumption) ?_; simp only [Act.put, List.setIfInBounds_toArray, List.set_cons_zero, List.set_cons_succ]
        refine wpAnyH_take (i := 18) (oi := ⟨some 34, _, _, _, _, _⟩) (v := ?_) rfl (by kernel_rfl) (by kernel_rfl) (by kernel_rfl) (fun _ _ _ h => h) (Or.inl ⟨by rfl, ?_⟩) (by assumption) ?_; (rotate_left 1); (focus (intro wz hSw; (try dsimp only at hSw); go_simp; try (with_reducible rfl))); simp only [Act.put, List.setIfInBounds_toArray, List.set_cons_zero, List.set_cons_succ]
        refine wpAnyH_done (by kernel_rfl) ?_ _
        go_wp2_with fail
        go_roundg (i.segs.length - (k + 1))
        case measure => omega
        case rel => exact ⟨k + 1, by omega, by simp, (hbw.trans hbB).trans hBw, (hbB.trans hBw).keep hx0, HRun⟩
      cases B
      · rw [Bool.and_false, Bool.false_and, Bool.false_or] at HRun
        go_wp2_with fail
        obtain ⟨wB, hwB, hbB, hsB⟩ : ∃ wB, wr.alloc (.cells #[.int .u32 s.addr, .int .u32 s.size, .int .i64 s.perm, .slice qs s.bytes.length cs] 30) = wB ∧ Bw wr wB ∧ SBox wB wr.heap.size s (.slice qs s.bytes.length cs) := ⟨_, rfl, (Bw.refl wr).alloc _, SBox.new wr s _ _⟩
        rw [hwB]
        have hBw := (Bw.refl wB).drew
        have hS : ∀ wx, Bw wB wx → (wx.cell? ⟨w.heap.size, 0, none⟩ = some (.int .u32 i.entry) ∧ wx.cell? ⟨wr.heap.size, 0, none⟩ = some (.int .u32 s.addr) ∧ wx.cell? ⟨wr.heap.size, 1, none⟩ = some (.int .u32 s.size) ∧ wx.cell? ⟨wr.heap.size, 2, none⟩ = some (.int .i64 s.perm) ∧ wx.cell? ⟨wr.heap.size, 3, none⟩ = some (.slice qs s.bytes.length cs)) := fun wx g => ⟨(hbB.trans g).keep hx0, g.keep hsB.c0, g.keep hsB.c1, g.keep hsB.c2, g.keep hsB.c3⟩
        refine wp_region_held_drew (S := fun wx => wx.cell? ⟨w.heap.size, 0, none⟩ = some (.int .u32 i.entry) ∧ wx.cell? ⟨wr.heap.size, 0, none⟩ = some (.int .u32 s.addr) ∧ wx.cell? ⟨wr.heap.size, 1, none⟩ = some (.int .u32 s.size) ∧ wx.cell? ⟨wr.heap.size, 2, none⟩ = some (.int .i64 s.perm) ∧ wx.cell? ⟨wr.heap.size, 3, none⟩ = some (.slice qs s.bytes.length cs)) (by kernel_rfl) (hS _ hBw) (fun hHeld => ?_)
        refine wpAnyH_take (i := 0) (oi := ⟨some 16, _, _, _, _, _⟩) (v := ?_) rfl (by kernel_rfl) (by kernel_rfl) (by kernel_rfl) (fun _ _ _ h => h) (Or.inl ⟨by rfl, ?_⟩) (by assumption) ?_; (rotate_left 1); (focus (intro wz hSw; (try dsimp only at hSw); go_simp; try (with_reducible rfl))); simp only [Act.put, List.setIfInBounds_toArray, List.set_cons_zero, List.set_cons_succ]
        refine wpAnyH_take (i := 1) (oi := ⟨some 17, _, _, _, _, _⟩) (v := ?_) rfl (by kernel_rfl) (by kernel_rfl) (by kernel_rfl) (fun _ _ _ h => h) (Or.inl ⟨by rfl, ?_⟩) (by assumption) ?_; (rotate_left 1); (focus (intro wz hSw; (try dsimp only at hSw); go_simp; try (with_reducible rfl))); simp only [Act.put, List.setIfInBounds_toArray, List.set_cons_zero, List.set_cons_succ]
        refine wpAnyH_take (i := 2) (oi := ⟨some 18, _, _, _, _, _⟩) (v := ?_) rfl (by kernel_rfl) (by kernel_rfl) (by kernel_rfl) (fun _ _ _ h => h) (Or.inl ⟨by rfl, ?_⟩) (by assumption) ?_; (rotate_left 1); (focus (intro wz hSw; (try dsimp only at hSw); go_simp; try (with_reducible rfl))); simp only [Act.put, List.setIfInBounds_toArray, List.set_cons_zero, List.set_cons_succ]
        refine wpAnyH_take (i := 3) (oi := ⟨some 19, _, _, _, _, _⟩) (v := ?_) rfl (by kernel_rfl) (by kernel_rfl) (by kernel_rfl) (fun _ _ _ h => h) (Or.inl ⟨by rfl, ?_⟩) (by assumption) ?_; (rotate_left 1); (focus (intro wz hSw; (try dsimp only at hSw); go_simp; try (with_reducible rfl))); simp only [Act.put, List.setIfInBounds_toArray, List.set_cons_zero, List.set_cons_succ]
        refine wpAnyH_take (i := 4) (oi := ⟨some 20, _, _, _, _, _⟩) (v := ?_) rfl (by kernel_rfl) (by kernel_rfl) (by kernel_rfl) (fun _ _ _ h => h) (Or.inl ⟨by rfl, ?_⟩) (by assumption) ?_; (rotate_left 1); (focus (intro wz hSw; (try dsimp only at hSw); go_simp; try (with_reducible rfl))); simp only [Act.put, List.setIfInBounds_toArray, List.set_cons_zero, List.set_cons_succ]
        refine wpAnyH_take (i := 5) (oi := ⟨some 21, _, _, _, _, _⟩) (v := ?_) rfl (by kernel_rfl) (by kernel_rfl) (by kernel_rfl) (fun _ _ _ h => h) (Or.inl ⟨by rfl, ?_⟩) (by assumption) ?_; (rotate_left 1); (focus (intro wz hSw; (try dsimp only at hSw); go_simp; try (with_reducible rfl))); simp only [Act.put, List.setIfInBounds_toArray, List.set_cons_zero, List.set_cons_succ]
        refine wpAnyH_take (i := 6) (oi := ⟨some 22, _, _, _, _, _⟩) (v := ?_) rfl (by kernel_rfl) (by kernel_rfl) (by kernel_rfl) (fun _ _ _ h => h) (Or.inl ⟨by rfl, ?_⟩) (by assumption) ?_; (rotate_left 1); (focus (intro wz hSw; (try dsimp only at hSw); go_simp; try (with_reducible rfl))); simp only [Act.put, List.setIfInBounds_toArray, List.set_cons_zero, List.set_cons_succ]
        refine wpAnyH_take (i := 7) (oi := ⟨some 23, _, _, _, _, _⟩) (v := ?_) rfl (by kernel_rfl) (by kernel_rfl) (by kernel_rfl) (fun _ _ _ h => h) (Or.inl ⟨by rfl, ?_⟩) (by assumption) ?_; (rotate_left 1); (focus (intro wz hSw; (try dsimp only at hSw); go_simp; try (with_reducible rfl))); simp only [Act.put, List.setIfInBounds_toArray, List.set_cons_zero, List.set_cons_succ]
        refine wpAnyH_take (i := 8) (oi := ⟨some 24, _, _, _, _, _⟩) (v := ?_) rfl (by kernel_rfl) (by kernel_rfl) (by kernel_rfl) (fun _ _ _ h => h) (Or.inl ⟨by rfl, ?_⟩) (by assumption) ?_; (rotate_left 1); (focus (intro wz hSw; (try dsimp only at hSw); go_simp; try (with_reducible rfl))); simp only [Act.put, List.setIfInBounds_toArray, List.set_cons_zero, List.set_cons_succ]
        refine wpAnyH_take (i := 9) (oi := ⟨some 25, _, _, _, _, _⟩) (v := ?_) rfl (by kernel_rfl) (by kernel_rfl) (by kernel_rfl) (fun _ _ _ h => h) (Or.inl ⟨by rfl, ?_⟩) (by assumption) ?_; (rotate_left 1); (focus (intro wz hSw; (try dsimp only at hSw); go_simp; try (with_reducible rfl))); simp only [Act.put, List.setIfInBounds_toArray, List.set_cons_zero, List.set_cons_succ]
        refine wpAnyH_take (i := 10) (oi := ⟨some 26, _, _, _, _, _⟩) (v := ?_) rfl (by kernel_rfl) (by kernel_rfl) (by kernel_rfl) (fun _ _ _ h => h) (Or.inl ⟨by rfl, ?_⟩) (by assumption) ?_; (rotate_left 1); (focus (intro wz hSw; (try dsimp only at hSw); go_simp; try (with_reducible rfl))); simp only [Act.put, List.setIfInBounds_toArray, List.set_cons_zero, List.set_cons_succ]
        refine wpAnyH_take (i := 11) (oi := ⟨some 27, _, _, _, _, _⟩) (v := ?_) rfl (by kernel_rfl) (by kernel_rfl) (by kernel_rfl) (fun _ _ _ h => h) (Or.inl ⟨by rfl, ?_⟩) (by assumption) ?_; (rotate_left 1); (focus (intro wz hSw; (try dsimp only at hSw); go_simp; try (with_reducible rfl))); simp only [Act.put, List.setIfInBounds_toArray, List.set_cons_zero, List.set_cons_succ]
        refine wpAnyH_take (i := 12) (oi := ⟨some 28, _, _, _, _, _⟩) (v := undef) rfl (by kernel_rfl) (by kernel_rfl) (by kernel_rfl) (fun _ _ _ h => h) (Or.inr ⟨by rfl, rfl⟩) (by assumption) ?_; simp only [Act.put, List.setIfInBounds_toArray, List.set_cons_zero, List.set_cons_succ]
        refine wpAnyH_take (i := 13) (oi := ⟨some 29, _, _, _, _, _⟩) (v := undef) rfl (by kernel_rfl) (by kernel_rfl) (by kernel_rfl) (fun _ _ _ h => h) (Or.inr ⟨by rfl, rfl⟩) (by assumption) ?_; simp only [Act.put, List.setIfInBounds_toArray, List.set_cons_zero, List.set_cons_succ]
        refine wpAnyH_take (i := 14) (oi := ⟨some 30, _, _, _, _, _⟩) (v := undef) rfl (by kernel_rfl) (by kernel_rfl) (by kernel_rfl) (fun _ _ _ h => h) (Or.inr ⟨by rfl, rfl⟩) (by assumption) ?_; simp only [Act.put, List.setIfInBounds_toArray, List.set_cons_zero, List.set_cons_succ]
        refine wpAnyH_take (i := 15) (oi := ⟨some 31, _, _, _, _, _⟩) (v := undef) rfl (by kernel_rfl) (by kernel_rfl) (by kernel_rfl) (fun _ _ _ h => h) (Or.inr ⟨by rfl, rfl⟩) (by assumption) ?_; simp only [Act.put, List.setIfInBounds_toArray, List.set_cons_zero, List.set_cons_succ]
        refine wpAnyH_take (i := 16) (oi := ⟨some 32, _, _, _, _, _⟩) (v := undef) rfl (by kernel_rfl) (by kernel_rfl) (by kernel_rfl) (fun _ _ _ h => h) (Or.inr ⟨by rfl, rfl⟩) (by assumption) ?_; simp only [Act.put, List.setIfInBounds_toArray, List.set_cons_zero, List.set_cons_succ]
        refine wpAnyH_take (i := 17) (oi := ⟨some 33, _, _, _, _, _⟩) (v := undef) rfl (by kernel_rfl) (by kernel_rfl) (by kernel_rfl) (fun _ _ _ h => h) (Or.inr ⟨by rfl, rfl⟩) (by assumption) ?_; simp only [Act.put, List.setIfInBounds_toArray, List.set_cons_zero, List.set_cons_succ]
        refine wpAnyH_take (i := 18) (oi := ⟨some 34, _, _, _, _, _⟩) (v := ?_) rfl (by kernel_rfl) (by kernel_rfl) (by kernel_rfl) (fun _ _ _ h => h) (Or.inl ⟨by rfl, ?_⟩) (by assumption) ?_; (rotate_left 1); (focus (intro wz hSw; (try dsimp only at hSw); go_simp; try (with_reducible rfl))); simp only [Act.put, List.setIfInBounds_toArray, List.set_cons_zero, List.set_cons_succ]
        refine wpAnyH_done (by kernel_rfl) ?_ _
        go_wp2_with fail
        go_roundg (i.segs.length - (k + 1))
        case measure => omega
        case rel => exact ⟨k + 1, by omega, by simp, (hbw.trans hbB).trans hBw, (hbB.trans hBw).keep hx0, HRun⟩
      rw [Bool.true_and, Bool.true_and] at HRun
      by_cases hF : i.entry < F
      · rw [decide_eq_true hF, Bool.true_or] at HRun
        go_wp2_with fail
        obtain ⟨wB, hwB, hbB, hsB⟩ : ∃ wB, wr.alloc (.cells #[.int .u32 s.addr, .int .u32 s.size, .int .i64 s.perm, .slice qs s.bytes.length cs] 30) = wB ∧ Bw wr wB ∧ SBox wB wr.heap.size s (.slice qs s.bytes.length cs) := ⟨_, rfl, (Bw.refl wr).alloc _, SBox.new wr s _ _⟩
        rw [hwB]
        have hBw := (Bw.refl wB).drew
        have hS : ∀ wx, Bw wB wx → (wx.cell? ⟨w.heap.size, 0, none⟩ = some (.int .u32 i.entry) ∧ wx.cell? ⟨wr.heap.size, 0, none⟩ = some (.int .u32 s.addr) ∧ wx.cell? ⟨wr.heap.size, 1, none⟩ = some (.int .u32 s.size) ∧ wx.cell? ⟨wr.heap.size, 2, none⟩ = some (.int .i64 s.perm) ∧ wx.cell? ⟨wr.heap.size, 3, none⟩ = some (.slice qs s.bytes.length cs)) := fun wx g => ⟨(hbB.trans g).keep hx0, g.keep hsB.c0, g.keep hsB.c1, g.keep hsB.c2, g.keep hsB.c3⟩
        refine wp_region_held_drew (S := fun wx => wx.cell? ⟨w.heap.size, 0, none⟩ = some (.int .u32 i.entry) ∧ wx.cell? ⟨wr.heap.size, 0, none⟩ = some (.int .u32 s.addr) ∧ wx.cell? ⟨wr.heap.size, 1, none⟩ = some (.int .u32 s.size) ∧ wx.cell? ⟨wr.heap.size, 2, none⟩ = some (.int .i64 s.perm) ∧ wx.cell? ⟨wr.heap.size, 3, none⟩ = some (.slice qs s.bytes.length cs)) (by kernel_rfl) (hS _ hBw) (fun hHeld => ?_)
        refine wpAnyH_take (i := 0) (oi := ⟨some 16, _, _, _, _, _⟩) (v := ?_) rfl (by kernel_rfl) (by kernel_rfl) (by kernel_rfl) (fun _ _ _ h => h) (Or.inl ⟨by rfl, ?_⟩) (by assumption) ?_; (rotate_left 1); (focus (intro wz hSw; (try dsimp only at hSw); go_simp; try (with_reducible rfl))); simp only [Act.put, List.setIfInBounds_toArray, List.set_cons_zero, List.set_cons_succ]
        refine wpAnyH_take (i := 1) (oi := ⟨some 17, _, _, _, _, _⟩) (v := ?_) rfl (by kernel_rfl) (by kernel_rfl) (by kernel_rfl) (fun _ _ _ h => h) (Or.inl ⟨by rfl, ?_⟩) (by assumption) ?_; (rotate_left 1); (focus (intro wz hSw; (try dsimp only at hSw); go_simp; try (with_reducible rfl))); simp only [Act.put, List.setIfInBounds_toArray, List.set_cons_zero, List.set_cons_succ]
        refine wpAnyH_take (i := 2) (oi := ⟨some 18, _, _, _, _, _⟩) (v := ?_) rfl (by kernel_rfl) (by kernel_rfl) (by kernel_rfl) (fun _ _ _ h => h) (Or.inl ⟨by rfl, ?_⟩) (by assumption) ?_; (rotate_left 1); (focus (intro wz hSw; (try dsimp only at hSw); go_simp; try (with_reducible rfl))); simp only [Act.put, List.setIfInBounds_toArray, List.set_cons_zero, List.set_cons_succ]
        refine wpAnyH_take (i := 3) (oi := ⟨some 19, _, _, _, _, _⟩) (v := ?_) rfl (by kernel_rfl) (by kernel_rfl) (by kernel_rfl) (fun _ _ _ h => h) (Or.inl ⟨by rfl, ?_⟩) (by assumption) ?_; (rotate_left 1); (focus (intro wz hSw; (try dsimp only at hSw); go_simp; try (with_reducible rfl))); simp only [Act.put, List.setIfInBounds_toArray, List.set_cons_zero, List.set_cons_succ]
        refine wpAnyH_take (i := 4) (oi := ⟨some 20, _, _, _, _, _⟩) (v := ?_) rfl (by kernel_rfl) (by kernel_rfl) (by kernel_rfl) (fun _ _ _ h => h) (Or.inl ⟨by rfl, ?_⟩) (by assumption) ?_; (rotate_left 1); (focus (intro wz hSw; (try dsimp only at hSw); go_simp; try (with_reducible rfl))); simp only [Act.put, List.setIfInBounds_toArray, List.set_cons_zero, List.set_cons_succ]
        refine wpAnyH_take (i := 5) (oi := ⟨some 21, _, _, _, _, _⟩) (v := ?_) rfl (by kernel_rfl) (by kernel_rfl) (by kernel_rfl) (fun _ _ _ h => h) (Or.inl ⟨by rfl, ?_⟩) (by assumption) ?_; (rotate_left 1); (focus (intro wz hSw; (try dsimp only at hSw); go_simp; try (with_reducible rfl))); simp only [Act.put, List.setIfInBounds_toArray, List.set_cons_zero, List.set_cons_succ]
        refine wpAnyH_take (i := 6) (oi := ⟨some 22, _, _, _, _, _⟩) (v := ?_) rfl (by kernel_rfl) (by kernel_rfl) (by kernel_rfl) (fun _ _ _ h => h) (Or.inl ⟨by rfl, ?_⟩) (by assumption) ?_; (rotate_left 1); (focus (intro wz hSw; (try dsimp only at hSw); go_simp; try (with_reducible rfl))); simp only [Act.put, List.setIfInBounds_toArray, List.set_cons_zero, List.set_cons_succ]
        refine wpAnyH_take (i := 7) (oi := ⟨some 23, _, _, _, _, _⟩) (v := ?_) rfl (by kernel_rfl) (by kernel_rfl) (by kernel_rfl) (fun _ _ _ h => h) (Or.inl ⟨by rfl, ?_⟩) (by assumption) ?_; (rotate_left 1); (focus (intro wz hSw; (try dsimp only at hSw); go_simp; try (with_reducible rfl))); simp only [Act.put, List.setIfInBounds_toArray, List.set_cons_zero, List.set_cons_succ]
        refine wpAnyH_take (i := 8) (oi := ⟨some 24, _, _, _, _, _⟩) (v := ?_) rfl (by kernel_rfl) (by kernel_rfl) (by kernel_rfl) (fun _ _ _ h => h) (Or.inl ⟨by rfl, ?_⟩) (by assumption) ?_; (rotate_left 1); (focus (intro wz hSw; (try dsimp only at hSw); go_simp; try (with_reducible rfl))); simp only [Act.put, List.setIfInBounds_toArray, List.set_cons_zero, List.set_cons_succ]
        refine wpAnyH_take (i := 9) (oi := ⟨some 25, _, _, _, _, _⟩) (v := ?_) rfl (by kernel_rfl) (by kernel_rfl) (by kernel_rfl) (fun _ _ _ h => h) (Or.inl ⟨by rfl, ?_⟩) (by assumption) ?_; (rotate_left 1); (focus (intro wz hSw; (try dsimp only at hSw); go_simp; try (with_reducible rfl))); simp only [Act.put, List.setIfInBounds_toArray, List.set_cons_zero, List.set_cons_succ]
        refine wpAnyH_take (i := 10) (oi := ⟨some 26, _, _, _, _, _⟩) (v := ?_) rfl (by kernel_rfl) (by kernel_rfl) (by kernel_rfl) (fun _ _ _ h => h) (Or.inl ⟨by rfl, ?_⟩) (by assumption) ?_; (rotate_left 1); (focus (intro wz hSw; (try dsimp only at hSw); go_simp; try (with_reducible rfl))); simp only [Act.put, List.setIfInBounds_toArray, List.set_cons_zero, List.set_cons_succ]
        refine wpAnyH_take (i := 11) (oi := ⟨some 27, _, _, _, _, _⟩) (v := ?_) rfl (by kernel_rfl) (by kernel_rfl) (by kernel_rfl) (fun _ _ _ h => h) (Or.inl ⟨by rfl, ?_⟩) (by assumption) ?_; (rotate_left 1); (focus (intro wz hSw; (try dsimp only at hSw); go_simp; try (with_reducible rfl))); simp only [Act.put, List.setIfInBounds_toArray, List.set_cons_zero, List.set_cons_succ]
        refine wpAnyH_take (i := 12) (oi := ⟨some 28, _, _, _, _, _⟩) (v := ?_) rfl (by kernel_rfl) (by kernel_rfl) (by kernel_rfl) (fun _ _ _ h => h) (Or.inl ⟨by rfl, ?_⟩) (by assumption) ?_; (rotate_left 1); (focus (intro wz hSw; (try dsimp only at hSw); go_simp; try (with_reducible rfl))); simp only [Act.put, List.setIfInBounds_toArray, List.set_cons_zero, List.set_cons_succ]
        refine wpAnyH_take (i := 13) (oi := ⟨some 29, _, _, _, _, _⟩) (v := ?_) rfl (by kernel_rfl) (by kernel_rfl) (by kernel_rfl) (fun _ _ _ h => h) (Or.inl ⟨by rfl, ?_⟩) (by assumption) ?_; (rotate_left 1); (focus (intro wz hSw; (try dsimp only at hSw); go_simp; try (with_reducible rfl))); simp only [Act.put, List.setIfInBounds_toArray, List.set_cons_zero, List.set_cons_succ]
        refine wpAnyH_take (i := 14) (oi := ⟨some 30, _, _, _, _, _⟩) (v := ?_) rfl (by kernel_rfl) (by kernel_rfl) (by kernel_rfl) (fun _ _ _ h => h) (Or.inl ⟨by rfl, ?_⟩) (by assumption) ?_; (rotate_left 1); (focus (intro wz hSw; (try dsimp only at hSw); go_simp; try (with_reducible rfl))); simp only [Act.put, List.setIfInBounds_toArray, List.set_cons_zero, List.set_cons_succ]
        refine wpAnyH_take (i := 15) (oi := ⟨some 31, _, _, _, _, _⟩) (v := ?_) rfl (by kernel_rfl) (by kernel_rfl) (by kernel_rfl) (fun _ _ _ h => h) (Or.inl ⟨by rfl, ?_⟩) (by assumption) ?_; (rotate_left 1); (focus (intro wz hSw; (try dsimp only at hSw); go_simp; try (with_reducible rfl))); simp only [Act.put, List.setIfInBounds_toArray, List.set_cons_zero, List.set_cons_succ]
        refine wpAnyH_ready (rs := [16]) (by kernel_rfl) (by simp) ?_; refine AllReadyH.cons rfl (fun K hK => ?_) AllReadyH.nil; go_simp
        refine (hE _).mono ?_
        rintro e w2 ⟨rfl, hb2⟩
        replace hBw := hBw.trans hb2
        (try clear hHeld); refine hK.out _ _ ?_ (fun hHeld => ?_)
        · exact hS _ hBw
        refine wpAnyH_take (i := 17) (oi := ⟨some 33, _, _, _, _, _⟩) (v := ?_) rfl (by kernel_rfl) (by kernel_rfl) (by kernel_rfl) (fun _ _ _ h => h) (Or.inl ⟨by rfl, ?_⟩) (by assumption) ?_; (rotate_left 1); (focus (intro wz hSw; (try dsimp only at hSw); go_simp; try (with_reducible rfl))); simp only [Act.put, List.setIfInBounds_toArray, List.set_cons_zero, List.set_cons_succ]
        refine wpAnyH_take (i := 18) (oi := ⟨some 34, _, _, _, _, _⟩) (v := ?_) rfl (by kernel_rfl) (by kernel_rfl) (by kernel_rfl) (fun _ _ _ h => h) (Or.inl ⟨by rfl, ?_⟩) (by assumption) ?_; (rotate_left 1); (focus (intro wz hSw; (try dsimp only at hSw); go_simp; try (with_reducible rfl))); simp only [Act.put, List.setIfInBounds_toArray, List.set_cons_zero, List.set_cons_succ]
        refine wpAnyH_done (by kernel_rfl) ?_ _
        go_wp2_with fail
        go_returns
        exact ret_bool HRun ((hbw.trans hbB).trans hBw)
      · rw [decide_eq_false hF, Bool.false_or] at HRun
        go_wp2_with fail
        obtain ⟨wB, hwB, hbB, hsB⟩ : ∃ wB, wr.alloc (.cells #[.int .u32 s.addr, .int .u32 s.size, .int .i64 s.perm, .slice qs s.bytes.length cs] 30) = wB ∧ Bw wr wB ∧ SBox wB wr.heap.size s (.slice qs s.bytes.length cs) := ⟨_, rfl, (Bw.refl wr).alloc _, SBox.new wr s _ _⟩
        rw [hwB]
        have hBw := (Bw.refl wB).drew
        have hS : ∀ wx, Bw wB wx → (wx.cell? ⟨w.heap.size, 0, none⟩ = some (.int .u32 i.entry) ∧ wx.cell? ⟨wr.heap.size, 0, none⟩ = some (.int .u32 s.addr) ∧ wx.cell? ⟨wr.heap.size, 1, none⟩ = some (.int .u32 s.size) ∧ wx.cell? ⟨wr.heap.size, 2, none⟩ = some (.int .i64 s.perm) ∧ wx.cell? ⟨wr.heap.size, 3, none⟩ = some (.slice qs s.bytes.length cs)) := fun wx g => ⟨(hbB.trans g).keep hx0, g.keep hsB.c0, g.keep hsB.c1, g.keep hsB.c2, g.keep hsB.c3⟩
        refine wp_region_held_drew (S := fun wx => wx.cell? ⟨w.heap.size, 0, none⟩ = some (.int .u32 i.entry) ∧ wx.cell? ⟨wr.heap.size, 0, none⟩ = some (.int .u32 s.addr) ∧ wx.cell? ⟨wr.heap.size, 1, none⟩ = some (.int .u32 s.size) ∧ wx.cell? ⟨wr.heap.size, 2, none⟩ = some (.int .i64 s.perm) ∧ wx.cell? ⟨wr.heap.size, 3, none⟩ = some (.slice qs s.bytes.length cs)) (by kernel_rfl) (hS _ hBw) (fun hHeld => ?_)
        refine wpAnyH_take (i := 0) (oi := ⟨some 16, _, _, _, _, _⟩) (v := ?_) rfl (by kernel_rfl) (by kernel_rfl) (by kernel_rfl) (fun _ _ _ h => h) (Or.inl ⟨by rfl, ?_⟩) (by assumption) ?_; (rotate_left 1); (focus (intro wz hSw; (try dsimp only at hSw); go_simp; try (with_reducible rfl))); simp only [Act.put, List.setIfInBounds_toArray, List.set_cons_zero, List.set_cons_succ]
        refine wpAnyH_take (i := 1) (oi := ⟨some 17, _, _, _, _, _⟩) (v := ?_) rfl (by kernel_rfl) (by kernel_rfl) (by kernel_rfl) (fun _ _ _ h => h) (Or.inl ⟨by rfl, ?_⟩) (by assumption) ?_; (rotate_left 1); (focus (intro wz hSw; (try dsimp only at hSw); go_simp; try (with_reducible rfl))); simp only [Act.put, List.setIfInBounds_toArray, List.set_cons_zero, List.set_cons_succ]
        refine wpAnyH_take (i := 2) (oi := ⟨some 18, _, _, _, _, _⟩) (v := ?_) rfl (by kernel_rfl) (by kernel_rfl) (by kernel_rfl) (fun _ _ _ h => h) (Or.inl ⟨by rfl, ?_⟩) (by assumption) ?_; (rotate_left 1); (focus (intro wz hSw; (try dsimp only at hSw); go_simp; try (with_reducible rfl))); simp only [Act.put, List.setIfInBounds_toArray, List.set_cons_zero, List.set_cons_succ]
        refine wpAnyH_take (i := 3) (oi := ⟨some 19, _, _, _, _, _⟩) (v := ?_) rfl (by kernel_rfl) (by kernel_rfl) (by kernel_rfl) (fun _ _ _ h => h) (Or.inl ⟨by rfl, ?_⟩) (by assumption) ?_; (rotate_left 1); (focus (intro wz hSw; (try dsimp only at hSw); go_simp; try (with_reducible rfl))); simp only [Act.put, List.setIfInBounds_toArray, List.set_cons_zero, List.set_cons_succ]
        refine wpAnyH_take (i := 4) (oi := ⟨some 20, _, _, _, _, _⟩) (v := ?_) rfl (by kernel_rfl) (by kernel_rfl) (by kernel_rfl) (fun _ _ _ h => h) (Or.inl ⟨by rfl, ?_⟩) (by assumption) ?_; (rotate_left 1); (focus (intro wz hSw; (try dsimp only at hSw); go_simp; try (with_reducible rfl))); simp only [Act.put, List.setIfInBounds_toArray, List.set_cons_zero, List.set_cons_succ]
        refine wpAnyH_take (i := 5) (oi := ⟨some 21, _, _, _, _, _⟩) (v := ?_) rfl (by kernel_rfl) (by kernel_rfl) (by kernel_rfl) (fun _ _ _ h => h) (Or.inl ⟨by rfl, ?_⟩) (by assumption) ?_; (rotate_left 1); (focus (intro wz hSw; (try dsimp only at hSw); go_simp; try (with_reducible rfl))); simp only [Act.put, List.setIfInBounds_toArray, List.set_cons_zero, List.set_cons_succ]
        refine wpAnyH_take (i := 6) (oi := ⟨some 22, _, _, _, _, _⟩) (v := ?_) rfl (by kernel_rfl) (by kernel_rfl) (by kernel_rfl) (fun _ _ _ h => h) (Or.inl ⟨by rfl, ?_⟩) (by assumption) ?_; (rotate_left 1); (focus (intro wz hSw; (try dsimp only at hSw); go_simp; try (with_reducible rfl))); simp only [Act.put, List.setIfInBounds_toArray, List.set_cons_zero, List.set_cons_succ]
        refine wpAnyH_take (i := 7) (oi := ⟨some 23, _, _, _, _, _⟩) (v := ?_) rfl (by kernel_rfl) (by kernel_rfl) (by kernel_rfl) (fun _ _ _ h => h) (Or.inl ⟨by rfl, ?_⟩) (by assumption) ?_; (rotate_left 1); (focus (intro wz hSw; (try dsimp only at hSw); go_simp; try (with_reducible rfl))); simp only [Act.put, List.setIfInBounds_toArray, List.set_cons_zero, List.set_cons_succ]
        refine wpAnyH_take (i := 8) (oi := ⟨some 24, _, _, _, _, _⟩) (v := ?_) rfl (by kernel_rfl) (by kernel_rfl) (by kernel_rfl) (fun _ _ _ h => h) (Or.inl ⟨by rfl, ?_⟩) (by assumption) ?_; (rotate_left 1); (focus (intro wz hSw; (try dsimp only at hSw); go_simp; try (with_reducible rfl))); simp only [Act.put, List.setIfInBounds_toArray, List.set_cons_zero, List.set_cons_succ]
        refine wpAnyH_take (i := 9) (oi := ⟨some 25, _, _, _, _, _⟩) (v := ?_) rfl (by kernel_rfl) (by kernel_rfl) (by kernel_rfl) (fun _ _ _ h => h) (Or.inl ⟨by rfl, ?_⟩) (by assumption) ?_; (rotate_left 1); (focus (intro wz hSw; (try dsimp only at hSw); go_simp; try (with_reducible rfl))); simp only [Act.put, List.setIfInBounds_toArray, List.set_cons_zero, List.set_cons_succ]
        refine wpAnyH_take (i := 10) (oi := ⟨some 26, _, _, _, _, _⟩) (v := ?_) rfl (by kernel_rfl) (by kernel_rfl) (by kernel_rfl) (fun _ _ _ h => h) (Or.inl ⟨by rfl, ?_⟩) (by assumption) ?_; (rotate_left 1); (focus (intro wz hSw; (try dsimp only at hSw); go_simp; try (with_reducible rfl))); simp only [Act.put, List.setIfInBounds_toArray, List.set_cons_zero, List.set_cons_succ]
        refine wpAnyH_take (i := 11) (oi := ⟨some 27, _, _, _, _, _⟩) (v := ?_) rfl (by kernel_rfl) (by kernel_rfl) (by kernel_rfl) (fun _ _ _ h => h) (Or.inl ⟨by rfl, ?_⟩) (by assumption) ?_; (rotate_left 1); (focus (intro wz hSw; (try dsimp only at hSw); go_simp; try (with_reducible rfl))); simp only [Act.put, List.setIfInBounds_toArray, List.set_cons_zero, List.set_cons_succ]
        refine wpAnyH_take (i := 12) (oi := ⟨some 28, _, _, _, _, _⟩) (v := ?_) rfl (by kernel_rfl) (by kernel_rfl) (by kernel_rfl) (fun _ _ _ h => h) (Or.inl ⟨by rfl, ?_⟩) (by assumption) ?_; (rotate_left 1); (focus (intro wz hSw; (try dsimp only at hSw); go_simp; try (with_reducible rfl))); simp only [Act.put, List.setIfInBounds_toArray, List.set_cons_zero, List.set_cons_succ]
        refine wpAnyH_take (i := 13) (oi := ⟨some 29, _, _, _, _, _⟩) (v := ?_) rfl (by kernel_rfl) (by kernel_rfl) (by kernel_rfl) (fun _ _ _ h => h) (Or.inl ⟨by rfl, ?_⟩) (by assumption) ?_; (rotate_left 1); (focus (intro wz hSw; (try dsimp only at hSw); go_simp; try (with_reducible rfl))); simp only [Act.put, List.setIfInBounds_toArray, List.set_cons_zero, List.set_cons_succ]
        refine wpAnyH_take (i := 14) (oi := ⟨some 30, _, _, _, _, _⟩) (v := ?_) rfl (by kernel_rfl) (by kernel_rfl) (by kernel_rfl) (fun _ _ _ h => h) (Or.inl ⟨by rfl, ?_⟩) (by assumption) ?_; (rotate_left 1); (focus (intro wz hSw; (try dsimp only at hSw); go_simp; try (with_reducible rfl))); simp only [Act.put, List.setIfInBounds_toArray, List.set_cons_zero, List.set_cons_succ]
        refine wpAnyH_take (i := 15) (oi := ⟨some 31, _, _, _, _, _⟩) (v := ?_) rfl (by kernel_rfl) (by kernel_rfl) (by kernel_rfl) (fun _ _ _ h => h) (Or.inl ⟨by rfl, ?_⟩) (by assumption) ?_; (rotate_left 1); (focus (intro wz hSw; (try dsimp only at hSw); go_simp; try (with_reducible rfl))); simp only [Act.put, List.setIfInBounds_toArray, List.set_cons_zero, List.set_cons_succ]
        refine wpAnyH_ready (rs := [16]) (by kernel_rfl) (by simp) ?_; refine AllReadyH.cons rfl (fun K hK => ?_) AllReadyH.nil; go_simp
        refine (hE _).mono ?_
        rintro e w2 ⟨rfl, hb2⟩
        replace hBw := hBw.trans hb2
        (try clear hHeld); refine hK.out _ _ ?_ (fun hHeld => ?_)
        · exact hS _ hBw
        refine wpAnyH_take (i := 17) (oi := ⟨some 33, _, _, _, _, _⟩) (v := ?_) rfl (by kernel_rfl) (by kernel_rfl) (by kernel_rfl) (fun _ _ _ h => h) (Or.inl ⟨by rfl, ?_⟩) (by assumption) ?_; (rotate_left 1); (focus (intro wz hSw; (try dsimp only at hSw); go_simp; try (with_reducible rfl))); simp only [Act.put, List.setIfInBounds_toArray, List.set_cons_zero, List.set_cons_succ]
        refine wpAnyH_take (i := 18) (oi := ⟨some 34, _, _, _, _, _⟩) (v := ?_) rfl (by kernel_rfl) (by kernel_rfl) (by kernel_rfl) (fun _ _ _ h => h) (Or.inl ⟨by rfl, ?_⟩) (by assumption) ?_; (rotate_left 1); (focus (intro wz hSw; (try dsimp only at hSw); go_simp; try (with_reducible rfl))); simp only [Act.put, List.setIfInBounds_toArray, List.set_cons_zero, List.set_cons_succ]
        refine wpAnyH_done (by kernel_rfl) ?_ _
        go_wp2_with fail
        go_roundg (i.segs.length - (k + 1))
        case measure => omega
        case rel => exact ⟨k + 1, by omega, by simp, (hbw.trans hbB).trans hBw, (hbB.trans hBw).keep hx0, HRun⟩
set_option maxHeartbeats 2000000 in
set_option maxRecDepth 100000 in
theorem anyShare_c (v : Value) (l : List Img.Seg) (w : World) (hv : SegS w v l) (hl : l.length ≤ 1000) : Calls Try.prog 29 #[v] w fun e w' => e = .returned (.bool (Img.anyShare l)) ∧ Bw w w' := by
  have hwf := hv.wf
  obtain ⟨q, cap, rfl, hc1, hc2, hcell⟩ := hv.open
  generalize hR : Img.anyShare l = R
  have HR : Hid _ := hR
  clear hR
  go_enter Try.func29, Try.ntmps29
  go_wp2_with fail
  go_loopg [9] l.length (fun g j wr => ∃ k : Nat, k + g = l.length ∧ j = .int .i64 k ∧ Bw w wr ∧ ∀ (n m : Nat) (s t : Img.Seg), n < k → m < n → l[n]? = some s → l[m]? = some t → Img.share s t = false)
  case atStart => exact ⟨0, by omega, rfl, Bw.refl _, fun n m s t h => by omega⟩
  case round =>
    obtain ⟨k, hkg, rfl, hbw, hno⟩ := hrel
    have HNo : Hid _ := hno
    clear hno
    by_cases hk : k = l.length
    · subst hk
      have hRe : Hid (false = R) := by
        show _ = _
        rw [← (show _ = R from HR)]
        symm
        rw [Bool.eq_false_iff]
        intro h
        obtain ⟨n, m, s, t, h1, h2, h3, h4⟩ := (Img.anyShare_iff l).1 h
        rw [HNo n m s t (List.getElem?_eq_some_iff.1 h2).1 h1 h2 h3] at h4
        simp at h4
      go_wp2_with fail
      go_returns
      exact ret_bool hRe hbw
    · have hkl : k < l.length := by omega
      have hki : (k : Int) < (l.length : Int) := by omega
      have hkc : (k : Int) ≤ (cap : Int) := by omega
      obtain ⟨s, hs, hd⟩ := Img.drop_at hkl
      obtain ⟨b, o, qs, cs, rfl, hb, c0, c1, c2, c3, -, -, -⟩ := hcell k s hs
      replace c0 := hbw.keep c0
      replace c1 := hbw.keep c1
      replace c2 := hbw.keep c2
      replace c3 := hbw.keep c3
      have hws := hwf s (List.mem_of_getElem? hs)
      have HS : Hid _ := hs
      clear hd hs
      go_wp2_with fail
      obtain ⟨wB, hwB, hbB, hsB⟩ : ∃ wB, wr.alloc (.cells #[.int .u32 s.addr, .int .u32 s.size, .int .i64 s.perm, .slice qs s.bytes.length cs] 30) = wB ∧ Bw wr wB ∧ SBox wB wr.heap.size s (.slice qs s.bytes.length cs) := ⟨_, rfl, (Bw.refl wr).alloc _, SBox.new wr s _ _⟩
      rw [hwB]
      clear hwB c0 c1 c2 c3
      go_loopg [18] k (fun g j wx => ∃ m : Nat, m + g = k ∧ j = .int .i64 m ∧ Bw wB wx ∧ ∀ (x : Nat) (t : Img.Seg), x < m → l[x]? = some t → Img.share s t = false)
      case atStart => exact ⟨0, by omega, rfl, Bw.refl _, fun x t h => by omega⟩
      case round =>
        obtain ⟨m, hmg, rfl, hbx, hno2⟩ := hrel
        have HNo2 : Hid _ := hno2
        clear hno2
        have hbW := hbw.trans (hbB.trans hbx)
        by_cases hm : m = k
        · subst hm
          go_wp2_with fail
          go_roundg (l.length - (m + 1))
          case measure => omega
          case rel => exact ⟨m + 1, by omega, by simp, hbW, fun n m' s' t h1 h2 h3 h4 => by
            by_cases e : n = m
            · subst e
              have : s' = s := Option.some.inj (h3.symm.trans HS)
              subst this
              exact HNo2 m' t h2 h4
            · exact HNo n m' s' t (by omega) h2 h3 h4⟩
        · have hml : m < k := by omega
          have hmi : (m : Int) < (k : Int) := by omega
          obtain ⟨t, ht, hd⟩ := Img.drop_at (l := l) (k := m) (by omega)
          obtain ⟨b', o', qs', cs', hq', hb', d0, d1, d2, d3, -, -, -⟩ := hcell m t ht
          simp only [Option.some.injEq, Addr.mk.injEq, and_true] at hq'
          obtain ⟨rfl, rfl⟩ := hq'
          replace d0 := hbW.keep d0
          replace d1 := hbW.keep d1
          replace d2 := hbW.keep d2
          replace d3 := hbW.keep d3
          have hSh := share_c s t hws (hwf t (List.mem_of_getElem? ht)) qs qs' s.bytes.length cs t.bytes.length cs'
          have e := hsB.bw hbx
          have e0 := e.c0; have e1 := e.c1; have e2 := e.c2; have e3 := e.c3
          have hlt := e.lt
          have HT : Hid _ := ht
          clear hd ht e
          by_cases hx : Img.share s t = true
          · have hRe : Hid (true = R) := by show _ = _; rw [← (show _ = R from HR)]; exact ((Img.anyShare_iff l).2 ⟨k, m, s, t, hml, HS, HT, hx⟩).symm
            rw [hx] at hSh
            clear hx
            go_wp2_with (go_at_call 40; refine (hSh _).mono ?_; rintro e w2 ⟨rfl, hb2⟩)
            go_returns
            exact ret_bool hRe ((hbW.alloc _).trans hb2)
          · rw [Bool.eq_false_iff.2 hx] at hSh
            have HX : Hid _ := hx
            clear hx
            go_wp2_with (go_at_call 40; refine (hSh _).mono ?_; rintro e w2 ⟨rfl, hb2⟩)
            go_roundg (k - (m + 1))
            case measure => omega
            case rel => exact ⟨m + 1, by omega, by simp, (hbx.alloc _).trans hb2, fun x t' h1 h2 => by
              by_cases e : x = m
              · subst e
                have : t' = t := Option.some.inj (h2.symm.trans HT)
                subst this
                exact Bool.eq_false_iff.2 HX
              · exact HNo2 x t' (by omega) h2⟩
end Go.Proofs.Ytaejcbmmapcpgaa
