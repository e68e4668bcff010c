/- LAYER 8's law ImageBack. -/
import Derived.Test.YtaejcbmmapcpgaaImgAwake
import Derived.Test.YtaejcbmmapcpgaaImgArg
namespace Go.Proofs.Ytaejcbmmapcpgaa
open Go.ChangeShapes Go.WideShapes Go.ChangeAt Go.RowKit

theorem Img.putE_ok {i : Img.Im} (h : Img.putE i = 0) : Img.good i = 0 ∧ 52 + 32 * i.segs.length + Img.lens i.segs ≤ 65536 := by
  unfold Img.putE at h
  by_cases hg : Img.good i = 0
  · rw [if_neg (by simpa using hg)] at h
    by_cases hb : 65536 < 52 + 32 * i.segs.length + Img.lens i.segs
    · rw [if_pos hb] at h; omega
    · exact ⟨hg, by omega⟩
  · rw [if_pos hg] at h; exact absurd h hg
theorem Img.putE_no {i : Img.Im} (h : Img.putE i ≠ 0) : Img.putE i = Img.good i ∨ (Img.good i = 0 ∧ Img.putE i = 2) := by
  unfold Img.putE at h ⊢
  by_cases hg : Img.good i = 0
  · rw [if_neg (by simpa using hg)] at h ⊢
    by_cases hb : 65536 < 52 + 32 * i.segs.length + Img.lens i.segs
    · rw [if_pos hb]; exact Or.inr ⟨hg, rfl⟩
    · rw [if_neg hb] at h; exact absurd rfl h
  · rw [if_pos hg]; exact Or.inl rfl
set_option maxHeartbeats 8000000 in
set_option maxRecDepth 100000 in
theorem ImageBack_w (v : Value) (cut : Int) (w : World) (hv : ImgArg w v) (hc0 : -9223372036854775808 ≤ cut) (hc1 : cut ≤ 9223372036854775807) :
    Calls Try.prog 5 #[v, .int .i64 cut] w fun e w' => e = .returned (.bool true) ∧ Bw w w' := by
  obtain ⟨i, hp⟩ := hv
  have hGr := fun w' (g : Bw w w') => great_c v i w' (hp.bw g)
  have hPu := fun w' (g : Bw w w') => Put_c v i w' (hp.bw g)
  have hGd := fun w' (g : Bw w w') => Good_c v i w' (hp.bw g)
  have hIm := fun w' (g : Bw w w') h => img_c v i w' (hp.bw g) h
  obtain ⟨q, cap, rfl⟩ := hp.form
  have hwf : ∀ s ∈ i.segs, Img.Wf s := by obtain ⟨_, _, h, _⟩ := hp; exact h.wf
  have he : 0 ≤ i.entry ∧ i.entry < 4294967296 := by obtain ⟨_, _, _, h⟩ := hp; exact h
  have hxA := Box.new w [.int .u32 i.entry, .slice q i.segs.length cap] 26
  clear hp
  go_enter Try.func5, Try.ntmps5
  go_wp2_with fail
  refine (awake8_c _).mono ?_
  rintro e w1 ⟨rfl, hb1⟩
  obtain ⟨hbx, hx⟩ : Bw w w1 ∧ Box w1 w.heap.size [.int .u32 i.entry, .slice q i.segs.length cap] := ⟨((Bw.refl w).alloc _).trans hb1, hxA.bw hb1⟩
  clear hb1 hxA
  have x0 := hx.c 0 _ rfl; have x1 := hx.c 1 _ rfl
  go_wp2_with fail
  refine (hGr _ hbx).mono ?_
  rintro e w2 ⟨r, rfl, hr, hb2⟩
  clear hGr x0 x1
  replace hbx := hbx.trans hb2
  replace hx := hx.bw hb2
  clear hb2
  cases r
  rotate_left
  · go_wp2_with fail
    go_returns
    exact ⟨rfl, hbx⟩
  obtain ⟨hl10, hb600⟩ := hr rfl
  clear hr
  have x0 := hx.c 0 _ rfl; have x1 := hx.c 1 _ rfl
  go_wp2_with fail
  refine (hPu _ hbx).mono ?_
  rintro e w3 ⟨ua, rfl, hoa, hb3⟩
  clear hPu x0 x1
  replace hbx := hbx.trans hb3
  replace hx := hx.bw hb3
  clear hb3
  have x0 := hx.c 0 _ rfl; have x1 := hx.c 1 _ rfl
  by_cases hE : Img.putE i = 0
  rotate_left
  · have hno := Img.putE_no hE
    have hGd2 := hGd _ hbx
    generalize Img.putE i = E at *
    generalize Img.good i = G at *
    have hEb : (E != 0) = true := by simpa using hE
    clear hoa hGd hwf hb600 hIm
    by_cases hEG : E = G
    · subst hEG
      clear hno
      go_wp2_with fail
      refine hGd2.mono ?_
      rintro e w4 ⟨rfl, hb4⟩
      go_wp2_with fail
      go_returns
      exact ⟨rfl, hbx.trans hb4⟩
    · obtain ⟨rfl, rfl⟩ : G = 0 ∧ E = 2 := by rcases hno with h | h; exact absurd h hEG; exact h
      clear hno hEG hE
      go_wp2_with fail
      refine hGd2.mono ?_
      rintro e w4 ⟨rfl, hb4⟩
      go_wp2_with fail
      go_returns
      exact ⟨rfl, hbx.trans hb4⟩
  rw [if_pos hE] at hoa
  rw [hE]
  obtain ⟨hg, hsz⟩ := Img.putE_ok hE
  obtain ⟨l8, l0, hok, -, -, -⟩ := Img.good_ok hg
  have hpl := Img.put_len i
  have hb8 := Img.put_b8 hwf he.1 he.2 l8 (by omega) (fun s hs => by have := hb600 s hs; omega)
  have hget := Img.get_put hg l8 hok hsz
  have hgc := fun m hm => Img.get_cut (i := i) l8 l0 hok hsz (m := m) hm
  have hG := IGet_c ua (Img.put i) w3 hoa.rd hb8
  unfold IGetPost at hG
  rw [hget] at hG
  clear hE hg hsz hget hGd hwf hb600
  go_wp2_with fail
  refine hG.mono ?_
  rintro e w4 ⟨ur, rfl, hur, hb4⟩
  clear hG x0 x1
  replace hbx := hbx.trans hb4
  replace hx := hx.bw hb4
  replace hoa := hoa.bw hb4
  obtain ⟨qa, ca, rfl⟩ := hur.form
  obtain ⟨gA, cpA, rfl, hgA1, hgA2, hgA3, hgA4, hgA5, -⟩ := hoa.form (by omega)
  have HPl : Hid _ := hpl
  have HL0 : Hid _ := l0
  clear hb4 hpl l0 hok
  go_wp2_with fail
  obtain ⟨w7, hw7, hb7, hz⟩ : ∃ w7, w4.alloc (.cells #[.int .u32 i.entry, .slice qa i.segs.length ca] 26) = w7 ∧ Bw w4 w7 ∧ Box w7 w4.heap.size [.int .u32 i.entry, .slice qa i.segs.length ca] := ⟨_, rfl, (Bw.refl w4).alloc _, Box.new w4 _ _⟩
  rw [hw7]
  replace hbx := hbx.trans hb7
  replace hx := hx.bw hb7
  have hir := hur.bw hb7
  have hI1 := fun X (g : Bw w7 X) => img_c _ i X (hir.bw g) (by omega)
  have hI2 := fun X (g : Bw w7 X) => hIm X (hbx.trans g) (by omega)
  have hHold : ∀ wr, Bw w7 wr → (wr.cell? ⟨w.heap.size, 0, none⟩ = some (.int .u32 i.entry) ∧ wr.cell? ⟨w.heap.size, 1, none⟩ = some (.slice q i.segs.length cap) ∧ wr.cell? ⟨w4.heap.size, 0, none⟩ = some (.int .u32 i.entry) ∧ wr.cell? ⟨w4.heap.size, 1, none⟩ = some (.slice qa i.segs.length ca)) := fun wr g => ⟨g.keep (hx.c 0 _ rfl), g.keep (hx.c 1 _ rfl), g.keep (hz.c 0 _ rfl), g.keep (hz.c 1 _ rfl)⟩
  have hB : Bw w7 w7.drew := (Bw.refl w7).drew
  clear hw7 hur
  refine wp_region_held_drew (S := fun wr => wr.cell? ⟨w.heap.size, 0, none⟩ = some (.int .u32 i.entry) ∧ wr.cell? ⟨w.heap.size, 1, none⟩ = some (.slice q i.segs.length cap) ∧ wr.cell? ⟨w4.heap.size, 0, none⟩ = some (.int .u32 i.entry) ∧ wr.cell? ⟨w4.heap.size, 1, none⟩ = some (.slice qa i.segs.length ca)) (by kernel_rfl) (hHold _ hB) (fun hHeld => ?_)
  refine wpAnyH_take (i := 0) (oi := ⟨some 35, _, _, _, _, _⟩) (v := ?_) rfl (by kernel_rfl) (by kernel_rfl) (by kernel_rfl) (fun _ _ _ h => h) (Or.inl ⟨by rfl, ?_⟩) (by assumption) ?_; (rotate_left 1); (focus (intro wz hSw; (try dsimp only at hSw); go_simp; try (with_reducible rfl))); simp only [Act.put, List.setIfInBounds_toArray, List.set_cons_zero, List.set_cons_succ]
  refine wpAnyH_take (i := 1) (oi := ⟨some 36, _, _, _, _, _⟩) (v := ?_) rfl (by kernel_rfl) (by kernel_rfl) (by kernel_rfl) (fun _ _ _ h => h) (Or.inl ⟨by rfl, ?_⟩) (by assumption) ?_; (rotate_left 1); (focus (intro wz hSw; (try dsimp only at hSw); go_simp; try (with_reducible rfl))); simp only [Act.put, List.setIfInBounds_toArray, List.set_cons_zero, List.set_cons_succ]
  refine wpAnyH_take (i := 2) (oi := ⟨some 37, _, _, _, _, _⟩) (v := ?_) rfl (by kernel_rfl) (by kernel_rfl) (by kernel_rfl) (fun _ _ _ h => h) (Or.inl ⟨by rfl, ?_⟩) (by assumption) ?_; (rotate_left 1); (focus (intro wz hSw; (try dsimp only at hSw); go_simp; try (with_reducible rfl))); simp only [Act.put, List.setIfInBounds_toArray, List.set_cons_zero, List.set_cons_succ]
  refine wpAnyH_take (i := 3) (oi := ⟨some 38, _, _, _, _, _⟩) (v := ?_) rfl (by kernel_rfl) (by kernel_rfl) (by kernel_rfl) (fun _ _ _ h => h) (Or.inl ⟨by rfl, ?_⟩) (by assumption) ?_; (rotate_left 1); (focus (intro wz hSw; (try dsimp only at hSw); go_simp; try (with_reducible rfl))); simp only [Act.put, List.setIfInBounds_toArray, List.set_cons_zero, List.set_cons_succ]
  refine wpAnyH_take (i := 5) (oi := ⟨some 40, _, _, _, _, _⟩) (v := ?_) rfl (by kernel_rfl) (by kernel_rfl) (by kernel_rfl) (fun _ _ _ h => h) (Or.inl ⟨by rfl, ?_⟩) (by assumption) ?_; (rotate_left 1); (focus (intro wz hSw; (try dsimp only at hSw); go_simp; try (with_reducible rfl))); simp only [Act.put, List.setIfInBounds_toArray, List.set_cons_zero, List.set_cons_succ]
  refine wpAnyH_ready (rs := [4]) (by kernel_rfl) (by simp) ?_; refine AllReadyH.cons rfl (fun K hK => ?_) AllReadyH.nil; go_simp
  refine (hI1 _ hB).mono ?_
  rintro e w8 ⟨u8, rfl, hu8, h8⟩
  replace hB := hB.trans h8
  (try clear hHeld); refine hK.out _ _ ?_ (fun hHeld => ?_)
  · exact hHold _ hB
  refine wpAnyH_ready (rs := [6]) (by kernel_rfl) (by simp) ?_; refine AllReadyH.cons rfl (fun K hK => ?_) AllReadyH.nil; go_simp
  refine (hI2 _ hB).mono ?_
  rintro e w9 ⟨u9, rfl, hu9, h9⟩
  replace hB := hB.trans h9
  replace hu8 := hu8.bw h9
  (try clear hHeld); refine hK.out _ _ ?_ (fun hHeld => ?_)
  · exact hHold _ hB
  refine wpAnyH_ready (rs := [7]) (by kernel_rfl) (by simp) ?_; refine AllReadyH.cons rfl (fun K hK => ?_) AllReadyH.nil; go_simp
  refine (sameImage_c _ _ _ _ hu8 hu9).mono ?_
  rintro e w10 ⟨rfl, h10⟩
  replace hB := hB.trans h10
  (try clear hHeld); refine hK.out _ _ ?_ (fun hHeld => ?_)
  · exact hHold _ hB
  refine wpAnyH_take (i := 8) (oi := ⟨some 43, _, _, _, _, _⟩) (v := ?_) rfl (by kernel_rfl) (by kernel_rfl) (by kernel_rfl) (fun _ _ _ h => h) (Or.inl ⟨by rfl, ?_⟩) (by assumption) ?_; (rotate_left 1); (focus (intro wz hSw; (try dsimp only at hSw); go_simp; try (with_reducible rfl))); simp only [Act.put, List.setIfInBounds_toArray, List.set_cons_zero, List.set_cons_succ]
  refine wpAnyH_take (i := 9) (oi := ⟨some 44, _, _, _, _, _⟩) (v := ?_) rfl (by kernel_rfl) (by kernel_rfl) (by kernel_rfl) (fun _ _ _ h => h) (Or.inl ⟨by rfl, ?_⟩) (by assumption) ?_; (rotate_left 1); (focus (intro wz hSw; (try dsimp only at hSw); go_simp; try (with_reducible rfl))); simp only [Act.put, List.setIfInBounds_toArray, List.set_cons_zero, List.set_cons_succ]
  refine wpAnyH_done (by kernel_rfl) ?_ _
  have hfin := hbx.trans hB
  clear hI1 hI2 hHold hu8 hu9 hIm hx hz
  by_cases hc : 0 ≤ cut ∧ cut < ((Img.put i).length : Int)
  rotate_left
  · obtain h | h : cut < 0 ∨ (0 ≤ cut ∧ ((Img.put i).length : Int) ≤ cut) := by omega
    · go_wp2_with fail
      go_returns
      exact ⟨rfl, hfin⟩
    · obtain ⟨h, h'⟩ := h
      go_wp2_with fail
      go_returns
      exact ⟨rfl, hfin⟩
  obtain ⟨h0, h1⟩ := hc
  obtain ⟨n, rfl⟩ := Int.eq_ofNat_of_zero_le h0
  have hn : n < (Img.put i).length := by omega
  have hRd : Rd8 w10 (.slice (some ⟨gA, 0, none⟩) n cpA) ((Img.put i).take n) := by
    have := Rd8.part (w := w10) (l := Img.put i) (b := gA) (o := 0) (c2 := cpA) (Nat.lt_of_lt_of_le hgA2 (hb7.trans hB).sz) (fun j x hx => by rw [Nat.zero_add]; exact (hb7.trans hB).keep (hgA5 j x hx)) 0 n (by omega) (by omega) hgA4
    simpa using this
  have hG := IGet_c _ ((Img.put i).take n) w10 hRd (fun x hx => hb8 x (List.mem_of_mem_take hx))
  unfold IGetPost at hG
  rw [hgc n hn] at hG
  have hni : (n : Int) ≤ cpA := by omega
  clear hRd HPl hgc hc0 hc1
  generalize (Img.put i).length = LN at *
  go_wp2_with fail
  refine hG.mono ?_
  rintro e w11 ⟨ur, rfl, hur, hb11⟩
  obtain ⟨qb, cb, rfl⟩ := hur.form
  go_wp2_with fail
  go_returns
  exact ⟨rfl, by have hfin2 := hfin.trans hb11; (repeat' (first | (with_reducible assumption) | (with_reducible exact Bw.refl _) | (with_reducible refine Bw.alloc ?_ _) | (with_reducible refine Bw.drew ?_) | (with_reducible refine Bw.drewN ?_ _) | (with_reducible refine Bw.setCell ?_ ?_ _) | exact Nat.le_refl _))⟩
end Go.Proofs.Ytaejcbmmapcpgaa
