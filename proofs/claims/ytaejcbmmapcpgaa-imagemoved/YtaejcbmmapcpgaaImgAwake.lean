/- LAYER 8's laws: awake. -/
import Derived.Test.YtaejcbmmapcpgaaImgLaws
import Derived.Test.YtaejcbmmapcpgaaImgW8
namespace Go.Proofs.Ytaejcbmmapcpgaa
open Go.ChangeShapes Go.WideShapes Go.ChangeAt Go.RowKit

theorem Img.sm_good : Img.good Img.sm = 0 := by decide +kernel
theorem Img.sm_putE : Img.putE Img.sm = 0 := by decide +kernel
theorem Img.sm_len : (Img.put Img.sm).length = 87 := by rw [Img.put_len]; rfl
theorem Img.sm_get : Img.get (Img.put Img.sm) = (Img.sm, 0) := Img.get_put Img.sm_good (by decide) (by decide +kernel) (by decide)
theorem Img.rows_b8 : ∀ (l : List Img.Seg) (p : Nat), (∀ s ∈ l, Img.Wf s) → (∀ s ∈ l, s.bytes.length ≤ 100000) → p + Img.lens l < 4294967296 → B8s (Img.rows p l)
  | [], _, _, _, _ => by simp [Img.rows, B8s]
  | s :: r, p, h, hl, hp => by
    have hw := h s (by simp)
    have h1 := hl s (by simp)
    simp only [Img.lens] at hp
    rw [Img.rows]
    exact (Img.row_b8 ⟨by omega, by omega⟩ ⟨hw.a0, hw.a1⟩ ⟨by omega, by omega⟩ ⟨hw.z0, hw.z1⟩ ⟨(Img.swap_bd (p := s.perm)).1, by have := (Img.swap_bd (p := s.perm)).2; omega⟩).app (Img.rows_b8 r _ (fun x hx => h x (by simp [hx])) (fun x hx => hl x (by simp [hx])) (by omega))
theorem Img.data_b8 {l : List Img.Seg} (h : ∀ s ∈ l, Img.Wf s) : B8s (Img.data l) := fun x hx => by
  unfold Img.data at hx
  obtain ⟨s, hs, hx⟩ := List.mem_flatMap.1 hx
  exact (h s hs).b8 x hx
theorem Img.put_b8 {i : Img.Im} (h : ∀ s ∈ i.segs, Img.Wf s) (e0 : 0 ≤ i.entry) (e1 : i.entry < 4294967296) (hn : i.segs.length ≤ 8) (hl : Img.lens i.segs ≤ 65536) (hb : ∀ s ∈ i.segs, s.bytes.length ≤ 100000) : B8s (Img.put i) :=
  ((Img.head_b8 ⟨e0, e1⟩ ⟨by omega, by omega⟩).app (Img.rows_b8 _ _ h hb (by omega))).app (Img.data_b8 h)
theorem Img.sm_b8 : B8s (Img.put Img.sm) := Img.put_b8 Img.smS_wf (by decide) (by decide) (by decide) (by decide) (by decide)
theorem IsImg.form {w : World} {v : Value} {i : Img.Im} (h : IsImg w v i) : ∃ q c, v = .agg #[.int .u32 i.entry, .slice q i.segs.length c] := by
  obtain ⟨u, rfl, hS, _⟩ := h
  obtain ⟨q, c, rfl, _⟩ := hS.open
  exact ⟨q, c, rfl⟩
set_option maxHeartbeats 4000000 in
set_option maxRecDepth 100000 in
theorem awake8_c (w : World) : Calls Try.prog 8 #[] w fun e w' => e = .returned (.bool true) ∧ Bw w w' := by
  go_enter Try.func8, Try.ntmps8
  go_wp2_with fail
  refine (small_c _).mono ?_
  rintro e w1 ⟨u1, rfl, h1, b1⟩
  go_wp2_with fail
  refine (Put_c u1 Img.sm w1 h1).mono ?_
  rintro e w2 ⟨u2, rfl, ho, b2⟩
  rw [Img.sm_putE, if_pos rfl] at ho
  rw [Img.sm_putE]
  obtain ⟨g, cap, rfl, hg1, hg2, hg3, hg4, -, -⟩ := ho.form (by rw [Img.sm_len]; omega)
  have hG := IGet_c _ _ w2 ho.rd Img.sm_b8
  rw [Img.sm_len] at hG ⊢
  replace b2 := b1.trans b2
  clear ho hg1 hg2 hg3 hg4 b1
  go_wp2_with fail
  refine hG.mono ?_
  rintro e w3 ⟨u3, rfl, h3, b3⟩
  rw [Img.sm_get] at h3 ⊢
  obtain ⟨q3, c3, rfl⟩ := h3.form
  have hI := img_c _ _ (w3.alloc (.cells #[.int .u32 Img.sm.entry, .slice q3 Img.sm.segs.length c3] 26)) (h3.bw ((Bw.refl _).alloc _)) (by decide)
  replace b3 := b2.trans b3
  clear hG b2
  have e1 : Img.sm.entry = 4096 := rfl
  have e2 : Img.sm.segs.length = 1 := rfl
  simp only [e1, e2] at hI ⊢
  go_wp2_with fail
  refine hI.mono ?_
  rintro e w4 ⟨u4, rfl, h4, b4⟩
  replace b4 := (b3.alloc _).trans b4
  clear hI b3 h3 h1
  go_wp2_with fail
  refine (small_c _).mono ?_
  rintro e w5 ⟨u5, rfl, h5, b5⟩
  replace h4 := h4.bw b5
  replace b5 := b4.trans b5
  clear b4
  go_wp2_with fail
  refine (img_c u5 _ w5 h5 (by decide)).mono ?_
  rintro e w6 ⟨u6, rfl, h6, b6⟩
  replace h4 := h4.bw b6
  replace b6 := b5.trans b6
  clear b5 h5
  go_wp2_with fail
  refine (sameImage_c _ _ _ w6 h4 h6).mono ?_
  rintro e w7 ⟨rfl, b7⟩
  replace b7 := b6.trans b7
  clear b6 h4 h6
  go_wp2_with fail
  refine (small_c _).mono ?_
  rintro e w8 ⟨u8, rfl, h8, b8⟩
  replace b8 := b7.trans b8
  clear b7
  have hGd := Good_c u8 _ w8 h8
  rw [Img.sm_good] at hGd
  go_wp2_with fail
  refine hGd.mono ?_
  rintro e w9 ⟨rfl, b9⟩
  replace b9 := b8.trans b9
  clear b8 hGd h8
  go_wp2_with fail
  go_returns
  exact ⟨rfl, b9⟩
end Go.Proofs.Ytaejcbmmapcpgaa
