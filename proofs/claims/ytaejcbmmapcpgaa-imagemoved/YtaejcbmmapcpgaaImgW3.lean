/- LAYER 8's walks: Good. -/
import Derived.Test.YtaejcbmmapcpgaaImgW2
namespace Go.Proofs.Ytaejcbmmapcpgaa
open Go.ChangeShapes Go.WideShapes Go.ChangeAt Go.RowKit

set_option maxHeartbeats 2000000 in
set_option maxRecDepth 100000 in
theorem Good_c (v : Value) (i : Img.Im) (w : World) (hv : IsImg w v i) : Calls Try.prog 12 #[v] w fun e w' => e = .returned (.int .i64 (Img.good i)) ∧ Bw w w' := by
  have hEn := fun w' (g : Bw w w') => entryStands_c v i w' (hv.bw g)
  obtain ⟨u, rfl, hv, e0, e1⟩ := hv
  have hAS := fun w' (g : Bw w w') (h : i.segs.length ≤ 1000) => allSizes_c u i.segs w' (hv.bw g) h
  have hSh := fun w' (g : Bw w w') (h : i.segs.length ≤ 1000) => anyShare_c u i.segs w' (hv.bw g) h
  have hwf := hv.wf
  obtain ⟨q, cap, rfl, hc1, hc2, hcell⟩ := hv.open
  clear hv
  generalize hR : Img.good i = R
  unfold Img.good at hR
  by_cases h8 : 8 < i.segs.length
  · rw [if_pos h8] at hR
    have h8i : (8 : Int) < i.segs.length := by omega
    subst hR
    go_enter Try.func12, Try.ntmps12
    go_wp2_with fail
    go_returns
    exact ⟨rfl, by (repeat' (first | (with_reducible assumption) | (with_reducible exact Bw.refl _) | (with_reducible refine Bw.alloc ?_ _) | (with_reducible refine Bw.drew ?_) | (with_reducible refine Bw.drewN ?_ _) | (with_reducible refine Bw.setCell ?_ ?_ _) | exact Nat.le_refl _))⟩
  rw [if_neg h8] at hR
  have h8i : (i.segs.length : Int) ≤ 8 := by omega
  by_cases h0 : i.segs.length = 0
  · rw [if_pos h0] at hR
    subst hR
    rw [h0]
    go_enter Try.func12, Try.ntmps12
    go_wp2_with fail
    go_returns
    exact ⟨rfl, by (repeat' (first | (with_reducible assumption) | (with_reducible exact Bw.refl _) | (with_reducible refine Bw.alloc ?_ _) | (with_reducible refine Bw.drew ?_) | (with_reducible refine Bw.drewN ?_ _) | (with_reducible refine Bw.setCell ?_ ?_ _) | exact Nat.le_refl _))⟩
  rw [if_neg h0] at hR
  have h0i : ¬ ((i.segs.length : Int) = 0) := by omega
  have h0b : ((i.segs.length : Int) == 0) = false := by simpa using h0i
  replace hAS := fun w' g => hAS w' g (by omega)
  replace hSh := fun w' g => hSh w' g (by omega)
  have hall : ∃ A : Bool, i.segs.all Img.segOk = A := ⟨_, rfl⟩
  obtain ⟨A, HA⟩ := hall
  rw [HA] at hR
  have HA : Hid _ := HA
  have HR : Hid _ := hR
  clear hR
  go_enter Try.func12, Try.ntmps12
  go_wp2_with fail
  obtain ⟨wB, hwB, hbB, x0, x1⟩ : ∃ wB, w.alloc (.cells #[.int .u32 i.entry, .slice q i.segs.length cap] 26) = wB ∧ Bw w wB ∧ wB.cell? ⟨w.heap.size, 0, none⟩ = some (.int .u32 i.entry) ∧ wB.cell? ⟨w.heap.size, 1, none⟩ = some (.slice q i.segs.length cap) :=
    ⟨_, rfl, (Bw.refl w).alloc _, by rw [World.cell?_alloc_at _ _ _ _ (by simp)]; rfl, by rw [World.cell?_alloc_at _ _ _ _ (by simp)]; rfl⟩
  rw [hwB]
  clear hwB

  go_loopg [16] i.segs.length (fun g j wr => ∃ k : Nat, k + g = i.segs.length ∧ j = .int .i64 k ∧ Bw wB wr ∧ (i.segs.drop k).all Img.segOk = A)
  case atStart => exact ⟨0, by omega, rfl, Bw.refl _, HA⟩
  case round =>
    obtain ⟨k, hkg, rfl, hbw, hrun⟩ := hrel
    have HRun : Hid _ := hrun
    have hbW := hbB.trans hbw
    clear hrun HA
    by_cases hk : k = i.segs.length
    · subst hk
      rw [List.drop_length] at HRun
      obtain rfl : true = A := HRun
      have hR : (if 65536 < Img.sizes i.segs then (2 : Int) else if (Img.anyShare i.segs || !Img.entryOk i) = true then 1 else 0) = R := HR
      have y1 := hbw.keep x1
      have hA2 := hAS _ hbW
      by_cases hz : 65536 < Img.sizes i.segs
      · rw [if_pos hz] at hR
        subst hR
        generalize Img.sizes i.segs = Z at *
        go_wp2_with (go_at_call 28; refine hA2.mono ?_; rintro e w2 ⟨rfl, hb2⟩)
        go_returns
        exact ⟨rfl, hbW.trans hb2⟩
      rw [if_neg hz] at hR
      have hzz : Img.sizes i.segs ≤ 65536 := by omega
      generalize Img.sizes i.segs = Z at *
      cases hsh : Img.anyShare i.segs with
      | true =>
        rw [hsh, Bool.true_or, if_pos rfl] at hR
        rw [hsh] at hSh
        subst hR
        go_wp2_with (first | (go_at_call 28; refine hA2.mono ?_; rintro e w2 ⟨rfl, hb2⟩; have y2 := hb2.keep y1; have hS2 := hSh _ (hbW.trans hb2)) | (go_at_call 29; refine hS2.mono ?_; rintro e w3 ⟨rfl, hb3⟩))
        go_returns
        exact ⟨rfl, (hbW.trans hb2).trans hb3⟩
      | false =>
        rw [hsh, Bool.false_or] at hR
        rw [hsh] at hSh
        have y0 := hbw.keep x0
        cases hen : Img.entryOk i with
        | true =>
          rw [hen] at hR hEn
          obtain rfl : (0 : Int) = R := hR
          go_wp2_with (first | (go_at_call 28; refine hA2.mono ?_; rintro e w2 ⟨rfl, hb2⟩; have y2 := hb2.keep y1; have hS2 := hSh _ (hbW.trans hb2)) | (go_at_call 29; refine hS2.mono ?_; rintro e w3 ⟨rfl, hb3⟩; have z0 := (hb2.trans hb3).keep y0; have z1 := (hb2.trans hb3).keep y1; have hE2 := hEn _ ((hbW.trans hb2).trans hb3)) | (go_at_call 30; refine hE2.mono ?_; rintro e w4 ⟨rfl, hb4⟩))
          go_returns
          exact ⟨rfl, ((hbW.trans hb2).trans hb3).trans hb4⟩
        | false =>
          rw [hen] at hR hEn
          obtain rfl : (1 : Int) = R := hR
          go_wp2_with (first | (go_at_call 28; refine hA2.mono ?_; rintro e w2 ⟨rfl, hb2⟩; have y2 := hb2.keep y1; have hS2 := hSh _ (hbW.trans hb2)) | (go_at_call 29; refine hS2.mono ?_; rintro e w3 ⟨rfl, hb3⟩; have z0 := (hb2.trans hb3).keep y0; have z1 := (hb2.trans hb3).keep y1; have hE2 := hEn _ ((hbW.trans hb2).trans hb3)) | (go_at_call 30; refine hE2.mono ?_; rintro e w4 ⟨rfl, hb4⟩))
          go_returns
          exact ⟨rfl, ((hbW.trans hb2).trans hb3).trans hb4⟩
    · have hkl : k < i.segs.length := by omega
      have hki : (k : Int) < (i.segs.length : Int) := by omega
      obtain ⟨s, hs, hd⟩ := Img.drop_at hkl
      rw [hd, List.all_cons] at HRun
      obtain ⟨b, o, qs, cs, rfl, hb, c0, c1, c2, c3, hs1, hs2, -⟩ := hcell k s hs
      replace c0 := hbW.keep c0
      replace c1 := hbW.keep c1
      replace c2 := hbW.keep c2
      replace c3 := hbW.keep c3
      have hG := segmentStands_c s (hwf s (List.mem_of_getElem? hs)) qs cs ⟨hs1, hs2⟩
      clear hd hs hs1 hs2
      by_cases hgs : Img.segOk s = true
      · rw [hgs, Bool.true_and] at HRun
        rw [hgs] at hG
        clear hgs
        go_wp2_with (go_at_call 27; refine (hG _).mono ?_; rintro e w2 ⟨rfl, hb2⟩)
        go_roundg (i.segs.length - (k + 1))
        case measure => omega
        case rel => exact ⟨k + 1, by omega, by simp, (hbw.alloc _).trans hb2, HRun⟩
      · rw [Bool.eq_false_iff.2 hgs, Bool.false_and] at HRun
        rw [Bool.eq_false_iff.2 hgs] at hG
        clear hgs
        obtain rfl : false = A := HRun
        obtain rfl : (1 : Int) = R := HR
        go_wp2_with (go_at_call 27; refine (hG _).mono ?_; rintro e w2 ⟨rfl, hb2⟩)
        go_returns
        exact ⟨rfl, (hbW.alloc _).trans hb2⟩
end Go.Proofs.Ytaejcbmmapcpgaa
