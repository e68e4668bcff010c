/- LAYER 7's laws: awake. -/
import Derived.Test.YtkffkmiegmaoiaaPolW7
namespace Go.Proofs.Ytkffkmiegmaoiaa
open Go.ChangeShapes Go.WideShapes Go.ChangeAt Go.RowKit

theorem RdR.new {sz n : Nat} (w : World) (cs : List Value) (t : TypeId) (h : cs.length = n * sz) (hn : n ≤ 100000) : RdR sz (w.alloc (.cells cs.toArray t)) (.slice (some ⟨w.heap.size, 0, none⟩) n n) n cs := by
  refine ⟨_, n, rfl, Nat.le_refl _, by omega, h, fun _ => ⟨w.heap.size, 0, rfl, by simp, fun j u hu => ?_⟩⟩
  have := cell_new w cs t j u hu
  rw [Nat.zero_add]
  have hadd : (⟨w.heap.size, 0, none⟩ : Addr).add j = ⟨w.heap.size, j, none⟩ := by unfold Addr.add; split <;> simp_all
  rwa [hadd] at this
theorem Rd8.new (w : World) (l : List Int) (hl : l.length ≤ 100000) : Rd8 (w.alloc (.cells (ints8 l).toArray 5)) (.slice (some ⟨w.heap.size, 0, none⟩) l.length l.length) l := RdR.new w _ _ (by simp [ints8]) hl
theorem SrcS.new (w : World) (l : List Pol.Src) (t : TypeId) (hl : l.length ≤ 100000) (hw : ∀ s ∈ l, Pol.SWf s) : SrcS (w.alloc (.cells (l.flatMap Pol.srcC).toArray t)) (.slice (some ⟨w.heap.size, 0, none⟩) l.length l.length) l := ⟨RdR.new w _ _ (chunk_len Pol.srcC 4 Pol.srcC_len l) hl, hw⟩
theorem SnkS.new (w : World) (l : List Pol.Snk) (t : TypeId) (hl : l.length ≤ 100000) (hw : ∀ s ∈ l, Pol.KWf s) : SnkS (w.alloc (.cells (l.flatMap Pol.snkC).toArray t)) (.slice (some ⟨w.heap.size, 0, none⟩) l.length l.length) l := ⟨RdR.new w _ _ (chunk_len Pol.snkC 3 Pol.snkC_len l) hl, hw⟩
def Pol.aw0 : List Int := [84, 80, 49, 0, 0, 0]
def Pol.awS : List Pol.Src := [⟨1, 3, 0, 4⟩]
def Pol.awK : List Pol.Snk := [⟨1, 0, 6⟩]
theorem Pol.awS_wf : ∀ s ∈ Pol.awS, Pol.SWf s := fun s hs => by simp [Pol.awS] at hs; subst hs; constructor <;> decide
theorem Pol.awK_wf : ∀ s ∈ Pol.awK, Pol.KWf s := fun s hs => by simp [Pol.awK] at hs; subst hs; constructor <;> decide
theorem Pol.get_aw0 : Pol.get Pol.aw0 = ⟨false, [], []⟩ := by rfl
theorem Pol.isPb_aw0 : Pol.isPb Pol.aw0 = true := by decide
theorem Pol.ok_aw : Pol.ok ⟨false, Pol.awS, Pol.awK⟩ = true := by decide
theorem Pol.len_aw : (Pol.put ⟨false, Pol.awS, Pol.awK⟩).length = 19 := by decide
theorem B8s_aw0 : B8s Pol.aw0 := fun x hx => by simp [Pol.aw0] at hx; unfold B8; omega
theorem Pol.lab_aw1 : Pol.lab 1 3 Pol.awS 0 = 4 := by decide +kernel
theorem Pol.lab_aw2 : Pol.lab 1 2 Pol.awS 0 = 0 := by decide +kernel
theorem Pol.hits_aw : Pol.hits 1 0 2 Pol.awK 0 = [0] := by decide +kernel
theorem IsPol.nils {w : World} {v : Value} (h : IsPol w v ⟨false, [], []⟩) : ∃ q1 c1 q2 c2, v = .agg #[.bool false, .slice q1 0 c1, .slice q2 0 c2] := by
  obtain ⟨v1, v2, rfl, ⟨⟨q1, c1, rfl, _⟩, _⟩, ⟨⟨q2, c2, rfl, _⟩, _⟩⟩ := h
  exact ⟨q1, c1, q2, c2, rfl⟩
set_option maxHeartbeats 4000000 in
set_option maxRecDepth 100000 in
theorem awake7_c (w : World) : Calls Try.prog 9 #[] w fun e w' => e = .returned (.bool true) ∧ Bw w w' := by
  have hG := Get_c _ _ _ (Rd8.new w Pol.aw0 (by decide)) B8s_aw0 (by decide)
  unfold GetPost at hG
  rw [Pol.get_aw0, if_pos Pol.isPb_aw0] at hG
  have hG2 : Calls Try.prog 10 #[.slice (some ⟨w.heap.size, 0, none⟩) 6 6] (w.alloc (.cells #[.int .u8 84, .int .u8 80, .int .u8 49, .int .u8 0, .int .u8 0, .int .u8 0] 5)) _ := hG
  clear hG
  go_enter Try.func9, Try.ntmps9
  go_wp2_with fail
  refine hG2.mono ?_
  rintro e w1 ⟨u, rfl, hu, hb1⟩
  clear hG2
  obtain ⟨q1, c1, q2, c2, rfl⟩ := hu.nils
  clear hu
  have hS := SrcS.new (w1.alloc (.cells #[.bool false, .slice q1 0 c1, .slice q2 0 c2] 26)) Pol.awS 35 (by decide) Pol.awS_wf
  have hK := SnkS.new ((w1.alloc (.cells #[.bool false, .slice q1 0 c1, .slice q2 0 c2] 26)).alloc (.cells #[.int .i64 1, .int .u32 3, .int .u32 0, .int .u8 4] 35)) Pol.awK 37 (by decide) Pol.awK_wf
  simp only [World.size_alloc] at hS hK
  go_wp2_with fail
  obtain ⟨wP, hwP, hP, hbP, hp0, hp1, hq0, hq1, hq2⟩ : ∃ wP, ((((w1.alloc (.cells #[.bool false, .slice q1 0 c1, .slice q2 0 c2] 26)).alloc (.cells #[.int .i64 1, .int .u32 3, .int .u32 0, .int .u8 4] 35)).alloc (.cells #[.int .i64 1, .int .i64 0, .int .u8 6] 37)).alloc
      (.cells #[.bool false, .slice (some ⟨w1.heap.size + 1, 0, none⟩) 1 1, .slice (some ⟨w1.heap.size + 1 + 1, 0, none⟩) 1 1] 26)) = wP ∧ IsPol wP (.agg #[.bool false, .slice (some ⟨w1.heap.size + 1, 0, none⟩) 1 1, .slice (some ⟨w1.heap.size + 1 + 1, 0, none⟩) 1 1]) ⟨false, Pol.awS, Pol.awK⟩ ∧ Bw w1 wP ∧
      wP.cell? ⟨w1.heap.size, 0, none⟩ = some (.bool false) ∧ wP.cell? ⟨w1.heap.size, 1, none⟩ = some (.slice q1 0 c1) ∧ wP.cell? ⟨w1.heap.size + 1 + 1 + 1, 0, none⟩ = some (.bool false) ∧ wP.cell? ⟨w1.heap.size + 1 + 1 + 1, 1, none⟩ = some (.slice (some ⟨w1.heap.size + 1, 0, none⟩) 1 1) ∧ wP.cell? ⟨w1.heap.size + 1 + 1 + 1, 2, none⟩ = some (.slice (some ⟨w1.heap.size + 1 + 1, 0, none⟩) 1 1) := by
    refine ⟨_, rfl, ⟨_, _, rfl, (hS.bw ((Bw.refl _).alloc _)).bw ((Bw.refl _).alloc _), hK.bw ((Bw.refl _).alloc _)⟩, by (repeat' (first | (with_reducible assumption) | (with_reducible exact Bw.refl _) | (with_reducible refine Bw.alloc ?_ _) | (with_reducible refine Bw.drew ?_) | (with_reducible refine Bw.drewN ?_ _) | (with_reducible refine Bw.setCell ?_ ?_ _) | exact Nat.le_refl _)), ?_, ?_, ?_, ?_, ?_⟩
    · exact ((((Bw.refl _).alloc _).alloc _).alloc _).keep (PBox.new w1 false (.slice q1 0 c1) (.slice q2 0 c2) _).c0
    · exact ((((Bw.refl _).alloc _).alloc _).alloc _).keep (PBox.new w1 false (.slice q1 0 c1) (.slice q2 0 c2) _).c1
    all_goals
      have hX := fun W => PBox.new W false (.slice (some ⟨w1.heap.size + 1, 0, none⟩) 1 1) (.slice (some ⟨w1.heap.size + 1 + 1, 0, none⟩) 1 1) 26
      have h9 := hX (((w1.alloc (.cells #[.bool false, .slice q1 0 c1, .slice q2 0 c2] 26)).alloc (.cells #[.int .i64 1, .int .u32 3, .int .u32 0, .int .u8 4] 35)).alloc (.cells #[.int .i64 1, .int .i64 0, .int .u8 6] 37))
      simp only [World.size_alloc] at h9
      first | exact h9.c0 | exact h9.c1 | exact h9.c2
  rw [hwP]
  have hPut := Put_c _ _ wP hP ⟨by decide, by decide⟩
  rw [if_pos Pol.ok_aw, if_pos Pol.ok_aw] at hPut
  clear hS hK hwP
  refine hPut.mono ?_
  rintro e w5 ⟨u, rfl, hu, hb5⟩
  obtain ⟨g, cap, rfl, hg1, hg2, hg3, hg4, hgc, hgf⟩ := hu.form (by rw [Pol.len_aw]; omega)
  rw [Pol.len_aw] at *
  clear hPut hgc hgf hu
  replace hp0 := hb5.keep hp0
  replace hp1 := hb5.keep hp1
  replace hq0 := hb5.keep hq0
  replace hq1 := hb5.keep hq1
  replace hq2 := hb5.keep hq2
  replace hP := hP.bw hb5
  have hbw := (((Bw.refl w).alloc (.cells #[.int .u8 84, .int .u8 80, .int .u8 49, .int .u8 0, .int .u8 0, .int .u8 0] 5)).trans hb1).trans (hbP.trans hb5)
  obtain ⟨va, vb, he, hSr, hSk⟩ := hP
  simp only [Value.agg.injEq, Array.mk.injEq, List.cons.injEq, and_true] at he
  obtain ⟨-, rfl, rfl⟩ := he
  have hL1 := Label_c false _ (.slice (some ⟨w1.heap.size + 1 + 1, 0, none⟩) 1 1) Pol.awS 1 3 w5 hSr (by decide)
  rw [Pol.lab_aw1] at hL1
  clear hg1 hg2 hg3 hg4
  have k0 := hq0; have k1 := hq1; have k2 := hq2
  go_wp2_with fail
  refine hL1.mono ?_
  rintro e w6 ⟨rfl, hb6⟩
  clear hL1 k0 k1 k2
  have hL2 := Label_c false _ (.slice (some ⟨w1.heap.size + 1 + 1, 0, none⟩) 1 1) Pol.awS 1 2 w6 (hSr.bw hb6) (by decide)
  rw [Pol.lab_aw2] at hL2
  have k0 := hb6.keep hq0; have k1 := hb6.keep hq1; have k2 := hb6.keep hq2
  go_wp2_with fail
  refine hL2.mono ?_
  rintro e w7 ⟨rfl, hb7⟩
  clear hL2 k0 k1 k2
  have hH := Hits_c false (.slice (some ⟨w1.heap.size + 1, 0, none⟩) 1 1) _ Pol.awK 1 0 2 w7 (hSk.bw (hb6.trans hb7)) (by decide)
  rw [Pol.hits_aw] at hH
  have k0 := (hb6.trans hb7).keep hq0; have k1 := (hb6.trans hb7).keep hq1; have k2 := (hb6.trans hb7).keep hq2
  go_wp2_with fail
  refine hH.mono ?_
  rintro e w8 ⟨vh, rfl, hoh, hb8⟩
  clear hH k0 k1 k2
  have hPl := places_c vh _ [0] [0] (w8.alloc (.cells #[.int .i64 0] 3)) (hoh.rd.bw ((Bw.refl _).alloc _)) (RdR.new (sz := 1) (n := 1) w8 [.int .i64 0] 3 rfl (by decide))
  go_wp2_with fail
  refine hPl.mono ?_
  rintro e w9 ⟨rfl, hb9⟩
  go_wp2_with fail
  go_returns
  exact ⟨rfl, ((((hbw.trans hb6).trans hb7).trans hb8).alloc _).trans hb9⟩
end Go.Proofs.Ytkffkmiegmaoiaa
