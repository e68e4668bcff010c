/- LAYER 7's law PolicyKnown. -/
import Derived.Test.YtkffkmiegmaoiaaPolW8
namespace Go.Proofs.Ytkffkmiegmaoiaa
open Go.ChangeShapes Go.WideShapes Go.ChangeAt Go.RowKit

theorem Get_k (L : List Int) (hl : L.length ≤ 100) (h8 : B8s L) (E : Int) (hE : (if Pol.isPb L then (0 : Int) else 3) = E) (w : World) : Calls Try.prog 10 #[.slice (some ⟨w.heap.size, 0, none⟩) L.length L.length] (w.alloc (.cells (ints8 L).toArray 5)) fun e w' => ∃ b q1 n1 c1 q2 n2 c2, e = .returned (.tuple #[.agg #[.bool b, .slice q1 n1 c1, .slice q2 n2 c2], .int .i64 E]) ∧ Bw w w' := by
  refine (Get_c _ L _ (Rd8.new w L (by omega)) h8 (by omega)).mono ?_
  rintro e w' ⟨u, rfl, ⟨v1, v2, rfl, ⟨⟨q1, c1, rfl, _⟩, _⟩, ⟨⟨q2, c2, rfl, _⟩, _⟩⟩, hb⟩
  exact ⟨_, _, _, _, _, _, _, by rw [hE], ((Bw.refl w).alloc _).trans hb⟩
theorem Get_nil (w : World) : Calls Try.prog 10 #[.slice none 0 0] w fun e w' => ∃ b q1 n1 c1 q2 n2 c2, e = .returned (.tuple #[.agg #[.bool b, .slice q1 n1 c1, .slice q2 n2 c2], .int .i64 3]) ∧ Bw w w' := by
  refine (Get_c _ [] w (RdR.nil _ _) (fun x hx => by simp at hx) (by simp)).mono ?_
  rintro e w' ⟨u, rfl, ⟨v1, v2, rfl, ⟨⟨q1, c1, rfl, _⟩, _⟩, ⟨⟨q2, c2, rfl, _⟩, _⟩⟩, hb⟩
  exact ⟨_, _, _, _, _, _, _, rfl, hb⟩
theorem Put_k1 (s : Pol.Src) (hs : Pol.SWf s) (E : Int) (hE : (if Pol.ok ⟨false, [s], []⟩ then (0 : Int) else 1) = E) (w : World) :
    Calls Try.prog 11 #[.agg #[.bool false, .slice (some ⟨w.heap.size, 0, none⟩) 1 1, .slice none 0 0]] (w.alloc (.cells #[.int .i64 s.kind, .int .u32 s.arg, .int .u32 s.len, .int .u8 s.label] 35)) fun e w' => ∃ u, e = .returned (.tuple #[u, .int .i64 E]) ∧ Bw w w' := by
  refine (Put_c _ ⟨false, [s], []⟩ _ ⟨_, _, rfl, SrcS.new w [s] 35 (by simp) (fun x hx => by simp at hx; subst hx; exact hs), SnkS.nil _⟩ ⟨by simp, by simp⟩).mono ?_
  rintro e w' ⟨u, rfl, _, hb⟩
  exact ⟨u, by rw [hE], ((Bw.refl w).alloc _).trans hb⟩
theorem Put_k2 (l : List Pol.Snk) (hl : l.length ≤ 100) (hs : ∀ s ∈ l, Pol.KWf s) (E : Int) (hE : (if Pol.ok ⟨false, [], l⟩ then (0 : Int) else 1) = E) (w : World) :
    Calls Try.prog 11 #[.agg #[.bool false, .slice none 0 0, .slice (some ⟨w.heap.size, 0, none⟩) l.length l.length]] (w.alloc (.cells (l.flatMap Pol.snkC).toArray 37)) fun e w' => ∃ u, e = .returned (.tuple #[u, .int .i64 E]) ∧ Bw w w' := by
  refine (Put_c _ ⟨false, [], l⟩ _ ⟨_, _, rfl, SrcS.nil _, SnkS.new w l 37 (by omega) hs⟩ ⟨by simp, by show l.length ≤ 1000; omega⟩).mono ?_
  rintro e w' ⟨u, rfl, _, hb⟩
  exact ⟨u, by rw [hE], ((Bw.refl w).alloc _).trans hb⟩
theorem swf {a b c d : Int} (h : -9223372036854775808 ≤ a ∧ a ≤ 9223372036854775807 ∧ 0 ≤ b ∧ b < 4294967296 ∧ 0 ≤ c ∧ c < 4294967296 ∧ 0 ≤ d ∧ d < 256) : Pol.SWf ⟨a, b, c, d⟩ := by constructor <;> dsimp only <;> omega
theorem kwf {a b d : Int} (h : -9223372036854775808 ≤ a ∧ a ≤ 9223372036854775807 ∧ -9223372036854775808 ≤ b ∧ b ≤ 9223372036854775807 ∧ 0 ≤ d ∧ d < 256) : Pol.KWf ⟨a, b, d⟩ := by constructor <;> dsimp only <;> omega
theorem made33 : ((madeCells (Value.agg #[.int .i64 0, .int .i64 0, .int .u8 0]).cells (Int.toNat 33 * 3)).toList.take (33 * 3)) = (List.replicate 33 (⟨0, 0, 0⟩ : Pol.Snk)).flatMap Pol.snkC := by kernel_rfl
theorem mk33 (w : World) : ∃ v w', (Instr.makeSlice 24 (.int .i64 33) (.int .i64 33)).run Try.prog w = .ok v w' ∧ OwnR 37 3 w w' v 33 ((List.replicate 33 (⟨0, 0, 0⟩ : Pol.Snk)).flatMap Pol.snkC) ∧ Bw w w' := by
  obtain ⟨i, hi, he⟩ := Option.map_eq_some_iff.1 infoSnk
  simp only [Prod.mk.injEq] at he
  obtain ⟨hz, hs, hb⟩ := he
  have hr := run_makeSlice (P := Try.prog) w 24 37 i _ Try.underlying24 hi hz .i64 .i64 33 33 (by omega) (by omega) (by rw [hs]; decide) (by rw [hb]; decide) (by decide)
  rw [hs] at hr
  refine ⟨_, _, hr, ⟨by rfl, Or.inr ⟨w.heap.size, 33, _, rfl, Nat.le_refl _, heap_alloc_new w _, by decide, by decide, size_madeCells _ _, made33⟩⟩, (Bw.refl w).alloc _⟩
def Pol.knS : List Pol.Src := [⟨4, 0, 9, 1⟩, ⟨2, 0, 0, 2⟩, ⟨2, 0, 0, 8⟩]
def Pol.knK : List Pol.Snk := [⟨4, 1, 3⟩, ⟨4, 1, 1⟩, ⟨5, 0, 2⟩]
theorem Pol.knS_wf : ∀ s ∈ Pol.knS, Pol.SWf s := fun s hs => by simp [Pol.knS] at hs; rcases hs with rfl | rfl | rfl <;> constructor <;> decide
theorem Pol.knK_wf : ∀ s ∈ Pol.knK, Pol.KWf s := fun s hs => by simp [Pol.knK] at hs; rcases hs with rfl | rfl | rfl <;> constructor <;> decide
theorem Pol.kn1 : Pol.lab 4 3 Pol.knS 0 = 0 := by decide +kernel
theorem Pol.kn2 : Pol.lab 2 77 Pol.knS 0 = 10 := by decide +kernel
theorem Pol.kn3 : Pol.hits 4 1 2 Pol.knK 0 = [0] := by decide +kernel
theorem Pol.kn4 : Pol.hits 4 1 1 Pol.knK 0 = [0, 1] := by decide +kernel
theorem Pol.kn5 : Pol.hits 4 0 255 Pol.knK 0 = [] := by decide +kernel
theorem Pol.kn6 : Pol.hits 5 9 2 Pol.knK 0 = [2] := by decide +kernel
set_option maxHeartbeats 8000000 in
set_option maxRecDepth 100000 in
theorem PolicyKnown_w (w : World) : Calls Try.prog 3 #[] w fun e w' => e = .returned (.bool true) ∧ Bw w w' := by
  have hg1 : ∀ (w : World) (H : Nat), w.heap.size = H → Calls Try.prog 10 #[.slice (some ⟨H, 0, none⟩) 6 6] (w.alloc (.cells #[.int .u8 84, .int .u8 80, .int .u8 49, .int .u8 2, .int .u8 0, .int .u8 0] 5)) (fun e w' => ∃ b q1 n1 c1 q2 n2 c2, e = .returned (.tuple #[.agg #[.bool b, .slice q1 n1 c1, .slice q2 n2 c2], .int .i64 3]) ∧ Bw w w') := fun w H hH => hH ▸ Get_k [84, 80, 49, 2, 0, 0] (by decide) (fun x hx => by simp at hx; unfold B8; omega) 3 (by decide +kernel) w
  have hg2 : ∀ (w : World) (H : Nat), w.heap.size = H → Calls Try.prog 10 #[.slice (some ⟨H, 0, none⟩) 7 7] (w.alloc (.cells #[.int .u8 84, .int .u8 80, .int .u8 49, .int .u8 0, .int .u8 0, .int .u8 0, .int .u8 0] 5)) (fun e w' => ∃ b q1 n1 c1 q2 n2 c2, e = .returned (.tuple #[.agg #[.bool b, .slice q1 n1 c1, .slice q2 n2 c2], .int .i64 3]) ∧ Bw w w') := fun w H hH => hH ▸ Get_k [84, 80, 49, 0, 0, 0, 0] (by decide) (fun x hx => by simp at hx; unfold B8; omega) 3 (by decide +kernel) w
  have hp1 : ∀ (w : World) (H : Nat), w.heap.size = H → Calls Try.prog 11 #[.agg #[.bool false, .slice (some ⟨H, 0, none⟩) 1 1, .slice none 0 0]] (w.alloc (.cells #[.int .i64 1, .int .u32 3, .int .u32 0, .int .u8 0] 35)) (fun e w' => ∃ u, e = .returned (.tuple #[u, .int .i64 1]) ∧ Bw w w') := fun w H hH => hH ▸ Put_k1 ⟨1, 3, 0, 0⟩ (swf (by decide)) 1 (by decide +kernel) w
  have hp2 : ∀ (w : World) (H : Nat), w.heap.size = H → Calls Try.prog 11 #[.agg #[.bool false, .slice (some ⟨H, 0, none⟩) 1 1, .slice none 0 0]] (w.alloc (.cells #[.int .i64 4, .int .u32 4294967295, .int .u32 2, .int .u8 1] 35)) (fun e w' => ∃ u, e = .returned (.tuple #[u, .int .i64 1]) ∧ Bw w w') := fun w H hH => hH ▸ Put_k1 ⟨4, 4294967295, 2, 1⟩ (swf (by decide)) 1 (by decide +kernel) w
  have hp3 : ∀ (w : World) (H : Nat), w.heap.size = H → Calls Try.prog 11 #[.agg #[.bool false, .slice (some ⟨H, 0, none⟩) 1 1, .slice none 0 0]] (w.alloc (.cells #[.int .i64 4, .int .u32 4294967295, .int .u32 1, .int .u8 1] 35)) (fun e w' => ∃ u, e = .returned (.tuple #[u, .int .i64 0]) ∧ Bw w w') := fun w H hH => hH ▸ Put_k1 ⟨4, 4294967295, 1, 1⟩ (swf (by decide)) 0 (by decide +kernel) w
  have hp4 : ∀ (w : World) (H : Nat), w.heap.size = H → Calls Try.prog 11 #[.agg #[.bool false, .slice none 0 0, .slice (some ⟨H, 0, none⟩) 1 1]] (w.alloc (.cells #[.int .i64 4, .int .i64 7, .int .u8 1] 37)) (fun e w' => ∃ u, e = .returned (.tuple #[u, .int .i64 1]) ∧ Bw w w') := fun w H hH => hH ▸ Put_k2 [⟨4, 7, 1⟩] (by decide) (fun s hs => by simp at hs; subst hs; exact kwf (by decide)) 1 (by decide +kernel) w
  have hp5 : ∀ (w : World) (H : Nat), w.heap.size = H → Calls Try.prog 11 #[.agg #[.bool false, .slice none 0 0, .slice (some ⟨H, 0, none⟩) 1 1]] (w.alloc (.cells #[.int .i64 2, .int .i64 1, .int .u8 1] 37)) (fun e w' => ∃ u, e = .returned (.tuple #[u, .int .i64 1]) ∧ Bw w w') := fun w H hH => hH ▸ Put_k2 [⟨2, 1, 1⟩] (by decide) (fun s hs => by simp at hs; subst hs; exact kwf (by decide)) 1 (by decide +kernel) w
  go_enter Try.func3, Try.ntmps3
  go_wp2_with fail
  refine (awake7_c _).mono ?_
  rintro e w1 ⟨rfl, hb1⟩
  go_wp2_with fail
  refine (Get_nil _).mono ?_
  rintro e w2 ⟨_, _, _, _, _, _, _, rfl, hb2⟩
  replace hb1 : Bw w w2 := by first | exact hb1.trans hb2 | exact (hb1.alloc _).trans hb2 | exact ((hb1.alloc _).alloc _).trans hb2
  clear hb2
  go_wp2_with fail
  refine (hg1 _ _ (by simp)).mono ?_
  rintro e w3 ⟨_, _, _, _, _, _, _, rfl, hb2⟩
  replace hb1 : Bw w w3 := by first | exact hb1.trans hb2 | exact (hb1.alloc _).trans hb2 | exact ((hb1.alloc _).alloc _).trans hb2
  clear hb2
  go_wp2_with fail
  refine (hg2 _ _ (by simp)).mono ?_
  rintro e w4 ⟨_, _, _, _, _, _, _, rfl, hb2⟩
  replace hb1 : Bw w w4 := by first | exact hb1.trans hb2 | exact (hb1.alloc _).trans hb2 | exact ((hb1.alloc _).alloc _).trans hb2
  clear hb2
  go_wp2_with fail
  refine (hp1 _ _ (by simp)).mono ?_
  rintro e w5 ⟨_, rfl, hb2⟩
  replace hb1 : Bw w w5 := by first | exact hb1.trans hb2 | exact (hb1.alloc _).trans hb2 | exact ((hb1.alloc _).alloc _).trans hb2
  clear hb2
  go_wp2_with fail
  refine (hp2 _ _ (by simp)).mono ?_
  rintro e w6 ⟨_, rfl, hb2⟩
  replace hb1 : Bw w w6 := by first | exact hb1.trans hb2 | exact (hb1.alloc _).trans hb2 | exact ((hb1.alloc _).alloc _).trans hb2
  clear hb2
  go_wp2_with fail
  refine (hp3 _ _ (by simp)).mono ?_
  rintro e w7 ⟨_, rfl, hb2⟩
  replace hb1 : Bw w w7 := by first | exact hb1.trans hb2 | exact (hb1.alloc _).trans hb2 | exact ((hb1.alloc _).alloc _).trans hb2
  clear hb2
  go_wp2_with fail
  refine (hp4 _ _ (by simp)).mono ?_
  rintro e w8 ⟨_, rfl, hb2⟩
  replace hb1 : Bw w w8 := by first | exact hb1.trans hb2 | exact (hb1.alloc _).trans hb2 | exact ((hb1.alloc _).alloc _).trans hb2
  clear hb2
  go_wp2_with fail
  refine (hp5 _ _ (by simp)).mono ?_
  rintro e w9 ⟨_, rfl, hb2⟩
  replace hb1 : Bw w w9 := by first | exact hb1.trans hb2 | exact (hb1.alloc _).trans hb2 | exact ((hb1.alloc _).alloc _).trans hb2
  clear hb2
  obtain ⟨vm, wm, hmk, hom, hbm⟩ := mk33 w9
  obtain ⟨gm, cm, rfl⟩ := OwnR.form hom (by omega)
  have hp6 := Put_c (.agg #[.bool false, .slice none 0 0, .slice (some ⟨gm, 0, none⟩) 33 cm]) ⟨false, [], List.replicate 33 ⟨0, 0, 0⟩⟩ wm ⟨_, _, rfl, SrcS.nil _, ⟨by simpa using hom.rd, fun s hs => by simp at hs; subst hs; exact kwf (by decide)⟩⟩ ⟨by simp, by simp⟩
  rw [if_neg (by decide +kernel)] at hp6
  go_wp2_with fail
  refine hp6.mono ?_
  rintro e w10 ⟨_, rfl, -, hb2⟩
  replace hb1 : Bw w w10 := (hb1.trans hbm).trans hb2
  clear hb2 hp6 hmk hom hbm
  have hSr := SrcS.new w10 Pol.knS 35 (by decide) Pol.knS_wf
  have hSk := SnkS.new (w10.alloc (.cells #[.int .i64 4, .int .u32 0, .int .u32 9, .int .u8 1, .int .i64 2, .int .u32 0, .int .u32 0, .int .u8 2, .int .i64 2, .int .u32 0, .int .u32 0, .int .u8 8] 35)) Pol.knK 37 (by decide) Pol.knK_wf
  have hz0 := PBox.new ((w10.alloc (.cells #[.int .i64 4, .int .u32 0, .int .u32 9, .int .u8 1, .int .i64 2, .int .u32 0, .int .u32 0, .int .u8 2, .int .i64 2, .int .u32 0, .int .u32 0, .int .u8 8] 35)).alloc (.cells #[.int .i64 4, .int .i64 1, .int .u8 3, .int .i64 4, .int .i64 1, .int .u8 1, .int .i64 5, .int .i64 0, .int .u8 2] 37)) false (.slice (some ⟨w10.heap.size, 0, none⟩) 3 3) (.slice (some ⟨w10.heap.size + 1, 0, none⟩) 3 3) 26
  simp only [World.size_alloc] at hSk hz0
  go_wp2_with fail
  obtain ⟨wP, hwP, hbP, hz, hS, hK⟩ : ∃ wP, (((w10.alloc (.cells #[.int .i64 4, .int .u32 0, .int .u32 9, .int .u8 1, .int .i64 2, .int .u32 0, .int .u32 0, .int .u8 2, .int .i64 2, .int .u32 0, .int .u32 0, .int .u8 8] 35)).alloc (.cells #[.int .i64 4, .int .i64 1, .int .u8 3, .int .i64 4, .int .i64 1, .int .u8 1, .int .i64 5, .int .i64 0, .int .u8 2] 37)).alloc (.cells #[.bool false, .slice (some ⟨w10.heap.size, 0, none⟩) 3 3, .slice (some ⟨w10.heap.size + 1, 0, none⟩) 3 3] 26)) = wP ∧ Bw w10 wP ∧ PBox wP (w10.heap.size + 1 + 1) false (.slice (some ⟨w10.heap.size, 0, none⟩) 3 3) (.slice (some ⟨w10.heap.size + 1, 0, none⟩) 3 3) ∧ SrcS wP (.slice (some ⟨w10.heap.size, 0, none⟩) 3 3) Pol.knS ∧ SnkS wP (.slice (some ⟨w10.heap.size + 1, 0, none⟩) 3 3) Pol.knK :=
    ⟨_, rfl, by (repeat' (first | (with_reducible assumption) | (with_reducible exact Bw.refl _) | (with_reducible refine Bw.alloc ?_ _) | (with_reducible refine Bw.drew ?_) | (with_reducible refine Bw.drewN ?_ _) | (with_reducible refine Bw.setCell ?_ ?_ _) | exact Nat.le_refl _)), hz0, (SrcS.bw hSr ((Bw.refl _).alloc _)).bw ((Bw.refl _).alloc _), SnkS.bw hSk ((Bw.refl _).alloc _)⟩
  rw [hwP]
  replace hb1 := hb1.trans hbP
  clear hwP hSr hSk hz0 hbP
  have hB := Bw.refl wP
  have k0 := hz.c0; have k1 := hz.c1; have k2 := hz.c2
  have hL := Label_c false _ (.slice (some ⟨w10.heap.size + 1, 0, none⟩) 3 3) Pol.knS 4 3 _ (hS.bw hB) (by decide)
  rw [Pol.kn1] at hL
  go_wp2_with fail
  refine hL.mono ?_
  rintro e w20 ⟨rfl, hb2⟩
  replace hB := hB.trans hb2
  clear hL hb2
  clear k0 k1 k2
  have k0 := hB.keep hz.c0; have k1 := hB.keep hz.c1; have k2 := hB.keep hz.c2
  have hL := Label_c false _ (.slice (some ⟨w10.heap.size + 1, 0, none⟩) 3 3) Pol.knS 2 77 _ (hS.bw hB) (by decide)
  rw [Pol.kn2] at hL
  go_wp2_with fail
  refine hL.mono ?_
  rintro e w21 ⟨rfl, hb2⟩
  replace hB := hB.trans hb2
  clear hL hb2
  clear k0 k1 k2
  have k0 := hB.keep hz.c0; have k1 := hB.keep hz.c1; have k2 := hB.keep hz.c2
  have hH := Hits_c false (.slice (some ⟨w10.heap.size, 0, none⟩) 3 3) _ Pol.knK 4 1 2 _ (hK.bw hB) (by decide)
  rw [Pol.kn3] at hH
  go_wp2_with fail
  refine hH.mono ?_
  rintro e w22 ⟨vh, rfl, hoh, hb2⟩
  replace hB := hB.trans hb2
  clear hH hb2
  clear k0 k1 k2
  have k0 := hB.keep hz.c0; have k1 := hB.keep hz.c1; have k2 := hB.keep hz.c2
  have hPl := places_c vh _ [0] [0] (w22.alloc (.cells #[.int .i64 0] 3)) (hoh.rd.bw ((Bw.refl _).alloc _)) (RdR.new (sz := 1) (n := 1) w22 [.int .i64 0] 3 rfl (by decide))
  rw [decide_eq_true rfl] at hPl
  go_wp2_with fail
  refine hPl.mono ?_
  rintro e w23 ⟨rfl, hb2⟩
  replace hB := (hB.alloc _).trans hb2
  clear hPl hb2
  clear k0 k1 k2
  have k0 := hB.keep hz.c0; have k1 := hB.keep hz.c1; have k2 := hB.keep hz.c2
  clear hoh
  have hH := Hits_c false (.slice (some ⟨w10.heap.size, 0, none⟩) 3 3) _ Pol.knK 4 1 1 _ (hK.bw hB) (by decide)
  rw [Pol.kn4] at hH
  go_wp2_with fail
  refine hH.mono ?_
  rintro e w24 ⟨vh, rfl, hoh, hb2⟩
  replace hB := hB.trans hb2
  clear hH hb2
  clear k0 k1 k2
  have k0 := hB.keep hz.c0; have k1 := hB.keep hz.c1; have k2 := hB.keep hz.c2
  have hPl := places_c vh _ [0, 1] [0, 1] (w24.alloc (.cells #[.int .i64 0, .int .i64 1] 3)) (hoh.rd.bw ((Bw.refl _).alloc _)) (RdR.new (sz := 1) (n := 2) w24 [.int .i64 0, .int .i64 1] 3 rfl (by decide))
  rw [decide_eq_true rfl] at hPl
  go_wp2_with fail
  refine hPl.mono ?_
  rintro e w25 ⟨rfl, hb2⟩
  replace hB := (hB.alloc _).trans hb2
  clear hPl hb2
  clear k0 k1 k2
  have k0 := hB.keep hz.c0; have k1 := hB.keep hz.c1; have k2 := hB.keep hz.c2
  clear hoh
  have hH := Hits_c false (.slice (some ⟨w10.heap.size, 0, none⟩) 3 3) _ Pol.knK 4 0 255 _ (hK.bw hB) (by decide)
  rw [Pol.kn5] at hH
  go_wp2_with fail
  refine hH.mono ?_
  rintro e w26 ⟨vh, rfl, hoh, hb2⟩
  replace hB := hB.trans hb2
  clear hH hb2
  clear k0 k1 k2
  have k0 := hB.keep hz.c0; have k1 := hB.keep hz.c1; have k2 := hB.keep hz.c2
  obtain ⟨qe, ce, rfl, -⟩ := RdI_open hoh.rd
  clear hoh
  have hH := Hits_c false (.slice (some ⟨w10.heap.size, 0, none⟩) 3 3) _ Pol.knK 5 9 2 _ (hK.bw hB) (by decide)
  rw [Pol.kn6] at hH
  go_wp2_with fail
  refine hH.mono ?_
  rintro e w27 ⟨vh, rfl, hoh, hb2⟩
  replace hB := hB.trans hb2
  clear hH hb2
  clear k0 k1 k2
  have k0 := hB.keep hz.c0; have k1 := hB.keep hz.c1; have k2 := hB.keep hz.c2
  have hPl := places_c vh _ [2] [2] (w27.alloc (.cells #[.int .i64 2] 3)) (hoh.rd.bw ((Bw.refl _).alloc _)) (RdR.new (sz := 1) (n := 1) w27 [.int .i64 2] 3 rfl (by decide))
  rw [decide_eq_true rfl] at hPl
  go_wp2_with fail
  refine hPl.mono ?_
  rintro e w28 ⟨rfl, hb2⟩
  replace hB := (hB.alloc _).trans hb2
  clear hPl hb2
  clear k0 k1 k2
  have k0 := hB.keep hz.c0; have k1 := hB.keep hz.c1; have k2 := hB.keep hz.c2
  go_wp2_with fail
  go_returns
  exact ⟨rfl, hb1.trans hB⟩
end Go.Proofs.Ytkffkmiegmaoiaa
