/- LAYER 9's walks: Copy. -/
import Derived.Test.YtaepjlaegldkhaaFeeW6
namespace Go.Proofs.Ytaepjlaegldkhaa
open Go.ChangeShapes Go.WideShapes Go.ChangeAt Go.RowKit

set_option maxHeartbeats 2000000 in
set_option maxRecDepth 100000 in
theorem Copy_c (w : World) (ub : Nat) (sh rd ck : List Int) (a b c : Nat) (h : UseS w ub sh rd ck a b c) (l1 : sh.length ≤ 10000) (l2 : rd.length ≤ 10000) (l3 : ck.length ≤ 10000) :
    Calls Try.prog 39 #[.pointer (some ⟨ub, 0, none⟩)] w fun e w' => ∃ ob, e = .returned (.pointer (some ⟨ob, 0, none⟩)) ∧ w.heap.size ≤ ob ∧ Bw w w' ∧ UseS w' ob sh rd ck a b c ∧ FarU w' ob w.heap.size := by
  have hub := h.lt
  obtain ⟨⟨vs, vr, vc, hb, hS, hR, hC, f1, f2, f3⟩, la, lb, lc⟩ := h
  have hSc := fun X (g : Bw w X) => CloneI_c vs _ _ X (RdR.bw hS g) (one_of (fun _ => rfl) _) (by omega)
  have hRc := fun X (g : Bw w X) => CloneB_c vr _ _ X (RdR.bw hR g) (one_of (fun _ => rfl) _) (by omega)
  have hCc := fun X (g : Bw w X) => CloneW_c vc _ _ X (RdR.bw hC g) (one_of (fun _ => rfl) _) (by omega)
  obtain ⟨qr, cr, rfl, -⟩ := Rd8.open hR
  obtain ⟨qc, cc, rfl, -⟩ := RdR.form hC
  obtain ⟨qs, cs, rfl, -⟩ := RdR.form hS
  have b0 := hb.c 0 _ rfl; have b1 := hb.c 1 _ rfl; have b2 := hb.c 2 _ rfl; have b3 := hb.c 3 _ rfl; have b4 := hb.c 4 _ rfl; have b5 := hb.c 5 _ rfl
  have hne : ub ≠ w.heap.size := by omega
  clear f1 f2 f3 hS hR hC
  go_enter Try.func39, Try.ntmps39
  have hX0 := Box.new w [.slice qs sh.length cs, .slice qr rd.length cr, .slice qc ck.length cc, .int .i64 a, .int .i64 b, .int .i64 c] 86
  have g0 : Bw w (w.alloc (.cells #[.slice qs sh.length cs, .slice qr rd.length cr, .slice qc ck.length cc, .int .i64 a, .int .i64 b, .int .i64 c] 86)) := (Bw.refl w).alloc _
  go_wp2_with fail
  refine (hSc _ g0).mono ?_
  rintro e w1 ⟨us, rfl, r1, h1, f1⟩
  obtain ⟨q1, c1, rfl, -⟩ := r1.form
  have t1 : Far w.heap.size (.slice q1 sh.length c1) := f1.to (by rw [World.size_alloc]; omega)
  replace f1 := f1.le g0.size
  have hX1 := hX0.bw h1
  have hb1 := hb.bw (g0.trans h1)
  replace g0 := g0.trans h1
  generalize hob : w.heap.size = ob at *
  have hl1 := r1.lo
  clear hX0 h1 b0 b1 b2 b3 b4 b5
  have x0 := hX1.c 0 _ rfl; have x0f := hX1.f 0 (by simp)
  have d1 := hb1.c 1 _ rfl
  have g1 : Bw w (w1.setCell ⟨ob, 0, none⟩ (.slice q1 sh.length c1)) := g0.setCell (by rw [hob]; exact Nat.le_refl _) _
  have q1' : Bq ob w1 (w1.setCell ⟨ob, 0, none⟩ (.slice q1 sh.length c1)) := (Bq.refl _ _).set 0 _
  have hX1' := hX1.set 0 (by simp) (.slice q1 sh.length c1)
  have hb1' := hb1.q q1' hne
  have u1 := hb1'.c 1 _ rfl
  clear x0 x0f d1
  have x0 := hX1.c 0 _ rfl; have x0f := hX1.f 0 (by simp)
  go_wp2_with fail
  refine (hRc _ g1).mono ?_
  rintro e w2 ⟨ur, rfl, r2, h2, f2⟩
  obtain ⟨q2, c2, rfl, -⟩ := r2.form
  have t2 : Far ob (.slice q2 rd.length c2) := f2.to (Nat.lt_of_lt_of_le hX1.lt q1'.b0.size)
  replace f2 := f2.le (Nat.le_trans g0.size q1'.b0.size)
  have hX2 := hX1'.bw h2
  have hb2 := hb1'.bw h2
  replace r1 := RdR.bw (RdR.q r1 q1' t1) h2
  replace g1 := g1.trans h2
  clear hX1 hb1 x0 x0f u1 hX1' hb1' h2
  have x1 := hX2.c 1 _ rfl; have x1f := hX2.f 1 (by simp)
  have g2 : Bw w (w2.setCell ⟨ob, 1, none⟩ (.slice q2 rd.length c2)) := g1.setCell (by rw [hob]; exact Nat.le_refl _) _
  have q2' : Bq ob w2 (w2.setCell ⟨ob, 1, none⟩ (.slice q2 rd.length c2)) := (Bq.refl _ _).set 1 _
  have hX2' := hX2.set 1 (by simp) (.slice q2 rd.length c2)
  have hb2' := hb2.q q2' hne
  have u2 := hb2'.c 2 _ rfl
  go_wp2_with fail
  refine (hCc _ g2).mono ?_
  rintro e w3 ⟨uc, rfl, r3, h3, f3⟩
  obtain ⟨q3, c3, rfl, -⟩ := r3.form
  have t3 : Far ob (.slice q3 ck.length c3) := f3.to (Nat.lt_of_lt_of_le hX2.lt q2'.b0.size)
  replace f3 := f3.le (Nat.le_trans g1.size q2'.b0.size)
  have hX3 := hX2'.bw h3
  replace r1 := RdR.bw (RdR.q r1 q2' t1) h3
  replace r2 := RdR.bw (RdR.q r2 q2' t2) h3
  replace g2 := g2.trans h3
  clear hX2 hb2 x1 x1f u2 hX2' hb2' h3
  have x2 := hX3.c 2 _ rfl; have x2f := hX3.f 2 (by simp)
  have g3 : Bw w (w3.setCell ⟨ob, 2, none⟩ (.slice q3 ck.length c3)) := g2.setCell (by rw [hob]; exact Nat.le_refl _) _
  have q3' : Bq ob w3 (w3.setCell ⟨ob, 2, none⟩ (.slice q3 ck.length c3)) := (Bq.refl _ _).set 2 _
  have hX3' := hX3.set 2 (by simp) (.slice q3 ck.length c3)
  have HFin : Hid _ := (⟨Nat.le_of_eq hob, g3, ⟨⟨_, _, _, hX3', RdR.q r1 q3' t1, RdR.q r2 q3' t2, RdR.q r3 q3' t3, t1, t2, t3⟩, la, lb, lc⟩, FarU.mk hX3' (f1.le (Nat.le_of_eq hob)) f2 f3⟩ : w.heap.size ≤ ob ∧ Bw w (w3.setCell ⟨ob, 2, none⟩ (.slice q3 ck.length c3)) ∧ UseS (w3.setCell ⟨ob, 2, none⟩ (.slice q3 ck.length c3)) ob sh rd ck a b c ∧ FarU (w3.setCell ⟨ob, 2, none⟩ (.slice q3 ck.length c3)) ob w.heap.size)
  clear hX3 hX3' r1 r2 r3 g3 q3' hSc hRc hCc
  go_wp2_with fail
  go_returns
  rw [hob] at HFin ⊢
  exact ⟨_, rfl, HFin⟩
end Go.Proofs.Ytaepjlaegldkhaa
