/- LAYER 11's walks: New. · LAYER 11: an element of what is written. · LAYER 11's walks: Copy. -/
import Derived.Test.YtncidjkkngbclaaR5
import Derived.Deep.WholeRow
import Derived.Deep.CutBlock
namespace Go.Proofs.Ytncidjkkngbclaa
open Go.ChangeShapes Go.WideShapes Go.ChangeAt Go.RowKit

theorem Fil.new_ok {f : Fee.Fd} (hwf : Fee.Wf f) (h8 : ∀ x ∈ f.files, B8s x.data) : Fil.Ok (Fil.new f) := by
  obtain ⟨b1, b2, b3⟩ := Fee.beg_len f
  have hc : Fee.beg f = f ∧ Fee.good f = true ∨ Fee.beg f = Fee.noFd := by
    unfold Fee.beg
    cases h : Fee.good f with
    | true => exact Or.inl ⟨rfl, rfl⟩
    | false => exact Or.inr rfl
  refine ⟨rfl, fun i h hi => ?_, ?_, by show (Fee.beg f).short.length ≤ 10000; omega, by show (Fee.beg f).random.length ≤ 10000; omega, by show (Fee.beg f).clock.length ≤ 10000; omega, ?_, ?_, ⟨by show 0 ≤ 65536; omega, by intro x hx; simp [Fil.new] at hx⟩, ⟨by show 0 ≤ 65536; omega, by intro x hx; simp [Fil.new] at hx⟩⟩
  · have hi' : ([⟨1, 0, 0⟩, ⟨2, 0, 0⟩, ⟨2, 0, 0⟩] ++ List.replicate 13 Fil.no)[i]? = some h := hi
    match i, hi' with
    | 0, e => simp at e; subst e; exact Or.inr (Or.inl ⟨rfl, by show 0 < _ + 1; omega⟩)
    | 1, e => simp at e; subst e; exact Or.inr (Or.inr ⟨rfl, Or.inl rfl⟩)
    | 2, e => simp at e; subst e; exact Or.inr (Or.inr ⟨rfl, Or.inr rfl⟩)
    | i + 3, e =>
      rw [List.getElem?_append_right (by simp)] at e
      have := List.mem_of_getElem? e
      rw [List.eq_of_mem_replicate this]
      exact Or.inl rfl
  · show ∀ x ∈ (Fee.beg f).short, 0 ≤ x
    rcases hc with ⟨e, g⟩ | e
    · rw [e]; exact Fee.good_short g
    · rw [e]; simp [Fee.noFd]
  · show 1 ≤ (Fee.beg f).files.length + 1 ∧ (Fee.beg f).files.length + 1 ≤ 1000
    rcases hc with ⟨e, g⟩ | e
    · rw [e]; have := (Fee.good_len g).2.2.2.2.2; omega
    · rw [e]; simp [Fee.noFd]
  · show ∀ x ∈ (⟨⟨#[]⟩, (Fee.beg f).input⟩ :: (Fee.beg f).files : List Fee.Fl), x.data.length ≤ 4096 ∧ B8s x.data
    intro x hx
    rcases hc with ⟨e, g⟩ | e
    · rw [e] at hx
      rcases List.mem_cons.1 hx with rfl | hx
      · exact ⟨(Fee.good_len g).2.2.2.2.1, hwf.i8⟩
      · exact ⟨Fee.good_data g x hx, h8 x hx⟩
    · rw [e] at hx
      simp [Fee.noFd] at hx
      subst hx
      exact ⟨by simp, by intro y hy; simp at hy⟩
theorem Fil.mkFS {w w3 w4 wF : World} {fb ub : Nat} {f : Fee.Fd} {v4 : Value} {us4 : List Value} (hok : Fil.Ok (Fil.new f)) (hB : Bw w w4) (hbF : Bw w4 wF) (hfb : w4.heap.size = fb) (hlt : fb < wF.heap.size) (hX : Box wF fb (Fil.cells ub v4 (.slice none 0 0) (.slice none 0 0) (Fil.new f).op))
    (hU : UseS w4 ub (Fee.beg f).short (Fee.beg f).random (Fee.beg f).clock 0 0 0) (hFU : FarU w4 ub w.heap.size) (hwub : w.heap.size ≤ ub) (hub : ub < w3.heap.size) (h34 : Bw w3 w4)
    (k1 : us4.length = (Fil.new f).srcs.length) (k2 : RdR 2 w4 v4 (Fil.new f).srcs.length (Fee.cells (Fil.new f).srcs us4)) (k3 : Far2 w3.heap.size v4) (k4 : ∀ (i : Nat) x u, (Fil.new f).srcs[i]? = some x → us4[i]? = some u → Rd8 w4 u x.data ∧ Far2 w3.heap.size u) :
    ∃ A, FS w wF fb A (Fil.new f) ∧ Bw w wF := by
  have s34 := h34.size
  have sB := hB.size
  have hR : ∀ u, Far2 w3.heap.size u → Lo w4.heap.size u → RdA (fun i => w.heap.size ≤ i ∧ i < wF.heap.size) (Fil.F fb ub (.slice none 0 0) (.slice none 0 0)) u := fun u h1 h2 q k c e hk => by
    have a1 := h1 q k c e hk
    have a2 := h2 q k c e hk
    refine ⟨⟨by omega, by omega⟩, fun hF => ?_⟩
    rcases hF with e | e | e | e
    · omega
    · omega
    · simp [Value.ownBlock] at e
    · simp [Value.ownBlock] at e
  refine ⟨fun i => w.heap.size ≤ i ∧ i < wF.heap.size, ⟨ub, .slice none 0 0, .slice none 0 0, v4, us4, hok, by omega, fun i hi => hi, ⟨by omega, hlt⟩, ⟨hwub, by omega⟩, hX, hU.bw hbF, ?_, k1, RdR.bw k2 hbF, hR _ k3 (RdR.lo k2), fun i x u a b => ⟨(k4 i x u a b).1.bw hbF, hR u (k4 i x u a b).2 (RdR.lo (k4 i x u a b).1)⟩, Own8.nil _ _, Own8.nil _ _, fun g e => by simp [Value.ownBlock] at e, fun g e => by simp [Value.ownBlock] at e⟩, hB.trans hbF⟩
  intro j v hj hc q k c e hk
  have hv : w4.cell? ⟨ub, j, none⟩ = some v := (cell_block (p := ⟨ub, j, none⟩) (Below.block hbF ub hU.lt)).symm.trans hc
  have a1 := hFU j v hj hv q k c e hk
  obtain ⟨⟨vs, vr, vc, h1, h2, h3, h4, h5, h6, h7⟩, _⟩ := hU
  have a2 : q.block < w4.heap.size ∧ q.block ≠ ub := by
    obtain rfl | rfl | rfl : j = 0 ∨ j = 1 ∨ j = 2 := by omega
    · rw [h1.c 0 _ rfl] at hv; obtain rfl := Option.some.inj hv; exact ⟨RdR.lo h2 q k c e hk, h5 q k c e hk⟩
    · rw [h1.c 1 _ rfl] at hv; obtain rfl := Option.some.inj hv; exact ⟨RdR.lo h3 q k c e hk, h6 q k c e hk⟩
    · rw [h1.c 2 _ rfl] at hv; obtain rfl := Option.some.inj hv; exact ⟨RdR.lo h4 q k c e hk, h7 q k c e hk⟩
  refine ⟨⟨a1, by omega⟩, fun hF => ?_⟩
  rcases hF with e | e | e | e
  · omega
  · exact a2.2 e
  · simp [Value.ownBlock] at e
  · simp [Value.ownBlock] at e
set_option maxHeartbeats 4000000 in
set_option maxRecDepth 100000 in
theorem fNew_c (v : Value) (f : Fee.Fd) (w : World) (hv : IsFd w v f) : Calls Try.prog 6 #[v] w fun e w' => ∃ fb A, e = .returned (.pointer (some ⟨fb, 0, none⟩)) ∧ FS w w' fb A (Fil.new f) ∧ Bw w w' := by
  have hBg := fun X (g : Bw w X) => Begin_c v f X (hv.bw g)
  have hSo := fun X (g : Bw w X) => srcOf_c v f X (hv.bw g)
  obtain ⟨va, vi, vs, vr, vc, vf, rfl, ha, hi, hs, hr, hc, hf, hwf⟩ := hv
  obtain ⟨qa, ca, rfl, -⟩ := RdR.form ha
  obtain ⟨qr, cr, rfl, -⟩ := Rd8.open hr
  obtain ⟨qc, cc, rfl, -⟩ := RdR.form hc
  obtain ⟨qs, cs, rfl, -⟩ := RdR.form hs
  obtain ⟨qi, ci, rfl, -⟩ := Rd8.open hi
  obtain ⟨qf, cf, rfl, -⟩ := hf.form
  have hok : Fil.Ok (Fil.new f) := Fil.new_ok hwf (by obtain ⟨_, _, _, _, h⟩ := hf; exact h)
  clear ha hi hs hr hc hf
  go_enter Try.func6, Try.ntmps6
  have hBx := Box.new w [.slice qa f.args.length ca, .slice qi f.input.length ci, .slice qs f.short.length cs, .slice qr f.random.length cr, .slice qc f.clock.length cc, .slice qf f.files.length cf] 28
  have hbA : Bw w (w.alloc (.cells #[.slice qa f.args.length ca, .slice qi f.input.length ci, .slice qs f.short.length cs, .slice qr f.random.length cr, .slice qc f.clock.length cc, .slice qf f.files.length cf] 28)) := (Bw.refl w).alloc _
  go_wp2_with fail
  generalize (w.alloc (.cells #[.slice qa f.args.length ca, .slice qi f.input.length ci, .slice qs f.short.length cs, .slice qr f.random.length cr, .slice qc f.clock.length cc, .slice qf f.files.length cf] 28)) = w2 at *
  have hBx2 : Box w2 w.heap.size [.slice qa f.args.length ca, .slice qi f.input.length ci, .slice qs f.short.length cs, .slice qr f.random.length cr, .slice qc f.clock.length cc, .slice qf f.files.length cf] := hBx
  clear hBx
  obtain ⟨pb, hpb⟩ : ∃ pb, w.heap.size = pb := ⟨_, rfl⟩
  rw [hpb] at hBx2 ⊢
  have hHold : ∀ X, Bw w2 X → (X.cell? ⟨pb, 0, none⟩ = some (.slice qa f.args.length ca) ∧ X.cell? ⟨pb, 1, none⟩ = some (.slice qi f.input.length ci) ∧ X.cell? ⟨pb, 2, none⟩ = some (.slice qs f.short.length cs) ∧ X.cell? ⟨pb, 3, none⟩ = some (.slice qr f.random.length cr) ∧ X.cell? ⟨pb, 4, none⟩ = some (.slice qc f.clock.length cc) ∧ X.cell? ⟨pb, 5, none⟩ = some (.slice qf f.files.length cf)) := fun X g => ⟨g.keep (hBx2.c 0 _ rfl), g.keep (hBx2.c 1 _ rfl), g.keep (hBx2.c 2 _ rfl), g.keep (hBx2.c 3 _ rfl), g.keep (hBx2.c 4 _ rfl), g.keep (hBx2.c 5 _ rfl)⟩
  have hB : Bw w2 w2.drew := (Bw.refl w2).drew
  refine wp_region_held_drew (S := fun X => X.cell? ⟨pb, 0, none⟩ = some (.slice qa f.args.length ca) ∧ X.cell? ⟨pb, 1, none⟩ = some (.slice qi f.input.length ci) ∧ X.cell? ⟨pb, 2, none⟩ = some (.slice qs f.short.length cs) ∧ X.cell? ⟨pb, 3, none⟩ = some (.slice qr f.random.length cr) ∧ X.cell? ⟨pb, 4, none⟩ = some (.slice qc f.clock.length cc) ∧ X.cell? ⟨pb, 5, none⟩ = some (.slice qf f.files.length cf)) (by kernel_rfl) (hHold _ hB) (fun hHeld => ?_)
  refine wpAnyH_take (i := 0) (oi := ⟨some 4, _, _, _, _, _⟩) (v := ?_) rfl (by kernel_rfl) (by kernel_rfl) (by kernel_rfl) (fun _ _ _ h => h) (Or.inl ⟨by rfl, ?_⟩) (by assumption) ?_; (rotate_left 1); (focus (intro wz hSw; (try dsimp only at hSw); go_simp; try (with_reducible rfl))); simp only [Act.put, List.setIfInBounds_toArray, List.set_cons_zero, List.set_cons_succ]
  refine wpAnyH_take (i := 2) (oi := ⟨some 6, _, _, _, _, _⟩) (v := ?_) rfl (by kernel_rfl) (by kernel_rfl) (by kernel_rfl) (fun _ _ _ h => h) (Or.inl ⟨by rfl, ?_⟩) (by assumption) ?_; (rotate_left 1); (focus (intro wz hSw; (try dsimp only at hSw); go_simp; try (with_reducible rfl))); simp only [Act.put, List.setIfInBounds_toArray, List.set_cons_zero, List.set_cons_succ]
  refine wpAnyH_ready (rs := [1]) (by kernel_rfl) (by simp) ?_; refine AllReadyH.cons rfl (fun K hK => ?_) AllReadyH.nil; go_simp
  refine (hBg _ (hbA.trans hB)).mono ?_
  rintro e w3 ⟨ub, rfl, hub, h3, hU, hFU⟩
  have hwub : w.heap.size ≤ ub := Nat.le_trans (hbA.trans hB).size hub
  replace hFU : FarU w3 ub w.heap.size := fun j v hj e => (hFU j v hj e).le (hbA.trans hB).size
  replace hB := hB.trans h3
  (try clear hHeld); refine hK.out _ _ ?_ (fun hHeld => ?_)
  · exact hHold _ hB
  refine wpAnyH_ready (rs := [3]) (by kernel_rfl) (by simp) ?_; refine AllReadyH.cons rfl (fun K hK => ?_) AllReadyH.nil; go_simp
  refine (hSo _ (hbA.trans hB)).mono ?_
  rintro e w4 ⟨v4, rfl, hSr, h4⟩
  obtain ⟨us4, k1, k2, k3, k4⟩ := hSr
  obtain ⟨q4, c4, rfl, -⟩ := RdR.form k2
  have hFU4 : FarU w4 ub w.heap.size := hFU.blk (Below.block h4 ub hU.lt)
  have hU4 := hU.bw h4
  have hub4 : ub < w3.heap.size := hU.lt
  have hsz3 := (hbA.trans hB).size
  replace hB := hB.trans h4
  (try clear hHeld); refine hK.out _ _ ?_ (fun hHeld => ?_)
  · exact hHold _ hB
  refine wpAnyH_take (i := 4) (oi := ⟨some 8, _, _, _, _, _⟩) (v := ?_) rfl (by kernel_rfl) (by kernel_rfl) (by kernel_rfl) (fun _ _ _ h => h) (Or.inl ⟨by rfl, ?_⟩) (by assumption) ?_; (rotate_left 1); (focus (intro wz hSw; (try dsimp only at hSw); go_simp; try (with_reducible rfl))); simp only [Act.put, List.setIfInBounds_toArray, List.set_cons_zero, List.set_cons_succ]
  refine wpAnyH_ready (rs := [5]) (by kernel_rfl) (by simp) ?_; refine AllReadyH.cons rfl (fun K hK => ?_) AllReadyH.nil; go_simp
  (try clear hHeld); refine hK.out _ _ ?_ (fun hHeld => ?_)
  · exact hHold _ (hB.alloc _)
  refine wpAnyH_take (i := 6) (oi := ⟨some 3, _, _, _, _, _⟩) (v := ?_) rfl (by kernel_rfl) (by kernel_rfl) (by kernel_rfl) (fun _ _ _ h => h) (Or.inl ⟨by rfl, ?_⟩) (by assumption) ?_; (rotate_left 1); (focus (intro wz hSw; (try dsimp only at hSw); go_simp; try (with_reducible rfl))); simp only [Act.put, List.setIfInBounds_toArray, List.set_cons_zero, List.set_cons_succ]
  refine wpAnyH_done (by kernel_rfl) ?_ _
  have hX := Box.new w4 [.pointer (some ⟨ub, 0, none⟩), .slice q4 (Fil.new f).srcs.length c4, Value.int .i64 0, Value.int .i64 0, Value.int .i64 0, Value.int .i64 0, Value.int .i64 0, Value.int .i64 0, Value.int .i64 0, Value.int .i64 0, Value.int .i64 0, Value.int .i64 0, Value.int .i64 0, Value.int .i64 0, Value.int .i64 0, Value.int .i64 0, Value.int .i64 0, Value.int .i64 0, Value.int .i64 0, Value.int .i64 0, Value.int .i64 0, Value.int .i64 0, Value.int .i64 0, Value.int .i64 0, Value.int .i64 0, Value.int .i64 0, Value.int .i64 0, Value.int .i64 0, Value.int .i64 0, Value.int .i64 0, Value.int .i64 0, Value.int .i64 0, Value.int .i64 0, Value.int .i64 0, Value.int .i64 0, Value.int .i64 0, Value.int .i64 0, Value.int .i64 0, Value.int .i64 0, Value.int .i64 0, Value.int .i64 0, Value.int .i64 0, Value.int .i64 0, Value.int .i64 0, Value.int .i64 0, Value.int .i64 0, Value.int .i64 0, Value.int .i64 0, Value.int .i64 0, Value.int .i64 0, .slice none 0 0, .slice none 0 0, .slice none 0 0] 71
  have gA : Bw w4 (w4.alloc (.cells #[.pointer (some ⟨ub, 0, none⟩), .slice q4 (Fil.new f).srcs.length c4, Value.int .i64 0, Value.int .i64 0, Value.int .i64 0, Value.int .i64 0, Value.int .i64 0, Value.int .i64 0, Value.int .i64 0, Value.int .i64 0, Value.int .i64 0, Value.int .i64 0, Value.int .i64 0, Value.int .i64 0, Value.int .i64 0, Value.int .i64 0, Value.int .i64 0, Value.int .i64 0, Value.int .i64 0, Value.int .i64 0, Value.int .i64 0, Value.int .i64 0, Value.int .i64 0, Value.int .i64 0, Value.int .i64 0, Value.int .i64 0, Value.int .i64 0, Value.int .i64 0, Value.int .i64 0, Value.int .i64 0, Value.int .i64 0, Value.int .i64 0, Value.int .i64 0, Value.int .i64 0, Value.int .i64 0, Value.int .i64 0, Value.int .i64 0, Value.int .i64 0, Value.int .i64 0, Value.int .i64 0, Value.int .i64 0, Value.int .i64 0, Value.int .i64 0, Value.int .i64 0, Value.int .i64 0, Value.int .i64 0, Value.int .i64 0, Value.int .i64 0, Value.int .i64 0, Value.int .i64 0, .slice none 0 0, .slice none 0 0, .slice none 0 0] 71)) := (Bw.refl w4).alloc _
  generalize hwB : (w4.alloc (.cells #[.pointer (some ⟨ub, 0, none⟩), .slice q4 (Fil.new f).srcs.length c4, Value.int .i64 0, Value.int .i64 0, Value.int .i64 0, Value.int .i64 0, Value.int .i64 0, Value.int .i64 0, Value.int .i64 0, Value.int .i64 0, Value.int .i64 0, Value.int .i64 0, Value.int .i64 0, Value.int .i64 0, Value.int .i64 0, Value.int .i64 0, Value.int .i64 0, Value.int .i64 0, Value.int .i64 0, Value.int .i64 0, Value.int .i64 0, Value.int .i64 0, Value.int .i64 0, Value.int .i64 0, Value.int .i64 0, Value.int .i64 0, Value.int .i64 0, Value.int .i64 0, Value.int .i64 0, Value.int .i64 0, Value.int .i64 0, Value.int .i64 0, Value.int .i64 0, Value.int .i64 0, Value.int .i64 0, Value.int .i64 0, Value.int .i64 0, Value.int .i64 0, Value.int .i64 0, Value.int .i64 0, Value.int .i64 0, Value.int .i64 0, Value.int .i64 0, Value.int .i64 0, Value.int .i64 0, Value.int .i64 0, Value.int .i64 0, Value.int .i64 0, Value.int .i64 0, Value.int .i64 0, .slice none 0 0, .slice none 0 0, .slice none 0 0] 71)) = wB at hX gA ⊢
  have hXl : w4.heap.size < wB.heap.size := hX.lt
  obtain ⟨fb, hfb⟩ : ∃ fb, w4.heap.size = fb := ⟨_, rfl⟩
  rw [hfb] at hX hXl ⊢
  have c2 := hX.c 2 _ rfl; have c5 := hX.c 5 _ rfl; have c8 := hX.c 8 _ rfl
  have f2 := hX.f 2 (by simp); have f5 := hX.f 5 (by simp); have f8 := hX.f 8 (by simp)
  have hX3 := ((hX.set 2 (by simp) (.int .i64 1)).set 5 (by simp) (.int .i64 2)).set 8 (by simp) (.int .i64 2)
  have hq : Bq fb wB (((wB.setCell ⟨fb, 2, none⟩ (.int .i64 1)).setCell ⟨fb, 5, none⟩ (.int .i64 2)).setCell ⟨fb, 8, none⟩ (.int .i64 2)) := (((Bq.refl _ _).set 2 _).set 5 _).set 8 _
  have hbF : Bw w4 (((wB.setCell ⟨fb, 2, none⟩ (.int .i64 1)).setCell ⟨fb, 5, none⟩ (.int .i64 2)).setCell ⟨fb, 8, none⟩ (.int .i64 2)) := hq.toBw gA (Nat.le_of_eq hfb)
  have HFin : Hid (∃ A, FS w (((wB.setCell ⟨fb, 2, none⟩ (.int .i64 1)).setCell ⟨fb, 5, none⟩ (.int .i64 2)).setCell ⟨fb, 8, none⟩ (.int .i64 2)) fb A (Fil.new f) ∧ Bw w (((wB.setCell ⟨fb, 2, none⟩ (.int .i64 1)).setCell ⟨fb, 5, none⟩ (.int .i64 2)).setCell ⟨fb, 8, none⟩ (.int .i64 2))) :=
    Fil.mkFS hok (hbA.trans hB) hbF hfb (by simpa [World.setCell] using hXl) hX3 hU4 hFU4 hwub hub4 h4 k1 k2 k3 k4
  clear hX hX3 hq hbF hU4 hFU4 k1 k2 k3 k4 hwB gA hXl hHold hBx2 hFU hU
  go_wp2_with fail
  go_returns
  obtain ⟨A, r1, r2⟩ := (show ∃ A, _ from HFin)
  exact ⟨_, A, rfl, r1, r2⟩
end Go.Proofs.Ytncidjkkngbclaa
namespace Go.Proofs.Ytncidjkkngbclaa
open Go.ChangeShapes Go.WideShapes Go.ChangeAt Go.RowKit
set_option linter.unusedSimpArgs false

theorem und3 : Try.prog.underlying 69 = some (.array 3 23) := by kernel_rfl
theorem ix3_0 (a b c : Value) (w : World) : (Instr.index 69 (.agg #[a, b, c]) (.int .i64 0)).run Try.prog w = .ok a w := by
  simp [Instr.index, go_sem, run_underlying und3, part, Try.sizeOf23, Try.isAgg23]
theorem ix3_1 (a b c : Value) (w : World) : (Instr.index 69 (.agg #[a, b, c]) (.int .i64 1)).run Try.prog w = .ok b w := by
  simp [Instr.index, go_sem, run_underlying und3, part, Try.sizeOf23, Try.isAgg23]
theorem ix3_2 (a b c : Value) (w : World) : (Instr.index 69 (.agg #[a, b, c]) (.int .i64 2)).run Try.prog w = .ok c w := by
  simp [Instr.index, go_sem, run_underlying und3, part, Try.sizeOf23, Try.isAgg23]
/-- A copy, put together. -/
theorem FS.mkC {w w1 w2 wF : World} {ob ub M : Nat} {v1 v2 vs : Value} {us : List Value} {s : Fil.St} (hok : Fil.Ok s) (hob : w.heap.size ≤ ob) (hoM : ob < M) (hub : M ≤ ub) (hub1 : ub < w1.heap.size)
    (hU : UseS w1 ub s.sh s.rd s.ck s.a s.b s.c) (hFU : FarU w1 ub M) (g1 : Bq ob w1 wF) (g2 : Bq ob w2 wF) (h12 : w1.heap.size ≤ w2.heap.size)
    (k1 : us.length = s.srcs.length) (k2 : RdR 2 w2 vs s.srcs.length (Fee.cells s.srcs us)) (k3 : Far2 w1.heap.size vs) (k4 : ∀ (i : Nat) f u, s.srcs[i]? = some f → us[i]? = some u → Rd8 w2 u f.data ∧ Far2 w1.heap.size u)
    (hbox : Box wF ob (Fil.cells ub vs v1 v2 s.op)) (o1 : Own8 w wF v1 s.o1) (o2 : Own8 w wF v2 s.o2) (b1 : ∀ j, v1.ownBlock = some j → w2.heap.size ≤ j) (b2 : ∀ j, v2.ownBlock = some j → w2.heap.size ≤ j) (b12 : ∀ j, v1.ownBlock = some j → v2.ownBlock ≠ some j) :
    FS w wF ob (fun i => w.heap.size ≤ i ∧ i < wF.heap.size) s := by
  have s1 := g1.b0.size
  have s2 := g2.b0.size
  obtain ⟨hUF, hFF⟩ := hU.far hFU hoM g1 (by omega)
  have hR : ∀ u, Far2 w1.heap.size u → Lo w2.heap.size u → RdA (fun i => w.heap.size ≤ i ∧ i < wF.heap.size) (Fil.F ob ub v1 v2) u := fun u h1 h2 q k c e hk => by
    have a1 := h1 q k c e hk
    have a2 := h2 q k c e hk
    refine ⟨⟨by omega, by omega⟩, fun hF => ?_⟩
    rcases hF with e | e | e | e
    · omega
    · omega
    · have := b1 _ e; omega
    · have := b2 _ e; omega
  have hQ : ∀ u n cs, RdR 1 w2 u n cs → Far2 w1.heap.size u → RdR 1 wF u n cs := fun u n cs h1 h2 => RdR.q h1 g2 (fun q k c e hk => by have := h2 q k c e hk; omega)
  refine ⟨ub, v1, v2, vs, us, hok, by omega, fun i hi => hi, ⟨hob, by omega⟩, ⟨by omega, by omega⟩, hbox, hUF, ?_, k1, RdR.q k2 g2 (fun q k c e hk => by have := k3 q k c e hk; omega), hR _ k3 (RdR.lo k2), fun i f u a b => ⟨hQ _ _ _ (k4 i f u a b).1 (k4 i f u a b).2, hR u (k4 i f u a b).2 (RdR.lo (k4 i f u a b).1)⟩, o1, o2, fun g e => ?_, fun g e => ?_⟩
  · intro j v hj hc q k c e hk
    have hv : w1.cell? ⟨ub, j, none⟩ = some v := (cell_block (p := ⟨ub, j, none⟩) (g1.block ub hub1 (by omega))).symm.trans hc
    have a1 := hFU j v hj hv q k c e hk
    obtain ⟨⟨vs', vr, vc, h1, h2, h3, h4, h5, h6, h7⟩, _⟩ := hU
    have a2 : q.block < w1.heap.size ∧ q.block ≠ ub := by
      obtain rfl | rfl | rfl : j = 0 ∨ j = 1 ∨ j = 2 := by omega
      · rw [h1.c 0 _ rfl] at hv; obtain rfl := Option.some.inj hv; exact ⟨RdR.lo h2 q k c e hk, h5 q k c e hk⟩
      · rw [h1.c 1 _ rfl] at hv; obtain rfl := Option.some.inj hv; exact ⟨RdR.lo h3 q k c e hk, h6 q k c e hk⟩
      · rw [h1.c 2 _ rfl] at hv; obtain rfl := Option.some.inj hv; exact ⟨RdR.lo h4 q k c e hk, h7 q k c e hk⟩
    refine ⟨⟨by omega, by omega⟩, fun hF => ?_⟩
    rcases hF with e | e | e | e
    · omega
    · exact a2.2 e
    · have := b1 _ e; omega
    · have := b2 _ e; omega
  · have := b1 g e; have h3 := o1.blk g e
    exact ⟨h3, by omega, by omega, b12 g e⟩
  · have := b2 g e; have h3 := o2.blk g e
    exact ⟨h3, by omega, by omega⟩
end Go.Proofs.Ytncidjkkngbclaa
namespace Go.Proofs.Ytncidjkkngbclaa
open Go.ChangeShapes Go.WideShapes Go.ChangeAt Go.RowKit

theorem wpLoadV {P : Program} {w : World} {ops : Array Oper} {rest : List Oper} {o : Oper} {a : Act} {Q : Exit → Act → World → Prop} (hgd : o.guard = none) (t : TypeId) (x : Operand) (p : Addr) {v : Value}
    (ho : o.op = .load t x) (hx : a.eval x = .pointer (some p)) (hr : (loadVar t p).run P w = .ok v w) (h : wpList P ops Q rest (a.put o.dst v) w) : wpList P ops Q (o :: rest) a w := by
  refine wpList_plain hgd fun K hK => ?_
  unfold Oper.wp execOp
  simp only [ho, hx, Instr.loadAt, Instr.sureAddr, Sem.run_bind, Sem.run_pure, Result.andThen_ok, hr]
  exact hK _ _ h
theorem wpStoreV {P : Program} {w w' : World} {ops : Array Oper} {rest : List Oper} {o : Oper} {a : Act} {Q : Exit → Act → World → Prop} (hgd : o.guard = none) (t : TypeId) (x y : Operand) (p : Addr) {v : Value}
    (ho : o.op = .store t x y) (hx : a.eval x = .pointer (some p)) (hy : a.eval y = v) (hr : (storeVar t p v).run P w = .ok () w') (h : wpList P ops Q rest (a.put o.dst undef) w') : wpList P ops Q (o :: rest) a w := by
  refine wpList_plain hgd fun K hK => ?_
  unfold Oper.wp execOp
  simp only [ho, hx, hy, Instr.storeAt, Instr.sureAddr, Sem.run_bind, Sem.run_pure, Result.andThen_ok, hr]
  exact hK _ _ h
theorem infoFiles : (Try.prog.info? 71).map (·.size) = some 53 := by kernel_rfl
theorem Fil.cells_all {ub : Nat} {vs v1 v2 : Value} {op : List Fil.H} (a : vs.oneCell' = true) (b : v1.oneCell' = true) (c : v2.oneCell' = true) : ∀ u ∈ Fil.cells ub vs v1 v2 op, u.oneCell' = true := fun u hu => by
  unfold Fil.cells at hu
  rcases List.mem_cons.1 hu with rfl | hu
  · rfl
  rcases List.mem_cons.1 hu with rfl | hu
  · exact a
  rcases List.mem_append.1 hu with hu | hu
  · obtain ⟨h, _, hx⟩ := List.mem_flatMap.1 hu
    simp [Fil.hC] at hx
    rcases hx with rfl | rfl | rfl <;> rfl
  · simp at hu
    rcases hu with rfl | rfl | rfl
    · rfl
    · exact b
    · exact c
theorem CloneN_c (w : World) : Calls Try.prog 35 #[.slice none 0 0] w fun e w' => e = .returned (.slice none 0 0) ∧ Bw w w' := by
  have he := eqSliceNil w 23 _ none 0 0 Try.underlying23
  go_enter Try.func35, Try.ntmps35
  go_wp2_with fail
  go_returns
  exact ⟨rfl, Bw.refl _⟩
set_option maxHeartbeats 4000000 in
set_option maxRecDepth 100000 in
theorem fCopy_c {w0 w : World} {fb : Nat} {A : Nat → Prop} {s : Fil.St} (h : FS w0 w fb A s) : Calls Try.prog 19 #[.pointer (some ⟨fb, 0, none⟩)] w fun e w' => ∃ ob A', e = .returned (.pointer (some ⟨ob, 0, none⟩)) ∧ FS w w' ob A' s ∧ Bw w w' := by
  obtain ⟨ub, v1, v2, vs, us, h⟩ := h
  have hln := Fil.cells_len (ub := ub) (vs := vs) (v1 := v1) (v2 := v2) h.ok.ln
  have hld : (loadVar 71 ⟨fb, 0, none⟩).run Try.prog w = .ok (.agg (Fil.cells ub vs v1 v2 s.op).toArray) w := by
    have hl := run_loadCells_list (P := Try.prog) w ⟨fb, 0, none⟩ (Fil.cells ub vs v1 v2 s.op) (fun j v hv => by rw [Addr.add_lit, Nat.zero_add]; exact h.box.c j v hv)
    rw [hln] at hl
    unfold loadVar
    simp only [Sem.run_bind, Try.isAgg71, Try.sizeOf71, Result.andThen_ok, if_true, hl, Sem.run_pure]
  obtain ⟨q1, c1, hv1⟩ := h.o1.sl
  obtain ⟨q2, c2, hv2⟩ := h.o2.sl
  obtain ⟨qs, cs, hvs, -⟩ := RdR.form h.rd
  have e0 : vs.oneCell' = true := by rw [hvs]; rfl
  have e1 : v1.oneCell' = true := by rw [hv1]; rfl
  have e2 : v2.oneCell' = true := by rw [hv2]; rfl
  have hst : ∀ c : Array Value, c.size = 53 → (storeVar 71 ⟨w.heap.size, 0, none⟩ (.agg (Fil.cells ub vs v1 v2 s.op).toArray)).run Try.prog (w.alloc (.cells c 71)) = .ok () (w.alloc (.cells (Fil.cells ub vs v1 v2 s.op).toArray 71)) := fun c hc =>
    run_storeVar_new w 71 c _ (by simp only [List.size_toArray, hln]; exact infoFiles) (by rw [hc, List.size_toArray, hln]) (by
      rw [Array.all_eq_true_iff_forall_mem]
      intro u hu
      exact Fil.cells_all (ub := ub) (op := s.op) e0 e1 e2 u (by simpa using hu))
  have HX : Hid _ := h
  clear h hv1 hv2 hvs
  go_enter Try.func19, Try.ntmps19
  go_upto_region 2 with (first | (refine wpLoadV rfl 71 _ ⟨fb, 0, none⟩ rfl rfl hld ?_) | (refine wpStoreV rfl 71 _ _ ⟨w.heap.size, 0, none⟩ rfl rfl rfl (hst _ rfl) ?_) | fail)
  have hgA : Bw w (w.alloc (.cells (Fil.cells ub vs v1 v2 s.op).toArray 71)) := (Bw.refl w).alloc _
  have hBA := Box.new w (Fil.cells ub vs v1 v2 s.op) 71
  clear hld hst e0 e1 e2
  generalize w.alloc (.cells (Fil.cells ub vs v1 v2 s.op).toArray 71) = wA at *
  obtain ⟨ob, hob⟩ : ∃ ob, w.heap.size = ob := ⟨_, rfl⟩
  rw [hob] at hBA ⊢
  have hXA : FsX w0 wA fb ub v1 v2 vs us A s := (show FsX w0 w fb ub v1 v2 vs us A s from HX).bw hgA
  have a0 := hXA.box.c 0 _ rfl
  have hCp := Copy_c wA ub s.sh s.rd s.ck s.a s.b s.c hXA.use hXA.ok.l1 hXA.ok.l2 hXA.ok.l3
  have HXA : Hid _ := hXA
  have HBA : Hid _ := hBA
  have hobA : ob < wA.heap.size := hBA.lt
  clear hXA hBA
  go_wp2_with fail
  refine hCp.mono ?_
  rintro e w1 ⟨ub', rfl, hub', hb1, hU1, hFU1⟩
  have hB1 : Box w1 ob (Fil.cells ub vs v1 v2 s.op) := Box.bw (show Box wA ob (Fil.cells ub vs v1 v2 s.op) from HBA) hb1
  have hX1 : FsX w0 w1 fb ub v1 v2 vs us A s := (show FsX w0 wA fb ub v1 v2 vs us A s from HXA).bw hb1
  have x0 := hB1.c 0 _ rfl; have x0f := hB1.f 0 (by rw [hln]; omega)
  have hne : fb ≠ ob := by have := ((show FsX w0 w fb ub v1 v2 vs us A s from HX).in_ fb (show FsX w0 w fb ub v1 v2 vs us A s from HX).af).2; omega
  have hg1 : Bw w (w1.setCell ⟨ob, 0, none⟩ (.pointer (some ⟨ub', 0, none⟩))) := (hgA.trans hb1).setCell (Nat.le_of_eq hob) _
  have hX1' := (show FsX w0 w fb ub v1 v2 vs us A s from HX).bw hg1
  have y1 := hX1'.box.c 1 _ rfl
  have hSr := fun X (g : Bw (w1.setCell ⟨ob, 0, none⟩ (.pointer (some ⟨ub', 0, none⟩))) X) => cloneSrc_c (hX1'.src.bw g) hX1'.ok.ls.1 hX1'.ok.ls.2 (fun f hf => (hX1'.ok.ld f hf).1)
  have hB1' := hB1.set 0 (by rw [hln]; omega) (.pointer (some ⟨ub', 0, none⟩))
  rw [show (Fil.cells ub vs v1 v2 s.op).set 0 (.pointer (some ⟨ub', 0, none⟩)) = Fil.cells ub' vs v1 v2 s.op from rfl] at hB1'
  have hq1 : Bq ob w1 (w1.setCell ⟨ob, 0, none⟩ (.pointer (some ⟨ub', 0, none⟩))) := (Bq.refl _ _).set 0 _
  have HB1 : Hid _ := hB1'
  have hub1 : ub' < w1.heap.size := hU1.lt
  have HU1 : UseS w1 ub' s.sh s.rd s.ck s.a s.b s.c ∧ FarU w1 ub' wA.heap.size := ⟨hU1, hFU1⟩
  clear hX1 hB1 hX1' hB1' hU1 hFU1 hCp HXA HBA
  go_wp2_with fail
  refine (hSr _ (Bw.refl _)).mono ?_
  rintro e w2 ⟨vs', rfl, hSO, hb2⟩
  obtain ⟨us', k1, k2, k3, k4⟩ := hSO
  rw [show (w1.setCell ⟨ob, 0, none⟩ (.pointer (some ⟨ub', 0, none⟩))).heap.size = w1.heap.size by simp [World.setCell]] at k3 k4
  obtain ⟨q3, c3, rfl, -⟩ := RdR.form k2
  have hB2 : Box w2 ob (Fil.cells ub' vs v1 v2 s.op) := Box.bw (show Box _ ob (Fil.cells ub' vs v1 v2 s.op) from HB1) hb2
  have x1 := hB2.c 1 _ rfl; have x1f := hB2.f 1 (by rw [Fil.cells_len (show FsX w0 w fb ub v1 v2 vs us A s from HX).ok.ln]; omega)
  have hB2' := hB2.set 1 (by rw [Fil.cells_len (show FsX w0 w fb ub v1 v2 vs us A s from HX).ok.ln]; omega) (.slice q3 s.srcs.length c3)
  rw [show (Fil.cells ub' vs v1 v2 s.op).set 1 (.slice q3 s.srcs.length c3) = Fil.cells ub' (.slice q3 s.srcs.length c3) v1 v2 s.op from rfl] at hB2'
  have hg2 : Bw w (w2.setCell ⟨ob, 1, none⟩ (.slice q3 s.srcs.length c3)) := (hg1.trans hb2).setCell (Nat.le_of_eq hob) _
  have hq2 : Bq ob w2 (w2.setCell ⟨ob, 1, none⟩ (.slice q3 s.srcs.length c3)) := (Bq.refl _ _).set 1 _
  have hX2' := (show FsX w0 w fb ub v1 v2 vs us A s from HX).bw hg2
  obtain ⟨t50, t51, t52⟩ := Fil.cells_hi (ub := ub) (vs := vs) (v1 := v1) (v2 := v2) hX2'.ok.ln
  have y50 := hX2'.box.c 50 _ t50; have y51 := hX2'.box.c 51 _ t51; have y52 := hX2'.box.c 52 _ t52
  have HB2 : Hid _ := hB2'
  have HQ2 : Hid _ := hq2
  have HK : Hid (us'.length = s.srcs.length ∧ RdR 2 w2 (.slice q3 s.srcs.length c3) s.srcs.length (Fee.cells s.srcs us') ∧ Far2 w1.heap.size (.slice q3 s.srcs.length c3) ∧ ∀ (i : Nat) f u, s.srcs[i]? = some f → us'[i]? = some u → Rd8 w2 u f.data ∧ Far2 w1.heap.size u) := ⟨k1, k2, k3, k4⟩
  clear hB2 hB2' hq2 hX2' t50 t51 t52 k1 k2 k3 k4 y1 hSr x0 x0f a0
  go_wp2_with fail
  have hok := (show FsX w0 w fb ub v1 v2 vs us A s from HX).ok
  have hln' : ∀ a b c, (Fil.cells ub' a b c s.op).length = 53 := fun a b c => Fil.cells_len hok.ln
  have ho1 := (show FsX w0 w fb ub v1 v2 vs us A s from HX).o1
  have ho2 := (show FsX w0 w fb ub v1 v2 vs us A s from HX).o2
  generalize hwD : w2.setCell ⟨ob, 1, none⟩ (.slice q3 s.srcs.length c3) = wD at *
  have i0 := ix3_0 (.slice none 0 0) v1 v2
  have i1 := ix3_1 (.slice none 0 0) v1 v2
  have i2 := ix3_2 (.slice none 0 0) v1 v2
  refine wp_loop_rounds 4 ?_
  rw [rounds_succ]
  go_wp2_with fail
  refine (CloneN_c _).mono ?_
  rintro e w3 ⟨rfl, hb3⟩
  have hB3 : Box w3 ob (Fil.cells ub' (.slice q3 s.srcs.length c3) v1 v2 s.op) := Box.bw (show Box wD ob (Fil.cells ub' (.slice q3 s.srcs.length c3) v1 v2 s.op) from HB2) hb3
  have x50 := hB3.c 50 _ (Fil.cells_hi hok.ln).1; have x50f := hB3.f 50 (by rw [hln']; omega)
  have hg3 : Bw w (w3.setCell ⟨ob, 50, none⟩ (.slice none 0 0)) := (hg2.trans hb3).setCell (Nat.le_of_eq hob) _
  have hB3' := hB3.set 50 (by rw [hln']; omega) (.slice none 0 0)
  rw [Fil.cells_set0 hok.ln] at hB3'
  have hq3 : Bq ob wD (w3.setCell ⟨ob, 50, none⟩ (.slice none 0 0)) := ((Bq.refl _ _).bw hb3).set 50 _
  have HB3 : Hid _ := hB3'
  clear hB3 hB3' y50 y51 y52
  go_wp2_with fail
  generalize w3.setCell ⟨ob, 50, none⟩ (.slice none 0 0) = wE at *
  clear x50 x50f
  rw [rounds_succ]
  go_wp2_with fail
  refine (CloneO_c (ho1.bw hg3) hok.p1.1).mono ?_
  rintro e w4 ⟨v1', rfl, hO1, hb4⟩
  obtain ⟨q4, c4, hv1'⟩ := hO1.sl
  have hB4 : Box w4 ob (Fil.cells ub' (.slice q3 s.srcs.length c3) v1 v2 s.op) := Box.bw (show Box wE ob (Fil.cells ub' (.slice q3 s.srcs.length c3) v1 v2 s.op) from HB3) hb4
  have x51 := hB4.c 51 _ (Fil.cells_hi hok.ln).2.1; have x51f := hB4.f 51 (by rw [hln']; omega)
  have hg4 : Bw w (w4.setCell ⟨ob, 51, none⟩ v1') := (hg3.trans hb4).setCell (Nat.le_of_eq hob) _
  have hB4' := hB4.set 51 (by rw [hln']; omega) v1'
  rw [Fil.cells_set1 hok.ln] at hB4'
  have hq4 : Bq ob wE (w4.setCell ⟨ob, 51, none⟩ v1') := ((Bq.refl _ _).bw hb4).set 51 _
  have hszE : wD.heap.size ≤ wE.heap.size := hq3.b0.size
  have hobD : ob < wD.heap.size := Box.lt (show Box wD ob (Fil.cells ub' (.slice q3 s.srcs.length c3) v1 v2 s.op) from HB2)
  have hO1' : Own8 wE (w4.setCell ⟨ob, 51, none⟩ v1') v1' s.o1 := hO1.heap (fun j hj => Below.heap_setCell _ _ _ _ (by have := (hO1.blk j hj).1; show j ≠ ob; omega))
  have HB4 : Hid _ := hB4'
  have HO1 : Hid _ := hO1'
  clear hB4 hB4' hO1 hO1'
  subst hv1'
  go_wp2_with fail
  generalize w4.setCell ⟨ob, 51, none⟩ (.slice q4 s.o1.length c4) = wG at *
  clear x51 x51f
  rw [rounds_succ]
  go_wp2_with fail
  refine (CloneO_c (ho2.bw hg4) hok.p2.1).mono ?_
  rintro e w5 ⟨v2', rfl, hO2, hb5⟩
  obtain ⟨q5, c5, hv2'⟩ := hO2.sl
  have hB5 : Box w5 ob (Fil.cells ub' (.slice q3 s.srcs.length c3) (.slice q4 s.o1.length c4) v2 s.op) := Box.bw (show Box wG ob (Fil.cells ub' (.slice q3 s.srcs.length c3) (.slice q4 s.o1.length c4) v2 s.op) from HB4) hb5
  have x52 := hB5.c 52 _ (Fil.cells_hi hok.ln).2.2; have x52f := hB5.f 52 (by rw [hln']; omega)
  have hg5 : Bw w (w5.setCell ⟨ob, 52, none⟩ v2') := (hg4.trans hb5).setCell (Nat.le_of_eq hob) _
  have hB5' := hB5.set 52 (by rw [hln']; omega) v2'
  rw [Fil.cells_set2 hok.ln] at hB5'
  have hq5 : Bq ob wG (w5.setCell ⟨ob, 52, none⟩ v2') := ((Bq.refl _ _).bw hb5).set 52 _
  have hszG : wE.heap.size ≤ wG.heap.size := hq4.b0.size
  have hO2' : Own8 wG (w5.setCell ⟨ob, 52, none⟩ v2') v2' s.o2 := hO2.heap (fun j hj => Below.heap_setCell _ _ _ _ (by have := (hO2.blk j hj).1; show j ≠ ob; omega))
  have hO1F : Own8 wE (w5.setCell ⟨ob, 52, none⟩ v2') (.slice q4 s.o1.length c4) s.o1 := (show Own8 wE wG (.slice q4 s.o1.length c4) s.o1 from HO1).heap (fun j hj => hq5.block j ((show Own8 wE wG (.slice q4 s.o1.length c4) s.o1 from HO1).blk j hj).2 (by have := ((show Own8 wE wG (.slice q4 s.o1.length c4) s.o1 from HO1).blk j hj).1; omega))
  have HFin : Hid (∃ A', FS w (w5.setCell ⟨ob, 52, none⟩ v2') ob A' s ∧ Bw w (w5.setCell ⟨ob, 52, none⟩ v2')) := by
    obtain ⟨k1, k2, k3, k4⟩ := (show us'.length = s.srcs.length ∧ RdR 2 w2 (.slice q3 s.srcs.length c3) s.srcs.length (Fee.cells s.srcs us') ∧ Far2 w1.heap.size (.slice q3 s.srcs.length c3) ∧ ∀ (i : Nat) f u, s.srcs[i]? = some f → us'[i]? = some u → Rd8 w2 u f.data ∧ Far2 w1.heap.size u from HK)
    have hg2F : Bq ob w2 (w5.setCell ⟨ob, 52, none⟩ v2') := (((show Bq ob w2 wD from HQ2).trans hq3).trans hq4).trans hq5
    have hs2D : w2.heap.size ≤ wD.heap.size := (show Bq ob w2 wD from HQ2).b0.size
    have hg1F : Bq ob w1 (w5.setCell ⟨ob, 52, none⟩ v2') := (hq1.bw hb2).trans hg2F
    have hsw : w.heap.size ≤ wE.heap.size := hg3.size
    have hsG : w.heap.size ≤ wG.heap.size := hg4.size
    refine ⟨_, FS.mkC hok (Nat.le_of_eq hob) hobA hub' hub1 HU1.1 HU1.2 hg1F hg2F (Nat.le_trans hq1.b0.size hb2.size) k1 k2 k3 k4 hB5' (hO1F.le hsw) (hO2'.le hsG) (fun j hj => by have := (hO1F.blk j hj).1; omega) (fun j hj => by have := (hO2'.blk j hj).1; omega) (fun j hj e => ?_), hg5⟩
    have h1 := ((show Own8 wE wG (.slice q4 s.o1.length c4) s.o1 from HO1).blk j hj).2
    have h2 := (hO2'.blk j e).1
    omega
  clear hB5 hB5' hO2 hO2' hO1F
  subst hv2'
  go_wp2_with fail
  generalize w5.setCell ⟨ob, 52, none⟩ (.slice q5 s.o2.length c5) = wF at *
  rw [rounds_succ]
  go_wp2_with fail
  go_returns
  obtain ⟨A', r1, r2⟩ := (show ∃ A', _ from HFin)
  exact ⟨_, A', rfl, r1, r2⟩
end Go.Proofs.Ytncidjkkngbclaa
