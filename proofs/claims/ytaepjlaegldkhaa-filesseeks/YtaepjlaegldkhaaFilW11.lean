/- LAYER 11's walks: New. -/
import Derived.Test.YtaepjlaegldkhaaFilW10
namespace Go.Proofs.Ytaepjlaegldkhaa
open Go.ChangeShapes Go.WideShapes Go.ChangeAt Go.RowKit

theorem Fil.new_ok {f : Fee.Fd} (hwf : Fee.Wf f) (h8 : ∀ x ∈ f.files, B8s x.data) : Fil.Ok (Fil.new f) := by
  obtain ⟨b1, b2, b3⟩ := Fee.beg_len f
  have hc : Fee.beg f = f ∧ Fee.good f = true ∨ Fee.beg f = Fee.noFd := by
    unfold Fee.beg
    cases h : Fee.good f with
    | true => exact Or.inl ⟨rfl, rfl⟩
    | false => exact Or.inr rfl
  refine ⟨rfl, fun i h hi => ?_, ?_, by show (Fee.beg f).short.length ≤ 10000; omega, by show (Fee.beg f).random.length ≤ 10000; omega, by show (Fee.beg f).clock.length ≤ 10000; omega, ?_, ?_, ⟨by show 0 ≤ 65536; omega, by intro x hx; simp [Fil.new] at hx⟩, ⟨by show 0 ≤ 65536; omega, by intro x hx; simp [Fil.new] at hx⟩⟩
  · have hi' : ([⟨1, 0, 0⟩, ⟨2, 0, 0⟩, ⟨2, 0, 0⟩] ++ List.replicate 13 Fil.no)[i]? = some h := hi
    match i, hi' with
    | 0, e => simp at e; subst e; exact Or.inr (Or.inl ⟨rfl, by show 0 < _ + 1; omega⟩)
    | 1, e => simp at e; subst e; exact Or.inr (Or.inr ⟨rfl, Or.inl rfl⟩)
    | 2, e => simp at e; subst e; exact Or.inr (Or.inr ⟨rfl, Or.inr rfl⟩)
    | i + 3, e =>
      rw [List.getElem?_append_right (by simp)] at e
      have := List.mem_of_getElem? e
      rw [List.eq_of_mem_replicate this]
      exact Or.inl rfl
  · show ∀ x ∈ (Fee.beg f).short, 0 ≤ x
    rcases hc with ⟨e, g⟩ | e
    · rw [e]; exact Fee.good_short g
    · rw [e]; simp [Fee.noFd]
  · show 1 ≤ (Fee.beg f).files.length + 1 ∧ (Fee.beg f).files.length + 1 ≤ 1000
    rcases hc with ⟨e, g⟩ | e
    · rw [e]; have := (Fee.good_len g).2.2.2.2.2; omega
    · rw [e]; simp [Fee.noFd]
  · show ∀ x ∈ (⟨⟨#[]⟩, (Fee.beg f).input⟩ :: (Fee.beg f).files : List Fee.Fl), x.data.length ≤ 4096 ∧ B8s x.data
    intro x hx
    rcases hc with ⟨e, g⟩ | e
    · rw [e] at hx
      rcases List.mem_cons.1 hx with rfl | hx
      · exact ⟨(Fee.good_len g).2.2.2.2.1, hwf.i8⟩
      · exact ⟨Fee.good_data g x hx, h8 x hx⟩
    · rw [e] at hx
      simp [Fee.noFd] at hx
      subst hx
      exact ⟨by simp, by intro y hy; simp at hy⟩
theorem Fil.mkFS {w w3 w4 wF : World} {fb ub : Nat} {f : Fee.Fd} {v4 : Value} {us4 : List Value} (hok : Fil.Ok (Fil.new f)) (hB : Bw w w4) (hbF : Bw w4 wF) (hfb : w4.heap.size = fb) (hlt : fb < wF.heap.size) (hX : Box wF fb (Fil.cells ub v4 (.slice none 0 0) (.slice none 0 0) (Fil.new f).op))
    (hU : UseS w4 ub (Fee.beg f).short (Fee.beg f).random (Fee.beg f).clock 0 0 0) (hFU : FarU w4 ub w.heap.size) (hwub : w.heap.size ≤ ub) (hub : ub < w3.heap.size) (h34 : Bw w3 w4)
    (k1 : us4.length = (Fil.new f).srcs.length) (k2 : RdR 2 w4 v4 (Fil.new f).srcs.length (Fee.cells (Fil.new f).srcs us4)) (k3 : Far2 w3.heap.size v4) (k4 : ∀ (i : Nat) x u, (Fil.new f).srcs[i]? = some x → us4[i]? = some u → Rd8 w4 u x.data ∧ Far2 w3.heap.size u) :
    ∃ A, FS w wF fb A (Fil.new f) ∧ Bw w wF := by
  have s34 := h34.size
  have sB := hB.size
  have hR : ∀ u, Far2 w3.heap.size u → Lo w4.heap.size u → RdA (fun i => w.heap.size ≤ i ∧ i < wF.heap.size) (Fil.F fb ub (.slice none 0 0) (.slice none 0 0)) u := fun u h1 h2 q k c e hk => by
    have a1 := h1 q k c e hk
    have a2 := h2 q k c e hk
    refine ⟨⟨by omega, by omega⟩, fun hF => ?_⟩
    rcases hF with e | e | e | e
    · omega
    · omega
    · simp [Value.ownBlock] at e
    · simp [Value.ownBlock] at e
  refine ⟨fun i => w.heap.size ≤ i ∧ i < wF.heap.size, ⟨ub, .slice none 0 0, .slice none 0 0, v4, us4, hok, by omega, fun i hi => hi, ⟨by omega, hlt⟩, ⟨hwub, by omega⟩, hX, hU.bw hbF, ?_, k1, RdR.bw k2 hbF, hR _ k3 (RdR.lo k2), fun i x u a b => ⟨(k4 i x u a b).1.bw hbF, hR u (k4 i x u a b).2 (RdR.lo (k4 i x u a b).1)⟩, Own8.nil _ _, Own8.nil _ _, fun g e => by simp [Value.ownBlock] at e, fun g e => by simp [Value.ownBlock] at e⟩, hB.trans hbF⟩
  intro j v hj hc q k c e hk
  have hv : w4.cell? ⟨ub, j, none⟩ = some v := (cell_block (p := ⟨ub, j, none⟩) (Below.block hbF ub hU.lt)).symm.trans hc
  have a1 := hFU j v hj hv q k c e hk
  obtain ⟨⟨vs, vr, vc, h1, h2, h3, h4, h5, h6, h7⟩, _⟩ := hU
  have a2 : q.block < w4.heap.size ∧ q.block ≠ ub := by
    obtain rfl | rfl | rfl : j = 0 ∨ j = 1 ∨ j = 2 := by omega
    · rw [h1.c 0 _ rfl] at hv; obtain rfl := Option.some.inj hv; exact ⟨RdR.lo h2 q k c e hk, h5 q k c e hk⟩
    · rw [h1.c 1 _ rfl] at hv; obtain rfl := Option.some.inj hv; exact ⟨RdR.lo h3 q k c e hk, h6 q k c e hk⟩
    · rw [h1.c 2 _ rfl] at hv; obtain rfl := Option.some.inj hv; exact ⟨RdR.lo h4 q k c e hk, h7 q k c e hk⟩
  refine ⟨⟨a1, by omega⟩, fun hF => ?_⟩
  rcases hF with e | e | e | e
  · omega
  · exact a2.2 e
  · simp [Value.ownBlock] at e
  · simp [Value.ownBlock] at e
set_option maxHeartbeats 4000000 in
set_option maxRecDepth 100000 in
theorem fNew_c (v : Value) (f : Fee.Fd) (w : World) (hv : IsFd w v f) : Calls Try.prog 10 #[v] w fun e w' => ∃ fb A, e = .returned (.pointer (some ⟨fb, 0, none⟩)) ∧ FS w w' fb A (Fil.new f) ∧ Bw w w' := by
  have hBg := fun X (g : Bw w X) => Begin_c v f X (hv.bw g)
  have hSo := fun X (g : Bw w X) => srcOf_c v f X (hv.bw g)
  obtain ⟨va, vi, vs, vr, vc, vf, rfl, ha, hi, hs, hr, hc, hf, hwf⟩ := hv
  obtain ⟨qa, ca, rfl, -⟩ := RdR.form ha
  obtain ⟨qr, cr, rfl, -⟩ := Rd8.open hr
  obtain ⟨qc, cc, rfl, -⟩ := RdR.form hc
  obtain ⟨qs, cs, rfl, -⟩ := RdR.form hs
  obtain ⟨qi, ci, rfl, -⟩ := Rd8.open hi
  obtain ⟨qf, cf, rfl, -⟩ := hf.form
  have hok : Fil.Ok (Fil.new f) := Fil.new_ok hwf (by obtain ⟨_, _, _, _, h⟩ := hf; exact h)
  clear ha hi hs hr hc hf
  go_enter Try.func10, Try.ntmps10
  have hBx := Box.new w [.slice qa f.args.length ca, .slice qi f.input.length ci, .slice qs f.short.length cs, .slice qr f.random.length cr, .slice qc f.clock.length cc, .slice qf f.files.length cf] 33
  have hbA : Bw w (w.alloc (.cells #[.slice qa f.args.length ca, .slice qi f.input.length ci, .slice qs f.short.length cs, .slice qr f.random.length cr, .slice qc f.clock.length cc, .slice qf f.files.length cf] 33)) := (Bw.refl w).alloc _
  go_wp2_with fail
  generalize (w.alloc (.cells #[.slice qa f.args.length ca, .slice qi f.input.length ci, .slice qs f.short.length cs, .slice qr f.random.length cr, .slice qc f.clock.length cc, .slice qf f.files.length cf] 33)) = w2 at *
  have hBx2 : Box w2 w.heap.size [.slice qa f.args.length ca, .slice qi f.input.length ci, .slice qs f.short.length cs, .slice qr f.random.length cr, .slice qc f.clock.length cc, .slice qf f.files.length cf] := hBx
  clear hBx
  obtain ⟨pb, hpb⟩ : ∃ pb, w.heap.size = pb := ⟨_, rfl⟩
  rw [hpb] at hBx2 ⊢
  have hHold : ∀ X, Bw w2 X → (X.cell? ⟨pb, 0, none⟩ = some (.slice qa f.args.length ca) ∧ X.cell? ⟨pb, 1, none⟩ = some (.slice qi f.input.length ci) ∧ X.cell? ⟨pb, 2, none⟩ = some (.slice qs f.short.length cs) ∧ X.cell? ⟨pb, 3, none⟩ = some (.slice qr f.random.length cr) ∧ X.cell? ⟨pb, 4, none⟩ = some (.slice qc f.clock.length cc) ∧ X.cell? ⟨pb, 5, none⟩ = some (.slice qf f.files.length cf)) := fun X g => ⟨g.keep (hBx2.c 0 _ rfl), g.keep (hBx2.c 1 _ rfl), g.keep (hBx2.c 2 _ rfl), g.keep (hBx2.c 3 _ rfl), g.keep (hBx2.c 4 _ rfl), g.keep (hBx2.c 5 _ rfl)⟩
  have hB : Bw w2 w2.drew := (Bw.refl w2).drew
  refine wp_region_held_drew (S := fun X => X.cell? ⟨pb, 0, none⟩ = some (.slice qa f.args.length ca) ∧ X.cell? ⟨pb, 1, none⟩ = some (.slice qi f.input.length ci) ∧ X.cell? ⟨pb, 2, none⟩ = some (.slice qs f.short.length cs) ∧ X.cell? ⟨pb, 3, none⟩ = some (.slice qr f.random.length cr) ∧ X.cell? ⟨pb, 4, none⟩ = some (.slice qc f.clock.length cc) ∧ X.cell? ⟨pb, 5, none⟩ = some (.slice qf f.files.length cf)) (by kernel_rfl) (hHold _ hB) (fun hHeld => ?_)
  refine wpAnyH_take (i := 0) (oi := ⟨some 4, _, _, _, _, _⟩) (v := ?_) rfl (by kernel_rfl) (by kernel_rfl) (by kernel_rfl) (fun _ _ _ h => h) (Or.inl ⟨by rfl, ?_⟩) (by assumption) ?_; (rotate_left 1); (focus (intro wz hSw; (try dsimp only at hSw); go_simp; try (with_reducible rfl))); simp only [Act.put, List.setIfInBounds_toArray, List.set_cons_zero, List.set_cons_succ]
  refine wpAnyH_take (i := 2) (oi := ⟨some 6, _, _, _, _, _⟩) (v := ?_) rfl (by kernel_rfl) (by kernel_rfl) (by kernel_rfl) (fun _ _ _ h => h) (Or.inl ⟨by rfl, ?_⟩) (by assumption) ?_; (rotate_left 1); (focus (intro wz hSw; (try dsimp only at hSw); go_simp; try (with_reducible rfl))); simp only [Act.put, List.setIfInBounds_toArray, List.set_cons_zero, List.set_cons_succ]
  refine wpAnyH_ready (rs := [1]) (by kernel_rfl) (by simp) ?_; refine AllReadyH.cons rfl (fun K hK => ?_) AllReadyH.nil; go_simp
  refine (hBg _ (hbA.trans hB)).mono ?_
  rintro e w3 ⟨ub, rfl, hub, h3, hU, hFU⟩
  have hwub : w.heap.size ≤ ub := Nat.le_trans (hbA.trans hB).size hub
  replace hFU : FarU w3 ub w.heap.size := fun j v hj e => (hFU j v hj e).le (hbA.trans hB).size
  replace hB := hB.trans h3
  (try clear hHeld); refine hK.out _ _ ?_ (fun hHeld => ?_)
  · exact hHold _ hB
  refine wpAnyH_ready (rs := [3]) (by kernel_rfl) (by simp) ?_; refine AllReadyH.cons rfl (fun K hK => ?_) AllReadyH.nil; go_simp
  refine (hSo _ (hbA.trans hB)).mono ?_
  rintro e w4 ⟨v4, rfl, hSr, h4⟩
  obtain ⟨us4, k1, k2, k3, k4⟩ := hSr
  obtain ⟨q4, c4, rfl, -⟩ := RdR.form k2
  have hFU4 : FarU w4 ub w.heap.size := hFU.blk (Below.block h4 ub hU.lt)
  have hU4 := hU.bw h4
  have hub4 : ub < w3.heap.size := hU.lt
  have hsz3 := (hbA.trans hB).size
  replace hB := hB.trans h4
  (try clear hHeld); refine hK.out _ _ ?_ (fun hHeld => ?_)
  · exact hHold _ hB
  refine wpAnyH_take (i := 4) (oi := ⟨some 8, _, _, _, _, _⟩) (v := ?_) rfl (by kernel_rfl) (by kernel_rfl) (by kernel_rfl) (fun _ _ _ h => h) (Or.inl ⟨by rfl, ?_⟩) (by assumption) ?_; (rotate_left 1); (focus (intro wz hSw; (try dsimp only at hSw); go_simp; try (with_reducible rfl))); simp only [Act.put, List.setIfInBounds_toArray, List.set_cons_zero, List.set_cons_succ]
  refine wpAnyH_ready (rs := [5]) (by kernel_rfl) (by simp) ?_; refine AllReadyH.cons rfl (fun K hK => ?_) AllReadyH.nil; go_simp
  (try clear hHeld); refine hK.out _ _ ?_ (fun hHeld => ?_)
  · exact hHold _ (hB.alloc _)
  refine wpAnyH_take (i := 6) (oi := ⟨some 3, _, _, _, _, _⟩) (v := ?_) rfl (by kernel_rfl) (by kernel_rfl) (by kernel_rfl) (fun _ _ _ h => h) (Or.inl ⟨by rfl, ?_⟩) (by assumption) ?_; (rotate_left 1); (focus (intro wz hSw; (try dsimp only at hSw); go_simp; try (with_reducible rfl))); simp only [Act.put, List.setIfInBounds_toArray, List.set_cons_zero, List.set_cons_succ]
  refine wpAnyH_done (by kernel_rfl) ?_ _
  have hX := Box.new w4 [.pointer (some ⟨ub, 0, none⟩), .slice q4 (Fil.new f).srcs.length c4, Value.int .i64 0, Value.int .i64 0, Value.int .i64 0, Value.int .i64 0, Value.int .i64 0, Value.int .i64 0, Value.int .i64 0, Value.int .i64 0, Value.int .i64 0, Value.int .i64 0, Value.int .i64 0, Value.int .i64 0, Value.int .i64 0, Value.int .i64 0, Value.int .i64 0, Value.int .i64 0, Value.int .i64 0, Value.int .i64 0, Value.int .i64 0, Value.int .i64 0, Value.int .i64 0, Value.int .i64 0, Value.int .i64 0, Value.int .i64 0, Value.int .i64 0, Value.int .i64 0, Value.int .i64 0, Value.int .i64 0, Value.int .i64 0, Value.int .i64 0, Value.int .i64 0, Value.int .i64 0, Value.int .i64 0, Value.int .i64 0, Value.int .i64 0, Value.int .i64 0, Value.int .i64 0, Value.int .i64 0, Value.int .i64 0, Value.int .i64 0, Value.int .i64 0, Value.int .i64 0, Value.int .i64 0, Value.int .i64 0, Value.int .i64 0, Value.int .i64 0, Value.int .i64 0, Value.int .i64 0, .slice none 0 0, .slice none 0 0, .slice none 0 0] 76
  have gA : Bw w4 (w4.alloc (.cells #[.pointer (some ⟨ub, 0, none⟩), .slice q4 (Fil.new f).srcs.length c4, Value.int .i64 0, Value.int .i64 0, Value.int .i64 0, Value.int .i64 0, Value.int .i64 0, Value.int .i64 0, Value.int .i64 0, Value.int .i64 0, Value.int .i64 0, Value.int .i64 0, Value.int .i64 0, Value.int .i64 0, Value.int .i64 0, Value.int .i64 0, Value.int .i64 0, Value.int .i64 0, Value.int .i64 0, Value.int .i64 0, Value.int .i64 0, Value.int .i64 0, Value.int .i64 0, Value.int .i64 0, Value.int .i64 0, Value.int .i64 0, Value.int .i64 0, Value.int .i64 0, Value.int .i64 0, Value.int .i64 0, Value.int .i64 0, Value.int .i64 0, Value.int .i64 0, Value.int .i64 0, Value.int .i64 0, Value.int .i64 0, Value.int .i64 0, Value.int .i64 0, Value.int .i64 0, Value.int .i64 0, Value.int .i64 0, Value.int .i64 0, Value.int .i64 0, Value.int .i64 0, Value.int .i64 0, Value.int .i64 0, Value.int .i64 0, Value.int .i64 0, Value.int .i64 0, Value.int .i64 0, .slice none 0 0, .slice none 0 0, .slice none 0 0] 76)) := (Bw.refl w4).alloc _
  generalize hwB : (w4.alloc (.cells #[.pointer (some ⟨ub, 0, none⟩), .slice q4 (Fil.new f).srcs.length c4, Value.int .i64 0, Value.int .i64 0, Value.int .i64 0, Value.int .i64 0, Value.int .i64 0, Value.int .i64 0, Value.int .i64 0, Value.int .i64 0, Value.int .i64 0, Value.int .i64 0, Value.int .i64 0, Value.int .i64 0, Value.int .i64 0, Value.int .i64 0, Value.int .i64 0, Value.int .i64 0, Value.int .i64 0, Value.int .i64 0, Value.int .i64 0, Value.int .i64 0, Value.int .i64 0, Value.int .i64 0, Value.int .i64 0, Value.int .i64 0, Value.int .i64 0, Value.int .i64 0, Value.int .i64 0, Value.int .i64 0, Value.int .i64 0, Value.int .i64 0, Value.int .i64 0, Value.int .i64 0, Value.int .i64 0, Value.int .i64 0, Value.int .i64 0, Value.int .i64 0, Value.int .i64 0, Value.int .i64 0, Value.int .i64 0, Value.int .i64 0, Value.int .i64 0, Value.int .i64 0, Value.int .i64 0, Value.int .i64 0, Value.int .i64 0, Value.int .i64 0, Value.int .i64 0, Value.int .i64 0, .slice none 0 0, .slice none 0 0, .slice none 0 0] 76)) = wB at hX gA ⊢
  have hXl : w4.heap.size < wB.heap.size := hX.lt
  obtain ⟨fb, hfb⟩ : ∃ fb, w4.heap.size = fb := ⟨_, rfl⟩
  rw [hfb] at hX hXl ⊢
  have c2 := hX.c 2 _ rfl; have c5 := hX.c 5 _ rfl; have c8 := hX.c 8 _ rfl
  have f2 := hX.f 2 (by simp); have f5 := hX.f 5 (by simp); have f8 := hX.f 8 (by simp)
  have hX3 := ((hX.set 2 (by simp) (.int .i64 1)).set 5 (by simp) (.int .i64 2)).set 8 (by simp) (.int .i64 2)
  have hq : Bq fb wB (((wB.setCell ⟨fb, 2, none⟩ (.int .i64 1)).setCell ⟨fb, 5, none⟩ (.int .i64 2)).setCell ⟨fb, 8, none⟩ (.int .i64 2)) := (((Bq.refl _ _).set 2 _).set 5 _).set 8 _
  have hbF : Bw w4 (((wB.setCell ⟨fb, 2, none⟩ (.int .i64 1)).setCell ⟨fb, 5, none⟩ (.int .i64 2)).setCell ⟨fb, 8, none⟩ (.int .i64 2)) := hq.toBw gA (Nat.le_of_eq hfb)
  have HFin : Hid (∃ A, FS w (((wB.setCell ⟨fb, 2, none⟩ (.int .i64 1)).setCell ⟨fb, 5, none⟩ (.int .i64 2)).setCell ⟨fb, 8, none⟩ (.int .i64 2)) fb A (Fil.new f) ∧ Bw w (((wB.setCell ⟨fb, 2, none⟩ (.int .i64 1)).setCell ⟨fb, 5, none⟩ (.int .i64 2)).setCell ⟨fb, 8, none⟩ (.int .i64 2))) :=
    Fil.mkFS hok (hbA.trans hB) hbF hfb (by simpa [World.setCell] using hXl) hX3 hU4 hFU4 hwub hub4 h4 k1 k2 k3 k4
  clear hX hX3 hq hbF hU4 hFU4 k1 k2 k3 k4 hwB gA hXl hHold hBx2 hFU hU
  go_wp2_with fail
  go_returns
  obtain ⟨A, r1, r2⟩ := (show ∃ A, _ from HFin)
  exact ⟨_, A, rfl, r1, r2⟩
end Go.Proofs.Ytaepjlaegldkhaa
