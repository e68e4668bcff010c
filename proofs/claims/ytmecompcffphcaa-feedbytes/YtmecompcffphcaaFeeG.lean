/- LAYER 9's laws: fee. -/
import Derived.Test.YtmecompcffphcaaFeeW4
import Derived.Deep.RegionWith
namespace Go.Proofs.Ytmecompcffphcaa
open Go.ChangeShapes Go.WideShapes Go.ChangeAt Go.RowKit
set_option linter.unusedSimpArgs false

theorem FlS.openU {w : World} {v : Value} {l : List Fee.Fl} (h : FlS w v l) : ∃ (us : List Value) (q : Option Addr) (cap : Nat), v = .slice q l.length cap ∧ l.length ≤ cap ∧ cap ≤ 9223372036854775807 ∧ us.length = l.length ∧ (∀ (i : Nat) f u, l[i]? = some f → us[i]? = some u → Rd8 w u f.data) ∧ (∀ f ∈ l, B8s f.data) ∧
    ∀ (i : Nat) f, l[i]? = some f → ∃ b o qs cs, q = some ⟨b, o, none⟩ ∧ b < w.heap.size ∧ w.cell? ⟨b, o + i * 2, none⟩ = some (.string f.name) ∧ w.cell? ⟨b, o + i * 2 + 1, none⟩ = some (.slice qs f.data.length cs) ∧ us[i]? = some (.slice qs f.data.length cs) := by
  obtain ⟨us, hus, ⟨q, cap, h1, h2, h3, h4, h5⟩, hr, hw⟩ := h
  refine ⟨us, q, cap, h1, h2, h3, hus, hr, hw, fun i f hf => ?_⟩
  have hi : i < l.length := (List.getElem?_eq_some_iff.1 hf).1
  obtain ⟨b, o, h6, h7, h8⟩ := h5 (by omega)
  have hu : us[i]? = some us[i] := List.getElem?_eq_getElem (by omega)
  have hz : (l.zip us)[i]? = some (f, us[i]) := by rw [List.getElem?_zip_eq_some]; exact ⟨hf, hu⟩
  have c : ∀ j u, (Fee.flC f us[i])[j]? = some u → w.cell? ⟨b, o + i * 2 + j, none⟩ = some u := fun j u hj => by
    rw [Nat.add_assoc]
    exact h8 _ u (by unfold Fee.cells; rw [chunk (fun p : Fee.Fl × Value => Fee.flC p.1 p.2) 2 (fun _ => rfl) (l.zip us) i (f, us[i]) j hz (List.getElem?_eq_some_iff.1 hj).1]; exact hj)
  have hR := hr i f _ hf hu
  obtain ⟨qs, cs, e, e1, e2, _⟩ := hR.open
  exact ⟨b, o, qs, cs, h6, h7, c 0 _ rfl, by rw [← e]; exact c 1 _ rfl, by rw [← e]; exact hu⟩
theorem infoFl : (Try.prog.info? 65).map (fun i => (i.zero, i.size, i.bytes)) = some (some (.agg #[.string ⟨#[]⟩, .slice none 0 0]), 2, 40) := by kernel_rfl
theorem Fee.cells_take {l : List Fee.Fl} {us : List Value} {k : Nat} {f : Fee.Fl} {u : Value} (hus : us.length = l.length) (hf : l[k]? = some f) (hu : us[k]? = some u) : Fee.cells (l.take (k + 1)) (us.take (k + 1)) = Fee.cells (l.take k) (us.take k) ++ Fee.flC f u := by
  rw [List.take_add_one, hf, List.take_add_one, hu]
  unfold Fee.cells
  rw [show Option.toList (some f) = [f] from rfl, show Option.toList (some u) = [u] from rfl, List.zip_append (by rw [List.length_take, List.length_take, hus]), List.flatMap_append]
  simp
set_option maxHeartbeats 4000000 in
set_option maxRecDepth 100000 in
theorem fee_c (va vi vs vr vc vf : Value) (f : Fee.Fd) (w : World) (hv : IsFd w (.agg #[va, vi, vs, vr, vc, vf]) f) (hl : f.files.length ≤ 1000) : Calls Try.prog 11 #[.agg #[va, vi, vs, vr, vc, vf]] w fun e w' => ∃ u, e = .returned (.agg #[va, vi, vs, vr, vc, u]) ∧ IsFd w' (.agg #[va, vi, vs, vr, vc, u]) f ∧ Bw w w' := by
  obtain ⟨va', vi', vs', vr', vc', vf', hve, ha, hi, hs, hr, hc, hf, hwf⟩ := hv
  simp at hve
  obtain ⟨rfl, rfl, rfl, rfl, rfl, rfl⟩ := hve
  obtain ⟨us, qf, cf, rfl, hf1, hf2, hus, hru, hf8, hcell⟩ := hf.openU
  have HA : Hid _ := ha
  have HI : Hid _ := hi
  have HS : Hid _ := hs
  have HR : Hid _ := hr
  have HC : Hid _ := hc
  obtain ⟨qa, ca, rfl, -⟩ := RdR.form ha
  obtain ⟨qi, ci, rfl, -⟩ := Rd8.open hi
  obtain ⟨qs, cs, rfl, -⟩ := RdR.form hs
  obtain ⟨qr, cr, rfl, -⟩ := Rd8.open hr
  obtain ⟨qc, cc, rfl, -⟩ := RdR.form hc
  clear ha hi hs hr hc hf
  go_enter Try.func11, Try.ntmps11
  go_wp2_with fail
  have hP0 := Box.new w [.slice qa f.args.length ca, .slice qi f.input.length ci, .slice qs f.short.length cs, .slice qr f.random.length cr, .slice qc f.clock.length cc, .slice qf f.files.length cf] 28
  have hR0 := Box.new (w.alloc (.cells #[.slice qa f.args.length ca, .slice qi f.input.length ci, .slice qs f.short.length cs, .slice qr f.random.length cr, .slice qc f.clock.length cc, .slice qf f.files.length cf] 28)) [.slice none 0 0, .slice none 0 0, .slice none 0 0, .slice none 0 0, .slice none 0 0, .slice none 0 0] 36
  have hQ0 := Box.new ((w.alloc (.cells #[.slice qa f.args.length ca, .slice qi f.input.length ci, .slice qs f.short.length cs, .slice qr f.random.length cr, .slice qc f.clock.length cc, .slice qf f.files.length cf] 28)).alloc (.cells #[.slice none 0 0, .slice none 0 0, .slice none 0 0, .slice none 0 0, .slice none 0 0, .slice none 0 0] 36)) [.slice qa f.args.length ca, .slice qi f.input.length ci, .slice qs f.short.length cs, .slice qr f.random.length cr, .slice qc f.clock.length cc, .slice none 0 0] 36
  simp only [World.size_alloc] at hR0 hQ0
  obtain ⟨wA, hwA, hbA, hp0, hr0, hq0⟩ : ∃ wA, (((w.alloc (.cells #[.slice qa f.args.length ca, .slice qi f.input.length ci, .slice qs f.short.length cs, .slice qr f.random.length cr, .slice qc f.clock.length cc, .slice qf f.files.length cf] 28)).alloc (.cells #[.slice none 0 0, .slice none 0 0, .slice none 0 0, .slice none 0 0, .slice none 0 0, .slice none 0 0] 36)).alloc (.cells #[.slice qa f.args.length ca, .slice qi f.input.length ci, .slice qs f.short.length cs, .slice qr f.random.length cr, .slice qc f.clock.length cc, .slice none 0 0] 36)) = wA ∧ Bw w wA ∧ Box wA w.heap.size [.slice qa f.args.length ca, .slice qi f.input.length ci, .slice qs f.short.length cs, .slice qr f.random.length cr, .slice qc f.clock.length cc, .slice qf f.files.length cf] ∧ Box wA (w.heap.size + 1) [.slice none 0 0, .slice none 0 0, .slice none 0 0, .slice none 0 0, .slice none 0 0, .slice none 0 0] ∧ Box wA (w.heap.size + 1 + 1) [.slice qa f.args.length ca, .slice qi f.input.length ci, .slice qs f.short.length cs, .slice qr f.random.length cr, .slice qc f.clock.length cc, .slice none 0 0] :=
    ⟨_, rfl, by (repeat' (first | (with_reducible assumption) | (with_reducible exact Bw.refl _) | (with_reducible refine Bw.alloc ?_ _) | (with_reducible refine Bw.drew ?_) | (with_reducible refine Bw.drewN ?_ _) | (with_reducible refine Bw.setCell ?_ ?_ _) | exact Nat.le_refl _)), hP0.bw (((Bw.refl _).alloc _).alloc _), hR0.bw ((Bw.refl _).alloc _), hQ0⟩
  have hpl3 := hq0.lt
  rw [hwA]
  obtain ⟨pb, hpb⟩ : ∃ pb, w.heap.size + 1 + 1 = pb := ⟨_, rfl⟩
  obtain ⟨rb, hrb⟩ : ∃ rb, w.heap.size + 1 = rb := ⟨_, rfl⟩
  obtain ⟨fb, hfb⟩ : ∃ fb, w.heap.size = fb := ⟨_, rfl⟩
  rw [hpb] at hq0 hpl3 ⊢
  rw [hrb] at hr0 ⊢
  rw [hfb] at hp0 ⊢
  have hne0 : fb ≠ pb := by omega
  have hne1 : rb ≠ pb := by omega
  have hlep : w.heap.size ≤ pb := by omega
  have hler : w.heap.size ≤ rb := by omega
  clear hwA hP0 hR0 hQ0 hpb hrb hfb
  go_loopg [4] f.files.length (fun g v wr => ∃ k : Nat, ∃ u1 : Value, k + g = f.files.length ∧ v = .int .i64 k ∧ Bq pb wA wr ∧ OwnR 65 2 wA wr u1 k (Fee.cells (f.files.take k) (us.take k)) ∧ Box wr pb [.slice qa f.args.length ca, .slice qi f.input.length ci, .slice qs f.short.length cs, .slice qr f.random.length cr, .slice qc f.clock.length cc, u1])
  case atStart => exact ⟨0, .slice none 0 0, by omega, rfl, Bq.refl _ _, OwnR.nil _ _ _ _, hq0⟩
  case round =>
    obtain ⟨k, u1, hkg, rfl, hbq, hown, hbox⟩ := hrel
    have hbwr := hbq.toBw hbA hlep
    have hpr := hp0.blk (hbq.block fb hp0.lt hne0)
    have p5 := hpr.c 5 _ rfl
    have b0 := hbox.c 0 _ rfl; have b1 := hbox.c 1 _ rfl; have b2 := hbox.c 2 _ rfl; have b3 := hbox.c 3 _ rfl; have b4 := hbox.c 4 _ rfl; have b5 := hbox.c 5 _ rfl
    by_cases hk : k = f.files.length
    · subst hk
      have hrr := hr0.blk (hbq.block rb hr0.lt hne1)
      have z0 := hrr.c 0 _ rfl; have z1 := hrr.c 1 _ rfl; have z2 := hrr.c 2 _ rfl; have z3 := hrr.c 3 _ rfl; have z4 := hrr.c 4 _ rfl; have z5 := hrr.c 5 _ rfl
      have y0 := hrr.f 0 (by simp); have y1 := hrr.f 1 (by simp); have y2 := hrr.f 2 (by simp); have y3 := hrr.f 3 (by simp); have y4 := hrr.f 4 (by simp); have y5 := hrr.f 5 (by simp)
      rw [List.take_length, show us.take f.files.length = us by rw [← hus, List.take_length]] at hown
      have hrl := hrr.lt
      have hrA := hr0.lt
      have hQ : Bq rb wr ((((((wr.setCell ⟨rb, 0, none⟩ (.slice qa f.args.length ca)).setCell ⟨rb, 1, none⟩ (.slice qi f.input.length ci)).setCell ⟨rb, 2, none⟩ (.slice qs f.short.length cs)).setCell ⟨rb, 3, none⟩ (.slice qr f.random.length cr)).setCell ⟨rb, 4, none⟩ (.slice qc f.clock.length cc)).setCell ⟨rb, 5, none⟩ u1) := ((((((Bq.refl _ wr).set 0 _).set 1 _).set 2 _).set 3 _).set 4 _).set 5 _
      have hB := hQ.toBw hbwr hler
      have hfin : Hid (IsFd ((((((wr.setCell ⟨rb, 0, none⟩ (.slice qa f.args.length ca)).setCell ⟨rb, 1, none⟩ (.slice qi f.input.length ci)).setCell ⟨rb, 2, none⟩ (.slice qs f.short.length cs)).setCell ⟨rb, 3, none⟩ (.slice qr f.random.length cr)).setCell ⟨rb, 4, none⟩ (.slice qc f.clock.length cc)).setCell ⟨rb, 5, none⟩ u1) (.agg #[.slice qa f.args.length ca, .slice qi f.input.length ci, .slice qs f.short.length cs, .slice qr f.random.length cr, .slice qc f.clock.length cc, u1]) f ∧ Bw w ((((((wr.setCell ⟨rb, 0, none⟩ (.slice qa f.args.length ca)).setCell ⟨rb, 1, none⟩ (.slice qi f.input.length ci)).setCell ⟨rb, 2, none⟩ (.slice qs f.short.length cs)).setCell ⟨rb, 3, none⟩ (.slice qr f.random.length cr)).setCell ⟨rb, 4, none⟩ (.slice qc f.clock.length cc)).setCell ⟨rb, 5, none⟩ u1)) :=
        ⟨⟨_, _, _, _, _, _, rfl, RdR.bw HA hB, Rd8.bw HI hB, RdR.bw HS hB, Rd8.bw HR hB, RdR.bw HC hB, ⟨us, hus, RdR.q hown.rd hQ (fun q n c e hn => by have := (hown.far q n c e hn); omega), fun i x u a b => (hru i x u a b).bw hB, hf8⟩, hwf⟩, hB⟩
      obtain ⟨q1', c1', rfl, -⟩ := RdR.form hown.rd
      clear hQ hB hown hbox hpr hrr HA HI HS HR HC hcell hru
      go_wp2_with fail
      (try simp only [Exit.inBlock, Exit.then]); refine bodyPost_ret (by simp [results, Try.results11, go_sem, z0, z1, z2, z3, z4, z5]; try rfl) rfl ?_
      exact ⟨_, rfl, hfin⟩
    · have hkl : k < f.files.length := by omega
      have hki : (k : Int) < (f.files.length : Int) := by omega
      obtain ⟨x, hx, -⟩ := dropAt hkl
      obtain ⟨b, o, qx, cx, rfl, hb, c0, c1, hu⟩ := hcell k x hx
      have HSX : Hid (∀ X, Bq pb wA X → (X.cell? ⟨fb, 5, none⟩ = some (.slice (some ⟨b, o, none⟩) f.files.length cf) ∧ X.cell? ⟨b, o + k * 2, none⟩ = some (.string x.name) ∧ X.cell? ⟨b, o + k * 2 + 1, none⟩ = some (.slice qx x.data.length cx))) := fun X hX => ⟨hX.keep (hp0.c 5 _ rfl) hne0, (hX.toBw hbA hlep).keep c0, (hX.toBw hbA hlep).keep c1⟩
      replace c0 := hbwr.keep c0
      replace c1 := hbwr.keep c1
      have hct := Fee.cells_take hus hx hu
      have b5f := hbox.f 5 (by simp)
      have b5a := fun o => ((Bw.refl wr).alloc o).keep b5
      have hbwd : Bw wr wr.drew := (Bw.refl wr).drew
      obtain ⟨v6, w6, hr6, ho6, hq6, hpb6⟩ := appQ (ty := 34) infoFl Try.underlying34 rfl (by omega) (by omega) (OwnR.bw hown hbwd) (hbq.bw hbwd) hpl3 1 (Fee.flC x (.slice qx x.data.length cx)) rfl (fun y hy => by simp [Fee.flC] at hy; rcases hy with rfl | rfl <;> rfl) (by omega)
      rw [← hct] at ho6
      obtain ⟨g6, cp6, rfl⟩ := OwnR.form ho6 (by omega)
      have hr7 : (Builtin.append_ #[34, 34] 34 #[u1, .slice (some ⟨wr.heap.size, 0, none⟩) 1 1]).run Try.prog (wr.drew.alloc (.cells #[.string x.name, .slice qx x.data.length cx] 65)) = .ok (.slice (some ⟨g6, 0, none⟩) (k + 1) cp6) w6 := hr6
      have hbox6 := (hbox.bw hbwd).blk hpb6
      have e5 := hbox6.c 5 _ rfl; have e5f := hbox6.f 5 (by simp)
      clear hr6 hx hu hct hru hcell
      go_wp2_with fail
      refine wp_region_held_drew (S := fun X => X.cell? ⟨fb, 5, none⟩ = some (.slice (some ⟨b, o, none⟩) f.files.length cf) ∧ X.cell? ⟨b, o + k * 2, none⟩ = some (.string x.name) ∧ X.cell? ⟨b, o + k * 2 + 1, none⟩ = some (.slice qx x.data.length cx)) (by kernel_rfl) ((show ∀ X, _ → _ from HSX) _ (hbq.bw hbwd)) (fun hHeld => ?_)
      refine wpAnyH_take (i := 0) (oi := ⟨some 23, _, _, _, _, _⟩) (v := ?_) rfl (by kernel_rfl) (by kernel_rfl) (by kernel_rfl) (fun _ _ _ h => h) (Or.inl ⟨by rfl, ?_⟩) (by assumption) ?_; (rotate_left 1); (focus (intro wz hSw; (try dsimp only at hSw); go_simp; try (with_reducible rfl))); simp only [Act.put, List.setIfInBounds_toArray, List.set_cons_zero, List.set_cons_succ]
      refine wpAnyH_take (i := 2) (oi := ⟨some 25, _, _, _, _, _⟩) (v := ?_) rfl (by kernel_rfl) (by kernel_rfl) (by kernel_rfl) (fun _ _ _ h => h) (Or.inl ⟨by rfl, ?_⟩) (by assumption) ?_; (rotate_left 1); (focus (intro wz hSw; (try dsimp only at hSw); go_simp; try (with_reducible rfl))); simp only [Act.put, List.setIfInBounds_toArray, List.set_cons_zero, List.set_cons_succ]
      refine wpAnyH_take (i := 3) (oi := ⟨some 26, _, _, _, _, _⟩) (v := ?_) rfl (by kernel_rfl) (by kernel_rfl) (by kernel_rfl) (fun _ _ _ h => h) (Or.inl ⟨by rfl, ?_⟩) (by assumption) ?_; (rotate_left 1); (focus (intro wz hSw; (try dsimp only at hSw); go_simp; try (with_reducible rfl))); simp only [Act.put, List.setIfInBounds_toArray, List.set_cons_zero, List.set_cons_succ]
      refine wpAnyH_take (i := 4) (oi := ⟨some 27, _, _, _, _, _⟩) (v := ?_) rfl (by kernel_rfl) (by kernel_rfl) (by kernel_rfl) (fun _ _ _ h => h) (Or.inl ⟨by rfl, ?_⟩) (by assumption) ?_; (rotate_left 1); (focus (intro wz hSw; (try dsimp only at hSw); go_simp; try (with_reducible rfl))); simp only [Act.put, List.setIfInBounds_toArray, List.set_cons_zero, List.set_cons_succ]
      refine wpAnyH_take (i := 5) (oi := ⟨some 28, _, _, _, _, _⟩) (v := ?_) rfl (by kernel_rfl) (by kernel_rfl) (by kernel_rfl) (fun _ _ _ h => h) (Or.inl ⟨by rfl, ?_⟩) (by assumption) ?_; (rotate_left 1); (focus (intro wz hSw; (try dsimp only at hSw); go_simp; try (with_reducible rfl))); simp only [Act.put, List.setIfInBounds_toArray, List.set_cons_zero, List.set_cons_succ]
      refine wpAnyH_take (i := 6) (oi := ⟨some 29, _, _, _, _, _⟩) (v := ?_) rfl (by kernel_rfl) (by kernel_rfl) (by kernel_rfl) (fun _ _ _ h => h) (Or.inl ⟨by rfl, ?_⟩) (by assumption) ?_; (rotate_left 1); (focus (intro wz hSw; (try dsimp only at hSw); go_simp; try (with_reducible rfl))); simp only [Act.put, List.setIfInBounds_toArray, List.set_cons_zero, List.set_cons_succ]
      refine wpAnyH_take (i := 7) (oi := ⟨some 30, _, _, _, _, _⟩) (v := ?_) rfl (by kernel_rfl) (by kernel_rfl) (by kernel_rfl) (fun _ _ _ h => h) (Or.inl ⟨by rfl, ?_⟩) (by assumption) ?_; (rotate_left 1); (focus (intro wz hSw; (try dsimp only at hSw); go_simp; try (with_reducible rfl))); simp only [Act.put, List.setIfInBounds_toArray, List.set_cons_zero, List.set_cons_succ]
      refine wpAnyH_take (i := 8) (oi := ⟨some 31, _, _, _, _, _⟩) (v := ?_) rfl (by kernel_rfl) (by kernel_rfl) (by kernel_rfl) (fun _ _ _ h => h) (Or.inl ⟨by rfl, ?_⟩) (by assumption) ?_; (rotate_left 1); (focus (intro wz hSw; (try dsimp only at hSw); go_simp; try (with_reducible rfl))); simp only [Act.put, List.setIfInBounds_toArray, List.set_cons_zero, List.set_cons_succ]
      refine wpAnyH_take (i := 9) (oi := ⟨some 32, _, _, _, _, _⟩) (v := ?_) rfl (by kernel_rfl) (by kernel_rfl) (by kernel_rfl) (fun _ _ _ h => h) (Or.inl ⟨by rfl, ?_⟩) (by assumption) ?_; (rotate_left 1); (focus (intro wz hSw; (try dsimp only at hSw); go_simp; try (with_reducible rfl))); simp only [Act.put, List.setIfInBounds_toArray, List.set_cons_zero, List.set_cons_succ]
      refine wpAnyH_take (i := 10) (oi := ⟨some 33, _, _, _, _, _⟩) (v := ?_) rfl (by kernel_rfl) (by kernel_rfl) (by kernel_rfl) (fun _ _ _ h => h) (Or.inl ⟨by rfl, ?_⟩) (by assumption) ?_; (rotate_left 1); (focus (intro wz hSw; (try dsimp only at hSw); go_simp; try (with_reducible rfl))); simp only [Act.put, List.setIfInBounds_toArray, List.set_cons_zero, List.set_cons_succ]
      refine wpAnyH_take (i := 11) (oi := ⟨some 34, _, _, _, _, _⟩) (v := ?_) rfl (by kernel_rfl) (by kernel_rfl) (by kernel_rfl) (fun _ _ _ h => h) (Or.inl ⟨by rfl, ?_⟩) (by assumption) ?_; (rotate_left 1); (focus (intro wz hSw; (try dsimp only at hSw); go_simp; try (with_reducible rfl))); simp only [Act.put, List.setIfInBounds_toArray, List.set_cons_zero, List.set_cons_succ]
      refine wpAnyH_take (i := 12) (oi := ⟨some 35, _, _, _, _, _⟩) (v := ?_) rfl (by kernel_rfl) (by kernel_rfl) (by kernel_rfl) (fun _ _ _ h => h) (Or.inl ⟨by rfl, ?_⟩) (by assumption) ?_; (rotate_left 1); (focus (intro wz hSw; (try dsimp only at hSw); go_simp; try (with_reducible rfl))); simp only [Act.put, List.setIfInBounds_toArray, List.set_cons_zero, List.set_cons_succ]
      refine wpAnyH_take (i := 13) (oi := ⟨some 36, _, _, _, _, _⟩) (v := ?_) rfl (by kernel_rfl) (by kernel_rfl) (by kernel_rfl) (fun _ _ _ h => h) (Or.inl ⟨by rfl, ?_⟩) (by assumption) ?_; (rotate_left 1); (focus (intro wz hSw; (try dsimp only at hSw); go_simp; try (with_reducible rfl))); simp only [Act.put, List.setIfInBounds_toArray, List.set_cons_zero, List.set_cons_succ]
      refine wpAnyH_take (i := 14) (oi := ⟨some 37, _, _, _, _, _⟩) (v := ?_) rfl (by kernel_rfl) (by kernel_rfl) (by kernel_rfl) (fun _ _ _ h => h) (Or.inl ⟨by rfl, ?_⟩) (by assumption) ?_; (rotate_left 1); (focus (intro wz hSw; (try dsimp only at hSw); go_simp; try (with_reducible rfl))); simp only [Act.put, List.setIfInBounds_toArray, List.set_cons_zero, List.set_cons_succ]
      refine wpAnyH_ready (rs := [1, 15]) (by kernel_rfl) (by simp) ?_
      refine AllReadyH.cons rfl (fun K hK => ?_) (AllReadyH.cons rfl (fun K hK => ?_) AllReadyH.nil)
      · go_simp; (try clear hHeld); refine hK.out _ _ ?_ (fun hHeld => ?_); focus (exact (show ∀ X, _ → _ from HSX) _ (by first | exact hq6 | exact hq6.set _ _ | exact hbq.bw (by (repeat' (first | (with_reducible assumption) | (with_reducible exact Bw.refl _) | (with_reducible refine Bw.alloc ?_ _) | (with_reducible refine Bw.drew ?_) | (with_reducible refine Bw.drewN ?_ _) | (with_reducible refine Bw.setCell ?_ ?_ _) | exact Nat.le_refl _)))))
        refine wpAnyH_ready (rs := [15]) (by kernel_rfl) (by simp) ?_; refine AllReadyH.cons rfl (fun K hK => ?_) AllReadyH.nil; go_simp; (try clear hHeld); refine hK.out _ _ ?_ (fun hHeld => ?_); focus (exact (show ∀ X, _ → _ from HSX) _ (by first | exact hq6 | exact hq6.set _ _ | exact hbq.bw (by (repeat' (first | (with_reducible assumption) | (with_reducible exact Bw.refl _) | (with_reducible refine Bw.alloc ?_ _) | (with_reducible refine Bw.drew ?_) | (with_reducible refine Bw.drewN ?_ _) | (with_reducible refine Bw.setCell ?_ ?_ _) | exact Nat.le_refl _)))))
        refine wpAnyH_ready (rs := [16]) (by kernel_rfl) (by simp) ?_; refine AllReadyH.cons (o := ⟨some 39, _, _, _, _, _⟩) rfl (fun K hK => ?_) AllReadyH.nil; refine stepApp rfl _ _ 34 rfl rfl rfl hr7 ?_; (try clear hHeld); refine hK.out _ _ ?_ (fun hHeld => ?_); focus (exact (show ∀ X, _ → _ from HSX) _ (by first | exact hq6 | exact hq6.set _ _ | exact hbq.bw (by (repeat' (first | (with_reducible assumption) | (with_reducible exact Bw.refl _) | (with_reducible refine Bw.alloc ?_ _) | (with_reducible refine Bw.drew ?_) | (with_reducible refine Bw.drewN ?_ _) | (with_reducible refine Bw.setCell ?_ ?_ _) | exact Nat.le_refl _)))))
        simp only [Act.put, List.setIfInBounds_toArray, List.set_cons_zero, List.set_cons_succ]
        refine wpAnyH_take (i := 17) (oi := ⟨some 40, _, _, _, _, _⟩) (v := ?_) rfl (by kernel_rfl) (by kernel_rfl) (by kernel_rfl) (fun _ _ _ h => h) (Or.inl ⟨by rfl, ?_⟩) (by assumption) ?_; (rotate_left 1); (focus (intro wz hSw; (try dsimp only at hSw); go_simp; try (with_reducible rfl))); simp only [Act.put, List.setIfInBounds_toArray, List.set_cons_zero, List.set_cons_succ]
        refine wpAnyH_ready (rs := [18]) (by kernel_rfl) (by simp) ?_; refine AllReadyH.cons rfl (fun K hK => ?_) AllReadyH.nil; go_simp; (try clear hHeld); refine hK.out _ _ ?_ (fun hHeld => ?_); focus (exact (show ∀ X, _ → _ from HSX) _ (by first | exact hq6 | exact hq6.set _ _ | exact hbq.bw (by (repeat' (first | (with_reducible assumption) | (with_reducible exact Bw.refl _) | (with_reducible refine Bw.alloc ?_ _) | (with_reducible refine Bw.drew ?_) | (with_reducible refine Bw.drewN ?_ _) | (with_reducible refine Bw.setCell ?_ ?_ _) | exact Nat.le_refl _)))))
        refine wpAnyH_done (by kernel_rfl) ?_ _
        go_wp2_with fail
        go_roundg (f.files.length - (k + 1))
        case measure => omega
        case rel => exact ⟨k + 1, _, by omega, by simp, hq6.set _ _, ho6.set hpl3 _ _, hbox6.set 5 (by simp) _⟩
      · go_simp; (try clear hHeld); refine hK.out _ _ ?_ (fun hHeld => ?_); focus (exact (show ∀ X, _ → _ from HSX) _ (by first | exact hq6 | exact hq6.set _ _ | exact hbq.bw (by (repeat' (first | (with_reducible assumption) | (with_reducible exact Bw.refl _) | (with_reducible refine Bw.alloc ?_ _) | (with_reducible refine Bw.drew ?_) | (with_reducible refine Bw.drewN ?_ _) | (with_reducible refine Bw.setCell ?_ ?_ _) | exact Nat.le_refl _)))))
        refine wpAnyH_ready (rs := [1]) (by kernel_rfl) (by simp) ?_; refine AllReadyH.cons rfl (fun K hK => ?_) AllReadyH.nil; go_simp; (try clear hHeld); refine hK.out _ _ ?_ (fun hHeld => ?_); focus (exact (show ∀ X, _ → _ from HSX) _ (by first | exact hq6 | exact hq6.set _ _ | exact hbq.bw (by (repeat' (first | (with_reducible assumption) | (with_reducible exact Bw.refl _) | (with_reducible refine Bw.alloc ?_ _) | (with_reducible refine Bw.drew ?_) | (with_reducible refine Bw.drewN ?_ _) | (with_reducible refine Bw.setCell ?_ ?_ _) | exact Nat.le_refl _)))))
        refine wpAnyH_ready (rs := [16]) (by kernel_rfl) (by simp) ?_; refine AllReadyH.cons (o := ⟨some 39, _, _, _, _, _⟩) rfl (fun K hK => ?_) AllReadyH.nil; refine stepApp rfl _ _ 34 rfl rfl rfl hr7 ?_; (try clear hHeld); refine hK.out _ _ ?_ (fun hHeld => ?_); focus (exact (show ∀ X, _ → _ from HSX) _ (by first | exact hq6 | exact hq6.set _ _ | exact hbq.bw (by (repeat' (first | (with_reducible assumption) | (with_reducible exact Bw.refl _) | (with_reducible refine Bw.alloc ?_ _) | (with_reducible refine Bw.drew ?_) | (with_reducible refine Bw.drewN ?_ _) | (with_reducible refine Bw.setCell ?_ ?_ _) | exact Nat.le_refl _)))))
        simp only [Act.put, List.setIfInBounds_toArray, List.set_cons_zero, List.set_cons_succ]
        refine wpAnyH_take (i := 17) (oi := ⟨some 40, _, _, _, _, _⟩) (v := ?_) rfl (by kernel_rfl) (by kernel_rfl) (by kernel_rfl) (fun _ _ _ h => h) (Or.inl ⟨by rfl, ?_⟩) (by assumption) ?_; (rotate_left 1); (focus (intro wz hSw; (try dsimp only at hSw); go_simp; try (with_reducible rfl))); simp only [Act.put, List.setIfInBounds_toArray, List.set_cons_zero, List.set_cons_succ]
        refine wpAnyH_ready (rs := [18]) (by kernel_rfl) (by simp) ?_; refine AllReadyH.cons rfl (fun K hK => ?_) AllReadyH.nil; go_simp; (try clear hHeld); refine hK.out _ _ ?_ (fun hHeld => ?_); focus (exact (show ∀ X, _ → _ from HSX) _ (by first | exact hq6 | exact hq6.set _ _ | exact hbq.bw (by (repeat' (first | (with_reducible assumption) | (with_reducible exact Bw.refl _) | (with_reducible refine Bw.alloc ?_ _) | (with_reducible refine Bw.drew ?_) | (with_reducible refine Bw.drewN ?_ _) | (with_reducible refine Bw.setCell ?_ ?_ _) | exact Nat.le_refl _)))))
        refine wpAnyH_done (by kernel_rfl) ?_ _
        go_wp2_with fail
        go_roundg (f.files.length - (k + 1))
        case measure => omega
        case rel => exact ⟨k + 1, _, by omega, by simp, hq6.set _ _, ho6.set hpl3 _ _, hbox6.set 5 (by simp) _⟩
end Go.Proofs.Ytmecompcffphcaa
