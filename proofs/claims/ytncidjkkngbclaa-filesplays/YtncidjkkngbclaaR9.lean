/- LAYER 11's laws: fee. · LAYER 11, the document's own open files: NewFiles. · LAYER 11's law FilesPlays: its acts. · LAYER 11's laws: light. -/
import Derived.Test.YtncidjkkngbclaaR3
import Derived.Deep.RegionWith
import Derived.Test.YtncidjkkngbclaaR8b
import Derived.Test.YtncidjkkngbclaaR8
import Derived.Test.YtncidjkkngbclaaR6
import Derived.Test.YtncidjkkngbclaaR2
import Derived.Test.YtncidjkkngbclaaR7
namespace Go.Proofs.Ytncidjkkngbclaa
open Go.ChangeShapes Go.WideShapes Go.ChangeAt Go.RowKit
set_option linter.unusedSimpArgs false

theorem FlS.openU {w : World} {v : Value} {l : List Fee.Fl} (h : FlS w v l) : ∃ (us : List Value) (q : Option Addr) (cap : Nat), v = .slice q l.length cap ∧ l.length ≤ cap ∧ cap ≤ 9223372036854775807 ∧ us.length = l.length ∧ (∀ (i : Nat) f u, l[i]? = some f → us[i]? = some u → Rd8 w u f.data) ∧ (∀ f ∈ l, B8s f.data) ∧
    ∀ (i : Nat) f, l[i]? = some f → ∃ b o qs cs, q = some ⟨b, o, none⟩ ∧ b < w.heap.size ∧ w.cell? ⟨b, o + i * 2, none⟩ = some (.string f.name) ∧ w.cell? ⟨b, o + i * 2 + 1, none⟩ = some (.slice qs f.data.length cs) ∧ us[i]? = some (.slice qs f.data.length cs) := by
  obtain ⟨us, hus, ⟨q, cap, h1, h2, h3, h4, h5⟩, hr, hw⟩ := h
  refine ⟨us, q, cap, h1, h2, h3, hus, hr, hw, fun i f hf => ?_⟩
  have hi : i < l.length := (List.getElem?_eq_some_iff.1 hf).1
  obtain ⟨b, o, h6, h7, h8⟩ := h5 (by omega)
  have hu : us[i]? = some us[i] := List.getElem?_eq_getElem (by omega)
  have hz : (l.zip us)[i]? = some (f, us[i]) := by rw [List.getElem?_zip_eq_some]; exact ⟨hf, hu⟩
  have c : ∀ j u, (Fee.flC f us[i])[j]? = some u → w.cell? ⟨b, o + i * 2 + j, none⟩ = some u := fun j u hj => by
    rw [Nat.add_assoc]
    exact h8 _ u (by unfold Fee.cells; rw [chunk (fun p : Fee.Fl × Value => Fee.flC p.1 p.2) 2 (fun _ => rfl) (l.zip us) i (f, us[i]) j hz (List.getElem?_eq_some_iff.1 hj).1]; exact hj)
  have hR := hr i f _ hf hu
  obtain ⟨qs, cs, e, e1, e2, _⟩ := hR.open
  exact ⟨b, o, qs, cs, h6, h7, c 0 _ rfl, by rw [← e]; exact c 1 _ rfl, by rw [← e]; exact hu⟩
theorem infoFl : (Try.prog.info? 75).map (fun i => (i.zero, i.size, i.bytes)) = some (some (.agg #[.string ⟨#[]⟩, .slice none 0 0]), 2, 40) := by kernel_rfl
theorem Fee.cells_take {l : List Fee.Fl} {us : List Value} {k : Nat} {f : Fee.Fl} {u : Value} (hus : us.length = l.length) (hf : l[k]? = some f) (hu : us[k]? = some u) : Fee.cells (l.take (k + 1)) (us.take (k + 1)) = Fee.cells (l.take k) (us.take k) ++ Fee.flC f u := by
  rw [List.take_add_one, hf, List.take_add_one, hu]
  unfold Fee.cells
  rw [show Option.toList (some f) = [f] from rfl, show Option.toList (some u) = [u] from rfl, List.zip_append (by rw [List.length_take, List.length_take, hus]), List.flatMap_append]
  simp
/-- Files that read so, their bytes below n. -/
def FlU (n : Nat) (w : World) (v : Value) (l : List Fee.Fl) : Prop := ∃ us, us.length = l.length ∧ RdR 2 w v l.length (Fee.cells l us) ∧ (∀ (i : Nat) f u, l[i]? = some f → us[i]? = some u → Rd8 w u f.data) ∧ ∀ u ∈ us, Lo n u
theorem FlU.bw {n : Nat} {w w' : World} {v : Value} {l : List Fee.Fl} (h : FlU n w v l) (g : Bw w w') : FlU n w' v l := by
  obtain ⟨us, h1, h2, h3, h4⟩ := h
  exact ⟨us, h1, RdR.bw h2 g, fun i f u a b => (h3 i f u a b).bw g, h4⟩
set_option maxHeartbeats 4000000 in
set_option maxRecDepth 100000 in
theorem fee_c (va vi vs vr vc vf : Value) (f : Fee.Fd) (w W0 : World) (hv : IsFd W0 (.agg #[va, vi, vs, vr, vc, vf]) f) (hb00 : Bw W0 w) (hl : f.files.length ≤ 1000) : Calls Try.prog 8 #[.agg #[va, vi, vs, vr, vc, vf]] w fun e w' => ∃ u, e = .returned (.agg #[va, vi, vs, vr, vc, u]) ∧ IsFd w' (.agg #[va, vi, vs, vr, vc, u]) f ∧ FlU W0.heap.size w' u f.files ∧ Bw w w' ∧ ∀ q k c, u = .slice (some q) k c → 0 < k → w.heap.size ≤ q.block := by
  obtain ⟨va', vi', vs', vr', vc', vf', hve, ha, hi, hs, hr, hc, hf, hwf⟩ := hv
  simp at hve
  obtain ⟨rfl, rfl, rfl, rfl, rfl, rfl⟩ := hve
  obtain ⟨us, qf, cf, rfl, hf1, hf2, hus, hru, hf8, hcell⟩ := hf.openU
  have hLU : ∀ u ∈ us, Lo W0.heap.size u := fun u hu => by
    obtain ⟨i, hi, e⟩ := List.getElem_of_mem hu
    obtain ⟨x, hx⟩ : ∃ x, f.files[i]? = some x := ⟨_, List.getElem?_eq_getElem (by omega)⟩
    exact RdR.lo (hru i x u hx (by rw [List.getElem?_eq_getElem hi, e]))
  replace hru : ∀ (i : Nat) f' u, f.files[i]? = some f' → us[i]? = some u → Rd8 w u f'.data := fun i f' u a b => (hru i f' u a b).bw hb00
  replace hcell : ∀ (i : Nat) f', f.files[i]? = some f' → ∃ b o qs cs, qf = some ⟨b, o, none⟩ ∧ b < w.heap.size ∧ w.cell? ⟨b, o + i * 2, none⟩ = some (.string f'.name) ∧ w.cell? ⟨b, o + i * 2 + 1, none⟩ = some (.slice qs f'.data.length cs) ∧ us[i]? = some (.slice qs f'.data.length cs) := fun i f' h => by
    obtain ⟨b, o, qs, cs, e1, e2, e3, e4, e5⟩ := hcell i f' h
    exact ⟨b, o, qs, cs, e1, Nat.lt_of_lt_of_le e2 hb00.size, hb00.keep e3, hb00.keep e4, e5⟩
  replace ha := RdR.bw ha hb00; replace hi := Rd8.bw hi hb00; replace hs := RdR.bw hs hb00; replace hr := Rd8.bw hr hb00; replace hc := RdR.bw hc hb00
  have HLU : Hid _ := hLU
  clear hLU hb00
  have HA : Hid _ := ha
  have HI : Hid _ := hi
  have HS : Hid _ := hs
  have HR : Hid _ := hr
  have HC : Hid _ := hc
  obtain ⟨qa, ca, rfl, -⟩ := RdR.form ha
  obtain ⟨qi, ci, rfl, -⟩ := Rd8.open hi
  obtain ⟨qs, cs, rfl, -⟩ := RdR.form hs
  obtain ⟨qr, cr, rfl, -⟩ := Rd8.open hr
  obtain ⟨qc, cc, rfl, -⟩ := RdR.form hc
  clear ha hi hs hr hc hf
  go_enter Try.func8, Try.ntmps8
  go_wp2_with fail
  have hP0 := Box.new w [.slice qa f.args.length ca, .slice qi f.input.length ci, .slice qs f.short.length cs, .slice qr f.random.length cr, .slice qc f.clock.length cc, .slice qf f.files.length cf] 28
  have hR0 := Box.new (w.alloc (.cells #[.slice qa f.args.length ca, .slice qi f.input.length ci, .slice qs f.short.length cs, .slice qr f.random.length cr, .slice qc f.clock.length cc, .slice qf f.files.length cf] 28)) [.slice none 0 0, .slice none 0 0, .slice none 0 0, .slice none 0 0, .slice none 0 0, .slice none 0 0] 38
  have hQ0 := Box.new ((w.alloc (.cells #[.slice qa f.args.length ca, .slice qi f.input.length ci, .slice qs f.short.length cs, .slice qr f.random.length cr, .slice qc f.clock.length cc, .slice qf f.files.length cf] 28)).alloc (.cells #[.slice none 0 0, .slice none 0 0, .slice none 0 0, .slice none 0 0, .slice none 0 0, .slice none 0 0] 38)) [.slice qa f.args.length ca, .slice qi f.input.length ci, .slice qs f.short.length cs, .slice qr f.random.length cr, .slice qc f.clock.length cc, .slice none 0 0] 38
  simp only [World.size_alloc] at hR0 hQ0
  obtain ⟨wA, hwA, hbA, hp0, hr0, hq0⟩ : ∃ wA, (((w.alloc (.cells #[.slice qa f.args.length ca, .slice qi f.input.length ci, .slice qs f.short.length cs, .slice qr f.random.length cr, .slice qc f.clock.length cc, .slice qf f.files.length cf] 28)).alloc (.cells #[.slice none 0 0, .slice none 0 0, .slice none 0 0, .slice none 0 0, .slice none 0 0, .slice none 0 0] 38)).alloc (.cells #[.slice qa f.args.length ca, .slice qi f.input.length ci, .slice qs f.short.length cs, .slice qr f.random.length cr, .slice qc f.clock.length cc, .slice none 0 0] 38)) = wA ∧ Bw w wA ∧ Box wA w.heap.size [.slice qa f.args.length ca, .slice qi f.input.length ci, .slice qs f.short.length cs, .slice qr f.random.length cr, .slice qc f.clock.length cc, .slice qf f.files.length cf] ∧ Box wA (w.heap.size + 1) [.slice none 0 0, .slice none 0 0, .slice none 0 0, .slice none 0 0, .slice none 0 0, .slice none 0 0] ∧ Box wA (w.heap.size + 1 + 1) [.slice qa f.args.length ca, .slice qi f.input.length ci, .slice qs f.short.length cs, .slice qr f.random.length cr, .slice qc f.clock.length cc, .slice none 0 0] :=
    ⟨_, rfl, by (repeat' (first | (with_reducible assumption) | (with_reducible exact Bw.refl _) | (with_reducible refine Bw.alloc ?_ _) | (with_reducible refine Bw.drew ?_) | (with_reducible refine Bw.drewN ?_ _) | (with_reducible refine Bw.setCell ?_ ?_ _) | exact Nat.le_refl _)), hP0.bw (((Bw.refl _).alloc _).alloc _), hR0.bw ((Bw.refl _).alloc _), hQ0⟩
  have hpl3 := hq0.lt
  rw [hwA]
  obtain ⟨pb, hpb⟩ : ∃ pb, w.heap.size + 1 + 1 = pb := ⟨_, rfl⟩
  obtain ⟨rb, hrb⟩ : ∃ rb, w.heap.size + 1 = rb := ⟨_, rfl⟩
  obtain ⟨fb, hfb⟩ : ∃ fb, w.heap.size = fb := ⟨_, rfl⟩
  rw [hpb] at hq0 hpl3 ⊢
  rw [hrb] at hr0 ⊢
  rw [hfb] at hp0 ⊢
  have hne0 : fb ≠ pb := by omega
  have hne1 : rb ≠ pb := by omega
  have hlep : w.heap.size ≤ pb := by omega
  have hler : w.heap.size ≤ rb := by omega
  clear hwA hP0 hR0 hQ0 hpb hrb hfb
  go_loopg [4] f.files.length (fun g v wr => ∃ k : Nat, ∃ u1 : Value, k + g = f.files.length ∧ v = .int .i64 k ∧ Bq pb wA wr ∧ OwnR 75 2 wA wr u1 k (Fee.cells (f.files.take k) (us.take k)) ∧ Box wr pb [.slice qa f.args.length ca, .slice qi f.input.length ci, .slice qs f.short.length cs, .slice qr f.random.length cr, .slice qc f.clock.length cc, u1])
  case atStart => exact ⟨0, .slice none 0 0, by omega, rfl, Bq.refl _ _, OwnR.nil _ _ _ _, hq0⟩
  case round =>
    obtain ⟨k, u1, hkg, rfl, hbq, hown, hbox⟩ := hrel
    have hbwr := hbq.toBw hbA hlep
    have hpr := hp0.blk (hbq.block fb hp0.lt hne0)
    have p5 := hpr.c 5 _ rfl
    have b0 := hbox.c 0 _ rfl; have b1 := hbox.c 1 _ rfl; have b2 := hbox.c 2 _ rfl; have b3 := hbox.c 3 _ rfl; have b4 := hbox.c 4 _ rfl; have b5 := hbox.c 5 _ rfl
    by_cases hk : k = f.files.length
    · subst hk
      have hrr := hr0.blk (hbq.block rb hr0.lt hne1)
      have z0 := hrr.c 0 _ rfl; have z1 := hrr.c 1 _ rfl; have z2 := hrr.c 2 _ rfl; have z3 := hrr.c 3 _ rfl; have z4 := hrr.c 4 _ rfl; have z5 := hrr.c 5 _ rfl
      have y0 := hrr.f 0 (by simp); have y1 := hrr.f 1 (by simp); have y2 := hrr.f 2 (by simp); have y3 := hrr.f 3 (by simp); have y4 := hrr.f 4 (by simp); have y5 := hrr.f 5 (by simp)
      rw [List.take_length, show us.take f.files.length = us by rw [← hus, List.take_length]] at hown
      have hrl := hrr.lt
      have hrA := hr0.lt
      have hQ : Bq rb wr ((((((wr.setCell ⟨rb, 0, none⟩ (.slice qa f.args.length ca)).setCell ⟨rb, 1, none⟩ (.slice qi f.input.length ci)).setCell ⟨rb, 2, none⟩ (.slice qs f.short.length cs)).setCell ⟨rb, 3, none⟩ (.slice qr f.random.length cr)).setCell ⟨rb, 4, none⟩ (.slice qc f.clock.length cc)).setCell ⟨rb, 5, none⟩ u1) := ((((((Bq.refl _ wr).set 0 _).set 1 _).set 2 _).set 3 _).set 4 _).set 5 _
      have hB := hQ.toBw hbwr hler
      have hfin : Hid (IsFd ((((((wr.setCell ⟨rb, 0, none⟩ (.slice qa f.args.length ca)).setCell ⟨rb, 1, none⟩ (.slice qi f.input.length ci)).setCell ⟨rb, 2, none⟩ (.slice qs f.short.length cs)).setCell ⟨rb, 3, none⟩ (.slice qr f.random.length cr)).setCell ⟨rb, 4, none⟩ (.slice qc f.clock.length cc)).setCell ⟨rb, 5, none⟩ u1) (.agg #[.slice qa f.args.length ca, .slice qi f.input.length ci, .slice qs f.short.length cs, .slice qr f.random.length cr, .slice qc f.clock.length cc, u1]) f ∧ FlU W0.heap.size ((((((wr.setCell ⟨rb, 0, none⟩ (.slice qa f.args.length ca)).setCell ⟨rb, 1, none⟩ (.slice qi f.input.length ci)).setCell ⟨rb, 2, none⟩ (.slice qs f.short.length cs)).setCell ⟨rb, 3, none⟩ (.slice qr f.random.length cr)).setCell ⟨rb, 4, none⟩ (.slice qc f.clock.length cc)).setCell ⟨rb, 5, none⟩ u1) u1 f.files ∧ Bw w ((((((wr.setCell ⟨rb, 0, none⟩ (.slice qa f.args.length ca)).setCell ⟨rb, 1, none⟩ (.slice qi f.input.length ci)).setCell ⟨rb, 2, none⟩ (.slice qs f.short.length cs)).setCell ⟨rb, 3, none⟩ (.slice qr f.random.length cr)).setCell ⟨rb, 4, none⟩ (.slice qc f.clock.length cc)).setCell ⟨rb, 5, none⟩ u1) ∧ ∀ q k c, u1 = .slice (some q) k c → 0 < k → w.heap.size ≤ q.block) :=
        ⟨⟨_, _, _, _, _, _, rfl, RdR.bw HA hB, Rd8.bw HI hB, RdR.bw HS hB, Rd8.bw HR hB, RdR.bw HC hB, ⟨us, hus, RdR.q hown.rd hQ (fun q n c e hn => by have := (hown.far q n c e hn); omega), fun i x u a b => (hru i x u a b).bw hB, hf8⟩, hwf⟩, ⟨us, hus, RdR.q hown.rd hQ (fun q n c e hn => by have := (hown.far q n c e hn); omega), fun i x u a b => (hru i x u a b).bw hB, HLU⟩, hB, fun q n c e hn => by have := (hown.far q n c e hn); have := hbA.size; omega⟩
      obtain ⟨q1', c1', rfl, -⟩ := RdR.form hown.rd
      clear hQ hB hown hbox hpr hrr HA HI HS HR HC hcell hru
      go_wp2_with fail
      (try simp only [Exit.inBlock, Exit.then]); refine bodyPost_ret (by simp [results, Try.results8, go_sem, z0, z1, z2, z3, z4, z5]; try rfl) rfl ?_
      exact ⟨_, rfl, hfin⟩
    · have hkl : k < f.files.length := by omega
      have hki : (k : Int) < (f.files.length : Int) := by omega
      obtain ⟨x, hx, -⟩ := dropAt hkl
      obtain ⟨b, o, qx, cx, rfl, hb, c0, c1, hu⟩ := hcell k x hx
      have HSX : Hid (∀ X, Bq pb wA X → (X.cell? ⟨fb, 5, none⟩ = some (.slice (some ⟨b, o, none⟩) f.files.length cf) ∧ X.cell? ⟨b, o + k * 2, none⟩ = some (.string x.name) ∧ X.cell? ⟨b, o + k * 2 + 1, none⟩ = some (.slice qx x.data.length cx))) := fun X hX => ⟨hX.keep (hp0.c 5 _ rfl) hne0, (hX.toBw hbA hlep).keep c0, (hX.toBw hbA hlep).keep c1⟩
      replace c0 := hbwr.keep c0
      replace c1 := hbwr.keep c1
      have hct := Fee.cells_take hus hx hu
      have b5f := hbox.f 5 (by simp)
      have b5a := fun o => ((Bw.refl wr).alloc o).keep b5
      have hbwd : Bw wr wr.drew := (Bw.refl wr).drew
      obtain ⟨v6, w6, hr6, ho6, hq6, hpb6⟩ := appQ (ty := 36) infoFl Try.underlying36 rfl (by omega) (by omega) (OwnR.bw hown hbwd) (hbq.bw hbwd) hpl3 1 (Fee.flC x (.slice qx x.data.length cx)) rfl (fun y hy => by simp [Fee.flC] at hy; rcases hy with rfl | rfl <;> rfl) (by omega)
      rw [← hct] at ho6
      obtain ⟨g6, cp6, rfl⟩ := OwnR.form ho6 (by omega)
      have hr7 : (Builtin.append_ #[36, 36] 36 #[u1, .slice (some ⟨wr.heap.size, 0, none⟩) 1 1]).run Try.prog (wr.drew.alloc (.cells #[.string x.name, .slice qx x.data.length cx] 75)) = .ok (.slice (some ⟨g6, 0, none⟩) (k + 1) cp6) w6 := hr6
      have hbox6 := (hbox.bw hbwd).blk hpb6
      have e5 := hbox6.c 5 _ rfl; have e5f := hbox6.f 5 (by simp)
      clear hr6 hx hu hct hru hcell
      go_wp2_with fail
      refine wp_region_held_drew (S := fun X => X.cell? ⟨fb, 5, none⟩ = some (.slice (some ⟨b, o, none⟩) f.files.length cf) ∧ X.cell? ⟨b, o + k * 2, none⟩ = some (.string x.name) ∧ X.cell? ⟨b, o + k * 2 + 1, none⟩ = some (.slice qx x.data.length cx)) (by kernel_rfl) ((show ∀ X, _ → _ from HSX) _ (hbq.bw hbwd)) (fun hHeld => ?_)
      refine wpAnyH_take (i := 0) (oi := ⟨some 23, _, _, _, _, _⟩) (v := ?_) rfl (by kernel_rfl) (by kernel_rfl) (by kernel_rfl) (fun _ _ _ h => h) (Or.inl ⟨by rfl, ?_⟩) (by assumption) ?_; (rotate_left 1); (focus (intro wz hSw; (try dsimp only at hSw); go_simp; try (with_reducible rfl))); simp only [Act.put, List.setIfInBounds_toArray, List.set_cons_zero, List.set_cons_succ]
      refine wpAnyH_take (i := 2) (oi := ⟨some 25, _, _, _, _, _⟩) (v := ?_) rfl (by kernel_rfl) (by kernel_rfl) (by kernel_rfl) (fun _ _ _ h => h) (Or.inl ⟨by rfl, ?_⟩) (by assumption) ?_; (rotate_left 1); (focus (intro wz hSw; (try dsimp only at hSw); go_simp; try (with_reducible rfl))); simp only [Act.put, List.setIfInBounds_toArray, List.set_cons_zero, List.set_cons_succ]
      refine wpAnyH_take (i := 3) (oi := ⟨some 26, _, _, _, _, _⟩) (v := ?_) rfl (by kernel_rfl) (by kernel_rfl) (by kernel_rfl) (fun _ _ _ h => h) (Or.inl ⟨by rfl, ?_⟩) (by assumption) ?_; (rotate_left 1); (focus (intro wz hSw; (try dsimp only at hSw); go_simp; try (with_reducible rfl))); simp only [Act.put, List.setIfInBounds_toArray, List.set_cons_zero, List.set_cons_succ]
      refine wpAnyH_take (i := 4) (oi := ⟨some 27, _, _, _, _, _⟩) (v := ?_) rfl (by kernel_rfl) (by kernel_rfl) (by kernel_rfl) (fun _ _ _ h => h) (Or.inl ⟨by rfl, ?_⟩) (by assumption) ?_; (rotate_left 1); (focus (intro wz hSw; (try dsimp only at hSw); go_simp; try (with_reducible rfl))); simp only [Act.put, List.setIfInBounds_toArray, List.set_cons_zero, List.set_cons_succ]
      refine wpAnyH_take (i := 5) (oi := ⟨some 28, _, _, _, _, _⟩) (v := ?_) rfl (by kernel_rfl) (by kernel_rfl) (by kernel_rfl) (fun _ _ _ h => h) (Or.inl ⟨by rfl, ?_⟩) (by assumption) ?_; (rotate_left 1); (focus (intro wz hSw; (try dsimp only at hSw); go_simp; try (with_reducible rfl))); simp only [Act.put, List.setIfInBounds_toArray, List.set_cons_zero, List.set_cons_succ]
      refine wpAnyH_take (i := 6) (oi := ⟨some 29, _, _, _, _, _⟩) (v := ?_) rfl (by kernel_rfl) (by kernel_rfl) (by kernel_rfl) (fun _ _ _ h => h) (Or.inl ⟨by rfl, ?_⟩) (by assumption) ?_; (rotate_left 1); (focus (intro wz hSw; (try dsimp only at hSw); go_simp; try (with_reducible rfl))); simp only [Act.put, List.setIfInBounds_toArray, List.set_cons_zero, List.set_cons_succ]
      refine wpAnyH_take (i := 7) (oi := ⟨some 30, _, _, _, _, _⟩) (v := ?_) rfl (by kernel_rfl) (by kernel_rfl) (by kernel_rfl) (fun _ _ _ h => h) (Or.inl ⟨by rfl, ?_⟩) (by assumption) ?_; (rotate_left 1); (focus (intro wz hSw; (try dsimp only at hSw); go_simp; try (with_reducible rfl))); simp only [Act.put, List.setIfInBounds_toArray, List.set_cons_zero, List.set_cons_succ]
      refine wpAnyH_take (i := 8) (oi := ⟨some 31, _, _, _, _, _⟩) (v := ?_) rfl (by kernel_rfl) (by kernel_rfl) (by kernel_rfl) (fun _ _ _ h => h) (Or.inl ⟨by rfl, ?_⟩) (by assumption) ?_; (rotate_left 1); (focus (intro wz hSw; (try dsimp only at hSw); go_simp; try (with_reducible rfl))); simp only [Act.put, List.setIfInBounds_toArray, List.set_cons_zero, List.set_cons_succ]
      refine wpAnyH_take (i := 9) (oi := ⟨some 32, _, _, _, _, _⟩) (v := ?_) rfl (by kernel_rfl) (by kernel_rfl) (by kernel_rfl) (fun _ _ _ h => h) (Or.inl ⟨by rfl, ?_⟩) (by assumption) ?_; (rotate_left 1); (focus (intro wz hSw; (try dsimp only at hSw); go_simp; try (with_reducible rfl))); simp only [Act.put, List.setIfInBounds_toArray, List.set_cons_zero, List.set_cons_succ]
      refine wpAnyH_take (i := 10) (oi := ⟨some 33, _, _, _, _, _⟩) (v := ?_) rfl (by kernel_rfl) (by kernel_rfl) (by kernel_rfl) (fun _ _ _ h => h) (Or.inl ⟨by rfl, ?_⟩) (by assumption) ?_; (rotate_left 1); (focus (intro wz hSw; (try dsimp only at hSw); go_simp; try (with_reducible rfl))); simp only [Act.put, List.setIfInBounds_toArray, List.set_cons_zero, List.set_cons_succ]
      refine wpAnyH_take (i := 11) (oi := ⟨some 34, _, _, _, _, _⟩) (v := ?_) rfl (by kernel_rfl) (by kernel_rfl) (by kernel_rfl) (fun _ _ _ h => h) (Or.inl ⟨by rfl, ?_⟩) (by assumption) ?_; (rotate_left 1); (focus (intro wz hSw; (try dsimp only at hSw); go_simp; try (with_reducible rfl))); simp only [Act.put, List.setIfInBounds_toArray, List.set_cons_zero, List.set_cons_succ]
      refine wpAnyH_take (i := 12) (oi := ⟨some 35, _, _, _, _, _⟩) (v := ?_) rfl (by kernel_rfl) (by kernel_rfl) (by kernel_rfl) (fun _ _ _ h => h) (Or.inl ⟨by rfl, ?_⟩) (by assumption) ?_; (rotate_left 1); (focus (intro wz hSw; (try dsimp only at hSw); go_simp; try (with_reducible rfl))); simp only [Act.put, List.setIfInBounds_toArray, List.set_cons_zero, List.set_cons_succ]
      refine wpAnyH_take (i := 13) (oi := ⟨some 36, _, _, _, _, _⟩) (v := ?_) rfl (by kernel_rfl) (by kernel_rfl) (by kernel_rfl) (fun _ _ _ h => h) (Or.inl ⟨by rfl, ?_⟩) (by assumption) ?_; (rotate_left 1); (focus (intro wz hSw; (try dsimp only at hSw); go_simp; try (with_reducible rfl))); simp only [Act.put, List.setIfInBounds_toArray, List.set_cons_zero, List.set_cons_succ]
      refine wpAnyH_take (i := 14) (oi := ⟨some 37, _, _, _, _, _⟩) (v := ?_) rfl (by kernel_rfl) (by kernel_rfl) (by kernel_rfl) (fun _ _ _ h => h) (Or.inl ⟨by rfl, ?_⟩) (by assumption) ?_; (rotate_left 1); (focus (intro wz hSw; (try dsimp only at hSw); go_simp; try (with_reducible rfl))); simp only [Act.put, List.setIfInBounds_toArray, List.set_cons_zero, List.set_cons_succ]
      refine wpAnyH_ready (rs := [1, 15]) (by kernel_rfl) (by simp) ?_
      refine AllReadyH.cons rfl (fun K hK => ?_) (AllReadyH.cons rfl (fun K hK => ?_) AllReadyH.nil)
      · go_simp; (try clear hHeld); refine hK.out _ _ ?_ (fun hHeld => ?_); focus (exact (show ∀ X, _ → _ from HSX) _ (by first | exact hq6 | exact hq6.set _ _ | exact hbq.bw (by (repeat' (first | (with_reducible assumption) | (with_reducible exact Bw.refl _) | (with_reducible refine Bw.alloc ?_ _) | (with_reducible refine Bw.drew ?_) | (with_reducible refine Bw.drewN ?_ _) | (with_reducible refine Bw.setCell ?_ ?_ _) | exact Nat.le_refl _)))))
        refine wpAnyH_ready (rs := [15]) (by kernel_rfl) (by simp) ?_; refine AllReadyH.cons rfl (fun K hK => ?_) AllReadyH.nil; go_simp; (try clear hHeld); refine hK.out _ _ ?_ (fun hHeld => ?_); focus (exact (show ∀ X, _ → _ from HSX) _ (by first | exact hq6 | exact hq6.set _ _ | exact hbq.bw (by (repeat' (first | (with_reducible assumption) | (with_reducible exact Bw.refl _) | (with_reducible refine Bw.alloc ?_ _) | (with_reducible refine Bw.drew ?_) | (with_reducible refine Bw.drewN ?_ _) | (with_reducible refine Bw.setCell ?_ ?_ _) | exact Nat.le_refl _)))))
        refine wpAnyH_ready (rs := [16]) (by kernel_rfl) (by simp) ?_; refine AllReadyH.cons (o := ⟨some 39, _, _, _, _, _⟩) rfl (fun K hK => ?_) AllReadyH.nil; refine stepApp rfl _ _ 36 rfl rfl rfl hr7 ?_; (try clear hHeld); refine hK.out _ _ ?_ (fun hHeld => ?_); focus (exact (show ∀ X, _ → _ from HSX) _ (by first | exact hq6 | exact hq6.set _ _ | exact hbq.bw (by (repeat' (first | (with_reducible assumption) | (with_reducible exact Bw.refl _) | (with_reducible refine Bw.alloc ?_ _) | (with_reducible refine Bw.drew ?_) | (with_reducible refine Bw.drewN ?_ _) | (with_reducible refine Bw.setCell ?_ ?_ _) | exact Nat.le_refl _)))))
        simp only [Act.put, List.setIfInBounds_toArray, List.set_cons_zero, List.set_cons_succ]
        refine wpAnyH_take (i := 17) (oi := ⟨some 40, _, _, _, _, _⟩) (v := ?_) rfl (by kernel_rfl) (by kernel_rfl) (by kernel_rfl) (fun _ _ _ h => h) (Or.inl ⟨by rfl, ?_⟩) (by assumption) ?_; (rotate_left 1); (focus (intro wz hSw; (try dsimp only at hSw); go_simp; try (with_reducible rfl))); simp only [Act.put, List.setIfInBounds_toArray, List.set_cons_zero, List.set_cons_succ]
        refine wpAnyH_ready (rs := [18]) (by kernel_rfl) (by simp) ?_; refine AllReadyH.cons rfl (fun K hK => ?_) AllReadyH.nil; go_simp; (try clear hHeld); refine hK.out _ _ ?_ (fun hHeld => ?_); focus (exact (show ∀ X, _ → _ from HSX) _ (by first | exact hq6 | exact hq6.set _ _ | exact hbq.bw (by (repeat' (first | (with_reducible assumption) | (with_reducible exact Bw.refl _) | (with_reducible refine Bw.alloc ?_ _) | (with_reducible refine Bw.drew ?_) | (with_reducible refine Bw.drewN ?_ _) | (with_reducible refine Bw.setCell ?_ ?_ _) | exact Nat.le_refl _)))))
        refine wpAnyH_done (by kernel_rfl) ?_ _
        go_wp2_with fail
        go_roundg (f.files.length - (k + 1))
        case measure => omega
        case rel => exact ⟨k + 1, _, by omega, by simp, hq6.set _ _, ho6.set hpl3 _ _, hbox6.set 5 (by simp) _⟩
      · go_simp; (try clear hHeld); refine hK.out _ _ ?_ (fun hHeld => ?_); focus (exact (show ∀ X, _ → _ from HSX) _ (by first | exact hq6 | exact hq6.set _ _ | exact hbq.bw (by (repeat' (first | (with_reducible assumption) | (with_reducible exact Bw.refl _) | (with_reducible refine Bw.alloc ?_ _) | (with_reducible refine Bw.drew ?_) | (with_reducible refine Bw.drewN ?_ _) | (with_reducible refine Bw.setCell ?_ ?_ _) | exact Nat.le_refl _)))))
        refine wpAnyH_ready (rs := [1]) (by kernel_rfl) (by simp) ?_; refine AllReadyH.cons rfl (fun K hK => ?_) AllReadyH.nil; go_simp; (try clear hHeld); refine hK.out _ _ ?_ (fun hHeld => ?_); focus (exact (show ∀ X, _ → _ from HSX) _ (by first | exact hq6 | exact hq6.set _ _ | exact hbq.bw (by (repeat' (first | (with_reducible assumption) | (with_reducible exact Bw.refl _) | (with_reducible refine Bw.alloc ?_ _) | (with_reducible refine Bw.drew ?_) | (with_reducible refine Bw.drewN ?_ _) | (with_reducible refine Bw.setCell ?_ ?_ _) | exact Nat.le_refl _)))))
        refine wpAnyH_ready (rs := [16]) (by kernel_rfl) (by simp) ?_; refine AllReadyH.cons (o := ⟨some 39, _, _, _, _, _⟩) rfl (fun K hK => ?_) AllReadyH.nil; refine stepApp rfl _ _ 36 rfl rfl rfl hr7 ?_; (try clear hHeld); refine hK.out _ _ ?_ (fun hHeld => ?_); focus (exact (show ∀ X, _ → _ from HSX) _ (by first | exact hq6 | exact hq6.set _ _ | exact hbq.bw (by (repeat' (first | (with_reducible assumption) | (with_reducible exact Bw.refl _) | (with_reducible refine Bw.alloc ?_ _) | (with_reducible refine Bw.drew ?_) | (with_reducible refine Bw.drewN ?_ _) | (with_reducible refine Bw.setCell ?_ ?_ _) | exact Nat.le_refl _)))))
        simp only [Act.put, List.setIfInBounds_toArray, List.set_cons_zero, List.set_cons_succ]
        refine wpAnyH_take (i := 17) (oi := ⟨some 40, _, _, _, _, _⟩) (v := ?_) rfl (by kernel_rfl) (by kernel_rfl) (by kernel_rfl) (fun _ _ _ h => h) (Or.inl ⟨by rfl, ?_⟩) (by assumption) ?_; (rotate_left 1); (focus (intro wz hSw; (try dsimp only at hSw); go_simp; try (with_reducible rfl))); simp only [Act.put, List.setIfInBounds_toArray, List.set_cons_zero, List.set_cons_succ]
        refine wpAnyH_ready (rs := [18]) (by kernel_rfl) (by simp) ?_; refine AllReadyH.cons rfl (fun K hK => ?_) AllReadyH.nil; go_simp; (try clear hHeld); refine hK.out _ _ ?_ (fun hHeld => ?_); focus (exact (show ∀ X, _ → _ from HSX) _ (by first | exact hq6 | exact hq6.set _ _ | exact hbq.bw (by (repeat' (first | (with_reducible assumption) | (with_reducible exact Bw.refl _) | (with_reducible refine Bw.alloc ?_ _) | (with_reducible refine Bw.drew ?_) | (with_reducible refine Bw.drewN ?_ _) | (with_reducible refine Bw.setCell ?_ ?_ _) | exact Nat.le_refl _)))))
        refine wpAnyH_done (by kernel_rfl) ?_ _
        go_wp2_with fail
        go_roundg (f.files.length - (k + 1))
        case measure => omega
        case rel => exact ⟨k + 1, _, by omega, by simp, hq6.set _ _, ho6.set hpl3 _ _, hbox6.set 5 (by simp) _⟩
end Go.Proofs.Ytncidjkkngbclaa
namespace Go.Proofs.Ytncidjkkngbclaa
open Go.ChangeShapes Go.WideShapes Go.ChangeAt Go.RowKit

theorem Fee.from_uq (l : List Fee.Fl) : ∀ (r : List Fee.Fl) (k : Nat), l.drop k = r → Fee.filesFrom l k r = true → ∀ (i j : Nat) x y, k ≤ j → i < j → l[i]? = some x → l[j]? = some y → x.name.toList ≠ y.name.toList := by
  intro r
  induction r with
  | nil =>
    intro k hd _ i j x y hk _ _ hj
    have h1 := congrArg List.length hd
    have h2 := (List.getElem?_eq_some_iff.1 hj).1
    simp at h1
    omega
  | cons a r ih =>
    intro k hd h i j x y hk hij hi hj
    unfold Fee.filesFrom at h
    simp only [Bool.and_eq_true] at h
    by_cases hkj : j = k
    · subst hkj
      have ha : l[j]? = some a := by
        have := congrArg (fun z : List Fee.Fl => z[0]?) hd
        simpa using this
      rw [ha] at hj
      obtain rfl := Option.some.inj hj
      have h2 := h.1.2
      intro e
      have : Fee.has (l.take j) a.name = true := by
        unfold Fee.has
        rw [List.any_eq_true]
        exact ⟨x, List.mem_of_getElem? (i := i) (by rw [List.getElem?_take, if_pos hij]; exact hi), by simpa using e⟩
      rw [this] at h2
      simp at h2
    · refine ih (k + 1) ?_ h.2 i j x y (by omega) hij hi hj
      rw [← List.drop_drop, hd]; rfl
theorem Fee.good_uq {f : Fee.Fd} (h : Fee.good f = true) : ∀ (i j : Nat) x y, f.files[i]? = some x → f.files[j]? = some y → x.name.toList = y.name.toList → i = j := by
  unfold Fee.good Fee.filesOk at h
  simp only [Bool.and_eq_true] at h
  have hf := Fee.from_uq f.files f.files 0 rfl h.2.2
  intro i j x y hi hj e
  rcases Nat.lt_trichotomy i j with hl | hl | hl
  · exact absurd e (hf i j x y (Nat.zero_le _) hl hi hj)
  · exact hl
  · exact absurd e.symm (hf j i y x (Nat.zero_le _) hl hj hi)
theorem Fil.new_op (f : Fee.Fd) : (∀ fd : Nat, fd ∈ [0, 1, 2] ↔ ∃ h, (Fil.new f).op[fd]? = some h ∧ h.kind ≠ 0) ∧ [0, 1, 2].length = Fil.cnt (Fil.new f).op ∧ [0, 1, 2].flatMap (Fil.eC (Fil.new f).op) = [.int .i64 0, .int .i64 (-1), .int .i64 0, .int .i64 1, .int .i64 (-2), .int .i64 0, .int .i64 2, .int .i64 (-2), .int .i64 0] := by
  have ho : (Fil.new f).op = [⟨1, 0, 0⟩, ⟨2, 0, 0⟩, ⟨2, 0, 0⟩] ++ List.replicate 13 Fil.no := rfl
  rw [ho]
  refine ⟨fun fd => ?_, by decide +kernel, by rfl⟩
  match fd with
  | 0 => simp
  | 1 => simp
  | 2 => simp
  | n + 3 =>
    constructor
    · intro h; simp at h
    · rintro ⟨h, h1, h2⟩
      rw [List.getElem?_append_right (by simp)] at h1
      have := List.eq_of_mem_replicate (List.mem_of_getElem? h1)
      rw [this] at h2
      exact absurd rfl h2
theorem InB.nil (B : Nat → Prop) : InB B (.slice none 0 0) := fun _ _ _ e => by simp at e
set_option maxHeartbeats 2000000 in
set_option maxRecDepth 100000 in
theorem rBeg_c (va vi vs vr vc vf : Value) (f : Fee.Fd) (w : World) (hv : IsFd w (.agg #[va, vi, vs, vr, vc, vf]) f) (hz : Fee.Sz f) : Calls Try.prog 26 #[.agg #[va, vi, vs, vr, vc, vf]] w fun e w' => ∃ rb, e = .returned (.pointer (some ⟨rb, 0, none⟩)) ∧ w.heap.size ≤ rb ∧ Bw w w' ∧ Box w' rb ((if Fee.good f = true then [va, vi, vs, vr, vc, vf] else [.slice none 0 0, .slice none 0 0, .slice none 0 0, .slice none 0 0, .slice none 0 0, .slice none 0 0]) ++ [.int .i64 0, .int .i64 0, .int .i64 0]) := by
  have hG := fun X (g : Bw w X) => rMay_c _ f X (hv.bw g) hz
  obtain ⟨va', vi', vs', vr', vc', vf', hve, ha, hi, hs, hr, hc, hf, -⟩ := hv
  simp at hve
  obtain ⟨rfl, rfl, rfl, rfl, rfl, rfl⟩ := hve
  obtain ⟨qa, ca, rfl, -⟩ := RdR.form ha
  obtain ⟨qi, ci, rfl, -⟩ := Rd8.open hi
  obtain ⟨qf, cf, rfl, -⟩ := hf.form
  have HS : Hid _ := hs
  have HR : Hid _ := hr
  have HC : Hid _ := hc
  have LS : Hid _ := RdR.lo hs
  have LR : Hid _ := RdR.lo hr
  have LC : Hid _ := RdR.lo hc
  obtain ⟨qr, cr, rfl, -⟩ := Rd8.open hr
  obtain ⟨qc, cc, rfl, -⟩ := RdR.form hc
  obtain ⟨qs, cs, rfl, -⟩ := RdR.form hs
  clear ha hi hs hr hc hf hz
  have hBx := Box.new w [.slice qa f.args.length ca, .slice qi f.input.length ci, .slice qs f.short.length cs, .slice qr f.random.length cr, .slice qc f.clock.length cc, .slice qf f.files.length cf] 38
  cases hgd : Fee.good f with
  | false =>
    rw [if_neg (by decide)]
    simp only [hgd] at hG
    go_enter Try.func26, Try.ntmps26
    go_wp2_with fail
    refine (hG _ ((Bw.refl _).alloc _)).mono ?_
    rintro e w2 ⟨rfl, h2⟩
    have hB2 := hBx.bw h2
    have hbB : Bw w w2 := ((Bw.refl w).alloc _).trans h2
    have hlt := hB2.lt
    obtain ⟨fb, hfb⟩ : ∃ fb, w.heap.size = fb := ⟨_, rfl⟩
    rw [hfb] at hB2 hlt ⊢
    have z0 := hB2.c 0 _ rfl; have z1 := hB2.c 1 _ rfl; have z2 := hB2.c 2 _ rfl; have z3 := hB2.c 3 _ rfl; have z4 := hB2.c 4 _ rfl; have z5 := hB2.c 5 _ rfl
    have y0 := hB2.f 0 (by simp); have y1 := hB2.f 1 (by simp); have y2 := hB2.f 2 (by simp); have y3 := hB2.f 3 (by simp); have y4 := hB2.f 4 (by simp); have y5 := hB2.f 5 (by simp)
    clear hG hBx hB2 h2
    go_wp2_with fail
    go_returns
    have hsz : ((((((w2.setCell ⟨fb, 0, none⟩ (.slice none 0 0)).setCell ⟨fb, 1, none⟩ (.slice none 0 0)).setCell ⟨fb, 2, none⟩ (.slice none 0 0)).setCell ⟨fb, 3, none⟩ (.slice none 0 0)).setCell ⟨fb, 4, none⟩ (.slice none 0 0)).setCell ⟨fb, 5, none⟩ (.slice none 0 0)).heap.size = w2.heap.size := by simp [World.setCell]
    have hX := Box.new ((((((w2.setCell ⟨fb, 0, none⟩ (.slice none 0 0)).setCell ⟨fb, 1, none⟩ (.slice none 0 0)).setCell ⟨fb, 2, none⟩ (.slice none 0 0)).setCell ⟨fb, 3, none⟩ (.slice none 0 0)).setCell ⟨fb, 4, none⟩ (.slice none 0 0)).setCell ⟨fb, 5, none⟩ (.slice none 0 0)) [.slice none 0 0, .slice none 0 0, .slice none 0 0, .slice none 0 0, .slice none 0 0, .slice none 0 0, .int .i64 0, .int .i64 0, .int .i64 0] 55
    have hBf : Bw w ((((((w2.setCell ⟨fb, 0, none⟩ (.slice none 0 0)).setCell ⟨fb, 1, none⟩ (.slice none 0 0)).setCell ⟨fb, 2, none⟩ (.slice none 0 0)).setCell ⟨fb, 3, none⟩ (.slice none 0 0)).setCell ⟨fb, 4, none⟩ (.slice none 0 0)).setCell ⟨fb, 5, none⟩ (.slice none 0 0)) := (((((hbB.setCell (by rw [hfb]; exact Nat.le_refl _) _).setCell (by rw [hfb]; exact Nat.le_refl _) _).setCell (by rw [hfb]; exact Nat.le_refl _) _).setCell (by rw [hfb]; exact Nat.le_refl _) _).setCell (by rw [hfb]; exact Nat.le_refl _) _).setCell (by rw [hfb]; exact Nat.le_refl _) _
    rw [hsz] at hX
    exact ⟨_, rfl, hfb ▸ hbB.size, hBf.alloc _, hX⟩
  | true =>
    rw [if_pos rfl]
    simp only [hgd] at hG
    go_enter Try.func26, Try.ntmps26
    go_wp2_with fail
    refine (hG _ ((Bw.refl _).alloc _)).mono ?_
    rintro e w2 ⟨rfl, h2⟩
    have hB2 := hBx.bw h2
    have hbB : Bw w w2 := ((Bw.refl w).alloc _).trans h2
    have z0 := hB2.c 0 _ rfl; have z1 := hB2.c 1 _ rfl; have z2 := hB2.c 2 _ rfl; have z3 := hB2.c 3 _ rfl; have z4 := hB2.c 4 _ rfl; have z5 := hB2.c 5 _ rfl
    clear hG hBx hB2 h2
    go_wp2_with fail
    go_returns
    have hX := Box.new w2 [.slice qa f.args.length ca, .slice qi f.input.length ci, .slice qs f.short.length cs, .slice qr f.random.length cr, .slice qc f.clock.length cc, .slice qf f.files.length cf, .int .i64 0, .int .i64 0, .int .i64 0] 55
    have gA : Bw w (w2.alloc (.cells #[.slice qa f.args.length ca, .slice qi f.input.length ci, .slice qs f.short.length cs, .slice qr f.random.length cr, .slice qc f.clock.length cc, .slice qf f.files.length cf, .int .i64 0, .int .i64 0, .int .i64 0] 55)) := hbB.alloc _
    exact ⟨_, rfl, hbB.size, gA, hX⟩
/-- The document's own files, new. -/
theorem RS.new {w w2 w4 : World} {ru : Nat} {va vi vs vr vc vf : Value} {f : Fee.Fd} {n : Nat} {B : Nat → Prop} (hv : IsFd w (.agg #[va, vi, vs, vr, vc, vf]) f) (hu : FlU n w vf f.files) (hB : InB B vs ∧ InB B vr ∧ InB B vc ∧ InB B vi ∧ InB B vf) (hn : ∀ i, i < n → B i) (hlo : ∀ i, B i → i < w.heap.size)
    (hru : w.heap.size ≤ ru) (hb : Bw w w2) (hX : Box w2 ru ((if Fee.good f = true then [va, vi, vs, vr, vc, vf] else [.slice none 0 0, .slice none 0 0, .slice none 0 0, .slice none 0 0, .slice none 0 0, .slice none 0 0]) ++ [.int .i64 0, .int .i64 0, .int .i64 0]))
    (hw4 : w4 = (w2.alloc (.cells #[.int .i64 0, .int .i64 (-1), .int .i64 0, .int .i64 1, .int .i64 (-2), .int .i64 0, .int .i64 2, .int .i64 (-2), .int .i64 0] 74)).alloc (.cells #[.pointer (some ⟨ru, 0, none⟩), .slice (some ⟨w2.heap.size, 0, none⟩) 3 3, .slice none 0 0, .slice none 0 0] 60)) :
    ∃ G, RS w w4 (w2.heap.size + 1) G B (Fil.new f) [0, 1, 2] ∧ Bw w w4 ∧ ∀ i, G i → w.heap.size ≤ i := by
  have hrl : ru < w2.heap.size := by
    by_cases hg : Fee.good f = true
    · rw [if_pos hg, List.cons_append] at hX; exact Box.lt hX
    · rw [if_neg hg, List.cons_append] at hX; exact Box.lt hX
  have hs2 := hb.size
  have hL := Box.new w2 [.int .i64 0, .int .i64 (-1), .int .i64 0, .int .i64 1, .int .i64 (-2), .int .i64 0, .int .i64 2, .int .i64 (-2), .int .i64 0] 74
  have hR := Box.new (w2.alloc (.cells #[.int .i64 0, .int .i64 (-1), .int .i64 0, .int .i64 1, .int .i64 (-2), .int .i64 0, .int .i64 2, .int .i64 (-2), .int .i64 0] 74)) [.pointer (some ⟨ru, 0, none⟩), .slice (some ⟨w2.heap.size, 0, none⟩) 3 3, .slice none 0 0, .slice none 0 0] 60
  have h24 : Bw w2 w4 := by rw [hw4]; exact ((Bw.refl _).alloc _).alloc _
  have h34 := hL.bw (((Bw.refl _).alloc (.cells #[.pointer (some ⟨ru, 0, none⟩), .slice (some ⟨w2.heap.size, 0, none⟩) 3 3, .slice none 0 0, .slice none 0 0] 60)))
  simp only [World.size_alloc] at hR
  have hsz4 : w4.heap.size = w2.heap.size + 1 + 1 := by rw [hw4]; simp [World.size_alloc]
  have hL4 : Box w4 w2.heap.size [.int .i64 0, .int .i64 (-1), .int .i64 0, .int .i64 1, .int .i64 (-2), .int .i64 0, .int .i64 2, .int .i64 (-2), .int .i64 0] := by rw [hw4]; exact h34
  have hR4 : Box w4 (w2.heap.size + 1) [.pointer (some ⟨ru, 0, none⟩), .slice (some ⟨w2.heap.size, 0, none⟩) 3 3, .slice none 0 0, .slice none 0 0] := by rw [hw4]; exact hR
  have hX4 := hX.blk (Below.block h24 ru hrl)
  have hbb := hb.trans h24
  clear hL hR h34 hX hw4
  obtain ⟨o1, o2, o3⟩ := Fil.new_op f
  obtain ⟨va', vi', vs', vr', vc', vf', hve, ha, hi, hs, hr, hc, hf, hwf⟩ := hv
  simp at hve
  obtain ⟨rfl, rfl, rfl, rfl, rfl, rfl⟩ := hve
  have hok : Fil.Ok (Fil.new f) := Fil.new_ok hwf (by obtain ⟨_, _, _, _, h⟩ := hf; exact h)
  have hLv : LvS w w4 (.slice (some ⟨w2.heap.size, 0, none⟩) 3 3) (fun i => w.heap.size ≤ i ∧ i < w4.heap.size) (w2.heap.size + 1) ru (Fil.new f).op [0, 1, 2] := by
    refine ⟨⟨_, 3, rfl, by simp, by decide, fun _ => ⟨_, rfl, by omega, by rw [o3]; exact hL4⟩⟩, fun g e => ?_⟩
    have e2 : w2.heap.size = g := by simpa [Value.ownBlock] using e
    omega
  have hnil : ∀ g, Value.ownBlock (.slice none 0 0) = some g → (w.heap.size ≤ g ∧ g < w4.heap.size) ∧ g ≠ w2.heap.size + 1 ∧ g ≠ ru ∧ Value.ownBlock (.slice (some ⟨w2.heap.size, 0, none⟩) 3 3) ≠ some g := fun g e => by simp [Value.ownBlock] at e
  refine ⟨fun i => w.heap.size ≤ i ∧ i < w4.heap.size, ?_, hbb, fun i h => h.1⟩
  by_cases hgd : Fee.good f = true
  · have hbg : Fee.beg f = f := by unfold Fee.beg; rw [if_pos hgd]
    rw [if_pos hgd] at hX4
    obtain ⟨us, k1, k2, k3, k4⟩ := hu
    obtain ⟨b1, b2, b3, b4, b5⟩ := hB
    refine ⟨ru, va, vi, vs, vr, vc, vf, _, _, _, us, f.input, f.files, hok, by unfold Fil.new; rw [hbg], Fee.good_uq hgd, hR4, hX4, ⟨Nat.zero_le _, Nat.zero_le _, Nat.zero_le _⟩, ?_, ⟨k1, RdR.bw k2 hbb, fun i x u a b => (k3 i x u a b).bw hbb⟩, ⟨b1, b2, b3, b4, b5, fun u hu q k c e hk => hn _ (k4 u hu q k c e hk)⟩, hlo, fun i h => h, ⟨⟨by omega, by omega⟩, ⟨hru, by omega⟩, by omega⟩, hLv, Own8.nil _ _, Own8.nil _ _, hnil, hnil, by decide, o1, o2⟩
    unfold Fil.new
    rw [hbg]
    exact ⟨RdR.bw hs hbb, Rd8.bw hr hbb, RdR.bw hc hbb, Rd8.bw hi hbb⟩
  · have hbg : Fee.beg f = Fee.noFd := by unfold Fee.beg; rw [if_neg hgd]
    rw [if_neg hgd] at hX4
    refine ⟨ru, _, _, _, _, _, _, _, _, _, [], [], [], hok, by unfold Fil.new; rw [hbg]; rfl, fun i j x y h => by simp at h, hR4, hX4, ⟨Nat.zero_le _, Nat.zero_le _, Nat.zero_le _⟩, ?_, ⟨rfl, RdR.nil _ _, fun i x u a => by simp at a⟩, ⟨InB.nil _, InB.nil _, InB.nil _, InB.nil _, InB.nil _, fun u hu => by simp at hu⟩, hlo, fun i h => h, ⟨⟨by omega, by omega⟩, ⟨hru, by omega⟩, by omega⟩, hLv, Own8.nil _ _, Own8.nil _ _, hnil, hnil, by decide, o1, o2⟩
    unfold Fil.new
    rw [hbg]
    exact ⟨RdR.nil _ _, RdR.nil _ _, RdR.nil _ _, RdR.nil _ _⟩
set_option maxHeartbeats 2000000 in
set_option maxRecDepth 100000 in
theorem rNew_c (va vi vs vr vc vf : Value) (f : Fee.Fd) (w : World) {n : Nat} {B : Nat → Prop} (hv : IsFd w (.agg #[va, vi, vs, vr, vc, vf]) f) (hz : Fee.Sz f) (hu : FlU n w vf f.files) (hB : InB B vs ∧ InB B vr ∧ InB B vc ∧ InB B vi ∧ InB B vf) (hn : ∀ i, i < n → B i) (hlo : ∀ i, B i → i < w.heap.size) :
    Calls Try.prog 7 #[.agg #[va, vi, vs, vr, vc, vf]] w fun e w' => ∃ rb G, e = .returned (.pointer (some ⟨rb, 0, none⟩)) ∧ RS w w' rb G B (Fil.new f) [0, 1, 2] ∧ Bw w w' ∧ (∀ i, G i → w.heap.size ≤ i) := by
  have hG := fun X (g : Bw w X) => rBeg_c va vi vs vr vc vf f X (hv.bw g) hz
  have hFin := fun (w2 w4 : World) (ru : Nat) => RS.new (w := w) (w2 := w2) (w4 := w4) (ru := ru) hv hu hB hn hlo
  have HFin : Hid _ := hFin
  clear hFin hu hB
  have hbA : Bw w (w.alloc (.cells #[va, vi, vs, vr, vc, vf] 38)) := (Bw.refl w).alloc _
  have hBx := Box.new w [va, vi, vs, vr, vc, vf] 38
  obtain ⟨va', vi', vs', vr', vc', vf', hve, ha, hi, hs, hr, hc, hf, -⟩ := hv
  simp at hve
  obtain ⟨rfl, rfl, rfl, rfl, rfl, rfl⟩ := hve
  obtain ⟨qa, ca, rfl, -⟩ := RdR.form ha
  obtain ⟨qi, ci, rfl, -⟩ := Rd8.open hi
  obtain ⟨qf, cf, rfl, -⟩ := hf.form
  obtain ⟨qr, cr, rfl, -⟩ := Rd8.open hr
  obtain ⟨qc, cc, rfl, -⟩ := RdR.form hc
  obtain ⟨qs, cs, rfl, -⟩ := RdR.form hs
  clear ha hi hs hr hc hf hz
  go_enter Try.func7, Try.ntmps7
  go_wp2_with fail
  refine (hG _ hbA).mono ?_
  rintro e w2 ⟨ru, rfl, hru, h2, hX⟩
  have HFz := (show ∀ (w2 w4 : World) (ru : Nat), _ from HFin) w2 _ ru (Nat.le_trans hbA.size hru) (hbA.trans h2) hX rfl
  clear hG hBx h2 hX hru
  go_wp2_with fail
  go_returns
  obtain ⟨G, z1, z2, z3⟩ := HFz
  exact ⟨_, G, rfl, z1, z2, z3⟩
end Go.Proofs.Ytncidjkkngbclaa
namespace Go.Proofs.Ytncidjkkngbclaa
open Go.ChangeShapes Go.WideShapes Go.ChangeAt Go.RowKit
open Go.ChangeMaps Go.Deep
set_option linter.unusedVariables false

structure Fil.Act where
  op : Int
  fd : Int
  n : Int
  off : Int
  s : ByteArray
def Fil.actC (a : Fil.Act) : List Value := [.int .i64 a.op, .int .i64 a.fd, .int .i64 a.n, .int .i32 a.off, .string a.s]
def AtS (w : World) (v : Value) (l : List Fil.Act) : Prop := RdR 5 w v l.length (l.flatMap Fil.actC) ∧ ∀ a ∈ l, -2147483648 ≤ a.off ∧ a.off ≤ 2147483647
theorem cellsI32 : Try.prog.cellsOf 21 = 1 := by kernel_rfl
theorem cells11 : Try.prog.cellsOf 41 = 5 := by kernel_rfl
theorem act11Fs : ∃ fs, Try.prog.underlying 41 = some (.struct fs) ∧ fs.toList.map (fun f => (f.type, f.offset)) = [(3, 0), (3, 1), (3, 2), (21, 3), (9, 4)] := ⟨_, Try.underlying41, rfl⟩
theorem AtS.open {w : World} {v : Value} {l : List Fil.Act} (h : AtS w v l) : ∃ q cap, v = .slice q l.length cap ∧ l.length ≤ cap ∧ cap ≤ 9223372036854775807 ∧
    ∀ (i : Nat) a, l[i]? = some a → (-2147483648 ≤ a.off ∧ a.off ≤ 2147483647) ∧ ∃ b o, q = some ⟨b, o, none⟩ ∧ b < w.heap.size ∧ w.cell? ⟨b, o + i * 5, none⟩ = some (.int .i64 a.op) ∧ w.cell? ⟨b, o + i * 5 + 1, none⟩ = some (.int .i64 a.fd) ∧ w.cell? ⟨b, o + i * 5 + 2, none⟩ = some (.int .i64 a.n) ∧ w.cell? ⟨b, o + i * 5 + 3, none⟩ = some (.int .i32 a.off) ∧ w.cell? ⟨b, o + i * 5 + 4, none⟩ = some (.string a.s) := by
  obtain ⟨⟨q, cap, h1, h2, h3, h4, h5⟩, hbd⟩ := h
  refine ⟨q, cap, h1, h2, h3, fun i a ha => ⟨hbd a (List.mem_of_getElem? ha), ?_⟩⟩
  have hi : i < l.length := (List.getElem?_eq_some_iff.1 ha).1
  obtain ⟨b, o, h6, h7, h8⟩ := h5 (by omega)
  have c : ∀ j u, (Fil.actC a)[j]? = some u → w.cell? ⟨b, o + i * 5 + j, none⟩ = some u := fun j u hj => by
    rw [Nat.add_assoc]
    exact h8 _ u (by rw [chunk Fil.actC 5 (fun _ => rfl) l i a j ha (List.getElem?_eq_some_iff.1 hj).1]; exact hj)
  exact ⟨b, o, h6, h7, c 0 _ rfl, c 1 _ rfl, c 2 _ rfl, c 3 _ rfl, c 4 _ rfl⟩
def AtArg (W : World) (v : Value) : Prop := ∃ l, AtS W v l
section
variable {H : Type} {enc : TypeId × Value → H} {W : World}
set_option maxRecDepth 100000 in
theorem open_act11 {base : Nat} {v : Value} {d : DataW H} {p : List MemPlace} (hv : Value.okWide Try.prog W .any base 29 v) (h : DataW.Trod enc Try.prog W 0 (fun _ => true) true 29 v d p) (hlt : ∀ x ∈ p, x.block < W.heap.size) : AtArg W v := by
  obtain ⟨a, len, cap, rfl⟩ := okWide_slice Try.underlying29 hv
  obtain ⟨fuel, hf⟩ := h
  rcases open_slice Try.underlying29 hf with ⟨hcs, hx⟩ | ⟨a', len', cap', m, n, D, Pl, hcs, _, hl, hm, hmm, hx, hel⟩
  · simp [Value.cells] at hcs
    obtain ⟨rfl, rfl, rfl⟩ := hcs
    exact ⟨[], RdR.nil _ _, fun a h => by simp at h⟩
  · simp [Value.cells] at hcs
    obtain ⟨rfl, rfl, rfl⟩ := hcs
    simp only [if_true] at hmm
    simp only [Prod.mk.injEq] at hx
    obtain ⟨-, rfl⟩ := hx
    obtain ⟨fs, hfs, hfm⟩ := act11Fs
    have each : ∀ i, ∃ s : { s : Fil.Act // -2147483648 ≤ s.off ∧ s.off ≤ 2147483647 }, i < len → W.cells? 0 (a'.add (i * 5)) 5 = some (Fil.actC s.1) := fun i => by
      by_cases hi : i < len
      · obtain ⟨cs', h1, h2⟩ := hel i (by omega)
        rw [cells11] at h1
        obtain ⟨xs, k, hk, hxy, hl2, hxl, hff⟩ := DataW.trod_struct hfs h2
        rw [cells11] at hl2
        have fsz : fs.size = 5 := by have := congrArg List.length hfm; simpa using this
        rw [fsz] at hxl
        match cs', hl2, hff, h1 with
        | [v0, v1, v2, v3, v4], _, hff, h1 =>
          match xs, hxl, hxy, hff with
          | [y0, y1, y2, y3, y4], _, hxy, hff =>
            obtain ⟨f0, e0, t0, o0⟩ := fldAt hfm 0 _ _ rfl
            obtain ⟨f1, e1, t1, o1⟩ := fldAt hfm 1 _ _ rfl
            obtain ⟨f2, e2, t2, o2⟩ := fldAt hfm 2 _ _ rfl
            obtain ⟨f3, e3, t3, o3⟩ := fldAt hfm 3 _ _ rfl
            obtain ⟨f4, e4, t4, o4⟩ := fldAt hfm 4 _ _ rfl
            have g0 := hff 0 f0 e0
            have g1 := hff 1 f1 e1
            have g2 := hff 2 f2 e2
            have g3 := hff 3 f3 e3
            have g4 := hff 4 f4 e4
            rw [t0, o0, cells64] at g0
            rw [t1, o1, cells64] at g1
            rw [t2, o2, cells64] at g2
            rw [t3, o3, cellsI32] at g3
            rw [t4, o4, cellsT] at g4
            (try simp at g0)
            (try simp at g1)
            (try simp at g2)
            (try simp at g3)
            (try simp at g4)
            obtain ⟨x0, q0, p0, _⟩ := DataW.trod_int Try.underlying3 g0
            obtain ⟨x1, q1, p1, _⟩ := DataW.trod_int Try.underlying3 g1
            obtain ⟨x2, q2, p2, _⟩ := DataW.trod_int Try.underlying3 g2
            obtain ⟨x3, q3, p3, _⟩ := DataW.trod_int Try.underlying21 g3
            obtain ⟨x4, q4, _, _⟩ := DataW.trod_string Try.underlying9 g4
            (try simp at q0)
            (try simp at q1)
            (try simp at q2)
            (try simp at q3)
            (try simp at q4)
            subst q0 q1 q2 q3 q4
            exact ⟨⟨⟨x0, x1, x2, x3, x4⟩, by first | exact bounds_i32 p3 | (have := bounds_i32 (n := x3) (by assumption); exact this)⟩, fun _ => h1⟩
      · exact ⟨⟨⟨0, 0, 0, 0, ⟨#[]⟩⟩, by decide, by decide⟩, fun h => absurd h hi⟩
    obtain ⟨F, hF⟩ := Classical.axiomOfChoice each
    obtain ⟨b, off, spot⟩ := a'
    refine ⟨(List.range len).map (fun i => (F i).1), ⟨some ⟨b, off, spot⟩, cap, by simp, by simpa using hl, by unfold maxLen at hm; omega, by rw [chunk_len Fil.actC 5 (fun _ => rfl)], fun h0 => ?_⟩, fun a ha => by
      obtain ⟨i, _, rfl⟩ := List.mem_map.1 ha
      exact (F i).2⟩
    simp at h0
    have hcell : ∀ i, i < len → ∀ j u, (Fil.actC (F i).1)[j]? = some u → W.cell? (((⟨b, off, spot⟩ : Addr).add (i * 5)).add j) = some u := fun i hi j u hu => by
      obtain ⟨_, hlen, hc⟩ := World.cells?_some (hF i hi)
      have hj := (List.getElem?_eq_some_iff.1 hu)
      have := hc j (by have := hj.1; simp [Fil.actC] at this; omega)
      have h9 : W.cell? (((⟨b, off, spot⟩ : Addr).add (i * 5)).add j) = (Fil.actC (F i).1)[j]? := by simpa using this
      exact h9.trans hu
    have hspot : spot = none := by
      have := hcell 0 h0 0 _ rfl
      simpa [Addr.add] using World.cell?_spot this
    subst hspot
    refine ⟨b, off, rfl, hlt (.cell b off) (List.mem_append.2 (.inl (MemPlace.mem_row.2 ⟨0, by rw [cells11]; omega, by simp⟩))), row_of Fil.actC 5 (fun _ => rfl) (fun i => (F i).1) b off len (fun i hi j u hu => ?_)⟩
    have := hcell i hi j u hu
    simpa only [Addr.add_lit] using this
end
/-- Both sides, apart: the package's files and the document's own. -/
structure Tw (W w0 w : World) (fb rb : Nat) (A G B : Nat → Prop) (s : Fil.St) (l : List Nat) : Prop where
  lf : LF W w fb A s
  rs : RS w0 w rb G B s l
  w0 : W.heap.size ≤ w0.heap.size
  ag : ∀ i, A i → ¬ G i
  ab : ∀ i, A i → ¬ B i
theorem RS.inG {w0 w : World} {rb : Nat} {G B : Nat → Prop} {s : Fil.St} {l : List Nat} (h : RS w0 w rb G B s l) : (∀ i, G i → w0.heap.size ≤ i ∧ i < w.heap.size) ∧ (∀ i, B i → i < w0.heap.size) ∧ w0.heap.size ≤ w.heap.size := by
  obtain ⟨ru, va, vi, vs, vr, vc, vf, lv, u1, u2, us, inp, fs, h⟩ := h
  exact ⟨h.in_, h.lo, by have := h.in_ rb h.g1.1; omega⟩
theorem Tw.bw {W w0 w w' : World} {fb rb : Nat} {A G B : Nat → Prop} {s : Fil.St} {l : List Nat} (h : Tw W w0 w fb rb A G B s l) (g : Bw w w') : Tw W w0 w' fb rb A G B s l := ⟨h.lf.bw g, h.rs.bw g, h.w0, h.ag, h.ab⟩
/-- The package's step leaves the document's side as it is. -/
theorem Tw.stepA {W w0 w w' : World} {fb rb : Nat} {A A' G B : Nat → Prop} {s : Fil.St} {l : List Nat} (h : Tw W w0 w fb rb A G B s l) (k : Stp A A' w w') : RS w0 w' rb G B s l ∧ (∀ i, A' i → ¬ G i) ∧ (∀ i, A' i → ¬ B i) := by
  obtain ⟨g1, g2, g3⟩ := h.rs.inG
  refine ⟨h.rs.fz k.fz (fun i hi ha => h.ag i ha hi) (fun i hi ha => h.ab i ha hi), fun i ha hi => ?_, fun i ha hi => ?_⟩
  · exact h.ag i (k.le i (g1 i hi).2 ha) hi
  · exact h.ab i (k.le i (by have := g2 i hi; omega) ha) hi
/-- The document's step leaves the package's side as it is. -/
theorem Tw.stepG {W w0 w w' : World} {fb rb : Nat} {A G G' B : Nat → Prop} {s t : Fil.St} {l : List Nat} (h : LF W w fb A t) (hR : RS w0 w rb G B s l) (h0 : W.heap.size ≤ w0.heap.size) (hag : ∀ i, A i → ¬ G i) (k : Stp G G' w w') : LF W w' fb A t ∧ ∀ i, A i → ¬ G' i := by
  obtain ⟨g1, g2, g3⟩ := hR.inG
  refine ⟨h.fz k.fz hag (fun i hi => by have := g1 i hi; omega), fun i ha hi => ?_⟩
  exact hag i ha (k.le i (h.f.in_ i ha).2 hi)
end Go.Proofs.Ytncidjkkngbclaa
namespace Go.Proofs.Ytncidjkkngbclaa
open Go.ChangeShapes Go.WideShapes Go.ChangeAt Go.RowKit

/-- A feed that is not more than is asked of. -/
structure Fil.Bd (f : Fee.Fd) : Prop where
  la : f.args.length ≤ 5
  li : f.input.length ≤ 300
  ls : f.short.length ≤ 20
  lr : f.random.length ≤ 50
  lc : f.clock.length ≤ 20
  lf : f.files.length ≤ 5
  asz : ∀ s ∈ f.args, s.size ≤ 100
  fsz : ∀ x ∈ f.files, x.name.size ≤ 60 ∧ x.data.length ≤ 300
def LightPost (f : Fee.Fd) (w : World) (e : Ending) (w' : World) : Prop := ∃ b : Bool, e = .returned (.bool b) ∧ (b = true → Fil.Bd f) ∧ Bw w w'
theorem ret_some {f : Fee.Fd} {w w' : World} (g : Bw w w') : LightPost f w (.returned (.bool false)) w' := ⟨false, rfl, fun h => by simp at h, g⟩
theorem ret_none {f : Fee.Fd} {w w' : World} (h : Hid (Fil.Bd f)) (g : Bw w w') : LightPost f w (.returned (.bool true)) w' := ⟨true, rfl, fun _ => h, g⟩
set_option maxHeartbeats 4000000 in
set_option maxRecDepth 100000 in
theorem light_c (v : Value) (f : Fee.Fd) (w : World) (hv : IsFd w v f) : Calls Try.prog 5 #[v] w fun e w' => LightPost f w e w' := by
  obtain ⟨va, vi, vs, vr, vc, vf, rfl, ha, hi, hs, hr, hc, hf, -⟩ := hv
  obtain ⟨qi, ci, rfl, -⟩ := Rd8.open hi
  obtain ⟨qr, cr, rfl, -⟩ := Rd8.open hr
  obtain ⟨qc, cc, rfl, -⟩ := RdR.form hc
  obtain ⟨qa, ca, rfl, ha1, -, hca⟩ := RdR.at1 ha
  obtain ⟨qs, cs, rfl, hs1, -⟩ := RdR.form hs
  obtain ⟨qf, cf, rfl, hf1, -, hcf⟩ := hf.open
  clear hi hr hc ha hs hf
  by_cases hlen : f.args.length ≤ 5 ∧ f.input.length ≤ 300 ∧ f.short.length ≤ 20 ∧ f.random.length ≤ 50 ∧ f.clock.length ≤ 20 ∧ f.files.length ≤ 5
  rotate_left
  · clear hca hcf
    have h6 : decide ((300 : Int) < f.input.length) = true ∨ decide ((300 : Int) < f.input.length) = false ∧ (decide ((20 : Int) < f.short.length) = true ∨ decide ((20 : Int) < f.short.length) = false ∧ (decide ((5 : Int) < f.files.length) = true ∨ decide ((5 : Int) < f.files.length) = false ∧ (decide ((50 : Int) < f.random.length) = true ∨ decide ((50 : Int) < f.random.length) = false ∧ (decide ((20 : Int) < f.clock.length) = true ∨ decide ((20 : Int) < f.clock.length) = false ∧ (decide ((5 : Int) < f.args.length) = true))))) := by
      simp only [decide_eq_true_eq, decide_eq_false_iff_not]
      omega
    clear hlen
    rcases h6 with h1 | ⟨h1, h2 | ⟨h2, h3 | ⟨h3, h4 | ⟨h4, h5 | ⟨h5, h6⟩⟩⟩⟩⟩
    all_goals
      go_enter Try.func5, Try.ntmps5
      go_wp2_with fail
      go_returns
      exact ret_some (by (repeat' (first | (with_reducible assumption) | (with_reducible exact Bw.refl _) | (with_reducible refine Bw.alloc ?_ _) | (with_reducible refine Bw.drew ?_) | (with_reducible refine Bw.drewN ?_ _) | (with_reducible refine Bw.setCell ?_ ?_ _) | exact Nat.le_refl _)))
  obtain ⟨l1, l2, l3, l4, l5, l6⟩ := hlen
  have m1 : decide ((5 : Int) < f.args.length) = false := decide_eq_false (by omega)
  have m2 : decide ((300 : Int) < f.input.length) = false := decide_eq_false (by omega)
  have m3 : decide ((20 : Int) < f.short.length) = false := decide_eq_false (by omega)
  have m4 : decide ((50 : Int) < f.random.length) = false := decide_eq_false (by omega)
  have m5 : decide ((20 : Int) < f.clock.length) = false := decide_eq_false (by omega)
  have m6 : decide ((5 : Int) < f.files.length) = false := decide_eq_false (by omega)
  have HBd : Hid ((∀ s ∈ f.args, s.size ≤ 100) → (∀ x ∈ f.files, x.name.size ≤ 60 ∧ x.data.length ≤ 300) → Fil.Bd f) := fun p q => ⟨l1, l2, l3, l4, l5, l6, p, q⟩
  clear l2 l3 l4 l5
  go_enter Try.func5, Try.ntmps5
  go_wp2_with fail
  clear m1 m2 m3 m4 m5 m6
  obtain ⟨wB, hwB, hbB, hBx⟩ : ∃ wB, w.alloc (.cells #[.slice qa f.args.length ca, .slice qi f.input.length ci, .slice qs f.short.length cs, .slice qr f.random.length cr, .slice qc f.clock.length cc, .slice qf f.files.length cf] 28) = wB ∧ Bw w wB ∧ Box wB w.heap.size [.slice qa f.args.length ca, .slice qi f.input.length ci, .slice qs f.short.length cs, .slice qr f.random.length cr, .slice qc f.clock.length cc, .slice qf f.files.length cf] := ⟨_, rfl, (Bw.refl w).alloc _, Box.new w _ _⟩
  rw [hwB]
  clear hwB
  generalize w.heap.size = fb at *
  have x0 := hBx.c 0 _ rfl; have x5 := hBx.c 5 _ rfl
  clear hBx
  go_loopg [3] f.args.length (fun g j wr => ∃ k : Nat, k + g = f.args.length ∧ j = .int .i64 k ∧ Bw wB wr ∧ ∀ s ∈ f.args.take k, s.size ≤ 100)
  case atStart => exact ⟨0, by omega, rfl, Bw.refl _, fun s h => by simp at h⟩
  case round =>
    obtain ⟨k, hkg, rfl, hbw, hall⟩ := hrel
    have HAll : Hid _ := hall
    have hbW := hbB.trans hbw
    have y0 := hbw.keep x0
    clear hall
    by_cases hk : k = f.args.length
    · subst hk
      have HA2 : Hid (∀ s ∈ f.args, s.size ≤ 100) := by
        have h := (show ∀ s ∈ f.args.take f.args.length, s.size ≤ 100 from HAll)
        rw [List.take_length] at h
        exact h
      have y5 := hbw.keep x5
      clear HAll hca
      go_wp2_with fail
      clear y0 y5
      go_loopg [4] f.files.length (fun g j wr2 => ∃ k : Nat, k + g = f.files.length ∧ j = .int .i64 k ∧ Bw wB wr2 ∧ ∀ x ∈ f.files.take k, x.name.size ≤ 60 ∧ x.data.length ≤ 300)
      case atStart => exact ⟨0, by omega, rfl, hbw, fun s h => by simp at h⟩
      case round =>
        obtain ⟨k, hkg, rfl, hbw, hall⟩ := hrel
        have HAll : Hid _ := hall
        have hbW := hbB.trans hbw
        have y5 := hbw.keep x5
        clear hall
        by_cases hk : k = f.files.length
        · subst hk
          have HF2 : Hid (Fil.Bd f) := by
            have h := (show ∀ x ∈ f.files.take f.files.length, _ from HAll)
            rw [List.take_length] at h
            exact (show (∀ s ∈ f.args, s.size ≤ 100) → (∀ x ∈ f.files, x.name.size ≤ 60 ∧ x.data.length ≤ 300) → Fil.Bd f from HBd) HA2 h
          go_wp2_with fail
          go_returns
          exact ret_none HF2 hbW
        · have hkl : k < f.files.length := by omega
          have hki : (k : Int) < (f.files.length : Int) := by omega
          obtain ⟨x, hx, hd⟩ := dropAt hkl
          obtain ⟨b, o, qx, cx, rfl, hb, c0, c1, -, -, -⟩ := hcf k x hx
          replace c0 := hbW.keep c0
          replace c1 := hbW.keep c1
          have HN : Hid (x.name.size ≤ 60 → x.data.length ≤ 300 → ∀ y ∈ f.files.take (k + 1), y.name.size ≤ 60 ∧ y.data.length ≤ 300) := fun p q y hy => by
            rw [List.take_add_one, hx, List.mem_append] at hy
            rcases hy with hy | hy
            · exact (show ∀ x ∈ f.files.take k, _ from HAll) y hy
            · simp at hy; subst hy; exact ⟨p, q⟩
          clear hd hx HAll hcf
          by_cases h1 : 60 < x.name.size
          · have h1i : (60 : Int) < (x.name.size : Int) := by omega
            go_wp2_with fail
            go_returns
            exact ret_some hbW
          have h1i : ¬ (60 : Int) < (x.name.size : Int) := by omega
          by_cases h2 : 300 < x.data.length
          · have h2i : decide ((300 : Int) < (x.data.length : Int)) = true := decide_eq_true (by omega)
            go_wp2_with fail
            go_returns
            exact ret_some hbW
          have h2i : decide ((300 : Int) < (x.data.length : Int)) = false := decide_eq_false (by omega)
          have HN2 : Hid _ := (show x.name.size ≤ 60 → x.data.length ≤ 300 → _ from HN) (by omega) (by omega)
          clear HN
          go_wp2_with fail
          go_roundg (f.files.length - (k + 1))
          case measure => omega
          case rel => exact ⟨k + 1, by omega, by simp, hbw, HN2⟩
    · have hkl : k < f.args.length := by omega
      have hki : (k : Int) < (f.args.length : Int) := by omega
      obtain ⟨s, hs, hd⟩ := dropAt hkl
      obtain ⟨b, o, rfl, hb, c0⟩ := hca k s hs
      replace c0 := hbW.keep c0
      have HN : Hid (s.size ≤ 100 → ∀ y ∈ f.args.take (k + 1), y.size ≤ 100) := fun p y hy => by
        rw [List.take_add_one, hs, List.mem_append] at hy
        rcases hy with hy | hy
        · exact (show ∀ x ∈ f.args.take k, _ from HAll) y hy
        · simp at hy; subst hy; exact p
      clear hd hs HAll hca hcf
      by_cases h1 : 100 < s.size
      · have h1i : (100 : Int) < (s.size : Int) := by omega
        go_wp2_with fail
        go_returns
        exact ret_some hbW
      have h1i : ¬ (100 : Int) < (s.size : Int) := by omega
      have HN2 : Hid _ := (show s.size ≤ 100 → _ from HN) (by omega)
      clear HN
      go_wp2_with fail
      go_roundg (f.args.length - (k + 1))
      case measure => omega
      case rel => exact ⟨k + 1, by omega, by simp, hbw, HN2⟩
end Go.Proofs.Ytncidjkkngbclaa
