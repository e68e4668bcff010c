/- LAYER 8's laws: img, sameImage, small, great. -/
import Derived.Test.YtaejcbmmapcpgaaImgSeg
import Derived.Test.YtaejcbmmapcpgaaImgMath
import Derived.Deep.CutRange
import Derived.Deep.RegionWith
namespace Go.Proofs.Ytaejcbmmapcpgaa
open Go.ChangeShapes Go.WideShapes Go.ChangeAt Go.RowKit

theorem SegS.openU {w : World} {v : Value} {l : List Img.Seg} (h : SegS w v l) : ∃ (us : List Value) (q : Option Addr) (cap : Nat), v = .slice q l.length cap ∧ l.length ≤ cap ∧ cap ≤ 9223372036854775807 ∧ us.length = l.length ∧ (∀ (i : Nat) s u, l[i]? = some s → us[i]? = some u → Rd8 w u s.bytes) ∧
    ∀ i s, l[i]? = some s → ∃ b o qs cs, q = some ⟨b, o, none⟩ ∧ b < w.heap.size ∧ w.cell? ⟨b, o + i * 4, none⟩ = some (.int .u32 s.addr) ∧ w.cell? ⟨b, o + i * 4 + 1, none⟩ = some (.int .u32 s.size) ∧ w.cell? ⟨b, o + i * 4 + 2, none⟩ = some (.int .i64 s.perm) ∧ w.cell? ⟨b, o + i * 4 + 3, none⟩ = some (.slice qs s.bytes.length cs) ∧ us[i]? = some (.slice qs s.bytes.length cs) ∧ Rd8 w (.slice qs s.bytes.length cs) s.bytes := by
  obtain ⟨us, hus, ⟨q, cap, h1, h2, h3, h4, h5⟩, hr, hw⟩ := h
  refine ⟨us, q, cap, h1, h2, h3, hus, hr, fun i s hs => ?_⟩
  have hi : i < l.length := (List.getElem?_eq_some_iff.1 hs).1
  obtain ⟨b, o, h6, h7, h8⟩ := h5 (by omega)
  have hu : us[i]? = some us[i] := List.getElem?_eq_getElem (by omega)
  have hz : (l.zip us)[i]? = some (s, us[i]) := by rw [List.getElem?_zip_eq_some]; exact ⟨hs, hu⟩
  have c : ∀ j u, (Img.segC s us[i])[j]? = some u → w.cell? ⟨b, o + i * 4 + j, none⟩ = some u := fun j u hj => by
    rw [Nat.add_assoc]
    exact h8 _ u (by unfold Img.cells; rw [chunk (fun p : Img.Seg × Value => Img.segC p.1 p.2) 4 (fun _ => rfl) (l.zip us) i (s, us[i]) j hz (List.getElem?_eq_some_iff.1 hj).1]; exact hj)
  have hR := hr i s _ hs hu
  obtain ⟨qs, cs, e, e1, e2, _⟩ := hR.open
  rw [e] at hR
  exact ⟨b, o, qs, cs, h6, h7, c 0 _ rfl, c 1 _ rfl, c 2 _ rfl, by rw [← e]; exact c 3 _ rfl, by rw [← e]; exact hu, hR⟩
theorem Box.two (w : World) (x : Value) (xs : List Value) (y : Value) (ys : List Value) (t u : TypeId) : Bw w ((w.alloc (.cells (x :: xs).toArray t)).alloc (.cells (y :: ys).toArray u)).drew ∧ Box ((w.alloc (.cells (x :: xs).toArray t)).alloc (.cells (y :: ys).toArray u)).drew w.heap.size (x :: xs) ∧ Box ((w.alloc (.cells (x :: xs).toArray t)).alloc (.cells (y :: ys).toArray u)).drew (w.heap.size + 1) (y :: ys) := by
  have h2 := Box.new (w.alloc (.cells (x :: xs).toArray t)) (y :: ys) u
  rw [World.size_alloc] at h2
  exact ⟨(((Bw.refl w).alloc _).alloc _).drew, ((Box.new w (x :: xs) t).bw ((Bw.refl _).alloc _)).bw ((Bw.refl _).drew), h2.bw ((Bw.refl _).drew)⟩
theorem infoSegR : (Try.prog.info? 72).map (fun i => (i.zero, i.size, i.bytes)) = some (some (.agg #[.int .u32 0, .int .u32 0, .int .i64 0, .slice none 0 0]), 4, 40) := by kernel_rfl
theorem Img.cells_take {l : List Img.Seg} {us : List Value} {k : Nat} {s : Img.Seg} {u : Value} (hus : us.length = l.length) (hs : l[k]? = some s) (hu : us[k]? = some u) : Img.cells (l.take (k + 1)) (us.take (k + 1)) = Img.cells (l.take k) (us.take k) ++ Img.segC s u := by
  have hk := (List.getElem?_eq_some_iff.1 hs).1
  rw [List.take_add_one, hs, List.take_add_one, hu]
  exact Img.cells_app (by rw [List.length_take, List.length_take, hus]) s u
set_option maxHeartbeats 4000000 in
set_option maxRecDepth 100000 in
theorem img_c (v : Value) (i : Img.Im) (w : World) (hv : IsImg w v i) (hl : i.segs.length ≤ 1000) : Calls Try.prog 16 #[v] w fun e w' => ∃ u, e = .returned u ∧ IsImg w' u i ∧ Bw w w' := by
  obtain ⟨u, rfl, hS, e0, e1⟩ := hv
  have hwf := hS.wf
  obtain ⟨us, q, cap, rfl, hc1, hc2, hus, hru, hcell⟩ := hS.openU
  clear hS
  go_enter Try.func16, Try.ntmps16
  go_wp2_with fail
  have hP0 := Box.new w [.int .u32 i.entry, .slice q i.segs.length cap] 26
  have hR0 := Box.new (w.alloc (.cells #[.int .u32 i.entry, .slice q i.segs.length cap] 26)) [.int .u32 0, .slice none 0 0] 40
  have hQ0 := Box.new ((w.alloc (.cells #[.int .u32 i.entry, .slice q i.segs.length cap] 26)).alloc (.cells #[.int .u32 0, .slice none 0 0] 40)) [.int .u32 i.entry, .slice none 0 0] 40
  simp only [World.size_alloc] at hR0 hQ0
  obtain ⟨wA, hwA, hbA, hp0, hr0, hq0⟩ : ∃ wA, (((w.alloc (.cells #[.int .u32 i.entry, .slice q i.segs.length cap] 26)).alloc (.cells #[.int .u32 0, .slice none 0 0] 40)).alloc (.cells #[.int .u32 i.entry, .slice none 0 0] 40)) = wA ∧ Bw w wA ∧ Box wA w.heap.size [.int .u32 i.entry, .slice q i.segs.length cap] ∧ Box wA (w.heap.size + 1) [.int .u32 0, .slice none 0 0] ∧ Box wA (w.heap.size + 1 + 1) [.int .u32 i.entry, .slice none 0 0] :=
    ⟨_, rfl, by (repeat' (first | (with_reducible assumption) | (with_reducible exact Bw.refl _) | (with_reducible refine Bw.alloc ?_ _) | (with_reducible refine Bw.drew ?_) | (with_reducible refine Bw.drewN ?_ _) | (with_reducible refine Bw.setCell ?_ ?_ _) | exact Nat.le_refl _)), hP0.bw (((Bw.refl _).alloc _).alloc _), hR0.bw ((Bw.refl _).alloc _), hQ0⟩
  have hpl3 := hq0.lt
  rw [hwA]
  obtain ⟨pb, hpb⟩ : ∃ pb, w.heap.size + 1 + 1 = pb := ⟨_, rfl⟩
  rw [hpb] at hq0 hpl3 ⊢
  have hne0 : w.heap.size ≠ pb := by omega
  have hne1 : w.heap.size + 1 ≠ pb := by omega
  have hlep : w.heap.size ≤ pb := by omega
  have hlr := hr0.lt
  clear hwA hP0 hR0 hQ0 hpb
  go_loopg [4] i.segs.length (fun g v wr => ∃ k : Nat, ∃ u1 : Value, k + g = i.segs.length ∧ v = .int .i64 k ∧ Bq pb wA wr ∧ OwnR 72 4 wA wr u1 k (Img.cells (i.segs.take k) (us.take k)) ∧ Box wr pb [.int .u32 i.entry, u1])
  case atStart => exact ⟨0, .slice none 0 0, by omega, rfl, Bq.refl _ _, OwnR.nil _ _ _ _, hq0⟩
  case round =>
    obtain ⟨k, u1, hkg, rfl, hbq, hown, hbox⟩ := hrel
    have hbwr := hbq.toBw hbA hlep
    have hpr := hp0.blk (hbq.block w.heap.size hp0.lt hne0)
    have p0 := hpr.c 0 _ rfl; have p1 := hpr.c 1 _ rfl
    have b0 := hbox.c 0 _ rfl; have b1 := hbox.c 1 _ rfl
    by_cases hk : k = i.segs.length
    · subst hk
      have hrr := hr0.blk (hbq.block (w.heap.size + 1) hr0.lt hne1)
      have r0 := hrr.c 0 _ rfl; have r1 := hrr.c 1 _ rfl
      have q0 := hrr.f 0 (by simp); have q1 := hrr.f 1 (by simp)
      have hlrr := hrr.lt
      rw [List.take_length, show us.take i.segs.length = us by rw [← hus, List.take_length]] at hown
      have hQ : Bq (w.heap.size + 1) wr ((wr.setCell ⟨w.heap.size + 1, 0, none⟩ (.int .u32 i.entry)).setCell ⟨w.heap.size + 1, 1, none⟩ u1) := ((Bq.refl _ wr).set 0 _).set 1 _
      have hfin : IsImg ((wr.setCell ⟨w.heap.size + 1, 0, none⟩ (.int .u32 i.entry)).setCell ⟨w.heap.size + 1, 1, none⟩ u1) (.agg #[.int .u32 i.entry, u1]) i ∧ Bw w ((wr.setCell ⟨w.heap.size + 1, 0, none⟩ (.int .u32 i.entry)).setCell ⟨w.heap.size + 1, 1, none⟩ u1) := by
        have hB := hQ.toBw hbwr (by omega)
        refine ⟨⟨u1, rfl, ⟨us, hus, RdR.q hown.rd hQ (fun b n c e hn => by have := (hown.own b.block (by rw [e]; rfl)).1; omega), fun j s u a b => (hru j s u a b).bw hB, hwf⟩, e0, e1⟩, hB⟩
      have HFin : Hid _ := hfin
      obtain ⟨q1', c1', rfl, -⟩ := OwnR.rd hown
      clear hfin hQ hown hbox hpr hrr
      go_wp2_with fail
      (try simp only [Exit.inBlock, Exit.then]); refine bodyPost_ret (by simp [results, Try.results16, go_sem, r0, r1]; try rfl) rfl ?_
      exact ⟨_, rfl, HFin.1, HFin.2⟩
    · have hkl : k < i.segs.length := by omega
      have hki : (k : Int) < (i.segs.length : Int) := by omega
      obtain ⟨s, hs, hd⟩ := Img.drop_at hkl
      obtain ⟨b, o, qs, cs, rfl, hb, c0, c1, c2, c3, hu, hR8⟩ := hcell k s hs
      replace c0 := hbwr.keep c0
      replace c1 := hbwr.keep c1
      replace c2 := hbwr.keep c2
      replace c3 := hbwr.keep c3
      have hct := Img.cells_take hus hs hu
      have hsz : wA.heap.size ≤ wr.heap.size := hbq.b0.size
      have hbxB := hbox.bw ((Bw.refl wr).alloc (.cells #[.int .u32 s.addr, .int .u32 s.size, .int .i64 s.perm, .slice qs s.bytes.length cs] 30))
      obtain ⟨v6, w6, hr6, ho6, hA6⟩ := appA (ty := 38) infoSegR Try.underlying38 rfl (by omega) (by omega) (hown.bw ((Bw.refl wr).alloc (.cells #[.int .u32 s.addr, .int .u32 s.size, .int .i64 s.perm, .slice qs s.bytes.length cs] 30))) (by simp; omega) 1 (Img.segC s (.slice qs s.bytes.length cs)) rfl (fun x hx => by simp [Img.segC] at hx; rcases hx with rfl | rfl | rfl | rfl <;> rfl) (by omega)
      rw [← hct] at ho6
      obtain ⟨g6, cp6, rfl⟩ := OwnR.form ho6 (by omega)
      have hownb := hown.own
      have hbx6 := hbxB.blk (hA6.block pb hbxB.lt (fun e => by have := (hownb _ e).1; omega))
      have z1 := hbx6.c 1 _ rfl; have z1f := hbx6.f 1 (by simp)
      have hbq6 := Bq.ap (hbq.bw ((Bw.refl wr).alloc (.cells #[.int .u32 s.addr, .int .u32 s.size, .int .i64 s.perm, .slice qs s.bytes.length cs] 30))) hA6 (fun j e => (hownb j e).1)
      have hr7 : (Builtin.append_ #[38, 38] 38 #[u1, .slice (some ⟨wr.heap.size + 1, 0, none⟩) 1 1]).run Try.prog ((wr.alloc (.cells #[.int .u32 s.addr, .int .u32 s.size, .int .i64 s.perm, .slice qs s.bytes.length cs] 30)).alloc (.cells #[.int .u32 s.addr, .int .u32 s.size, .int .i64 s.perm, .slice qs s.bytes.length cs] 72)) = .ok (.slice (some ⟨g6, 0, none⟩) (k + 1) cp6) w6 := by
        have := hr6; rw [World.size_alloc] at this; exact this
      have y1 := hbxB.c 1 _ rfl
      clear hr6 hct hd hs hu hR8 hbxB hpr
      go_wp2_with (first | (at_builtin; refine wpApp rfl _ _ 38 rfl rfl rfl hr7 ?_) | go_in)
      go_roundg (i.segs.length - (k + 1))
      case measure => omega
      case rel => exact ⟨k + 1, _, by omega, by simp, hbq6.set _ _, ho6.set hpl3 _ _, hbx6.set 1 (by simp) _⟩
set_option maxHeartbeats 4000000 in
set_option maxRecDepth 100000 in
theorem sameImage_c (va vb : Value) (a : Img.Im) (w : World) (ha : IsImg w va a) (hb : IsImg w vb a) : Calls Try.prog 17 #[va, vb] w fun e w' => e = .returned (.bool true) ∧ Bw w w' := by
  obtain ⟨ua, rfl, hA, e0, e1⟩ := ha
  obtain ⟨ub, rfl, hB, -, -⟩ := hb
  have hwf := hA.wf
  obtain ⟨q1, cap1, rfl, hc1, hc2, hcell1⟩ := hA.open
  obtain ⟨q2, cap2, rfl, hd1, hd2, hcell2⟩ := hB.open
  clear hA hB
  have hX := Box.new w [.int .u32 a.entry, .slice q1 a.segs.length cap1] 40
  have hY := Box.new (w.alloc (.cells #[.int .u32 a.entry, .slice q1 a.segs.length cap1] 40)) [.int .u32 a.entry, .slice q2 a.segs.length cap2] 40
  simp only [World.size_alloc] at hY
  go_enter Try.func17, Try.ntmps17
  go_wp2_with fail
  obtain ⟨wA, hwA, hbA, hx, hy⟩ : ∃ wA, ((w.alloc (.cells #[.int .u32 a.entry, .slice q1 a.segs.length cap1] 40)).alloc (.cells #[.int .u32 a.entry, .slice q2 a.segs.length cap2] 40)) = wA ∧ Bw w wA ∧ Box wA w.heap.size [.int .u32 a.entry, .slice q1 a.segs.length cap1] ∧ Box wA (w.heap.size + 1) [.int .u32 a.entry, .slice q2 a.segs.length cap2] :=
    ⟨_, rfl, by (repeat' (first | (with_reducible assumption) | (with_reducible exact Bw.refl _) | (with_reducible refine Bw.alloc ?_ _) | (with_reducible refine Bw.drew ?_) | (with_reducible refine Bw.drewN ?_ _) | (with_reducible refine Bw.setCell ?_ ?_ _) | exact Nat.le_refl _)), hX.bw ((Bw.refl _).alloc _), hY⟩
  rw [hwA]
  clear hwA hX hY
  go_loopg [5] a.segs.length (fun g v wr => ∃ k : Nat, k + g = a.segs.length ∧ v = .int .i64 k ∧ Bw wA wr)
  case atStart => exact ⟨0, by omega, rfl, Bw.refl _⟩
  case round =>
    obtain ⟨k, hkg, rfl, hbw⟩ := hrel
    have hxr := hx.bw hbw
    have hyr := hy.bw hbw
    have x1 := hxr.c 1 _ rfl; have y1 := hyr.c 1 _ rfl
    have hbW := hbA.trans hbw
    by_cases hk : k = a.segs.length
    · subst hk
      go_wp2_with fail
      go_returns
      exact ⟨rfl, hbW⟩
    · have hkl : k < a.segs.length := by omega
      have hki : (k : Int) < (a.segs.length : Int) := by omega
      obtain ⟨s, hs, hd⟩ := Img.drop_at hkl
      obtain ⟨b, o, qs, cs, rfl, hb, c0, c1, c2, c3, -, -, hR1⟩ := hcell1 k s hs
      obtain ⟨b', o', qs', cs', rfl, hb', d0, d1, d2, d3, -, -, hR2⟩ := hcell2 k s hs
      replace c0 := hbW.keep c0
      replace c1 := hbW.keep c1
      replace c2 := hbW.keep c2
      replace c3 := hbW.keep c3
      replace d0 := hbW.keep d0
      replace d1 := hbW.keep d1
      replace d2 := hbW.keep d2
      replace d3 := hbW.keep d3
      have hv1 := fun X (g : Bw wr X) => ((hR1.bw hbW).bw g).conv
      have hv2 := fun X (g : Bw wr X) => ((hR2.bw hbW).bw g).conv
      generalize strOfNums s.bytes = SB at *
      clear hcell1 hcell2 hd hs hR1 hR2
      have hS : ∀ X, Bw wr X → (X.cell? ⟨w.heap.size, 1, none⟩ = some (.slice (some ⟨b, o, none⟩) a.segs.length cap1) ∧ X.cell? ⟨w.heap.size + 1, 1, none⟩ = some (.slice (some ⟨b', o', none⟩) a.segs.length cap2) ∧ X.cell? ⟨b, o + k * 4, none⟩ = some (.int .u32 s.addr) ∧ X.cell? ⟨b, o + k * 4 + 1, none⟩ = some (.int .u32 s.size) ∧ X.cell? ⟨b, o + k * 4 + 2, none⟩ = some (.int .i64 s.perm) ∧ X.cell? ⟨b, o + k * 4 + 3, none⟩ = some (.slice qs s.bytes.length cs) ∧ X.cell? ⟨b', o' + k * 4, none⟩ = some (.int .u32 s.addr) ∧ X.cell? ⟨b', o' + k * 4 + 1, none⟩ = some (.int .u32 s.size) ∧ X.cell? ⟨b', o' + k * 4 + 2, none⟩ = some (.int .i64 s.perm) ∧ X.cell? ⟨b', o' + k * 4 + 3, none⟩ = some (.slice qs' s.bytes.length cs')) := fun X g => ⟨g.keep x1, g.keep y1, g.keep c0, g.keep c1, g.keep c2, g.keep c3, g.keep d0, g.keep d1, g.keep d2, g.keep d3⟩
      go_wp2_with fail
      go_cut [6, 7] from 29 to 38 (fun s6 s7 wx => ∃ A B, s6 = .pointer (some ⟨A, 0, none⟩) ∧ s7 = .pointer (some ⟨B, 0, none⟩) ∧ Bw wr wx ∧ Box wx A [.int .u32 s.addr, .int .u32 s.size, .int .i64 s.perm, .slice qs s.bytes.length cs] ∧ Box wx B [.int .u32 s.addr, .int .u32 s.size, .int .i64 s.perm, .slice qs' s.bytes.length cs'])
      case first =>
        go_region_held3 (fun X => X.cell? ⟨w.heap.size, 1, none⟩ = some (.slice (some ⟨b, o, none⟩) a.segs.length cap1) ∧ X.cell? ⟨w.heap.size + 1, 1, none⟩ = some (.slice (some ⟨b', o', none⟩) a.segs.length cap2) ∧ X.cell? ⟨b, o + k * 4, none⟩ = some (.int .u32 s.addr) ∧ X.cell? ⟨b, o + k * 4 + 1, none⟩ = some (.int .u32 s.size) ∧ X.cell? ⟨b, o + k * 4 + 2, none⟩ = some (.int .i64 s.perm) ∧ X.cell? ⟨b, o + k * 4 + 3, none⟩ = some (.slice qs s.bytes.length cs) ∧ X.cell? ⟨b', o' + k * 4, none⟩ = some (.int .u32 s.addr) ∧ X.cell? ⟨b', o' + k * 4 + 1, none⟩ = some (.int .u32 s.size) ∧ X.cell? ⟨b', o' + k * 4 + 2, none⟩ = some (.int .i64 s.perm) ∧ X.cell? ⟨b', o' + k * 4 + 3, none⟩ = some (.slice qs' s.bytes.length cs'))
          (exact hS _ (by (repeat' (first | (with_reducible assumption) | (with_reducible exact Bw.refl _) | (with_reducible refine Bw.alloc ?_ _) | (with_reducible refine Bw.drew ?_) | (with_reducible refine Bw.drewN ?_ _) | (with_reducible refine Bw.setCell ?_ ?_ _) | exact Nat.le_refl _)))) (fail)
        all_goals go_wp2_with fail
        all_goals go_meet
        · obtain ⟨g, g1, g2⟩ := Box.two wr (.int .u32 s.addr) [.int .u32 s.size, .int .i64 s.perm, .slice qs s.bytes.length cs] (.int .u32 s.addr) [.int .u32 s.size, .int .i64 s.perm, .slice qs' s.bytes.length cs'] 72 72
          exact ⟨_, _, rfl, rfl, g, g1, g2⟩
        · obtain ⟨g, g1, g2⟩ := Box.two wr (.int .u32 s.addr) [.int .u32 s.size, .int .i64 s.perm, .slice qs' s.bytes.length cs'] (.int .u32 s.addr) [.int .u32 s.size, .int .i64 s.perm, .slice qs s.bytes.length cs] 72 72
          exact ⟨_, _, rfl, rfl, g, g2, g1⟩
      case rest =>
        obtain ⟨A, B, rfl, rfl, hbc, hA, hB⟩ := hcut
        have a0 := hA.c 0 _ rfl; have a1 := hA.c 1 _ rfl; have a2 := hA.c 2 _ rfl; have a3 := hA.c 3 _ rfl
        have b0 := hB.c 0 _ rfl; have b1 := hB.c 1 _ rfl; have b2 := hB.c 2 _ rfl; have b3 := hB.c 3 _ rfl
        have hv3 := hv1 _ hbc
        have hv4 := hv2 _ hbc
        clear hS hv1 hv2 x1 y1 c0 c1 c2 c3 d0 d1 d2 d3
        go_wp2_with fail
        go_roundg (a.segs.length - (k + 1))
        case measure => omega
        case rel => exact ⟨k + 1, by omega, by simp, hbw.trans hbc⟩
def Img.smS : List Img.Seg := [⟨4096, 8, 5, [1, 2, 3]⟩]
def Img.sm : Img.Im := ⟨4096, Img.smS⟩
theorem Img.smS_wf : ∀ s ∈ Img.smS, Img.Wf s := fun s hs => by
  simp [Img.smS] at hs; subst hs
  exact ⟨by decide, by decide, by decide, by decide, by decide, by decide, fun x hx => by simp at hx; unfold B8; omega⟩
theorem IsImg.sm (w : World) (t1 : TypeId) (X : World) (h : Bw ((w.alloc (.cells #[.int .u8 1, .int .u8 2, .int .u8 3] 5)).alloc (.cells #[.int .u32 4096, .int .u32 8, .int .i64 5, .slice (some ⟨w.heap.size, 0, none⟩) 3 3] t1)) X) : IsImg X (.agg #[.int .u32 4096, .slice (some ⟨w.heap.size + 1, 0, none⟩) 1 1]) Img.sm := by
  have hr : Rd8 (w.alloc (.cells #[.int .u8 1, .int .u8 2, .int .u8 3] 5)) (.slice (some ⟨w.heap.size, 0, none⟩) 3 3) [1, 2, 3] := Rd8.new w [1, 2, 3] (by decide)
  have hc := RdR.new (sz := 4) (n := 1) (w.alloc (.cells #[.int .u8 1, .int .u8 2, .int .u8 3] 5)) [.int .u32 4096, .int .u32 8, .int .i64 5, .slice (some ⟨w.heap.size, 0, none⟩) 3 3] t1 rfl (by decide)
  rw [World.size_alloc] at hc
  refine IsImg.bw (w := ((w.alloc (.cells #[.int .u8 1, .int .u8 2, .int .u8 3] 5)).alloc (.cells #[.int .u32 4096, .int .u32 8, .int .i64 5, .slice (some ⟨w.heap.size, 0, none⟩) 3 3] t1))) ⟨_, rfl, ⟨[.slice (some ⟨w.heap.size, 0, none⟩) 3 3], rfl, hc, fun i s u a b => ?_, Img.smS_wf⟩, by decide, by decide⟩ h
  have hi := (List.getElem?_eq_some_iff.1 a).1
  have hi2 : i < 1 := hi
  obtain rfl : i = 0 := by omega
  have e1 : (⟨4096, 8, 5, [1, 2, 3]⟩ : Img.Seg) = s := by simpa [Img.sm, Img.smS] using a
  have e2 : Value.slice (some ⟨w.heap.size, 0, none⟩) 3 3 = u := by simpa using b
  subst e1 e2
  exact hr.bw ((Bw.refl _).alloc _)
set_option maxHeartbeats 1000000 in
set_option maxRecDepth 100000 in
theorem small_c (w : World) : Calls Try.prog 9 #[] w fun e w' => ∃ u, e = .returned u ∧ IsImg w' u Img.sm ∧ Bw w w' := by
  go_enter Try.func9, Try.ntmps9
  go_wp2_with fail
  go_returns
  have h := IsImg.sm (w.alloc (.cells #[.int .u32 4096, .slice (some ⟨w.heap.size + 1 + 1, 0, none⟩) 1 1] 26)) 30 _ (Bw.refl _)
  simp only [World.size_alloc] at h
  exact ⟨_, rfl, h, by (repeat' (first | (with_reducible assumption) | (with_reducible exact Bw.refl _) | (with_reducible refine Bw.alloc ?_ _) | (with_reducible refine Bw.drew ?_) | (with_reducible refine Bw.drewN ?_ _) | (with_reducible refine Bw.setCell ?_ ?_ _) | exact Nat.le_refl _))⟩
set_option maxHeartbeats 4000000 in
set_option maxRecDepth 100000 in
theorem great_c (v : Value) (i : Img.Im) (w : World) (hv : IsImg w v i) : Calls Try.prog 13 #[v] w fun e w' => ∃ r : Bool, e = .returned (.bool r) ∧ (r = false → i.segs.length ≤ 10 ∧ ∀ s ∈ i.segs, s.bytes.length ≤ 600) ∧ Bw w w' := by
  obtain ⟨u, rfl, hS, e0, e1⟩ := hv
  obtain ⟨q, cap, rfl, hc1, hc2, hcell⟩ := hS.open
  clear hS
  by_cases h10 : 10 < i.segs.length
  · have h10i : (10 : Int) < i.segs.length := by omega
    go_enter Try.func13, Try.ntmps13
    go_wp2_with fail
    go_returns
    exact ⟨true, rfl, by simp, by (repeat' (first | (with_reducible assumption) | (with_reducible exact Bw.refl _) | (with_reducible refine Bw.alloc ?_ _) | (with_reducible refine Bw.drew ?_) | (with_reducible refine Bw.drewN ?_ _) | (with_reducible refine Bw.setCell ?_ ?_ _) | exact Nat.le_refl _))⟩
  have h10i : (i.segs.length : Int) ≤ 10 := by omega
  go_enter Try.func13, Try.ntmps13
  go_wp2_with fail
  go_loopg [3] i.segs.length (fun g j wr => ∃ k : Nat, k + g = i.segs.length ∧ j = .int .i64 k ∧ Bw w wr ∧ wr.cell? ⟨w.heap.size, 1, none⟩ = some (.slice q i.segs.length cap) ∧ ∀ (n : Nat) s, n < k → i.segs[n]? = some s → s.bytes.length ≤ 600)
  case atStart => exact ⟨0, by omega, rfl, (Bw.refl _).alloc _, by rw [World.cell?_alloc_at _ _ _ _ (by simp)]; rfl, fun n s h => by omega⟩
  case round =>
    obtain ⟨k, hkg, rfl, hbw, hx1, hno⟩ := hrel
    have HNo : Hid _ := hno
    clear hno
    by_cases hk : k = i.segs.length
    · subst hk
      go_wp2_with fail
      go_returns
      exact ⟨false, rfl, fun _ => ⟨by omega, fun s hs => by obtain ⟨n, hn⟩ := List.getElem?_of_mem hs; exact HNo n s (List.getElem?_eq_some_iff.1 hn).1 hn⟩, hbw⟩
    · have hkl : k < i.segs.length := by omega
      have hki : (k : Int) < (i.segs.length : Int) := by omega
      obtain ⟨s, hs, hd⟩ := Img.drop_at hkl
      obtain ⟨b, o, qs, cs, rfl, hb, c0, c1, c2, c3, -, -, -⟩ := hcell k s hs
      replace c3 := hbw.keep c3
      have HS : Hid _ := hs
      clear hd hs
      by_cases h6 : 600 < s.bytes.length
      · have h6i : (600 : Int) < s.bytes.length := by omega
        go_wp2_with fail
        go_returns
        exact ⟨true, rfl, by simp, hbw⟩
      · have h6i : (s.bytes.length : Int) ≤ 600 := by omega
        have H6 : Hid _ := h6
        clear h6
        go_wp2_with fail
        go_roundg (i.segs.length - (k + 1))
        case measure => omega
        case rel => exact ⟨k + 1, by omega, by simp, hbw, hx1, fun n t h1 h2 => by
          by_cases e : n = k
          · subst e
            have : t = s := Option.some.inj (h2.symm.trans HS)
            subst this
            exact Nat.le_of_not_lt H6
          · exact HNo n t (by omega) h2⟩
end Go.Proofs.Ytaejcbmmapcpgaa
