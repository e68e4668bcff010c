/- LAYER 8's law ImageOrder. -/
import Derived.Test.YtaejcbmmapcpgaaImgAwake
import Derived.Test.YtaejcbmmapcpgaaImgArg
namespace Go.Proofs.Ytaejcbmmapcpgaa
open Go.ChangeShapes Go.WideShapes Go.ChangeAt Go.RowKit
set_option linter.unusedSimpArgs false

theorem Img.good_iff (i : Img.Im) : Img.good i = 0 ↔ i.segs.length ≤ 8 ∧ 0 < i.segs.length ∧ i.segs.all Img.segOk = true ∧ Img.sizes i.segs ≤ 65536 ∧ Img.anyShare i.segs = false ∧ Img.entryOk i = true := by
  constructor
  · exact Img.good_ok
  · rintro ⟨h1, h2, h3, h4, h5, h6⟩
    unfold Img.good
    rw [if_neg (by omega), if_neg (by omega), if_neg (by rw [h3]; decide), if_neg (by omega), h5, h6]
    rfl
theorem Img.sizes_rev : ∀ l : List Img.Seg, Img.sizes l.reverse = Img.sizes l
  | [] => rfl
  | s :: r => by rw [List.reverse_cons, Img.sizes_app, Img.sizes_rev r]; simp only [Img.sizes]; omega
theorem Img.anyShare_rev1 {l : List Img.Seg} (h : Img.anyShare l = true) : Img.anyShare l.reverse = true := by
  obtain ⟨n, m, s, t, h1, h2, h3, h4⟩ := (Img.anyShare_iff l).1 h
  have hn := (List.getElem?_eq_some_iff.1 h2).1
  refine (Img.anyShare_iff _).2 ⟨l.length - 1 - m, l.length - 1 - n, t, s, by omega, ?_, ?_, by rw [Img.share_comm]; exact h4⟩
  · rw [List.getElem?_reverse (by omega), show l.length - 1 - (l.length - 1 - m) = m by omega]; exact h3
  · rw [List.getElem?_reverse (by omega), show l.length - 1 - (l.length - 1 - n) = n by omega]; exact h2
theorem Img.anyShare_rev (l : List Img.Seg) : Img.anyShare l.reverse = Img.anyShare l := by
  rw [Bool.eq_iff_iff]
  exact ⟨fun h => by have := Img.anyShare_rev1 h; rwa [List.reverse_reverse] at this, Img.anyShare_rev1⟩
theorem Img.good_rev (e : Int) (l : List Img.Seg) : Img.good ⟨e, l.reverse⟩ = 0 ↔ Img.good ⟨e, l⟩ = 0 := by
  rw [Img.good_iff, Img.good_iff]
  dsimp only
  rw [List.length_reverse, List.all_reverse, Img.sizes_rev, Img.anyShare_rev]
  unfold Img.entryOk
  dsimp only
  rw [List.any_reverse]
set_option maxHeartbeats 8000000 in
set_option maxRecDepth 100000 in
theorem ImageOrder_w (v : Value) (w : World) (hv : ImgArg w v) : Calls Try.prog 7 #[v] w fun e w' => e = .returned (.bool true) ∧ Bw w w' := by
  obtain ⟨i, hp⟩ := hv
  have hGr := fun w' (g : Bw w w') => great_c v i w' (hp.bw g)
  have hGd := fun w' (g : Bw w w') => Good_c v i w' (hp.bw g)
  obtain ⟨u, rfl, hS, he0, he1⟩ := hp
  have hwf := hS.wf
  obtain ⟨us, q, cap, rfl, hc1, hc2, hus, hru, hcell⟩ := hS.openU
  have hxA := Box.new w [.int .u32 i.entry, .slice q i.segs.length cap] 26
  clear hS
  go_enter Try.func7, Try.ntmps7
  go_wp2_with fail
  refine (awake8_c _).mono ?_
  rintro e w1 ⟨rfl, hb1⟩
  obtain ⟨hbx, hx⟩ : Bw w w1 ∧ Box w1 w.heap.size [.int .u32 i.entry, .slice q i.segs.length cap] := ⟨((Bw.refl w).alloc _).trans hb1, hxA.bw hb1⟩
  clear hb1 hxA
  have x0 := hx.c 0 _ rfl; have x1 := hx.c 1 _ rfl
  go_wp2_with fail
  refine (hGr _ hbx).mono ?_
  rintro e w2 ⟨r, rfl, hr, hb2⟩
  clear hGr x0 x1
  replace hbx := hbx.trans hb2
  replace hx := hx.bw hb2
  clear hb2
  cases r
  rotate_left
  · go_wp2_with fail
    go_returns
    exact ⟨rfl, hbx⟩
  obtain ⟨hl10, -⟩ := hr rfl
  clear hr
  have x0 := hx.c 0 _ rfl; have x1 := hx.c 1 _ rfl
  have hl10i : (i.segs.length : Int) ≤ 10 := by omega
  have hrl4 := hx.lt
  go_wp2_with fail
  have hIB := Box.new w2 [.int .u32 i.entry, .slice none 0 0] 26
  obtain ⟨wA, hwA⟩ : ∃ x, w2.alloc (Obj.cells #[Value.int IntKind.u32 i.entry, Value.slice none 0 0] 26) = x := ⟨_, rfl⟩
  rw [hwA]
  have hIB : Box wA w2.heap.size [.int .u32 i.entry, .slice none 0 0] := hwA ▸ hIB
  have hb4A : Bw w2 wA := hwA ▸ ((Bw.refl w2).alloc _)
  have hbwA := hbx.trans hb4A
  replace hx := hx.bw hb4A
  clear hwA x0 x1
  generalize w2.heap.size = ib at *
  have hrn : w.heap.size ≠ ib := by omega
  have hibl := hIB.lt
  have husr : us.reverse.length = i.segs.reverse.length := by rw [List.length_reverse, List.length_reverse, hus]
  clear hb4A hbx
  go_loopg [4] i.segs.length (fun g j wr => ∃ k : Nat, ∃ u1 : Value, k + g = i.segs.length ∧ j = .int .i64 ((i.segs.length : Int) - 1 - k) ∧ Bq ib wA wr ∧ OwnR 30 4 wA wr u1 k (Img.cells (i.segs.reverse.take k) (us.reverse.take k)) ∧ Box wr ib [.int .u32 i.entry, u1])
  case atStart => exact ⟨0, _, by omega, congrArg (Value.int .i64) (by omega), Bq.refl _ _, OwnR.nil _ _ _ _, hIB⟩
  case round =>
    obtain ⟨k, u1, hkg, rfl, hbq, hown, hBX⟩ := hrel
    have hbwr := hbq.toBw hbwA (by omega)
    have hxr := hx.blk (hbq.block w.heap.size hx.lt hrn)
    have x0 := hxr.c 0 _ rfl; have x1 := hxr.c 1 _ rfl
    have y0 := hBX.c 0 _ rfl; have y1 := hBX.c 1 _ rfl
    by_cases hk : k = i.segs.length
    · subst hk
      rw [show ((i.segs.length : Int) - 1 - i.segs.length) = -1 by omega]
      have hSR : SegS wr u1 i.segs.reverse := ⟨us.reverse, husr, by
          rw [List.take_of_length_le (by rw [List.length_reverse]; omega), List.take_of_length_le (by rw [List.length_reverse]; omega)] at hown
          rw [List.length_reverse]; exact hown.rd, fun n s u a b => by
          have hn := (List.getElem?_eq_some_iff.1 a).1
          rw [List.length_reverse] at hn
          rw [List.getElem?_reverse hn] at a
          rw [List.getElem?_reverse (by omega), hus] at b
          exact (hru _ s u a b).bw hbwr, fun s hs => hwf s (List.mem_reverse.1 hs)⟩
      have hIs : IsImg wr (.agg #[.int .u32 i.entry, u1]) ⟨i.entry, i.segs.reverse⟩ := ⟨u1, rfl, hSR, he0, he1⟩
      have hG2 := fun X (g : Bw wr X) => Good_c _ _ X (hIs.bw g)
      have hG1 := fun X (g : Bw wr X) => hGd X (hbwr.trans g)
      have hrev := Img.good_rev i.entry i.segs
      obtain ⟨q1', c1', rfl, -⟩ := (OwnR.rd hown)
      have hHold : ∀ X, Bw wr X → (X.cell? ⟨w.heap.size, 0, none⟩ = some (.int .u32 i.entry) ∧ X.cell? ⟨w.heap.size, 1, none⟩ = some (.slice q i.segs.length cap) ∧ X.cell? ⟨ib, 0, none⟩ = some (.int .u32 i.entry) ∧ X.cell? ⟨ib, 1, none⟩ = some (.slice q1' i.segs.length c1')) := fun X g => ⟨g.keep x0, g.keep x1, g.keep y0, g.keep y1⟩
      have hB : Bw wr wr.drew := (Bw.refl wr).drew
      have hEQ : Hid ((Img.good i == 0) = (Img.good ⟨i.entry, i.segs.reverse⟩ == 0)) := by
        show _ = _
        rw [Bool.eq_iff_iff, beq_iff_eq, beq_iff_eq]; exact hrev.symm
      clear hown hIs hSR hrev hru
      generalize Img.good ⟨i.entry, i.segs.reverse⟩ = G2 at *
      generalize Img.good i = G1 at *
      go_wp2_with fail
      refine wp_region_held_drew (S := fun X => X.cell? ⟨w.heap.size, 0, none⟩ = some (.int .u32 i.entry) ∧ X.cell? ⟨w.heap.size, 1, none⟩ = some (.slice q i.segs.length cap) ∧ X.cell? ⟨ib, 0, none⟩ = some (.int .u32 i.entry) ∧ X.cell? ⟨ib, 1, none⟩ = some (.slice q1' i.segs.length c1')) (by kernel_rfl) (hHold _ hB) (fun hHeld => ?_)
      refine wpAnyH_take (i := 0) (oi := ⟨some 32, _, _, _, _, _⟩) (v := ?_) rfl (by kernel_rfl) (by kernel_rfl) (by kernel_rfl) (fun _ _ _ h => h) (Or.inl ⟨by rfl, ?_⟩) (by assumption) ?_; (rotate_left 1); (focus (intro wz hSw; (try dsimp only at hSw); go_simp; try (with_reducible rfl))); simp only [Act.put, List.setIfInBounds_toArray, List.set_cons_zero, List.set_cons_succ]
      refine wpAnyH_take (i := 2) (oi := ⟨some 34, _, _, _, _, _⟩) (v := ?_) rfl (by kernel_rfl) (by kernel_rfl) (by kernel_rfl) (fun _ _ _ h => h) (Or.inl ⟨by rfl, ?_⟩) (by assumption) ?_; (rotate_left 1); (focus (intro wz hSw; (try dsimp only at hSw); go_simp; try (with_reducible rfl))); simp only [Act.put, List.setIfInBounds_toArray, List.set_cons_zero, List.set_cons_succ]
      refine wpAnyH_ready (rs := [1]) (by kernel_rfl) (by simp) ?_; refine AllReadyH.cons rfl (fun K hK => ?_) AllReadyH.nil; go_simp
      refine (hG1 _ hB).mono ?_
      rintro e w8 ⟨rfl, h8⟩
      replace hB := hB.trans h8
      (try clear hHeld); refine hK.out _ _ ?_ (fun hHeld => ?_)
      · exact hHold _ hB
      refine wpAnyH_ready (rs := [3]) (by kernel_rfl) (by simp) ?_; refine AllReadyH.cons rfl (fun K hK => ?_) AllReadyH.nil; go_simp
      refine (hG2 _ hB).mono ?_
      rintro e w9 ⟨rfl, h9⟩
      replace hB := hB.trans h9
      (try clear hHeld); refine hK.out _ _ ?_ (fun hHeld => ?_)
      · exact hHold _ hB
      refine wpAnyH_take (i := 4) (oi := ⟨some 5, _, _, _, _, _⟩) (v := ?_) rfl (by kernel_rfl) (by kernel_rfl) (by kernel_rfl) (fun _ _ _ h => h) (Or.inl ⟨by rfl, ?_⟩) (by assumption) ?_; (rotate_left 1); (focus (intro wz hSw; (try dsimp only at hSw); go_simp; try (with_reducible rfl))); simp only [Act.put, List.setIfInBounds_toArray, List.set_cons_zero, List.set_cons_succ]
      refine wpAnyH_take (i := 5) (oi := ⟨some 6, _, _, _, _, _⟩) (v := ?_) rfl (by kernel_rfl) (by kernel_rfl) (by kernel_rfl) (fun _ _ _ h => h) (Or.inl ⟨by rfl, ?_⟩) (by assumption) ?_; (rotate_left 1); (focus (intro wz hSw; (try dsimp only at hSw); go_simp; try (with_reducible rfl))); simp only [Act.put, List.setIfInBounds_toArray, List.set_cons_zero, List.set_cons_succ]
      refine wpAnyH_done (by kernel_rfl) ?_ _
      clear hHold hG1 hG2 x0 x1 y0 y1
      go_wp2_with fail
      go_returns
      refine ⟨congrArg (fun b => Ending.returned (.bool b)) ?_, hbwr.trans hB⟩
      rw [show _ = _ from hEQ]; simp
    · have hkl : k < i.segs.length := by omega
      obtain ⟨m, hm⟩ : ∃ m, i.segs.length = m + k + 1 := ⟨i.segs.length - k - 1, by omega⟩
      rw [show ((i.segs.length : Int) - 1 - k) = (m : Int) by omega]
      have hml : (m : Int) < (i.segs.length : Int) := by omega
      obtain ⟨s, hs, hd⟩ := Img.drop_at (l := i.segs) (k := m) (by omega)
      obtain ⟨b, o, qs, cs, rfl, hb, c0, c1, c2, c3, hu, hR8⟩ := hcell m s hs
      have d0 := hbwA.keep c0; have d1 := hbwA.keep c1; have d2 := hbwA.keep c2; have d3 := hbwA.keep c3
      replace c0 := hbwr.keep c0
      replace c1 := hbwr.keep c1
      replace c2 := hbwr.keep c2
      replace c3 := hbwr.keep c3
      have hct := Img.cells_take (k := k) husr (by rw [List.getElem?_reverse hkl, show i.segs.length - 1 - k = m by omega]; exact hs) (by rw [List.getElem?_reverse (by omega), hus, show i.segs.length - 1 - k = m by omega]; exact hu)
      have hsz : wA.heap.size ≤ wr.heap.size := hbq.b0.size
      obtain ⟨v6, w6, hr6, ho6, hA6⟩ := appA (ty := 24) infoSeg Try.underlying24 rfl (by omega) (by omega) (hown.bw ((Bw.refl wr).drew)) (by exact hsz) 1 (Img.segC s (.slice qs s.bytes.length cs)) rfl (fun x hx => by simp [Img.segC] at hx; rcases hx with rfl | rfl | rfl | rfl <;> rfl) (by omega)
      rw [← hct] at ho6
      obtain ⟨g6, cp6, rfl⟩ := OwnR.form ho6 (by omega)
      have hownb := hown.own
      have hbx6 := (hBX.bw ((Bw.refl wr).drew)).blk (hA6.block ib (hBX.bw ((Bw.refl wr).drew)).lt (fun e => by have := (hownb _ e).1; omega))
      have z1 := hbx6.c 1 _ rfl; have z1f := hbx6.f 1 (by simp)
      have hbq6 := Bq.ap (hbq.bw ((Bw.refl wr).drew)) hA6 (fun j e => (hownb j e).1)
      have hr7 : (Builtin.append_ #[24, 24] 24 #[u1, .slice (some ⟨wr.heap.size, 0, none⟩) 1 1]).run Try.prog (wr.drew.alloc (.cells #[.int .u32 s.addr, .int .u32 s.size, .int .i64 s.perm, .slice qs s.bytes.length cs] 30)) = .ok (.slice (some ⟨g6, 0, none⟩) (k + 1) cp6) w6 := hr6
      have hbwD : Bw wA wA := Bw.refl _
      have hne : b ≠ ib := fun e => by
        subst e
        have := hIB.lt
        have hbl : b < w.heap.size := hb
        omega
      have HSX : Hid (∀ X, Bq ib wA X → (X.cell? ⟨w.heap.size, 1, none⟩ = some (.slice (some ⟨b, o, none⟩) i.segs.length cap) ∧ X.cell? ⟨b, o + m * 4, none⟩ = some (.int .u32 s.addr) ∧ X.cell? ⟨b, o + m * 4 + 1, none⟩ = some (.int .u32 s.size) ∧ X.cell? ⟨b, o + m * 4 + 2, none⟩ = some (.int .i64 s.perm) ∧ X.cell? ⟨b, o + m * 4 + 3, none⟩ = some (.slice qs s.bytes.length cs))) := fun X g => ⟨g.keep (hx.c 1 _ rfl) hrn, g.keep d0 hne, g.keep d1 hne, g.keep d2 hne, g.keep d3 hne⟩
      have HM : Hid _ := hm
      have hibr := hBX.lt
      clear hr6 hct hd hs hu hR8 hru hus d0 d1 d2 d3 hm
      go_wp2_with fail
      refine wp_region_held_drew (S := fun X => X.cell? ⟨w.heap.size, 1, none⟩ = some (.slice (some ⟨b, o, none⟩) i.segs.length cap) ∧ X.cell? ⟨b, o + m * 4, none⟩ = some (.int .u32 s.addr) ∧ X.cell? ⟨b, o + m * 4 + 1, none⟩ = some (.int .u32 s.size) ∧ X.cell? ⟨b, o + m * 4 + 2, none⟩ = some (.int .i64 s.perm) ∧ X.cell? ⟨b, o + m * 4 + 3, none⟩ = some (.slice qs s.bytes.length cs)) (by kernel_rfl) ((show ∀ X, _ → _ from HSX) _ (hbq.bw ((Bw.refl wr).drew))) (fun hHeld => ?_)
      refine wpAnyH_take (i := 0) (oi := ⟨some 22, _, _, _, _, _⟩) (v := ?_) rfl (by kernel_rfl) (by kernel_rfl) (by kernel_rfl) (fun _ _ _ h => h) (Or.inl ⟨by rfl, ?_⟩) (by assumption) ?_; (rotate_left 1); (focus (intro wz hSw; (try dsimp only at hSw); go_simp; try (with_reducible rfl))); simp only [Act.put, List.setIfInBounds_toArray, List.set_cons_zero, List.set_cons_succ]
      refine wpAnyH_take (i := 2) (oi := ⟨some 24, _, _, _, _, _⟩) (v := ?_) rfl (by kernel_rfl) (by kernel_rfl) (by kernel_rfl) (fun _ _ _ h => h) (Or.inl ⟨by rfl, ?_⟩) (by assumption) ?_; (rotate_left 1); (focus (intro wz hSw; (try dsimp only at hSw); go_simp; try (with_reducible rfl))); simp only [Act.put, List.setIfInBounds_toArray, List.set_cons_zero, List.set_cons_succ]
      refine wpAnyH_take (i := 3) (oi := ⟨some 25, _, _, _, _, _⟩) (v := ?_) rfl (by kernel_rfl) (by kernel_rfl) (by kernel_rfl) (fun _ _ _ h => h) (Or.inl ⟨by rfl, ?_⟩) (by assumption) ?_; (rotate_left 1); (focus (intro wz hSw; (try dsimp only at hSw); go_simp; try (with_reducible rfl))); simp only [Act.put, List.setIfInBounds_toArray, List.set_cons_zero, List.set_cons_succ]
      refine wpAnyH_take (i := 4) (oi := ⟨some 26, _, _, _, _, _⟩) (v := ?_) rfl (by kernel_rfl) (by kernel_rfl) (by kernel_rfl) (fun _ _ _ h => h) (Or.inl ⟨by rfl, ?_⟩) (by assumption) ?_; (rotate_left 1); (focus (intro wz hSw; (try dsimp only at hSw); go_simp; try (with_reducible rfl))); simp only [Act.put, List.setIfInBounds_toArray, List.set_cons_zero, List.set_cons_succ]
      refine wpAnyH_take (i := 5) (oi := ⟨some 27, _, _, _, _, _⟩) (v := ?_) rfl (by kernel_rfl) (by kernel_rfl) (by kernel_rfl) (fun _ _ _ h => h) (Or.inl ⟨by rfl, ?_⟩) (by assumption) ?_; (rotate_left 1); (focus (intro wz hSw; (try dsimp only at hSw); go_simp; try (with_reducible rfl))); simp only [Act.put, List.setIfInBounds_toArray, List.set_cons_zero, List.set_cons_succ]
      refine wpAnyH_take (i := 6) (oi := ⟨some 28, _, _, _, _, _⟩) (v := ?_) rfl (by kernel_rfl) (by kernel_rfl) (by kernel_rfl) (fun _ _ _ h => h) (Or.inl ⟨by rfl, ?_⟩) (by assumption) ?_; (rotate_left 1); (focus (intro wz hSw; (try dsimp only at hSw); go_simp; try (with_reducible rfl))); simp only [Act.put, List.setIfInBounds_toArray, List.set_cons_zero, List.set_cons_succ]
      refine wpAnyH_ready (rs := [1, 7]) (by kernel_rfl) (by simp) ?_
      refine AllReadyH.cons rfl (fun K hK => ?_) (AllReadyH.cons rfl (fun K hK => ?_) AllReadyH.nil)
      · go_simp; (try clear hHeld); refine hK.out _ _ ?_ (fun hHeld => ?_); focus (exact (show ∀ X, _ → _ from HSX) _ (by first | exact hbq6 | exact hbq6.set _ _ | exact hbq.bw (by (repeat' (first | (with_reducible assumption) | (with_reducible exact Bw.refl _) | (with_reducible refine Bw.alloc ?_ _) | (with_reducible refine Bw.drew ?_) | (with_reducible refine Bw.drewN ?_ _) | (with_reducible refine Bw.setCell ?_ ?_ _) | exact Nat.le_refl _)))))
        refine wpAnyH_ready (rs := [7]) (by kernel_rfl) (by simp) ?_; refine AllReadyH.cons rfl (fun K hK => ?_) AllReadyH.nil; go_simp; (try clear hHeld); refine hK.out _ _ ?_ (fun hHeld => ?_); focus (exact (show ∀ X, _ → _ from HSX) _ (by first | exact hbq6 | exact hbq6.set _ _ | exact hbq.bw (by (repeat' (first | (with_reducible assumption) | (with_reducible exact Bw.refl _) | (with_reducible refine Bw.alloc ?_ _) | (with_reducible refine Bw.drew ?_) | (with_reducible refine Bw.drewN ?_ _) | (with_reducible refine Bw.setCell ?_ ?_ _) | exact Nat.le_refl _)))))
        refine wpAnyH_ready (rs := [8]) (by kernel_rfl) (by simp) ?_; refine AllReadyH.cons rfl (fun K hK => ?_) AllReadyH.nil; refine stepApp rfl _ _ 24 rfl rfl rfl hr7 ?_; (try clear hHeld); refine hK.out _ _ ?_ (fun hHeld => ?_); focus (exact (show ∀ X, _ → _ from HSX) _ (by first | exact hbq6 | exact hbq6.set _ _ | exact hbq.bw (by (repeat' (first | (with_reducible assumption) | (with_reducible exact Bw.refl _) | (with_reducible refine Bw.alloc ?_ _) | (with_reducible refine Bw.drew ?_) | (with_reducible refine Bw.drewN ?_ _) | (with_reducible refine Bw.setCell ?_ ?_ _) | exact Nat.le_refl _)))))
        simp only [Act.put, List.setIfInBounds_toArray, List.set_cons_zero, List.set_cons_succ]
        refine wpAnyH_take (i := 9) (oi := ⟨some 31, _, _, _, _, _⟩) (v := ?_) rfl (by kernel_rfl) (by kernel_rfl) (by kernel_rfl) (fun _ _ _ h => h) (Or.inl ⟨by rfl, ?_⟩) (by assumption) ?_; (rotate_left 1); (focus (intro wz hSw; (try dsimp only at hSw); go_simp; try (with_reducible rfl))); simp only [Act.put, List.setIfInBounds_toArray, List.set_cons_zero, List.set_cons_succ]
        refine wpAnyH_ready (rs := [10]) (by kernel_rfl) (by simp) ?_; refine AllReadyH.cons rfl (fun K hK => ?_) AllReadyH.nil; go_simp; (try clear hHeld); refine hK.out _ _ ?_ (fun hHeld => ?_); focus (exact (show ∀ X, _ → _ from HSX) _ (by first | exact hbq6 | exact hbq6.set _ _ | exact hbq.bw (by (repeat' (first | (with_reducible assumption) | (with_reducible exact Bw.refl _) | (with_reducible refine Bw.alloc ?_ _) | (with_reducible refine Bw.drew ?_) | (with_reducible refine Bw.drewN ?_ _) | (with_reducible refine Bw.setCell ?_ ?_ _) | exact Nat.le_refl _)))))
        refine wpAnyH_done (by kernel_rfl) ?_ _
        go_wp2_with fail
        go_roundg (i.segs.length - (k + 1))
        case measure => omega
        case rel => exact ⟨k + 1, _, by omega, congrArg (Value.int .i64) (by have : i.segs.length = m + k + 1 := HM; omega), hbq6.set _ _, ho6.set hibl _ _, hbx6.set 1 (by simp) _⟩
      · go_simp; (try clear hHeld); refine hK.out _ _ ?_ (fun hHeld => ?_); focus (exact (show ∀ X, _ → _ from HSX) _ (by first | exact hbq6 | exact hbq6.set _ _ | exact hbq.bw (by (repeat' (first | (with_reducible assumption) | (with_reducible exact Bw.refl _) | (with_reducible refine Bw.alloc ?_ _) | (with_reducible refine Bw.drew ?_) | (with_reducible refine Bw.drewN ?_ _) | (with_reducible refine Bw.setCell ?_ ?_ _) | exact Nat.le_refl _)))))
        refine wpAnyH_ready (rs := [1]) (by kernel_rfl) (by simp) ?_; refine AllReadyH.cons rfl (fun K hK => ?_) AllReadyH.nil; go_simp; (try clear hHeld); refine hK.out _ _ ?_ (fun hHeld => ?_); focus (exact (show ∀ X, _ → _ from HSX) _ (by first | exact hbq6 | exact hbq6.set _ _ | exact hbq.bw (by (repeat' (first | (with_reducible assumption) | (with_reducible exact Bw.refl _) | (with_reducible refine Bw.alloc ?_ _) | (with_reducible refine Bw.drew ?_) | (with_reducible refine Bw.drewN ?_ _) | (with_reducible refine Bw.setCell ?_ ?_ _) | exact Nat.le_refl _)))))
        refine wpAnyH_ready (rs := [8]) (by kernel_rfl) (by simp) ?_; refine AllReadyH.cons rfl (fun K hK => ?_) AllReadyH.nil; refine stepApp rfl _ _ 24 rfl rfl rfl hr7 ?_; (try clear hHeld); refine hK.out _ _ ?_ (fun hHeld => ?_); focus (exact (show ∀ X, _ → _ from HSX) _ (by first | exact hbq6 | exact hbq6.set _ _ | exact hbq.bw (by (repeat' (first | (with_reducible assumption) | (with_reducible exact Bw.refl _) | (with_reducible refine Bw.alloc ?_ _) | (with_reducible refine Bw.drew ?_) | (with_reducible refine Bw.drewN ?_ _) | (with_reducible refine Bw.setCell ?_ ?_ _) | exact Nat.le_refl _)))))
        simp only [Act.put, List.setIfInBounds_toArray, List.set_cons_zero, List.set_cons_succ]
        refine wpAnyH_take (i := 9) (oi := ⟨some 31, _, _, _, _, _⟩) (v := ?_) rfl (by kernel_rfl) (by kernel_rfl) (by kernel_rfl) (fun _ _ _ h => h) (Or.inl ⟨by rfl, ?_⟩) (by assumption) ?_; (rotate_left 1); (focus (intro wz hSw; (try dsimp only at hSw); go_simp; try (with_reducible rfl))); simp only [Act.put, List.setIfInBounds_toArray, List.set_cons_zero, List.set_cons_succ]
        refine wpAnyH_ready (rs := [10]) (by kernel_rfl) (by simp) ?_; refine AllReadyH.cons rfl (fun K hK => ?_) AllReadyH.nil; go_simp; (try clear hHeld); refine hK.out _ _ ?_ (fun hHeld => ?_); focus (exact (show ∀ X, _ → _ from HSX) _ (by first | exact hbq6 | exact hbq6.set _ _ | exact hbq.bw (by (repeat' (first | (with_reducible assumption) | (with_reducible exact Bw.refl _) | (with_reducible refine Bw.alloc ?_ _) | (with_reducible refine Bw.drew ?_) | (with_reducible refine Bw.drewN ?_ _) | (with_reducible refine Bw.setCell ?_ ?_ _) | exact Nat.le_refl _)))))
        refine wpAnyH_done (by kernel_rfl) ?_ _
        go_wp2_with fail
        go_roundg (i.segs.length - (k + 1))
        case measure => omega
        case rel => exact ⟨k + 1, _, by omega, congrArg (Value.int .i64) (by have : i.segs.length = m + k + 1 := HM; omega), hbq6.set _ _, ho6.set hibl _ _, hbx6.set 1 (by simp) _⟩
end Go.Proofs.Ytaejcbmmapcpgaa
