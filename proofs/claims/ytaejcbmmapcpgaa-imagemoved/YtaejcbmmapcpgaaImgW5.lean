/- LAYER 8's walks: Put. -/
import Derived.Test.YtaejcbmmapcpgaaImgW4
namespace Go.Proofs.Ytaejcbmmapcpgaa
open Go.ChangeShapes Go.WideShapes Go.ChangeAt Go.RowKit

theorem Img.good_ok {i : Img.Im} (h : Img.good i = 0) : i.segs.length ≤ 8 ∧ 0 < i.segs.length ∧ i.segs.all Img.segOk = true ∧ Img.sizes i.segs ≤ 65536 ∧ Img.anyShare i.segs = false ∧ Img.entryOk i = true := by
  unfold Img.good at h
  by_cases h1 : 8 < i.segs.length
  · rw [if_pos h1] at h; omega
  rw [if_neg h1] at h
  by_cases h2 : i.segs.length = 0
  · rw [if_pos h2] at h; omega
  rw [if_neg h2] at h
  cases h3 : i.segs.all Img.segOk with
  | false => rw [h3, if_pos rfl] at h; omega
  | true =>
    rw [h3, if_neg (by simp)] at h
    by_cases h4 : 65536 < Img.sizes i.segs
    · rw [if_pos h4] at h; omega
    rw [if_neg h4] at h
    cases h5 : Img.anyShare i.segs with
    | true => rw [h5, Bool.true_or, if_pos rfl] at h; omega
    | false =>
      cases h6 : Img.entryOk i with
      | false => rw [h5, h6] at h; simp at h
      | true => exact ⟨by omega, by omega, rfl, by omega, rfl, rfl⟩
theorem Img.segOk_bd {s : Img.Seg} (h : Img.segOk s = true) : s.addr % 256 = 0 ∧ s.size ≠ 0 ∧ (s.bytes.length : Int) ≤ s.size ∧ Img.fin s ≤ 4294967296 ∧ 0 ≤ s.perm ∧ s.perm ≤ 7 := by
  unfold Img.segOk at h
  simp only [Bool.and_eq_true, beq_iff_eq, bne_iff_ne, decide_eq_true_eq] at h
  obtain ⟨⟨⟨⟨⟨a, b⟩, c⟩, d⟩, e⟩, f⟩ := h
  exact ⟨a, b, c, d, e, f⟩
theorem Img.lens_sizes : ∀ {l : List Img.Seg}, l.all Img.segOk = true → (Img.lens l : Int) ≤ Img.sizes l
  | [], _ => by simp [Img.lens, Img.sizes]
  | s :: r, h => by
    rw [List.all_cons, Bool.and_eq_true] at h
    have := Img.lens_sizes h.2
    have := (Img.segOk_bd h.1).2.2.1
    simp only [Img.lens, Img.sizes]; omega
theorem Img.lens_mem : ∀ {l : List Img.Seg} {s : Img.Seg}, s ∈ l → s.bytes.length ≤ Img.lens l
  | a :: r, s, h => by
    rcases List.mem_cons.1 h with rfl | h
    · simp only [Img.lens]; omega
    · have := Img.lens_mem h; simp only [Img.lens]; omega
/-- Put's answer. -/
def PutPost (i : Img.Im) (w : World) (e : Ending) (w' : World) : Prop := ∃ u, e = .returned (.tuple #[u, .int .i64 (Img.putE i)]) ∧ Own8 w w' u (if Img.putE i = 0 then Img.put i else []) ∧ Bw w w'
theorem put_bad {i : Img.Im} {w w' : World} {E : Int} (h : Img.putE i = E) (h0 : E ≠ 0) (g : Bw w w') : PutPost i w (.returned (.tuple #[.slice none 0 0, .int .i64 E])) w' :=
  ⟨_, by rw [h], by rw [h, if_neg h0]; exact Own8.nil _ _, g⟩
theorem put_good {i : Img.Im} {w w' : World} {u : Value} (h : Img.putE i = 0) (ho : Own8 w w' u (Img.put i)) (g : Bw w w') : PutPost i w (.returned (.tuple #[u, .int .i64 0])) w' :=
  ⟨u, by rw [h], by rw [if_pos h]; exact ho, g⟩
set_option maxHeartbeats 4000000 in
set_option maxRecDepth 100000 in
theorem Put_c (v : Value) (i : Img.Im) (w : World) (hv : IsImg w v i) : Calls Try.prog 11 #[v] w (PutPost i w) := by
  have hG := fun w' (g : Bw w w') => Good_c v i w' (hv.bw g)
  obtain ⟨u, rfl, hv, e0, e1⟩ := hv
  have hAB := fun w' (g : Bw w w') h h2 => allBytes_c u i.segs w' (hv.bw g) h h2
  have hwf := hv.wf
  obtain ⟨q, cap, rfl, hc1, hc2, hcell⟩ := hv.open
  clear hv
  by_cases hg : Img.good i = 0
  rotate_left
  · have hE : Img.putE i = Img.good i := by unfold Img.putE; rw [if_pos hg]
    have HE : Hid _ := hE
    have hgb : (Img.good i != 0) = true := by simpa using hg
    have HG : Hid _ := hg
    clear hE hg
    generalize Img.good i = E at *
    go_enter Try.func11, Try.ntmps11
    go_wp2_with (go_at_call 12; refine (hG _ ((Bw.refl _).alloc _)).mono ?_; rintro e w2 ⟨rfl, hb2⟩)
    go_returns
    exact put_bad HE HG (((Bw.refl _).alloc _).trans hb2)
  obtain ⟨l8, l0, hall, hsz, -, -⟩ := Img.good_ok hg
  have hlens := Img.lens_sizes hall
  have hE : Img.putE i = if 65536 < 52 + 32 * i.segs.length + Img.lens i.segs then 2 else 0 := by unfold Img.putE; rw [if_neg (by simpa using hg)]
  rw [hg] at hG
  replace hAB := fun w' g => hAB w' g (by omega) (by omega)
  have hln : Img.lens i.segs ≤ 65536 := by omega
  obtain ⟨wB, hwB, hbB, x0, x1⟩ : ∃ wB, w.alloc (.cells #[.int .u32 i.entry, .slice q i.segs.length cap] 26) = wB ∧ Bw w wB ∧ wB.cell? ⟨w.heap.size, 0, none⟩ = some (.int .u32 i.entry) ∧ wB.cell? ⟨w.heap.size, 1, none⟩ = some (.slice q i.segs.length cap) :=
    ⟨_, rfl, (Bw.refl w).alloc _, by rw [World.cell?_alloc_at _ _ _ _ (by simp)]; rfl, by rw [World.cell?_alloc_at _ _ _ _ (by simp)]; rfl⟩
  have hl8i : (i.segs.length : Int) ≤ 8 := by omega
  have hlni : (Img.lens i.segs : Int) ≤ 65536 := by omega
  have HE : Hid _ := hE
  have HA : Hid _ := hall
  clear hE hall hsz hlens hg
  generalize hZ : Img.lens i.segs = Z at *
  by_cases hbig : 65536 < 52 + 32 * i.segs.length + Z
  · have hbi : (65536 : Int) < 52 + 32 * (i.segs.length : Int) + (Z : Int) := by omega
    go_enter Try.func11, Try.ntmps11
    go_wp2_with (first | (go_at_call 12; refine (hG _ hbB).mono ?_; rintro e w2 ⟨rfl, hb2⟩; have y1 := hb2.keep x1; have hA2 := hAB _ (hbB.trans hb2)) | (go_at_call 23; refine hA2.mono ?_; rintro e w3 ⟨rfl, hb3⟩))
    go_returns
    exact put_bad (E := 2) (by rw [show _ = _ from HE, if_pos hbig]) (by decide) ((hbB.trans hb2).trans hb3)
  have hbi : 52 + 32 * (i.segs.length : Int) + (Z : Int) ≤ 65536 := by omega
  have HE0 : Hid (Img.putE i = 0) := by rw [show _ = _ from HE, if_neg hbig]; rfl
  clear HE
  have hw16 : IntKind.u16.wrap (i.segs.length : Int) = i.segs.length := by rw [IntKind.wrap_u16]; omega
  have hm16 : (i.segs.length : Int) % 65536 = i.segs.length := by omega
  have hHd := fun w0 wr (h : Bw w0 wr) => appendHead_c i.entry i.segs.length e0 e1 (by omega) (by omega) h
  go_enter Try.func11, Try.ntmps11
  go_wp2_with (first | (go_at_call 12; refine (hG _ hbB).mono ?_; rintro e w2 ⟨rfl, hb2⟩; have y1 := hb2.keep x1; have y0 := hb2.keep x0; have hA2 := hAB _ (hbB.trans hb2)) | (go_at_call 23; refine hA2.mono ?_; rintro e w3 ⟨rfl, hb3⟩; have z0 := hb3.keep y0; have z1 := hb3.keep y1) | (go_at_call 24; refine (hHd wB _ (hb2.trans hb3)).mono ?_; rintro e w4 ⟨v4, rfl, ho4, hb4, ha4⟩; have t1 := hb4.keep x1))
  have hbA := hb4
  clear hA2 y0 y1 z0 z1 t1 hAB hG hHd ha4
  have HI : Hid _ := hb2
  clear hb2 hb3
  generalize hP0 : 52 + 32 * i.segs.length = P0 at *
  have hP0i : 52 + 32 * (i.segs.length : Int) = (P0 : Int) := by omega
  have HP0 : Hid _ := hP0
  simp only [hP0i] at *
  clear hP0
  go_loopg [5, 6, 37] i.segs.length (fun g p b j wr => ∃ k : Nat, ∃ pl : Nat, k + g = i.segs.length ∧ p = .int .i64 pl ∧ j = .int .i64 k ∧ pl = P0 + Img.lens (i.segs.take k) ∧ Own8 wB wr b (Img.head i.entry i.segs.length ++ Img.rows P0 (i.segs.take k)) ∧ Bw wB wr)
  case atStart => exact ⟨0, P0, by omega, rfl, rfl, by simp [Img.lens], by simpa [Img.rows] using ho4, hb4⟩
  case round =>
    obtain ⟨k, pl, hkg, rfl, rfl, hpl, hown, hbw⟩ := hrel
    have hbW := hbB.trans hbw
    have hlen : (Img.head i.entry i.segs.length ++ Img.rows P0 (i.segs.take k)).length = 52 + k * 32 := by
      rw [List.length_append, Img.head_len, Img.rows_len, List.length_take, Nat.min_eq_left (by omega)]
    by_cases hk : k = i.segs.length
    · subst hk
      rw [List.take_length] at hown hlen
      have t1 := hbw.keep x1
      clear ho4 hb4 hbA hpl
      go_wp2_with fail
      have hlenD := fun k => Img.data_len (i.segs.take k)
      go_loopg [6, 67] i.segs.length (fun g b j wx => ∃ k : Nat, k + g = i.segs.length ∧ j = .int .i64 k ∧ Own8 wB wx b (Img.head i.entry i.segs.length ++ Img.rows P0 i.segs ++ Img.data (i.segs.take k)) ∧ Bw wB wx)
      case atStart => exact ⟨0, by omega, rfl, by simpa [Img.data] using hown, hbw⟩
      case round =>
        obtain ⟨k, hkg, rfl, hown2, hbx⟩ := hrel
        have hbX := hbB.trans hbx
        by_cases hk : k = i.segs.length
        · subst hk
          rw [List.take_length] at hown2
          have hPut : Own8 w wr u6 (Img.put i) := by unfold Img.put; rw [show 52 + 32 * i.segs.length = P0 from HP0]; exact hown2.le hbB.size
          have HPut : Hid _ := hPut
          clear hPut hown2 hown
          go_wp2_with fail
          go_returns
          exact put_good HE0 HPut hbX
        · have hkl : k < i.segs.length := by omega
          have hki : (k : Int) < (i.segs.length : Int) := by omega
          obtain ⟨s, hs, hd⟩ := Img.drop_at hkl
          obtain ⟨b, o, qs, cs, rfl, hb, c0, c1, c2, c3, -, -, hR8⟩ := hcell k s hs
          replace c0 := hbX.keep c0
          replace c1 := hbX.keep c1
          replace c2 := hbX.keep c2
          replace c3 := hbX.keep c3
          have htk : i.segs.take (k + 1) = i.segs.take k ++ [s] := by rw [List.take_add_one, hs]; rfl
          have HT : Hid (Img.data (i.segs.take (k + 1)) = Img.data (i.segs.take k) ++ s.bytes) := by rw [htk]; show _ = _; simp [Img.data]
          have hll := Img.lens_app (i.segs.take (k + 1)) (i.segs.drop (k + 1))
          rw [List.take_append_drop, htk, Img.lens_app] at hll
          have hll2 : Img.lens [s] = s.bytes.length := by simp [Img.lens]
          obtain ⟨v5, w5, hr5, ho5, hb5, -⟩ := app8S (x := .slice qs s.bytes.length cs) (hown2.bw ((Bw.refl _).alloc (.cells #[.int .u32 s.addr, .int .u32 s.size, .int .i64 s.perm, .slice qs s.bytes.length cs] 30))) (hbx.alloc _) (hR8.bw (hbX.alloc _)) (by rw [List.length_append, hlen, hlenD]; omega)
          have HO : Hid _ := ho5
          have HB5 : Hid _ := hb5
          clear hd hs htk hll hll2 ho5 hb5 hR8 hown hlen hlenD
          go_wp2_with (first | (at_builtin; refine wpApp rfl _ _ 28 rfl rfl rfl hr5 ?_) | go_in)
          go_roundg (i.segs.length - (k + 1))
          case measure => omega
          case rel => exact ⟨k + 1, by omega, by simp, by rw [show _ = _ from HT, ← List.append_assoc]; exact HO, HB5⟩
    · have hkl : k < i.segs.length := by omega
      have hki : (k : Int) < (i.segs.length : Int) := by omega
      obtain ⟨s, hs, hd⟩ := Img.drop_at hkl
      obtain ⟨b, o, qs, cs, rfl, hb, c0, c1, c2, c3, -, -, -⟩ := hcell k s hs
      replace c0 := hbW.keep c0
      replace c1 := hbW.keep c1
      replace c2 := hbW.keep c2
      replace c3 := hbW.keep c3
      obtain ⟨_, z0, z1, z2, z3, z4⟩ := Img.segOk_bd (List.all_eq_true.1 HA s (List.mem_of_getElem? hs))
      obtain ⟨a0, a1, y0, y1, _, _, _⟩ := hwf s (List.mem_of_getElem? hs)
      have htk : i.segs.take (k + 1) = i.segs.take k ++ [s] := by rw [List.take_add_one, hs]; rfl
      have HT : Hid (Img.rows P0 (i.segs.take (k + 1)) = Img.rows P0 (i.segs.take k) ++ Img.rowOf pl s) := by
        rw [htk, Img.rows_app, ← hpl]; show _ = _; simp [Img.rows]
      have HL : Hid (P0 + Img.lens (i.segs.take (k + 1)) = pl + s.bytes.length) := by
        rw [htk, Img.lens_app, hpl]; show _ = _; simp [Img.lens]; omega
      have hpz : pl + s.bytes.length ≤ P0 + Z := by
        rw [← (show _ = _ from HL), ← hZ]
        have := Img.lens_app (i.segs.take (k + 1)) (i.segs.drop (k + 1))
        rw [List.take_append_drop] at this
        omega
      have hsl : s.bytes.length ≤ 65536 := by omega
      have hplb : pl ≤ 65536 := by omega
      have hslI : (s.bytes.length : Int) ≤ 65536 := by omega
      have hplI : (pl : Int) ≤ 65536 := by omega
      have w1 : IntKind.u32.wrap (pl : Int) = pl := by rw [IntKind.wrap_u32]; omega
      have w2 : IntKind.u32.wrap (s.bytes.length : Int) = s.bytes.length := by rw [IntKind.wrap_u32]; omega
      have w3 : IntKind.u32.wrap s.perm = s.perm := by rw [IntKind.wrap_u32]; omega
      have m1 : (pl : Int) % 4294967296 = pl := by omega
      have m2 : (s.bytes.length : Int) % 4294967296 = s.bytes.length := by omega
      have m3 : s.perm % 4294967296 = s.perm := by omega
      have hSw := fun X => swapPerm_c s.perm z3 z4 X
      obtain ⟨s0, s1⟩ := Img.swap_bd (p := s.perm)
      have hno : u6.ownBlock ≠ some wr.heap.size := fun e => by have := (hown.blk _ e).2; omega
      have HNo : Hid _ := hno
      have HPl : Hid _ := hpl
      clear hno hd hs htk hpl
      go_wp2_with fail
      obtain ⟨wS, hwS, hbS, hsB⟩ : ∃ wS, wr.alloc (.cells #[.int .u32 s.addr, .int .u32 s.size, .int .i64 s.perm, .slice qs s.bytes.length cs] 30) = wS ∧ Bw wr wS ∧ SBox wS wr.heap.size s (.slice qs s.bytes.length cs) := ⟨_, rfl, (Bw.refl wr).alloc _, SBox.new wr s _ _⟩
      rw [hwS]
      have hBd := (Bw.refl wS).drew
      have hlt := hsB.lt
      have hS : ∀ wx, Bw wS wx → (wx.cell? ⟨wr.heap.size, 0, none⟩ = some (.int .u32 s.addr) ∧ wx.cell? ⟨wr.heap.size, 1, none⟩ = some (.int .u32 s.size) ∧ wx.cell? ⟨wr.heap.size, 2, none⟩ = some (.int .i64 s.perm) ∧ wx.cell? ⟨wr.heap.size, 3, none⟩ = some (.slice qs s.bytes.length cs)) := fun wx g => ⟨g.keep hsB.c0, g.keep hsB.c1, g.keep hsB.c2, g.keep hsB.c3⟩
      have hAR := appendRow_c (w0 := wB) (wr := wS.drew) (v := u6) (pl : Int) s.addr (s.bytes.length : Int) s.size (Img.swap s.perm) ⟨by omega, by omega⟩ ⟨a0, a1⟩ ⟨by omega, by omega⟩ ⟨y0, y1⟩ ⟨by omega, by omega⟩ ((hown.bw hbS).bw hBd) ((hbw.trans hbS).trans hBd) (by rw [hlen]; omega)
      obtain ⟨SW, hSW⟩ : ∃ x, Img.swap s.perm = x := ⟨_, rfl⟩
      rw [hSW] at hAR s0 s1
      simp only [hSW] at hSw
      have HSW : Hid _ := hSW
      clear hSW
      refine wp_region_held_drew (S := fun wx => wx.cell? ⟨wr.heap.size, 0, none⟩ = some (.int .u32 s.addr) ∧ wx.cell? ⟨wr.heap.size, 1, none⟩ = some (.int .u32 s.size) ∧ wx.cell? ⟨wr.heap.size, 2, none⟩ = some (.int .i64 s.perm) ∧ wx.cell? ⟨wr.heap.size, 3, none⟩ = some (.slice qs s.bytes.length cs)) (by kernel_rfl) (hS _ hBd) (fun hHeld => ?_)
      refine wpAnyH_take (i := 0) (oi := ⟨some 41, _, _, _, _, _⟩) (v := ?_) rfl (by kernel_rfl) (by kernel_rfl) (by kernel_rfl) (fun _ _ _ h => h) (Or.inl ⟨by rfl, ?_⟩) (by assumption) ?_; (rotate_left 1); (focus (intro wz hSw; (try dsimp only at hSw); go_simp; try (with_reducible rfl))); simp only [Act.put, List.setIfInBounds_toArray, List.set_cons_zero, List.set_cons_succ]
      refine wpAnyH_take (i := 1) (oi := ⟨some 42, _, _, _, _, _⟩) (v := ?_) rfl (by kernel_rfl) (by kernel_rfl) (by kernel_rfl) (fun _ _ _ h => h) (Or.inl ⟨by rfl, ?_⟩) (by assumption) ?_; (rotate_left 1); (focus (intro wz hSw; (try dsimp only at hSw); go_simp; try (with_reducible rfl))); simp only [Act.put, List.setIfInBounds_toArray, List.set_cons_zero, List.set_cons_succ]
      refine wpAnyH_take (i := 2) (oi := ⟨some 43, _, _, _, _, _⟩) (v := ?_) rfl (by kernel_rfl) (by kernel_rfl) (by kernel_rfl) (fun _ _ _ h => h) (Or.inl ⟨by rfl, ?_⟩) (by assumption) ?_; (rotate_left 1); (focus (intro wz hSw; (try dsimp only at hSw); go_simp; try (with_reducible rfl))); simp only [Act.put, List.setIfInBounds_toArray, List.set_cons_zero, List.set_cons_succ]
      refine wpAnyH_take (i := 3) (oi := ⟨some 44, _, _, _, _, _⟩) (v := ?_) rfl (by kernel_rfl) (by kernel_rfl) (by kernel_rfl) (fun _ _ _ h => h) (Or.inl ⟨by rfl, ?_⟩) (by assumption) ?_; (rotate_left 1); (focus (intro wz hSw; (try dsimp only at hSw); go_simp; try (with_reducible rfl))); simp only [Act.put, List.setIfInBounds_toArray, List.set_cons_zero, List.set_cons_succ]
      refine wpAnyH_take (i := 4) (oi := ⟨some 45, _, _, _, _, _⟩) (v := ?_) rfl (by kernel_rfl) (by kernel_rfl) (by kernel_rfl) (fun _ _ _ h => h) (Or.inl ⟨by rfl, ?_⟩) (by assumption) ?_; (rotate_left 1); (focus (intro wz hSw; (try dsimp only at hSw); go_simp; try (with_reducible rfl))); simp only [Act.put, List.setIfInBounds_toArray, List.set_cons_zero, List.set_cons_succ]
      refine wpAnyH_take (i := 5) (oi := ⟨some 46, _, _, _, _, _⟩) (v := ?_) rfl (by kernel_rfl) (by kernel_rfl) (by kernel_rfl) (fun _ _ _ h => h) (Or.inl ⟨by rfl, ?_⟩) (by assumption) ?_; (rotate_left 1); (focus (intro wz hSw; (try dsimp only at hSw); go_simp; try (with_reducible rfl))); simp only [Act.put, List.setIfInBounds_toArray, List.set_cons_zero, List.set_cons_succ]
      refine wpAnyH_take (i := 6) (oi := ⟨some 47, _, _, _, _, _⟩) (v := ?_) rfl (by kernel_rfl) (by kernel_rfl) (by kernel_rfl) (fun _ _ _ h => h) (Or.inl ⟨by rfl, ?_⟩) (by assumption) ?_; (rotate_left 1); (focus (intro wz hSw; (try dsimp only at hSw); go_simp; try (with_reducible rfl))); simp only [Act.put, List.setIfInBounds_toArray, List.set_cons_zero, List.set_cons_succ]
      refine wpAnyH_take (i := 7) (oi := ⟨some 48, _, _, _, _, _⟩) (v := ?_) rfl (by kernel_rfl) (by kernel_rfl) (by kernel_rfl) (fun _ _ _ h => h) (Or.inl ⟨by rfl, ?_⟩) (by assumption) ?_; (rotate_left 1); (focus (intro wz hSw; (try dsimp only at hSw); go_simp; try (with_reducible rfl))); simp only [Act.put, List.setIfInBounds_toArray, List.set_cons_zero, List.set_cons_succ]
      refine wpAnyH_take (i := 8) (oi := ⟨some 49, _, _, _, _, _⟩) (v := ?_) rfl (by kernel_rfl) (by kernel_rfl) (by kernel_rfl) (fun _ _ _ h => h) (Or.inl ⟨by rfl, ?_⟩) (by assumption) ?_; (rotate_left 1); (focus (intro wz hSw; (try dsimp only at hSw); go_simp; try (with_reducible rfl))); simp only [Act.put, List.setIfInBounds_toArray, List.set_cons_zero, List.set_cons_succ]
      refine wpAnyH_take (i := 9) (oi := ⟨some 50, _, _, _, _, _⟩) (v := ?_) rfl (by kernel_rfl) (by kernel_rfl) (by kernel_rfl) (fun _ _ _ h => h) (Or.inl ⟨by rfl, ?_⟩) (by assumption) ?_; (rotate_left 1); (focus (intro wz hSw; (try dsimp only at hSw); go_simp; try (with_reducible rfl))); simp only [Act.put, List.setIfInBounds_toArray, List.set_cons_zero, List.set_cons_succ]
      refine wpAnyH_take (i := 10) (oi := ⟨some 51, _, _, _, _, _⟩) (v := ?_) rfl (by kernel_rfl) (by kernel_rfl) (by kernel_rfl) (fun _ _ _ h => h) (Or.inl ⟨by rfl, ?_⟩) (by assumption) ?_; (rotate_left 1); (focus (intro wz hSw; (try dsimp only at hSw); go_simp; try (with_reducible rfl))); simp only [Act.put, List.setIfInBounds_toArray, List.set_cons_zero, List.set_cons_succ]
      refine wpAnyH_take (i := 11) (oi := ⟨some 52, _, _, _, _, _⟩) (v := ?_) rfl (by kernel_rfl) (by kernel_rfl) (by kernel_rfl) (fun _ _ _ h => h) (Or.inl ⟨by rfl, ?_⟩) (by assumption) ?_; (rotate_left 1); (focus (intro wz hSw; (try dsimp only at hSw); go_simp; try (with_reducible rfl))); simp only [Act.put, List.setIfInBounds_toArray, List.set_cons_zero, List.set_cons_succ]
      refine wpAnyH_take (i := 12) (oi := ⟨some 53, _, _, _, _, _⟩) (v := ?_) rfl (by kernel_rfl) (by kernel_rfl) (by kernel_rfl) (fun _ _ _ h => h) (Or.inl ⟨by rfl, ?_⟩) (by assumption) ?_; (rotate_left 1); (focus (intro wz hSw; (try dsimp only at hSw); go_simp; try (with_reducible rfl))); simp only [Act.put, List.setIfInBounds_toArray, List.set_cons_zero, List.set_cons_succ]
      refine wpAnyH_take (i := 13) (oi := ⟨some 54, _, _, _, _, _⟩) (v := ?_) rfl (by kernel_rfl) (by kernel_rfl) (by kernel_rfl) (fun _ _ _ h => h) (Or.inl ⟨by rfl, ?_⟩) (by assumption) ?_; (rotate_left 1); (focus (intro wz hSw; (try dsimp only at hSw); go_simp; try (with_reducible rfl))); simp only [Act.put, List.setIfInBounds_toArray, List.set_cons_zero, List.set_cons_succ]
      refine wpAnyH_ready (rs := [14]) (by kernel_rfl) (by simp) ?_; refine AllReadyH.cons rfl (fun K hK => ?_) AllReadyH.nil; go_simp
      refine (hSw _).mono ?_
      rintro e w5 ⟨rfl, hw5⟩
      rw [hw5]
      (try clear hHeld); refine hK.out _ _ ?_ (fun hHeld => ?_)
      · exact hS _ hBd
      refine wpAnyH_take (i := 15) (oi := ⟨some 56, _, _, _, _, _⟩) (v := ?_) rfl (by kernel_rfl) (by kernel_rfl) (by kernel_rfl) (fun _ _ _ h => h) (Or.inl ⟨by rfl, ?_⟩) (by assumption) ?_; (rotate_left 1); (focus (intro wz hSw; (try dsimp only at hSw); go_simp; try (with_reducible rfl))); simp only [Act.put, List.setIfInBounds_toArray, List.set_cons_zero, List.set_cons_succ]
      refine wpAnyH_ready (rs := [16]) (by kernel_rfl) (by simp) ?_; refine AllReadyH.cons rfl (fun K hK => ?_) AllReadyH.nil; go_simp
      refine hAR.mono ?_
      rintro e w6 ⟨v6, rfl, ho6, hb6, ha6⟩
      have hlt2 : wr.heap.size < wS.drew.heap.size := Nat.lt_of_lt_of_le hlt hBd.size
      have f0 := (ha6.cell (p := ⟨wr.heap.size, 0, none⟩) hlt2 HNo).trans (hS _ hBd).1
      have f1 := (ha6.cell (p := ⟨wr.heap.size, 1, none⟩) hlt2 HNo).trans (hS _ hBd).2.1
      have f2 := (ha6.cell (p := ⟨wr.heap.size, 2, none⟩) hlt2 HNo).trans (hS _ hBd).2.2.1
      have f3 := (ha6.cell (p := ⟨wr.heap.size, 3, none⟩) hlt2 HNo).trans (hS _ hBd).2.2.2
      (try clear hHeld); refine hK.out _ _ ?_ (fun hHeld => ?_)
      · exact ⟨f0, f1, f2, f3⟩
      refine wpAnyH_take (i := 17) (oi := ⟨some 6, _, _, _, _, _⟩) (v := ?_) rfl (by kernel_rfl) (by kernel_rfl) (by kernel_rfl) (fun _ _ _ h => h) (Or.inl ⟨by rfl, ?_⟩) (by assumption) ?_; (rotate_left 1); (focus (intro wz hSw; (try dsimp only at hSw); go_simp; try (with_reducible rfl))); simp only [Act.put, List.setIfInBounds_toArray, List.set_cons_zero, List.set_cons_succ]
      refine wpAnyH_done (by kernel_rfl) ?_ _
      clear hAR hS hsB hwS
      go_wp2_with fail
      go_roundg (i.segs.length - (k + 1))
      case measure => omega
      case rel => exact ⟨k + 1, pl + s.bytes.length, by omega, by simp, by simp, (show _ = _ from HL).symm, by rw [show _ = _ from HT, ← List.append_assoc]; unfold Img.rowOf; rw [show Img.swap s.perm = SW from HSW]; exact ho6, hb6⟩
end Go.Proofs.Ytaejcbmmapcpgaa
