/- LAYER 9's walks: Get. -/
import Derived.Test.YtmecompcffphcaaFeeGt3
import Derived.Test.YtmecompcffphcaaFeeA
namespace Go.Proofs.Ytmecompcffphcaa
open Go.ChangeShapes Go.WideShapes Go.ChangeAt Go.RowKit
set_option linter.unusedSimpArgs false
set_option linter.unusedVariables false

theorem FlS.formG {w : World} {v : Value} {l : List Fee.Fl} (h : FlS w v l) : ∃ q c, v = .slice q l.length c := by
  obtain ⟨us, _, h2, _⟩ := h
  obtain ⟨q, c, e, _⟩ := RdR.form h2
  exact ⟨q, c, e⟩
theorem IsFd.formG {w : World} {v : Value} {f : Fee.Fd} (h : IsFd w v f) : ∃ qa ca qi ci qs cs qr cr qc cc qf cf, v = .agg #[.slice qa f.args.length ca, .slice qi f.input.length ci, .slice qs f.short.length cs, .slice qr f.random.length cr, .slice qc f.clock.length cc, .slice qf f.files.length cf] := by
  obtain ⟨va, vi, vs, vr, vc, vf, rfl, ha, hi, hs, hr, hc, hf, -⟩ := h
  obtain ⟨qa, ca, rfl, -⟩ := RdR.form ha
  obtain ⟨qi, ci, rfl, -⟩ := Rd8.open hi
  obtain ⟨qs, cs, rfl, -⟩ := RdR.form hs
  obtain ⟨qr, cr, rfl, -⟩ := Rd8.open hr
  obtain ⟨qc, cc, rfl, -⟩ := RdR.form hc
  obtain ⟨qf, cf, rfl⟩ := hf.formG
  exact ⟨qa, ca, qi, ci, qs, cs, qr, cr, qc, cc, qf, cf, rfl⟩
set_option maxHeartbeats 4000000 in
set_option maxRecDepth 100000 in
theorem Get_c (w : World) (v : Value) (L : List Int) (hv : Rd8 w v L) (h8 : B8s L) (hl : L.length ≤ 900000) :
    Calls Try.prog 7 #[v] w fun e w' => ∃ u, e = .returned (.tuple #[u, .int .i64 (Fee.get L).2]) ∧ IsFd w' u (Fee.get L).1 ∧ Bw w w' := by
  obtain ⟨q, cap, rfl, hc1, hc2, hc3⟩ := hv.open
  have hA := Box.new w [.slice none 0 0, .slice none 0 0, .slice none 0 0, .slice none 0 0, .slice none 0 0, .slice none 0 0] 28
  have hR := Box.new (w.alloc (.cells #[.slice none 0 0, .slice none 0 0, .slice none 0 0, .slice none 0 0, .slice none 0 0, .slice none 0 0] 28)) [.slice q L.length cap, .bool false] 57
  have g2 : Bw w ((w.alloc (.cells #[.slice none 0 0, .slice none 0 0, .slice none 0 0, .slice none 0 0, .slice none 0 0, .slice none 0 0] 28)).alloc (.cells #[.slice q L.length cap, .bool false] 57)) := ((Bw.refl w).alloc _).alloc _
  have hA2 := hA.bw ((Bw.refl _).alloc (.cells #[.slice q L.length cap, .bool false] 57))
  rw [World.size_alloc] at hR
  have hsz : ((w.alloc (.cells #[.slice none 0 0, .slice none 0 0, .slice none 0 0, .slice none 0 0, .slice none 0 0, .slice none 0 0] 28)).alloc (.cells #[.slice q L.length cap, .bool false] 57)).heap.size = w.heap.size + 2 := by simp
  have hRd : RdS (fun i => i = w.heap.size + 1 ∨ ((w.alloc (.cells #[.slice none 0 0, .slice none 0 0, .slice none 0 0, .slice none 0 0, .slice none 0 0, .slice none 0 0] 28)).alloc (.cells #[.slice q L.length cap, .bool false] 57)).heap.size ≤ i) ((w.alloc (.cells #[.slice none 0 0, .slice none 0 0, .slice none 0 0, .slice none 0 0, .slice none 0 0, .slice none 0 0] 28)).alloc (.cells #[.slice q L.length cap, .bool false] 57)) (w.heap.size + 1) L false := by
    refine ⟨_, hR, hv.bw g2, fun q' n c e hn => ?_⟩
    simp at e
    obtain ⟨rfl, rfl, rfl⟩ := e
    obtain ⟨b', o, e2, h3, -⟩ := hc3 (by omega)
    simp at e2
    subst e2
    rw [hsz]
    dsimp only
    omega
  have hG := readFeed_c _ _ _ _ hRd h8 hl
  clear hA hR hRd hv hc3
  go_enter Try.func7, Try.ntmps7
  go_wp2_with fail
  obtain ⟨X, hX⟩ : ∃ X, (w.alloc (.cells #[.slice none 0 0, .slice none 0 0, .slice none 0 0, .slice none 0 0, .slice none 0 0, .slice none 0 0] 28)).alloc (.cells #[.slice q L.length cap, .bool false] 57) = X := ⟨_, rfl⟩
  rw [hX] at hG g2 hA2 hsz ⊢
  refine hG.mono ?_
  rintro e w2 ⟨va, vi, vs, vr, vc, vf, rfl, hFd, hRd2, hq⟩
  clear hG hX
  obtain ⟨p, L7, f7, hp⟩ : ∃ p L7 f7, Fee.parts L false = (p, L7, f7) := ⟨_, _, _, rfl⟩
  rw [hp] at hFd hRd2
  dsimp only at hFd hRd2
  have hgt : Fee.get L = if f7 = true ∨ 0 < L7.length ∨ Fee.good (Fee.fdOf p) = false then (Fee.noFd, 3) else (Fee.fdOf p, 0) := by unfold Fee.get; rw [hp]
  generalize Fee.fdOf p = f at *
  obtain ⟨a1, a2, a3, a4', a5, a6, a7, a8, a9, a10, a11, a12, he⟩ := hFd.is.formG
  simp at he
  obtain ⟨rfl, rfl, rfl, rfl, rfl, rfl⟩ := he
  obtain ⟨fa, hfa⟩ : ∃ fa, w.heap.size = fa := ⟨_, rfl⟩
  rw [hfa] at hA2 hRd2 hq hsz ⊢
  have a2b := (hA2.q hq (by omega)).bw ((Bw.refl w2).alloc (.cells #[.slice a1 f.args.length a2, .slice a3 f.input.length a4', .slice a5 f.short.length a6, .slice a7 f.random.length a8, .slice a9 f.clock.length a10, .slice a11 f.files.length a12] 28))
  have hb3 : Bw w (w2.alloc (.cells #[.slice a1 f.args.length a2, .slice a3 f.input.length a4', .slice a5 f.short.length a6, .slice a7 f.random.length a8, .slice a9 f.clock.length a10, .slice a11 f.files.length a12] 28)) := (hq.toBw g2 (by omega)).alloc _
  have hF3 := Box.new w2 [.slice a1 f.args.length a2, .slice a3 f.input.length a4', .slice a5 f.short.length a6, .slice a7 f.random.length a8, .slice a9 f.clock.length a10, .slice a11 f.files.length a12] 28
  obtain ⟨v7, hb7, hr7, -⟩ := hRd2
  obtain ⟨q7, c7, rfl, -⟩ := Rd8.open hr7
  have hb7b := hb7.bw ((Bw.refl w2).alloc (.cells #[.slice a1 f.args.length a2, .slice a3 f.input.length a4', .slice a5 f.short.length a6, .slice a7 f.random.length a8, .slice a9 f.clock.length a10, .slice a11 f.files.length a12] 28))
  have hFd3 := hFd.q ((Bq.refl fa w2).bw ((Bw.refl w2).alloc (.cells #[.slice a1 f.args.length a2, .slice a3 f.input.length a4', .slice a5 f.short.length a6, .slice a7 f.random.length a8, .slice a9 f.clock.length a10, .slice a11 f.files.length a12] 28))) (by omega)
  have r0 := hb7b.c 0 _ rfl; have r1 := hb7b.c 1 _ rfl
  have z0 := a2b.c 0 _ rfl; have z1 := a2b.c 1 _ rfl; have z2 := a2b.c 2 _ rfl; have z3 := a2b.c 3 _ rfl; have z4 := a2b.c 4 _ rfl; have z5 := a2b.c 5 _ rfl
  have y0 := a2b.f 0 (by simp); have y1 := a2b.f 1 (by simp); have y2 := a2b.f 2 (by simp); have y3 := a2b.f 3 (by simp); have y4 := a2b.f 4 (by simp); have y5 := a2b.f 5 (by simp)
  have hle : w.heap.size ≤ fa := Nat.le_of_eq hfa
  have hfx : fa < X.heap.size := by omega
  cases f7 with
  | true =>
    rw [if_pos (Or.inl rfl)] at hgt
    have hget : Fee.get L = (Fee.noFd, 3) := hgt
    have HB : Hid _ := (((((hb3.setCell (p := ⟨fa, 0, none⟩) hle (.slice none 0 0)).setCell (p := ⟨fa, 1, none⟩) hle (.slice none 0 0)).setCell (p := ⟨fa, 2, none⟩) hle (.slice none 0 0)).setCell (p := ⟨fa, 3, none⟩) hle (.slice none 0 0)).setCell (p := ⟨fa, 4, none⟩) hle (.slice none 0 0)).setCell (p := ⟨fa, 5, none⟩) hle (.slice none 0 0)
    have HG : Hid _ := hget
    clear hFd hFd3 hF3 a2b hb7 hb7b hr7 hA2 hq hgt hget hp
    go_wp2_with fail
    (try simp only [Exit.inBlock, Exit.then]); refine bodyPost_ret (by simp [results, Try.results7, go_sem, z0, z1, z2, z3, z4, z5]; try rfl) rfl ?_
    have hget : Fee.get L = (Fee.noFd, 3) := HG
    refine ⟨_, by rw [hget], ?_, HB⟩
    rw [hget]
    exact Fee.no_is _
  | false =>
    by_cases h7 : 0 < L7.length
    · rw [if_pos (Or.inr (Or.inl h7))] at hgt
      have hget : Fee.get L = (Fee.noFd, 3) := hgt
      have h7i : decide ((0 : Int) < (L7.length : Int)) = true := decide_eq_true (by omega)
      have HB : Hid _ := (((((hb3.setCell (p := ⟨fa, 0, none⟩) hle (.slice none 0 0)).setCell (p := ⟨fa, 1, none⟩) hle (.slice none 0 0)).setCell (p := ⟨fa, 2, none⟩) hle (.slice none 0 0)).setCell (p := ⟨fa, 3, none⟩) hle (.slice none 0 0)).setCell (p := ⟨fa, 4, none⟩) hle (.slice none 0 0)).setCell (p := ⟨fa, 5, none⟩) hle (.slice none 0 0)
      have HG : Hid _ := hget
      clear hFd hFd3 hF3 a2b hb7 hb7b hr7 hA2 hq hgt hget hp
      go_wp2_with fail
      (try simp only [Exit.inBlock, Exit.then]); refine bodyPost_ret (by simp [results, Try.results7, go_sem, z0, z1, z2, z3, z4, z5]; try rfl) rfl ?_
      have hget : Fee.get L = (Fee.noFd, 3) := HG
      refine ⟨_, by rw [hget], ?_, HB⟩
      rw [hget]
      exact Fee.no_is _
    · have h7i : decide ((0 : Int) < (L7.length : Int)) = false := decide_eq_false (by omega)
      have c0 := hF3.c 0 _ rfl; have c1 := hF3.c 1 _ rfl; have c2 := hF3.c 2 _ rfl; have c3 := hF3.c 3 _ rfl; have c4 := hF3.c 4 _ rfl; have c5 := hF3.c 5 _ rfl
      have hGd := Good_c _ _ _ hFd3.is
      have HF3 : Hid _ := hF3
      have HA : Hid _ := a2b
      have HFd : Hid _ := hFd3
      cases hg : Fee.good f with
      | false =>
        rw [hg] at hGd
        rw [if_pos (Or.inr (Or.inr hg))] at hgt
        have hget : Fee.get L = (Fee.noFd, 3) := hgt
        have HG : Hid _ := hget
        clear hFd hFd3 hF3 a2b hb7 hb7b hr7 hA2 hq hgt hget hp HF3
        go_wp2_with fail
        refine hGd.mono ?_
        rintro e w4 ⟨rfl, b4⟩
        have a4 := (show Box _ _ _ from HA).bw b4
        have hb4 := hb3.trans b4
        have HB : Hid _ := (((((hb4.setCell (p := ⟨fa, 0, none⟩) hle (.slice none 0 0)).setCell (p := ⟨fa, 1, none⟩) hle (.slice none 0 0)).setCell (p := ⟨fa, 2, none⟩) hle (.slice none 0 0)).setCell (p := ⟨fa, 3, none⟩) hle (.slice none 0 0)).setCell (p := ⟨fa, 4, none⟩) hle (.slice none 0 0)).setCell (p := ⟨fa, 5, none⟩) hle (.slice none 0 0)
        clear z0 z1 z2 z3 z4 z5 y0 y1 y2 y3 y4 y5
        have z0 := a4.c 0 _ rfl; have z1 := a4.c 1 _ rfl; have z2 := a4.c 2 _ rfl; have z3 := a4.c 3 _ rfl; have z4 := a4.c 4 _ rfl; have z5 := a4.c 5 _ rfl
        have y0 := a4.f 0 (by simp); have y1 := a4.f 1 (by simp); have y2 := a4.f 2 (by simp); have y3 := a4.f 3 (by simp); have y4 := a4.f 4 (by simp); have y5 := a4.f 5 (by simp)
        clear a4 HA hb3 hb4 hGd HFd
        go_wp2_with fail
        (try simp only [Exit.inBlock, Exit.then]); refine bodyPost_ret (by simp [results, Try.results7, go_sem, z0, z1, z2, z3, z4, z5]; try rfl) rfl ?_
        have hget : Fee.get L = (Fee.noFd, 3) := HG
        refine ⟨_, by rw [hget], ?_, HB⟩
        rw [hget]
        exact Fee.no_is _
      | true =>
        rw [hg] at hGd
        rw [if_neg (fun h => by rcases h with h | h | h; cases h; exact h7 h; rw [hg] at h; cases h)] at hgt
        have HG : Hid (Fee.get L = (f, 0)) := hgt
        clear hFd hFd3 hF3 a2b hb7 hb7b hr7 hA2 hq hgt hp
        go_wp2_with fail
        refine hGd.mono ?_
        rintro e w4 ⟨rfl, b4⟩
        have a4 := (show Box _ _ _ from HA).bw b4
        have f4 := (show Box _ _ _ from HF3).bw b4
        have hb4 := hb3.trans b4
        have hFd4 := (show FdHi _ _ _ _ from HFd).q ((Bq.refl fa _).bw b4) hfx
        have hB : Bw w _ := (((((hb4.setCell (p := ⟨fa, 0, none⟩) hle (.slice a1 f.args.length a2)).setCell (p := ⟨fa, 1, none⟩) hle (.slice a3 f.input.length a4')).setCell (p := ⟨fa, 2, none⟩) hle (.slice a5 f.short.length a6)).setCell (p := ⟨fa, 3, none⟩) hle (.slice a7 f.random.length a8)).setCell (p := ⟨fa, 4, none⟩) hle (.slice a9 f.clock.length a10)).setCell (p := ⟨fa, 5, none⟩) hle (.slice a11 f.files.length a12)
        have hFd5 := hFd4.q ((((((((Bq.refl fa w4).set 0 (.slice a1 f.args.length a2)).set 1 (.slice a3 f.input.length a4')).set 2 (.slice a5 f.short.length a6)).set 3 (.slice a7 f.random.length a8)).set 4 (.slice a9 f.clock.length a10)).set 5 (.slice a11 f.files.length a12))) hfx
        have HFin : Hid _ := And.intro hFd5.is hB
        clear z0 z1 z2 z3 z4 z5 y0 y1 y2 y3 y4 y5 c0 c1 c2 c3 c4 c5
        have z0 := a4.c 0 _ rfl; have z1 := a4.c 1 _ rfl; have z2 := a4.c 2 _ rfl; have z3 := a4.c 3 _ rfl; have z4 := a4.c 4 _ rfl; have z5 := a4.c 5 _ rfl
        have y0 := a4.f 0 (by simp); have y1 := a4.f 1 (by simp); have y2 := a4.f 2 (by simp); have y3 := a4.f 3 (by simp); have y4 := a4.f 4 (by simp); have y5 := a4.f 5 (by simp)
        have c0 := f4.c 0 _ rfl; have c1 := f4.c 1 _ rfl; have c2 := f4.c 2 _ rfl; have c3 := f4.c 3 _ rfl; have c4 := f4.c 4 _ rfl; have c5 := f4.c 5 _ rfl
        clear a4 f4 HA HF3 hb3 hb4 hGd HFd hFd4 hFd5 hB
        go_wp2_with fail
        (try simp only [Exit.inBlock, Exit.then]); refine bodyPost_ret (by simp [results, Try.results7, go_sem, z0, z1, z2, z3, z4, z5]; try rfl) rfl ?_
        have hget : Fee.get L = (f, 0) := HG
        refine ⟨_, by rw [hget], ?_, HFin.2⟩
        rw [hget]
        exact HFin.1
end Go.Proofs.Ytmecompcffphcaa
