/- LAYER 9, the reference's: MayFeed. -/
import Derived.Test.YtmecompcffphcaaFeeR1
import Derived.Test.YtmecompcffphcaaFeeW6
namespace Go.Proofs.Ytmecompcffphcaa
open Go.ChangeShapes Go.WideShapes Go.ChangeAt Go.RowKit

theorem ret_boolH {a b : Bool} {w w' : World} (h : Hid (a = b)) (g : Bw w w') : Ending.returned (.bool a) = .returned (.bool b) ∧ Bw w w' := ⟨by rw [show a = b from h], g⟩
/-- A feed whose texts are short enough to be asked for a byte 0. -/
def Fee.Sz (f : Fee.Fd) : Prop := (∀ s ∈ f.args, s.size ≤ 1000000) ∧ ∀ x ∈ f.files, x.name.size ≤ 1000000
set_option maxHeartbeats 4000000 in
set_option maxRecDepth 100000 in
theorem rMay_c (v : Value) (f : Fee.Fd) (w : World) (hv : IsFd w v f) (hz : Fee.Sz f) : Calls Try.prog 21 #[v] w fun e w' => e = .returned (.bool (Fee.good f)) ∧ Bw w w' := by
  obtain ⟨va, vi, vs, vr, vc, vf, rfl, ha, hi, hs, hr, hc, hf, -⟩ := hv
  obtain ⟨qi, ci, rfl, -⟩ := Rd8.open hi
  obtain ⟨qr, cr, rfl, -⟩ := Rd8.open hr
  obtain ⟨qc, cc, rfl, -⟩ := RdR.form hc
  obtain ⟨qa, ca, rfl, ha1, -, hca⟩ := RdR.at1 ha
  obtain ⟨qs, cs, rfl, hs1, -, hcs⟩ := RdR.at1 hs
  obtain ⟨qf, cf, rfl, hf1, -, hcf⟩ := hf.open
  clear hi hr hc ha hs hf
  generalize hR : Fee.good f = R
  by_cases hlen : f.args.length ≤ 16 ∧ f.input.length ≤ 4096 ∧ f.short.length ≤ 64 ∧ f.random.length ≤ 4096 ∧ f.clock.length ≤ 64 ∧ f.files.length ≤ 8
  rotate_left
  · have hF : R = false := by
      cases R with
      | false => rfl
      | true =>
        obtain ⟨a, b, c, d, e, g⟩ := Fee.good_len hR
        exact absurd ⟨d, e, a, b, c, g⟩ hlen
    subst hF
    clear hR hcs hca hcf hz
    have h6 : decide ((16 : Int) < f.args.length) = true ∨ decide ((16 : Int) < f.args.length) = false ∧ (decide ((4096 : Int) < f.input.length) = true ∨ decide ((4096 : Int) < f.input.length) = false ∧ (decide ((64 : Int) < f.short.length) = true ∨ decide ((64 : Int) < f.short.length) = false ∧ (decide ((4096 : Int) < f.random.length) = true ∨ decide ((4096 : Int) < f.random.length) = false ∧ (decide ((64 : Int) < f.clock.length) = true ∨ decide ((64 : Int) < f.clock.length) = false ∧ decide ((8 : Int) < f.files.length) = true)))) := by
      simp only [decide_eq_true_eq, decide_eq_false_iff_not]
      omega
    clear hlen
    rcases h6 with h1 | ⟨h1, h2 | ⟨h2, h3 | ⟨h3, h4 | ⟨h4, h5 | ⟨h5, h6⟩⟩⟩⟩⟩
    all_goals
      go_enter Try.func21, Try.ntmps21
      go_wp2_with fail
      go_returns
      exact ⟨rfl, by (repeat' (first | (with_reducible assumption) | (with_reducible exact Bw.refl _) | (with_reducible refine Bw.alloc ?_ _) | (with_reducible refine Bw.drew ?_) | (with_reducible refine Bw.drewN ?_ _) | (with_reducible refine Bw.setCell ?_ ?_ _) | exact Nat.le_refl _))⟩
  obtain ⟨l1, l2, l3, l4, l5, l6⟩ := hlen
  have hG : Fee.good f = (f.args.all Fee.argOk && f.short.all Fee.shOk && Fee.filesFrom f.files 0 f.files) := by
    unfold Fee.good Fee.argsOk Fee.shortOk Fee.filesOk
    simp only [l1, l2, l3, l4, l5, l6, decide_true, Bool.true_and, Bool.and_true]
  rw [hG] at hR
  clear hG
  have m1 : decide ((16 : Int) < f.args.length) = false := decide_eq_false (by omega)
  have m2 : decide ((4096 : Int) < f.input.length) = false := decide_eq_false (by omega)
  have m3 : decide ((64 : Int) < f.short.length) = false := decide_eq_false (by omega)
  have m4 : decide ((4096 : Int) < f.random.length) = false := decide_eq_false (by omega)
  have m5 : decide ((64 : Int) < f.clock.length) = false := decide_eq_false (by omega)
  have m6 : decide ((8 : Int) < f.files.length) = false := decide_eq_false (by omega)
  have HR : Hid _ := hR
  clear hR l2 l4 l5
  go_enter Try.func21, Try.ntmps21
  go_wp2_with fail
  clear m1 m2 m3 m4 m5 m6
  obtain ⟨wB, hwB, hbB, hBx⟩ : ∃ wB, w.alloc (.cells #[.slice qa f.args.length ca, .slice qi f.input.length ci, .slice qs f.short.length cs, .slice qr f.random.length cr, .slice qc f.clock.length cc, .slice qf f.files.length cf] 36) = wB ∧ Bw w wB ∧ Box wB w.heap.size [.slice qa f.args.length ca, .slice qi f.input.length ci, .slice qs f.short.length cs, .slice qr f.random.length cr, .slice qc f.clock.length cc, .slice qf f.files.length cf] := ⟨_, rfl, (Bw.refl w).alloc _, Box.new w _ _⟩
  rw [hwB]
  clear hwB
  generalize w.heap.size = fb at *
  have x0 := hBx.c 0 _ rfl; have x2 := hBx.c 2 _ rfl; have x5 := hBx.c 5 _ rfl
  clear hBx
  go_loopg [3] f.args.length (fun g j wr => ∃ k : Nat, k + g = f.args.length ∧ j = .int .i64 k ∧ Bw wB wr ∧ ((f.args.drop k).all Fee.argOk && f.short.all Fee.shOk && Fee.filesFrom f.files 0 f.files) = R)
  case atStart => exact ⟨0, by omega, rfl, Bw.refl _, HR⟩
  case round =>
    obtain ⟨k, hkg, rfl, hbw, hrun⟩ := hrel
    have HRun : Hid _ := hrun
    have hbW := hbB.trans hbw
    have y0 := hbw.keep x0
    clear hrun HR
    by_cases hk : k = f.args.length
    · subst hk
      have HR2 : Hid ((f.short.all Fee.shOk && Fee.filesFrom f.files 0 f.files) = R) := by
        have h := (show _ = R from HRun)
        rw [List.drop_length, List.all_nil, Bool.true_and] at h
        exact h
      have y2 := hbw.keep x2
      clear HRun hca
      go_wp2_with fail
      clear y0 y2
      go_loopg [4] f.short.length (fun g j wr2 => ∃ k : Nat, k + g = f.short.length ∧ j = .int .i64 k ∧ Bw wB wr2 ∧ ((f.short.drop k).all Fee.shOk && Fee.filesFrom f.files 0 f.files) = R)
      case atStart => exact ⟨0, by omega, rfl, hbw, HR2⟩
      case round =>
        obtain ⟨k, hkg, rfl, hbw, hrun⟩ := hrel
        have HRun : Hid _ := hrun
        have hbW := hbB.trans hbw
        have y2 := hbw.keep x2
        clear hrun HR2
        by_cases hk : k = f.short.length
        · subst hk
          have HR3 : Hid (Fee.filesFrom f.files 0 f.files = R) := by
            have h := (show _ = R from HRun)
            rw [List.drop_length, List.all_nil, Bool.true_and] at h
            exact h
          have y5 := hbw.keep x5
          clear HRun hcs
          go_wp2_with fail
          clear y2 y5
          go_loopg [5] f.files.length (fun g j wr3 => ∃ k : Nat, k + g = f.files.length ∧ j = .int .i64 k ∧ Bw wB wr3 ∧ Fee.filesFrom f.files k (f.files.drop k) = R)
          case atStart => exact ⟨0, by omega, rfl, hbw, HR3⟩
          case round =>
            obtain ⟨k, hkg, rfl, hbw, hrun⟩ := hrel
            have HRun : Hid _ := hrun
            have hbW := hbB.trans hbw
            have y5 := hbw.keep x5
            clear hrun HR3
            by_cases hk : k = f.files.length
            · subst hk
              have hRe : Hid (true = R) := by rw [List.drop_length] at HRun; exact HRun
              go_wp2_with fail
              go_returns
              exact ret_boolH hRe hbW
            · have hkl : k < f.files.length := by omega
              have hki : (k : Int) < (f.files.length : Int) := by omega
              obtain ⟨x, hx, hd⟩ := dropAt hkl
              obtain ⟨b, o, qx, cx, rfl, hb, c0, c1, -, -, -⟩ := hcf k x hx
              have HRun2 : Hid ((Fee.fileOk x && !Fee.has (f.files.take k) x.name && Fee.filesFrom f.files (k + 1) (f.files.drop (k + 1))) = R) := by
                have h := (show _ = R from HRun)
                rw [hd] at h
                exact h
              have hN := fun X => noughts_c x.name X (hz.2 x (List.mem_of_getElem? hx))
              replace c0 := hbW.keep c0
              replace c1 := hbW.keep c1
              clear hd hx HRun
              have hz1 : x.name.size = 0 ∨ x.name.size ≠ 0 := by omega
              have HRunF : ∀ {A B : Bool}, Fee.fileOk x = false → (Fee.fileOk x && A && B) = R → Hid (false = R) := fun h e => by show _ = _; rw [h] at e; simpa using e
              unfold Fee.fileOk at HRunF HRun2
              by_cases h1 : x.name.size < 1
              · have HR4 : Hid (false = R) := HRunF (by rw [decide_eq_false (by omega)]; simp) (show _ = R from HRun2)
                have h1i : (x.name.size : Int) < 1 := by omega
                clear HRun2 hcf HRunF hz1
                go_wp2_with fail
                go_returns
                exact ret_boolH HR4 (hbW.alloc _)
              have h1i : ¬ (x.name.size : Int) < 1 := by omega
              by_cases h2 : 40 < x.name.size
              · have HR4 : Hid (false = R) := HRunF (by rw [decide_eq_false (p := x.name.size ≤ 40) (by omega)]; simp) (show _ = R from HRun2)
                have h2i : (40 : Int) < (x.name.size : Int) := by omega
                clear HRun2 hcf HRunF hz1
                go_wp2_with fail
                go_returns
                exact ret_boolH HR4 (hbW.alloc _)
              have h2i : ¬ (40 : Int) < (x.name.size : Int) := by omega
              cases hnu : Fee.nul x.name with
              | true =>
                have HR4 : Hid (false = R) := HRunF (by rw [hnu]; simp) (show _ = R from HRun2)
                rw [hnu] at hN
                clear HRun2 hcf HRunF hz1
                go_wp2_with (go_at_call 36; refine (hN _).mono ?_; rintro e w2 ⟨rfl, h2⟩)
                go_returns
                exact ret_boolH HR4 ((hbW.alloc _).trans h2)
              | false =>
                rw [hnu] at hN
                have hXx : Box (wr.alloc (.cells #[.string x.name, .slice qx x.data.length cx] 65)) wr.heap.size [.string x.name, .slice qx x.data.length cx] := Box.new wr _ _
                have hbX : Bw wB (wr.alloc (.cells #[.string x.name, .slice qx x.data.length cx] 65)) := hbw.alloc _
                by_cases h3 : 4096 < x.data.length
                · have HR4 : Hid (false = R) := HRunF (by rw [decide_eq_false (p := x.data.length ≤ 4096) (by omega)]; simp) (show _ = R from HRun2)
                  have h3i : decide ((4096 : Int) < (x.data.length : Int)) = true := decide_eq_true (by omega)
                  have e1 := hXx.c 1 _ rfl
                  clear HRun2 hcf HRunF hz1
                  go_wp2_with (go_at_call 36; refine (hN _).mono ?_; rintro e w2 ⟨rfl, h2⟩; have e2 := h2.keep e1)
                  go_returns
                  exact ret_boolH HR4 ((hbB.trans hbX).trans h2)
                have h3i : decide ((4096 : Int) < (x.data.length : Int)) = false := decide_eq_false (by omega)
                have HR4 : Hid ((!Fee.has (f.files.take k) x.name && Fee.filesFrom f.files (k + 1) (f.files.drop (k + 1))) = R) := by
                  have h := (show _ = R from HRun2)
                  rw [decide_eq_true (p := x.name.size ≠ 0) (by omega), decide_eq_true (p := x.name.size ≤ 40) (by omega), decide_eq_true (p := x.data.length ≤ 4096) (by omega), hnu] at h
                  show _ = _
                  simpa only [Bool.true_and, Bool.not_false] using h
                generalize hH : Fee.has (f.files.take k) x.name = H at HR4
                have HH : Hid _ := hH
                have e1 := hXx.c 1 _ rfl
                clear HRun2 HRunF hz1 hH
                go_wp2_with (go_at_call 36; refine (hN _).mono ?_; rintro e w2 ⟨rfl, h2⟩; have e2 := h2.keep e1)
                clear e2 e1
                have hbX2 := hbX.trans h2
                have hXx2 := hXx.bw h2
                generalize wr.heap.size = xb at *
                clear hXx hbX hbw hbW c0 c1 y5 h2 hN
                go_loopg [7] k (fun g j wx => ∃ m : Nat, m + g = k ∧ j = .int .i64 m ∧ Bw wB wx ∧ Box wx xb [.string x.name, .slice qx x.data.length cx] ∧ Fee.has ((f.files.take k).drop m) x.name = H)
                case atStart => exact ⟨0, by omega, rfl, hbX2, hXx2, HH⟩
                case round =>
                  obtain ⟨m, hmg, rfl, hbw, hXx, hrun⟩ := hrel
                  have HRun : Hid _ := hrun
                  clear hrun HH hbX2 hXx2
                  by_cases hm : m = k
                  · subst hm
                    have HR5 : Hid (Fee.filesFrom f.files (m + 1) (f.files.drop (m + 1)) = R) := by
                      have h := (show _ = H from HRun)
                      have hl : (f.files.take m).length ≤ m := by rw [List.length_take]; omega
                      rw [List.drop_eq_nil_of_le hl] at h
                      obtain rfl : false = H := h
                      exact (show _ = R from HR4)
                    clear HRun HR4
                    go_wp2_with fail
                    go_roundg (f.files.length - (m + 1))
                    case measure => omega
                    case rel => exact ⟨m + 1, by omega, by simp, hbw, HR5⟩
                  · have hmk : m < k := by omega
                    have hmi : (m : Int) < (k : Int) := by omega
                    have hml : (m : Int) < (f.files.length : Int) := by omega
                    obtain ⟨y, hy, hd⟩ := dropAt (l := f.files.take k) (k := m) (by rw [List.length_take]; omega)
                    rw [List.getElem?_take_of_lt hmk] at hy
                    obtain ⟨b2, o2, qy, cy, ho2, -, d0, -, -, -, -⟩ := hcf m y hy
                    simp at ho2
                    obtain ⟨rfl, rfl⟩ := ho2
                    replace d0 := (hbB.trans hbw).keep d0
                    have y5 := hbw.keep x5
                    have e0 := hXx.c 0 _ rfl
                    have HRun2 : Hid ((y.name.toList == x.name.toList || Fee.has ((f.files.take k).drop (m + 1)) x.name) = H) := by
                      have h := (show _ = H from HRun)
                      rw [hd] at h
                      exact h
                    clear hy hd HRun hcf
                    cases hnm : y.name.toList == x.name.toList with
                    | true =>
                      have HR5 : Hid (false = R) := by
                        have h := (show _ = H from HRun2)
                        rw [hnm, Bool.true_or] at h
                        subst h
                        exact (show _ = R from HR4)
                      clear HRun2 HR4
                      go_wp2_with fail
                      go_region
                      go_wp2_with fail
                      go_returns
                      exact ret_boolH HR5 ((hbB.trans hbw).drew)
                    | false =>
                      rw [hnm, Bool.false_or] at HRun2
                      go_wp2_with fail
                      go_region
                      go_wp2_with fail
                      go_roundg (k - (m + 1))
                      case measure => omega
                      case rel => exact ⟨m + 1, by omega, by simp, hbw.drew, hXx.bw (Bw.refl _).drew, HRun2⟩
        · have hkl : k < f.short.length := by omega
          have hki : (k : Int) < (f.short.length : Int) := by omega
          obtain ⟨n, hs, hd⟩ := dropAt hkl
          obtain ⟨b, o, rfl, hb, c0⟩ := hcs k n hs
          replace c0 := hbW.keep c0
          have HRun2 : Hid ((decide (0 ≤ n) && decide (n ≤ 4096) && ((f.short.drop (k + 1)).all Fee.shOk && Fee.filesFrom f.files 0 f.files)) = R) := by
            have h := (show _ = R from HRun)
            rw [hd, List.all_cons, Bool.and_assoc] at h
            exact h
          clear hd hs HRun
          by_cases h2 : n < 0
          · rw [decide_eq_false (by omega), Bool.false_and, Bool.false_and] at HRun2
            go_wp2_with fail
            go_returns
            exact ret_boolH HRun2 hbW
          · rw [decide_eq_true (by omega), Bool.true_and] at HRun2
            by_cases h3 : 4096 < n
            · rw [decide_eq_false (by omega), Bool.false_and] at HRun2
              go_wp2_with fail
              go_returns
              exact ret_boolH HRun2 hbW
            · rw [decide_eq_true (by omega), Bool.true_and] at HRun2
              go_wp2_with fail
              go_roundg (f.short.length - (k + 1))
              case measure => omega
              case rel => exact ⟨k + 1, by omega, by simp, hbw, HRun2⟩
    · have hkl : k < f.args.length := by omega
      have hki : (k : Int) < (f.args.length : Int) := by omega
      obtain ⟨s, hs, hd⟩ := dropAt hkl
      obtain ⟨b, o, rfl, hb, c0⟩ := hca k s hs
      replace c0 := hbW.keep c0
      have hN := fun X => noughts_c s X (hz.1 s (List.mem_of_getElem? hs))
      have HRun2 : Hid ((decide (s.size ≤ 200) && !Fee.nul s && ((f.args.drop (k + 1)).all Fee.argOk && f.short.all Fee.shOk && Fee.filesFrom f.files 0 f.files)) = R) := by
        have h := (show _ = R from HRun)
        rw [hd, List.all_cons, Bool.and_assoc, Bool.and_assoc, ← Bool.and_assoc ((f.args.drop (k + 1)).all Fee.argOk)] at h
        exact h
      clear hd hs HRun
      by_cases h2 : 200 < s.size
      · rw [decide_eq_false (by omega), Bool.false_and, Bool.false_and] at HRun2
        have h2i : (200 : Int) < s.size := by omega
        go_wp2_with fail
        go_returns
        exact ret_boolH HRun2 hbW
      · rw [decide_eq_true (by omega), Bool.true_and] at HRun2
        have h2i : (s.size : Int) ≤ 200 := by omega
        cases hnu : Fee.nul s with
        | true =>
          rw [hnu, Bool.not_true, Bool.false_and] at HRun2
          rw [hnu] at hN
          go_wp2_with (go_at_call 36; refine (hN _).mono ?_; rintro e w2 ⟨rfl, h2⟩)
          go_returns
          exact ret_boolH HRun2 (hbW.trans h2)
        | false =>
          rw [hnu, Bool.not_false, Bool.true_and] at HRun2
          rw [hnu] at hN
          go_wp2_with (go_at_call 36; refine (hN _).mono ?_; rintro e w2 ⟨rfl, h2⟩)
          go_roundg (f.args.length - (k + 1))
          case measure => omega
          case rel => exact ⟨k + 1, by omega, by simp, hbw.trans h2, HRun2⟩
end Go.Proofs.Ytmecompcffphcaa
