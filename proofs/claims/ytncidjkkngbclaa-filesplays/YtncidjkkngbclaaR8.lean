/- LAYER 9, the reference's: noughts, MayFeed. · LAYER 9, the reference's: MayFeed. · LAYER 9, the reference's: Begin, Take, Time. · LAYER 9, the reference's: Begin, Bytes. -/
import Derived.Test.YtncidjkkngbclaaR2
import Derived.Test.YtncidjkkngbclaaR7
import Derived.Lib.IndexLaws
import Derived.Test.YtncidjkkngbclaaR3
import Derived.Test.YtncidjkkngbclaaR5
namespace Go.Proofs.Ytncidjkkngbclaa
open Go.ChangeShapes Go.WideShapes Go.ChangeAt Go.RowKit

end Go.Proofs.Ytncidjkkngbclaa
namespace Go.Proofs.Ytncidjkkngbclaa
open Go.ChangeShapes Go.WideShapes Go.ChangeAt Go.RowKit

theorem ret_boolH {a b : Bool} {w w' : World} (h : Hid (a = b)) (g : Bw w w') : Ending.returned (.bool a) = .returned (.bool b) ∧ Bw w w' := ⟨by rw [show a = b from h], g⟩
/-- A feed whose texts are short enough to be asked for a byte 0. -/
def Fee.Sz (f : Fee.Fd) : Prop := (∀ s ∈ f.args, s.size ≤ 1000000) ∧ ∀ x ∈ f.files, x.name.size ≤ 1000000
set_option maxHeartbeats 4000000 in
set_option maxRecDepth 100000 in
theorem rMay_c (v : Value) (f : Fee.Fd) (w : World) (hv : IsFd w v f) (hz : Fee.Sz f) : Calls Try.prog 39 #[v] w fun e w' => e = .returned (.bool (Fee.good f)) ∧ Bw w w' := by
  obtain ⟨va, vi, vs, vr, vc, vf, rfl, ha, hi, hs, hr, hc, hf, -⟩ := hv
  obtain ⟨qi, ci, rfl, -⟩ := Rd8.open hi
  obtain ⟨qr, cr, rfl, -⟩ := Rd8.open hr
  obtain ⟨qc, cc, rfl, -⟩ := RdR.form hc
  obtain ⟨qa, ca, rfl, ha1, -, hca⟩ := RdR.at1 ha
  obtain ⟨qs, cs, rfl, hs1, -, hcs⟩ := RdR.at1 hs
  obtain ⟨qf, cf, rfl, hf1, -, hcf⟩ := hf.open
  clear hi hr hc ha hs hf
  generalize hR : Fee.good f = R
  by_cases hlen : f.args.length ≤ 16 ∧ f.input.length ≤ 4096 ∧ f.short.length ≤ 64 ∧ f.random.length ≤ 4096 ∧ f.clock.length ≤ 64 ∧ f.files.length ≤ 8
  rotate_left
  · have hF : R = false := by
      cases R with
      | false => rfl
      | true =>
        obtain ⟨a, b, c, d, e, g⟩ := Fee.good_len hR
        exact absurd ⟨d, e, a, b, c, g⟩ hlen
    subst hF
    clear hR hcs hca hcf hz
    have h6 : decide ((16 : Int) < f.args.length) = true ∨ decide ((16 : Int) < f.args.length) = false ∧ (decide ((4096 : Int) < f.input.length) = true ∨ decide ((4096 : Int) < f.input.length) = false ∧ (decide ((64 : Int) < f.short.length) = true ∨ decide ((64 : Int) < f.short.length) = false ∧ (decide ((4096 : Int) < f.random.length) = true ∨ decide ((4096 : Int) < f.random.length) = false ∧ (decide ((64 : Int) < f.clock.length) = true ∨ decide ((64 : Int) < f.clock.length) = false ∧ decide ((8 : Int) < f.files.length) = true)))) := by
      simp only [decide_eq_true_eq, decide_eq_false_iff_not]
      omega
    clear hlen
    rcases h6 with h1 | ⟨h1, h2 | ⟨h2, h3 | ⟨h3, h4 | ⟨h4, h5 | ⟨h5, h6⟩⟩⟩⟩⟩
    all_goals
      go_enter Try.func39, Try.ntmps39
      go_wp2_with fail
      go_returns
      exact ⟨rfl, by (repeat' (first | (with_reducible assumption) | (with_reducible exact Bw.refl _) | (with_reducible refine Bw.alloc ?_ _) | (with_reducible refine Bw.drew ?_) | (with_reducible refine Bw.drewN ?_ _) | (with_reducible refine Bw.setCell ?_ ?_ _) | exact Nat.le_refl _))⟩
  obtain ⟨l1, l2, l3, l4, l5, l6⟩ := hlen
  have hG : Fee.good f = (f.args.all Fee.argOk && f.short.all Fee.shOk && Fee.filesFrom f.files 0 f.files) := by
    unfold Fee.good Fee.argsOk Fee.shortOk Fee.filesOk
    simp only [l1, l2, l3, l4, l5, l6, decide_true, Bool.true_and, Bool.and_true]
  rw [hG] at hR
  clear hG
  have m1 : decide ((16 : Int) < f.args.length) = false := decide_eq_false (by omega)
  have m2 : decide ((4096 : Int) < f.input.length) = false := decide_eq_false (by omega)
  have m3 : decide ((64 : Int) < f.short.length) = false := decide_eq_false (by omega)
  have m4 : decide ((4096 : Int) < f.random.length) = false := decide_eq_false (by omega)
  have m5 : decide ((64 : Int) < f.clock.length) = false := decide_eq_false (by omega)
  have m6 : decide ((8 : Int) < f.files.length) = false := decide_eq_false (by omega)
  have HR : Hid _ := hR
  clear hR l2 l4 l5
  go_enter Try.func39, Try.ntmps39
  go_wp2_with fail
  clear m1 m2 m3 m4 m5 m6
  obtain ⟨wB, hwB, hbB, hBx⟩ : ∃ wB, w.alloc (.cells #[.slice qa f.args.length ca, .slice qi f.input.length ci, .slice qs f.short.length cs, .slice qr f.random.length cr, .slice qc f.clock.length cc, .slice qf f.files.length cf] 38) = wB ∧ Bw w wB ∧ Box wB w.heap.size [.slice qa f.args.length ca, .slice qi f.input.length ci, .slice qs f.short.length cs, .slice qr f.random.length cr, .slice qc f.clock.length cc, .slice qf f.files.length cf] := ⟨_, rfl, (Bw.refl w).alloc _, Box.new w _ _⟩
  rw [hwB]
  clear hwB
  generalize w.heap.size = fb at *
  have x0 := hBx.c 0 _ rfl; have x2 := hBx.c 2 _ rfl; have x5 := hBx.c 5 _ rfl
  clear hBx
  go_loopg [3] f.args.length (fun g j wr => ∃ k : Nat, k + g = f.args.length ∧ j = .int .i64 k ∧ Bw wB wr ∧ ((f.args.drop k).all Fee.argOk && f.short.all Fee.shOk && Fee.filesFrom f.files 0 f.files) = R)
  case atStart => exact ⟨0, by omega, rfl, Bw.refl _, HR⟩
  case round =>
    obtain ⟨k, hkg, rfl, hbw, hrun⟩ := hrel
    have HRun : Hid _ := hrun
    have hbW := hbB.trans hbw
    have y0 := hbw.keep x0
    clear hrun HR
    by_cases hk : k = f.args.length
    · subst hk
      have HR2 : Hid ((f.short.all Fee.shOk && Fee.filesFrom f.files 0 f.files) = R) := by
        have h := (show _ = R from HRun)
        rw [List.drop_length, List.all_nil, Bool.true_and] at h
        exact h
      have y2 := hbw.keep x2
      clear HRun hca
      go_wp2_with fail
      clear y0 y2
      go_loopg [4] f.short.length (fun g j wr2 => ∃ k : Nat, k + g = f.short.length ∧ j = .int .i64 k ∧ Bw wB wr2 ∧ ((f.short.drop k).all Fee.shOk && Fee.filesFrom f.files 0 f.files) = R)
      case atStart => exact ⟨0, by omega, rfl, hbw, HR2⟩
      case round =>
        obtain ⟨k, hkg, rfl, hbw, hrun⟩ := hrel
        have HRun : Hid _ := hrun
        have hbW := hbB.trans hbw
        have y2 := hbw.keep x2
        clear hrun HR2
        by_cases hk : k = f.short.length
        · subst hk
          have HR3 : Hid (Fee.filesFrom f.files 0 f.files = R) := by
            have h := (show _ = R from HRun)
            rw [List.drop_length, List.all_nil, Bool.true_and] at h
            exact h
          have y5 := hbw.keep x5
          clear HRun hcs
          go_wp2_with fail
          clear y2 y5
          go_loopg [5] f.files.length (fun g j wr3 => ∃ k : Nat, k + g = f.files.length ∧ j = .int .i64 k ∧ Bw wB wr3 ∧ Fee.filesFrom f.files k (f.files.drop k) = R)
          case atStart => exact ⟨0, by omega, rfl, hbw, HR3⟩
          case round =>
            obtain ⟨k, hkg, rfl, hbw, hrun⟩ := hrel
            have HRun : Hid _ := hrun
            have hbW := hbB.trans hbw
            have y5 := hbw.keep x5
            clear hrun HR3
            by_cases hk : k = f.files.length
            · subst hk
              have hRe : Hid (true = R) := by rw [List.drop_length] at HRun; exact HRun
              go_wp2_with fail
              go_returns
              exact ret_boolH hRe hbW
            · have hkl : k < f.files.length := by omega
              have hki : (k : Int) < (f.files.length : Int) := by omega
              obtain ⟨x, hx, hd⟩ := dropAt hkl
              obtain ⟨b, o, qx, cx, rfl, hb, c0, c1, -, -, -⟩ := hcf k x hx
              have HRun2 : Hid ((Fee.fileOk x && !Fee.has (f.files.take k) x.name && Fee.filesFrom f.files (k + 1) (f.files.drop (k + 1))) = R) := by
                have h := (show _ = R from HRun)
                rw [hd] at h
                exact h
              have hN := fun X => noughts_c x.name X (hz.2 x (List.mem_of_getElem? hx))
              replace c0 := hbW.keep c0
              replace c1 := hbW.keep c1
              clear hd hx HRun
              have hz1 : x.name.size = 0 ∨ x.name.size ≠ 0 := by omega
              have HRunF : ∀ {A B : Bool}, Fee.fileOk x = false → (Fee.fileOk x && A && B) = R → Hid (false = R) := fun h e => by show _ = _; rw [h] at e; simpa using e
              unfold Fee.fileOk at HRunF HRun2
              by_cases h1 : x.name.size < 1
              · have HR4 : Hid (false = R) := HRunF (by rw [decide_eq_false (by omega)]; simp) (show _ = R from HRun2)
                have h1i : (x.name.size : Int) < 1 := by omega
                clear HRun2 hcf HRunF hz1
                go_wp2_with fail
                go_returns
                exact ret_boolH HR4 (hbW.alloc _)
              have h1i : ¬ (x.name.size : Int) < 1 := by omega
              by_cases h2 : 40 < x.name.size
              · have HR4 : Hid (false = R) := HRunF (by rw [decide_eq_false (p := x.name.size ≤ 40) (by omega)]; simp) (show _ = R from HRun2)
                have h2i : (40 : Int) < (x.name.size : Int) := by omega
                clear HRun2 hcf HRunF hz1
                go_wp2_with fail
                go_returns
                exact ret_boolH HR4 (hbW.alloc _)
              have h2i : ¬ (40 : Int) < (x.name.size : Int) := by omega
              cases hnu : Fee.nul x.name with
              | true =>
                have HR4 : Hid (false = R) := HRunF (by rw [hnu]; simp) (show _ = R from HRun2)
                rw [hnu] at hN
                clear HRun2 hcf HRunF hz1
                go_wp2_with (go_at_call 46; refine (hN _).mono ?_; rintro e w2 ⟨rfl, h2⟩)
                go_returns
                exact ret_boolH HR4 ((hbW.alloc _).trans h2)
              | false =>
                rw [hnu] at hN
                have hXx : Box (wr.alloc (.cells #[.string x.name, .slice qx x.data.length cx] 75)) wr.heap.size [.string x.name, .slice qx x.data.length cx] := Box.new wr _ _
                have hbX : Bw wB (wr.alloc (.cells #[.string x.name, .slice qx x.data.length cx] 75)) := hbw.alloc _
                by_cases h3 : 4096 < x.data.length
                · have HR4 : Hid (false = R) := HRunF (by rw [decide_eq_false (p := x.data.length ≤ 4096) (by omega)]; simp) (show _ = R from HRun2)
                  have h3i : decide ((4096 : Int) < (x.data.length : Int)) = true := decide_eq_true (by omega)
                  have e1 := hXx.c 1 _ rfl
                  clear HRun2 hcf HRunF hz1
                  go_wp2_with (go_at_call 46; refine (hN _).mono ?_; rintro e w2 ⟨rfl, h2⟩; have e2 := h2.keep e1)
                  go_returns
                  exact ret_boolH HR4 ((hbB.trans hbX).trans h2)
                have h3i : decide ((4096 : Int) < (x.data.length : Int)) = false := decide_eq_false (by omega)
                have HR4 : Hid ((!Fee.has (f.files.take k) x.name && Fee.filesFrom f.files (k + 1) (f.files.drop (k + 1))) = R) := by
                  have h := (show _ = R from HRun2)
                  rw [decide_eq_true (p := x.name.size ≠ 0) (by omega), decide_eq_true (p := x.name.size ≤ 40) (by omega), decide_eq_true (p := x.data.length ≤ 4096) (by omega), hnu] at h
                  show _ = _
                  simpa only [Bool.true_and, Bool.not_false] using h
                generalize hH : Fee.has (f.files.take k) x.name = H at HR4
                have HH : Hid _ := hH
                have e1 := hXx.c 1 _ rfl
                clear HRun2 HRunF hz1 hH
                go_wp2_with (go_at_call 46; refine (hN _).mono ?_; rintro e w2 ⟨rfl, h2⟩; have e2 := h2.keep e1)
                clear e2 e1
                have hbX2 := hbX.trans h2
                have hXx2 := hXx.bw h2
                generalize wr.heap.size = xb at *
                clear hXx hbX hbw hbW c0 c1 y5 h2 hN
                go_loopg [7] k (fun g j wx => ∃ m : Nat, m + g = k ∧ j = .int .i64 m ∧ Bw wB wx ∧ Box wx xb [.string x.name, .slice qx x.data.length cx] ∧ Fee.has ((f.files.take k).drop m) x.name = H)
                case atStart => exact ⟨0, by omega, rfl, hbX2, hXx2, HH⟩
                case round =>
                  obtain ⟨m, hmg, rfl, hbw, hXx, hrun⟩ := hrel
                  have HRun : Hid _ := hrun
                  clear hrun HH hbX2 hXx2
                  by_cases hm : m = k
                  · subst hm
                    have HR5 : Hid (Fee.filesFrom f.files (m + 1) (f.files.drop (m + 1)) = R) := by
                      have h := (show _ = H from HRun)
                      have hl : (f.files.take m).length ≤ m := by rw [List.length_take]; omega
                      rw [List.drop_eq_nil_of_le hl] at h
                      obtain rfl : false = H := h
                      exact (show _ = R from HR4)
                    clear HRun HR4
                    go_wp2_with fail
                    go_roundg (f.files.length - (m + 1))
                    case measure => omega
                    case rel => exact ⟨m + 1, by omega, by simp, hbw, HR5⟩
                  · have hmk : m < k := by omega
                    have hmi : (m : Int) < (k : Int) := by omega
                    have hml : (m : Int) < (f.files.length : Int) := by omega
                    obtain ⟨y, hy, hd⟩ := dropAt (l := f.files.take k) (k := m) (by rw [List.length_take]; omega)
                    rw [List.getElem?_take_of_lt hmk] at hy
                    obtain ⟨b2, o2, qy, cy, ho2, -, d0, -, -, -, -⟩ := hcf m y hy
                    simp at ho2
                    obtain ⟨rfl, rfl⟩ := ho2
                    replace d0 := (hbB.trans hbw).keep d0
                    have y5 := hbw.keep x5
                    have e0 := hXx.c 0 _ rfl
                    have HRun2 : Hid ((y.name.toList == x.name.toList || Fee.has ((f.files.take k).drop (m + 1)) x.name) = H) := by
                      have h := (show _ = H from HRun)
                      rw [hd] at h
                      exact h
                    clear hy hd HRun hcf
                    cases hnm : y.name.toList == x.name.toList with
                    | true =>
                      have HR5 : Hid (false = R) := by
                        have h := (show _ = H from HRun2)
                        rw [hnm, Bool.true_or] at h
                        subst h
                        exact (show _ = R from HR4)
                      clear HRun2 HR4
                      go_wp2_with fail
                      go_region
                      go_wp2_with fail
                      go_returns
                      exact ret_boolH HR5 ((hbB.trans hbw).drew)
                    | false =>
                      rw [hnm, Bool.false_or] at HRun2
                      go_wp2_with fail
                      go_region
                      go_wp2_with fail
                      go_roundg (k - (m + 1))
                      case measure => omega
                      case rel => exact ⟨m + 1, by omega, by simp, hbw.drew, hXx.bw (Bw.refl _).drew, HRun2⟩
        · have hkl : k < f.short.length := by omega
          have hki : (k : Int) < (f.short.length : Int) := by omega
          obtain ⟨n, hs, hd⟩ := dropAt hkl
          obtain ⟨b, o, rfl, hb, c0⟩ := hcs k n hs
          replace c0 := hbW.keep c0
          have HRun2 : Hid ((decide (0 ≤ n) && decide (n ≤ 4096) && ((f.short.drop (k + 1)).all Fee.shOk && Fee.filesFrom f.files 0 f.files)) = R) := by
            have h := (show _ = R from HRun)
            rw [hd, List.all_cons, Bool.and_assoc] at h
            exact h
          clear hd hs HRun
          by_cases h2 : n < 0
          · rw [decide_eq_false (by omega), Bool.false_and, Bool.false_and] at HRun2
            go_wp2_with fail
            go_returns
            exact ret_boolH HRun2 hbW
          · rw [decide_eq_true (by omega), Bool.true_and] at HRun2
            by_cases h3 : 4096 < n
            · rw [decide_eq_false (by omega), Bool.false_and] at HRun2
              go_wp2_with fail
              go_returns
              exact ret_boolH HRun2 hbW
            · rw [decide_eq_true (by omega), Bool.true_and] at HRun2
              go_wp2_with fail
              go_roundg (f.short.length - (k + 1))
              case measure => omega
              case rel => exact ⟨k + 1, by omega, by simp, hbw, HRun2⟩
    · have hkl : k < f.args.length := by omega
      have hki : (k : Int) < (f.args.length : Int) := by omega
      obtain ⟨s, hs, hd⟩ := dropAt hkl
      obtain ⟨b, o, rfl, hb, c0⟩ := hca k s hs
      replace c0 := hbW.keep c0
      have hN := fun X => noughts_c s X (hz.1 s (List.mem_of_getElem? hs))
      have HRun2 : Hid ((decide (s.size ≤ 200) && !Fee.nul s && ((f.args.drop (k + 1)).all Fee.argOk && f.short.all Fee.shOk && Fee.filesFrom f.files 0 f.files)) = R) := by
        have h := (show _ = R from HRun)
        rw [hd, List.all_cons, Bool.and_assoc, Bool.and_assoc, ← Bool.and_assoc ((f.args.drop (k + 1)).all Fee.argOk)] at h
        exact h
      clear hd hs HRun
      by_cases h2 : 200 < s.size
      · rw [decide_eq_false (by omega), Bool.false_and, Bool.false_and] at HRun2
        have h2i : (200 : Int) < s.size := by omega
        go_wp2_with fail
        go_returns
        exact ret_boolH HRun2 hbW
      · rw [decide_eq_true (by omega), Bool.true_and] at HRun2
        have h2i : (s.size : Int) ≤ 200 := by omega
        cases hnu : Fee.nul s with
        | true =>
          rw [hnu, Bool.not_true, Bool.false_and] at HRun2
          rw [hnu] at hN
          go_wp2_with (go_at_call 46; refine (hN _).mono ?_; rintro e w2 ⟨rfl, h2⟩)
          go_returns
          exact ret_boolH HRun2 (hbW.trans h2)
        | false =>
          rw [hnu, Bool.not_false, Bool.true_and] at HRun2
          rw [hnu] at hN
          go_wp2_with (go_at_call 46; refine (hN _).mono ?_; rintro e w2 ⟨rfl, h2⟩)
          go_roundg (f.args.length - (k + 1))
          case measure => omega
          case rel => exact ⟨k + 1, by omega, by simp, hbw.trans h2, HRun2⟩
end Go.Proofs.Ytncidjkkngbclaa
namespace Go.Proofs.Ytncidjkkngbclaa
open Go.ChangeShapes Go.WideShapes Go.ChangeAt Go.RowKit

/-- The document's own feed that is used: how far. -/
structure RUse (w : World) (rb : Nat) (sh rd ck : List Int) (a b c : Nat) : Prop where
  x : ∃ va vi vs vr vc vf, Box w rb [va, vi, vs, vr, vc, vf, .int .i64 a, .int .i64 b, .int .i64 c] ∧ NsS w vs sh ∧ Rd8 w vr rd ∧ WsS w vc ck ∧ Far rb vs ∧ Far rb vr ∧ Far rb vc
  la : a ≤ sh.length
  lb : b ≤ rd.length
  lc : c ≤ ck.length
theorem RUse.bw {w w' : World} {ub : Nat} {sh rd ck : List Int} {a b c : Nat} (h : RUse w ub sh rd ck a b c) (g : Bw w w') : RUse w' ub sh rd ck a b c := by
  obtain ⟨⟨va, vi, vs, vr, vc, vf, h1, h2, h3, h4, h5, h6, h7⟩, la, lb, lc⟩ := h
  exact ⟨⟨va, vi, vs, vr, vc, vf, h1.bw g, RdR.bw h2 g, Rd8.bw h3 g, RdR.bw h4 g, h5, h6, h7⟩, la, lb, lc⟩
theorem RUse.lt {w : World} {ub : Nat} {sh rd ck : List Int} {a b c : Nat} (h : RUse w ub sh rd ck a b c) : ub < w.heap.size := by
  obtain ⟨⟨va, vi, vs, vr, vc, vf, h1, _⟩, _⟩ := h
  exact h1.lt
/-- The feed within is the same. -/
def KeepR (ub : Nat) (w w' : World) : Prop := ∀ j, j < 6 → w'.cell? ⟨ub, j, none⟩ = w.cell? ⟨ub, j, none⟩
theorem KeepR.refl (ub : Nat) (w : World) : KeepR ub w w := fun _ _ => rfl
theorem KeepR.bw {ub : Nat} {a w w' : World} (h : KeepR ub a w) (hl : ub < w.heap.size) (g : Bw w w') : KeepR ub a w' := fun j hj => (Below.cell g (p := ⟨ub, j, none⟩) hl).trans (h j hj)
theorem KeepR.set {ub : Nat} {a w : World} (h : KeepR ub a w) (k : Nat) (hk : 6 ≤ k) (v : Value) : KeepR ub a (w.setCell ⟨ub, k, none⟩ v) := fun j hj => by
  rw [World.cell?_setCell_other _ _ _ _ (fun e => by have := congrArg Addr.off e; simp at this; omega)]; exact h j hj
set_option maxHeartbeats 2000000 in
set_option maxRecDepth 100000 in
theorem rTake_c (w : World) (ub : Nat) (sh rd ck : List Int) (a b c : Nat) (h : RUse w ub sh rd ck a b c) (hl : sh.length ≤ 10000) (n : Int) :
    Calls Try.prog 31 #[.pointer (some ⟨ub, 0, none⟩), .int .i64 n] w fun e w' => e = .returned (.int .i64 (Fee.take sh a n).1) ∧ RUse w' ub sh rd ck (Fee.take sh a n).2 b c ∧ Bq ub w w' ∧ KeepR ub w w' := by
  have hU := h
  have HLT := h.lt
  obtain ⟨⟨va, vi, vs, vr, vc, vf, hb, hS, hR, hC, f1, f2, f3⟩, la, lb, lc⟩ := h
  by_cases hn : n < 0
  · have hF : Fee.take sh a n = (0, a) := by unfold Fee.take; rw [if_pos hn]
    rw [hF]
    go_enter Try.func31, Try.ntmps31
    go_wp2
    go_returns
    exact ⟨rfl, hU, Bq.refl _ _, KeepR.refl _ _⟩
  have hn0 : ¬ n < 0 := hn
  have hS2 := hS
  obtain ⟨q, cap, rfl, hc1, hc2, hcell⟩ := RdR.at1 hS
  have b2 := hb.c 2 _ rfl; have b6 := hb.c 6 _ rfl; have b6f := hb.f 6 (by simp)
  by_cases ha : a = sh.length
  · have hF : Fee.take sh a n = (n, a) := by unfold Fee.take; rw [if_neg hn, ha, List.getElem?_eq_none (Nat.le_refl _)]
    rw [hF]
    subst ha
    have HU : Hid _ := hU
    clear hU hb hS hS2 hR hC hcell
    go_enter Try.func31, Try.ntmps31
    go_wp2
    go_region
    go_wp2
    go_returns
    exact ⟨rfl, RUse.bw HU (by (repeat' (first | (with_reducible assumption) | (with_reducible exact Bw.refl _) | (with_reducible refine Bw.alloc ?_ _) | (with_reducible refine Bw.drew ?_) | (with_reducible refine Bw.drewN ?_ _) | (with_reducible refine Bw.setCell ?_ ?_ _) | exact Nat.le_refl _))), (Bq.refl _ _).bw (by (repeat' (first | (with_reducible assumption) | (with_reducible exact Bw.refl _) | (with_reducible refine Bw.alloc ?_ _) | (with_reducible refine Bw.drew ?_) | (with_reducible refine Bw.drewN ?_ _) | (with_reducible refine Bw.setCell ?_ ?_ _) | exact Nat.le_refl _))), (KeepR.refl _ _).bw HLT (by (repeat' (first | (with_reducible assumption) | (with_reducible exact Bw.refl _) | (with_reducible refine Bw.alloc ?_ _) | (with_reducible refine Bw.drew ?_) | (with_reducible refine Bw.drewN ?_ _) | (with_reducible refine Bw.setCell ?_ ?_ _) | exact Nat.le_refl _)))⟩
  · have hal : a < sh.length := by omega
    obtain ⟨m, hm⟩ : ∃ m, sh[a]? = some m := ⟨_, List.getElem?_eq_getElem hal⟩
    have hF : Fee.take sh a n = (min n m, a + 1) := by unfold Fee.take; rw [if_neg hn, hm]
    rw [hF]
    obtain ⟨b', o, rfl, hbl, c0⟩ := hcell a m hm
    have hne : b' ≠ ub := f1 _ _ _ rfl (by omega)
    have hai : ((a : Int) = (sh.length : Int)) = False := by simp; omega
    have hali : (a : Int) < (sh.length : Int) := by omega
    have hbx := hb.set 6 (by simp) (.int .i64 ((a : Int) + 1))
    have hbx' := hb.bw (Bw.refl w).drew
    have HFin : Hid (RUse (w.setCell ⟨ub, 6, none⟩ (.int .i64 ((a : Int) + 1))) ub sh rd ck (a + 1) b c ∧ Bq ub w (w.setCell ⟨ub, 6, none⟩ (.int .i64 ((a : Int) + 1))) ∧ KeepR ub w (w.setCell ⟨ub, 6, none⟩ (.int .i64 ((a : Int) + 1)))) := by
      have hq : Bq ub w (w.setCell ⟨ub, 6, none⟩ (.int .i64 ((a : Int) + 1))) := (Bq.refl _ _).set 6 _
      exact ⟨⟨⟨va, vi, _, vr, vc, vf, hbx, RdR.q hS2 hq f1, RdR.q hR hq f2, RdR.q hC hq f3, f1, f2, f3⟩, hal, lb, lc⟩, hq, (KeepR.refl _ _).set 6 (by omega) _⟩
    clear hbx hbx' hU hb hS hS2 hR hC hcell
    by_cases hmn : m < n
    · have hmin : min n m = m := by omega
      rw [hmin]
      clear hmin hF
      go_enter Try.func31, Try.ntmps31
      go_wp2
      go_region
      go_wp2
      go_region
      go_wp2
      go_region
      go_wp2
      go_returns
      exact ⟨rfl, RUse.bw (show _ ∧ _ ∧ _ from HFin).1 (by (repeat' (first | (with_reducible assumption) | (with_reducible exact Bw.refl _) | (with_reducible refine Bw.alloc ?_ _) | (with_reducible refine Bw.drew ?_) | (with_reducible refine Bw.drewN ?_ _) | (with_reducible refine Bw.setCell ?_ ?_ _) | exact Nat.le_refl _))), Bq.bw (show _ ∧ _ ∧ _ from HFin).2.1 (by (repeat' (first | (with_reducible assumption) | (with_reducible exact Bw.refl _) | (with_reducible refine Bw.alloc ?_ _) | (with_reducible refine Bw.drew ?_) | (with_reducible refine Bw.drewN ?_ _) | (with_reducible refine Bw.setCell ?_ ?_ _) | exact Nat.le_refl _))), KeepR.bw (show _ ∧ _ ∧ _ from HFin).2.2 (by simpa [World.setCell] using HLT) (by (repeat' (first | (with_reducible assumption) | (with_reducible exact Bw.refl _) | (with_reducible refine Bw.alloc ?_ _) | (with_reducible refine Bw.drew ?_) | (with_reducible refine Bw.drewN ?_ _) | (with_reducible refine Bw.setCell ?_ ?_ _) | exact Nat.le_refl _)))⟩
    · have hmin : min n m = n := by omega
      rw [hmin]
      clear hmin hF
      go_enter Try.func31, Try.ntmps31
      go_wp2
      go_region
      go_wp2
      go_region
      go_wp2
      go_returns
      exact ⟨rfl, RUse.bw (show _ ∧ _ ∧ _ from HFin).1 (by (repeat' (first | (with_reducible assumption) | (with_reducible exact Bw.refl _) | (with_reducible refine Bw.alloc ?_ _) | (with_reducible refine Bw.drew ?_) | (with_reducible refine Bw.drewN ?_ _) | (with_reducible refine Bw.setCell ?_ ?_ _) | exact Nat.le_refl _))), Bq.bw (show _ ∧ _ ∧ _ from HFin).2.1 (by (repeat' (first | (with_reducible assumption) | (with_reducible exact Bw.refl _) | (with_reducible refine Bw.alloc ?_ _) | (with_reducible refine Bw.drew ?_) | (with_reducible refine Bw.drewN ?_ _) | (with_reducible refine Bw.setCell ?_ ?_ _) | exact Nat.le_refl _))), KeepR.bw (show _ ∧ _ ∧ _ from HFin).2.2 (by simpa [World.setCell] using HLT) (by (repeat' (first | (with_reducible assumption) | (with_reducible exact Bw.refl _) | (with_reducible refine Bw.alloc ?_ _) | (with_reducible refine Bw.drew ?_) | (with_reducible refine Bw.drewN ?_ _) | (with_reducible refine Bw.setCell ?_ ?_ _) | exact Nat.le_refl _)))⟩
end Go.Proofs.Ytncidjkkngbclaa
namespace Go.Proofs.Ytncidjkkngbclaa
open Go.ChangeShapes Go.WideShapes Go.ChangeAt Go.RowKit

/-- The slices of the feed within lie in other blocks. -/
def FarR (w : World) (rb pb : Nat) : Prop := ∀ j v, 2 ≤ j → j < 5 → w.cell? ⟨rb, j, none⟩ = some v → Far pb v
theorem FarR.mk {w : World} {rb pb : Nat} {va vi vs vr vc : Value} {r : List Value} (h : Box w rb (va :: vi :: vs :: vr :: vc :: r)) (a : Far pb vs) (b : Far pb vr) (c : Far pb vc) : FarR w rb pb := fun j v hj hk e => by
  obtain rfl | rfl | rfl : j = 2 ∨ j = 3 ∨ j = 4 := by omega
  · rw [h.c 2 _ rfl] at e; obtain rfl := Option.some.inj e; exact a
  · rw [h.c 3 _ rfl] at e; obtain rfl := Option.some.inj e; exact b
  · rw [h.c 4 _ rfl] at e; obtain rfl := Option.some.inj e; exact c
theorem Far.nil (pb : Nat) : Far pb (.slice none 0 0) := fun _ _ _ e => by simp at e
set_option maxHeartbeats 2000000 in
set_option maxRecDepth 100000 in
theorem rBegin_c (va vi vs vr vc vf : Value) (f : Fee.Fd) (w : World) (hv : IsFd w (.agg #[va, vi, vs, vr, vc, vf]) f) (hz : Fee.Sz f) : Calls Try.prog 26 #[.agg #[va, vi, vs, vr, vc, vf]] w fun e w' => ∃ rb, e = .returned (.pointer (some ⟨rb, 0, none⟩)) ∧ w.heap.size ≤ rb ∧ Bw w w' ∧ RUse w' rb (Fee.beg f).short (Fee.beg f).random (Fee.beg f).clock 0 0 0 ∧ ∀ pb, Far pb vs → Far pb vr → Far pb vc → FarR w' rb pb := by
  have hG := fun X (g : Bw w X) => rMay_c _ f X (hv.bw g) hz
  obtain ⟨va', vi', vs', vr', vc', vf', hve, ha, hi, hs, hr, hc, hf, -⟩ := hv
  simp at hve
  obtain ⟨rfl, rfl, rfl, rfl, rfl, rfl⟩ := hve
  obtain ⟨qa, ca, rfl, -⟩ := RdR.form ha
  obtain ⟨qi, ci, rfl, -⟩ := Rd8.open hi
  obtain ⟨qf, cf, rfl, -⟩ := hf.form
  have HS : Hid _ := hs
  have HR : Hid _ := hr
  have HC : Hid _ := hc
  have LS : Hid _ := RdR.lo hs
  have LR : Hid _ := RdR.lo hr
  have LC : Hid _ := RdR.lo hc
  obtain ⟨qr, cr, rfl, -⟩ := Rd8.open hr
  obtain ⟨qc, cc, rfl, -⟩ := RdR.form hc
  obtain ⟨qs, cs, rfl, -⟩ := RdR.form hs
  clear ha hi hs hr hc hf hz
  have hBx := Box.new w [.slice qa f.args.length ca, .slice qi f.input.length ci, .slice qs f.short.length cs, .slice qr f.random.length cr, .slice qc f.clock.length cc, .slice qf f.files.length cf] 38
  cases hgd : Fee.good f with
  | false =>
    have hb : Fee.beg f = Fee.noFd := by unfold Fee.beg; rw [hgd]; rfl
    rw [hb]
    simp only [hgd] at hG
    go_enter Try.func26, Try.ntmps26
    go_wp2_with fail
    refine (hG _ ((Bw.refl _).alloc _)).mono ?_
    rintro e w2 ⟨rfl, h2⟩
    have hB2 := hBx.bw h2
    have hbB : Bw w w2 := ((Bw.refl w).alloc _).trans h2
    have hlt := hB2.lt
    obtain ⟨fb, hfb⟩ : ∃ fb, w.heap.size = fb := ⟨_, rfl⟩
    rw [hfb] at hB2 hlt ⊢
    have z0 := hB2.c 0 _ rfl; have z1 := hB2.c 1 _ rfl; have z2 := hB2.c 2 _ rfl; have z3 := hB2.c 3 _ rfl; have z4 := hB2.c 4 _ rfl; have z5 := hB2.c 5 _ rfl
    have y0 := hB2.f 0 (by simp); have y1 := hB2.f 1 (by simp); have y2 := hB2.f 2 (by simp); have y3 := hB2.f 3 (by simp); have y4 := hB2.f 4 (by simp); have y5 := hB2.f 5 (by simp)
    clear hG hBx hB2 h2
    go_wp2_with fail
    go_returns
    have hsz : ((((((w2.setCell ⟨fb, 0, none⟩ (.slice none 0 0)).setCell ⟨fb, 1, none⟩ (.slice none 0 0)).setCell ⟨fb, 2, none⟩ (.slice none 0 0)).setCell ⟨fb, 3, none⟩ (.slice none 0 0)).setCell ⟨fb, 4, none⟩ (.slice none 0 0)).setCell ⟨fb, 5, none⟩ (.slice none 0 0)).heap.size = w2.heap.size := by simp [World.setCell]
    have hX := Box.new ((((((w2.setCell ⟨fb, 0, none⟩ (.slice none 0 0)).setCell ⟨fb, 1, none⟩ (.slice none 0 0)).setCell ⟨fb, 2, none⟩ (.slice none 0 0)).setCell ⟨fb, 3, none⟩ (.slice none 0 0)).setCell ⟨fb, 4, none⟩ (.slice none 0 0)).setCell ⟨fb, 5, none⟩ (.slice none 0 0)) [.slice none 0 0, .slice none 0 0, .slice none 0 0, .slice none 0 0, .slice none 0 0, .slice none 0 0, .int .i64 0, .int .i64 0, .int .i64 0] 55
    have hBf : Bw w ((((((w2.setCell ⟨fb, 0, none⟩ (.slice none 0 0)).setCell ⟨fb, 1, none⟩ (.slice none 0 0)).setCell ⟨fb, 2, none⟩ (.slice none 0 0)).setCell ⟨fb, 3, none⟩ (.slice none 0 0)).setCell ⟨fb, 4, none⟩ (.slice none 0 0)).setCell ⟨fb, 5, none⟩ (.slice none 0 0)) := (((((hbB.setCell (by rw [hfb]; exact Nat.le_refl _) _).setCell (by rw [hfb]; exact Nat.le_refl _) _).setCell (by rw [hfb]; exact Nat.le_refl _) _).setCell (by rw [hfb]; exact Nat.le_refl _) _).setCell (by rw [hfb]; exact Nat.le_refl _) _).setCell (by rw [hfb]; exact Nat.le_refl _) _
    rw [hsz] at hX
    exact ⟨_, rfl, hfb ▸ hbB.size, hBf.alloc _, ⟨⟨_, _, _, _, _, _, hX, RdR.nil _ _, RdR.nil _ _, RdR.nil _ _, (fun _ _ _ e => by simp at e), (fun _ _ _ e => by simp at e), (fun _ _ _ e => by simp at e)⟩, Nat.le_refl _, Nat.le_refl _, Nat.le_refl _⟩, fun pb _ _ _ => FarR.mk hX (Far.nil _) (Far.nil _) (Far.nil _)⟩
  | true =>
    have hb : Fee.beg f = f := by unfold Fee.beg; rw [hgd]; rfl
    rw [hb]
    simp only [hgd] at hG
    go_enter Try.func26, Try.ntmps26
    go_wp2_with fail
    refine (hG _ ((Bw.refl _).alloc _)).mono ?_
    rintro e w2 ⟨rfl, h2⟩
    have hB2 := hBx.bw h2
    have hbB : Bw w w2 := ((Bw.refl w).alloc _).trans h2
    have z0 := hB2.c 0 _ rfl; have z1 := hB2.c 1 _ rfl; have z2 := hB2.c 2 _ rfl; have z3 := hB2.c 3 _ rfl; have z4 := hB2.c 4 _ rfl; have z5 := hB2.c 5 _ rfl
    clear hG hBx hB2 h2
    go_wp2_with fail
    go_returns
    have hX := Box.new w2 [.slice qa f.args.length ca, .slice qi f.input.length ci, .slice qs f.short.length cs, .slice qr f.random.length cr, .slice qc f.clock.length cc, .slice qf f.files.length cf, .int .i64 0, .int .i64 0, .int .i64 0] 55
    have gA : Bw w (w2.alloc (.cells #[.slice qa f.args.length ca, .slice qi f.input.length ci, .slice qs f.short.length cs, .slice qr f.random.length cr, .slice qc f.clock.length cc, .slice qf f.files.length cf, .int .i64 0, .int .i64 0, .int .i64 0] 55)) := hbB.alloc _
    exact ⟨_, rfl, hbB.size, gA, ⟨⟨_, _, _, _, _, _, hX, RdR.bw HS gA, Rd8.bw HR gA, RdR.bw HC gA, Lo.to LS hbB.size, Lo.to LR hbB.size, Lo.to LC hbB.size⟩, Nat.zero_le _, Nat.zero_le _, Nat.zero_le _⟩, fun pb p1 p2 p3 => FarR.mk hX p1 p2 p3⟩
theorem Bq.apF {pb : Nat} {a w w' : World} {v v' : Value} (h : Bq pb a w) (k : Ap w w' v v') (ho : ∀ j, v.ownBlock = some j → a.heap.size ≤ j) : Bq pb a w' :=
  ⟨h.b0.trans k.b, fun i hi hn => (k.block i (Nat.lt_of_lt_of_le hi h.b0.size) (fun e => by have := ho i e; omega)).trans (h.block i hi hn)⟩
/-- A world of so many blocks that another is behind. -/
theorem base_of {n : Nat} (w : World) (h : n ≤ w.heap.size) : ∃ w0 : World, w0.heap.size = n ∧ Bw w0 w := by
  have r := Below.refl 0 w
  refine ⟨{ w with heap := w.heap.extract 0 n }, by simp; omega, ⟨r.os, r.tape, r.output, by simp; omega, fun i hi => ?_⟩⟩
  simp at hi
  simp [Array.getElem?_extract]
  omega
theorem Own8.base {w0 w1 w : World} {v : Value} {l : List Int} (h : Own8 w0 w v l) (e : w1.heap.size = w0.heap.size) : Own8 w1 w v l := by
  unfold Own8 at h ⊢
  rw [e]; exact h
theorem Fee.cnt_at {rd : List Int} {b k : Nat} (lb : b ≤ rd.length) (h : b + Fee.cnt rd b k < rd.length) : Fee.cnt rd b k = k ∧ Fee.cnt rd b (k + 1) = k + 1 := by unfold Fee.cnt at *; omega
theorem Fee.cnt_end {rd : List Int} {b k : Nat} (lb : b ≤ rd.length) (h : ¬ b + Fee.cnt rd b k < rd.length) : Fee.cnt rd b (k + 1) = Fee.cnt rd b k ∧ Fee.cnt rd b k = rd.length - b := by unfold Fee.cnt at *; omega
theorem Fee.bytes_at {rd : List Int} {b k : Nat} {x : Int} (h : Fee.cnt rd b k = k ∧ Fee.cnt rd b (k + 1) = k + 1) (hx : rd[b + k]? = some x) : Fee.bytes rd b (k + 1) = Fee.bytes rd b k ++ [x] := by
  unfold Fee.bytes
  rw [h.1, h.2, List.drop_replicate, List.drop_replicate, Nat.sub_self, Nat.sub_self, List.take_add_one, List.getElem?_drop, hx]
  simp
theorem Fee.bytes_end {rd : List Int} {b k : Nat} (h : Fee.cnt rd b (k + 1) = Fee.cnt rd b k ∧ Fee.cnt rd b k = rd.length - b) (hk : Fee.cnt rd b k ≤ k) : Fee.bytes rd b (k + 1) = Fee.bytes rd b k ++ [0] := by
  unfold Fee.bytes
  rw [h.1, List.drop_replicate, List.drop_replicate, show k + 1 - Fee.cnt rd b k = (k - Fee.cnt rd b k) + 1 by omega, List.replicate_succ', List.append_assoc]
theorem Fee.cnt_le (rd : List Int) (b k : Nat) : Fee.cnt rd b k ≤ k := by unfold Fee.cnt; omega
theorem Fee.bytes_zero (rd : List Int) (b : Nat) : Fee.bytes rd b 0 = [] ∧ Fee.cnt rd b 0 = 0 := ⟨List.eq_nil_of_length_eq_zero (Fee.bytes_len rd b 0), by unfold Fee.cnt; omega⟩
end Go.Proofs.Ytncidjkkngbclaa
