/- LAYER 9's laws: great. -/
import Derived.Test.YtmecompcffphcaaFeeW4
namespace Go.Proofs.Ytmecompcffphcaa
open Go.ChangeShapes Go.WideShapes Go.ChangeAt Go.RowKit

/-- A feed that is not more than is asked of. -/
structure Fee.Bd (f : Fee.Fd) : Prop where
  la : f.args.length ≤ 20
  li : f.input.length ≤ 5000
  ls : f.short.length ≤ 70
  lr : f.random.length ≤ 5000
  lc : f.clock.length ≤ 70
  lf : f.files.length ≤ 10
  asz : ∀ s ∈ f.args, s.size ≤ 300
  fsz : ∀ x ∈ f.files, x.name.size ≤ 100 ∧ x.data.length ≤ 5000
def GreatPost (f : Fee.Fd) (w : World) (e : Ending) (w' : World) : Prop := ∃ b : Bool, e = .returned (.bool b) ∧ (b = false → Fee.Bd f) ∧ Bw w w'
theorem ret_some {f : Fee.Fd} {w w' : World} (g : Bw w w') : GreatPost f w (.returned (.bool true)) w' := ⟨true, rfl, fun h => by simp at h, g⟩
theorem ret_none {f : Fee.Fd} {w w' : World} (h : Hid (Fee.Bd f)) (g : Bw w w') : GreatPost f w (.returned (.bool false)) w' := ⟨false, rfl, fun _ => h, g⟩
set_option maxHeartbeats 4000000 in
set_option maxRecDepth 100000 in
theorem great_c (v : Value) (f : Fee.Fd) (w : World) (hv : IsFd w v f) : Calls Try.prog 6 #[v] w fun e w' => GreatPost f w e w' := by
  obtain ⟨va, vi, vs, vr, vc, vf, rfl, ha, hi, hs, hr, hc, hf, -⟩ := hv
  obtain ⟨qi, ci, rfl, -⟩ := Rd8.open hi
  obtain ⟨qr, cr, rfl, -⟩ := Rd8.open hr
  obtain ⟨qc, cc, rfl, -⟩ := RdR.form hc
  obtain ⟨qa, ca, rfl, ha1, -, hca⟩ := RdR.at1 ha
  obtain ⟨qs, cs, rfl, hs1, -⟩ := RdR.form hs
  obtain ⟨qf, cf, rfl, hf1, -, hcf⟩ := hf.open
  clear hi hr hc ha hs hf
  by_cases hlen : f.args.length ≤ 20 ∧ f.input.length ≤ 5000 ∧ f.short.length ≤ 70 ∧ f.random.length ≤ 5000 ∧ f.clock.length ≤ 70 ∧ f.files.length ≤ 10
  rotate_left
  · clear hca hcf
    have h6 : decide ((20 : Int) < f.args.length) = true ∨ decide ((20 : Int) < f.args.length) = false ∧ (decide ((5000 : Int) < f.input.length) = true ∨ decide ((5000 : Int) < f.input.length) = false ∧ (decide ((70 : Int) < f.short.length) = true ∨ decide ((70 : Int) < f.short.length) = false ∧ (decide ((5000 : Int) < f.random.length) = true ∨ decide ((5000 : Int) < f.random.length) = false ∧ (decide ((70 : Int) < f.clock.length) = true ∨ decide ((70 : Int) < f.clock.length) = false ∧ decide ((10 : Int) < f.files.length) = true)))) := by
      simp only [decide_eq_true_eq, decide_eq_false_iff_not]
      omega
    clear hlen
    rcases h6 with h1 | ⟨h1, h2 | ⟨h2, h3 | ⟨h3, h4 | ⟨h4, h5 | ⟨h5, h6⟩⟩⟩⟩⟩
    all_goals
      go_enter Try.func6, Try.ntmps6
      go_wp2_with fail
      go_returns
      exact ret_some (by (repeat' (first | (with_reducible assumption) | (with_reducible exact Bw.refl _) | (with_reducible refine Bw.alloc ?_ _) | (with_reducible refine Bw.drew ?_) | (with_reducible refine Bw.drewN ?_ _) | (with_reducible refine Bw.setCell ?_ ?_ _) | exact Nat.le_refl _)))
  obtain ⟨l1, l2, l3, l4, l5, l6⟩ := hlen
  have m1 : decide ((20 : Int) < f.args.length) = false := decide_eq_false (by omega)
  have m2 : decide ((5000 : Int) < f.input.length) = false := decide_eq_false (by omega)
  have m3 : decide ((70 : Int) < f.short.length) = false := decide_eq_false (by omega)
  have m4 : decide ((5000 : Int) < f.random.length) = false := decide_eq_false (by omega)
  have m5 : decide ((70 : Int) < f.clock.length) = false := decide_eq_false (by omega)
  have m6 : decide ((10 : Int) < f.files.length) = false := decide_eq_false (by omega)
  have HBd : Hid ((∀ s ∈ f.args, s.size ≤ 300) → (∀ x ∈ f.files, x.name.size ≤ 100 ∧ x.data.length ≤ 5000) → Fee.Bd f) := fun p q => ⟨l1, l2, l3, l4, l5, l6, p, q⟩
  clear l2 l3 l4 l5
  go_enter Try.func6, Try.ntmps6
  go_wp2_with fail
  clear m1 m2 m3 m4 m5 m6
  obtain ⟨wB, hwB, hbB, hBx⟩ : ∃ wB, w.alloc (.cells #[.slice qa f.args.length ca, .slice qi f.input.length ci, .slice qs f.short.length cs, .slice qr f.random.length cr, .slice qc f.clock.length cc, .slice qf f.files.length cf] 28) = wB ∧ Bw w wB ∧ Box wB w.heap.size [.slice qa f.args.length ca, .slice qi f.input.length ci, .slice qs f.short.length cs, .slice qr f.random.length cr, .slice qc f.clock.length cc, .slice qf f.files.length cf] := ⟨_, rfl, (Bw.refl w).alloc _, Box.new w _ _⟩
  rw [hwB]
  clear hwB
  generalize w.heap.size = fb at *
  have x0 := hBx.c 0 _ rfl; have x5 := hBx.c 5 _ rfl
  clear hBx
  go_loopg [3] f.args.length (fun g j wr => ∃ k : Nat, k + g = f.args.length ∧ j = .int .i64 k ∧ Bw wB wr ∧ ∀ s ∈ f.args.take k, s.size ≤ 300)
  case atStart => exact ⟨0, by omega, rfl, Bw.refl _, fun s h => by simp at h⟩
  case round =>
    obtain ⟨k, hkg, rfl, hbw, hall⟩ := hrel
    have HAll : Hid _ := hall
    have hbW := hbB.trans hbw
    have y0 := hbw.keep x0
    clear hall
    by_cases hk : k = f.args.length
    · subst hk
      have HA2 : Hid (∀ s ∈ f.args, s.size ≤ 300) := by
        have h := (show ∀ s ∈ f.args.take f.args.length, s.size ≤ 300 from HAll)
        rw [List.take_length] at h
        exact h
      have y5 := hbw.keep x5
      clear HAll hca
      go_wp2_with fail
      clear y0 y5
      go_loopg [4] f.files.length (fun g j wr2 => ∃ k : Nat, k + g = f.files.length ∧ j = .int .i64 k ∧ Bw wB wr2 ∧ ∀ x ∈ f.files.take k, x.name.size ≤ 100 ∧ x.data.length ≤ 5000)
      case atStart => exact ⟨0, by omega, rfl, hbw, fun s h => by simp at h⟩
      case round =>
        obtain ⟨k, hkg, rfl, hbw, hall⟩ := hrel
        have HAll : Hid _ := hall
        have hbW := hbB.trans hbw
        have y5 := hbw.keep x5
        clear hall
        by_cases hk : k = f.files.length
        · subst hk
          have HF2 : Hid (Fee.Bd f) := by
            have h := (show ∀ x ∈ f.files.take f.files.length, _ from HAll)
            rw [List.take_length] at h
            exact (show (∀ s ∈ f.args, s.size ≤ 300) → (∀ x ∈ f.files, x.name.size ≤ 100 ∧ x.data.length ≤ 5000) → Fee.Bd f from HBd) HA2 h
          go_wp2_with fail
          go_returns
          exact ret_none HF2 hbW
        · have hkl : k < f.files.length := by omega
          have hki : (k : Int) < (f.files.length : Int) := by omega
          obtain ⟨x, hx, hd⟩ := dropAt hkl
          obtain ⟨b, o, qx, cx, rfl, hb, c0, c1, -, -, -⟩ := hcf k x hx
          replace c0 := hbW.keep c0
          replace c1 := hbW.keep c1
          have HN : Hid (x.name.size ≤ 100 → x.data.length ≤ 5000 → ∀ y ∈ f.files.take (k + 1), y.name.size ≤ 100 ∧ y.data.length ≤ 5000) := fun p q y hy => by
            rw [List.take_add_one, hx, List.mem_append] at hy
            rcases hy with hy | hy
            · exact (show ∀ x ∈ f.files.take k, _ from HAll) y hy
            · simp at hy; subst hy; exact ⟨p, q⟩
          clear hd hx HAll hcf
          by_cases h1 : 100 < x.name.size
          · have h1i : (100 : Int) < (x.name.size : Int) := by omega
            go_wp2_with fail
            go_returns
            exact ret_some hbW
          have h1i : ¬ (100 : Int) < (x.name.size : Int) := by omega
          by_cases h2 : 5000 < x.data.length
          · have h2i : decide ((5000 : Int) < (x.data.length : Int)) = true := decide_eq_true (by omega)
            go_wp2_with fail
            go_returns
            exact ret_some hbW
          have h2i : decide ((5000 : Int) < (x.data.length : Int)) = false := decide_eq_false (by omega)
          have HN2 : Hid _ := (show x.name.size ≤ 100 → x.data.length ≤ 5000 → _ from HN) (by omega) (by omega)
          clear HN
          go_wp2_with fail
          go_roundg (f.files.length - (k + 1))
          case measure => omega
          case rel => exact ⟨k + 1, by omega, by simp, hbw, HN2⟩
    · have hkl : k < f.args.length := by omega
      have hki : (k : Int) < (f.args.length : Int) := by omega
      obtain ⟨s, hs, hd⟩ := dropAt hkl
      obtain ⟨b, o, rfl, hb, c0⟩ := hca k s hs
      replace c0 := hbW.keep c0
      have HN : Hid (s.size ≤ 300 → ∀ y ∈ f.args.take (k + 1), y.size ≤ 300) := fun p y hy => by
        rw [List.take_add_one, hs, List.mem_append] at hy
        rcases hy with hy | hy
        · exact (show ∀ x ∈ f.args.take k, _ from HAll) y hy
        · simp at hy; subst hy; exact p
      clear hd hs HAll hca hcf
      by_cases h1 : 300 < s.size
      · have h1i : (300 : Int) < (s.size : Int) := by omega
        go_wp2_with fail
        go_returns
        exact ret_some hbW
      have h1i : ¬ (300 : Int) < (s.size : Int) := by omega
      have HN2 : Hid _ := (show s.size ≤ 300 → _ from HN) (by omega)
      clear HN
      go_wp2_with fail
      go_roundg (f.args.length - (k + 1))
      case measure => omega
      case rel => exact ⟨k + 1, by omega, by simp, hbw, HN2⟩
end Go.Proofs.Ytmecompcffphcaa
