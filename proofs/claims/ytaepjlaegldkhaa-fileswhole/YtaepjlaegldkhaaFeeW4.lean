/- LAYER 9's walks: Good. -/
import Derived.Test.YtaepjlaegldkhaaFeeW3
namespace Go.Proofs.Ytaepjlaegldkhaa
open Go.ChangeShapes Go.WideShapes Go.ChangeAt Go.RowKit

theorem RdR.form {sz n : Nat} {w : World} {v : Value} {cs : List Value} (h : RdR sz w v n cs) : ∃ q c, v = .slice q n c ∧ n ≤ c ∧ c ≤ 9223372036854775807 := by
  obtain ⟨q, c, rfl, h1, h2, _⟩ := h
  exact ⟨q, c, rfl, h1, h2⟩
theorem FlS.form {w : World} {v : Value} {l : List Fee.Fl} (h : FlS w v l) : ∃ q c, v = .slice q l.length c ∧ l.length ≤ c ∧ c ≤ 9223372036854775807 := by
  obtain ⟨us, _, h, _⟩ := h
  exact RdR.form h
set_option maxHeartbeats 2000000 in
set_option maxRecDepth 100000 in
theorem Good_c (v : Value) (f : Fee.Fd) (w : World) (hv : IsFd w v f) : Calls Try.prog 41 #[v] w fun e w' => e = .returned (.bool (Fee.good f)) ∧ Bw w w' := by
  obtain ⟨va, vi, vs, vr, vc, vf, rfl, ha, hi, hs, hr, hc, hf, -⟩ := hv
  obtain ⟨qi, ci, rfl, -⟩ := Rd8.open hi
  obtain ⟨qr, cr, rfl, -⟩ := Rd8.open hr
  obtain ⟨qc, cc, rfl, -⟩ := RdR.form hc
  have hA := fun X (g : Bw w X) => argsStand_c va f.args X (RdR.bw ha g)
  have hS := fun X (g : Bw w X) => shortStands_c vs f.short X (RdR.bw hs g)
  have hF := fun X (g : Bw w X) => filesStand_c vf f.files X (hf.bw g)
  obtain ⟨qa, ca, rfl, -⟩ := RdR.form ha
  obtain ⟨qs, cs, rfl, -⟩ := RdR.form hs
  obtain ⟨qf, cf, rfl, -⟩ := hf.form
  generalize hR : Fee.good f = R
  unfold Fee.good at hR
  clear ha hi hs hr hc hf
  generalize Fee.argsOk f.args = A at *
  generalize Fee.shortOk f.short = S at *
  generalize Fee.filesOk f.files = F at *
  generalize f.args.length = na at *
  generalize f.input.length = ni at *
  generalize f.short.length = ns at *
  generalize f.random.length = nr at *
  generalize f.clock.length = nc at *
  generalize f.files.length = nf at *
  clear f
  obtain ⟨wB, hwB, hbB, hBx⟩ : ∃ wB, w.alloc (.cells #[.slice qa na ca, .slice qi ni ci, .slice qs ns cs, .slice qr nr cr, .slice qc nc cc, .slice qf nf cf] 33) = wB ∧ Bw w wB ∧ Box wB w.heap.size [.slice qa na ca, .slice qi ni ci, .slice qs ns cs, .slice qr nr cr, .slice qc nc cc, .slice qf nf cf] := ⟨_, rfl, (Bw.refl w).alloc _, Box.new w _ _⟩
  have x0 := hBx.c 0 _ rfl; have x1 := hBx.c 1 _ rfl; have x2 := hBx.c 2 _ rfl; have x3 := hBx.c 3 _ rfl; have x4 := hBx.c 4 _ rfl; have x5 := hBx.c 5 _ rfl
  cases A with
  | false =>
    simp only [Bool.false_and] at hR
    subst hR
    go_enter Try.func41, Try.ntmps41
    go_wp2_with (first | (go_at_call 48; refine (hA _ hbB).mono ?_; rintro e w2 ⟨rfl, h2⟩; have y1 := h2.keep x1; have y2 := h2.keep x2; have hS2 := hS _ (hbB.trans h2)) | (go_at_call 49; refine hS2.mono ?_; rintro e w3 ⟨rfl, h3⟩; have z3 := h3.keep (h2.keep x3); have z4 := h3.keep (h2.keep x4); have z5 := h3.keep (h2.keep x5); have hF3 := hF _ ((hbB.trans h2).trans h3)) | (go_at_call 50; refine hF3.mono ?_; rintro e w4 ⟨rfl, h4⟩))
    go_returns
    exact ⟨rfl, hbB.trans h2⟩
  | true =>
    rw [Bool.true_and] at hR
    by_cases hi : ni ≤ 4096
    rotate_left
    · rw [decide_eq_false hi] at hR
      simp only [Bool.false_and] at hR
      have hii : decide ((ni : Int) ≤ 4096) = false := decide_eq_false (by omega)
      clear hi
      subst hR
      go_enter Try.func41, Try.ntmps41
      go_wp2_with (first | (go_at_call 48; refine (hA _ hbB).mono ?_; rintro e w2 ⟨rfl, h2⟩; have y1 := h2.keep x1; have y2 := h2.keep x2; have hS2 := hS _ (hbB.trans h2)) | (go_at_call 49; refine hS2.mono ?_; rintro e w3 ⟨rfl, h3⟩; have z3 := h3.keep (h2.keep x3); have z4 := h3.keep (h2.keep x4); have z5 := h3.keep (h2.keep x5); have hF3 := hF _ ((hbB.trans h2).trans h3)) | (go_at_call 50; refine hF3.mono ?_; rintro e w4 ⟨rfl, h4⟩))
      go_returns
      exact ⟨rfl, hbB.trans h2⟩
    rw [decide_eq_true hi, Bool.true_and] at hR
    have hii : decide ((ni : Int) ≤ 4096) = true := decide_eq_true (by omega)
    clear hi
    cases S with
    | false =>
      simp only [Bool.false_and] at hR
      subst hR
      go_enter Try.func41, Try.ntmps41
      go_wp2_with (first | (go_at_call 48; refine (hA _ hbB).mono ?_; rintro e w2 ⟨rfl, h2⟩; have y1 := h2.keep x1; have y2 := h2.keep x2; have hS2 := hS _ (hbB.trans h2)) | (go_at_call 49; refine hS2.mono ?_; rintro e w3 ⟨rfl, h3⟩; have z3 := h3.keep (h2.keep x3); have z4 := h3.keep (h2.keep x4); have z5 := h3.keep (h2.keep x5); have hF3 := hF _ ((hbB.trans h2).trans h3)) | (go_at_call 50; refine hF3.mono ?_; rintro e w4 ⟨rfl, h4⟩))
      go_returns
      exact ⟨rfl, (hbB.trans h2).trans h3⟩
    | true =>
      rw [Bool.true_and] at hR
      by_cases hr : nr ≤ 4096
      rotate_left
      · rw [decide_eq_false hr] at hR
        simp only [Bool.false_and] at hR
        have hri : decide ((nr : Int) ≤ 4096) = false := decide_eq_false (by omega)
        clear hr
        subst hR
        go_enter Try.func41, Try.ntmps41
        go_wp2_with (first | (go_at_call 48; refine (hA _ hbB).mono ?_; rintro e w2 ⟨rfl, h2⟩; have y1 := h2.keep x1; have y2 := h2.keep x2; have hS2 := hS _ (hbB.trans h2)) | (go_at_call 49; refine hS2.mono ?_; rintro e w3 ⟨rfl, h3⟩; have z3 := h3.keep (h2.keep x3); have z4 := h3.keep (h2.keep x4); have z5 := h3.keep (h2.keep x5); have hF3 := hF _ ((hbB.trans h2).trans h3)) | (go_at_call 50; refine hF3.mono ?_; rintro e w4 ⟨rfl, h4⟩))
        go_returns
        exact ⟨rfl, (hbB.trans h2).trans h3⟩
      rw [decide_eq_true hr, Bool.true_and] at hR
      have hri : decide ((nr : Int) ≤ 4096) = true := decide_eq_true (by omega)
      clear hr
      by_cases hc : nc ≤ 64
      rotate_left
      · rw [decide_eq_false hc] at hR
        simp only [Bool.false_and] at hR
        have hci : decide ((nc : Int) ≤ 64) = false := decide_eq_false (by omega)
        clear hc
        subst hR
        go_enter Try.func41, Try.ntmps41
        go_wp2_with (first | (go_at_call 48; refine (hA _ hbB).mono ?_; rintro e w2 ⟨rfl, h2⟩; have y1 := h2.keep x1; have y2 := h2.keep x2; have hS2 := hS _ (hbB.trans h2)) | (go_at_call 49; refine hS2.mono ?_; rintro e w3 ⟨rfl, h3⟩; have z3 := h3.keep (h2.keep x3); have z4 := h3.keep (h2.keep x4); have z5 := h3.keep (h2.keep x5); have hF3 := hF _ ((hbB.trans h2).trans h3)) | (go_at_call 50; refine hF3.mono ?_; rintro e w4 ⟨rfl, h4⟩))
        go_returns
        exact ⟨rfl, (hbB.trans h2).trans h3⟩
      rw [decide_eq_true hc, Bool.true_and] at hR
      have hci : decide ((nc : Int) ≤ 64) = true := decide_eq_true (by omega)
      clear hc
      subst hR
      go_enter Try.func41, Try.ntmps41
      go_wp2_with (first | (go_at_call 48; refine (hA _ hbB).mono ?_; rintro e w2 ⟨rfl, h2⟩; have y1 := h2.keep x1; have y2 := h2.keep x2; have hS2 := hS _ (hbB.trans h2)) | (go_at_call 49; refine hS2.mono ?_; rintro e w3 ⟨rfl, h3⟩; have z3 := h3.keep (h2.keep x3); have z4 := h3.keep (h2.keep x4); have z5 := h3.keep (h2.keep x5); have hF3 := hF _ ((hbB.trans h2).trans h3)) | (go_at_call 50; refine hF3.mono ?_; rintro e w4 ⟨rfl, h4⟩))
      go_returns
      exact ⟨rfl, ((hbB.trans h2).trans h3).trans h4⟩
end Go.Proofs.Ytaepjlaegldkhaa
