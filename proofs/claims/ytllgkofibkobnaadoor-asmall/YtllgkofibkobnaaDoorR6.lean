/- LAYER 5: the document's own answer: Encode, whole. -/
import Derived.Test.YtllgkofibkobnaaDoorR4
import Derived.Test.YtllgkofibkobnaaDoorR5
namespace Go.Proofs.YtllgkofibkobnaaDoor
open Go.ChangeShapes Go.WideShapes Go.ChangeAt Go.RowKit
set_option linter.unusedVariables false

/-- Its words are package rv's. -/
theorem Rv.EncPost.of {C : Prop} {V : Int} {w : World} {e : Ending} {w' : World} (h : Rv.EncPost C V w e w') {D : Prop} {U : Int} (hc : C ↔ D) (hv : D → V = U) : Rv.EncPost D U w e w' := by
  obtain ⟨x, b, h1, h2, h3, h4⟩ := h
  exact ⟨x, b, h1, h2, h3.trans hc, fun d => (h4 (hc.2 d)).trans (hv d)⟩

set_option maxHeartbeats 1600000 in
set_option maxRecDepth 100000 in
theorem rEncode_no (op rd rs1 rs2 imm : Int) (w : World) (h : ¬ ((1 ≤ op ∧ op ≤ 49) ∧ (0 ≤ rd ∧ rd < 32) ∧ (0 ≤ rs1 ∧ rs1 < 32) ∧ (0 ≤ rs2 ∧ rs2 < 32))) :
    Calls Tryd.prog 18 #[Rv.iv ⟨op, rd, rs1, rs2, imm⟩] w fun e w' => e = .returned (.tuple #[.int .u32 0, .bool false]) ∧ Gr w w' := by
  unfold Rv.iv; dsimp only
  have kT : ∀ r : Int, (0 ≤ r ∧ r < 32) → decide (0 ≤ r ∧ r < 32) = true := fun r a => by simpa using a
  have kF : ∀ r : Int, ¬ (0 ≤ r ∧ r < 32) → decide (0 ≤ r ∧ r < 32) = false := fun r a => by simpa using a
  by_cases hop : 1 ≤ op ∧ op ≤ 49
  · obtain ⟨h0, h1⟩ := hop
    by_cases hd : 0 ≤ rd ∧ rd < 32
    · have kd := kT rd hd
      by_cases hs : 0 ≤ rs1 ∧ rs1 < 32
      · have ks := kT rs1 hs
        have kt := kF rs2 (fun ht => h ⟨⟨h0, h1⟩, hd, hs, ht⟩)
        clear h kT kF hd hs
        go_enter Tryd.func18, Tryd.ntmps18
        go_wp2_with (go_at_call 40; refine (rreg_c _ _).mono ?_; rintro e w' ⟨rfl, rfl⟩; (first | rw [kd] | rw [ks] | rw [kt]))
        go_returns
        exact ⟨rfl, by (repeat' (first | (with_reducible assumption) | (with_reducible exact Gr.refl _) | (with_reducible refine Gr.alloc ?_ _ _) | (with_reducible refine Gr.drew ?_) | (with_reducible refine Gr.drewN ?_ _) | (with_reducible refine Gr.setCell ?_ ?_ _) | (with_reducible refine Gr.trans ?_ (by assumption)) | omega | (dsimp only; omega) | (simp; done) | (simp; omega)))⟩
      · have ks := kF rs1 hs
        clear h kT kF hd hs
        go_enter Tryd.func18, Tryd.ntmps18
        go_wp2_with (go_at_call 40; refine (rreg_c _ _).mono ?_; rintro e w' ⟨rfl, rfl⟩; (first | rw [kd] | rw [ks]))
        go_returns
        exact ⟨rfl, by (repeat' (first | (with_reducible assumption) | (with_reducible exact Gr.refl _) | (with_reducible refine Gr.alloc ?_ _ _) | (with_reducible refine Gr.drew ?_) | (with_reducible refine Gr.drewN ?_ _) | (with_reducible refine Gr.setCell ?_ ?_ _) | (with_reducible refine Gr.trans ?_ (by assumption)) | omega | (dsimp only; omega) | (simp; done) | (simp; omega)))⟩
    · have kd := kF rd hd
      clear h kT kF hd
      go_enter Tryd.func18, Tryd.ntmps18
      go_wp2_with (go_at_call 40; refine (rreg_c _ _).mono ?_; rintro e w' ⟨rfl, rfl⟩; (first | rw [kd]))
      go_returns
      exact ⟨rfl, by (repeat' (first | (with_reducible assumption) | (with_reducible exact Gr.refl _) | (with_reducible refine Gr.alloc ?_ _ _) | (with_reducible refine Gr.drew ?_) | (with_reducible refine Gr.drewN ?_ _) | (with_reducible refine Gr.setCell ?_ ?_ _) | (with_reducible refine Gr.trans ?_ (by assumption)) | omega | (dsimp only; omega) | (simp; done) | (simp; omega)))⟩
  · obtain h0 | h0 : op < 1 ∨ 49 < op := by omega
    all_goals
      clear h kT kF hop
      go_enter Tryd.func18, Tryd.ntmps18
      go_wp2_with fail
      go_returns
      exact ⟨rfl, by (repeat' (first | (with_reducible assumption) | (with_reducible exact Gr.refl _) | (with_reducible refine Gr.alloc ?_ _ _) | (with_reducible refine Gr.drew ?_) | (with_reducible refine Gr.drewN ?_ _) | (with_reducible refine Gr.setCell ?_ ?_ _) | (with_reducible refine Gr.trans ?_ (by assumption)) | omega | (dsimp only; omega) | (simp; done) | (simp; omega)))⟩


/-- What the document's Encode answers of any instruction. -/
theorem rEncode_c (i : Rv.Ins) (hm : -2147483648 ≤ i.imm ∧ i.imm < 2147483648) (w : World) :
    Calls Tryd.prog 18 #[Rv.iv i] w fun e w' => Rv.EncPost (Rv.good i) (Rv.enc i) w e w' := by
  obtain ⟨op, rd, rs1, rs2, imm⟩ := i
  dsimp only at hm
  by_cases h : (1 ≤ op ∧ op ≤ 49) ∧ (0 ≤ rd ∧ rd < 32) ∧ (0 ≤ rs1 ∧ rs1 < 32) ∧ (0 ≤ rs2 ∧ rs2 < 32)
  · obtain ⟨⟨h0, h1⟩, ⟨d0, d1⟩, ⟨s0, s1⟩, ⟨t0, t1⟩⟩ := h
    rcases Rv.lay_cases op with ⟨l, c⟩ | ⟨l, c⟩ | ⟨l, c⟩ | ⟨l, c⟩ | ⟨l, c⟩ | ⟨l, c⟩ | ⟨l, c⟩ | ⟨l, c⟩
    · obtain ⟨n, o, f3, f7, en, e2, n0, n1, eo, e3, e7, e, bo, b3, b7, z3, z7⟩ := Rv.wo_parts h0 (by omega)
      have hf := fun w => form_c op w h0 (by omega)
      rw [← e2, eo, e3, e7] at hf
      have hg := Rv.good_1 (i := ⟨op, rd, rs1, rs2, imm⟩) l
      have hv : Rv.enc ⟨op, rd, rs1, rs2, imm⟩ = Rv.wo op + Rv.cho ⟨op, rd, rs1, rs2, imm⟩ := rfl
      rw [Rv.cho_1 l, e] at hv
      dsimp only [Rv.reg] at hg hv
      refine (rEnc_1 op rd rs1 rs2 imm w h0 h1 d0 d1 s0 s1 t0 t1 hm.1 hm.2 (by omega) o f3 f7 hf (by omega) (by omega) (by omega) (by omega) (by omega) (by omega) _ (Iff.rfl) _ rfl).mono fun _ _ hh => hh.of ?_ ?_
      · rw [hg]; omega
      · intro _; rw [hv]; have z3' := z3 (by omega); have z7' := z7 (by omega); omega
    · obtain ⟨n, o, f3, f7, en, e2, n0, n1, eo, e3, e7, e, bo, b3, b7, z3, z7⟩ := Rv.wo_parts h0 (by omega)
      have hf := fun w => form_c op w h0 (by omega)
      rw [← e2, eo, e3, e7] at hf
      have hg := Rv.good_2 (i := ⟨op, rd, rs1, rs2, imm⟩) l
      have hv : Rv.enc ⟨op, rd, rs1, rs2, imm⟩ = Rv.wo op + Rv.cho ⟨op, rd, rs1, rs2, imm⟩ := rfl
      rw [Rv.cho_2 l, e] at hv
      dsimp only [Rv.reg] at hg hv
      refine (rEnc_2 op rd rs1 rs2 imm w h0 h1 d0 d1 s0 s1 t0 t1 hm.1 hm.2 (by omega) (by omega) o f3 f7 hf (by omega) (by omega) (by omega) (by omega) (by omega) (by omega) _ (Iff.rfl) _ rfl).mono fun _ _ hh => hh.of ?_ ?_
      · rw [hg]; omega
      · intro _; rw [hv]; have z3' := z3 (by omega); have z7' := z7 (by omega); omega
    · obtain ⟨n, o, f3, f7, en, e2, n0, n1, eo, e3, e7, e, bo, b3, b7, z3, z7⟩ := Rv.wo_parts h0 (by omega)
      have hf := fun w => form_c op w h0 (by omega)
      rw [← e2, eo, e3, e7] at hf
      have hg := Rv.good_3 (i := ⟨op, rd, rs1, rs2, imm⟩) l
      have hv : Rv.enc ⟨op, rd, rs1, rs2, imm⟩ = Rv.wo op + Rv.cho ⟨op, rd, rs1, rs2, imm⟩ := rfl
      rw [Rv.cho_3 l, e] at hv
      dsimp only [Rv.reg] at hg hv
      refine (rEnc_3 op rd rs1 rs2 imm w h0 h1 d0 d1 s0 s1 t0 t1 hm.1 hm.2 c.1 c.2 o f3 f7 hf (by omega) (by omega) (by omega) (by omega) (by omega) (by omega) _ (Iff.rfl) _ rfl).mono fun _ _ hh => hh.of ?_ ?_
      · rw [hg]; omega
      · intro _; rw [hv]; have z7' := z7 (by omega); omega
    · obtain ⟨n, o, f3, f7, en, e2, n0, n1, eo, e3, e7, e, bo, b3, b7, z3, z7⟩ := Rv.wo_parts h0 (by omega)
      have hf := fun w => form_c op w h0 (by omega)
      rw [← e2, eo, e3, e7] at hf
      have hg := Rv.good_4 (i := ⟨op, rd, rs1, rs2, imm⟩) l
      have hv : Rv.enc ⟨op, rd, rs1, rs2, imm⟩ = Rv.wo op + Rv.cho ⟨op, rd, rs1, rs2, imm⟩ := rfl
      rw [Rv.cho_4 l, e] at hv
      dsimp only [Rv.reg] at hg hv
      refine (rEnc_4 op rd rs1 rs2 imm w h0 h1 d0 d1 s0 s1 t0 t1 hm.1 hm.2 c.1 c.2 o f3 f7 hf (by omega) (by omega) (by omega) (by omega) (by omega) (by omega) _ (Iff.rfl) _ rfl).mono fun _ _ hh => hh.of ?_ ?_
      · rw [hg]; omega
      · intro _; rw [hv]; have z7' := z7 (by omega); omega
    · obtain ⟨n, o, f3, f7, en, e2, n0, n1, eo, e3, e7, e, bo, b3, b7, z3, z7⟩ := Rv.wo_parts h0 (by omega)
      have hf := fun w => form_c op w h0 (by omega)
      rw [← e2, eo, e3, e7] at hf
      have hg := Rv.good_5 (i := ⟨op, rd, rs1, rs2, imm⟩) l
      have hv : Rv.enc ⟨op, rd, rs1, rs2, imm⟩ = Rv.wo op + Rv.cho ⟨op, rd, rs1, rs2, imm⟩ := rfl
      rw [Rv.cho_5 l, e] at hv
      dsimp only [Rv.reg] at hg hv
      rcases c with c | ⟨c0, c1⟩ | ⟨c0, c1⟩
      · refine (rEnc_5a op rd rs1 rs2 imm w h0 h1 d0 d1 s0 s1 t0 t1 hm.1 hm.2 (by omega) (by omega) o f3 f7 hf (by omega) (by omega) (by omega) (by omega) (by omega) (by omega) _ (Iff.rfl) _ rfl).mono fun _ _ hh => hh.of ?_ ?_
        · rw [hg]; omega
        · intro _; rw [hv]; have z7' := z7 (by omega); omega
      · refine (rEnc_5b op rd rs1 rs2 imm w h0 h1 d0 d1 s0 s1 t0 t1 hm.1 hm.2 c0 c1 o f3 f7 hf (by omega) (by omega) (by omega) (by omega) (by omega) (by omega) _ (Iff.rfl) _ rfl).mono fun _ _ hh => hh.of ?_ ?_
        · rw [hg]; omega
        · intro _; rw [hv]; have z7' := z7 (by omega); omega
      · refine (rEnc_5c op rd rs1 rs2 imm w h0 h1 d0 d1 s0 s1 t0 t1 hm.1 hm.2 c0 c1 o f3 f7 hf (by omega) (by omega) (by omega) (by omega) (by omega) (by omega) _ (Iff.rfl) _ rfl).mono fun _ _ hh => hh.of ?_ ?_
        · rw [hg]; omega
        · intro _; rw [hv]; have z7' := z7 (by omega); omega
    · obtain ⟨n, o, f3, f7, en, e2, n0, n1, eo, e3, e7, e, bo, b3, b7, z3, z7⟩ := Rv.wo_parts h0 (by omega)
      have hf := fun w => form_c op w h0 (by omega)
      rw [← e2, eo, e3, e7] at hf
      have hg := Rv.good_6 (i := ⟨op, rd, rs1, rs2, imm⟩) l
      have hv : Rv.enc ⟨op, rd, rs1, rs2, imm⟩ = Rv.wo op + Rv.cho ⟨op, rd, rs1, rs2, imm⟩ := rfl
      rw [Rv.cho_6 l, e] at hv
      dsimp only [Rv.reg] at hg hv
      refine (rEnc_6 op rd rs1 rs2 imm w h0 h1 d0 d1 s0 s1 t0 t1 hm.1 hm.2 c.1 c.2 o f3 f7 hf (by omega) (by omega) (by omega) (by omega) (by omega) (by omega) _ (Iff.rfl) _ rfl).mono fun _ _ hh => hh.of ?_ ?_
      · rw [hg]; omega
      · intro _; rw [hv]; omega
    · obtain ⟨n, o, f3, f7, en, e2, n0, n1, eo, e3, e7, e, bo, b3, b7, z3, z7⟩ := Rv.wo_parts h0 (by omega)
      have hf := fun w => form_c op w h0 (by omega)
      rw [← e2, eo, e3, e7] at hf
      have hg := Rv.good_7 (i := ⟨op, rd, rs1, rs2, imm⟩) l
      have hv : Rv.enc ⟨op, rd, rs1, rs2, imm⟩ = Rv.wo op + Rv.cho ⟨op, rd, rs1, rs2, imm⟩ := rfl
      rw [Rv.cho_7 l, e] at hv
      dsimp only [Rv.reg] at hg hv
      refine (rEnc_7 op rd rs1 rs2 imm w h0 h1 d0 d1 s0 s1 t0 t1 hm.1 hm.2 c.1 c.2 o f3 f7 hf (by omega) (by omega) (by omega) (by omega) (by omega) (by omega) _ (Iff.rfl) _ rfl).mono fun _ _ hh => hh.of ?_ ?_
      · rw [hg]; omega
      · intro _; rw [hv]; omega
    · have hg := Rv.good_0 (i := ⟨op, rd, rs1, rs2, imm⟩) l
      have hv : Rv.enc ⟨op, rd, rs1, rs2, imm⟩ = Rv.wo op + Rv.cho ⟨op, rd, rs1, rs2, imm⟩ := rfl
      rw [Rv.cho_0 l] at hv
      dsimp only at hg hv
      refine (rEnc_0 op rd rs1 rs2 imm w h0 h1 d0 d1 s0 s1 t0 t1 (by omega) _ (Iff.rfl) _ (Rv.last (by omega) h1)).mono fun _ _ hh => hh.of ?_ ?_
      · rw [hg]; omega
      · intro _; rw [hv]; omega
  · refine (rEncode_no op rd rs1 rs2 imm w h).mono fun e w' hh => ⟨0, false, hh.1, hh.2, ?_, ?_⟩
    · constructor
      · intro hx; cases hx
      · intro hg; exact absurd ⟨hg.1, hg.2.1, hg.2.2.1, hg.2.2.2.1⟩ h
    · intro hg; exact absurd ⟨hg.1, hg.2.1, hg.2.2.1, hg.2.2.2.1⟩ h
end Go.Proofs.YtllgkofibkobnaaDoor
