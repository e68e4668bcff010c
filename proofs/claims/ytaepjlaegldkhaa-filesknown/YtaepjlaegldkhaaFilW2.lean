/- LAYER 11's walks: Close, Open. -/
import Derived.Test.YtaepjlaegldkhaaFil2
namespace Go.Proofs.Ytaepjlaegldkhaa
open Go.ChangeShapes Go.WideShapes Go.ChangeAt Go.RowKit

set_option maxHeartbeats 1000000 in
set_option maxRecDepth 100000 in
theorem fClose_c {w0 w : World} {fb : Nat} {A : Nat → Prop} {s : Fil.St} (h : FS w0 w fb A s) (fd : Int) : Calls Try.prog 14 #[.pointer (some ⟨fb, 0, none⟩), .int .i64 fd] w fun e w' => e = .returned (.int .i64 (Fil.close s fd).1) ∧ FS w0 w' fb A (Fil.close s fd).2 ∧ Fz A w w' := by
  have hK := fKind_c h fd
  by_cases h0 : (Fil.hd s fd).kind = 0
  · rw [show Fil.close s fd = (-9, s) by unfold Fil.close; rw [if_pos h0]]
    rw [h0] at hK
    have HF : Hid _ := h
    clear h h0
    go_enter Try.func14, Try.ntmps14
    go_wp2_with (go_at_call 32; refine hK.mono ?_; rintro e w2 ⟨rfl, hb⟩)
    go_returns
    exact ⟨rfl, FS.bw HF hb, Fz.of_bw hb⟩
  · have hfd : 0 ≤ fd ∧ fd < 16 := by
      apply Decidable.byContradiction
      intro hn
      rw [Fil.hd_out hn] at h0
      exact h0 rfl
    obtain ⟨k, rfl⟩ : ∃ k : Nat, fd = k := ⟨fd.toNat, by omega⟩
    rw [show Fil.close s (k : Int) = (0, { s with op := s.op.set k Fil.no }) by unfold Fil.close; rw [if_neg h0, Int.toNat_natCast]]
    obtain ⟨x, hx, hd⟩ := Fil.hd_at (s := s) h.ok.ln (k := k) (by omega)
    have hk16 : (k : Int) < 16 := by omega
    have h0b : ((Fil.hd s k).kind == 0) = false := by simpa using h0
    generalize (Fil.hd s k).kind = kd at *
    have hX : ∀ X, Bw w X → FS w0 (((X.setCell ⟨fb, 2 + k * 3, none⟩ (.int .i64 0)).setCell ⟨fb, 2 + k * 3 + 1, none⟩ (.int .i64 0)).setCell ⟨fb, 2 + k * 3 + 2, none⟩ (.int .i64 0)) fb A { s with op := s.op.set k Fil.no } ∧ Fz A w (((X.setCell ⟨fb, 2 + k * 3, none⟩ (.int .i64 0)).setCell ⟨fb, 2 + k * 3 + 1, none⟩ (.int .i64 0)).setCell ⟨fb, 2 + k * 3 + 2, none⟩ (.int .i64 0)) := fun X g => by
      obtain ⟨ub, v1, v2, vs, us, hf⟩ := h.bw g
      obtain ⟨h1, h2⟩ := hf.set3 hx Fil.no (Or.inl rfl)
      exact ⟨⟨_, _, _, _, _, h1⟩, (Fz.of_bw g).trans h2⟩
    have hC : ∀ X, Bw w X → (X.cell? ⟨fb, 2 + k * 3, none⟩ = some (.int .i64 x.kind) ∧ X.cell? ⟨fb, 2 + k * 3 + 1, none⟩ = some (.int .i64 x.src) ∧ X.cell? ⟨fb, 2 + k * 3 + 2, none⟩ = some (.int .i64 x.pos)) ∧ (X.frozen? ⟨fb, 2 + k * 3, none⟩ = false ∧ X.frozen? ⟨fb, 2 + k * 3 + 1, none⟩ = false ∧ X.frozen? ⟨fb, 2 + k * 3 + 2, none⟩ = false) := fun X g => by
      obtain ⟨ub, v1, v2, vs, us, hf⟩ := h.bw g
      exact hf.at_ hx
    clear h h0 hd hx
    go_enter Try.func14, Try.ntmps14
    go_wp2_with (go_at_call 32; refine hK.mono ?_; rintro e w2 ⟨rfl, hb⟩; obtain ⟨⟨c0, c1, c2⟩, f0, f1, f2⟩ := hC _ hb)
    go_returns
    exact ⟨rfl, hX _ hb⟩
end Go.Proofs.Ytaepjlaegldkhaa
