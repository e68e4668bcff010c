/- LAYER 11's walks: Open. -/
import Derived.Test.YtaepjlaegldkhaaFilW4
namespace Go.Proofs.Ytaepjlaegldkhaa
open Go.ChangeShapes Go.WideShapes Go.ChangeAt Go.RowKit

theorem Fil.free_hit {op : List Fil.H} {k : Nat} {x : Fil.H} (hx : op[k]? = some x) (h0 : x.kind = 0) (hno : ∀ (i : Nat) y, i < k → op[i]? = some y → y.kind ≠ 0) : Fil.free op = some k :=
  idx_hit hx (by simp [h0]) (fun i y hi hy => by simpa using hno i y hi hy)
theorem Fil.free_none {op : List Fil.H} (hno : ∀ (i : Nat) y, i < op.length → op[i]? = some y → y.kind ≠ 0) : Fil.free op = none :=
  idx_none (fun i y hi hy => by simpa using hno i y hi hy)
set_option maxHeartbeats 4000000 in
set_option maxRecDepth 100000 in
theorem fOpen_c {w0 w : World} {fb : Nat} {A : Nat → Prop} {s : Fil.St} (h : FS w0 w fb A s) (name : ByteArray) : Calls Try.prog 11 #[.pointer (some ⟨fb, 0, none⟩), .string name] w fun e w' => e = .returned (.int .i64 (Fil.open s name).1) ∧ FS w0 w' fb A (Fil.open s name).2 ∧ Fz A w w' := by
  have hF := fFind_c h name
  obtain ⟨hr1, hr2⟩ := Fil.idx_range (s.srcs.drop 1) name
  have hfi := Fil.find_idx s.srcs name
  by_cases h0 : Fil.find s.srcs name = 0
  · rw [show Fil.open s name = (-2, s) by unfold Fil.open; rw [if_pos h0]]
    rw [h0] at hF
    have HF : Hid _ := h
    clear h h0 hfi hr1 hr2
    go_enter Try.func11, Try.ntmps11
    go_wp2_with (go_at_call 31; refine hF.mono ?_; rintro e w2 ⟨rfl, hb⟩)
    go_returns
    exact ⟨rfl, FS.bw HF hb, Fz.of_bw hb⟩
  · obtain ⟨p, hp⟩ : ∃ p : Nat, Fil.find s.srcs name = p := ⟨(Fil.find s.srcs name).toNat, by omega⟩
    have hpl : p < s.srcs.length := by
      unfold Fil.find at hp
      cases hd : (s.srcs.drop 1).findIdx? (fun f => f.name.toList == name.toList) with
      | none => rw [hd] at hp; unfold Fil.find at h0; rw [hd] at h0; exact absurd rfl h0
      | some i =>
        rw [hd] at hp
        rw [List.findIdx?_eq_some_iff_getElem] at hd
        obtain ⟨h1, _⟩ := hd
        rw [List.length_drop] at h1
        dsimp only at hp; omega
    generalize hR : Fil.open s name = R
    have HR : Hid (R = Fil.opened s p (Fil.free s.op)) := by
      show R = _
      rw [← hR]; unfold Fil.open; rw [if_neg h0, hp, Int.toNat_natCast]
    rw [hp] at hF h0
    have h0b : ((p : Int) == 0) = false := by simpa using h0
    have hln := h.ok.ln
    have hX : ∀ X k, Bw w X → k < 16 → FS w0 (((X.setCell ⟨fb, 2 + k * 3, none⟩ (.int .i64 1)).setCell ⟨fb, 2 + k * 3 + 1, none⟩ (.int .i64 p)).setCell ⟨fb, 2 + k * 3 + 2, none⟩ (.int .i64 0)) fb A { s with op := s.op.set k ⟨1, p, 0⟩ } ∧ Fz A w (((X.setCell ⟨fb, 2 + k * 3, none⟩ (.int .i64 1)).setCell ⟨fb, 2 + k * 3 + 1, none⟩ (.int .i64 p)).setCell ⟨fb, 2 + k * 3 + 2, none⟩ (.int .i64 0)) := fun X k g hk => by
      obtain ⟨ub, v1, v2, vs, us, hf⟩ := h.bw g
      obtain ⟨x, hx⟩ : ∃ x, s.op[k]? = some x := ⟨_, List.getElem?_eq_getElem (by omega)⟩
      obtain ⟨h1, h2⟩ := hf.set3 hx ⟨1, p, 0⟩ (Or.inr (Or.inl ⟨rfl, hpl⟩))
      exact ⟨⟨_, _, _, _, _, h1⟩, (Fz.of_bw g).trans h2⟩
    have hC : ∀ X k x, Bw w X → s.op[k]? = some x → (X.cell? ⟨fb, 2 + k * 3, none⟩ = some (.int .i64 x.kind) ∧ X.cell? ⟨fb, 2 + k * 3 + 1, none⟩ = some (.int .i64 x.src) ∧ X.cell? ⟨fb, 2 + k * 3 + 2, none⟩ = some (.int .i64 x.pos)) ∧ (X.frozen? ⟨fb, 2 + k * 3, none⟩ = false ∧ X.frozen? ⟨fb, 2 + k * 3 + 1, none⟩ = false ∧ X.frozen? ⟨fb, 2 + k * 3 + 2, none⟩ = false) := fun X k x g hx => by
      obtain ⟨ub, v1, v2, vs, us, hf⟩ := h.bw g
      exact hf.at_ hx
    have HFS : Hid _ := h
    clear h h0 hfi hr1 hr2 hp hpl hR
    go_enter Try.func11, Try.ntmps11
    go_wp2_with (go_at_call 31; refine hF.mono ?_; rintro e w2 ⟨rfl, hb⟩)
    go_loopg [12] 16 (fun g j wr => ∃ k : Nat, k + g = 16 ∧ j = .int .i64 k ∧ Bw w wr ∧ Hid (∀ (i : Nat) y, i < k → s.op[i]? = some y → y.kind ≠ 0))
    case atStart => exact ⟨0, by omega, rfl, hb, fun i y h => by omega⟩
    case round =>
      obtain ⟨k, hkg, rfl, hbw, HNo⟩ := hrel
      by_cases hk : k = 16
      · subst hk
        have HE : Hid (R = (-24, s)) := by
          show R = _
          rw [show R = _ from HR, Fil.free_none (fun i y hi => (show ∀ (i : Nat) y, i < 16 → s.op[i]? = some y → y.kind ≠ 0 from HNo) i y (by omega))]; rfl
        go_wp2
        go_returns
        rw [show R = _ from HE]
        exact ⟨rfl, FS.bw HFS hbw, Fz.of_bw hbw⟩
      · have hkl : k < 16 := by omega
        have hki : (k : Int) < 16 := by omega
        obtain ⟨x, hx⟩ : ∃ x, s.op[k]? = some x := ⟨_, List.getElem?_eq_getElem (by omega)⟩
        obtain ⟨⟨c0, c1, c2⟩, f0, f1, f2⟩ := hC wr k x hbw hx
        by_cases h0 : x.kind = 0
        · rw [h0] at c0
          have HE : Hid (R = ((k : Int), { s with op := s.op.set k ⟨1, p, 0⟩ })) := by
            show R = _
            rw [show R = _ from HR, Fil.free_hit hx h0 (show ∀ (i : Nat) y, i < k → s.op[i]? = some y → y.kind ≠ 0 from HNo)]; rfl
          have HX : Hid _ := hX wr k hbw hkl
          clear hX hC hx h0
          go_wp2
          go_returns
          rw [show R = _ from HE]
          exact ⟨rfl, HX⟩
        · have h0b : (x.kind == 0) = false := by simpa using h0
          have HN2 : Hid (∀ (i : Nat) y, i < k + 1 → s.op[i]? = some y → y.kind ≠ 0) := fun i y hi hy => by
            by_cases e : i = k
            · subst e; rw [hx] at hy; obtain rfl := Option.some.inj hy; exact h0
            · exact (show ∀ (i : Nat) y, i < k → s.op[i]? = some y → y.kind ≠ 0 from HNo) i y (by omega) hy
          clear hX hC hx h0 HNo
          generalize x.kind = kd at *
          go_wp2
          go_roundg (16 - (k + 1))
          case measure => omega
          case rel => exact ⟨k + 1, by omega, by simp, hbw, HN2⟩
end Go.Proofs.Ytaepjlaegldkhaa
