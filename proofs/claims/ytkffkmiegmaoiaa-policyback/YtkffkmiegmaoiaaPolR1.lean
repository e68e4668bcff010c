/- LAYER 7: the document's Label, Hits (the reference's). -/
import Derived.Test.YtkffkmiegmaoiaaPolQ
namespace Go.Proofs.Ytkffkmiegmaoiaa
open Go.ChangeShapes Go.WideShapes Go.ChangeAt Go.RowKit

theorem OwnI.le {w0 w1 w : World} {v : Value} {l : List Int} (h : OwnI w1 w v l) (k : w0.heap.size ≤ w1.heap.size) : OwnI w0 w v l := by
  obtain ⟨h1, h2⟩ := h
  refine ⟨h1, ?_⟩
  rcases h2 with h2 | ⟨g, cap, cur, h3, h4, h5⟩
  · exact Or.inl h2
  · exact Or.inr ⟨g, cap, cur, h3, Nat.le_trans k h4, h5⟩
set_option maxHeartbeats 2000000 in
set_option maxRecDepth 100000 in
theorem rLabel_c (ptr : Bool) (v1 v2 : Value) (l : List Pol.Src) (kind arg : Int) (w : World) (hv : SrcS w v1 l) (hl : l.length ≤ 1000) :
    Calls Try.prog 20 #[.agg #[.bool ptr, v1, v2], .int .i64 kind, .int .u32 arg] w fun e w' => e = .returned (.int .u8 (Pol.lab kind arg l 0)) ∧ Bw w w' := by
  obtain ⟨q, cap, rfl, hc1, hc2, hcell⟩ := hv.open
  generalize hR : Pol.lab kind arg l 0 = R
  have HR : Hid (Pol.lab kind arg l 0 = R) := hR
  clear hR
  go_enter Try.func20, Try.ntmps20
  go_wp2_with fail
  obtain ⟨wB, hwB, hb0, hx⟩ : ∃ wB, w.alloc (.cells #[.bool ptr, .slice q l.length cap, v2] 46) = wB ∧ Bw w wB ∧ wB.cell? ⟨w.heap.size, 1, none⟩ = some (.slice q l.length cap) := ⟨_, rfl, (Bw.refl w).alloc _, by rw [World.cell?_alloc_at _ _ _ _ (by simp)]; rfl⟩
  rw [hwB]
  clear hwB
  go_loopg [7, 8] l.length (fun g a i wr => ∃ k : Nat, ∃ acc : Int, k + g = l.length ∧ a = .int .u8 acc ∧ i = .int .i64 k ∧ Bw wB wr ∧ Pol.lab kind arg (l.drop k) acc = R)
  case atStart => exact ⟨0, 0, by omega, rfl, rfl, Bw.refl _, HR⟩
  case round =>
    obtain ⟨k, acc, hkg, rfl, rfl, hbw, hrun⟩ := hrel
    have HRun : Hid _ := hrun
    have hxr := hbw.keep hx
    clear hrun HR
    by_cases hk : k = l.length
    · subst hk
      have hRe : Hid (acc = R) := by rw [List.drop_length] at HRun; exact HRun
      go_wp2_with fail
      go_returns
      exact ⟨by rw [show acc = R from hRe]; rfl, hb0.trans hbw⟩
    · have hkl : k < l.length := by omega
      have hki : (k : Int) < (l.length : Int) := by omega
      obtain ⟨s, hs, hd⟩ := Pol.drop_at hkl
      rw [hd] at HRun
      obtain ⟨b, o, rfl, hb, c0, c1, c2, c3⟩ := hcell k s hs
      have hbR := hb0.trans hbw
      replace c0 := hbR.keep c0
      replace c1 := hbR.keep c1
      replace c2 := hbR.keep c2
      replace c3 := hbR.keep c3
      clear hd hs
      by_cases hgs : Pol.gives kind arg s = true
      · have HN : Hid _ := (Pol.lab_yes (a := acc) (r := l.drop (k + 1)) hgs).symm.trans HRun
        have hkd : s.kind = kind := Decidable.byContradiction (fun h => Pol.gives_ne h hgs)
        have hk1 : (s.kind == kind) = true := by simpa using hkd
        have hcs : (kind = 1 ∧ s.arg = arg) ∨ kind = 2 ∨ kind = 3 ∨ kind = 5 := by
          unfold Pol.gives at hgs; rw [hk1, Bool.true_and] at hgs
          by_cases h1 : kind = 1
          · rw [if_pos h1] at hgs; exact Or.inl ⟨h1, by simpa using hgs⟩
          · rw [if_neg h1] at hgs; exact Or.inr (by simpa using hgs)
        clear hgs hkd HRun
        rcases hcs with ⟨rfl, h2⟩ | rfl | rfl | rfl
        · have h3 : (s.arg == arg) = true := by simpa using h2
          clear h2
          go_wp2_with fail
          go_roundg (l.length - (k + 1))
          case measure => omega
          case rel => exact ⟨k + 1, _, by omega, rfl, by simp, hbw.alloc _, HN⟩
        · go_wp2_with fail
          go_roundg (l.length - (k + 1))
          case measure => omega
          case rel => exact ⟨k + 1, _, by omega, rfl, by simp, hbw.alloc _, HN⟩
        · go_wp2_with fail
          go_roundg (l.length - (k + 1))
          case measure => omega
          case rel => exact ⟨k + 1, _, by omega, rfl, by simp, hbw.alloc _, HN⟩
        · go_wp2_with fail
          go_roundg (l.length - (k + 1))
          case measure => omega
          case rel => exact ⟨k + 1, _, by omega, rfl, by simp, hbw.alloc _, HN⟩
      · have HN : Hid _ := (Pol.lab_no (a := acc) (r := l.drop (k + 1)) hgs).symm.trans HRun
        have hcs : s.kind ≠ kind ∨ (s.kind = kind ∧ ((kind = 1 ∧ s.arg ≠ arg) ∨ (kind ≠ 1 ∧ kind ≠ 2 ∧ kind ≠ 3 ∧ kind ≠ 5))) := by
          unfold Pol.gives at hgs
          by_cases h0 : s.kind = kind
          · rw [show (s.kind == kind) = true by simpa using h0, Bool.true_and] at hgs
            by_cases h1 : kind = 1
            · rw [if_pos h1] at hgs; exact Or.inr ⟨h0, Or.inl ⟨h1, by simpa using hgs⟩⟩
            · rw [if_neg h1] at hgs; simp at hgs; exact Or.inr ⟨h0, Or.inr ⟨h1, hgs⟩⟩
          · exact Or.inl h0
        clear hgs HRun
        rcases hcs with h0 | ⟨h0, ⟨rfl, h2⟩ | ⟨h1, h2, h3, h5⟩⟩
        · have e0 : (s.kind == kind) = false := by simpa using h0
          clear h0
          go_wp2_with fail
          go_roundg (l.length - (k + 1))
          case measure => omega
          case rel => exact ⟨k + 1, _, by omega, rfl, by simp, hbw.alloc _, HN⟩
        · have e0 : (s.kind == 1) = true := by simpa using h0
          have e1 : (s.arg == arg) = false := by simpa using h2
          clear h0 h2
          go_wp2_with fail
          go_roundg (l.length - (k + 1))
          case measure => omega
          case rel => exact ⟨k + 1, _, by omega, rfl, by simp, hbw.alloc _, HN⟩
        · have e0 : (s.kind == kind) = true := by simpa using h0
          have e1 : (kind == 1) = false := by simpa using h1
          have e2 : (kind == 2) = false := by simpa using h2
          have e3 : (kind == 3) = false := by simpa using h3
          have e5 : (kind == 5) = false := by simpa using h5
          clear h0 h1 h2 h3 h5
          go_wp2_with fail
          go_roundg (l.length - (k + 1))
          case measure => omega
          case rel => exact ⟨k + 1, _, by omega, rfl, by simp, hbw.alloc _, HN⟩
set_option maxHeartbeats 2000000 in
set_option maxRecDepth 100000 in
theorem rHits_c (ptr : Bool) (v1 v2 : Value) (l : List Pol.Snk) (kind arg lb : Int) (w : World) (hv : SnkS w v2 l) (hl : l.length ≤ 1000) :
    Calls Try.prog 21 #[.agg #[.bool ptr, v1, v2], .int .i64 kind, .int .i64 arg, .int .u8 lb] w fun e w' => ∃ v, e = .returned v ∧ OwnI w w' v (Pol.hits kind arg lb l 0) ∧ Bw w w' := by
  obtain ⟨q, cap, rfl, hc1, hc2, hcell⟩ := hv.open
  generalize hR : Pol.hits kind arg lb l 0 = R
  have HR : Hid (Pol.hits kind arg lb l 0 = R) := hR
  clear hR
  go_enter Try.func21, Try.ntmps21
  go_wp2_with fail
  obtain ⟨wB, hwB, hb0, hx⟩ : ∃ wB, w.alloc (.cells #[.bool ptr, v1, .slice q l.length cap] 46) = wB ∧ Bw w wB ∧ wB.cell? ⟨w.heap.size, 2, none⟩ = some (.slice q l.length cap) := ⟨_, rfl, (Bw.refl w).alloc _, by rw [World.cell?_alloc_at _ _ _ _ (by simp)]; rfl⟩
  rw [hwB]
  clear hwB
  go_loopg [9, 10] l.length (fun g a i wr => ∃ k : Nat, ∃ acc : List Int, k + g = l.length ∧ i = .int .i64 k ∧ OwnI wB wr a acc ∧ Bw wB wr ∧ acc.length ≤ k ∧ acc ++ Pol.hits kind arg lb (l.drop k) k = R)
  case atStart => exact ⟨0, [], by omega, rfl, OwnI.nil _ _, Bw.refl _, by simp, HR⟩
  case round =>
    obtain ⟨k, acc, hkg, rfl, hown, hbw, hal, hrun⟩ := hrel
    have HRun : Hid _ := hrun
    have hxr := hbw.keep hx
    clear hrun HR
    by_cases hk : k = l.length
    · subst hk
      have hRe : Hid (acc = R) := by rw [List.drop_length, Pol.hits, List.append_nil] at HRun; exact HRun
      go_wp2_with fail
      go_returns
      exact ⟨_, rfl, OwnI.le ((show acc = R from hRe) ▸ hown) hb0.size, hb0.trans hbw⟩
    · have hkl : k < l.length := by omega
      have hki : (k : Int) < (l.length : Int) := by omega
      obtain ⟨s, hs, hd⟩ := Pol.drop_at hkl
      rw [hd] at HRun
      obtain ⟨b, o, rfl, hb, c0, c1, c2⟩ := hcell k s hs
      have hbR := hb0.trans hbw
      replace c0 := hbR.keep c0
      replace c1 := hbR.keep c1
      replace c2 := hbR.keep c2
      clear hd hs
      have hcs := Pol.hit_cases s kind arg lb
      rcases hcs with hno | ⟨h1, h2, h3⟩
      · have HN : Hid (acc ++ Pol.hits kind arg lb (l.drop (k + 1)) ((k + 1 : Nat) : Int) = R) := by
          show _ = R
          rw [← (show _ = R from HRun), Pol.hits_no (by
            unfold Pol.hit
            rcases hno with h | ⟨h, ⟨h5, h6⟩ | ⟨h5, h6⟩⟩
            · simp [h]
            · simp [h5, h6]
            · simp [h6])]
          simp
        clear HRun
        rcases hno with h | ⟨h, ⟨h5, h6⟩ | ⟨h5 | ⟨h5, h7⟩, h6⟩⟩
        · have e1 : (s.kind == kind) = false := by simpa using h
          clear h
          go_wp2_with fail
          go_roundg (l.length - (k + 1))
          case measure => omega
          case rel => exact ⟨k + 1, _, by omega, by simp, OwnI.bw hown ((Bw.refl _).alloc _), hbw.alloc _, by omega, HN⟩
        · have e1 : (s.kind == kind) = true := by simpa using h
          have e2 : (kind != 4) = false := by simpa using h5
          have e3 : (s.arg == arg) = false := by simpa using h6
          clear h h5 h6
          go_wp2_with fail
          go_roundg (l.length - (k + 1))
          case measure => omega
          case rel => exact ⟨k + 1, _, by omega, by simp, OwnI.bw hown ((Bw.refl _).alloc _), hbw.alloc _, by omega, HN⟩
        · have e1 : (s.kind == kind) = true := by simpa using h
          have e2 : (kind != 4) = true := by simpa using h5
          have e3 : (bits .and .u8 s.mask lb != 0) = false := by simpa using h6
          clear h h5 h6
          go_wp2_with fail
          go_roundg (l.length - (k + 1))
          case measure => omega
          case rel => exact ⟨k + 1, _, by omega, by simp, OwnI.bw hown ((Bw.refl _).alloc _), hbw.alloc _, by omega, HN⟩
        · have e1 : (s.kind == kind) = true := by simpa using h
          have e2 : (kind != 4) = false := by simpa using h5
          have e3 : (bits .and .u8 s.mask lb != 0) = false := by simpa using h6
          have e4 : (s.arg == arg) = true := by simpa using h7
          clear h h5 h6 h7
          go_wp2_with fail
          go_roundg (l.length - (k + 1))
          case measure => omega
          case rel => exact ⟨k + 1, _, by omega, by simp, OwnI.bw hown ((Bw.refl _).alloc _), hbw.alloc _, by omega, HN⟩
      · have HN : Hid ((acc ++ [(k : Int)]) ++ Pol.hits kind arg lb (l.drop (k + 1)) ((k + 1 : Nat) : Int) = R) := by
          show _ = R
          rw [← (show _ = R from HRun), Pol.hits_yes (by
            unfold Pol.hit
            rcases h2 with h | ⟨h, h5⟩
            · simp [h1, h, h3]
            · simp [h1, h, h5, h3])]
          simp
        clear HRun
        have e1 : (s.kind == kind) = true := by simpa using h1
        have e3 : (bits .and .u8 s.mask lb != 0) = true := by simpa using h3
        rcases h2 with h | ⟨h, h5⟩
        · have e2 : (kind != 4) = true := by simpa using h
          clear h h1 h3
          obtain ⟨v', w', hr1, ho1, hb1⟩ := appI (OwnI.bw hown ((Bw.refl _).alloc (.cells #[.int .i64 s.kind, .int .i64 s.arg, .int .u8 s.mask] 70))) (hbw.alloc _) k (by omega)
          simp only [World.size_alloc] at hr1
          go_wp2_with (first | (at_builtin; refine wpApp rfl _ _ 40 rfl rfl rfl hr1 ?_) | go_in)
          go_roundg (l.length - (k + 1))
          case measure => omega
          case rel => exact ⟨k + 1, _, by omega, by simp, ho1, hb1, by simp; omega, HN⟩
        · have e2 : (kind != 4) = false := by simpa using h
          have e4 : (s.arg == arg) = true := by simpa using h5
          clear h h1 h3 h5
          obtain ⟨v', w', hr1, ho1, hb1⟩ := appI (OwnI.bw hown ((Bw.refl _).alloc (.cells #[.int .i64 s.kind, .int .i64 s.arg, .int .u8 s.mask] 70))) (hbw.alloc _) k (by omega)
          simp only [World.size_alloc] at hr1
          go_wp2_with (first | (at_builtin; refine wpApp rfl _ _ 40 rfl rfl rfl hr1 ?_) | go_in)
          go_roundg (l.length - (k + 1))
          case measure => omega
          case rel => exact ⟨k + 1, _, by omega, by simp, ho1, hb1, by simp; omega, HN⟩
end Go.Proofs.Ytkffkmiegmaoiaa
