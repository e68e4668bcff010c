/- LAYER 7's walks: Label, Hits, stands. -/
import Derived.Test.YtkffkmiegmaoiaaPolW1
namespace Go.Proofs.Ytkffkmiegmaoiaa
open Go.ChangeShapes Go.WideShapes Go.ChangeAt Go.RowKit

theorem Pol.drop_at {α : Type} {l : List α} {k : Nat} (hk : k < l.length) : ∃ s, l[k]? = some s ∧ l.drop k = s :: l.drop (k + 1) :=
  ⟨l[k], by simp, List.drop_eq_getElem_cons hk⟩
theorem Pol.lab_yes {kind arg a : Int} {s : Pol.Src} {r : List Pol.Src} (h : Pol.gives kind arg s = true) : Pol.lab kind arg (s :: r) a = Pol.lab kind arg r (bits .or .u8 a s.label) := by rw [Pol.lab, if_pos h]
theorem Pol.lab_no {kind arg a : Int} {s : Pol.Src} {r : List Pol.Src} (h : ¬ Pol.gives kind arg s = true) : Pol.lab kind arg (s :: r) a = Pol.lab kind arg r a := by rw [Pol.lab, if_neg h]
theorem Pol.gives_ne {kind arg : Int} {s : Pol.Src} (h : s.kind ≠ kind) : ¬ Pol.gives kind arg s = true := by unfold Pol.gives; simp [h]
set_option maxHeartbeats 2000000 in
set_option maxRecDepth 100000 in
theorem Label_c (ptr : Bool) (v1 v2 : Value) (l : List Pol.Src) (kind arg : Int) (w : World) (hv : SrcS w v1 l) (hl : l.length ≤ 1000) :
    Calls Try.prog 12 #[.agg #[.bool ptr, v1, v2], .int .i64 kind, .int .u32 arg] w fun e w' => e = .returned (.int .u8 (Pol.lab kind arg l 0)) ∧ Bw w w' := by
  obtain ⟨q, cap, rfl, hc1, hc2, hcell⟩ := hv.open
  generalize hR : Pol.lab kind arg l 0 = R
  have HR : Hid (Pol.lab kind arg l 0 = R) := hR
  clear hR
  go_enter Try.func12, Try.ntmps12
  go_wp2_with fail
  go_loopg [7, 13] l.length (fun g a i wr => ∃ k : Nat, ∃ acc : Int, k + g = l.length ∧ a = .int .u8 acc ∧ i = .int .i64 k ∧ Bw w wr ∧ Pol.lab kind arg (l.drop k) acc = R)
  case atStart => exact ⟨0, 0, by omega, rfl, rfl, (Bw.refl _).alloc _, HR⟩
  case round =>
    obtain ⟨k, acc, hkg, rfl, rfl, hbw, hrun⟩ := hrel
    have HRun : Hid _ := hrun
    clear hrun HR
    by_cases hk : k = l.length
    · subst hk
      have hRe : Hid (acc = R) := by rw [List.drop_length] at HRun; exact HRun
      go_wp2_with fail
      go_returns
      exact ⟨by rw [show acc = R from hRe]; rfl, hbw⟩
    · have hkl : k < l.length := by omega
      have hki : (k : Int) < (l.length : Int) := by omega
      obtain ⟨s, hs, hd⟩ := Pol.drop_at hkl
      rw [hd] at HRun
      obtain ⟨b, o, rfl, hb, c0, c1, c2, c3⟩ := hcell k s hs
      replace c0 := hbw.keep c0
      replace c1 := hbw.keep c1
      replace c2 := hbw.keep c2
      replace c3 := hbw.keep c3
      have hG := fun w => gives_c s arg w
      clear hd hs
      by_cases hkd : s.kind = kind
      · have hgA : Hid (Pol.gives kind arg s = Pol.givesS s arg) := Pol.gives_at hkd
        have hk1 : (s.kind == kind) = true := by simpa using hkd
        unfold Pol.srcV at hG
        by_cases hgs : Pol.givesS s arg = true
        · rw [hgs] at hG hgA
          have HN : Hid _ := (Pol.lab_yes (a := acc) (r := l.drop (k + 1)) hgA).symm.trans HRun
          clear hgs hkd hgA HRun
          go_wp2_with (go_at_call 27; refine (hG _).mono ?_; rintro e w2 ⟨rfl, hb2⟩; have d3 := hb2.keep (p := ⟨wr.heap.size, 3, none⟩) (v := .int .u8 s.label) (by rw [World.cell?_alloc_at _ _ _ _ (by simp)]; rfl))
          go_roundg (l.length - (k + 1))
          case measure => omega
          case rel => exact ⟨k + 1, _, by omega, rfl, by simp, (hbw.alloc _).trans hb2, HN⟩
        · rw [Bool.eq_false_iff.2 hgs] at hG hgA
          have HN : Hid _ := (Pol.lab_no (a := acc) (r := l.drop (k + 1)) (Bool.eq_false_iff.1 hgA)).symm.trans HRun
          clear hgs hkd hgA HRun
          go_wp2_with (go_at_call 27; refine (hG _).mono ?_; rintro e w2 ⟨rfl, hb2⟩)
          go_roundg (l.length - (k + 1))
          case measure => omega
          case rel => exact ⟨k + 1, _, by omega, rfl, by simp, (hbw.alloc _).trans hb2, HN⟩
      · have HN : Hid _ := (Pol.lab_no (a := acc) (r := l.drop (k + 1)) (Pol.gives_ne (arg := arg) hkd)).symm.trans HRun
        have hk1 : (s.kind == kind) = false := by simpa using hkd
        clear hkd HRun
        go_wp2_with fail
        go_roundg (l.length - (k + 1))
        case measure => omega
        case rel => exact ⟨k + 1, _, by omega, rfl, by simp, hbw.alloc _, HN⟩
theorem infoI : (Try.prog.info? 3).map (fun i => (i.zero, i.size, i.bytes)) = some (some (.int .i64 0), 1, 8) := by kernel_rfl
def intsV (l : List Int) : List Value := l.map fun x => Value.int .i64 x
/-- A slice of integers that the call made. -/
def OwnI (w0 w : World) (v : Value) (l : List Int) : Prop := OwnR 3 1 w0 w v l.length (intsV l)
theorem OwnI.bw {w0 w w' : World} {v : Value} {l : List Int} (h : OwnI w0 w v l) (g : Bw w w') : OwnI w0 w' v l := OwnR.bw h g
theorem OwnI.nil (w0 w : World) : OwnI w0 w (.slice none 0 0) [] := OwnR.nil _ _ _ _
theorem appI {w0 wr : World} {v : Value} {l : List Int} (hown : OwnI w0 wr v l) (hbw : Bw w0 wr) (x : Int) (hn : l.length ≤ 100000) :
    ∃ v' w', (Builtin.append_ #[40, 40] 40 #[v, .slice (some ⟨wr.heap.size, 0, none⟩) 1 1]).run Try.prog (wr.alloc (.cells #[.int .i64 x] 3)) = .ok v' w' ∧ OwnI w0 w' v' (l ++ [x]) ∧ Bw w0 w' := by
  obtain ⟨v', w', h1, h2, h3⟩ := appR (ty := 40) infoI Try.underlying40 rfl (by omega) (by omega) (OwnI.bw hown ((Bw.refl wr).alloc _)) (hbw.alloc _) ⟨wr.heap.size, 0, none⟩ 1 1 [.int .i64 x] rfl (cell_new wr [.int .i64 x] 3) (fun u hu => by simp at hu; subst hu; rfl) (by omega)
  refine ⟨v', w', h1, ?_, h3⟩
  unfold OwnI
  rw [List.length_append]
  have : intsV (l ++ [x]) = intsV l ++ [.int .i64 x] := by simp [intsV]
  rw [this]; exact h2
theorem Pol.hits_yes {kind arg a i : Int} {s : Pol.Snk} {r : List Pol.Snk} (h : Pol.hit kind arg a s = true) : Pol.hits kind arg a (s :: r) i = i :: Pol.hits kind arg a r (i + 1) := by rw [Pol.hits, if_pos h]
theorem Pol.hits_no {kind arg a i : Int} {s : Pol.Snk} {r : List Pol.Snk} (h : ¬ Pol.hit kind arg a s = true) : Pol.hits kind arg a (s :: r) i = Pol.hits kind arg a r (i + 1) := by rw [Pol.hits, if_neg h]
theorem Pol.hit_cases (s : Pol.Snk) (kind arg lb : Int) : (s.kind ≠ kind ∨ (s.kind = kind ∧ ((kind = 4 ∧ s.arg ≠ arg) ∨ ((kind ≠ 4 ∨ (kind = 4 ∧ s.arg = arg)) ∧ bits .and .u8 s.mask lb = 0)))) ∨ (s.kind = kind ∧ (kind ≠ 4 ∨ (kind = 4 ∧ s.arg = arg)) ∧ bits .and .u8 s.mask lb ≠ 0) := by
  generalize bits .and .u8 s.mask lb = x
  omega
set_option maxHeartbeats 2000000 in
set_option maxRecDepth 100000 in
theorem Hits_c (ptr : Bool) (v1 v2 : Value) (l : List Pol.Snk) (kind arg lb : Int) (w : World) (hv : SnkS w v2 l) (hl : l.length ≤ 1000) :
    Calls Try.prog 14 #[.agg #[.bool ptr, v1, v2], .int .i64 kind, .int .i64 arg, .int .u8 lb] w fun e w' => ∃ v, e = .returned v ∧ OwnI w w' v (Pol.hits kind arg lb l 0) ∧ Bw w w' := by
  obtain ⟨q, cap, rfl, hc1, hc2, hcell⟩ := hv.open
  generalize hR : Pol.hits kind arg lb l 0 = R
  have HR : Hid (Pol.hits kind arg lb l 0 = R) := hR
  clear hR
  go_enter Try.func14, Try.ntmps14
  go_wp2_with fail
  go_loopg [9, 15] l.length (fun g a i wr => ∃ k : Nat, ∃ acc : List Int, k + g = l.length ∧ i = .int .i64 k ∧ OwnI w wr a acc ∧ Bw w wr ∧ acc.length ≤ k ∧ acc ++ Pol.hits kind arg lb (l.drop k) k = R)
  case atStart => exact ⟨0, [], by omega, rfl, OwnI.nil _ _, (Bw.refl _).alloc _, by simp, HR⟩
  case round =>
    obtain ⟨k, acc, hkg, rfl, hown, hbw, hal, hrun⟩ := hrel
    have HRun : Hid _ := hrun
    clear hrun HR
    by_cases hk : k = l.length
    · subst hk
      have hRe : Hid (acc = R) := by rw [List.drop_length, Pol.hits, List.append_nil] at HRun; exact HRun
      go_wp2_with fail
      go_returns
      exact ⟨_, rfl, (show acc = R from hRe) ▸ hown, hbw⟩
    · have hkl : k < l.length := by omega
      have hki : (k : Int) < (l.length : Int) := by omega
      obtain ⟨s, hs, hd⟩ := Pol.drop_at hkl
      rw [hd] at HRun
      obtain ⟨b, o, rfl, hb, c0, c1, c2⟩ := hcell k s hs
      replace c0 := hbw.keep c0
      replace c1 := hbw.keep c1
      replace c2 := hbw.keep c2
      clear hd hs
      have hcs := Pol.hit_cases s kind arg lb
      rcases hcs with hno | ⟨h1, h2, h3⟩
      · have HN : Hid (acc ++ Pol.hits kind arg lb (l.drop (k + 1)) ((k + 1 : Nat) : Int) = R) := by
          show _ = R
          rw [← (show _ = R from HRun), Pol.hits_no (by
            unfold Pol.hit
            rcases hno with h | ⟨h, ⟨h5, h6⟩ | ⟨h5, h6⟩⟩
            · simp [h]
            · simp [h5, h6]
            · simp [h6])]
          simp
        clear HRun
        rcases hno with h | ⟨h, ⟨h5, h6⟩ | ⟨h5 | ⟨h5, h7⟩, h6⟩⟩
        · have e1 : (s.kind == kind) = false := by simpa using h
          clear h
          go_wp2_with fail
          go_roundg (l.length - (k + 1))
          case measure => omega
          case rel => exact ⟨k + 1, _, by omega, by simp, OwnI.bw hown ((Bw.refl _).alloc _), hbw.alloc _, by omega, HN⟩
        · have e1 : (s.kind == kind) = true := by simpa using h
          have e2 : (kind != 4) = false := by simpa using h5
          have e3 : (s.arg == arg) = false := by simpa using h6
          clear h h5 h6
          go_wp2_with fail
          go_roundg (l.length - (k + 1))
          case measure => omega
          case rel => exact ⟨k + 1, _, by omega, by simp, OwnI.bw hown ((Bw.refl _).alloc _), hbw.alloc _, by omega, HN⟩
        · have e1 : (s.kind == kind) = true := by simpa using h
          have e2 : (kind != 4) = true := by simpa using h5
          have e3 : (bits .and .u8 s.mask lb != 0) = false := by simpa using h6
          clear h h5 h6
          go_wp2_with fail
          go_roundg (l.length - (k + 1))
          case measure => omega
          case rel => exact ⟨k + 1, _, by omega, by simp, OwnI.bw hown ((Bw.refl _).alloc _), hbw.alloc _, by omega, HN⟩
        · have e1 : (s.kind == kind) = true := by simpa using h
          have e2 : (kind != 4) = false := by simpa using h5
          have e3 : (bits .and .u8 s.mask lb != 0) = false := by simpa using h6
          have e4 : (s.arg == arg) = true := by simpa using h7
          clear h h5 h6 h7
          go_wp2_with fail
          go_roundg (l.length - (k + 1))
          case measure => omega
          case rel => exact ⟨k + 1, _, by omega, by simp, OwnI.bw hown ((Bw.refl _).alloc _), hbw.alloc _, by omega, HN⟩
      · have HN : Hid ((acc ++ [(k : Int)]) ++ Pol.hits kind arg lb (l.drop (k + 1)) ((k + 1 : Nat) : Int) = R) := by
          show _ = R
          rw [← (show _ = R from HRun), Pol.hits_yes (by
            unfold Pol.hit
            rcases h2 with h | ⟨h, h5⟩
            · simp [h1, h, h3]
            · simp [h1, h, h5, h3])]
          simp
        clear HRun
        have e1 : (s.kind == kind) = true := by simpa using h1
        have e3 : (bits .and .u8 s.mask lb != 0) = true := by simpa using h3
        rcases h2 with h | ⟨h, h5⟩
        · have e2 : (kind != 4) = true := by simpa using h
          clear h h1 h3
          obtain ⟨v', w', hr1, ho1, hb1⟩ := appI (OwnI.bw hown ((Bw.refl _).alloc (.cells #[.int .i64 s.kind, .int .i64 s.arg, .int .u8 s.mask] 37))) (hbw.alloc _) k (by omega)
          simp only [World.size_alloc] at hr1
          go_wp2_with (first | (at_builtin; refine wpApp rfl _ _ 40 rfl rfl rfl hr1 ?_) | go_in)
          go_roundg (l.length - (k + 1))
          case measure => omega
          case rel => exact ⟨k + 1, _, by omega, by simp, ho1, hb1, by simp; omega, HN⟩
        · have e2 : (kind != 4) = false := by simpa using h
          have e4 : (s.arg == arg) = true := by simpa using h5
          clear h h1 h3 h5
          obtain ⟨v', w', hr1, ho1, hb1⟩ := appI (OwnI.bw hown ((Bw.refl _).alloc (.cells #[.int .i64 s.kind, .int .i64 s.arg, .int .u8 s.mask] 37))) (hbw.alloc _) k (by omega)
          simp only [World.size_alloc] at hr1
          go_wp2_with (first | (at_builtin; refine wpApp rfl _ _ 40 rfl rfl rfl hr1 ?_) | go_in)
          go_roundg (l.length - (k + 1))
          case measure => omega
          case rel => exact ⟨k + 1, _, by omega, by simp, ho1, hb1, by simp; omega, HN⟩
end Go.Proofs.Ytkffkmiegmaoiaa
