/- LAYER 7's walks: stands; the laws' own long and places. -/
import Derived.Test.YtkffkmiegmaoiaaPolW2
namespace Go.Proofs.Ytkffkmiegmaoiaa
open Go.ChangeShapes Go.WideShapes Go.ChangeAt Go.RowKit

/-- A policy as Go holds it. -/
def IsPol (w : World) (v : Value) (p : Pol.Plc) : Prop := ∃ v1 v2, v = .agg #[.bool p.ptr, v1, v2] ∧ SrcS w v1 p.srcs ∧ SnkS w v2 p.snks
theorem IsPol.bw {w w' : World} {v : Value} {p : Pol.Plc} (h : IsPol w v p) (g : Bw w w') : IsPol w' v p := by
  obtain ⟨v1, v2, h1, h2, h3⟩ := h; exact ⟨v1, v2, h1, h2.bw g, h3.bw g⟩
def Pol.long (p : Pol.Plc) : Bool := decide (40 < p.srcs.length) || decide (40 < p.snks.length)
theorem long_c (v : Value) (p : Pol.Plc) (w : World) (hv : IsPol w v p) : Calls Try.prog 15 #[v] w fun e w' => e = .returned (.bool (Pol.long p)) ∧ Bw w w' := by
  obtain ⟨v1, v2, rfl, h1, h2⟩ := hv
  obtain ⟨q1, cap1, rfl, hc1, hc2, _⟩ := h1.open
  obtain ⟨q2, cap2, rfl, hd1, hd2, _⟩ := h2.open
  unfold Pol.long
  clear h1 h2
  by_cases h : 40 < p.srcs.length
  · have hi : (40 : Int) < p.srcs.length := by omega
    go_enter Try.func15, Try.ntmps15
    go_wp2_with fail
    go_returns
    exact ret_bool (by simp [h]) ((Bw.refl _).alloc _)
  · have hi : (p.srcs.length : Int) ≤ 40 := by omega
    go_enter Try.func15, Try.ntmps15
    go_wp2_with fail
    go_returns
    exact ret_bool (congr (congrArg or (decide_eq_decide.2 (by omega))) (decide_eq_decide.2 (by omega))) ((Bw.refl _).alloc _)
theorem Pol.ok_long1 {p : Pol.Plc} (h : 32 < p.srcs.length) : Pol.ok p = false := by unfold Pol.ok; rw [decide_eq_false (by omega)]; rfl
theorem Pol.ok_long2 {p : Pol.Plc} (h : 32 < p.snks.length) : Pol.ok p = false := by unfold Pol.ok; rw [decide_eq_false (show ¬ p.snks.length ≤ 32 by omega)]; simp
set_option maxHeartbeats 2000000 in
set_option maxRecDepth 100000 in
theorem stands_c (v : Value) (p : Pol.Plc) (w : World) (hv : IsPol w v p) : Calls Try.prog 25 #[v] w fun e w' => e = .returned (.bool (Pol.ok p)) ∧ Bw w w' := by
  obtain ⟨v1, v2, rfl, h1, h2⟩ := hv
  have hw1 := h1.2
  obtain ⟨q1, cap1, rfl, hc1, hc2, hcell1⟩ := h1.open
  obtain ⟨q2, cap2, rfl, hd1, hd2, hcell2⟩ := h2.open
  clear h1 h2
  by_cases hl : 32 < p.srcs.length ∨ 32 < p.snks.length
  · rw [show Pol.ok p = false from hl.elim Pol.ok_long1 Pol.ok_long2]
    rcases Decidable.em (32 < p.srcs.length) with h | h
    · have hi : (32 : Int) < p.srcs.length := by omega
      go_enter Try.func25, Try.ntmps25
      go_wp2_with fail
      go_returns
      exact ret_bool rfl ((Bw.refl _).alloc _)
    · have hi : (p.srcs.length : Int) ≤ 32 := by omega
      have hj : (32 : Int) < p.snks.length := by omega
      go_enter Try.func25, Try.ntmps25
      go_wp2_with fail
      go_returns
      exact ret_bool rfl ((Bw.refl _).alloc _)
  · have hi : (p.srcs.length : Int) ≤ 32 := by omega
    have hj : (p.snks.length : Int) ≤ 32 := by omega
    have hR : Pol.ok p = (p.srcs.all Pol.srcOk && p.snks.all Pol.snkOk) := by
      unfold Pol.ok; rw [decide_eq_true (show p.srcs.length ≤ 32 by omega), decide_eq_true (show p.snks.length ≤ 32 by omega)]; simp
    rw [hR]
    generalize hA : p.srcs.all Pol.srcOk = A
    generalize hB : p.snks.all Pol.snkOk = B
    have HA : Hid _ := hA
    have HB : Hid _ := hB
    clear hA hB hR hl
    generalize p.srcs = L at *
    generalize p.snks = K at *
    go_enter Try.func25, Try.ntmps25
    go_wp2_with fail
    have d1 : decide (32 < (L.length : Int)) = false := decide_eq_false (by omega)
    have d2 : decide (32 < (K.length : Int)) = false := decide_eq_false (by omega)
    simp only [d1, d2, Bool.or_self]
    go_loopg [20] L.length (fun g i wr => ∃ k : Nat, k + g = L.length ∧ i = .int .i64 k ∧ Bw w wr ∧ wr.cell? ⟨w.heap.size, 2, none⟩ = some (.slice q2 K.length cap2) ∧ (L.drop k).all Pol.srcOk = A)
    case atStart => exact ⟨0, by omega, rfl, (Bw.refl _).alloc _, by rw [World.cell?_alloc_at _ _ _ _ (by simp)]; rfl, HA⟩
    case round =>
      obtain ⟨k, hkg, rfl, hbw, hx2, hrun⟩ := hrel
      have HRun : Hid _ := hrun
      clear hrun HA
      by_cases hk : k = L.length
      · subst hk
        have hRe : Hid (true = A) := by rw [List.drop_length] at HRun; exact HRun
        go_wp2_with fail
        go_loopg [31] K.length (fun g i wx => ∃ k : Nat, k + g = K.length ∧ i = .int .i64 k ∧ Bw w wx ∧ (K.drop k).all Pol.snkOk = B)
        case atStart => exact ⟨0, by omega, rfl, hbw, HB⟩
        case round =>
          obtain ⟨k, hkg, rfl, hbx, hrun⟩ := hrel
          have HRun2 : Hid _ := hrun
          clear hrun HB
          by_cases hk : k = K.length
          · subst hk
            have hRe2 : Hid (true = B) := by rw [List.drop_length] at HRun2; exact HRun2
            go_wp2_with fail
            go_returns
            exact ret_bool (by rw [← (show true = A from hRe), ← (show true = B from hRe2)]; rfl) hbx
          · have hkl : k < K.length := by omega
            have hki : (k : Int) < (K.length : Int) := by omega
            obtain ⟨s, hs, hd⟩ := Pol.drop_at hkl
            rw [hd, List.all_cons] at HRun2
            obtain ⟨b, o, rfl, hb, c0, c1, c2⟩ := hcell2 k s hs
            replace c0 := hbx.keep c0
            replace c1 := hbx.keep c1
            replace c2 := hbx.keep c2
            have hG := fun w => sinkStands_c s w
            clear hd hs
            unfold Pol.snkV at hG
            by_cases hgs : Pol.snkOk s = true
            · rw [hgs, Bool.true_and] at HRun2
              rw [hgs] at hG
              clear hgs
              go_wp2_with (go_at_call 34; refine (hG _).mono ?_; rintro e w2 ⟨rfl, hb2⟩)
              go_roundg (K.length - (k + 1))
              case measure => omega
              case rel => exact ⟨k + 1, by omega, by simp, (hbx.alloc _).trans hb2, HRun2⟩
            · rw [Bool.eq_false_iff.2 hgs, Bool.false_and] at HRun2
              rw [Bool.eq_false_iff.2 hgs] at hG
              clear hgs
              go_wp2_with (go_at_call 34; refine (hG _).mono ?_; rintro e w2 ⟨rfl, hb2⟩)
              go_returns
              exact ret_bool (by rw [← (show false = B from HRun2), Bool.and_false]) ((hbx.alloc _).trans hb2)
      · have hkl : k < L.length := by omega
        have hki : (k : Int) < (L.length : Int) := by omega
        obtain ⟨s, hs, hd⟩ := Pol.drop_at hkl
        rw [hd, List.all_cons] at HRun
        obtain ⟨b, o, rfl, hb, c0, c1, c2, c3⟩ := hcell1 k s hs
        replace c0 := hbw.keep c0
        replace c1 := hbw.keep c1
        replace c2 := hbw.keep c2
        replace c3 := hbw.keep c3
        have hG := fun w => sourceStands_c s (hw1 s (List.mem_of_getElem? hs)) w
        clear hd hs
        unfold Pol.srcV at hG
        by_cases hgs : Pol.srcOk s = true
        · rw [hgs, Bool.true_and] at HRun
          rw [hgs] at hG
          clear hgs
          go_wp2_with (go_at_call 33; refine (hG _).mono ?_; rintro e w2 ⟨rfl, hb2⟩)
          go_roundg (L.length - (k + 1))
          case measure => omega
          case rel => exact ⟨k + 1, by omega, by simp, (hbw.alloc _).trans hb2, (((Bw.refl _).alloc _).trans hb2).keep hx2, HRun⟩
        · rw [Bool.eq_false_iff.2 hgs, Bool.false_and] at HRun
          rw [Bool.eq_false_iff.2 hgs] at hG
          clear hgs
          go_wp2_with (go_at_call 33; refine (hG _).mono ?_; rintro e w2 ⟨rfl, hb2⟩)
          go_returns
          exact ret_bool (by rw [← (show false = A from HRun), Bool.false_and]) ((hbw.alloc _).trans hb2)
theorem RdI_open {w : World} {v : Value} {l : List Int} (h : RdR 1 w v l.length (intsV l)) : ∃ q cap, v = .slice q l.length cap ∧ l.length ≤ cap ∧ cap ≤ 9223372036854775807 ∧ ∀ i x, l[i]? = some x → ∃ b o, q = some ⟨b, o, none⟩ ∧ b < w.heap.size ∧ w.cell? ⟨b, o + i, none⟩ = some (.int .i64 x) := by
  obtain ⟨q, cap, h1, h2, h3, h4, h5⟩ := h
  refine ⟨q, cap, h1, h2, h3, fun i s hs => ?_⟩
  have hi : i < l.length := (List.getElem?_eq_some_iff.1 hs).1
  obtain ⟨b, o, h6, h7, h8⟩ := h5 (by omega)
  exact ⟨b, o, h6, h7, h8 i _ (by simp [intsV, hs])⟩
def RdI (w : World) (v : Value) (l : List Int) : Prop := RdR 1 w v l.length (intsV l)
theorem OwnI.rd {w0 w : World} {v : Value} {l : List Int} (h : OwnI w0 w v l) : RdI w v l := OwnR.rd h
theorem RdI.bw {w w' : World} {v : Value} {l : List Int} (h : RdI w v l) (g : Bw w w') : RdI w' v l := RdR.bw h g
set_option maxHeartbeats 2000000 in
set_option maxRecDepth 100000 in
theorem places_c (va vb : Value) (a b : List Int) (w : World) (ha : RdI w va a) (hb : RdI w vb b) : Calls Try.prog 13 #[va, vb] w fun e w' => e = .returned (.bool (decide (a = b))) ∧ Bw w w' := by
  obtain ⟨q1, cap1, rfl, hc1, hc2, hcell1⟩ := RdI_open ha
  obtain ⟨q2, cap2, rfl, hd1, hd2, hcell2⟩ := RdI_open hb
  clear ha hb
  generalize hR : decide (a = b) = R
  have HR : Hid _ := hR
  clear hR
  by_cases h : a.length = b.length
  rotate_left
  · have hne : ((a.length : Int) != (b.length : Int)) = true := by simp; omega
    have hRe : Hid (R = false) := by rw [← (show _ = R from HR)]; exact decide_eq_false (fun e => h (by rw [e]))
    go_enter Try.func13, Try.ntmps13
    go_wp2_with fail
    go_returns
    exact ret_bool (show R = false from hRe).symm (Bw.refl _)
  · have hne : ((a.length : Int) != (b.length : Int)) = false := by simp; omega
    have HL : Hid _ := h
    clear h
    go_enter Try.func13, Try.ntmps13
    go_wp2_with fail
    go_loopg [5] a.length (fun g i wr => ∃ k : Nat, k + g = a.length ∧ i = .int .i64 k ∧ Bw w wr ∧ decide (a.drop k = b.drop k) = R)
    case atStart => exact ⟨0, by omega, rfl, Bw.refl _, HR⟩
    case round =>
      obtain ⟨k, hkg, rfl, hbw, hrun⟩ := hrel
      have HRun : Hid _ := hrun
      clear hrun HR
      by_cases hk : k = a.length
      · subst hk
        have hRe : Hid (R = true) := by rw [← (show _ = R from HRun), List.drop_length, List.drop_of_length_le (Nat.le_of_eq (show a.length = b.length from HL).symm)]; rfl
        go_wp2_with fail
        go_returns
        exact ret_bool (show R = true from hRe).symm hbw
      · have hkl : k < a.length := by omega
        have hkl2 : k < b.length := by have : a.length = b.length := HL; omega
        have hki : (k : Int) < (a.length : Int) := by omega
        have hki2 : (k : Int) < (b.length : Int) := by omega
        obtain ⟨x, hx, hd⟩ := Pol.drop_at hkl
        obtain ⟨y, hy, hd2⟩ := Pol.drop_at hkl2
        rw [hd, hd2] at HRun
        obtain ⟨b1, o1, rfl, hb1, c1⟩ := hcell1 k x hx
        obtain ⟨b2, o2, rfl, hb2, c2⟩ := hcell2 k y hy
        replace c1 := hbw.keep c1
        replace c2 := hbw.keep c2
        clear hd hd2 hx hy hcell1 hcell2
        by_cases hxy : x = y
        · have hq : (x != y) = false := by simpa using hxy
          have HN : Hid (decide (a.drop (k + 1) = b.drop (k + 1)) = R) := by
            show _ = R
            rw [← (show _ = R from HRun)]; exact decide_eq_decide.2 (by simp [hxy])
          clear hxy HRun
          go_wp2_with fail
          go_region
          go_wp2_with fail
          go_roundg (a.length - (k + 1))
          case measure => omega
          case rel => exact ⟨k + 1, by omega, by simp, by first | exact hbw | exact hbw.drew | exact hbw.drewN _, HN⟩
        · have hq : (x != y) = true := by simpa using hxy
          have HN : Hid (R = false) := by
            show R = _
            rw [← (show _ = R from HRun)]; exact decide_eq_false (by simp [hxy])
          clear hxy HRun
          go_wp2_with fail
          go_region
          go_wp2_with fail
          go_returns
          exact ret_bool (show R = false from HN).symm (by first | exact hbw | exact hbw.drew | exact hbw.drewN _)
end Go.Proofs.Ytkffkmiegmaoiaa
