/- LAYER 10's laws: awake, great. -/
import Derived.Test.YthicidkjhpnleaaStkW4
namespace Go.Proofs.Ythicidkjhpnleaa
open Go.ChangeShapes Go.WideShapes Go.ChangeAt Go.RowKit
set_option linter.unusedSimpArgs false

theorem TxS.new (w : World) (l : List ByteArray) (hl : l.length ≤ 100000) (t : TypeId) : TxS (w.alloc (.cells (l.map Value.string).toArray t)) (.slice (some ⟨w.heap.size, 0, none⟩) l.length l.length) l := RdR.new w _ t (by simp) hl
def Stk.la : List ByteArray := [⟨#[97]⟩]
theorem Stk.e_nil : Stk.err [] = 0 := by decide +kernel
theorem Stk.s_nil : Stk.sp [] = 4080 := by decide +kernel
theorem Stk.e_la : Stk.err Stk.la = 0 := by decide +kernel
theorem Stk.s_la : Stk.sp Stk.la = 4064 := by decide +kernel
theorem Stk.p_la : Stk.pls (Stk.first Stk.la) Stk.la = [(4094, 1)] := by decide +kernel
theorem Stk.b_la : (Stk.bytes Stk.la)[4094]? = some 97 := by decide +kernel
theorem Own8.at {w0 w : World} {g n cap : Nat} {l : List Int} (h : Own8 w0 w (.slice (some ⟨g, 0, none⟩) n cap) l) {j : Nat} {x : Int} (hx : l[j]? = some x) : w.cell? ⟨g, j, none⟩ = some (.int .u8 x) := by
  rcases h with ⟨h, _⟩ | ⟨g', cap', h0, g1, g2, g3, g4, g5, g6⟩
  · simp at h
  · simp at h0
    obtain ⟨rfl, -, rfl⟩ := h0
    exact g5 j x hx
set_option maxHeartbeats 4000000 in
set_option maxRecDepth 100000 in
theorem awake10_c (w : World) : Calls Try.prog 7 #[] w fun e w' => e = .returned (.bool true) ∧ Bw w w' := by
  have hB0 := fun X => Build_c X (.slice none 0 0) [] (RdR.nil _ _) (by decide)
  have hB1 := fun X => Build_c (X.alloc (.cells #[.string ⟨#[97]⟩] 9)) (.slice (some ⟨X.heap.size, 0, none⟩) 1 1) Stk.la (TxS.new X Stk.la (by decide) 9) (by decide)
  go_enter Try.func7, Try.ntmps7
  go_wp2_with fail
  refine (hB0 _).mono ?_
  rintro e w1 (⟨h, _⟩ | ⟨_, gb, pg, rfl, -, -, -, b1⟩)
  · exact absurd Stk.e_nil h
  rw [Stk.s_nil]
  clear hB0
  go_wp2_with fail
  refine (hB1 _).mono ?_
  rintro e w2 (⟨h, _⟩ | ⟨_, gc, pc, rfl, hO, hP, -, b2⟩)
  · exact absurd Stk.e_la h
  rw [Stk.s_la]
  have c0 := hO.at Stk.b_la
  obtain ⟨c1, c2⟩ := hP.c 0 (4094, 1) (by decide) (by rw [Stk.p_la]; rfl)
  have b3 := (b1.alloc (.cells #[.string ⟨#[97]⟩] 9)).trans b2
  clear hO hP hB1
  rw [show Stk.la.length = 1 from rfl]
  go_wp2_with fail
  go_returns
  exact ⟨rfl, b3⟩
set_option maxHeartbeats 1000000 in
set_option maxRecDepth 100000 in
theorem great10_c (v : Value) (l : List ByteArray) (w : World) (hv : TxS w v l) : Calls Try.prog 14 #[v] w fun e w' => ∃ b, e = .returned (.bool b) ∧ Bw w w' ∧ (b = false → l.length ≤ 20 ∧ ∀ s ∈ l, s.size ≤ 400) := by
  obtain ⟨q, cap, rfl, hc1, hc2, hcell⟩ := RdR.at1 hv
  by_cases h8 : 20 < l.length
  · have h8i : (20 : Int) < l.length := by omega
    go_enter Try.func14, Try.ntmps14
    go_wp2_with fail
    go_returns
    exact ⟨true, rfl, by (repeat' (first | (with_reducible assumption) | (with_reducible exact Bw.refl _) | (with_reducible refine Bw.alloc ?_ _) | (with_reducible refine Bw.drew ?_) | (with_reducible refine Bw.drewN ?_ _) | (with_reducible refine Bw.setCell ?_ ?_ _) | exact Nat.le_refl _)), fun h => by cases h⟩
  have h8i : (l.length : Int) ≤ 20 := by omega
  clear hv
  go_enter Try.func14, Try.ntmps14
  go_wp2_with fail
  go_loopg [3] l.length (fun g j wr => ∃ k : Nat, k + g = l.length ∧ j = .int .i64 k ∧ Bw w wr ∧ ∀ i s, i < k → l[i]? = some s → s.size ≤ 400)
  case atStart => exact ⟨0, by omega, rfl, Bw.refl _, fun i s h => by omega⟩
  case round =>
    obtain ⟨k, hkg, rfl, hbw, hno⟩ := hrel
    have HNo : Hid _ := hno
    clear hno
    by_cases hk : k = l.length
    · subst hk
      have HF : Hid (l.length ≤ 20 ∧ ∀ s ∈ l, s.size ≤ 400) := ⟨by omega, fun s hs => by
        obtain ⟨i, hi⟩ := List.getElem?_of_mem hs
        exact (show ∀ i s, i < l.length → l[i]? = some s → s.size ≤ 400 from HNo) i s (List.getElem?_eq_some_iff.1 hi).1 hi⟩
      clear HNo
      go_wp2_with fail
      go_returns
      exact ⟨false, rfl, hbw, fun _ => HF⟩
    · have hkl : k < l.length := by omega
      have hki : (k : Int) < (l.length : Int) := by omega
      obtain ⟨s, hs, -⟩ := dropAt hkl
      obtain ⟨b, o, rfl, hb, c0⟩ := hcell k s hs
      replace c0 := hbw.keep c0
      by_cases h2 : 400 < s.size
      · have h2i : decide ((400 : Int) < (s.size : Int)) = true := decide_eq_true (by omega)
        clear hs HNo
        go_wp2_with fail
        go_returns
        exact ⟨true, rfl, hbw, fun h => by cases h⟩
      · have h2i : decide ((400 : Int) < (s.size : Int)) = false := decide_eq_false (by omega)
        have HNo2 : Hid (∀ i s, i < k + 1 → l[i]? = some s → s.size ≤ 400) := fun i s' hi hs' => by
          by_cases e : i = k
          · subst e; rw [hs] at hs'; obtain rfl := Option.some.inj hs'; omega
          · exact (show ∀ i s, i < k → l[i]? = some s → s.size ≤ 400 from HNo) i s' (by omega) hs'
        clear hs HNo
        go_wp2_with fail
        go_roundg (l.length - (k + 1))
        case measure => omega
        case rel => exact ⟨k + 1, by omega, by simp, hbw, HNo2⟩
end Go.Proofs.Ythicidkjhpnleaa
