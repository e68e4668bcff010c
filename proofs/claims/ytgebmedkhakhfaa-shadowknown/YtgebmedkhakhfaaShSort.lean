/- SORTED, WHERE THERE ARE AT MOST TWELVE; Dirty: how many. -/
import Derived.Test.YtgebmedkhakhfaaShKeys
namespace Go.Proofs.Ytgebmedkhakhfaa
open Go.ChangeShapes Go.WideShapes Go.ChangeAt Go.RowKit Go.Shelf
set_option linter.unusedSimpArgs false
set_option linter.unusedVariables false

/-- Block g holds n numbers. -/
def Row32 (w : World) (g n : Nat) : Prop := ∃ cur : Array Value, w.heap[g]? = some (.cells cur 33 (0, 0)) ∧ ∀ i, i < n → ∃ x, U4 x ∧ cur[i]? = some (.int .u32 x)
theorem Row32.at {w : World} {g n : Nat} (h : Row32 w g n) {i : Nat} (hi : i < n) : ∃ x, U4 x ∧ w.cell? ⟨g, i, none⟩ = some (.int .u32 x) := by
  obtain ⟨cur, hg, h⟩ := h
  obtain ⟨x, hx, hc⟩ := h i hi
  exact ⟨x, hx, by simp [World.cell?, hg, hc]⟩
theorem Row32.fz {w : World} {g n : Nat} (h : Row32 w g n) (i : Nat) : w.frozen? ⟨g, i, none⟩ = false := by
  obtain ⟨cur, hg, h⟩ := h
  simp [World.frozen?, hg]
theorem Row32.set {w : World} {g n : Nat} (h : Row32 w g n) (i : Nat) {x : Int} (hx : U4 x) : Row32 (w.setCell ⟨g, i, none⟩ (.int .u32 x)) g n := by
  obtain ⟨cur, hg, h⟩ := h
  refine ⟨_, heap_setCell_same hg, fun j hj => ?_⟩
  obtain ⟨y, hy, hc⟩ := h j hj
  rw [Array.getElem?_setIfInBounds]
  by_cases e : i = j
  · subst e
    have : i < cur.size := (Array.getElem?_eq_some_iff.1 hc).1
    exact ⟨x, hx, by simp [this]⟩
  · rw [if_neg e]; exact ⟨y, hy, hc⟩
theorem blN {B : Nat} {a w : World} (h : Below B a w) (n : Nat) : Below B a (w.drewN n) := ⟨h.os, h.tape, h.output, h.size, h.block⟩
theorem Less_c (x y : Int) (w : World) : Calls Try.prog 105 #[.int .u32 x, .int .u32 y] w fun e w' => e = .returned (.bool (decide (x < y))) ∧ w' = w := by
  have N : ∀ z wx, Calls Try.prog 114 #[.int .u32 z] wx fun e w' => e = .returned (.bool false) ∧ w' = wx := fun z wx => by
    go_enter Try.func114, Try.ntmps114
    go_wp2
    go_ret
    exact ⟨rfl, rfl⟩
  go_enter Try.func105, Try.ntmps105
  go_wp2_with (go_at_call 114; refine (N _ _).mono ?_; rintro e w' ⟨rfl, rfl⟩)
  go_ret
  exact ⟨rfl, rfl⟩
set_option maxRecDepth 100000 in
set_option maxHeartbeats 1000000 in
theorem insertion_c {w : World} {g n cap : Nat} (h : Row32 w g n) (hn : n ≤ 1000000) :
    Calls Try.prog 117 #[.slice (some ⟨g, 0, none⟩) n cap, .int .i64 0, .int .i64 n] w fun e w' => e = .returned (.tuple #[]) ∧ Row32 w' g n ∧ ∀ B, B ≤ g → Below B w w' := by
  go_enter Try.func117, Try.ntmps117
  go_wp2_with fail
  go_loopw [6] (fun x wr => ∃ i : Nat, 1 ≤ i ∧ i ≤ n + 1 ∧ x = .int .i64 i ∧ Row32 wr g n ∧ ∀ B, B ≤ g → Below B w wr) (fun x _ => n + 1 - (intOf x).toNat)
  case atStart => exact ⟨1, Nat.le_refl _, by omega, rfl, h, fun B _ => Below.refl _ _⟩
  case round =>
    obtain ⟨i, hi1, hi2, rfl, hR, hB⟩ := hrel
    by_cases hlt : (i : Int) < n
    · go_wp2_with fail
      go_loopw [7] (fun x wr => ∃ j : Nat, j ≤ i ∧ x = .int .i64 j ∧ Row32 wr g n ∧ ∀ B, B ≤ g → Below B w wr) (fun x _ => (intOf x).toNat)
      case atStart => exact ⟨i, Nat.le_refl _, rfl, hR, hB⟩
      case round =>
        clear hR hB
        obtain ⟨j, hj, rfl, hR, hB⟩ := hrel
        by_cases hj0 : j = 0
        · subst hj0
          have h00 : ¬ (0 : Int) < ((0 : Nat) : Int) := by omega
          go_wp2_with fail
          go_quiet (fail)
          go_wp2_with fail
          exact ⟨⟨i + 1, by omega, by omega, by simp, hR, fun B hb => blN (hB B hb) nq⟩, by simp only [intOf]; omega⟩
        · obtain ⟨k, rfl⟩ : ∃ k, j = k + 1 := ⟨j - 1, by omega⟩
          have hpos : (0 : Int) < ((k + 1 : Nat) : Int) := by omega
          obtain ⟨x1, u1, c1⟩ := hR.at (i := k + 1) (by omega)
          obtain ⟨x0, u0, c0⟩ := hR.at (i := k) (by omega)
          have f1 := hR.fz (k + 1)
          have f0 := hR.fz k
          have hk1 : k + 1 < n := by omega
          have hk0 : k < n := by omega
          have e1 : ((k + 1 : Nat) : Int) - 1 = k := by omega
          by_cases hx : x1 < x0
          · go_wp2_with fail
            go_quiet (first | (go_at_call 105; refine Calls.quiet_of_same (Less_c _ _ _)))
            go_wp2_with fail
            go_region
            all_goals go_wp2
            refine ⟨⟨k, by omega, rfl, (hR.set _ u0).set _ u1, fun B hb => ?_⟩, by simp only [intOf]; omega⟩
            exact blN (((hB B hb).setCell (p := ⟨g, k + 1, none⟩) hb _).setCell (p := ⟨g, k, none⟩) hb _) _
          · go_wp2_with fail
            go_quiet (first | (go_at_call 105; refine Calls.quiet_of_same (Less_c _ _ _)))
            go_wp2_with fail
            exact ⟨⟨i + 1, by omega, by omega, by simp, hR, fun B hb => blN (hB B hb) nq⟩, by simp only [intOf]; omega⟩
    · go_wp2_with fail
      go_returns
      exact ⟨rfl, hR, hB⟩
theorem insertion_0 {w : World} {q : Option Addr} {cap : Nat} :
    Calls Try.prog 117 #[.slice q 0 cap, .int .i64 0, .int .i64 0] w fun e w' => e = .returned (.tuple #[]) ∧ w' = w := by
  go_enter Try.func117, Try.ntmps117
  go_wp2_with fail
  refine wp_loop_rounds 1 ?_
  rw [rounds_succ]
  go_wp2_with fail
  go_returns
  exact ⟨rfl, rfl⟩
/-- v is a slice of n numbers, of whose block nothing below B is. -/
def Nums (w : World) (B : Nat) (v : Value) (n : Nat) : Prop := ∃ q cap, v = .slice q n cap ∧ (n = 0 ∨ ∃ g, q = some ⟨g, 0, none⟩ ∧ B ≤ g ∧ Row32 w g n)
theorem insertion_v {w : World} {B n cap : Nat} {q : Option Addr} (h : Nums w B (.slice q n cap) n) (hn : n ≤ 1000000) :
    Calls Try.prog 117 #[.slice q n cap, .int .i64 0, .int .i64 n] w fun e w' => e = .returned (.tuple #[]) ∧ Nums w' B (.slice q n cap) n ∧ Below B w w' := by
  obtain ⟨q', cap', e, h⟩ := h
  cases e
  rcases h with rfl | ⟨g, rfl, hg, hR⟩
  · refine insertion_0.mono ?_
    rintro e w' ⟨rfl, rfl⟩
    exact ⟨rfl, ⟨q, cap, rfl, .inl rfl⟩, Below.refl _ _⟩
  · refine (insertion_c hR hn).mono ?_
    rintro e w' ⟨rfl, hR', hb⟩
    exact ⟨rfl, ⟨_, _, rfl, .inr ⟨g, rfl, hg, hR'⟩⟩, hb B hg⟩
set_option maxRecDepth 100000 in
set_option maxHeartbeats 1000000 in
theorem pdq_c {w : World} {B n cap : Nat} {q : Option Addr} (h : Nums w B (.slice q n cap) n) (hn : n ≤ 12) (lim : Int) :
    Calls Try.prog 112 #[.slice q n cap, .int .i64 0, .int .i64 n, .int .i64 lim] w fun e w' => e = .returned (.tuple #[]) ∧ Nums w' B (.slice q n cap) n ∧ Below B w w' := by
  have HI := insertion_v h (by omega)
  have h12 : (n : Int) ≤ 12 := by omega
  go_enter Try.func112, Try.ntmps112
  go_wp2_with fail
  refine wp_loop_rounds 1 ?_
  rw [rounds_succ]
  go_wp2_with fail
  refine HI.mono ?_
  rintro e w1 ⟨rfl, hp⟩
  go_wp2_with fail
  go_returns
  exact ⟨rfl, hp⟩
set_option maxRecDepth 100000 in
theorem Len64_c (n : Nat) (hn : n ≤ 12) (w : World) : Calls Try.prog 126 #[.int .u64 n] w fun e w' => (∃ r, e = .returned (.int .i64 r)) ∧ w' = w := by
  have : n = 0 ∨ n = 1 ∨ n = 2 ∨ n = 3 ∨ n = 4 ∨ n = 5 ∨ n = 6 ∨ n = 7 ∨ n = 8 ∨ n = 9 ∨ n = 10 ∨ n = 11 ∨ n = 12 := by omega
  rcases this with rfl | rfl | rfl | rfl | rfl | rfl | rfl | rfl | rfl | rfl | rfl | rfl | rfl
  all_goals
    go_enter Try.func126, Try.ntmps126
    go_wp2
    go_ret
    exact ⟨⟨_, rfl⟩, rfl⟩
theorem Len_c (n : Nat) (hn : n ≤ 12) (w : World) : Calls Try.prog 113 #[.int .u64 n] w fun e w' => (∃ r, e = .returned (.int .i64 r)) ∧ w' = w := by
  have H := Len64_c n hn
  go_enter Try.func113, Try.ntmps113
  go_wp2_with (go_at_call 126; refine (H _).mono ?_; rintro e w' ⟨⟨r, rfl⟩, rfl⟩)
  go_ret
  exact ⟨⟨_, rfl⟩, rfl⟩
theorem Sort_c {w : World} {B n cap : Nat} {q : Option Addr} (h : Nums w B (.slice q n cap) n) (hn : n ≤ 12) :
    Calls Try.prog 103 #[.slice q n cap] w fun e w' => e = .returned (.tuple #[]) ∧ Nums w' B (.slice q n cap) n ∧ Below B w w' := by
  have H := Len_c n hn w
  go_enter Try.func103, Try.ntmps103
  go_wp2_with fail
  refine H.mono ?_
  rintro e w1 ⟨⟨r, rfl⟩, hw⟩
  rw [hw]
  go_wp2_with fail
  refine (pdq_c h hn r).mono ?_
  rintro e w2 ⟨rfl, hp⟩
  go_wp2_with fail
  go_returns
  exact ⟨rfl, hp⟩
end Go.Proofs.Ytgebmedkhakhfaa
