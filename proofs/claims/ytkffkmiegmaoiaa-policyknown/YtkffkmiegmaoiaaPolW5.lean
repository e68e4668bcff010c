/- LAYER 7's walks: readWord, readSource, readSink, cutRows. -/
import Derived.Test.YtkffkmiegmaoiaaPolW4
import Derived.Lib.EndianBits
namespace Go.Proofs.Ytkffkmiegmaoiaa
open Go.ChangeShapes Go.WideShapes Go.ChangeAt Go.RowKit

def B8 (x : Int) : Prop := 0 ≤ x ∧ x < 256
theorem or2 {y x : Int} (h : B8 x) (hy : B8 y) : bits .or .u32 y (x * 256) = y + x * 256 := by
  obtain ⟨h1, h2⟩ := h; obtain ⟨h3, h4⟩ := hy
  exact u32_or8 _ _ h3 h4 (by omega) (by omega) (by omega)
theorem or3 {y x : Int} (h : B8 x) (hy : 0 ≤ y ∧ y < 65536) : bits .or .u32 y (x * 65536) = y + x * 65536 := by
  obtain ⟨h1, h2⟩ := h
  exact u32_or16 _ _ hy.1 hy.2 (by omega) (by omega) (by omega)
theorem or4 {y x : Int} (h : B8 x) (hy : 0 ≤ y ∧ y < 16777216) : bits .or .u32 y (x * 16777216) = y + x * 16777216 := by
  obtain ⟨h1, h2⟩ := h
  exact u32_or24 _ _ hy.1 hy.2 (by omega) (by omega) (by omega)
theorem Pol.or_w4 {x0 x1 x2 x3 : Int} (h0 : B8 x0) (h1 : B8 x1) (h2 : B8 x2) (h3 : B8 x3) : bits .or .u32 (bits .or .u32 (bits .or .u32 x0 (x1 * 256)) (x2 * 65536)) (x3 * 16777216) = Pol.w4 x0 x1 x2 x3 := by
  rw [or2 h1 h0, or3 h2 (by unfold B8 at *; omega), or4 h3 (by unfold B8 at *; omega)]; rfl
theorem ret_u32 {a b : Int} {w w' : World} (h : a = b) (g : Bw w w') : Ending.returned (.int .u32 a) = .returned (.int .u32 b) ∧ Bw w w' := ⟨by rw [h], g⟩
set_option maxHeartbeats 1000000 in
set_option maxRecDepth 100000 in
theorem readWord_c (w : World) (b o n cap : Nat) (h4 : 4 ≤ n) (x0 x1 x2 x3 : Int) (h0 : B8 x0) (h1 : B8 x1) (h2 : B8 x2) (h3 : B8 x3) (c0 : w.cell? ⟨b, o, none⟩ = some (.int .u8 x0)) (c1 : w.cell? ⟨b, o + 1, none⟩ = some (.int .u8 x1)) (c2 : w.cell? ⟨b, o + 2, none⟩ = some (.int .u8 x2)) (c3 : w.cell? ⟨b, o + 3, none⟩ = some (.int .u8 x3)) :
    Calls Try.prog 32 #[.slice (some ⟨b, o, none⟩) n cap] w fun e w' => e = .returned (.int .u32 (Pol.w4 x0 x1 x2 x3)) ∧ w' = w.drew := by
  have hn : (4 : Int) ≤ n := by omega
  have HE : Hid _ := Pol.or_w4 h0 h1 h2 h3
  have e0 : x0 % 4294967296 = x0 := by unfold B8 at h0; omega
  have e1 : x1 % 4294967296 = x1 := by unfold B8 at h1; omega
  have e2 : x2 % 4294967296 = x2 := by unfold B8 at h2; omega
  have e3 : x3 % 4294967296 = x3 := by unfold B8 at h3; omega
  have f1 : x1 * 256 % 4294967296 = x1 * 256 := by unfold B8 at h1; omega
  have f2 : x2 * 65536 % 4294967296 = x2 * 65536 := by unfold B8 at h2; omega
  have f3 : x3 * 16777216 % 4294967296 = x3 * 16777216 := by unfold B8 at h3; omega
  go_enter Try.func32, Try.ntmps32
  go_wp2_with fail
  go_region
  go_wp2_with fail
  go_returns
  exact ⟨congrArg (fun x => Ending.returned (.int .u32 x)) HE, rfl⟩
def B8s (l : List Int) : Prop := ∀ x ∈ l, B8 x
theorem B8s.g {l : List Int} (h : B8s l) (i : Nat) : B8 (Pol.g l i) := by
  unfold Pol.g
  rw [List.getD_eq_getElem?_getD]
  cases hx : l[i]? with
  | none => exact ⟨by simp, by simp⟩
  | some x => exact h x (List.mem_of_getElem? hx)
theorem Pol.g_at {l : List Int} {i : Nat} (hi : i < l.length) : l[i]? = some (Pol.g l i) := by
  unfold Pol.g; rw [List.getD_eq_getElem?_getD, List.getElem?_eq_getElem hi]; rfl
/-- A word at any place of the bytes L that lie at ⟨b, o⟩. -/
theorem readWord_at (w : World) (L : List Int) (b o : Nat) (h8 : B8s L) (hc : ∀ j x, L[j]? = some x → w.cell? ⟨b, o + j, none⟩ = some (.int .u8 x)) (w' : World) (g : Bw w w') (off n cap : Nat) (hn : 4 ≤ n) (h0 : o ≤ off) (h1 : off + 4 ≤ o + L.length) :
    Calls Try.prog 32 #[.slice (some ⟨b, off, none⟩) n cap] w' fun e w'' => e = .returned (.int .u32 (Pol.w4 (Pol.g L (off - o)) (Pol.g L (off - o + 1)) (Pol.g L (off - o + 2)) (Pol.g L (off - o + 3)))) ∧ w'' = w'.drew := by
  have cc : ∀ j, j < 4 → w'.cell? ⟨b, off + j, none⟩ = some (.int .u8 (Pol.g L (off - o + j))) := fun j h => by
    have := g.keep (hc (off - o + j) _ (Pol.g_at (l := L) (i := off - o + j) (by omega)))
    rwa [show o + (off - o + j) = off + j by omega] at this
  exact readWord_c w' b off n cap hn _ _ _ _ (h8.g _) (h8.g _) (h8.g _) (h8.g _) (cc 0 (by omega)) (cc 1 (by omega)) (cc 2 (by omega)) (cc 3 (by omega))
set_option maxHeartbeats 1000000 in
set_option maxRecDepth 100000 in
/-- The row read from place i of the bytes L that lie at ⟨b, o⟩. -/
theorem readSource_c (w : World) (L : List Int) (b o i n cap : Nat) (h8 : B8s L) (hn : 10 ≤ n) (hi : i + 10 ≤ L.length) (hc : ∀ j x, L[j]? = some x → w.cell? ⟨b, o + j, none⟩ = some (.int .u8 x)) (hcap : n ≤ cap) :
    Calls Try.prog 23 #[.slice (some ⟨b, o + i, none⟩) n cap] w fun e w' => e = .returned (Pol.srcV (Pol.srcAt L i)) ∧ Bw w w' := by
  have hbl : b < w.heap.size := by
    apply Decidable.byContradiction
    intro hx
    have h9 := hc i _ (Pol.g_at (l := L) (i := i) (by omega))
    have : w.heap[b]? = none := by simp; omega
    simp [World.cell?, this] at h9
  have c0 : w.cell? ⟨b, o + i, none⟩ = some (.int .u8 (Pol.g L i)) := hc i _ (Pol.g_at (l := L) (i := i) (by omega))
  have c9 : w.cell? ⟨b, o + i + 9, none⟩ = some (.int .u8 (Pol.g L (i + 9))) := by rw [Nat.add_assoc]; exact hc (i + 9) _ (Pol.g_at (l := L) (i := i + 9) (by omega))
  have hW := readWord_at w L b o h8 hc
  have hni : (10 : Int) ≤ n := by omega
  have hci : (n : Int) ≤ cap := by omega
  have hn0 : 0 < n := by omega
  have hc1 : cap ≠ 1 := by omega
  have hc5 : cap ≠ 5 := by omega
  obtain ⟨n0, n1, n5, n9⟩ : (0 : Int) < n ∧ (1 : Int) ≤ n ∧ (5 : Int) ≤ n ∧ (9 : Int) < n := by omega
  have e1 : o + i + 1 - o = i + 1 := by omega
  have e5 : o + i + 5 - o = i + 5 := by omega
  obtain ⟨b0, b1⟩ := h8.g i
  have hwi : IntKind.i64.wrap (Pol.g L i) = Pol.g L i := by rw [IntKind.wrap_i64]; omega
  unfold Pol.srcV Pol.srcAt
  dsimp only
  clear hc h8
  go_enter Try.func23, Try.ntmps23
  go_wp2_with fail
  go_region_held3 (fun wr => wr.cell? ⟨b, o + i, none⟩ = some (.int .u8 (Pol.g L i)) ∧ wr.cell? ⟨b, o + i + 9, none⟩ = some (.int .u8 (Pol.g L (i + 9))))
    (exact ⟨Bw.keep (a := w) (by (repeat' (first | (with_reducible assumption) | (with_reducible exact Bw.refl _) | (with_reducible refine Bw.alloc ?_ _) | (with_reducible refine Bw.drew ?_) | (with_reducible refine Bw.drewN ?_ _)))) c0, Bw.keep (a := w) (by (repeat' (first | (with_reducible assumption) | (with_reducible exact Bw.refl _) | (with_reducible refine Bw.alloc ?_ _) | (with_reducible refine Bw.drew ?_) | (with_reducible refine Bw.drewN ?_ _)))) c9⟩)
    ((go_at_call 32; refine (hW _ (by (repeat' (first | (with_reducible assumption) | (with_reducible exact Bw.refl _) | (with_reducible refine Bw.alloc ?_ _) | (with_reducible refine Bw.drew ?_) | (with_reducible refine Bw.drewN ?_ _)))) _ _ _ (by omega) (by omega) (by omega)).mono ?_; rintro e w3 ⟨rfl, rfl⟩; simp only [e1, e5]))
  go_wp2_with fail
  go_returns
  exact ⟨rfl, by (repeat' (first | (with_reducible assumption) | (with_reducible exact Bw.refl _) | (with_reducible refine Bw.alloc ?_ _) | (with_reducible refine Bw.drew ?_) | (with_reducible refine Bw.drewN ?_ _)))⟩
set_option maxHeartbeats 1000000 in
set_option maxRecDepth 100000 in
theorem readSink_c (w : World) (L : List Int) (b o i n cap : Nat) (h8 : B8s L) (hn : 3 ≤ n) (hi : i + 3 ≤ L.length) (hc : ∀ j x, L[j]? = some x → w.cell? ⟨b, o + j, none⟩ = some (.int .u8 x)) :
    Calls Try.prog 24 #[.slice (some ⟨b, o + i, none⟩) n cap] w fun e w' => e = .returned (Pol.snkV (Pol.snkAt L i)) ∧ Bw w w' := by
  have c0 : w.cell? ⟨b, o + i, none⟩ = some (.int .u8 (Pol.g L i)) := hc i _ (Pol.g_at (l := L) (i := i) (by omega))
  have c1 : w.cell? ⟨b, o + i + 1, none⟩ = some (.int .u8 (Pol.g L (i + 1))) := by rw [Nat.add_assoc]; exact hc (i + 1) _ (Pol.g_at (l := L) (i := i + 1) (by omega))
  have c2 : w.cell? ⟨b, o + i + 2, none⟩ = some (.int .u8 (Pol.g L (i + 2))) := by rw [Nat.add_assoc]; exact hc (i + 2) _ (Pol.g_at (l := L) (i := i + 2) (by omega))
  have hbl : b < w.heap.size := by
    apply Decidable.byContradiction
    intro hx
    have : w.heap[b]? = none := by simp; omega
    simp [World.cell?, this] at c0
  have hn0 : 0 < n := by omega
  obtain ⟨n0, n1, n5, n9⟩ : (0 : Int) < n ∧ (1 : Int) < n ∧ (2 : Int) < n ∧ (3 : Int) ≤ n := by omega
  obtain ⟨b0, b1⟩ := h8.g i
  have hwi : IntKind.i64.wrap (Pol.g L i) = Pol.g L i := by rw [IntKind.wrap_i64]; omega
  obtain ⟨d0, d1⟩ := h8.g (i + 1)
  have hwj : IntKind.i64.wrap (Pol.g L (i + 1)) = Pol.g L (i + 1) := by rw [IntKind.wrap_i64]; omega
  unfold Pol.snkV Pol.snkAt
  dsimp only
  clear hc h8
  go_enter Try.func24, Try.ntmps24
  go_wp2_with fail
  go_region
  go_wp2_with fail
  go_returns
  exact ⟨rfl, by (repeat' (first | (with_reducible assumption) | (with_reducible exact Bw.refl _) | (with_reducible refine Bw.alloc ?_ _) | (with_reducible refine Bw.drew ?_) | (with_reducible refine Bw.drewN ?_ _)))⟩
end Go.Proofs.Ytkffkmiegmaoiaa
