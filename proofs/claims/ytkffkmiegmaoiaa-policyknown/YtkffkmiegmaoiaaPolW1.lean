/- LAYER 7's walks: policies as Go holds them; may a source be, a sink; what a source gives. -/
import Derived.Test.YtkffkmiegmaoiaaPol
namespace Go.Proofs.Ytkffkmiegmaoiaa
open Go.ChangeShapes Go.WideShapes Go.ChangeAt Go.RowKit

def Pol.srcC (s : Pol.Src) : List Value := [.int .i64 s.kind, .int .u32 s.arg, .int .u32 s.len, .int .u8 s.label]
def Pol.snkC (s : Pol.Snk) : List Value := [.int .i64 s.kind, .int .i64 s.arg, .int .u8 s.mask]
def Pol.srcV (s : Pol.Src) : Value := .agg #[.int .i64 s.kind, .int .u32 s.arg, .int .u32 s.len, .int .u8 s.label]
def Pol.snkV (s : Pol.Snk) : Value := .agg #[.int .i64 s.kind, .int .i64 s.arg, .int .u8 s.mask]
theorem Pol.srcC_len (s : Pol.Src) : (Pol.srcC s).length = 4 := rfl
theorem Pol.snkC_len (s : Pol.Snk) : (Pol.snkC s).length = 3 := rfl
/-- A slice of sources, of sinks, that reads so. -/
def SrcS (w : World) (v : Value) (l : List Pol.Src) : Prop := RdR 4 w v l.length (l.flatMap Pol.srcC) ∧ ∀ s ∈ l, Pol.SWf s
def SnkS (w : World) (v : Value) (l : List Pol.Snk) : Prop := RdR 3 w v l.length (l.flatMap Pol.snkC) ∧ ∀ s ∈ l, Pol.KWf s
theorem SrcS.bw {w w' : World} {v : Value} {l : List Pol.Src} (h : SrcS w v l) (g : Bw w w') : SrcS w' v l := ⟨h.1.bw g, h.2⟩
theorem SnkS.bw {w w' : World} {v : Value} {l : List Pol.Snk} (h : SnkS w v l) (g : Bw w w') : SnkS w' v l := ⟨h.1.bw g, h.2⟩
theorem SrcS.nil (w : World) : SrcS w (.slice none 0 0) [] := ⟨RdR.nil _ _, by simp⟩
theorem SnkS.nil (w : World) : SnkS w (.slice none 0 0) [] := ⟨RdR.nil _ _, by simp⟩
theorem SrcS.open {w : World} {v : Value} {l : List Pol.Src} (h : SrcS w v l) : ∃ q cap, v = .slice q l.length cap ∧ l.length ≤ cap ∧ cap ≤ 9223372036854775807 ∧
    ∀ i s, l[i]? = some s → ∃ b o, q = some ⟨b, o, none⟩ ∧ b < w.heap.size ∧ w.cell? ⟨b, o + i * 4, none⟩ = some (.int .i64 s.kind) ∧ w.cell? ⟨b, o + i * 4 + 1, none⟩ = some (.int .u32 s.arg) ∧ w.cell? ⟨b, o + i * 4 + 2, none⟩ = some (.int .u32 s.len) ∧ w.cell? ⟨b, o + i * 4 + 3, none⟩ = some (.int .u8 s.label) := by
  obtain ⟨⟨q, cap, h1, h2, h3, h4, h5⟩, hw⟩ := h
  refine ⟨q, cap, h1, h2, h3, fun i s hs => ?_⟩
  have hi : i < l.length := (List.getElem?_eq_some_iff.1 hs).1
  obtain ⟨b, o, h6, h7, h8⟩ := h5 (by omega)
  have c : ∀ j u, (Pol.srcC s)[j]? = some u → w.cell? ⟨b, o + i * 4 + j, none⟩ = some u := fun j u hu => by
    rw [Nat.add_assoc]
    exact h8 _ u (by rw [chunk Pol.srcC 4 Pol.srcC_len l i s j hs (by have := (List.getElem?_eq_some_iff.1 hu).1; rwa [Pol.srcC_len] at this)]; exact hu)
  exact ⟨b, o, h6, h7, c 0 _ rfl, c 1 _ rfl, c 2 _ rfl, c 3 _ rfl⟩
theorem SnkS.open {w : World} {v : Value} {l : List Pol.Snk} (h : SnkS w v l) : ∃ q cap, v = .slice q l.length cap ∧ l.length ≤ cap ∧ cap ≤ 9223372036854775807 ∧
    ∀ i s, l[i]? = some s → ∃ b o, q = some ⟨b, o, none⟩ ∧ b < w.heap.size ∧ w.cell? ⟨b, o + i * 3, none⟩ = some (.int .i64 s.kind) ∧ w.cell? ⟨b, o + i * 3 + 1, none⟩ = some (.int .i64 s.arg) ∧ w.cell? ⟨b, o + i * 3 + 2, none⟩ = some (.int .u8 s.mask) := by
  obtain ⟨⟨q, cap, h1, h2, h3, h4, h5⟩, hw⟩ := h
  refine ⟨q, cap, h1, h2, h3, fun i s hs => ?_⟩
  have hi : i < l.length := (List.getElem?_eq_some_iff.1 hs).1
  obtain ⟨b, o, h6, h7, h8⟩ := h5 (by omega)
  have c : ∀ j u, (Pol.snkC s)[j]? = some u → w.cell? ⟨b, o + i * 3 + j, none⟩ = some u := fun j u hu => by
    rw [Nat.add_assoc]
    exact h8 _ u (by rw [chunk Pol.snkC 3 Pol.snkC_len l i s j hs (by have := (List.getElem?_eq_some_iff.1 hu).1; rwa [Pol.snkC_len] at this)]; exact hu)
  exact ⟨b, o, h6, h7, c 0 _ rfl, c 1 _ rfl, c 2 _ rfl⟩
theorem Pol.srcOk_none {s : Pol.Src} (h : s.label = 0) : Pol.srcOk s = false := by unfold Pol.srcOk; rw [h]; rfl
theorem ret_bool {a b : Bool} {w w' : World} (h : a = b) (g : Bw w w') : Ending.returned (.bool a) = .returned (.bool b) ∧ Bw w w' := ⟨by rw [h], g⟩
set_option maxHeartbeats 1000000 in
set_option maxRecDepth 100000 in
theorem sourceStands_c (s : Pol.Src) (hs : Pol.SWf s) (w : World) : Calls Try.prog 33 #[Pol.srcV s] w fun e w' => e = .returned (.bool (Pol.srcOk s)) ∧ Bw w w' := by
  obtain ⟨k, a, n, b⟩ := s
  obtain ⟨_, _, a0, a1, l0, l1, _, _⟩ := hs
  dsimp only at a0 a1 l0 l1
  generalize hR : Pol.srcOk ⟨k, a, n, b⟩ = R
  have HR : Hid _ := hR
  clear hR
  unfold Pol.srcV
  dsimp only
  by_cases hb : b = 0
  · subst hb
    go_enter Try.func33, Try.ntmps33
    go_wp2
    go_returns
    exact ret_bool ((Pol.srcOk_none rfl).symm.trans HR) ((Bw.refl _).alloc _)
  · have hb1 : (b == 0) = false := by simpa using hb
    have hb2 : (b != 0) = true := by simpa using hb
    have hcs : k = 1 ∨ k = 2 ∨ k = 3 ∨ k = 5 ∨ k = 4 ∨ (k ≠ 1 ∧ k ≠ 2 ∧ k ≠ 3 ∧ k ≠ 5 ∧ k ≠ 4) := by omega
    have hlen : IntKind.u64.wrap (a + n) = a + n := by rw [IntKind.wrap_u64]; omega
    rcases hcs with rfl | rfl | rfl | rfl | rfl | ⟨k1, k2, k3, k5, k4⟩
    · go_enter Try.func33, Try.ntmps33
      go_wp2
      go_returns
      exact ret_bool (by rw [← (show _ = R from HR)]; simp [Pol.srcOk, hb2]) ((Bw.refl _).alloc _)
    iterate 3
      · by_cases ha : a = 0
        · subst ha
          go_enter Try.func33, Try.ntmps33
          go_wp2
          go_returns
          exact ret_bool (by rw [← (show _ = R from HR)]; simp [Pol.srcOk, hb2]) ((Bw.refl _).alloc _)
        · have ha1 : (a == 0) = false := by simpa using ha
          go_enter Try.func33, Try.ntmps33
          go_wp2
          go_returns
          exact ret_bool (by rw [← (show _ = R from HR)]; simp [Pol.srcOk, hb2, ha1]) ((Bw.refl _).alloc _)
    · by_cases hn : n = 0
      · subst hn
        go_enter Try.func33, Try.ntmps33
        go_wp2
        go_returns
        exact ret_bool (by rw [← (show _ = R from HR)]; simp [Pol.srcOk, hb2]) ((Bw.refl _).alloc _)
      · have hn1 : (n != 0) = true := by simpa using hn
        go_enter Try.func33, Try.ntmps33
        go_wp2
        go_returns
        exact ret_bool (by rw [← (show _ = R from HR)]; simp [Pol.srcOk, hb2, hn1]) ((Bw.refl _).alloc _)
    · have e1 : (k == 1) = false := by simpa using k1
      have e2 : (k == 2) = false := by simpa using k2
      have e3 : (k == 3) = false := by simpa using k3
      have e4 : (k == 4) = false := by simpa using k4
      have e5 : (k == 5) = false := by simpa using k5
      go_enter Try.func33, Try.ntmps33
      go_wp2
      go_returns
      exact ret_bool (by rw [← (show _ = R from HR)]; simp [Pol.srcOk, k1, k2, k3, k4, k5]) ((Bw.refl _).alloc _)
set_option maxHeartbeats 1000000 in
set_option maxRecDepth 100000 in
theorem sinkStands_c (s : Pol.Snk) (w : World) : Calls Try.prog 34 #[Pol.snkV s] w fun e w' => e = .returned (.bool (Pol.snkOk s)) ∧ Bw w w' := by
  obtain ⟨k, a, b⟩ := s
  generalize hR : Pol.snkOk ⟨k, a, b⟩ = R
  have HR : Hid _ := hR
  clear hR
  unfold Pol.snkV
  dsimp only
  by_cases hb : b = 0
  · subst hb
    go_enter Try.func34, Try.ntmps34
    go_wp2
    go_returns
    exact ret_bool (by rw [← (show _ = R from HR)]; simp [Pol.snkOk]) ((Bw.refl _).alloc _)
  · have hb1 : (b == 0) = false := by simpa using hb
    have hb2 : (b != 0) = true := by simpa using hb
    obtain h | h | ⟨h, h2⟩ : k < 1 ∨ 5 < k ∨ (1 ≤ k ∧ k ≤ 5) := by omega
    · go_enter Try.func34, Try.ntmps34
      go_wp2
      go_returns
      exact ret_bool (by rw [← (show _ = R from HR)]; simp [Pol.snkOk]; omega) ((Bw.refl _).alloc _)
    · go_enter Try.func34, Try.ntmps34
      go_wp2
      go_returns
      exact ret_bool (by rw [← (show _ = R from HR)]; simp [Pol.snkOk]; omega) ((Bw.refl _).alloc _)
    · by_cases h4 : k = 4
      · subst h4
        by_cases ha : 0 ≤ a
        · go_enter Try.func34, Try.ntmps34
          go_wp2
          go_returns
          exact ret_bool (by rw [← (show _ = R from HR)]; simp [Pol.snkOk, hb2, ha]) ((Bw.refl _).alloc _)
        · have ha' : a < 0 := by omega
          go_enter Try.func34, Try.ntmps34
          go_wp2
          go_returns
          exact ret_bool (by rw [← (show _ = R from HR)]; simp [Pol.snkOk, hb2]; omega) ((Bw.refl _).alloc _)
      · have h41 : (k == 4) = false := by simpa using h4
        go_enter Try.func34, Try.ntmps34
        go_wp2
        go_returns
        exact ret_bool (by rw [← (show _ = R from HR)]; simp [Pol.snkOk, hb2, h4, h, h2]) ((Bw.refl _).alloc _)
def Pol.givesS (s : Pol.Src) (arg : Int) : Bool := if s.kind = 1 then s.arg == arg else decide (s.kind = 2 ∨ s.kind = 3 ∨ s.kind = 5)
theorem Pol.gives_at {kind arg : Int} {s : Pol.Src} (h : s.kind = kind) : Pol.gives kind arg s = Pol.givesS s arg := by
  unfold Pol.gives Pol.givesS; subst h; simp
set_option maxHeartbeats 1000000 in
set_option maxRecDepth 100000 in
theorem gives_c (s : Pol.Src) (arg : Int) (w : World) : Calls Try.prog 27 #[Pol.srcV s, .int .u32 arg] w fun e w' => e = .returned (.bool (Pol.givesS s arg)) ∧ Bw w w' := by
  obtain ⟨k, a, n, b⟩ := s
  generalize hR : Pol.givesS ⟨k, a, n, b⟩ arg = R
  have HR : Hid _ := hR
  clear hR
  unfold Pol.srcV
  dsimp only
  have hcs : k = 1 ∨ k = 2 ∨ k = 3 ∨ k = 5 ∨ (k ≠ 1 ∧ k ≠ 2 ∧ k ≠ 3 ∧ k ≠ 5) := by omega
  rcases hcs with rfl | rfl | rfl | rfl | ⟨k1, k2, k3, k5⟩
  iterate 4
    · go_enter Try.func27, Try.ntmps27
      go_wp2
      go_returns
      exact ret_bool (by rw [← (show _ = R from HR)]; simp [Pol.givesS]) ((Bw.refl _).alloc _)
  · have e1 : (k == 1) = false := by simpa using k1
    have e2 : (k == 2) = false := by simpa using k2
    have e3 : (k == 3) = false := by simpa using k3
    have e5 : (k == 5) = false := by simpa using k5
    go_enter Try.func27, Try.ntmps27
    go_wp2
    go_returns
    exact ret_bool (by rw [← (show _ = R from HR)]; simp [Pol.givesS, k1, k2, k3, k5]) ((Bw.refl _).alloc _)
end Go.Proofs.Ytkffkmiegmaoiaa
