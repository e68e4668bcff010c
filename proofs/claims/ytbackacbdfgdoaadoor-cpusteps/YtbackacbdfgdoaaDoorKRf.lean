/- THE WALKS OF LAYER 3's REFERENCE (tinctureref3): the small ones. · LAYER 3's REFERENCE: its memory as blocks; Gen, at. · LAYER 3's REFERENCE: its pages as a row; at, Perm. · LAYER 3's REFERENCE: at, Perm. · LAYER 3's REFERENCE: there, ask. · LAYER 3's REFERENCE: ask. · LAYER 3's REFERENCE: Load. -/
import Derived.Test.YtbackacbdfgdoaaDoorK6
import Derived.Deep.RegionHeld3
namespace Go.Proofs.YtbackacbdfgdoaaDoor
open Go.ChangeShapes Go.WideShapes Go.ChangeAt Go.RowKit
set_option linter.unusedSimpArgs false
set_option linter.unusedVariables false

def rStretch (a n : Int) : Int := if n ≠ 0 ∧ a % 256 = 0 ∧ a + (n + 255) / 256 * 256 ≤ 4294967296 then (n + 255) / 256 else -1
def rWithin (b a c : Int) : Bool := decide (a ≤ b ∧ b < a + c * 256)
end Go.Proofs.YtbackacbdfgdoaaDoor
namespace Go.Proofs.YtbackacbdfgdoaaDoor
open Go.ChangeShapes Go.WideShapes Go.ChangeAt Go.RowKit
set_option linter.unusedSimpArgs false
set_option linter.unusedVariables false

/-- The numbers of changes: the first that fits; 0: none. -/
def glook : List (Int × Int) → Int → Int
  | [], _ => 0
  | x :: t, k => if x.1 = k then x.2 else glook t k
theorem glook_at {k : Int} : ∀ {gs : List (Int × Int)} {i : Nat} {x : Int × Int}, gs[i]? = some x → x.1 = k → (∀ (j : Nat) (y : Int × Int), j < i → gs[j]? = some y → y.1 ≠ k) → glook gs k = x.2
  | [], i, x, h, _, _ => by simp at h
  | y :: t, 0, x, h, e, _ => by simp at h; subst h; simp [glook, e]
  | y :: t, i + 1, x, h, e, hj => by
    have := hj 0 y (by omega) rfl
    simp only [glook, if_neg this]
    exact glook_at (i := i) (by simpa using h) e (fun j z hlt hz => hj (j + 1) z (by omega) (by simpa using hz))
theorem glook_none {k : Int} : ∀ {gs : List (Int × Int)}, (∀ (j : Nat) (y : Int × Int), gs[j]? = some y → y.1 ≠ k) → glook gs k = 0
  | [], _ => rfl
  | y :: t, h => by
    simp only [glook, if_neg (h 0 y rfl)]
    exact glook_none (fun j z hz => h (j + 1) z (by simpa using hz))
/-- Slice v of w: the numbers of changes gs. -/
def GRow (w : World) (v : Value) (gs : List (Int × Int)) : Prop :=
  ∃ q cap, v = .slice q gs.length cap ∧ (∀ x ∈ gs, U4 x.1 ∧ U4 x.2) ∧ gs.length ≤ 1000000 ∧ (0 < gs.length → ∃ g, q = some ⟨g, 0, none⟩ ∧ ∀ i x, gs[i]? = some x → w.cell? ⟨g, i * 2, none⟩ = some (.int .u32 x.1) ∧ w.cell? ⟨g, i * 2 + 1, none⟩ = some (.int .u32 x.2))

end Go.Proofs.YtbackacbdfgdoaaDoor
namespace Go.Proofs.YtbackacbdfgdoaaDoor
open Go.ChangeShapes Go.WideShapes Go.ChangeAt Go.RowKit
set_option linter.unusedSimpArgs false
set_option linter.unusedVariables false

structure RPg where
  base : Int
  perm : Int
  byt : Nat → Int
structure RPg.Ok (p : RPg) : Prop where
  base : U4 p.base
  perm : 0 ≤ p.perm ∧ p.perm < 8
  byt : ∀ i, 0 ≤ p.byt i ∧ p.byt i < 256
/-- Slice v of w: these pages. -/
def PRow (w : World) (v : Value) (ps : List RPg) : Prop :=
  ∃ q cap, v = .slice q ps.length cap ∧ (∀ x ∈ ps, x.Ok) ∧ ps.length ≤ 4096 ∧ (0 < ps.length → ∃ g, q = some ⟨g, 0, none⟩ ∧ ∀ i x, ps[i]? = some x →
    w.cell? ⟨g, i * 258, none⟩ = some (.int .u32 x.base) ∧ w.cell? ⟨g, i * 258 + 1, none⟩ = some (.int .i64 x.perm) ∧ ∀ j, j < 256 → w.cell? ⟨g, i * 258 + 2 + j, none⟩ = some (.int .u8 (x.byt j)))
/-- Where a page stands, or would. -/
def plb (ps : List RPg) (b : Int) : Nat := (ps.takeWhile (fun p => decide (p.base < b))).length
def phas (ps : List RPg) (b : Int) : Bool := match ps[plb ps b]? with | some p => p.base == b | none => false
theorem plb_at {b : Int} : ∀ {ps : List RPg} {k : Nat}, k ≤ ps.length → (∀ (i : Nat) (y : RPg), i < k → ps[i]? = some y → y.base < b) → (∀ y, ps[k]? = some y → ¬ y.base < b) → plb ps b = k
  | [], k, hk, _, _ => by simp at hk; subst hk; rfl
  | y :: t, 0, _, _, h => by
    have := h y rfl
    simp [plb, List.takeWhile, this]
  | y :: t, k + 1, hk, hlt, h => by
    have h0 := hlt 0 y (by omega) rfl
    have ih := plb_at (b := b) (ps := t) (k := k) (by simpa using hk) (fun i z hi hz => hlt (i + 1) z (by omega) (by simpa using hz)) (fun z hz => h z (by simpa using hz))
    unfold plb at ih ⊢
    rw [List.takeWhile_cons_of_pos (by simpa using h0), List.length_cons, ih]

end Go.Proofs.YtbackacbdfgdoaaDoor
namespace Go.Proofs.YtbackacbdfgdoaaDoor
open Go.ChangeShapes Go.WideShapes Go.ChangeAt Go.RowKit
set_option linter.unusedSimpArgs false
set_option linter.unusedVariables false

set_option maxHeartbeats 1600000 in
set_option maxRecDepth 100000 in
theorem rat_c {w : World} {rb : Nat} {v : Value} {ps : List RPg} (c1 : w.cell? ⟨rb, 1, none⟩ = some v) (hp : PRow w v ps) (a : Int) (ha : U4 a) :
    Calls Tryd.prog 93 #[.pointer (some ⟨rb, 0, none⟩), .int .u32 a] w fun e w' => e = .returned (.tuple #[.int .i64 (plb ps (a - a % 256) : Nat), .bool (phas ps (a - a % 256))]) ∧ Gr w w' := by
  obtain ⟨q, cap, rfl, hU, hlen, hq⟩ := hp
  obtain ⟨ha1, ha2⟩ := ha
  have HQ : Hid _ := hq
  have HU : Hid _ := hU
  have hw : (a - a % 256) % 4294967296 = a - a % 256 := by omega
  have hb1 : 0 ≤ a - a % 256 := by omega
  have hb2 : a - a % 256 < 4294967296 := by omega
  clear hq hU
  go_enter Tryd.func93, Tryd.ntmps93
  go_wp2_with fail
  go_loopw [7] (fun s wr => wr = w ∧ ∃ j : Nat, s = .int .i64 j ∧ j ≤ ps.length ∧ ∀ i y, i < j → ps[i]? = some y → y.base < a - a % 256) (fun s _ => ps.length - (intOf s).toNat)
  case atStart => exact ⟨rfl, 0, rfl, Nat.zero_le _, fun i y h => by omega⟩
  case round =>
    obtain ⟨rfl, j, rfl, hj, hno⟩ := hrel
    by_cases e : j = ps.length
    · have r := plb_at (ps := ps) (b := a - a % 256) hj (fun i y hi hy => hno i y hi hy) (fun y hy => by have := (List.getElem?_eq_some_iff.1 hy).1; omega)
      have rh : phas ps (a - a % 256) = false := by
        unfold phas; rw [r, List.getElem?_eq_none (by omega)]
      have hlt : ¬ (j : Int) < ps.length := by omega
      have HR : Hid _ := r
      have HH : Hid _ := rh
      clear hno r rh
      go_wp2_with fail
      go_region
      go_wp2_with fail
      go_returns
      rw [HR.out, HH.out, e]
      exact ⟨rfl, (Gr.refl _).drew⟩
    · obtain ⟨g, rfl, hc⟩ := HQ.out (by omega)
      have hx : ps[j]? = some ps[j] := List.getElem?_eq_getElem (by omega)
      obtain ⟨d1, d2, _⟩ := hc j _ hx
      have ux := (HU.out _ (List.getElem_mem (show j < ps.length by omega))).base
      obtain ⟨u1, u2⟩ := ux
      have hlt : (j : Int) < ps.length := by omega
      have hltn : j < ps.length := by omega
      generalize ps[j] = x at *
      clear hc
      by_cases eb : x.base < a - a % 256
      · have hno2 : ∀ i y, i < j + 1 → ps[i]? = some y → y.base < a - a % 256 := fun i y hi hy => by
          by_cases ei : i = j
          · subst ei; rw [hx] at hy; cases hy; exact eb
          · exact hno i y (by omega) hy
        clear hno
        go_wp2_with fail
        go_roundw
        case rel => exact ⟨trivial, j + 1, by simp, by omega, hno2⟩
        case measure => simp [intOf]; omega
      · have r := plb_at (ps := ps) (b := a - a % 256) hj (fun i y hi hy => hno i y hi hy) (fun y hy => by rw [hx] at hy; cases hy; exact eb)
        have rh : phas ps (a - a % 256) = (x.base == a - a % 256) := by unfold phas; rw [r, hx]
        have HR : Hid _ := r
        have HH : Hid _ := rh
        clear hno r rh
        go_wp2_with fail
        go_region
        go_wp2_with fail
        go_returns
        rw [HR.out, HH.out]
        exact ⟨rfl, (Gr.refl _).drew⟩

theorem phas_some {ps : List RPg} {b : Int} (h : phas ps b = true) : ∃ x, ps[plb ps b]? = some x ∧ x.base = b := by
  unfold phas at h
  cases hx : ps[plb ps b]? with
  | none => rw [hx] at h; cases h
  | some x => rw [hx] at h; exact ⟨x, rfl, by simpa using h⟩
/-- What a page's permissions are; nought of one that isn't there. -/
def pperm (ps : List RPg) (b : Int) : Int := if phas ps b then (match ps[plb ps b]? with | some x => x.perm | none => 0) else 0
theorem PRow.gr {w w' : World} {v : Value} {ps : List RPg} (h : PRow w v ps) (g : Gr w w') : PRow w' v ps := by
  obtain ⟨q, cap, e, h1, h2, h3⟩ := h
  refine ⟨q, cap, e, h1, h2, fun hl => ?_⟩
  obtain ⟨b, eb, hc⟩ := h3 hl
  exact ⟨b, eb, fun i x hx => ⟨g.keep (hc i x hx).1, g.keep (hc i x hx).2.1, fun j hj => g.keep ((hc i x hx).2.2 j hj)⟩⟩
end Go.Proofs.YtbackacbdfgdoaaDoor
namespace Go.Proofs.YtbackacbdfgdoaaDoor
open Go.ChangeShapes Go.WideShapes Go.ChangeAt Go.RowKit
set_option linter.unusedSimpArgs false
set_option linter.unusedVariables false

/-- How many of a stretch's pages are there. -/
def rThere (ps : List RPg) (a c : Int) : Nat := (ps.filter fun p => rWithin p.base a c).length
theorem rThere_step {ps : List RPg} {a c : Int} {j : Nat} {x : RPg} (hx : ps[j]? = some x) : rThere (ps.take (j + 1)) a c = rThere (ps.take j) a c + (if rWithin x.base a c then 1 else 0) := by
  obtain ⟨hj, rfl⟩ := List.getElem?_eq_some_iff.1 hx
  unfold rThere
  rw [List.take_succ_eq_append_getElem hj, List.filter_append, List.length_append]
  congr 1
  by_cases h : rWithin ps[j].base a c <;> simp [h]
theorem rThere_le (ps : List RPg) (a c : Int) : rThere ps a c ≤ ps.length := List.length_filter_le _ _

end Go.Proofs.YtbackacbdfgdoaaDoor
namespace Go.Proofs.YtbackacbdfgdoaaDoor
open Go.ChangeShapes Go.WideShapes Go.ChangeAt Go.RowKit
set_option linter.unusedSimpArgs false
set_option linter.unusedVariables false

/-- The fault of a number of that size there. -/
def rAsk (ps : List RPg) (a size need : Int) : Int :=
  if (size = 1 ∨ size = 2 ∨ size = 4) ∧ a % size = 0 then
    if phas ps (a - a % 256) then (if (bits .and .i64 (pperm ps (a - a % 256)) need == need) = true then 0 else 2) else 1
  else 3
def rAskK (ps : List RPg) (a size need : Int) : Int := if rAsk ps a size need = 0 then (plb ps (a - a % 256) : Nat) else 0
theorem ret_ii {k l : IntKind} {a b c d : Int} (h : a = b) (h2 : c = d) : Ending.returned (.tuple #[.int k a, .int l c]) = .returned (.tuple #[.int k b, .int l d]) := by rw [h, h2]

set_option maxHeartbeats 3200000 in
set_option maxRecDepth 100000 in
theorem rask_in {w : World} {rb : Nat} {v : Value} {ps : List RPg} (c1 : w.cell? ⟨rb, 1, none⟩ = some v) (hp : PRow w v ps) (a size need : Int) (ha : U4 a) (hs : size = 1 ∨ size = 2 ∨ size = 4) (hm : a % size = 0) :
    Calls Tryd.prog 72 #[.pointer (some ⟨rb, 0, none⟩), .int .u32 a, .int .i64 size, .int .i64 need] w fun e w' => e = .returned (.tuple #[.int .i64 (rAskK ps a size need), .int .i64 (rAsk ps a size need)]) ∧ Gr w w' := by
  have hA := rat_c c1 hp a ha
  obtain ⟨ha1, ha2⟩ := ha
  have hr : rAsk ps a size need = if phas ps (a - a % 256) then (if (bits .and .i64 (pperm ps (a - a % 256)) need == need) = true then 0 else 2) else 1 := by unfold rAsk; rw [if_pos ⟨hs, hm⟩]
  cases hh : phas ps (a - a % 256)
  · have hz : rAsk ps a size need = 1 := by rw [hr, hh]; rfl
    have hk : rAskK ps a size need = 0 := by unfold rAskK; rw [hz]; rfl
    rw [hk, hz]
    rw [hh] at hA
    clear hr hz hk hh
    rcases hs with rfl | rfl | rfl
    all_goals
      go_enter Tryd.func72, Tryd.ntmps72
      go_wp2_with fail
      refine hA.mono ?_
      rintro e w1 ⟨rfl, g1⟩
      go_wp2_with fail
      go_returns
      exact ⟨rfl, g1⟩
  · obtain ⟨x, hx, hb⟩ := phas_some hh
    have hz : pperm ps (a - a % 256) = x.perm := by unfold pperm; rw [hh, hx]; rfl
    rw [hh, hz] at hr
    simp only [if_true] at hr
    rw [hh] at hA
    have hl : plb ps (a - a % 256) < ps.length := (List.getElem?_eq_some_iff.1 hx).1
    have hK : rAskK ps a size need = if rAsk ps a size need = 0 then ((plb ps (a - a % 256) : Nat) : Int) else 0 := rfl
    rw [hr] at hK
    rw [hK, hr]
    clear hr hK
    generalize plb ps (a - a % 256) = k at *
    obtain ⟨q, cap, rfl, hU, hlen, hq⟩ := hp
    obtain ⟨g, rfl, hc⟩ := hq (by omega)
    obtain ⟨d1, d2, _⟩ := hc k _ hx
    have hlt : (k : Int) < ps.length := by omega
    clear hc hq hU hz hh hb hx
    cases hB : (bits .and .i64 x.perm need == need)
    all_goals
      simp only [if_true, Bool.false_eq_true, if_false]
      rcases hs with rfl | rfl | rfl
      all_goals
        go_enter Tryd.func72, Tryd.ntmps72
        go_wp2_with fail
        refine hA.mono ?_
        rintro e w1 ⟨rfl, g1⟩
        have c1' := g1.keep c1
        have d2' := g1.keep d2
        go_wp2_with fail
        try (go_region; go_wp2_with fail)
        go_returns
        exact ⟨rfl, by first | exact g1 | exact g1.drew⟩

set_option maxHeartbeats 3200000 in
set_option maxRecDepth 100000 in
theorem rask_out {w : World} {rb : Nat} {ps : List RPg} (a size need : Int) (ha : U4 a) (h : ¬ ((size = 1 ∨ size = 2 ∨ size = 4) ∧ a % size = 0)) :
    Calls Tryd.prog 72 #[.pointer (some ⟨rb, 0, none⟩), .int .u32 a, .int .i64 size, .int .i64 need] w fun e w' => e = .returned (.tuple #[.int .i64 (rAskK ps a size need), .int .i64 (rAsk ps a size need)]) ∧ Gr w w' := by
  obtain ⟨ha1, ha2⟩ := ha
  have hz : rAsk ps a size need = 3 := by unfold rAsk; rw [if_neg h]
  have hk : rAskK ps a size need = 0 := by unfold rAskK; rw [hz]; rfl
  rw [hk, hz]
  clear hk hz
  by_cases hs : size = 1 ∨ size = 2 ∨ size = 4
  · have hm : ¬ a % size = 0 := fun e => h ⟨hs, e⟩
    clear h
    rcases hs with rfl | rfl | rfl
    · exact absurd (by omega) hm
    all_goals
      go_enter Tryd.func72, Tryd.ntmps72
      go_wp2_with fail
      go_returns
      exact ⟨rfl, Gr.refl _⟩
  · have k1 : (size != 1) = true := bne_iff_ne.2 (by omega)
    have k2 : (size != 2) = true := bne_iff_ne.2 (by omega)
    have k4 : (size != 4) = true := bne_iff_ne.2 (by omega)
    clear h hs
    go_enter Tryd.func72, Tryd.ntmps72
    go_wp2_with fail
    go_returns
    exact ⟨rfl, Gr.refl _⟩
theorem rask_c {w : World} {rb : Nat} {v : Value} {ps : List RPg} (c1 : w.cell? ⟨rb, 1, none⟩ = some v) (hp : PRow w v ps) (a size need : Int) (ha : U4 a) :
    Calls Tryd.prog 72 #[.pointer (some ⟨rb, 0, none⟩), .int .u32 a, .int .i64 size, .int .i64 need] w fun e w' => e = .returned (.tuple #[.int .i64 (rAskK ps a size need), .int .i64 (rAsk ps a size need)]) ∧ Gr w w' := by
  by_cases h : (size = 1 ∨ size = 2 ∨ size = 4) ∧ a % size = 0
  · exact rask_in c1 hp a size need ha h.1 h.2
  · exact rask_out a size need ha h
end Go.Proofs.YtbackacbdfgdoaaDoor
namespace Go.Proofs.YtbackacbdfgdoaaDoor
open Go.ChangeShapes Go.WideShapes Go.ChangeAt Go.RowKit
set_option linter.unusedSimpArgs false
set_option linter.unusedVariables false

def RPg.val (p : RPg) (o : Nat) (size : Int) : Int :=
  if size = 1 then p.byt o else if size = 2 then p.byt o + p.byt (o + 1) * 256 else p.byt o + p.byt (o + 1) * 256 + p.byt (o + 2) * 65536 + p.byt (o + 3) * 16777216
def rLoad (ps : List RPg) (a size need : Int) : Int :=
  if rAsk ps a size need = 0 then (match ps[plb ps (a - a % 256)]? with | some p => p.val (a % 256).toNat size | none => 0) else 0
theorem rAsk_0 {ps : List RPg} {a size need : Int} (h : rAsk ps a size need = 0) : (size = 1 ∨ size = 2 ∨ size = 4) ∧ a % size = 0 ∧ phas ps (a - a % 256) = true := by
  unfold rAsk at h
  split at h
  · rename_i hc
    refine ⟨hc.1, hc.2, ?_⟩
    split at h
    · assumption
    · omega
  · omega

theorem ror8_0 {b : Int} (h0 : 0 ≤ b) (h1 : b < 256) : bits .or .u32 0 b = b := by
  rw [bits_join .u32 32 (by decide) (fun n a b => by rw [IntKind.wrap_u32]; omega) 8 0 b (by omega) (by decide) (by decide) h0 (by omega) (by omega)]; omega
theorem ror8 {v b : Int} (v0 : 0 ≤ v) (v1 : v < 16777216) (h0 : 0 ≤ b) (h1 : b < 256) : bits .or .u32 (v * 256 % 4294967296) b = v * 256 + b := by
  have e : v * 256 % 4294967296 = v * 256 := by omega
  rw [e]
  exact bits_join .u32 32 (by decide) (fun n a b => by rw [IntKind.wrap_u32]; omega) 8 _ _ (by omega) (by omega) (by omega) h0 (by omega) (by omega)

set_option maxHeartbeats 3200000 in
set_option maxRecDepth 100000 in
theorem rLoad_c {w : World} {rb : Nat} {v : Value} {ps : List RPg} (c1 : w.cell? ⟨rb, 1, none⟩ = some v) (hp : PRow w v ps) (a size need : Int) (ha : U4 a) :
    Calls Tryd.prog 33 #[.pointer (some ⟨rb, 0, none⟩), .int .u32 a, .int .i64 size, .int .i64 need] w fun e w' => e = .returned (.tuple #[.int .u32 (rLoad ps a size need), .int .i64 (rAsk ps a size need)]) ∧ Gr w w' := by
  have hA := rask_c c1 hp a size need ha
  by_cases h0 : rAsk ps a size need = 0
  · obtain ⟨hs, hm, hh⟩ := rAsk_0 h0
    obtain ⟨x, hx, hb⟩ := phas_some hh
    have hz : rLoad ps a size need = x.val (a % 256).toNat size := by unfold rLoad; rw [if_pos h0, hx]
    have hk : rAskK ps a size need = (plb ps (a - a % 256) : Nat) := by unfold rAskK; rw [if_pos h0]
    rw [hz, h0]
    rw [h0, hk] at hA
    have hl : plb ps (a - a % 256) < ps.length := (List.getElem?_eq_some_iff.1 hx).1
    generalize plb ps (a - a % 256) = k at *
    obtain ⟨q, cap, rfl, hU, hlen, hq⟩ := hp
    obtain ⟨g, rfl, hc⟩ := hq (by omega)
    obtain ⟨d1, d2, d3⟩ := hc k _ hx
    have hlt : (k : Int) < ps.length := by omega
    have hB := (hU x (List.mem_of_getElem? hx)).byt
    clear hc hq hU hz hh hb hx hk h0
    obtain ⟨ha1, ha2⟩ := ha
    obtain ⟨o, ho⟩ : ∃ o : Nat, a % 256 = (o : Int) := ⟨(a % 256).toNat, by omega⟩
    rcases hs with rfl | rfl | rfl
    · have D0 := d3 o (by omega)
      obtain ⟨b0, hb0⟩ : ∃ b, x.byt o = b := ⟨_, rfl⟩
      have B0 := hB o
      rw [hb0] at D0 B0
      obtain ⟨l0, r0⟩ := B0
      have ho2 : (o : Int) + 1 ≤ 256 := by omega
      have HV : Hid _ := hb0
      clear d3 hB
      go_enter Tryd.func33, Tryd.ntmps33
      go_wp2_with fail
      refine hA.mono ?_
      rintro e w1 ⟨rfl, g1⟩
      have c1' := g1.keep c1
      have D0' := g1.keep D0
      clear c1 d1 d2 hA D0 hb0
      go_wp2_with fail
      refine wp_loop_rounds 2 ?_
      iterate 2 (rw [rounds_succ]; go_wp2_with fail)
      go_returns
      refine ⟨ret_ii ?_ rfl, g1⟩
      have hv := HV.out
      rw [ror8_0 l0 r0]
      unfold RPg.val
      rw [if_pos rfl, ← hv]
      congr 1
      omega
    · have D0 := d3 o (by omega)
      obtain ⟨b0, hb0⟩ : ∃ b, x.byt o = b := ⟨_, rfl⟩
      have B0 := hB o
      rw [hb0] at D0 B0
      obtain ⟨l0, r0⟩ := B0
      have D1 := d3 (o + 1) (by omega)
      obtain ⟨b1, hb1⟩ : ∃ b, x.byt (o + 1) = b := ⟨_, rfl⟩
      have B1 := hB (o + 1)
      rw [hb1] at D1 B1
      obtain ⟨l1, r1⟩ := B1
      have ho2 : (o : Int) + 2 ≤ 256 := by omega
      have HV : Hid _ := (And.intro hb0 hb1)
      clear d3 hB
      go_enter Tryd.func33, Tryd.ntmps33
      go_wp2_with fail
      refine hA.mono ?_
      rintro e w1 ⟨rfl, g1⟩
      have c1' := g1.keep c1
      have D0' := g1.keep D0
      have D1' := g1.keep D1
      clear c1 d1 d2 hA D0 D1 hb0 hb1
      go_wp2_with fail
      refine wp_loop_rounds 3 ?_
      iterate 3 (rw [rounds_succ]; go_wp2_with fail)
      go_returns
      refine ⟨ret_ii ?_ rfl, g1⟩
      obtain ⟨v0, v1⟩ := HV.out
      rw [ror8_0 l1 r1, ror8 l1 (by omega) l0 r0]
      unfold RPg.val
      rw [if_neg (by decide), if_pos rfl, show (a % 256).toNat = o by omega, v0, v1]
      omega
    · have D0 := d3 o (by omega)
      obtain ⟨b0, hb0⟩ : ∃ b, x.byt o = b := ⟨_, rfl⟩
      have B0 := hB o
      rw [hb0] at D0 B0
      obtain ⟨l0, r0⟩ := B0
      have D1 := d3 (o + 1) (by omega)
      obtain ⟨b1, hb1⟩ : ∃ b, x.byt (o + 1) = b := ⟨_, rfl⟩
      have B1 := hB (o + 1)
      rw [hb1] at D1 B1
      obtain ⟨l1, r1⟩ := B1
      have D2 := d3 (o + 2) (by omega)
      obtain ⟨b2, hb2⟩ : ∃ b, x.byt (o + 2) = b := ⟨_, rfl⟩
      have B2 := hB (o + 2)
      rw [hb2] at D2 B2
      obtain ⟨l2, r2⟩ := B2
      have D3 := d3 (o + 3) (by omega)
      obtain ⟨b3, hb3⟩ : ∃ b, x.byt (o + 3) = b := ⟨_, rfl⟩
      have B3 := hB (o + 3)
      rw [hb3] at D3 B3
      obtain ⟨l3, r3⟩ := B3
      have ho2 : (o : Int) + 4 ≤ 256 := by omega
      have HV : Hid _ := (And.intro hb0 (And.intro hb1 (And.intro hb2 hb3)))
      clear d3 hB
      go_enter Tryd.func33, Tryd.ntmps33
      go_wp2_with fail
      refine hA.mono ?_
      rintro e w1 ⟨rfl, g1⟩
      have c1' := g1.keep c1
      have D0' := g1.keep D0
      have D1' := g1.keep D1
      have D2' := g1.keep D2
      have D3' := g1.keep D3
      clear c1 d1 d2 hA D0 D1 D2 D3 hb0 hb1 hb2 hb3
      go_wp2_with fail
      refine wp_loop_rounds 5 ?_
      iterate 5 (rw [rounds_succ]; go_wp2_with fail)
      go_returns
      refine ⟨ret_ii ?_ rfl, g1⟩
      obtain ⟨v0, v1, v2, v3⟩ := HV.out
      rw [ror8_0 l3 r3, ror8 l3 (by omega) l2 r2, ror8 (by omega) (by omega) l1 r1, ror8 (by omega) (by omega) l0 r0]
      unfold RPg.val
      rw [if_neg (by decide), if_neg (by decide), show (a % 256).toNat = o by omega, v0, v1, v2, v3]
      omega
  · have hz : rLoad ps a size need = 0 := by unfold rLoad; rw [if_neg h0]
    have hk : rAskK ps a size need = 0 := by unfold rAskK; rw [if_neg h0]
    have hne : (rAsk ps a size need != 0) = true := bne_iff_ne.2 h0
    rw [hz]
    rw [hk] at hA
    generalize rAsk ps a size need = f at *
    clear hz hk
    go_enter Tryd.func33, Tryd.ntmps33
    go_wp2_with fail
    refine hA.mono ?_
    rintro e w1 ⟨rfl, g1⟩
    go_wp2_with fail
    go_returns
    exact ⟨rfl, g1⟩
end Go.Proofs.YtbackacbdfgdoaaDoor
