/- LAYER 9's walks: the reader. -/
import Derived.Test.YtmecompcffphcaaFeeD
import Derived.Test.YtmecompcffphcaaFeeP
import Derived.Test.YtmecompcffphcaaFeeW7
namespace Go.Proofs.Ytmecompcffphcaa
open Go.ChangeShapes Go.WideShapes Go.ChangeAt Go.RowKit
set_option linter.unusedSimpArgs false

/-- A reader: what is left (in none of P's blocks), and whether it has failed. -/
def RdS (P : Nat → Prop) (w : World) (rb : Nat) (L : List Int) (fl : Bool) : Prop := ∃ v, Box w rb [v, .bool fl] ∧ Rd8 w v L ∧ ∀ q n c, v = .slice (some q) n c → 0 < n → ¬ P q.block
set_option maxHeartbeats 2000000 in
set_option maxRecDepth 100000 in
theorem word_c (P : Nat → Prop) (w : World) (rb : Nat) (L : List Int) (fl : Bool) (x0 x1 x2 x3 : Int) (hP : P rb) (h : RdS P w rb (x0 :: x1 :: x2 :: x3 :: L) fl) (b0 : B8 x0) (b1 : B8 x1) (b2 : B8 x2) (b3 : B8 x3) :
    Calls Try.prog 35 #[.pointer (some ⟨rb, 0, none⟩)] w fun e w' => e = .returned (.int .u32 (x0 + x1 * 256 + x2 * 65536 + x3 * 16777216)) ∧ RdS P w' rb L fl ∧ Bq rb w w' := by
  obtain ⟨v, hb, hR, hF⟩ := h
  obtain ⟨q, cap, rfl, hc1, hc2, hcell⟩ := hR.open
  obtain ⟨b', o, rfl, hl, hc⟩ := hcell (by simp)
  simp only [List.length_cons] at hc1 hb hF
  have c0 := hc 0 _ rfl; have c1 := hc 1 _ rfl; have c2 := hc 2 _ rfl; have c3 := hc 3 _ rfl
  have hnP : ¬ P b' := hF ⟨b', o, none⟩ _ _ rfl (by omega)
  have hne : b' ≠ rb := fun e => hnP (e ▸ hP)
  have a0 := hb.c 0 _ rfl; have f0 := hb.f 0 (by simp)
  obtain ⟨n, hn⟩ : ∃ n, L.length + 1 + 1 + 1 + 1 = n := ⟨_, rfl⟩
  rw [hn] at a0 hc1
  have hn4 : ¬ ((n : Int) < 4) := by omega
  have hn4' : (4 : Int) ≤ (n : Int) := by omega
  have hnc : (4 : Int) ≤ (cap : Int) := by omega
  obtain ⟨p0, p1⟩ := b0; obtain ⟨r0, r1⟩ := b1; obtain ⟨s0, s1⟩ := b2; obtain ⟨t0, t1⟩ := b3
  obtain ⟨q', hsl, hq'⟩ := slice_from (some ⟨b', o, none⟩) n cap 4 (by omega) hc1
  have hsl4 : ∀ w, (Instr.slice 22 (.slice (some ⟨b', o, none⟩) n cap) (some (.int .i64 4)) none none).run Try.prog w = .ok (.slice q' (n - 4) (cap - 4)) w := hsl
  have hn0 : (0 : Int) < (n : Int) := by omega
  have hn1 : (1 : Int) < (n : Int) := by omega
  have hn2 : (2 : Int) < (n : Int) := by omega
  have hn3 : (3 : Int) < (n : Int) := by omega
  have hn0' : 0 < n := by omega
  have hn1' : 1 < n := by omega
  have hn2' : 2 < n := by omega
  have hn3' : 3 < n := by omega
  have hQ : Bq rb w (w.setCell ⟨rb, 0, none⟩ (.slice q' (n - 4) (cap - 4))) := (Bq.refl _ _).set 0 _
  have k0 := hQ.keep c0 hne; have k1 := hQ.keep c1 hne; have k2 := hQ.keep c2 hne; have k3 := hQ.keep c3 hne
  rw [Nat.add_zero] at k0 c0
  have hbx := hb.set 0 (by simp) (.slice q' (n - 4) (cap - 4))
  have hRd : Rd8 w (.slice q' (n - 4) (cap - 4)) L := by
    refine ⟨q', cap - 4, by rw [← hn]; simp, by omega, by omega, by simp [ints8], fun h0 => ?_⟩
    have e := hq' b' o rfl (by omega)
    subst e
    refine ⟨b', o + 4, rfl, hl, fun j u hu => ?_⟩
    simp only [ints8, List.getElem?_map, Option.map_eq_some_iff] at hu
    obtain ⟨y, hy, rfl⟩ := hu
    have := hc (j + 4) y (by simpa using hy)
    rw [show o + 4 + j = o + (j + 4) by omega]
    exact this
  have hFar : ∀ q k c, Value.slice q' (n - 4) (cap - 4) = .slice (some q) k c → 0 < k → ¬ P q.block := fun q k c e hk => by
    simp at e
    obtain ⟨rfl, rfl, rfl⟩ := e
    have e2 := hq' b' o rfl (by omega)
    simp at e2
    rw [e2]; exact hnP
  have HFin : Hid (RdS P (w.setCell ⟨rb, 0, none⟩ (.slice q' (n - 4) (cap - 4))).drew rb L fl ∧ Bq rb w (w.setCell ⟨rb, 0, none⟩ (.slice q' (n - 4) (cap - 4))).drew) :=
    ⟨⟨_, hbx.bw (Bw.refl _).drew, RdR.bw (RdR.q hRd hQ (fun q k c e hk x => hFar q k c e hk (x ▸ hP))) (Bw.refl _).drew, hFar⟩, hQ.bw (Bw.refl _).drew⟩
  clear hc hcell hR hF hb hsl hq' hQ hbx hRd hFar
  go_enter Try.func35, Try.ntmps35
  go_wp2_with fail
  have HE : Hid (bits .or .u32 (bits .or .u32 (bits .or .u32 x0 (x1 * 256)) (x2 * 65536)) (x3 * 16777216) = x0 + x1 * 256 + x2 * 65536 + x3 * 16777216) := by
    show _ = _
    rw [u32_or8 x0 (x1 * 256) (by omega) (by omega) (by omega) (by omega) (by omega), u32_or16 (x0 + x1 * 256) (x2 * 65536) (by omega) (by omega) (by omega) (by omega) (by omega), u32_or24 (x0 + x1 * 256 + x2 * 65536) (x3 * 16777216) (by omega) (by omega) (by omega) (by omega) (by omega)]
  go_region
  go_wp2_with fail
  go_returns
  exact ⟨congrArg (fun x => Ending.returned (.int .u32 x)) HE, HFin⟩
set_option maxHeartbeats 1000000 in
set_option maxRecDepth 100000 in
theorem wordF_c (P : Nat → Prop) (w : World) (rb : Nat) (L : List Int) (fl : Bool) (h : RdS P w rb L fl) (h4 : L.length < 4) : Calls Try.prog 35 #[.pointer (some ⟨rb, 0, none⟩)] w fun e w' => e = .returned (.int .u32 0) ∧ RdS P w' rb [] true ∧ Bq rb w w' := by
  obtain ⟨v, hb, hR, hF⟩ := h
  obtain ⟨q, cap, rfl, -⟩ := hR.open
  have b0 := hb.c 0 _ rfl
  have h4i : decide ((L.length : Int) < 4) = true := decide_eq_true (by omega)
  have hf := failD_c w rb _ _ hb
  clear hR hF hb
  go_enter Try.func35, Try.ntmps35
  go_wp2_with (go_at_call 40; refine hf.mono ?_; rintro e w2 ⟨rfl, x2, q2⟩)
  go_returns
  exact ⟨rfl, ⟨_, x2, RdR.nil _ _, fun _ _ _ e => by simp at e⟩, q2⟩
/-- What a word, a number, a text gives: it, what is left, whether the reader has failed. -/
def Fee.rw (L : List Int) (fl : Bool) : Int × List Int × Bool := match L with
  | x0 :: x1 :: x2 :: x3 :: r => (x0 + x1 * 256 + x2 * 65536 + x3 * 16777216, r, fl)
  | _ => (0, [], true)
def Fee.rn (m : Int) (L : List Int) (fl : Bool) : Int × List Int × Bool := if m < (Fee.rw L fl).1 then (0, [], true) else Fee.rw L fl
def Fee.rt (m : Int) (L : List Int) (fl : Bool) : List Int × List Int × Bool :=
  if (Fee.rn m L fl).2.1.length < (Fee.rn m L fl).1.toNat then ([], [], true) else ((Fee.rn m L fl).2.1.take (Fee.rn m L fl).1.toNat, (Fee.rn m L fl).2.1.drop (Fee.rn m L fl).1.toNat, (Fee.rn m L fl).2.2)
theorem Fee.rw_bd {L : List Int} (fl : Bool) (h : B8s L) : 0 ≤ (Fee.rw L fl).1 ∧ (Fee.rw L fl).1 < 4294967296 ∧ B8s (Fee.rw L fl).2.1 := by
  unfold Fee.rw
  split
  · rename_i x0 x1 x2 x3 r
    have a0 := h x0 (by simp); have a1 := h x1 (by simp); have a2 := h x2 (by simp); have a3 := h x3 (by simp)
    unfold B8 at a0 a1 a2 a3
    exact ⟨by dsimp only; omega, by dsimp only; omega, fun y hy => h y (by simp [hy])⟩
  · exact ⟨by simp, by simp, fun y hy => by simp at hy⟩
theorem Fee.rn_bd {m : Int} {L : List Int} (fl : Bool) (h : B8s L) : 0 ≤ (Fee.rn m L fl).1 ∧ (0 ≤ m → (Fee.rn m L fl).1 ≤ m) ∧ B8s (Fee.rn m L fl).2.1 := by
  have h1 := Fee.rw_bd fl h
  unfold Fee.rn
  split
  · exact ⟨by simp, fun h => h, fun y hy => by simp at hy⟩
  · exact ⟨h1.1, fun _ => by omega, h1.2.2⟩
theorem wordA_c (P : Nat → Prop) (w : World) (rb : Nat) (L : List Int) (fl : Bool) (hP : P rb) (h : RdS P w rb L fl) (h8 : B8s L) : Calls Try.prog 35 #[.pointer (some ⟨rb, 0, none⟩)] w fun e w' => e = .returned (.int .u32 (Fee.rw L fl).1) ∧ RdS P w' rb (Fee.rw L fl).2.1 (Fee.rw L fl).2.2 ∧ Bq rb w w' := by
  match L, h, h8 with
  | x0 :: x1 :: x2 :: x3 :: r, h, h8 => exact word_c P w rb r fl x0 x1 x2 x3 hP h (h8 _ (by simp)) (h8 _ (by simp)) (h8 _ (by simp)) (h8 _ (by simp))
  | [], h, _ => exact wordF_c P w rb _ fl h (by simp)
  | [_], h, _ => exact wordF_c P w rb _ fl h (by simp)
  | [_, _], h, _ => exact wordF_c P w rb _ fl h (by simp)
  | [_, _, _], h, _ => exact wordF_c P w rb _ fl h (by simp)
set_option maxHeartbeats 1000000 in
set_option maxRecDepth 100000 in
theorem numA_c (P : Nat → Prop) (w : World) (rb : Nat) (L : List Int) (fl : Bool) (m : Int) (hP : P rb) (h : RdS P w rb L fl) (h8 : B8s L) : Calls Try.prog 33 #[.pointer (some ⟨rb, 0, none⟩), .int .u32 m] w fun e w' => e = .returned (.int .i64 (Fee.rn m L fl).1) ∧ RdS P w' rb (Fee.rn m L fl).2.1 (Fee.rn m L fl).2.2 ∧ Bq rb w w' := by
  have hW := wordA_c P w rb L fl hP h h8
  obtain ⟨b0, b1, -⟩ := Fee.rw_bd fl h8
  unfold Fee.rn
  generalize Fee.rw L fl = R at *
  obtain ⟨v, r, f⟩ := R
  dsimp only at hW b0 b1 ⊢
  clear h h8
  by_cases hm : m < v
  · rw [if_pos hm]
    go_enter Try.func33, Try.ntmps33
    go_wp2_with fail
    refine hW.mono ?_
    rintro e w2 ⟨rfl, ⟨v2, x2, _, _⟩, q2⟩
    have hf := failD_c w2 rb _ _ x2
    clear x2
    go_wp2_with (go_at_call 40; refine hf.mono ?_; rintro e w3 ⟨rfl, x3, q3⟩)
    go_returns
    exact ⟨rfl, ⟨_, x3, RdR.nil _ _, fun _ _ _ e => by simp at e⟩, q2.trans q3⟩
  · rw [if_neg hm]
    have hvw : IntKind.i64.wrap v = v := by rw [IntKind.wrap_i64]; omega
    go_enter Try.func33, Try.ntmps33
    go_wp2_with fail
    refine hW.mono ?_
    rintro e w2 ⟨rfl, x2, q2⟩
    go_wp2_with fail
    go_returns
    exact ⟨rfl, x2, q2⟩
theorem Rd8.take {w : World} {q : Option Addr} {cap : Nat} {L : List Int} (h : Rd8 w (.slice q L.length cap) L) {t : Nat} (ht : t ≤ L.length) : Rd8 w (.slice q t cap) (L.take t) := by
  obtain ⟨q', cap', e, h1, h2, hc⟩ := h.open
  simp at e
  obtain ⟨rfl, rfl⟩ := e
  refine ⟨q, cap, by rw [List.length_take, Nat.min_eq_left ht], by rw [List.length_take]; omega, h2, by simp [ints8], fun h0 => ?_⟩
  rw [List.length_take] at h0
  obtain ⟨b, o, e1, e2, e3⟩ := hc (by omega)
  refine ⟨b, o, e1, e2, fun j u hu => ?_⟩
  simp only [ints8, List.getElem?_map, Option.map_eq_some_iff] at hu
  obtain ⟨y, hy, rfl⟩ := hu
  rw [List.getElem?_take] at hy
  split at hy
  · exact e3 j y hy
  · simp at hy
theorem Rd8.drop {w : World} {q q' : Option Addr} {cap t : Nat} {L : List Int} (h : Rd8 w (.slice q L.length cap) L) (ht : t ≤ L.length) (hq : ∀ b' o, q = some ⟨b', o, none⟩ → t < L.length → q' = some ⟨b', o + t, none⟩) : Rd8 w (.slice q' (L.length - t) (cap - t)) (L.drop t) := by
  obtain ⟨q2, cap2, e, h1, h2, hc⟩ := h.open
  simp at e
  obtain ⟨rfl, rfl⟩ := e
  refine ⟨q', cap - t, by rw [List.length_drop], by rw [List.length_drop]; omega, by omega, by simp [ints8], fun h0 => ?_⟩
  rw [List.length_drop] at h0
  obtain ⟨b, o, e1, e2, e3⟩ := hc (by omega)
  refine ⟨b, o + t, hq b o e1 (by omega), e2, fun j u hu => ?_⟩
  simp only [ints8, List.getElem?_map, Option.map_eq_some_iff] at hu
  obtain ⟨y, hy, rfl⟩ := hu
  rw [List.getElem?_drop] at hy
  rw [show o + t + j = o + (t + j) by omega]
  exact e3 _ y hy
end Go.Proofs.Ytmecompcffphcaa
