/- Dirty: how many pages are not clean (where they are at most twelve). -/
import Derived.Test.YtgebmedkhakhfaaShSort
namespace Go.Proofs.Ytgebmedkhakhfaa
open Go.ChangeShapes Go.WideShapes Go.ChangeAt Go.RowKit Go.Shelf
set_option linter.unusedSimpArgs false
set_option linter.unusedVariables false

theorem nums_row {w : World} {B n : Nat} {v : Value} {ss : List Int} (hn : ss.length = n) (hs : ∀ x ∈ ss, U4 x) (h : w.ownsRow B 33 1 v n (ss.map (Value.int .u32))) : Nums w B v n := by
  rcases h.2 with ⟨rfl, h0⟩ | ⟨g, cap, cur, rfl, hb, hg, h1, h2, h3, h4⟩
  · subst h0; exact ⟨none, 0, rfl, .inl rfl⟩
  · refine ⟨_, cap, rfl, .inr ⟨g, rfl, hb, cur, hg, fun i hi => ?_⟩⟩
    refine ⟨ss[i]'(by omega), hs _ (List.getElem_mem _), ?_⟩
    have : cur.toList[i]? = (ss.map (Value.int .u32))[i]? := by rw [← h4, List.getElem?_take_of_lt (by omega)]
    rw [Array.getElem?_toList] at this
    rw [this, List.getElem?_map, List.getElem?_eq_getElem (by omega)]
    rfl
section
variable {w : World} {sb : Nat} {F : Nat → Prop} {N : Nat} {S : SS} {L : SLay}
theorem keysOf_len {D : DataW Unit} {ss ks : List Int} {bk : Int → Option Nat} (h : KeysOf D ss) (hnd : ks.Nodup) (hk : ∀ k ∈ ks, U4 k) (hm : ∀ k, k ∈ ks ↔ (bk k).isSome) (hD : ∀ k, U4 k → Maps.has D (.int .u32 k) = (bk k).isSome) : ss.length = ks.length := by
  refine ((List.perm_ext_iff_of_nodup h.1 hnd).2 (fun k => ?_)).length_eq
  constructor
  · intro x
    have u := h.2.1 k x
    rw [hm, ← hD k u]; exact (h.2.2 k u).1 x
  · intro x
    have u := hk k x
    rw [h.2.2 k u, hD k u]; exact (hm k).1 x
theorem Sorted_c {Bm b nn c : Nat} {bk : Int → Option Nat} {ks : List Int} (hBm : Bm < w.heap.size) (hm : w.cell? ⟨Bm, 0, none⟩ = some (.map (some b))) (hS : SMap w b nn bk c) (hnd : ks.Nodup) (hk : ∀ k ∈ ks, U4 k) (hmem : ∀ k, k ∈ ks ↔ (bk k).isSome) (hc : c = ks.length) (h12 : ks.length ≤ 12) :
    Calls Try.prog 84 #[.func (.func 104) #[] #[.pointer (some ⟨Bm, 0, none⟩)]] w fun e w' => ∃ v, e = .returned v ∧ Nums w' w.heap.size v ks.length ∧ Below w.heap.size w w' := by
  obtain ⟨D, hD, hr, hsz⟩ := hS
  have HC := callsIn_wide.1 (collect_in 4 (by omega) Bm b nn D w hBm hm hD (by omega))
  go_enter Try.func84, Try.ntmps84
  go_wp2_with fail
  refine HC.mono ?_
  rintro e w1 ⟨v, ss, rfl, hS, hrow, hb⟩
  have hl := keysOf_len hS hnd hk hmem (fun k u => (hr k u).1)
  rw [hl] at hrow
  have hN := nums_row hl hS.2.1 hrow
  obtain ⟨q, cap, rfl, _⟩ := id hN
  go_wp2_with fail
  refine (Sort_c hN h12).mono ?_
  rintro e w2 ⟨rfl, hN2, hb2⟩
  go_wp2_with fail
  go_returns
  exact ⟨_, rfl, hN2, hb.trans hb2⟩
set_option maxRecDepth 100000 in
set_option maxHeartbeats 1000000 in
theorem Dirty_c (h : ShL w sb F N S L) (h12 : L.ks.length ≤ 12) :
    Calls Try.prog 45 #[.pointer (some ⟨sb, 0, none⟩)] w fun e w' => ∃ q cap, e = .returned (.slice q L.ks.length cap) ∧ Below w.heap.size w w' := by
  have hc1 := h.c1
  have HK := callsIn_wide.1 (keys_in 4 L.bp w)
  have g1 : Below w.heap.size w (w.alloc (.cells #[.map (some L.bp)] 123)) := bl_alloc (Below.refl _ _) _
  have HS := Sorted_c (w := w.alloc (.cells #[.map (some L.bp)] 123)) (Bm := w.heap.size) (by simp) (Boxed.new w _ _).cell (h.bl g1).pm h.nd (fun k hk => by have := h.ks_rng hk; unfold U4; omega) h.mem rfl h12
  go_enter Try.func45, Try.ntmps45
  go_wp2_with fail
  refine HK.mono ?_
  rintro e w1 ⟨rfl, hw⟩
  rw [hw]
  go_wp2_with fail
  refine HS.mono ?_
  rintro e w2 ⟨v, rfl, hN, hb⟩
  obtain ⟨q, cap, rfl, hq⟩ := hN
  have g2 := bl_trans g1 hb
  generalize hn : L.ks.length = n at *
  go_wp2_with fail
  rcases hq with h0 | ⟨g, rfl, hg, hR⟩
  · subst h0
    refine wp_loop_rounds 1 ?_
    rw [rounds_succ]
    go_wp2_with fail
    go_returns
    rw [hn]
    exact ⟨_, _, rfl, g2⟩
  · go_loopw [13] (fun x wr => ∃ i : Nat, i ≤ n ∧ x = .int .i64 i ∧ Row32 wr g n ∧ Below w.heap.size w wr) (fun x _ => n - (intOf x).toNat)
    case atStart => exact ⟨0, Nat.zero_le _, rfl, hR, g2⟩
    case round =>
      clear hR
      obtain ⟨i, hi, rfl, hR, gw⟩ := hrel
      by_cases hlt : (i : Int) < n
      · have hin : i < n := by omega
        obtain ⟨x, ux, cx⟩ := hR.at hin
        have fx := hR.fz i
        have hux : U4 (x * 256 % 4294967296) := by unfold U4; omega
        have hsz : w.heap.size ≤ g := by have := g1.size; omega
        go_wp2_with fail
        refine ⟨⟨i + 1, by omega, by simp, hR.set _ hux, gw.setCell (p := ⟨g, i, none⟩) hsz _⟩, by simp only [intOf]; omega⟩
      · obtain rfl : i = n := by omega
        go_wp2_with fail
        go_returns
        exact ⟨⟨_, _, rfl⟩, gw⟩
end
end Go.Proofs.Ytgebmedkhakhfaa
