/- LAYER 7's law PolicyBack. -/
import Derived.Test.YtkffkmiegmaoiaaPolLawSays
import Derived.Test.YtkffkmiegmaoiaaPolW10
namespace Go.Proofs.Ytkffkmiegmaoiaa
open Go.ChangeShapes Go.WideShapes Go.ChangeAt Go.RowKit

theorem Pol.put_b8 {p : Pol.Plc} (hw : (∀ s ∈ p.srcs, Pol.SWf s) ∧ ∀ s ∈ p.snks, Pol.KWf s) (hl : p.srcs.length ≤ 255 ∧ p.snks.length ≤ 255) : B8s (Pol.put p) := by
  intro x hx
  unfold Pol.put Pol.head at hx
  simp only [List.mem_append, List.mem_flatMap, List.mem_cons, List.not_mem_nil, or_false] at hx
  unfold B8
  rcases hx with ((h | ⟨s, hs, h⟩) | h) | ⟨s, hs, h⟩
  · rcases h with rfl | rfl | rfl | h | rfl
    · omega
    · omega
    · omega
    · split at h <;> omega
    · omega
  · obtain ⟨k0, k1, a0, a1, l0, l1, b0, b1⟩ := hw.1 s hs
    simp only [Pol.srcB, Pol.le4, List.mem_append, List.mem_cons, List.not_mem_nil, or_false] at h
    omega
  · omega
  · obtain ⟨k0, k1, a0, a1, b0, b1⟩ := hw.2 s hs
    simp only [Pol.snkB, List.mem_cons, List.not_mem_nil, or_false] at h
    omega
set_option maxHeartbeats 8000000 in
set_option maxRecDepth 100000 in
theorem PolicyBack_w (v v' : Value) (cut : Int) (w : World) (hv : PolArg w v) (hv' : PolArg w v') (hc0 : -9223372036854775808 ≤ cut) (hc1 : cut ≤ 9223372036854775807) :
    Calls Try.prog 6 #[v, v', .int .i64 cut] w fun e w' => e = .returned (.bool true) ∧ Bw w w' := by
  obtain ⟨p, hp⟩ := hv
  obtain ⟨q, hq⟩ := hv'
  have hLp := fun w' (g : Bw w w') => long_c v p w' (hp.bw g)
  have hLq := fun w' (g : Bw w w') => long_c v' q w' (hq.bw g)
  have hPp := fun w' (g : Bw w w') h => Put_c v p w' (hp.bw g) h
  have hPq := fun w' (g : Bw w w') h => Put_c v' q w' (hq.bw g) h
  have hPo := fun w' (g : Bw w w') h => pol_c v p w' (hp.bw g) h
  have hQo := fun w' (g : Bw w w') h => pol_c v' q w' (hq.bw g) h
  obtain ⟨v1, v2, rfl, hS, hK⟩ := hp
  obtain ⟨v3, v4, rfl, hS', hK'⟩ := hq
  have hxA := PBox.new w p.ptr v1 v2 26
  have hxB := PBox.new (w.alloc (.cells #[.bool p.ptr, v1, v2] 26)) q.ptr v3 v4 26
  simp only [World.size_alloc] at hxB
  go_enter Try.func6, Try.ntmps6
  go_wp2_with fail
  refine (awake7_c _).mono ?_
  rintro e w1 ⟨rfl, hb1⟩
  obtain ⟨hbx, hx, hy⟩ : Bw w w1 ∧ PBox w1 w.heap.size p.ptr v1 v2 ∧ PBox w1 (w.heap.size + 1) q.ptr v3 v4 := ⟨(((Bw.refl w).alloc _).alloc _).trans hb1, (hxA.bw ((Bw.refl _).alloc _)).bw hb1, hxB.bw hb1⟩
  clear hb1 hxA hxB
  have x0 := hx.c0; have x1 := hx.c1; have x2 := hx.c2; have y0 := hy.c0; have y1 := hy.c1; have y2 := hy.c2
  by_cases hlg : Pol.long p = true
  · have hL := hLp _ hbx
    rw [hlg] at hL
    go_wp2_with fail
    refine hL.mono ?_
    rintro e w2 ⟨rfl, hb2⟩
    go_wp2_with fail
    go_returns
    exact ⟨rfl, hbx.trans hb2⟩
  have hL := hLp _ hbx
  rw [Bool.eq_false_iff.2 hlg] at hL
  have hll := Pol.long_no hlg
  clear hLp hlg
  go_wp2_with fail
  refine hL.mono ?_
  rintro e w2 ⟨rfl, hb2⟩
  clear hL x0 x1 x2 y0 y1 y2
  replace hbx := hbx.trans hb2
  replace hx := hx.bw hb2
  replace hy := hy.bw hb2
  have x0 := hx.c0; have x1 := hx.c1; have x2 := hx.c2; have y0 := hy.c0; have y1 := hy.c1; have y2 := hy.c2
  by_cases hlg : Pol.long q = true
  · have hL := hLq _ hbx
    rw [hlg] at hL
    go_wp2_with fail
    refine hL.mono ?_
    rintro e w3 ⟨rfl, hb3⟩
    go_wp2_with fail
    go_returns
    exact ⟨rfl, hbx.trans hb3⟩
  have hL := hLq _ hbx
  rw [Bool.eq_false_iff.2 hlg] at hL
  have hlq := Pol.long_no hlg
  clear hLq hlg
  go_wp2_with fail
  refine hL.mono ?_
  rintro e w3 ⟨rfl, hb3⟩
  clear hL x0 x1 x2 y0 y1 y2
  replace hbx := hbx.trans hb3
  replace hx := hx.bw hb3
  replace hy := hy.bw hb3
  have x0 := hx.c0; have x1 := hx.c1; have x2 := hx.c2
  go_wp2_with fail
  refine (hPp _ hbx ⟨by omega, by omega⟩).mono ?_
  rintro e w4 ⟨ua, rfl, hoa, hb4⟩
  clear x0 x1 x2
  replace hbx := hbx.trans hb4
  replace hx := hx.bw hb4
  replace hy := hy.bw hb4
  have y0 := hy.c0; have y1 := hy.c1; have y2 := hy.c2
  by_cases hop : Pol.ok p = true
  rotate_left
  · rw [if_neg hop]
    go_wp2_with fail
    refine (hPq _ hbx ⟨by omega, by omega⟩).mono ?_
    rintro e w5 ⟨ub, rfl, hob, hb5⟩
    generalize (if Pol.ok q = true then (0 : Int) else 1) = E2
    go_wp2_with fail
    go_returns
    exact ⟨rfl, hbx.trans hb5⟩
  rw [if_pos hop] at hoa ⊢
  go_wp2_with fail
  refine (hPq _ hbx ⟨by omega, by omega⟩).mono ?_
  rintro e w5 ⟨ub, rfl, hob, hb5⟩
  clear y0 y1 y2 hPp hPq
  replace hbx := hbx.trans hb5
  replace hx := hx.bw hb5
  replace hy := hy.bw hb5
  replace hoa := hoa.bw hb5
  by_cases hoq : Pol.ok q = true
  rotate_left
  · rw [if_neg hoq]
    go_wp2_with fail
    go_returns
    exact ⟨rfl, hbx⟩
  rw [if_pos hoq] at hob ⊢
  have hb8 := Pol.put_b8 (p := p) ⟨hS.2, hK.2⟩ ⟨by omega, by omega⟩
  have hb8q := Pol.put_b8 (p := q) ⟨hS'.2, hK'.2⟩ ⟨by omega, by omega⟩
  have hG := Get_c ua (Pol.put p) w5 hoa.rd hb8 (by rw [Pol.put_len]; omega)
  unfold GetPost at hG
  rw [if_pos ((Pol.isPb_iff _).2 (Pol.isP_put hop)), Pol.get_put hop] at hG
  go_wp2_with fail
  refine hG.mono ?_
  rintro e w6 ⟨ur, rfl, hur, hb6⟩
  clear hG
  replace hbx := hbx.trans hb6
  replace hx := hx.bw hb6
  replace hy := hy.bw hb6
  replace hoa := hoa.bw hb6
  replace hob := hob.bw hb6
  obtain ⟨r1, r2, rfl, hRS, hRK⟩ := hur
  obtain ⟨qa, ca, rfl, -⟩ := hRS.open
  obtain ⟨qb, cb, rfl, -⟩ := hRK.open
  have hpl := Pol.put_len p
  have hqlen := Pol.put_len q
  obtain ⟨gA, cpA, rfl, hgA1, hgA2, hgA3, hgA4, hgA5, -⟩ := hoa.form (by omega)
  obtain ⟨gB, cpB, rfl, -⟩ := hob.form (by omega)
  have hip : IsPol w6 (.agg #[.bool p.ptr, v1, v2]) p := ⟨_, _, rfl, hS.bw hbx, hK.bw hbx⟩
  have hiq : IsPol w6 (.agg #[.bool q.ptr, v3, v4]) q := ⟨_, _, rfl, hS'.bw hbx, hK'.bw hbx⟩
  have hir : IsPol w6 (.agg #[.bool p.ptr, .slice qa p.srcs.length ca, .slice qb p.snks.length cb]) p := ⟨_, _, rfl, hRS, hRK⟩
  have HPl : Hid _ := hpl
  clear hS hK hS' hK' hRS hRK hPo hQo hpl hqlen
  go_wp2_with fail
  obtain ⟨w7, hw7, hb7, hz⟩ : ∃ w7, w6.alloc (.cells #[.bool p.ptr, .slice qa p.srcs.length ca, .slice qb p.snks.length cb] 26) = w7 ∧ Bw w6 w7 ∧ PBox w7 w6.heap.size p.ptr (.slice qa p.srcs.length ca) (.slice qb p.snks.length cb) := ⟨_, rfl, (Bw.refl w6).alloc _, PBox.new w6 _ _ _ _⟩
  rw [hw7]
  replace hbx := hbx.trans hb7
  replace hx := hx.bw hb7
  replace hy := hy.bw hb7
  replace hip := hip.bw hb7
  replace hiq := hiq.bw hb7
  replace hir := hir.bw hb7
  have hAny : ∀ X, Bw w7 X → ∀ u x, IsPol w7 u x → x.srcs.length ≤ 1000 ∧ x.snks.length ≤ 1000 → Calls Try.prog 18 #[u] X fun e w' => ∃ u', e = .returned u' ∧ IsPol w' u' x ∧ Bw X w' := fun X g u x hi hl => pol_c u x X (hi.bw g) hl
  have hSt : ∃ SA SB, strOfNums (Pol.put p) = SA ∧ strOfNums (Pol.put q) = SB ∧ (SA.toList = SB.toList ↔ p = q) := ⟨_, _, rfl, rfl, by
    rw [strOf_list, strOf_list, strOf_map hb8 hb8q, Pol.put_inj hop hoq]⟩
  obtain ⟨SA, SB, hSA, hSB, hAB⟩ := hSt
  have hHold : ∀ wr, Bw w7 wr → (wr.cell? ⟨w.heap.size, 0, none⟩ = some (.bool p.ptr) ∧ wr.cell? ⟨w.heap.size, 1, none⟩ = some v1 ∧ wr.cell? ⟨w.heap.size, 2, none⟩ = some v2 ∧ wr.cell? ⟨w.heap.size + 1, 0, none⟩ = some (.bool q.ptr) ∧ wr.cell? ⟨w.heap.size + 1, 1, none⟩ = some v3 ∧ wr.cell? ⟨w.heap.size + 1, 2, none⟩ = some v4 ∧ wr.cell? ⟨w6.heap.size, 0, none⟩ = some (.bool p.ptr) ∧ wr.cell? ⟨w6.heap.size, 1, none⟩ = some (.slice qa p.srcs.length ca) ∧ wr.cell? ⟨w6.heap.size, 2, none⟩ = some (.slice qb p.snks.length cb) ∧ (convert 30 9 (.slice (some ⟨gA, 0, none⟩) (Pol.put p).length cpA)).run Try.prog wr = .ok (.string SA) wr ∧ (convert 30 9 (.slice (some ⟨gB, 0, none⟩) (Pol.put q).length cpB)).run Try.prog wr = .ok (.string SB) wr) := fun wr g => ⟨g.keep hx.c0, g.keep hx.c1, g.keep hx.c2, g.keep hy.c0, g.keep hy.c1, g.keep hy.c2, g.keep hz.c0, g.keep hz.c1, g.keep hz.c2, hSA ▸ conv8 ((hoa.bw hb7).bw g), hSB ▸ conv8 ((hob.bw hb7).bw g)⟩
  have hcA := fun wr (g : Bw w7 wr) => (hHold wr g).2.2.2.2.2.2.2.2.2.1
  have hcB := fun wr (g : Bw w7 wr) => (hHold wr g).2.2.2.2.2.2.2.2.2.2
  have hB : Bw w7 w7.drew := (Bw.refl w7).drew
  have hEQ : ∃ EB : Bool, (SA.toList == SB.toList) = EB ∧ (EB = true ↔ p = q) := ⟨_, rfl, by rw [← hAB]; simp⟩
  obtain ⟨EB, hEB, hEB2⟩ := hEQ
  have hEB3 : decide (SA.toList = SB.toList) = EB := by rw [← hEB]; by_cases h : SA.toList = SB.toList <;> simp [h]
  have hiA := hoa.bw hb7
  have hc1' := hcA _ hB; have hc2' := hcB _ hB
  clear hw7 hx hy hz hAB hoa hob hSA hSB hb8q
  go_region_held3 (fun wr => wr.cell? ⟨w.heap.size, 0, none⟩ = some (.bool p.ptr) ∧ wr.cell? ⟨w.heap.size, 1, none⟩ = some v1 ∧ wr.cell? ⟨w.heap.size, 2, none⟩ = some v2 ∧ wr.cell? ⟨w.heap.size + 1, 0, none⟩ = some (.bool q.ptr) ∧ wr.cell? ⟨w.heap.size + 1, 1, none⟩ = some v3 ∧ wr.cell? ⟨w.heap.size + 1, 2, none⟩ = some v4 ∧ wr.cell? ⟨w6.heap.size, 0, none⟩ = some (.bool p.ptr) ∧ wr.cell? ⟨w6.heap.size, 1, none⟩ = some (.slice qa p.srcs.length ca) ∧ wr.cell? ⟨w6.heap.size, 2, none⟩ = some (.slice qb p.snks.length cb) ∧ (convert 30 9 (.slice (some ⟨gA, 0, none⟩) (Pol.put p).length cpA)).run Try.prog wr = .ok (.string SA) wr ∧ (convert 30 9 (.slice (some ⟨gB, 0, none⟩) (Pol.put q).length cpB)).run Try.prog wr = .ok (.string SB) wr)
    (exact hHold _ hB)
    (first
      | (go_at_call 18; refine (hAny _ hB _ _ (by first | exact hir | exact hip | exact hiq) ⟨by omega, by omega⟩).mono ?_; rintro e w8 ⟨u, rfl, hu, h2⟩; replace hB := hB.trans h2; (try (replace hcur := IsPol.bw hcur h2; have hprev := hcur; clear hcur)); have hcur := hu; clear hu h2 hc1' hc2'; have hc1' := hcA _ hB; have hc2' := hcB _ hB)
      | (go_at_call 19; refine (samePolicy_c _ _ _ _ _ hprev hcur).mono ?_; rintro e w8 ⟨r, rfl, hr, h2⟩; replace hB := hB.trans h2; clear hprev hcur h2 hc1' hc2'; have hc1' := hcA _ hB; have hc2' := hcB _ hB; (first | (obtain rfl : r = true := hr.2 rfl) | (obtain rfl : r = EB := by rw [Bool.eq_iff_iff, hr, hEB2])); clear hr))
  have hfin := hbx.trans hB
  by_cases hc : 0 ≤ cut ∧ cut < ((Pol.put p).length : Int)
  rotate_left
  · obtain h | h : cut < 0 ∨ (0 ≤ cut ∧ ((Pol.put p).length : Int) ≤ cut) := by omega
    · go_wp2_with fail
      go_returns
      exact ⟨rfl, hfin⟩
    · obtain ⟨h, h'⟩ := h
      go_wp2_with fail
      go_returns
      exact ⟨rfl, hfin⟩
  obtain ⟨h0, h1⟩ := hc
  obtain ⟨n, rfl⟩ := Int.eq_ofNat_of_zero_le h0
  have hn : n < (Pol.put p).length := by omega
  have hRd : Rd8 w8 (.slice (some ⟨gA, 0, none⟩) n cpA) ((Pol.put p).take n) := by
    have hl : ((Pol.put p).take n).length = n := by rw [List.length_take]; omega
    refine ⟨_, cpA, by rw [hl], by omega, hgA4, by simp [ints8], fun _ => ⟨gA, 0, rfl, ?_, fun j u hu => ?_⟩⟩
    · exact Nat.lt_of_lt_of_le hgA2 (hb7.trans hB).size
    · simp only [ints8, List.getElem?_map, Option.map_eq_some_iff] at hu
      obtain ⟨y, hy, rfl⟩ := hu
      rw [List.getElem?_take] at hy
      split at hy
      · rw [Nat.zero_add]; exact (hb7.trans hB).keep (hgA5 j y hy)
      · simp at hy
  have hG := Get_c _ ((Pol.put p).take n) w8 hRd (fun x hx => hb8 x (List.mem_of_mem_take hx)) (by rw [List.length_take]; have : (Pol.put p).length = _ := HPl; omega)
  have hno : ¬ Pol.isPb ((Pol.put p).take n) = true := fun h => Pol.cut_none (Pol.lies_put p) hn ((Pol.isPb_iff _).1 h)
  unfold GetPost at hG
  rw [if_neg hno] at hG
  have hni : (n : Int) ≤ cpA := by omega
  clear hno hRd HPl
  generalize (Pol.put p).length = LN at *
  go_wp2_with fail
  refine hG.mono ?_
  rintro e w9 ⟨ur, rfl, hur, hb9⟩
  obtain ⟨z1, z2, rfl, hz1, hz2⟩ := hur
  obtain ⟨qc, cc, rfl, -⟩ := hz1.open
  obtain ⟨qd, cd, rfl, -⟩ := hz2.open
  go_wp2_with fail
  go_returns
  exact ⟨rfl, by have hfin2 := hfin.trans hb9; (repeat' (first | (with_reducible assumption) | (with_reducible exact Bw.refl _) | (with_reducible refine Bw.alloc ?_ _) | (with_reducible refine Bw.drew ?_) | (with_reducible refine Bw.drewN ?_ _) | (with_reducible refine Bw.setCell ?_ ?_ _) | exact Nat.le_refl _))⟩
end Go.Proofs.Ytkffkmiegmaoiaa
