/- LAYER 7's law PolicySays. -/
import Derived.Test.YtkffkmiegmaoiaaPolW8
import Derived.Test.YtkffkmiegmaoiaaPolW9
import Derived.Test.YtkffkmiegmaoiaaPolR1
import Derived.Test.YtkffkmiegmaoiaaPolArg
namespace Go.Proofs.Ytkffkmiegmaoiaa
open Go.ChangeShapes Go.WideShapes Go.ChangeAt Go.RowKit

theorem Pol.long_no {p : Pol.Plc} (h : ¬ Pol.long p = true) : p.srcs.length ≤ 40 ∧ p.snks.length ≤ 40 := by
  unfold Pol.long at h; simp at h; exact h
set_option maxHeartbeats 4000000 in
set_option maxRecDepth 100000 in
theorem PolicySays_w (v : Value) (kind arg n l : Int) (w : World) (hv : PolArg w v) :
    Calls Try.prog 5 #[v, .int .i64 kind, .int .u32 arg, .int .i64 n, .int .u8 l] w fun e w' => e = .returned (.bool true) ∧ Bw w w' := by
  obtain ⟨p, hp⟩ := hv
  have hLo := fun w' (g : Bw w w') => long_c v p w' (hp.bw g)
  by_cases hlg : Pol.long p = true
  · rw [hlg] at hLo
    obtain ⟨v1, v2, rfl, _, _⟩ := hp
    go_enter Try.func5, Try.ntmps5
    go_wp2_with fail
    refine (awake7_c _).mono ?_
    rintro e w1 ⟨rfl, hb1⟩
    have hbx := ((Bw.refl w).alloc (.cells #[.bool p.ptr, v1, v2] 26)).trans hb1
    have hx := (PBox.new w p.ptr v1 v2 26).bw hb1
    have x0 := hx.c0; have x1 := hx.c1; have x2 := hx.c2
    go_wp2_with fail
    refine (hLo _ hbx).mono ?_
    rintro e w2 ⟨rfl, hb2⟩
    go_wp2_with fail
    go_returns
    exact ⟨rfl, hbx.trans hb2⟩
  · rw [Bool.eq_false_iff.2 hlg] at hLo
    have hll := Pol.long_no hlg
    clear hlg
    have hPo := fun w' (g : Bw w w') => pol_c v p w' (hp.bw g) ⟨by omega, by omega⟩
    obtain ⟨v1, v2, rfl, hS, hK⟩ := hp
    have hL := fun w' (g : Bw w w') => Label_c p.ptr v1 v2 p.srcs kind arg w' (hS.bw g) (by omega)
    have hH := fun w' (g : Bw w w') => Hits_c p.ptr v1 v2 p.snks kind n l w' (hK.bw g) (by omega)
    go_enter Try.func5, Try.ntmps5
    go_wp2_with fail
    refine (awake7_c _).mono ?_
    rintro e w1 ⟨rfl, hb1⟩
    have hbx := ((Bw.refl w).alloc (.cells #[.bool p.ptr, v1, v2] 26)).trans hb1
    have hx := (PBox.new w p.ptr v1 v2 26).bw hb1
    have x0 := hx.c0; have x1 := hx.c1; have x2 := hx.c2
    go_wp2_with fail
    refine (hLo _ hbx).mono ?_
    rintro e w2 ⟨rfl, hb2⟩
    have hx2 := hx.bw hb2
    clear x0 x1 x2
    have x0 := hx2.c0; have x1 := hx2.c1; have x2 := hx2.c2
    go_wp2_with fail
    refine (hPo _ (hbx.trans hb2)).mono ?_
    rintro e w3 ⟨u, rfl, ⟨u1, u2, rfl, hS2, hK2⟩, hb3⟩
    have hx3 := hx2.bw hb3
    clear x0 x1 x2
    have x0 := hx3.c0; have x1 := hx3.c1; have x2 := hx3.c2
    have hb03 := (hbx.trans hb2).trans hb3
    have hrL := fun w' (g : Bw w3 w') => rLabel_c p.ptr u1 u2 p.srcs kind arg w' (hS2.bw g) (by omega)
    have hrH := fun w' (g : Bw w3 w') => rHits_c p.ptr u1 u2 p.snks kind n l w' (hK2.bw g) (by omega)
    obtain ⟨qa, ca, rfl, -⟩ := hS2.open
    obtain ⟨qb, cb, rfl, -⟩ := hK2.open
    clear hLo hPo
    go_wp2_with fail
    obtain ⟨w4, hw4, hb4, hyQ⟩ : ∃ w4, w3.alloc (.cells #[.bool p.ptr, .slice qa p.srcs.length ca, .slice qb p.snks.length cb] 46) = w4 ∧ Bw w3 w4 ∧ PBox w4 w3.heap.size p.ptr (.slice qa p.srcs.length ca) (.slice qb p.snks.length cb) := ⟨_, rfl, (Bw.refl w3).alloc _, PBox.new w3 _ _ _ _⟩
    rw [hw4]
    have hxQ := hx3.bw hb4
    have hHold : ∀ wr, Bw w4 wr → (wr.cell? ⟨w.heap.size, 0, none⟩ = some (.bool p.ptr) ∧ wr.cell? ⟨w.heap.size, 1, none⟩ = some (v1) ∧ wr.cell? ⟨w.heap.size, 2, none⟩ = some (v2) ∧ wr.cell? ⟨w3.heap.size, 0, none⟩ = some (.bool p.ptr) ∧ wr.cell? ⟨w3.heap.size, 1, none⟩ = some (.slice qa p.srcs.length ca) ∧ wr.cell? ⟨w3.heap.size, 2, none⟩ = some (.slice qb p.snks.length cb)) := fun wr g => ⟨g.keep hxQ.c0, g.keep hxQ.c1, g.keep hxQ.c2, g.keep hyQ.c0, g.keep hyQ.c1, g.keep hyQ.c2⟩
    have hL4 := fun w' (g : Bw w4 w') => hL w' ((hb03.trans hb4).trans g)
    have hH4 := fun w' (g : Bw w4 w') => hH w' ((hb03.trans hb4).trans g)
    have hrL4 := fun w' (g : Bw w4 w') => hrL w' (hb4.trans g)
    have hrH4 := fun w' (g : Bw w4 w') => hrH w' (hb4.trans g)
    generalize Pol.hits kind n l p.snks 0 = HH at *
    generalize Pol.lab kind arg p.srcs 0 = LL at *
    have hB : Bw w4 w4.drew := (Bw.refl w4).drew
    clear hL hH hrL hrH x0 x1 x2 hw4 hS hK hS2 hK2
    go_region_held3 (fun wr => wr.cell? ⟨w.heap.size, 0, none⟩ = some (.bool p.ptr) ∧ wr.cell? ⟨w.heap.size, 1, none⟩ = some (v1) ∧ wr.cell? ⟨w.heap.size, 2, none⟩ = some (v2) ∧ wr.cell? ⟨w3.heap.size, 0, none⟩ = some (.bool p.ptr) ∧ wr.cell? ⟨w3.heap.size, 1, none⟩ = some (.slice qa p.srcs.length ca) ∧ wr.cell? ⟨w3.heap.size, 2, none⟩ = some (.slice qb p.snks.length cb))
      (first | exact hHold _ hB | exact hHold _ hB.drew)
      (first
        | (go_at_call 12; refine (hL4 _ hB).mono ?_; rintro e w5 ⟨rfl, h2⟩; replace hB := hB.trans h2; clear h2)
        | (go_at_call 20; refine (hrL4 _ hB).mono ?_; rintro e w5 ⟨rfl, h2⟩; replace hB := hB.trans h2; clear h2)
        | (go_at_call 14; refine (hH4 _ hB).mono ?_; rintro e w5 ⟨vh, rfl, ho1, h2⟩; replace hB := hB.trans h2; clear h2)
        | (go_at_call 21; refine (hrH4 _ hB).mono ?_; rintro e w5 ⟨vg, rfl, ho2, h2⟩; replace hB := hB.trans h2; have ho3 := ho1.rd.bw h2; clear h2)
        | (go_at_call 13; refine (places_c _ _ HH HH _ ho3 ho2.rd).mono ?_; rintro e w5 ⟨rfl, h2⟩; rw [decide_eq_true rfl]; replace hB := hB.trans h2; clear h2))
    go_wp2_with fail
    go_returns
    exact ⟨rfl, (hb03.trans hb4).trans hB⟩
end Go.Proofs.Ytkffkmiegmaoiaa
