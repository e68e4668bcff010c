/- LAYER 11: an element of what is written. -/
import Derived.Test.YtaepjlaegldkhaaFilW11
namespace Go.Proofs.Ytaepjlaegldkhaa
open Go.ChangeShapes Go.WideShapes Go.ChangeAt Go.RowKit
set_option linter.unusedSimpArgs false

theorem und3 : Try.prog.underlying 74 = some (.array 3 25) := by kernel_rfl
theorem ix3_0 (a b c : Value) (w : World) : (Instr.index 74 (.agg #[a, b, c]) (.int .i64 0)).run Try.prog w = .ok a w := by
  simp [Instr.index, go_sem, run_underlying und3, part, Try.sizeOf25, Try.isAgg25]
theorem ix3_1 (a b c : Value) (w : World) : (Instr.index 74 (.agg #[a, b, c]) (.int .i64 1)).run Try.prog w = .ok b w := by
  simp [Instr.index, go_sem, run_underlying und3, part, Try.sizeOf25, Try.isAgg25]
theorem ix3_2 (a b c : Value) (w : World) : (Instr.index 74 (.agg #[a, b, c]) (.int .i64 2)).run Try.prog w = .ok c w := by
  simp [Instr.index, go_sem, run_underlying und3, part, Try.sizeOf25, Try.isAgg25]
/-- A copy, put together. -/
theorem FS.mkC {w w1 w2 wF : World} {ob ub M : Nat} {v1 v2 vs : Value} {us : List Value} {s : Fil.St} (hok : Fil.Ok s) (hob : w.heap.size ≤ ob) (hoM : ob < M) (hub : M ≤ ub) (hub1 : ub < w1.heap.size)
    (hU : UseS w1 ub s.sh s.rd s.ck s.a s.b s.c) (hFU : FarU w1 ub M) (g1 : Bq ob w1 wF) (g2 : Bq ob w2 wF) (h12 : w1.heap.size ≤ w2.heap.size)
    (k1 : us.length = s.srcs.length) (k2 : RdR 2 w2 vs s.srcs.length (Fee.cells s.srcs us)) (k3 : Far2 w1.heap.size vs) (k4 : ∀ (i : Nat) f u, s.srcs[i]? = some f → us[i]? = some u → Rd8 w2 u f.data ∧ Far2 w1.heap.size u)
    (hbox : Box wF ob (Fil.cells ub vs v1 v2 s.op)) (o1 : Own8 w wF v1 s.o1) (o2 : Own8 w wF v2 s.o2) (b1 : ∀ j, v1.ownBlock = some j → w2.heap.size ≤ j) (b2 : ∀ j, v2.ownBlock = some j → w2.heap.size ≤ j) (b12 : ∀ j, v1.ownBlock = some j → v2.ownBlock ≠ some j) :
    FS w wF ob (fun i => w.heap.size ≤ i ∧ i < wF.heap.size) s := by
  have s1 := g1.b0.size
  have s2 := g2.b0.size
  obtain ⟨hUF, hFF⟩ := hU.far hFU hoM g1 (by omega)
  have hR : ∀ u, Far2 w1.heap.size u → Lo w2.heap.size u → RdA (fun i => w.heap.size ≤ i ∧ i < wF.heap.size) (Fil.F ob ub v1 v2) u := fun u h1 h2 q k c e hk => by
    have a1 := h1 q k c e hk
    have a2 := h2 q k c e hk
    refine ⟨⟨by omega, by omega⟩, fun hF => ?_⟩
    rcases hF with e | e | e | e
    · omega
    · omega
    · have := b1 _ e; omega
    · have := b2 _ e; omega
  have hQ : ∀ u n cs, RdR 1 w2 u n cs → Far2 w1.heap.size u → RdR 1 wF u n cs := fun u n cs h1 h2 => RdR.q h1 g2 (fun q k c e hk => by have := h2 q k c e hk; omega)
  refine ⟨ub, v1, v2, vs, us, hok, by omega, fun i hi => hi, ⟨hob, by omega⟩, ⟨by omega, by omega⟩, hbox, hUF, ?_, k1, RdR.q k2 g2 (fun q k c e hk => by have := k3 q k c e hk; omega), hR _ k3 (RdR.lo k2), fun i f u a b => ⟨hQ _ _ _ (k4 i f u a b).1 (k4 i f u a b).2, hR u (k4 i f u a b).2 (RdR.lo (k4 i f u a b).1)⟩, o1, o2, fun g e => ?_, fun g e => ?_⟩
  · intro j v hj hc q k c e hk
    have hv : w1.cell? ⟨ub, j, none⟩ = some v := (cell_block (p := ⟨ub, j, none⟩) (g1.block ub hub1 (by omega))).symm.trans hc
    have a1 := hFU j v hj hv q k c e hk
    obtain ⟨⟨vs', vr, vc, h1, h2, h3, h4, h5, h6, h7⟩, _⟩ := hU
    have a2 : q.block < w1.heap.size ∧ q.block ≠ ub := by
      obtain rfl | rfl | rfl : j = 0 ∨ j = 1 ∨ j = 2 := by omega
      · rw [h1.c 0 _ rfl] at hv; obtain rfl := Option.some.inj hv; exact ⟨RdR.lo h2 q k c e hk, h5 q k c e hk⟩
      · rw [h1.c 1 _ rfl] at hv; obtain rfl := Option.some.inj hv; exact ⟨RdR.lo h3 q k c e hk, h6 q k c e hk⟩
      · rw [h1.c 2 _ rfl] at hv; obtain rfl := Option.some.inj hv; exact ⟨RdR.lo h4 q k c e hk, h7 q k c e hk⟩
    refine ⟨⟨by omega, by omega⟩, fun hF => ?_⟩
    rcases hF with e | e | e | e
    · omega
    · exact a2.2 e
    · have := b1 _ e; omega
    · have := b2 _ e; omega
  · have := b1 g e; have h3 := o1.blk g e
    exact ⟨h3, by omega, by omega, b12 g e⟩
  · have := b2 g e; have h3 := o2.blk g e
    exact ⟨h3, by omega, by omega⟩
end Go.Proofs.Ytaepjlaegldkhaa
