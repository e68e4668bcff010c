/- THE PAGES OF A STRETCH THAT ARE NOT CLEAN: dirtyBetween. -/
import Derived.Test.YtgebmedkhakhfaaShKeys
namespace Go.Proofs.Ytgebmedkhakhfaa
open Go.ChangeShapes Go.WideShapes Go.ChangeAt Go.RowKit Go.Shelf
set_option linter.unusedSimpArgs false
set_option linter.unusedVariables false

theorem bl_append {w A B : World} {e : TypeId} {sz n : Nat} {v : Value} {xs : List Value} (hb : Below w.heap.size w A) (hr : A.ownsRow w.heap.size e sz v n xs) (hg : A.grownBy B v.ownBlock) : Below w.heap.size w B :=
  hb.grown hg hb.size (fun k ek => by
    rcases hr.2 with ⟨rfl, _⟩ | ⟨g, cap, cur, rfl, h, _⟩
    · simp [Value.ownBlock] at ek
    · simp [Value.ownBlock] at ek; omega)
theorem row_not {w : World} {B n b : Nat} {v : Value} {xs : List Value} {e : TypeId} (h : w.ownsRow B e 1 v n xs) (hb : ∃ o, w.heap[b]? = some o ∧ o.isCells = false) : some b ≠ v.ownBlock := by
  obtain ⟨o, ho, hc⟩ := hb
  rcases h.2 with ⟨rfl, _⟩ | ⟨g, cap, cur, rfl, _, hg, _⟩
  · simp [Value.ownBlock]
  · simp only [Value.ownBlock, ne_eq, Option.some.injEq]
    intro e2
    rw [e2, hg] at ho
    cases ho
    cases hc
/-- The list so far: v holds ss. -/
def ListB (w wr : World) (v : Value) (ss : List Int) : Prop := wr.ownsRow w.heap.size 33 1 v ss.length (ss.map (Value.int .u32)) ∧ Below w.heap.size w wr
theorem listB_shape {w wr : World} {v : Value} {ss : List Int} (h : ListB w wr v ss) : ∃ q cap, v = .slice q ss.length cap := by
  rcases h.1.2 with ⟨rfl, h0⟩ | ⟨g, cap, cur, rfl, _⟩
  · exact ⟨none, 0, by rw [h0]⟩
  · exact ⟨_, _, rfl⟩
/-- The keys of [a, b), each once. -/
def Betw (bk : Int → Option Nat) (a b : Int) (ss : List Int) : Prop := ss.Nodup ∧ ∀ k, k ∈ ss ↔ (a ≤ k ∧ k < b ∧ (bk k).isSome)
theorem Betw.len {bk : Int → Option Nat} {a b : Int} {ss ks : List Int} (h : Betw bk a b ss) (hm : ∀ k, k ∈ ks ↔ (bk k).isSome) : ss.length ≤ ks.length := by
  have H : ∀ (s t : List Int), s.Nodup → (∀ k ∈ s, k ∈ t) → s.length ≤ t.length := by
    intro s
    induction s with
    | nil => simp
    | cons x s ih =>
      intro t hn ht
      have hx := ht x List.mem_cons_self
      have := ih (t.erase x) (List.nodup_cons.1 hn).2 (fun k hk => by
        have hne : k ≠ x := fun e => (List.nodup_cons.1 hn).1 (e ▸ hk)
        exact (List.mem_erase_of_ne hne).2 (ht k (List.mem_cons_of_mem _ hk)))
      rw [List.length_erase_of_mem hx] at this
      have := List.length_pos_of_mem hx
      simp only [List.length_cons]
      omega
  exact H ss ks h.1 (fun k hk => (hm k).2 ((h.2 k).1 hk).2.2)
theorem Betw.none {bk : Int → Option Nat} {a b : Int} {ss : List Int} (h : Betw bk a b ss) (hb : bk b = none) : Betw bk a (b + 1) ss :=
  ⟨h.1, fun k => by
    rw [h.2]
    by_cases e : k = b
    · subst e; simp [hb]
    · constructor <;> (rintro ⟨h1, h2, h3⟩; exact ⟨h1, by omega, h3⟩)⟩
theorem Betw.some {bk : Int → Option Nat} {a b : Int} {ss : List Int} (h : Betw bk a b ss) (hab : a ≤ b) {o : Nat} (hb : bk b = some o) : Betw bk a (b + 1) (ss ++ [b]) := by
  have hnew : b ∉ ss := fun x => by have := ((h.2 b).1 x).2.1; omega
  refine ⟨List.nodup_append.2 ⟨h.1, by simp, fun x hx y hy => by simp at hy; subst hy; exact fun e => hnew (e ▸ hx)⟩, fun k => ?_⟩
  rw [List.mem_append, List.mem_singleton, h.2]
  by_cases e : k = b
  · subst e; simp [hb, hab]; omega
  · simp only [e, or_false]
    constructor <;> (rintro ⟨h1, h2, h3⟩; exact ⟨h1, by omega, h3⟩)
theorem Betw.start (bk : Int → Option Nat) (a : Int) : Betw bk a a [] := ⟨List.nodup_nil, fun k => by simp; omega⟩
/-- What the range has brought. -/
def CollB (D0 : DataW Unit) (left : Lit → Bool) (a b : Int) (ss : List Int) : Prop := ss.Nodup ∧ (∀ x ∈ ss, U4 x) ∧ ∀ x, U4 x → (x ∈ ss ↔ (Maps.has D0 (.int .u32 x) = true ∧ left (.int .u32 x) = false ∧ a ≤ x ∧ x < b))
theorem CollB.start (D0 : DataW Unit) (a b : Int) : CollB D0 (Maps.has D0) a b [] := ⟨List.nodup_nil, by simp, fun x _ => by cases Maps.has D0 (.int .u32 x) <;> simp⟩
theorem CollB.step {D0 : DataW Unit} {left : Lit → Bool} {a b : Int} {ss : List Int} (h : CollB D0 left a b ss) {x : Int} {y : DataW Unit} (hx : U4 x) (hlk : left (.int .u32 x) = true) (hat : ∀ zd, D0.atKey (.int .u32 x) zd = y) (hab : a ≤ x ∧ x < b) :
    CollB D0 (fun z => left z && !z.sameKey (.int .u32 x)) a b (ss ++ [x]) := by
  have hhas : Maps.has D0 (.int .u32 x) = true := Maps.has_true_of_atKey hat
  have hnew : x ∉ ss := fun e => by have := ((h.2.2 x hx).1 e).2.1; rw [hlk] at this; cases this
  refine ⟨List.nodup_append.2 ⟨h.1, by simp, fun a ha b hb => by simp at hb; subst hb; exact fun e => hnew (e ▸ ha)⟩, fun z hz => ?_, fun y hy => ?_⟩
  · rcases List.mem_append.1 hz with z1 | z1
    · exact h.2.1 z z1
    · simp at z1; rw [z1]; exact hx
  · by_cases e : y = x
    · subst e; simp [hhas, Lit.sameKey, hab]
    · simp [h.2.2 y hy, e, Lit.sameKey]
theorem CollB.skip {D0 : DataW Unit} {left : Lit → Bool} {a b : Int} {ss : List Int} (h : CollB D0 left a b ss) {x : Int} (hlk : left (.int .u32 x) = true) (hx : U4 x) (hab : ¬ (a ≤ x ∧ x < b)) :
    CollB D0 (fun z => left z && !z.sameKey (.int .u32 x)) a b ss := by
  refine ⟨h.1, h.2.1, fun y hy => ?_⟩
  by_cases e : y = x
  · subst e
    rw [h.2.2 y hy, hlk]
    simp [Lit.sameKey]
    intro _ h1
    omega
  · simp [h.2.2 y hy, e, Lit.sameKey]
section
variable {w : World} {sb : Nat} {F : Nat → Prop} {N : Nat} {S : SS} {L : SLay}
set_option maxRecDepth 100000 in
set_option maxHeartbeats 2000000 in
theorem between_c (h : ShL w sb F N S L) (f t : Int) (f0 : 0 ≤ f) (ft : f ≤ t) (t1 : t ≤ 4294967296) (hks : L.ks.length ≤ 4096) :
    Calls Try.prog 101 #[.pointer (some ⟨sb, 0, none⟩), .int .i64 f, .int .i64 t] w fun e w' => ∃ v ss, e = .returned v ∧ ListB w w' v ss ∧ Betw L.bk (f / 256) ((t + 255) / 256) ss := by
  obtain ⟨i0, hi, hz0, hz1, hz2⟩ := info_parts infoU
  have c1 := h.c1
  have hlen := h.pm.len 3
  have a0 : 0 ≤ f / 256 := by omega
  have b1 : (t + 256 - 1) / 256 ≤ 16777216 := by omega
  have ab : f / 256 ≤ (t + 256 - 1) / 256 := by omega
  rw [show (t + 255) / 256 = (t + 256 - 1) / 256 by omega]
  by_cases hs : (t + 256 - 1) / 256 - f / 256 ≤ (L.ks.length : Int)
  · go_enter Try.func101, Try.ntmps101
    go_wp2_with fail
    go_loopw [9, 10] (fun v x wr => ∃ (j : Int) (ss : List Int), f / 256 ≤ j ∧ j ≤ (t + 256 - 1) / 256 ∧ x = .int .i64 j ∧ ListB w wr v ss ∧ Betw L.bk (f / 256) j ss) (fun _ x _ => ((t + 256 - 1) / 256 - intOf x).toNat)
    case atStart => exact ⟨f / 256, [], Int.le_refl _, ab, rfl, ⟨World.ownsRow_nil _ _ _ _, Below.refl _ _⟩, Betw.start _ _⟩
    case round =>
      obtain ⟨j, ss, j0, j1, rfl, hl, hB⟩ := hrel
      have hsl := hB.len h.mem
      obtain ⟨q, cap, rfl⟩ : ∃ q cap, u9 = .slice q ss.length cap := by
        rcases hl.1.2 with ⟨rfl, h0⟩ | ⟨g, cap, cur, rfl, _⟩
        · exact ⟨none, 0, by rw [h0]⟩
        · exact ⟨_, _, rfl⟩
      by_cases hlt : j < (t + 256 - 1) / 256
      · have hS := h.bl hl.2
        have c1' := hS.c1
        have hk := hS.pm.look (k := j) ⟨by omega, by omega⟩
        cases hbk : L.bk j with
        | none =>
          rw [hbk] at hk
          simp only [pv] at hk
          go_wp2_with fail
          exact ⟨⟨j + 1, ss, by omega, by omega, rfl, hl, hB.none hbk⟩, by simp only [intOf]; omega⟩
        | some o =>
          rw [hbk] at hk
          simp only [pv] at hk
          have hrow := hl.1
          go_wp2_with (first | (at_builtin; refine wpList_append_own _ rfl _ _ 63 rfl w.heap.size 33 i0 (.int .u32 0) 1 4 Try.underlying63 hi hz0 hz1 hz2 rfl (by decide) _ _ _ rfl (hrow.alloc _) ⟨wr.heap.size, 0, none⟩ 1 1 [.int .u32 j] rfl rfl (cell_one_new _ _ _) (by simp [Value.oneCell']) (by unfold maxLen; omega) (by omega) (by have := hl.2.size; simp; omega) ?_; intro v' w1 hown' hgrow _; obtain ⟨g', cap', rfl⟩ := ownsRow_succ hown') | go_in)
          go_roundw
          case rel => exact ⟨j + 1, ss ++ [j], by omega, by omega, rfl, ⟨by simpa using hown', bl_append (bl_alloc hl.2 _) (hrow.alloc _) hgrow⟩, hB.some j0 hbk⟩
          case measure => simp only [intOf]; omega
      · obtain rfl : j = (t + 256 - 1) / 256 := by omega
        go_wp2_with fail
        go_returns
        exact ⟨_, rfl, ss, hl, hB⟩
  · obtain ⟨D, hD, rD, hDs⟩ := h.pm
    go_enter Try.func101, Try.ntmps101
    go_wp2_with (first
      | (at_range; refine wpList_range_own _ rfl _ 123 rfl 33 133 u32K Try.underlying123 _ L.bp N _ rfl hD ?_; intro w0 hrg0 hg0 hs0)
      | go_in)
    have bl0 : Below w.heap.size w w0 := ⟨hg0.os, hg0.tape, hg0.output, hg0.size, fun i hi => hg0.block i hi (by simp)⟩
    go_loopw [9] (fun v wr => ∃ (left : Lit → Bool) (cnt : Nat) (ss : List Int), wr.ranges Try.prog 33 ptrElem L.bp w.heap.size N D left cnt ∧ ss.length + cnt ≤ Maps.size D ∧ CollB D left (f / 256) ((t + 256 - 1) / 256) ss ∧ ListB w wr v ss)
      (fun _ wr => wr.rangeLeft L.bp w.heap.size)
    case atStart =>
      exact ⟨_, _, [], hrg0, by simp, CollB.start D _ _, World.ownsRow_nil _ _ _ _, bl0⟩
    case round =>
      obtain ⟨left, cnt, ss, hrg, hcs, hC, hl⟩ := hrel
      obtain ⟨q, cap, rfl⟩ : ∃ q cap, u9 = .slice q ss.length cap := by
        rcases hl.1.2 with ⟨rfl, h0⟩ | ⟨g, cap, cur, rfl, _⟩
        · exact ⟨none, 0, by rw [h0]⟩
        · exact ⟨_, _, rfl⟩
      clear hrg0 hg0 hs0
      go_wp2_with (first
        | (at_next; refine wpList_next_ranges _ rfl _ rfl 33 u32K ptrElem (Value.int .u32) pv (fun key kl hkey => by obtain ⟨x, rfl, _⟩ := Maps.keyOf_int_inv Try.underlying33 hkey; exact ⟨x, rfl⟩) pvS_inv L.bp w.heap.size N D left cnt rfl hrg ?_ ?_)
        | go_in)
      · intro h0 hl0
        go_wp2_with go_in
        go_returns
        refine ⟨_, ss, rfl, hl, hC.1, fun k => ⟨fun hk => ?_, ?_⟩⟩
        · have u := hC.2.1 k hk
          obtain ⟨h1, h2, h3, h4⟩ := (hC.2.2 k u).1 hk
          exact ⟨h3, h4, by rw [← (rD k u).1]; exact h1⟩
        · rintro ⟨h3, h4, h5⟩
          have u : U4 k := ⟨by omega, by omega⟩
          exact (hC.2.2 k u).2 ⟨by rw [(rD k u).1]; exact h5, hl0 _, h3, h4⟩
      · intro x cc kl y1 y2 w1 cnt1 hkey hlx hv hat hrg1 hlt hg1 hs1 hen
        obtain ⟨x', ex, rfl, hwx⟩ := Maps.keyOf_int_inv Try.underlying33 hkey
        cases ex
        have ux : U4 x := by have := bounds_u32 hwx; exact ⟨by omega, by omega⟩
        have hrow : w1.ownsRow w.heap.size 33 1 (.slice q ss.length cap) ss.length (ss.map (Value.int .u32)) := hl.1.kept hg1 (by
          rcases hl.1.2 with ⟨e, _⟩ | ⟨g, cap, cur, e, _, hg, _⟩
          · rw [e]; exact .inl rfl
          · right
            rw [e]
            simp only [Value.ownBlock, ne_eq, Option.some.injEq]
            intro e2
            obtain ⟨o, ho, hw⟩ := hrg.iter_walk
            rw [← e2, hg] at ho
            cases ho
            cases hw)
        have bl1 : Below w.heap.size w w1 := hl.2.grown hg1 hl.2.size (fun k e => by cases e; exact Nat.le_refl _)
        have hsz : Maps.size D = L.ks.length := hDs
        obtain ⟨x0, x1⟩ := ux
        simp only [pv] at hen ⊢
        have HR : Hid (wr.rangeLeft L.bp w.heap.size = cnt) := hrg.left_eq
        clear hl hg1 hs1 hrg
        by_cases h1 : f / 256 ≤ x
        · by_cases h2 : x < (t + 256 - 1) / 256
          · have hC2 := hC.step ⟨x0, x1⟩ hlx hat ⟨h1, h2⟩
            go_wp2_with (first | (at_builtin; refine wpList_append_own _ rfl _ _ 63 rfl w.heap.size 33 i0 (.int .u32 0) 1 4 Try.underlying63 hi hz0 hz1 hz2 rfl (by decide) _ _ _ rfl (hrow.alloc _) ⟨w1.heap.size, 0, none⟩ 1 1 [.int .u32 x] rfl rfl (cell_one_new _ _ _) (by simp [Value.oneCell']) (by unfold maxLen; omega) (by omega) (by have := bl1.size; simp; omega) ?_; intro v' w2 hown' hgrow _; obtain ⟨g', cap', rfl⟩ := ownsRow_succ hown') | go_in)
            have hrg2 := hrg1.alloc (.cells #[.int .u32 x] 33)
            have hmo : ∃ o, w1.heap[L.bp]? = some o ∧ o.isCells = false := by
              obtain ⟨es, c, hb, _⟩ := hrg1.owns
              exact ⟨_, hb, rfl⟩
            have hio : ∃ o, w1.heap[w.heap.size]? = some o ∧ o.isCells = false := by
              obtain ⟨o, ho, hw⟩ := hrg1.iter_walk
              exact ⟨o, ho, Obj.not_cells_of_walk hw⟩
            have hrg3 := hrg2.kept hgrow (row_not hrow hmo) (row_not hrow hio)
            go_roundw
            case rel => exact ⟨_, cnt1, ss ++ [x], hrg3, by simp; omega, hC2, by simpa using hown', bl_append (bl_alloc bl1 _) (hrow.alloc _) hgrow⟩
            case measure => rw [hrg3.left_eq, HR.out]; exact hlt
          · have hC2 := hC.skip hlx ⟨x0, x1⟩ (fun z => h2 z.2)
            go_wp2_with fail
            go_roundw
            case rel => exact ⟨_, cnt1, ss, hrg1, by omega, hC2, hrow, bl1⟩
            case measure => rw [hrg1.left_eq, HR.out]; exact hlt
        · have hC2 := hC.skip hlx ⟨x0, x1⟩ (fun z => h1 z.1)
          go_wp2_with fail
          go_roundw
          case rel => exact ⟨_, cnt1, ss, hrg1, by omega, hC2, hrow, bl1⟩
          case measure => rw [hrg1.left_eq, HR.out]; exact hlt
end
end Go.Proofs.Ytgebmedkhakhfaa
