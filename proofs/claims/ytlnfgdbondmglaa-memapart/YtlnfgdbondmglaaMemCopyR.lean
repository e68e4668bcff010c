/- COPY's LOOP, AS A RELATION. -/
import Derived.Test.YtlnfgdbondmglaaMemCopy1
import Derived.Test.YtlnfgdbondmglaaMemW8
import Derived.Deep.CutRange
import Derived.Deep.RegionHeld3
import Derived.Maps.RangeWalk
import Derived.Deep.WholeRow
namespace Go.Proofs.Ytlnfgdbondmglaa
open Go.ChangeShapes Go.WideShapes Go.ChangeAt Go.RowKit
set_option linter.unusedSimpArgs false
set_option linter.unusedVariables false

theorem PMap.lt {w : World} {b n : Nat} {f : Int → Option Nat} (h : PMap w b n f) : b < w.heap.size := by obtain ⟨_, _, e⟩ := h.isMapObj; exact (Array.getElem?_eq_some_iff.1 e).1
theorem UMap.lt {w : World} {b n : Nat} {f : Int → Int} (h : UMap w b n f) : b < w.heap.size := by obtain ⟨_, _, e⟩ := h.isMapObj; exact (Array.getElem?_eq_some_iff.1 e).1
theorem PMap.gr {w w' : World} {b n : Nat} {f : Int → Option Nat} (h : PMap w b n f) (g : Gr w w') : PMap w' b n f := h.congr (g.b.block b h.lt)
theorem UMap.gr {w w' : World} {b n : Nat} {f : Int → Int} (h : UMap w b n f) (g : Gr w w') : UMap w' b n f := h.congr (g.b.block b h.lt)
theorem PMap.al {w : World} {b n : Nat} {f : Int → Option Nat} (h : PMap w b n f) (o : Obj) : PMap (w.alloc o) b n f := h.congr (Below.heap_alloc _ _ _ h.lt)
theorem UMap.al {w : World} {b n : Nat} {f : Int → Int} (h : UMap w b n f) (o : Obj) : UMap (w.alloc o) b n f := h.congr (Below.heap_alloc _ _ _ h.lt)
theorem UMap.dup {w wx : World} {b n : Nat} {f : Int → Int} {es : Array MapEntry} {c : Nat} (h : UMap w b n f) (hb : w.heap[b]? = some (.map es c)) : UMap (wx.alloc (.map es c)) wx.heap.size n f :=
  h.moved ((heap_alloc_new wx _).trans hb.symm)

theorem pv_inv (v : Value) (y : DataW Unit × List MemPlace) (h : ptrElem v = some y) : ∃ c, v = pv c := by
  unfold ptrElem at h
  split at h
  · exact ⟨none, rfl⟩
  · exact ⟨some _, rfl⟩
  · cases h
/-- The new memory, still without pages. -/
structure CR (w : World) (S : MS) (N nb : Nat) (v : Value) (bp bg : Nat) (wx : World) : Prop where
  gr : Gr w wx
  top : wx.heap[nb]? = some (.cells #[.int .i64 S.budget, v, .map (some bp), .map (some bg)] 64 (0, 0))
  row : wx.ownsRow 0 28 1 v S.th.length (S.th.map (Value.int .u32))
  pm : PMap wx bp 0 (fun _ => none)
  gm : UMap wx bg N S.gone
  ne : bp ≠ bg
  l0 : w.heap.size ≤ nb
  l1 : w.heap.size ≤ bp
  l2 : w.heap.size ≤ bg
  l3 : ∀ g, v.ownBlock = some g → w.heap.size ≤ g

theorem CR.one {w wA : World} {S : MS} {N b : Nat} {v : Value} {eg : Array MapEntry} {cg : Nat} (gw : Gr w wA) (row : wA.ownsRow 0 28 1 v S.th.length (S.th.map (Value.int .u32))) (blk : ∀ g, v.ownBlock = some g → w.heap.size ≤ g) (hgm : UMap w b N S.gone) (og : w.heap[b]? = some (.map eg cg)) :
    CR w S N (wA.heap.size + 1 + 1) v wA.heap.size (wA.heap.size + 1) (((wA.alloc (.map #[] 0)).alloc (.map eg cg)).alloc (.cells #[.int .i64 S.budget, v, .map (some wA.heap.size), .map (some (wA.heap.size + 1))] 64)) where
  gr := ((gw.allocMap _ _).allocMap _ _).alloc _ _
  top := by
    have := heap_alloc_new ((wA.alloc (.map #[] 0)).alloc (.map eg cg)) (.cells #[.int .i64 S.budget, v, .map (some wA.heap.size), .map (some (wA.heap.size + 1))] 64)
    simpa using this
  row := ((row.alloc _).alloc _).alloc _
  pm := ((PMap.made wA).al _).al _
  gm := by
    have := (UMap.dup (wx := wA.alloc (.map #[] 0)) hgm og).al (.cells #[.int .i64 S.budget, v, .map (some wA.heap.size), .map (some (wA.heap.size + 1))] 64)
    simpa using this
  ne := by omega
  l0 := by have := gw.size; omega
  l1 := gw.size
  l2 := by have := gw.size; omega
  l3 := blk
theorem CR.two {w wA : World} {S : MS} {N b : Nat} {v : Value} {eg : Array MapEntry} {cg : Nat} (gw : Gr w wA) (row : wA.ownsRow 0 28 1 v S.th.length (S.th.map (Value.int .u32))) (blk : ∀ g, v.ownBlock = some g → w.heap.size ≤ g) (hgm : UMap w b N S.gone) (og : w.heap[b]? = some (.map eg cg)) :
    CR w S N (wA.heap.size + 1 + 1) v (wA.heap.size + 1) wA.heap.size (((wA.alloc (.map eg cg)).alloc (.map #[] 0)).alloc (.cells #[.int .i64 S.budget, v, .map (some (wA.heap.size + 1)), .map (some wA.heap.size)] 64)) where
  gr := ((gw.allocMap _ _).allocMap _ _).alloc _ _
  top := by
    have := heap_alloc_new ((wA.alloc (.map eg cg)).alloc (.map #[] 0)) (.cells #[.int .i64 S.budget, v, .map (some (wA.heap.size + 1)), .map (some wA.heap.size)] 64)
    simpa using this
  row := ((row.alloc _).alloc _).alloc _
  pm := by
    have := (PMap.made (wA.alloc (.map eg cg))).al (.cells #[.int .i64 S.budget, v, .map (some (wA.heap.size + 1)), .map (some wA.heap.size)] 64)
    simpa using this
  gm := ((UMap.dup (wx := wA) hgm og).al _).al _
  ne := by omega
  l0 := by have := gw.size; omega
  l1 := by have := gw.size; omega
  l2 := gw.size
  l3 := blk

theorem pg_size (p : Pg) : (Try.prog.info? 79).map (·.size) = some p.arr.size := by rw [p.arr_size]; kernel_rfl
theorem pg_zero (p : Pg) : Try.zeroCells79.size = p.arr.size := by rw [p.arr_size]; kernel_rfl
theorem Pg.arr_one (p : Pg) : p.arr.all (·.oneCell') = true := by
  rw [Array.all_eq_true_iff_forall_mem]
  intro x hx
  simp [Pg.arr] at hx
  rcases hx with ⟨i, _, rfl⟩ | rfl | rfl <;> rfl
theorem wpList_store_new {P : Program} {w : World} {ops : Array Oper} {rest : List Oper} {o : Oper} {a : Act} {Q : Exit → Act → World → Prop} {c c' : Array Value} {t : TypeId} (hgd : o.guard = none) (ty : TypeId) (x y : Operand) (ho : o.op = .store ty x y)
    (hx : a.eval x = .pointer (some ⟨w.heap.size, 0, none⟩)) (hy : a.eval y = .agg c') (hi : (P.info? ty).map (·.size) = some c'.size) (hold : c.size = c'.size) (h1 : c'.all (·.oneCell') = true)
    (h : wpList P ops Q rest (a.put o.dst undef) (w.alloc (.cells c' t))) : wpList P ops Q (o :: rest) a (w.alloc (.cells c t)) := by
  refine wpList_store_row hgd ty x y ho w.heap.size c' hx hy t c (heap_alloc_last w _) hi hold h1 ?_
  rw [World.setRow_alloc_new]
  exact h

theorem pd_inj {a b : Option Nat} (h : pd a = pd b) : a = b := by
  cases a <;> cases b <;> simp [pd] at h ⊢
  omega
/-- The loop of Copy under way: r is the iterator's block, f the pages that were copied. -/
structure CPR (wc : World) (S : MS) (L : Lay) (N r bp : Nat) (D : DataW Unit) (left : Lit → Bool) (cnt M : Nat) (f : Int → Option Nat) (wr : World) : Prop where
  rg : wr.ranges Try.prog 28 ptrElem L.bp r N D left cnt
  fr : Fr (fun i => i = bp) wc wr
  pm : PMap wr bp M f
  cM : M + cnt ≤ N
  lf : ∀ k, U4 k → left (.int .u32 k) = true → (L.bk k).isSome
  f1 : ∀ k, U4 k → left (.int .u32 k) = true → f k = none
  f2 : ∀ k, U4 k → left (.int .u32 k) = false → (f k).isSome = (L.bk k).isSome
  f3 : ∀ k b, f k = some b → U4 k ∧ wc.heap.size ≤ b ∧ ∃ p, S.pg k = some p ∧ IsPg wr b p
  inj : ∀ k k' b, f k = some b → f k' = some b → k = k'

theorem frozen_rng {w w' : World} {P : Program} {k : TypeId} {R : Value → Option (DataW Unit × List MemPlace)} {b r n : Nat} {D : DataW Unit} {left left' : Lit → Bool} {cnt cnt' : Nat}
    (h : w.ranges P k R b r n D left cnt) (h' : w'.ranges P k R b r n D left' cnt') (g : w.grownBy w' (some r)) (hs : w'.heap.size = w.heap.size) : ∀ a, w'.frozen? a = w.frozen? a := by
  intro a
  obtain ⟨_, _, _, _, _, _, _, _, _, e1, _⟩ := h
  obtain ⟨_, _, _, _, _, _, _, _, _, e2, _⟩ := h'
  by_cases q : a.block = r
  · simp [World.frozen?, q, e1, e2]
  · by_cases l : a.block < w.heap.size
    · exact World.frozen?_of_block (g.block _ l (fun e => q (by cases e; rfl)))
    · have x1 : w.heap[a.block]? = none := by simp; omega
      have x2 : w'.heap[a.block]? = none := by simp; omega
      simp [World.frozen?, x1, x2]
theorem frozen_rng0 {w w' : World} {P : Program} {k : TypeId} {R : Value → Option (DataW Unit × List MemPlace)} {b n : Nat} {D : DataW Unit} {left' : Lit → Bool} {cnt' : Nat}
    (h' : w'.ranges P k R b w.heap.size n D left' cnt') (g : w.grownBy w' none) (hs : w'.heap.size = w.heap.size + 1) : ∀ a, w'.frozen? a = w.frozen? a := by
  intro a
  obtain ⟨_, _, _, _, _, _, _, _, _, e2, _⟩ := h'
  by_cases q : a.block = w.heap.size
  · have x1 : w.heap[a.block]? = none := by simp; omega
    simp only [World.frozen?, x1]
    rw [q, e2]
  · by_cases l : a.block < w.heap.size
    · exact World.frozen?_of_block (g.block _ l (by simp))
    · have x1 : w.heap[a.block]? = none := by simp; omega
      have x2 : w'.heap[a.block]? = none := by simp; omega
      simp [World.frozen?, x1, x2]

theorem CPR.start {wc w0 : World} {S : MS} {L : Lay} {N bp : Nat} {D : DataW Unit} (rD : ∀ k, U4 k → Maps.has D (.int .u32 k) = (L.bk k).isSome ∧ D.atKey (.int .u32 k) .nil = pd (L.bk k))
    (hp : PMap wc bp 0 (fun _ => none)) (h : w0.ranges Try.prog 28 ptrElem L.bp wc.heap.size N D (Maps.has D) (Maps.size D)) (g : wc.grownBy w0 none) (hs : w0.heap.size = wc.heap.size + 1) :
    CPR wc S L N wc.heap.size bp D (Maps.has D) (Maps.size D) 0 (fun _ => none) w0 where
  rg := h
  fr := ⟨g.os, g.tape, g.output, g.size, fun i hi _ => g.block i hi (by simp), frozen_rng0 h g hs⟩
  pm := hp.congr (g.block bp hp.lt (by simp))
  cM := by have := h.owns.size_le; omega
  lf := fun k hk hl => by rw [(rD k hk).1] at hl; exact hl
  f1 := fun _ _ _ => rfl
  f2 := fun k hk hl => by rw [(rD k hk).1] at hl; simp [hl]
  f3 := fun k b h => by cases h
  inj := fun _ _ _ h => by cases h

/-- What a round finds. -/
theorem CPR.finds {wc wr w1 : World} {mb : Nat} {F : Nat → Prop} {S : MS} {L : Lay} {N bp : Nat} {D : DataW Unit} {left : Lit → Bool} {cnt M : Nat} {f : Int → Option Nat} {x : Int} {cc : Option Nat} {kl : Lit} {y1 : DataW Unit × List MemPlace}
    (h : OwnL wc mb F N S L) (hl1 : ∀ i, F i → i < bp) (hbp : bp < wc.heap.size) (rD : ∀ k, U4 k → Maps.has D (.int .u32 k) = (L.bk k).isSome ∧ D.atKey (.int .u32 k) .nil = pd (L.bk k))
    (hc : CPR wc S L N wc.heap.size bp D left cnt M f wr) (hkey : keyOf Try.prog 28 (.int .u32 x) = some kl) (hlx : left kl = true) (hv : ptrElem (pv cc) = some y1) (hat : ∀ zd, D.atKey kl zd = y1.1) (hg1 : wr.grownBy w1 (some wc.heap.size)) :
    U4 x ∧ kl = .int .u32 x ∧ ∃ b p, cc = some b ∧ S.pg x = some p ∧ IsPg w1 b p := by
  obtain ⟨x', e, rfl, hw⟩ := Maps.keyOf_int_inv Try.underlying28 hkey
  cases e
  have hx : U4 x := by
    simp [Lit.wf, IntKind.wrap] at hw
    have a1 : IntKind.u32.min = 0 := by decide
    have a2 : IntKind.u32.max = 4294967295 := by decide
    unfold U4
    revert hw
    simp [a1, a2]
    omega
  refine ⟨hx, rfl, ?_⟩
  have e1 := hat .nil
  rw [(rD x hx).2] at e1
  rw [ptrElem_mk] at hv
  cases hv
  have e2 := pd_inj e1
  have hs := hc.lf x hx hlx
  cases hb : L.bk x with
  | none => rw [hb] at hs; cases hs
  | some b =>
    obtain ⟨p, q1, q2, q3⟩ := h.pgs x b hb
    have lb := h.lt b q3
    have := hl1 b q3
    refine ⟨b, p, e2.symm.trans hb, q1, ?_⟩
    unfold IsPg
    rw [hg1.block b (Nat.lt_of_lt_of_le lb hc.fr.size) (fun e => by cases e; omega), hc.fr.block b lb (by omega)]
    exact q2

/-- A round. -/
theorem CPR.round {wc wr w1 w2 : World} {S : MS} {L : Lay} {N bp : Nat} {D : DataW Unit} {left : Lit → Bool} {cnt cnt1 M : Nat} {f : Int → Option Nat} {x : Int} {p : Pg}
    (hbp : bp < wc.heap.size) (hne : L.bp ≠ bp) (hLb : L.bp < wc.heap.size) (hc : CPR wc S L N wc.heap.size bp D left cnt M f wr) (hx : U4 x) (hlx : left (.int .u32 x) = true) (hpg : S.pg x = some p)
    (hrg1 : w1.ranges Try.prog 28 ptrElem L.bp wc.heap.size N D (fun z => left z && !z.sameKey (.int .u32 x)) cnt1) (hlt : cnt1 < cnt) (hg1 : wr.grownBy w1 (some wc.heap.size)) (hs1 : w1.heap.size = wr.heap.size)
    {wA : World} (gA : Gr (w1.alloc (.cells p.arr 79)) wA) (hP2 : PMap w2 bp (M + 1) (upd f x (some w1.heap.size))) (hT : wA.mapTurned w2 bp) :
    CPR wc S L N wc.heap.size bp D (fun z => left z && !z.sameKey (.int .u32 x)) cnt1 (M + 1) (upd f x (some w1.heap.size)) w2 := by
  have hrs := hc.fr.size
  have hrl := hrg1.lt
  have F1 : Fr (fun i => i = wc.heap.size) wr w1 := ⟨hg1.os, hg1.tape, hg1.output, hg1.size, fun i hi hn => hg1.block i hi (fun e => hn (by cases e; rfl)), frozen_rng hc.rg hrg1 hg1 hs1⟩
  have gB : Gr w1 wA := ((Gr.refl w1).alloc _ _).trans gA
  have F2 : Fr (fun i => i = bp) wA w2 := mapTurned_fr hT _ rfl
  have F3 : Fr (fun i => i = bp) w1 w2 := (gB.fr _).trans F2 (fun _ _ h => h)
  have ksame : ∀ k : Int, (Lit.int .u32 k).sameKey (.int .u32 x) = decide (k = x) := fun k => by simp [Lit.sameKey]
  have hpgs : ∀ b q, b ≠ bp → b ≠ wc.heap.size → IsPg wr b q → IsPg w2 b q := fun b q n1 n2 hq => by
    have l := hq.lt
    unfold IsPg
    rw [F3.block b (by omega) n1, F1.block b l n2]
    exact hq
  exact {
    rg := (hrg1.kept (row := none) (w' := wA) ⟨gB.b.os, gB.b.tape, gB.b.output, gB.b.size, fun i hi _ => gB.b.block i hi⟩ (by simp) (by simp)).kept hT.grown (fun e => hne (by cases e; rfl)) (fun e => by cases e; omega)
    fr := (hc.fr.trans F1 (fun i hi e => by omega)).trans F3 (fun _ _ h => h)
    pm := hP2
    cM := by have := hc.cM; omega
    lf := fun k hk hl => hc.lf k hk (by simp at hl; exact hl.1)
    f1 := fun k hk hl => by
      simp only [Bool.and_eq_true, ksame, Bool.not_eq_true', decide_eq_false_iff_not] at hl
      rw [upd_other _ _ hl.2]
      exact hc.f1 k hk hl.1
    f2 := fun k hk hl => by
      by_cases e : k = x
      · subst e
        rw [upd_same]
        simpa using (hc.lf k hk hlx).symm
      · rw [upd_other _ _ e]
        refine hc.f2 k hk ?_
        simpa [ksame, e] using hl
    f3 := fun k b hb => by
      by_cases e : k = x
      · subst e
        rw [upd_same] at hb
        cases hb
        refine ⟨hx, by omega, p, hpg, ?_⟩
        have l1 : w1.heap.size < (w1.alloc (.cells p.arr 79)).heap.size := by simp
        unfold IsPg
        rw [F2.block _ (Nat.lt_of_lt_of_le l1 gA.size) (by omega), gA.b.block _ l1]
        exact heap_alloc_new w1 _
      · rw [upd_other _ _ e] at hb
        obtain ⟨q1, q2, q, q3, q4⟩ := hc.f3 k b hb
        refine ⟨q1, q2, q, q3, hpgs b q (by omega) (fun z => ?_) q4⟩
        obtain ⟨_, _, _, _, _, _, _, _, _, e2, _⟩ := hc.rg
        rw [← z, show wr.heap[b]? = _ from q4] at e2
        cases e2
    inj := fun k k' b hb hb' => by
      have low : ∀ j c, f j = some c → c < w1.heap.size := fun j c hj => by
        obtain ⟨_, _, q, _, q4⟩ := hc.f3 j c hj
        have := q4.lt
        omega
      by_cases e : k = x
      · by_cases e' : k' = x
        · rw [e, e']
        · rw [e, upd_same] at hb
          rw [upd_other _ _ e'] at hb'
          cases hb
          have := low _ _ hb'
          omega
      · rw [upd_other _ _ e] at hb
        by_cases e' : k' = x
        · rw [e', upd_same] at hb'
          cases hb'
          have := low _ _ hb
          omega
        · rw [upd_other _ _ e'] at hb'
          exact hc.inj k k' b hb hb' }

/-- Behind the loop: the copy is that memory, in blocks of its own. -/
theorem CPR.fin {w wc wr : World} {mb nb bp bg : Nat} {F : Nat → Prop} {S : MS} {L : Lay} {N : Nat} {v : Value} {D : DataW Unit} {left : Lit → Bool} {cnt M : Nat} {f : Int → Option Nat}
    (h : OwnL w mb F N S L) (hC : CR w S N nb v bp bg wc) (hc : CPR wc S L N wc.heap.size bp D left cnt M f wr) (hl : ∀ kl, left kl = false) :
    Gr w wr ∧ Own wr nb (fun i => w.heap.size ≤ i ∧ i < wr.heap.size) N S := by
  have hfr := hc.fr
  have s1 := hfr.size
  have s0 := hC.gr.size
  have l1 := hC.l1
  have hnb : nb ≠ bp := fun e => by obtain ⟨_, _, x⟩ := hC.pm.isMapObj; rw [← e, hC.top] at x; cases x
  have hnl : nb < wc.heap.size := (Array.getElem?_eq_some_iff.1 hC.top).1
  have hbp : bp < wc.heap.size := hC.pm.lt
  have hbg : bg < wc.heap.size := hC.gm.lt
  have hv : ∀ g, v.ownBlock = some g → g ≠ bp ∧ g < wc.heap.size := fun g hg => by
    obtain ⟨c, hcg⟩ := row_obj hC.row hg
    refine ⟨fun e => ?_, (Array.getElem?_eq_some_iff.1 hcg).1⟩
    obtain ⟨_, _, x⟩ := hC.pm.isMapObj
    rw [← e, hcg] at x
    cases x
  refine ⟨((hC.gr.fr (fun i => i = bp)).trans hfr (fun _ _ e => e)).gr (fun i hi e => by omega), ⟨v, bp, bg, f⟩, ?_⟩
  exact {
    top := (hfr.block nb hnl hnb).trans hC.top
    row := row_congr hC.row (fun g hg => hfr.block g (hv g hg).2 (hv g hg).1)
    pm := hc.pm.mono (by have := hc.cM; omega)
    gm := hC.gm.congr (hfr.block bg hbg (fun e => hC.ne e.symm))
    ne := hC.ne
    pgs := fun k b hb => by
      obtain ⟨_, q2, p, q3, q4⟩ := hc.f3 k b hb
      have := q4.lt
      exact ⟨p, q3, q4, by omega, this⟩
    non := fun k hk => by
      cases hq : S.pg k with
      | none => rfl
      | some p =>
        have hm : k ∈ S.th := (h.ok.mem k).1 (by simp [hq])
        have hr := h.ok.rng k hm
        have hu : U4 k := by unfold U4; omega
        obtain ⟨b, hb, _⟩ := h.pgb hq
        have := hc.f2 k hu (hl _)
        simp only at hk
        rw [hk, hb] at this
        cases this
    inj := hc.inj
    Fm := ⟨hC.l0, by omega⟩
    Fp := ⟨hC.l1, by show bp < wr.heap.size; omega⟩
    Fg := ⟨hC.l2, by show bg < wr.heap.size; omega⟩
    Fv := fun g hg => ⟨hC.l3 g hg, by have := (hv g hg).2; omega⟩
    lt := fun i hi => hi.2
    ok := h.ok }
end Go.Proofs.Ytlnfgdbondmglaa
