/- WHAT Map DOES TO THE BLOCKS: outside the walk. -/
import Derived.Test.YthicidkjhpnleaaMemW5
import Derived.Deep.OwnRows
namespace Go.Proofs.Ythicidkjhpnleaa
open Go.ChangeShapes Go.WideShapes Go.ChangeAt Go.RowKit
set_option linter.unusedSimpArgs false
set_option linter.unusedVariables false

theorem row_shape {w : World} {v : Value} {n : Nat} {e : TypeId} {xs : List Value} (h : w.ownsRow 0 e 1 v n xs) : ∃ q cap, v = .slice q n cap := by
  rcases h.2 with ⟨rfl, rfl⟩ | ⟨g, cap, cur, rfl, _⟩
  · exact ⟨_, _, rfl⟩
  · exact ⟨_, _, rfl⟩

def news (f : Int) (c : Nat) : List Int := (List.range c).map (fun j : Nat => f + (j : Int))
theorem news_length (f : Int) (c : Nat) : (news f c).length = c := by simp [news]
theorem mem_news {f : Int} {c : Nat} {k : Int} : k ∈ news f c ↔ f ≤ k ∧ k < f + c := by
  simp only [news, List.mem_map, List.mem_range]
  constructor
  · rintro ⟨j, h1, rfl⟩; omega
  · intro h; exact ⟨(k - f).toNat, by omega, by omega⟩
theorem news_rise (f : Int) (c : Nat) : (news f c).Pairwise (· < ·) := by
  unfold news
  rw [List.pairwise_map]
  exact List.Pairwise.imp (fun h => by omega) (List.pairwise_lt_range)
def laidArr (f : Int) (c m : Nat) : Array Value := ((List.range c).map (fun j : Nat => Value.int .u32 (if j < m then f + (j : Int) else 0))).toArray
theorem laid_at {f : Int} {c m j : Nat} (h : j < c) : (laidArr f c m)[j]? = some (.int .u32 (if j < m then f + j else 0)) := by
  simp [laidArr, h]
theorem laid_set {f : Int} {c m : Nat} (h : m < c) : (laidArr f c m).setIfInBounds m (.int .u32 (f + m)) = laidArr f c (m + 1) := by
  apply Array.ext_getElem?
  intro j
  by_cases hj : j < c
  · rw [Array.getElem?_setIfInBounds, laid_at hj]
    by_cases e : m = j
    · subst e; simp [laidArr, h]
    · rw [if_neg e, laid_at hj]
      by_cases e2 : j < m
      · rw [if_pos e2, if_pos (by omega)]
      · rw [if_neg e2, if_neg (by omega)]
  · have s1 : (laidArr f c m).size = c := by simp [laidArr]
    have s2 : (laidArr f c (m + 1)).size = c := by simp [laidArr]
    rw [Array.getElem?_eq_none (by simp [s1]; omega), Array.getElem?_eq_none (by omega)]
theorem laid_all (f : Int) (c : Nat) : laidArr f c c = ((news f c).map (Value.int .u32)).toArray := by
  unfold laidArr news
  rw [List.map_map]
  congr 1
  apply List.map_congr_left
  intro j hj
  simp at hj
  simp [hj]
theorem laid_zero (f : Int) (c : Nat) : madeCells #[Value.int .u32 0] c = laidArr f c 0 := by
  apply Array.ext'
  rw [toList_madeCells_one]
  unfold laidArr
  apply List.ext_getElem?
  intro j
  by_cases hj : j < c
  · simp [List.getElem?_replicate, hj]
  · simp [List.getElem?_replicate, hj]

structure MapRel (w2 : World) (L : Lay) (N : Nat) (g : Int → Int) (f : Int) (c : Nat) (perm : Int) (m : Nat) (wr : World) : Prop where
  fr : Fr (fun i => i = L.bp ∨ i = L.bg) w2 wr
  laid : wr.heap[w2.heap.size]? = some (.cells (laidArr f c m) 24 (0, 0))
  pm : ∃ bk', PMap wr L.bp (N + m) bk' ∧ (∀ k, ¬ (f ≤ k ∧ k < f + m) → bk' k = L.bk k) ∧ (∀ k, f ≤ k ∧ k < f + m → ∃ b, bk' k = some b ∧ IsPg wr b (Pg.fresh perm ((g k + 1) % 4294967296)) ∧ w2.heap.size ≤ b) ∧
    (∀ k k' b, f ≤ k ∧ k < f + m → f ≤ k' ∧ k' < f + m → bk' k = some b → bk' k' = some b → k = k')
  gm : UMap wr L.bg (N + m) (fun k => if f ≤ k ∧ k < f + m then 0 else g k)

theorem MapRel.step {w2 wr w4 : World} {L : Lay} {N : Nat} {g : Int → Int} {f : Int} {c : Nat} {perm : Int} {m : Nat} (hm : m < c) (lb : L.bp < w2.heap.size) (lg : L.bg < w2.heap.size)
    (fr : Fr (fun i => i = L.bp ∨ i = L.bg) w2 wr) (laid : wr.heap[w2.heap.size]? = some (.cells (laidArr f c m) 24 (0, 0))) {bk' : Int → Option Nat}
    (p2 : ∀ k, ¬ (f ≤ k ∧ k < f + m) → bk' k = L.bk k) (p3 : ∀ k, f ≤ k ∧ k < f + m → ∃ b, bk' k = some b ∧ IsPg wr b (Pg.fresh perm ((g k + 1) % 4294967296)) ∧ w2.heap.size ≤ b)
    (p4 : ∀ k k' b, f ≤ k ∧ k < f + m → f ≤ k' ∧ k' < f + m → bk' k = some b → bk' k' = some b → k = k')
    {b : Nat} (b1 : (wr.setCell ⟨w2.heap.size, m, none⟩ (.int .u32 (f + m))).heap.size ≤ b) (_b2 : b < w4.heap.size)
    (fr4 : Fr (fun i => i = L.bp ∨ i = L.bg) (wr.setCell ⟨w2.heap.size, m, none⟩ (.int .u32 (f + m))) w4) (P4 : PMap w4 L.bp (N + m + 1) (upd bk' (f + m) (some b)))
    (G4 : UMap w4 L.bg (N + m) (upd (fun k => if f ≤ k ∧ k < f + m then 0 else g k) (f + m) 0)) (I4 : IsPg w4 b (Pg.fresh perm ((g (f + m) + 1) % 4294967296))) : MapRel w2 L N g f c perm (m + 1) w4 := by
  have hlt : w2.heap.size < wr.heap.size := (Array.getElem?_eq_some_iff.1 laid).1
  have sz : (wr.setCell ⟨w2.heap.size, m, none⟩ (.int .u32 (f + m))).heap.size = wr.heap.size := by simp
  rw [sz] at b1
  refine ⟨?_, ?_, ⟨_, P4, fun k hk => ?_, fun k hk => ?_, fun k k' x hk hk' e1 e2 => ?_⟩, ?_⟩
  · exact (fr.setCell (.inr (Nat.le_refl _)) _).trans fr4 (fun _ _ h => h)
  · rw [fr4.block _ (by rw [sz]; exact hlt) (by omega), heap_setCell_same laid, laid_set hm]
  · rw [upd_other _ _ (by omega)]; exact p2 k (by omega)
  · by_cases e : k = f + m
    · subst e; exact ⟨b, upd_same _ _ _, I4, by omega⟩
    · obtain ⟨x, x1, x2, x3⟩ := p3 k (by omega)
      refine ⟨x, (upd_other _ _ e).trans x1, ?_, x3⟩
      have xl := x2.lt
      have ne : x ≠ w2.heap.size := fun y => by subst y; rw [show wr.heap[w2.heap.size]? = _ from x2] at laid; simp at laid
      unfold IsPg
      rw [fr4.block _ (by rw [sz]; exact xl) (by omega), Below.heap_setCell _ _ _ _ ne]
      exact x2
  · have old : ∀ y, f ≤ y ∧ y < f + m → bk' y = some x → x < wr.heap.size := by
      intro y hy ey
      obtain ⟨z, z1, z2, _⟩ := p3 y hy
      rw [z1] at ey; cases ey
      exact z2.lt
    by_cases e : k = f + m <;> by_cases e' : k' = f + m
    · omega
    · rw [e, upd_same] at e1
      rw [upd_other _ _ e'] at e2
      have := old k' (by omega) e2
      cases e1; omega
    · rw [upd_other _ _ e] at e1
      rw [e', upd_same] at e2
      have := old k (by omega) e1
      cases e2; omega
    · rw [upd_other _ _ e] at e1
      rw [upd_other _ _ e'] at e2
      exact p4 k k' x (by omega) (by omega) e1 e2
  · have : (upd (fun k => if f ≤ k ∧ k < f + m then 0 else g k) (f + m) 0) = (fun k => if f ≤ k ∧ k < f + ((m + 1 : Nat) : Int) then 0 else g k) := by
      funext k
      unfold upd
      by_cases e : k = f + m
      · rw [if_pos e, if_pos (by omega)]
      · rw [if_neg e]
        show (if f ≤ k ∧ k < f + m then 0 else g k) = _
        by_cases e2 : f ≤ k ∧ k < f + m
        · rw [if_pos e2, if_pos (by omega)]
        · rw [if_neg e2, if_neg (by omega)]
    rw [← this]; exact G4.mono (by omega)

/-- The memory behind a Map. -/
def MS.map (S : MS) (f : Int) (c : Nat) (perm : Int) : MS :=
  ⟨S.budget, S.th.take (lb S.th f) ++ news f c ++ S.th.drop (lb S.th f),
   fun k => if f ≤ k ∧ k < f + c then some (Pg.fresh perm ((S.gone k + 1) % 4294967296)) else S.pg k,
   fun k => if f ≤ k ∧ k < f + c then 0 else S.gone k⟩
def Add (F : Nat → Prop) (w w' : World) : Nat → Prop := fun i => F i ∨ (w.heap.size ≤ i ∧ i < w'.heap.size)

theorem mem_getD {l : List Int} {k : Int} (h : k ∈ l) : ∃ m, m < l.length ∧ l[m]?.getD 0 = k := by
  obtain ⟨m, hm, e⟩ := List.getElem_of_mem h
  exact ⟨m, hm, by simp [hm, e]⟩
/-- No number of the list lies between f and f + c, if both would stand at one place. -/
theorem between {th : List Int} (hs : th.Pairwise (· < ·)) {f : Int} {c : Nat} (he : lb th f = lb th (f + c)) : ∀ k ∈ th, ¬ (f ≤ k ∧ k < f + c) := by
  intro k hk hx
  obtain ⟨m, hm, rfl⟩ := mem_getD hk
  obtain ⟨_, h2, h3⟩ := At_lb hs f
  obtain ⟨_, k2, k3⟩ := At_lb hs (f + c)
  by_cases e : m < lb th f
  · have := h2 m e; omega
  · have := k3 m (by omega) hm; omega
theorem take_lt {th : List Int} (hs : th.Pairwise (· < ·)) (f : Int) : ∀ k ∈ th.take (lb th f), k < f := by
  intro k hk
  obtain ⟨m, hm, e⟩ := List.getElem_of_mem hk
  have h2 := (At_lb hs f).2.1 m (by simp at hm; omega)
  have hm2 : m < th.length := by simp at hm; omega
  rw [List.getElem_take] at e
  simpa [hm2, e] using h2
theorem drop_ge {th : List Int} (hs : th.Pairwise (· < ·)) (f : Int) : ∀ k ∈ th.drop (lb th f), f ≤ k := by
  intro k hk
  obtain ⟨m, hm, e⟩ := List.getElem_of_mem hk
  have h3 := (At_lb hs f).2.2 (lb th f + m) (by omega) (by simp at hm; omega)
  simp at hm
  rw [List.getElem_drop] at e
  simpa [show lb th f + m < th.length by omega, e] using h3
theorem MS.map_ok {S : MS} (h : S.Ok) {f : Int} {c : Nat} {perm : Int} (hp : 0 ≤ perm ∧ perm ≤ 7) (hf : 0 ≤ f ∧ f + c ≤ 16777216) (he : lb S.th f = lb S.th (f + c)) (hb : (S.th.length : Int) + c ≤ S.budget) : (S.map f c perm).Ok := by
  have hbt := between h.rise he
  have htk := take_lt h.rise f
  have hdp := drop_ge h.rise f
  have hdp2 : ∀ k ∈ S.th.drop (lb S.th f), f + c ≤ k := fun k hk => by have := hdp k hk; have := hbt k (List.mem_of_mem_drop hk); omega
  refine ⟨h.budget, ?_, ?_, ?_, ?_, ?_⟩
  · simp only [MS.map, List.length_append, news_length, List.length_take, List.length_drop]
    have := (At_lb h.rise f).1
    omega
  · simp only [MS.map]
    rw [List.pairwise_append, List.pairwise_append]
    refine ⟨⟨h.rise.sublist (List.take_sublist _ _), news_rise _ _, fun a ha b hb => ?_⟩, h.rise.sublist (List.drop_sublist _ _), fun a ha b hb => ?_⟩
    · have := htk a ha; have := mem_news.1 hb; omega
    · have := hdp2 b hb
      rcases List.mem_append.1 ha with ha | ha
      · have := htk a ha; omega
      · have := mem_news.1 ha; omega
  · intro k hk
    simp only [MS.map, List.mem_append] at hk
    rcases hk with (hk | hk) | hk
    · exact h.rng k (List.mem_of_mem_take hk)
    · have := mem_news.1 hk; omega
    · exact h.rng k (List.mem_of_mem_drop hk)
  · intro k
    simp only [MS.map, List.mem_append]
    by_cases e : f ≤ k ∧ k < f + c
    · simp [e, mem_news]
    · rw [if_neg e, h.mem]
      constructor
      · intro hk
        rw [← List.take_append_drop (lb S.th f) S.th] at hk
        rcases List.mem_append.1 hk with hk | hk
        · exact .inl (.inl hk)
        · exact .inr hk
      · rintro ((hk | hk) | hk)
        · exact List.mem_of_mem_take hk
        · exact absurd (mem_news.1 hk) e
        · exact List.mem_of_mem_drop hk
  · intro k p hk
    simp only [MS.map] at hk
    by_cases e : f ≤ k ∧ k < f + c
    · rw [if_pos e] at hk
      cases hk
      exact ⟨fun _ => by simp [Pg.fresh], ⟨hp.1, by simp [Pg.fresh]; omega⟩, U4.inc⟩
    · rw [if_neg e] at hk
      exact h.pg k p hk

/-- All laid: the memory as it is then. -/
theorem Map_fin {w w2 wr w5 : World} {mb : Nat} {F : Nat → Prop} {N : Nat} {S : MS} {L : Lay} {f : Int} {c : Nat} {perm : Int} {v' : Value} (h2 : OwnL w2 mb F N S L) (h0 : Fr F w w2)
    (hp : 0 ≤ perm ∧ perm ≤ 7) (hf : 0 ≤ f ∧ f + c ≤ 16777216) (he : lb S.th f = lb S.th (f + c)) (hb : (S.th.length : Int) + c ≤ S.budget)
    (hR : MapRel w2 L N S.gone f c perm c wr) (hrow : w5.ownsRow 0 24 1 v' (S.th.length + c) ((S.th.take (lb S.th f) ++ news f c ++ S.th.drop (lb S.th f)).map (Value.int .u32)))
    (hfr : Fr (fun k => L.v.ownBlock = some k) wr w5) (hat : v'.ownBlock = L.v.ownBlock ∨ ∃ k, v'.ownBlock = some k ∧ wr.heap.size ≤ k) :
    Fr F w (w5.setCell ⟨mb, 1, none⟩ v') ∧ Own (w5.setCell ⟨mb, 1, none⟩ v') mb (Add F w (w5.setCell ⟨mb, 1, none⟩ v')) (N + c) (S.map f c perm) := by
  have hbt := between h2.ok.rise he
  obtain ⟨bk', p1, p2, p3, p4⟩ := hR.pm
  have lm := h2.lt _ h2.Fm
  have lp := h2.lt _ h2.Fp
  have lg := h2.lt _ h2.Fg
  obtain ⟨ep, cp, op⟩ := h2.pm.isMapObj
  obtain ⟨eg, cg, og⟩ := h2.gm.isMapObj
  have top := h2.top
  have nmp : mb ≠ L.bp := fun e => by rw [e, op] at top; simp at top
  have nmg : mb ≠ L.bg := fun e => by rw [e, og] at top; simp at top
  have nmv : ∀ g, L.v.ownBlock = some g → g ≠ mb ∧ g ≠ L.bp ∧ g ≠ L.bg := fun g hg => by
    obtain ⟨cc, oc⟩ := row_obj h2.row hg
    exact ⟨fun e => by rw [← e, oc] at top; simp at top, fun e => by rw [← e, oc] at op; simp at op, fun e => by rw [← e, oc] at og; simp at og⟩
  have szr := hR.fr.size
  have sz5 := hfr.size
  have szs : (w5.setCell ⟨mb, 1, none⟩ v').heap.size = w5.heap.size := by simp
  -- old blocks of F
  have FR : Fr F w2 (w5.setCell ⟨mb, 1, none⟩ v') := by
    refine Fr.setCell ?_ (.inl h2.Fm) _
    refine (hR.fr.mono (fun i _ e => ?_)).trans hfr (fun i _ e => h2.Fv i e)
    rcases e with e | e
    · rw [e]; exact h2.Fp
    · rw [e]; exact h2.Fg
  have FW : Fr F w (w5.setCell ⟨mb, 1, none⟩ v') := h0.trans FR (fun _ _ h => h)
  have sw := h0.size
  -- a block that none of the steps touched
  have keep : ∀ i, i < wr.heap.size → i ≠ mb → L.v.ownBlock ≠ some i → (w5.setCell ⟨mb, 1, none⟩ v').heap[i]? = wr.heap[i]? := fun i hi n1 n2 => by
    rw [Below.heap_setCell _ _ _ _ n1]; exact hfr.block i hi n2
  have top5 : w5.heap[mb]? = some (.cells #[.int .i64 S.budget, L.v, .map (some L.bp), .map (some L.bg)] 60 (0, 0)) := by
    rw [hfr.block mb (by omega) (fun e => (nmv _ e).1 rfl), hR.fr.block mb lm (by simp [nmp, nmg])]; exact top
  have hF2 : ∀ i, F i → Add F w (w5.setCell ⟨mb, 1, none⟩ v') i := fun i hi => .inl hi
  have hnew : ∀ i, w2.heap.size ≤ i → i < w5.heap.size → Add F w (w5.setCell ⟨mb, 1, none⟩ v') i := fun i h1 h3 => .inr ⟨by omega, by rw [szs]; exact h3⟩
  refine ⟨FW, ⟨v', L.bp, L.bg, bk'⟩, ?_⟩
  exact {
    top := by rw [heap_setCell_same top5]; rfl
    row := by
      have hl : (S.map f c perm).th.length = S.th.length + c := by
        simp only [MS.map, List.length_append, news_length, List.length_take, List.length_drop]
        have := (At_lb h2.ok.rise f).1
        omega
      rw [hl]
      refine row_congr hrow (fun g hg => Below.heap_setCell _ _ _ _ ?_)
      intro e
      obtain ⟨cc, oc⟩ := row_obj hrow hg
      rw [show g = mb from e, top5] at oc
      simp at oc
    pm := p1.congr (keep _ (by omega) (Ne.symm nmp) (fun e => (nmv _ e).2.1 rfl))
    gm := (hR.gm.congr (keep _ (by omega) (Ne.symm nmg) (fun e => (nmv _ e).2.2 rfl))).mono (by omega)
    ne := h2.ne
    pgs := fun k b hb => by
      by_cases e : f ≤ k ∧ k < f + c
      · obtain ⟨x, x1, x2, x3⟩ := p3 k e
        rw [show bk' k = some b from hb] at x1
        cases x1
        refine ⟨_, if_pos e, ?_, hnew _ x3 (Nat.lt_of_lt_of_le x2.lt sz5)⟩
        exact (keep b x2.lt (by omega) (fun e => by have := h2.lt _ (h2.Fv _ e); omega)).trans x2
      · have hb' : L.bk k = some b := (p2 k e).symm.trans hb
        obtain ⟨p, y1, y2, y3⟩ := h2.pgs k b hb'
        have yl := h2.lt b y3
        refine ⟨p, (if_neg e).trans y1, ?_, hF2 b y3⟩
        have n1 : b ≠ mb := fun e => by rw [e] at y2; rw [show w2.heap[mb]? = _ from y2] at top; simp at top
        have n2 : L.v.ownBlock ≠ some b := fun e => by obtain ⟨cc, oc⟩ := row_obj h2.row e; rw [show w2.heap[b]? = _ from y2] at oc; simp at oc
        have n3 : b ≠ L.bp := fun e => by rw [← e, show w2.heap[b]? = _ from y2] at op; simp at op
        have n4 : b ≠ L.bg := fun e => by rw [← e, show w2.heap[b]? = _ from y2] at og; simp at og
        exact ((keep b (by omega) n1 n2).trans (hR.fr.block b yl (by simp [n3, n4]))).trans y2
    non := fun k hk => by
      by_cases e : f ≤ k ∧ k < f + c
      · obtain ⟨x, x1, _⟩ := p3 k e
        rw [show bk' k = none from hk] at x1
        cases x1
      · exact (if_neg e).trans (h2.non k ((p2 k e).symm.trans hk))
    inj := fun k k' b e1 e2 => by
      by_cases x : f ≤ k ∧ k < f + c <;> by_cases x' : f ≤ k' ∧ k' < f + c
      · exact p4 k k' b x x' e1 e2
      · obtain ⟨y, y1, y2, y3⟩ := p3 k x
        rw [show bk' k = some b from e1] at y1; cases y1
        obtain ⟨_, _, _, z3⟩ := h2.pgs k' b ((p2 k' x').symm.trans e2)
        have := h2.lt b z3; omega
      · obtain ⟨y, y1, y2, y3⟩ := p3 k' x'
        rw [show bk' k' = some b from e2] at y1; cases y1
        obtain ⟨_, _, _, z3⟩ := h2.pgs k b ((p2 k x).symm.trans e1)
        have := h2.lt b z3; omega
      · exact h2.inj k k' b ((p2 k x).symm.trans e1) ((p2 k' x').symm.trans e2)
    Fm := hF2 _ h2.Fm
    Fp := hF2 _ h2.Fp
    Fg := hF2 _ h2.Fg
    Fv := fun g hg => by
      rcases hat with e | ⟨k, e, hk⟩
      · exact hF2 _ (h2.Fv g (e.symm.trans hg))
      · rw [show v'.ownBlock = some g from hg] at e; cases e
        exact hnew _ (by omega) (by obtain ⟨cc, oc⟩ := row_obj hrow hg; exact (Array.getElem?_eq_some_iff.1 oc).1)
    lt := fun i hi => by
      rcases hi with hi | hi
      · have := h2.lt i hi; rw [szs]; omega
      · exact hi.2
    ok := MS.map_ok h2.ok hp hf he hb }
end Go.Proofs.Ythicidkjhpnleaa
