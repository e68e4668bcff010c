/- ROWS OF ONE-CELL ELEMENTS: append, with what it leaves of the world (Fr). · THE WALKS OF LAYER 3: slices.Insert at the end; Map. · WHAT Map DOES TO THE BLOCKS: outside the walk. · THE WALKS OF LAYER 3: Map. · THE WALKS OF LAYER 3: Map refused; the first law. · THE LAWS OF LAYER 3: what a law holds in its hands; awake. -/
import Derived.Test.YtbackacbdfgdoaaDoorK4
import Derived.Maps.AppendAt
import Derived.Deep.OwnRows
namespace Go.Proofs.YtbackacbdfgdoaaDoor
open Go.ChangeShapes Go.WideShapes Go.ChangeAt Go.RowKit
set_option linter.unusedSimpArgs false
set_option linter.unusedVariables false

theorem setRow_fr (w : World) (g : Nat) (cs : Array Value) : Fr (fun k => k = g) w (w.setRow g cs) := by
  refine ⟨rfl, rfl, rfl, by simp [World.setRow], fun i _ hn => setRow_other w g i cs hn, fun a => ?_⟩
  unfold World.frozen?
  by_cases e : a.block = g
  · subst e
    cases hb : w.heap[a.block]? with
    | none => simp [World.setRow, Array.getElem?_modify, hb]
    | some o => cases o <;> simp [World.setRow, Array.getElem?_modify, hb]
  · rw [setRow_other w g _ cs e]

theorem append_fr (w : World) {t ty e : TypeId} {i : TypeInfo} {z : Value} {bytes : Nat} (ht : Tryd.prog.underlying t = some (.slice e)) (hi : Tryd.prog.info? e = some i) (hz : i.zero = some z)
    (hsize : i.size = 1) (hby : i.bytes = bytes) (hzs : z.cells.size = 1)
    {v : Value} {n : Nat} {xs : List Value} (hown : w.ownsRow 0 e 1 v n xs)
    (a : Addr) (m c : Nat) (news : List Value) (hl : news.length = m) (hnews : ∀ j u, news[j]? = some u → w.cell? (a.add j) = some u) (h1 : ∀ u ∈ news, u.oneCell' = true)
    (hm : 0 < m) (hb : (n + m) * bytes ≤ 1000000000) (h63 : n + m ≤ 1000000000) :
    ∃ v' w', (Builtin.append_ #[t, t] ty #[v, .slice (some a) m c]).run Tryd.prog w = .ok v' w' ∧ w'.ownsRow 0 e 1 v' (n + m) (xs ++ news) ∧ Fr (fun k => v.ownBlock = some k) w w' ∧
      (v'.ownBlock = v.ownBlock ∨ v'.ownBlock = some w.heap.size) := by
  have hM : n + m ≤ maxLen := by unfold maxLen; omega
  obtain ⟨v', w', hr, h2, h3, _, h5⟩ := run_append_own_at (P := Tryd.prog) w 0 t ty e i z 1 bytes ht hi hz hsize hby hzs (by omega) v n xs hown a m c news (by omega) hnews h1 hM (by omega) (Nat.zero_le _)
  refine ⟨v', w', hr, h2, ⟨h3.os, h3.tape, h3.output, h3.size, fun k hk hn => h3.block k hk (fun e => hn e.symm), ?_⟩, h5⟩
  have al : ∀ cs : Array Value, w' = w.drew.alloc (.cells cs e) → ∀ x, w'.frozen? x = w.frozen? x := by
    rintro cs rfl x
    exact (frozen?_alloc_cells w.drew cs e x).trans rfl
  rcases hown.2 with ⟨rfl, rfl⟩ | ⟨g, cap, cur, rfl, _, hg, hnc, hcm, hcs, htake⟩
  · have hr2 := run_append_nil (P := Tryd.prog) w t ty e i z ht hi hz a m c news (by rw [hsize]; omega) hnews hm (by omega) (by rw [hby]; simp only [Nat.zero_add] at hb; omega)
    rw [hr] at hr2
    injection hr2 with _ e2
    exact al _ e2
  · by_cases hroom : n + m ≤ cap
    · have hr2 := run_append_room (P := Tryd.prog) w t ty e i ht hi g n cap cur hg a m c news (by rw [hsize]; omega) hnews h1 hroom (by rw [hsize]; omega)
      rw [hr] at hr2
      injection hr2 with _ e2
      rw [e2]
      exact (setRow_fr w g _).frozen
    · have hr2 := run_append_grow (P := Tryd.prog) w t ty e i z ht hi hz ⟨g, 0, none⟩ n cap xs (by rw [hsize]; exact hown.1) (hown.cells (g := g) rfl) a m c news (by rw [hsize]; omega) hnews (by omega) (by omega) (growslice_fits (by omega) (by rw [hby]; omega))
      rw [hr] at hr2
      injection hr2 with _ e2
      exact al _ e2
theorem infoU : (Tryd.prog.info? 25).map (fun i => (i.zero, i.size, i.bytes)) = some (some (.int .u32 0), 1, 4) := by kernel_rfl
theorem infoB : (Tryd.prog.info? 5).map (fun i => (i.zero, i.size, i.bytes)) = some (some (.int .u8 0), 1, 1) := by kernel_rfl
/-- A block's cells as those that append reads. -/
theorem news_of {w : World} {g : Nat} {cs : Array Value} {e : TypeId} {f : Nat × Nat} (h : w.heap[g]? = some (.cells cs e f)) : ∀ j u, cs.toList[j]? = some u → w.cell? ((⟨g, 0, none⟩ : Addr).add j) = some u := by
  intro j u hu
  have hadd : (⟨g, 0, none⟩ : Addr).add j = ⟨g, j, none⟩ := by unfold Addr.add; split <;> simp_all
  rw [hadd, cell_of_row w g j cs e f h]
  simpa using hu
theorem wpList_append_eq {P : Program} {w w' : World} {ops : Array Oper} {rest : List Oper} {o : Oper} {a : Act} {Q : Exit → Act → World → Prop} (hgd : o.guard = none) (s x : Operand) (t : TypeId)
    (ho : o.op = .call { callee := .builtin .append, args := #[s, x], argTypes := #[t, t] }) {v xv v' : Value} (hs : a.eval s = v) (hx : a.eval x = xv)
    (hr : (Builtin.append_ #[t, t] o.type #[v, xv]).run P w = .ok v' w') (h : wpList P ops Q rest (a.put o.dst v') w') : wpList P ops Q (o :: rest) a w := by
  refine wpList_plain hgd fun K hK => ?_
  unfold Oper.wp execOp
  simp only [ho, resolve, invoke, builtin, Sem.run_bind, Sem.run_pure, Result.andThen_ok, List.map_toArray, List.map_cons, List.map_nil, hs, hx, hr]
  exact hK _ _ h
theorem wpList_copy_eq {P : Program} {w w' : World} {ops : Array Oper} {rest : List Oper} {o : Oper} {a : Act} {Q : Exit → Act → World → Prop} (hgd : o.guard = none) (s x : Operand) (t : TypeId)
    (ho : o.op = .call { callee := .builtin .copy, args := #[s, x], argTypes := #[t, t] }) {v xv v' : Value} (hs : a.eval s = v) (hx : a.eval x = xv)
    (hr : (Builtin.copy_ #[t, t] o.type #[v, xv]).run P w = .ok v' w') (h : wpList P ops Q rest (a.put o.dst v') w') : wpList P ops Q (o :: rest) a w := by
  refine wpList_plain hgd fun K hK => ?_
  unfold Oper.wp execOp
  simp only [ho, resolve, invoke, builtin, Sem.run_bind, Sem.run_pure, Result.andThen_ok, List.map_toArray, List.map_cons, List.map_nil, hs, hx, hr]
  exact hK _ _ h
theorem append_frs (w : World) (sz : Nat) (hsz0 : 0 < sz) {t ty e : TypeId} {i : TypeInfo} {z : Value} {bytes : Nat} (ht : Tryd.prog.underlying t = some (.slice e)) (hi : Tryd.prog.info? e = some i) (hz : i.zero = some z)
    (hsize : i.size = sz) (hby : i.bytes = bytes) (hzs : z.cells.size = sz)
    {v : Value} {n : Nat} {xs : List Value} (hown : w.ownsRow 0 e sz v n xs)
    (a : Addr) (m c : Nat) (news : List Value) (hl : news.length = m * sz) (hnews : ∀ j u, news[j]? = some u → w.cell? (a.add j) = some u) (h1 : ∀ u ∈ news, u.oneCell' = true)
    (hm : 0 < m) (hb : (n + m) * bytes ≤ 1000000000) (h63 : n + m ≤ 1000000000) :
    ∃ v' w', (Builtin.append_ #[t, t] ty #[v, .slice (some a) m c]).run Tryd.prog w = .ok v' w' ∧ w'.ownsRow 0 e sz v' (n + m) (xs ++ news) ∧ Fr (fun k => v.ownBlock = some k) w w' ∧
      (v'.ownBlock = v.ownBlock ∨ v'.ownBlock = some w.heap.size) := by
  have hM : n + m ≤ maxLen := by unfold maxLen; omega
  obtain ⟨v', w', hr, h2, h3, _, h5⟩ := run_append_own_at (P := Tryd.prog) w 0 t ty e i z sz bytes ht hi hz hsize hby hzs hsz0 v n xs hown a m c news hl hnews h1 hM (by omega) (Nat.zero_le _)
  refine ⟨v', w', hr, h2, ⟨h3.os, h3.tape, h3.output, h3.size, fun k hk hn => h3.block k hk (fun e => hn e.symm), ?_⟩, h5⟩
  have al : ∀ cs : Array Value, w' = w.drew.alloc (.cells cs e) → ∀ x, w'.frozen? x = w.frozen? x := by
    rintro cs rfl x
    exact (frozen?_alloc_cells w.drew cs e x).trans rfl
  rcases hown.2 with ⟨rfl, rfl⟩ | ⟨g, cap, cur, rfl, _, hg, hnc, hcm, hcs, htake⟩
  · have hr2 := run_append_nil (P := Tryd.prog) w t ty e i z ht hi hz a m c news (by rw [hsize]; exact hl) hnews hm (by omega) (by rw [hby]; simp only [Nat.zero_add] at hb; omega)
    rw [hr] at hr2
    injection hr2 with _ e2
    exact al _ e2
  · by_cases hroom : n + m ≤ cap
    · have hr2 := run_append_room (P := Tryd.prog) w t ty e i ht hi g n cap cur hg a m c news (by rw [hsize]; exact hl) hnews h1 hroom (by rw [hsize, hl, hcs, ← Nat.add_mul]; exact Nat.mul_le_mul_right _ hroom)
      rw [hr] at hr2
      injection hr2 with _ e2
      rw [e2]
      exact (setRow_fr w g _).frozen
    · have hr2 := run_append_grow (P := Tryd.prog) w t ty e i z ht hi hz ⟨g, 0, none⟩ n cap xs (by rw [hsize]; exact hown.1) (hown.cells (g := g) rfl) a m c news (by rw [hsize]; exact hl) hnews (by omega) (by omega) (growslice_fits (by omega) (by rw [hby]; omega))
      rw [hr] at hr2
      injection hr2 with _ e2
      exact al _ e2
end Go.Proofs.YtbackacbdfgdoaaDoor
namespace Go.Proofs.YtbackacbdfgdoaaDoor
open Go.ChangeShapes Go.WideShapes Go.ChangeAt Go.RowKit
set_option linter.unusedSimpArgs false
set_option linter.unusedVariables false

/-- What slices.Insert does at place i. -/
def InsSpec (th : List Int) (i : Nat) : Prop := ∀ (w : World) (v : Value) (g : Nat) (news : List Int), news ≠ [] → th.length + news.length ≤ 4096 → w.ownsRow 0 25 1 v th.length (th.map (Value.int .u32)) →
  w.heap[g]? = some (.cells (news.map (Value.int .u32)).toArray 25 (0, 0)) → v.ownBlock ≠ some g →
  Calls Tryd.prog 56 #[v, .int .i64 i, .slice (some ⟨g, 0, none⟩) news.length news.length] w fun e w' => ∃ v', e = .returned v' ∧
    w'.ownsRow 0 25 1 v' (th.length + news.length) ((th.take i ++ news ++ th.drop i).map (Value.int .u32)) ∧ Fr (fun k => v.ownBlock = some k) w w' ∧ (v'.ownBlock = v.ownBlock ∨ ∃ k, v'.ownBlock = some k ∧ w.heap.size ≤ k)

theorem one_u32 (l : List Int) : ∀ u ∈ l.map (Value.int .u32), u.oneCell' = true := by
  intro u hu
  obtain ⟨x, _, rfl⟩ := List.mem_map.1 hu
  rfl

set_option maxRecDepth 100000 in
theorem Insert_end (th : List Int) : InsSpec th th.length := by
  intro w v g news hne hlen hr hg hd
  have hm : 0 < news.length := List.length_pos_iff.2 hne
  obtain ⟨i0, hi, hz0, hz1, hz2⟩ := info_parts infoU
  obtain ⟨v', w', hrun, hown, hfr, hat⟩ := append_fr (t := 29) (ty := 29) w Tryd.underlying29 hi hz0 hz1 hz2 rfl hr ⟨g, 0, none⟩ news.length news.length (news.map (Value.int .u32)) (by simp)
    (by have := news_of hg; simpa using this) (one_u32 _) hm (by omega) (by omega)
  obtain ⟨m, hmm⟩ : ∃ m, m = news.length := ⟨_, rfl⟩
  obtain ⟨n, hn⟩ : ∃ n, n = th.length := ⟨_, rfl⟩
  have hfin : w'.ownsRow 0 25 1 v' (n + m) ((th.take n ++ news ++ th.drop n).map (Value.int .u32)) := by
    rw [hn, hmm]; simpa using hown
  have FIN : Hid _ := hfin
  rw [← hn, ← hmm] at hlen
  rw [← hmm] at hm
  have hat' : v'.ownBlock = v.ownBlock ∨ ∃ k, v'.ownBlock = some k ∧ w.heap.size ≤ k := hat.imp id (fun h => ⟨_, h, Nat.le_refl _⟩)
  have AT : Hid _ := hat'
  have HR := hr.2
  rw [← hn] at HR ⊢
  rw [← hmm] at hrun ⊢
  generalize (List.map (Value.int IntKind.u32) (List.take n th ++ news ++ List.drop n th)) = zs at hfin ⊢
  clear FIN
  have FIN : Hid _ := hfin
  clear hat hat' hfin hown hr hn hmm hne
  rcases HR with ⟨rfl, rfl⟩ | ⟨b, cap, cur, rfl, _, _, hnc, _, _, _⟩
  · have hm0 : (((m : Nat) : Int) == 0) = false := by simp; omega
    go_enter Tryd.func56, Tryd.ntmps56
    go_wp2_with (first | (at_builtin; refine wpList_append_eq rfl _ _ 29 rfl rfl rfl hrun ?_) | go_in)
    all_goals go_returns
    all_goals exact ⟨v', rfl, FIN.out, hfr, AT.out⟩
  · have hm0 : (((m : Nat) : Int) == 0) = false := by simp; omega
    have hnc' : (n : Int) ≤ (cap : Int) := by omega
    go_enter Tryd.func56, Tryd.ntmps56
    go_wp2_with (first | (at_builtin; refine wpList_append_eq rfl _ _ 29 rfl rfl rfl hrun ?_) | go_in)
    all_goals go_returns
    all_goals exact ⟨v', rfl, FIN.out, hfr, AT.out⟩
end Go.Proofs.YtbackacbdfgdoaaDoor
namespace Go.Proofs.YtbackacbdfgdoaaDoor
open Go.ChangeShapes Go.WideShapes Go.ChangeAt Go.RowKit
set_option linter.unusedSimpArgs false
set_option linter.unusedVariables false

theorem row_shape {w : World} {v : Value} {n : Nat} {e : TypeId} {xs : List Value} (h : w.ownsRow 0 e 1 v n xs) : ∃ q cap, v = .slice q n cap := by
  rcases h.2 with ⟨rfl, rfl⟩ | ⟨g, cap, cur, rfl, _⟩
  · exact ⟨_, _, rfl⟩
  · exact ⟨_, _, rfl⟩

def news (f : Int) (c : Nat) : List Int := (List.range c).map (fun j : Nat => f + (j : Int))
theorem news_length (f : Int) (c : Nat) : (news f c).length = c := by simp [news]
theorem mem_news {f : Int} {c : Nat} {k : Int} : k ∈ news f c ↔ f ≤ k ∧ k < f + c := by
  simp only [news, List.mem_map, List.mem_range]
  constructor
  · rintro ⟨j, h1, rfl⟩; omega
  · intro h; exact ⟨(k - f).toNat, by omega, by omega⟩
theorem news_rise (f : Int) (c : Nat) : (news f c).Pairwise (· < ·) := by
  unfold news
  rw [List.pairwise_map]
  exact List.Pairwise.imp (fun h => by omega) (List.pairwise_lt_range)
def laidArr (f : Int) (c m : Nat) : Array Value := ((List.range c).map (fun j : Nat => Value.int .u32 (if j < m then f + (j : Int) else 0))).toArray
theorem laid_at {f : Int} {c m j : Nat} (h : j < c) : (laidArr f c m)[j]? = some (.int .u32 (if j < m then f + j else 0)) := by
  simp [laidArr, h]
theorem laid_set {f : Int} {c m : Nat} (h : m < c) : (laidArr f c m).setIfInBounds m (.int .u32 (f + m)) = laidArr f c (m + 1) := by
  apply Array.ext_getElem?
  intro j
  by_cases hj : j < c
  · rw [Array.getElem?_setIfInBounds, laid_at hj]
    by_cases e : m = j
    · subst e; simp [laidArr, h]
    · rw [if_neg e, laid_at hj]
      by_cases e2 : j < m
      · rw [if_pos e2, if_pos (by omega)]
      · rw [if_neg e2, if_neg (by omega)]
  · have s1 : (laidArr f c m).size = c := by simp [laidArr]
    have s2 : (laidArr f c (m + 1)).size = c := by simp [laidArr]
    rw [Array.getElem?_eq_none (by simp [s1]; omega), Array.getElem?_eq_none (by omega)]
theorem laid_all (f : Int) (c : Nat) : laidArr f c c = ((news f c).map (Value.int .u32)).toArray := by
  unfold laidArr news
  rw [List.map_map]
  congr 1
  apply List.map_congr_left
  intro j hj
  simp at hj
  simp [hj]
theorem laid_zero (f : Int) (c : Nat) : madeCells #[Value.int .u32 0] c = laidArr f c 0 := by
  apply Array.ext'
  rw [toList_madeCells_one]
  unfold laidArr
  apply List.ext_getElem?
  intro j
  by_cases hj : j < c
  · simp [List.getElem?_replicate, hj]
  · simp [List.getElem?_replicate, hj]

structure MapRel (w2 : World) (L : Lay) (N : Nat) (g : Int → Int) (f : Int) (c : Nat) (perm : Int) (m : Nat) (wr : World) : Prop where
  fr : Fr (fun i => i = L.bp ∨ i = L.bg) w2 wr
  laid : wr.heap[w2.heap.size]? = some (.cells (laidArr f c m) 25 (0, 0))
  pm : ∃ bk', PMap wr L.bp (N + m) bk' ∧ (∀ k, ¬ (f ≤ k ∧ k < f + m) → bk' k = L.bk k) ∧ (∀ k, f ≤ k ∧ k < f + m → ∃ b, bk' k = some b ∧ IsPg wr b (Pg.fresh perm ((g k + 1) % 4294967296)) ∧ w2.heap.size ≤ b) ∧
    (∀ k k' b, f ≤ k ∧ k < f + m → f ≤ k' ∧ k' < f + m → bk' k = some b → bk' k' = some b → k = k')
  gm : UMap wr L.bg (N + m) (fun k => if f ≤ k ∧ k < f + m then 0 else g k)

theorem MapRel.step {w2 wr w4 : World} {L : Lay} {N : Nat} {g : Int → Int} {f : Int} {c : Nat} {perm : Int} {m : Nat} (hm : m < c) (lb : L.bp < w2.heap.size) (lg : L.bg < w2.heap.size)
    (fr : Fr (fun i => i = L.bp ∨ i = L.bg) w2 wr) (laid : wr.heap[w2.heap.size]? = some (.cells (laidArr f c m) 25 (0, 0))) {bk' : Int → Option Nat}
    (p2 : ∀ k, ¬ (f ≤ k ∧ k < f + m) → bk' k = L.bk k) (p3 : ∀ k, f ≤ k ∧ k < f + m → ∃ b, bk' k = some b ∧ IsPg wr b (Pg.fresh perm ((g k + 1) % 4294967296)) ∧ w2.heap.size ≤ b)
    (p4 : ∀ k k' b, f ≤ k ∧ k < f + m → f ≤ k' ∧ k' < f + m → bk' k = some b → bk' k' = some b → k = k')
    {b : Nat} (b1 : (wr.setCell ⟨w2.heap.size, m, none⟩ (.int .u32 (f + m))).heap.size ≤ b) (_b2 : b < w4.heap.size)
    (fr4 : Fr (fun i => i = L.bp ∨ i = L.bg) (wr.setCell ⟨w2.heap.size, m, none⟩ (.int .u32 (f + m))) w4) (P4 : PMap w4 L.bp (N + m + 1) (upd bk' (f + m) (some b)))
    (G4 : UMap w4 L.bg (N + m) (upd (fun k => if f ≤ k ∧ k < f + m then 0 else g k) (f + m) 0)) (I4 : IsPg w4 b (Pg.fresh perm ((g (f + m) + 1) % 4294967296))) : MapRel w2 L N g f c perm (m + 1) w4 := by
  have hlt : w2.heap.size < wr.heap.size := (Array.getElem?_eq_some_iff.1 laid).1
  have sz : (wr.setCell ⟨w2.heap.size, m, none⟩ (.int .u32 (f + m))).heap.size = wr.heap.size := by simp
  rw [sz] at b1
  refine ⟨?_, ?_, ⟨_, P4, fun k hk => ?_, fun k hk => ?_, fun k k' x hk hk' e1 e2 => ?_⟩, ?_⟩
  · exact (fr.setCell (.inr (Nat.le_refl _)) _).trans fr4 (fun _ _ h => h)
  · rw [fr4.block _ (by rw [sz]; exact hlt) (by omega), heap_setCell_same laid, laid_set hm]
  · rw [upd_other _ _ (by omega)]; exact p2 k (by omega)
  · by_cases e : k = f + m
    · subst e; exact ⟨b, upd_same _ _ _, I4, by omega⟩
    · obtain ⟨x, x1, x2, x3⟩ := p3 k (by omega)
      refine ⟨x, (upd_other _ _ e).trans x1, ?_, x3⟩
      have xl := x2.lt
      have ne : x ≠ w2.heap.size := fun y => by subst y; rw [show wr.heap[w2.heap.size]? = _ from x2] at laid; simp at laid
      unfold IsPg
      rw [fr4.block _ (by rw [sz]; exact xl) (by omega), Below.heap_setCell _ _ _ _ ne]
      exact x2
  · have old : ∀ y, f ≤ y ∧ y < f + m → bk' y = some x → x < wr.heap.size := by
      intro y hy ey
      obtain ⟨z, z1, z2, _⟩ := p3 y hy
      rw [z1] at ey; cases ey
      exact z2.lt
    by_cases e : k = f + m <;> by_cases e' : k' = f + m
    · omega
    · rw [e, upd_same] at e1
      rw [upd_other _ _ e'] at e2
      have := old k' (by omega) e2
      cases e1; omega
    · rw [upd_other _ _ e] at e1
      rw [e', upd_same] at e2
      have := old k (by omega) e1
      cases e2; omega
    · rw [upd_other _ _ e] at e1
      rw [upd_other _ _ e'] at e2
      exact p4 k k' x (by omega) (by omega) e1 e2
  · have : (upd (fun k => if f ≤ k ∧ k < f + m then 0 else g k) (f + m) 0) = (fun k => if f ≤ k ∧ k < f + ((m + 1 : Nat) : Int) then 0 else g k) := by
      funext k
      unfold upd
      by_cases e : k = f + m
      · rw [if_pos e, if_pos (by omega)]
      · rw [if_neg e]
        show (if f ≤ k ∧ k < f + m then 0 else g k) = _
        by_cases e2 : f ≤ k ∧ k < f + m
        · rw [if_pos e2, if_pos (by omega)]
        · rw [if_neg e2, if_neg (by omega)]
    rw [← this]; exact G4.mono (by omega)

/-- The memory behind a Map. -/
def MS.map (S : MS) (f : Int) (c : Nat) (perm : Int) : MS :=
  ⟨S.budget, S.th.take (lb S.th f) ++ news f c ++ S.th.drop (lb S.th f),
   fun k => if f ≤ k ∧ k < f + c then some (Pg.fresh perm ((S.gone k + 1) % 4294967296)) else S.pg k,
   fun k => if f ≤ k ∧ k < f + c then 0 else S.gone k⟩
def Add (F : Nat → Prop) (w w' : World) : Nat → Prop := fun i => F i ∨ (w.heap.size ≤ i ∧ i < w'.heap.size)

theorem mem_getD {l : List Int} {k : Int} (h : k ∈ l) : ∃ m, m < l.length ∧ l[m]?.getD 0 = k := by
  obtain ⟨m, hm, e⟩ := List.getElem_of_mem h
  exact ⟨m, hm, by simp [hm, e]⟩
/-- No number of the list lies between f and f + c, if both would stand at one place. -/
theorem between {th : List Int} (hs : th.Pairwise (· < ·)) {f : Int} {c : Nat} (he : lb th f = lb th (f + c)) : ∀ k ∈ th, ¬ (f ≤ k ∧ k < f + c) := by
  intro k hk hx
  obtain ⟨m, hm, rfl⟩ := mem_getD hk
  obtain ⟨_, h2, h3⟩ := At_lb hs f
  obtain ⟨_, k2, k3⟩ := At_lb hs (f + c)
  by_cases e : m < lb th f
  · have := h2 m e; omega
  · have := k3 m (by omega) hm; omega
theorem take_lt {th : List Int} (hs : th.Pairwise (· < ·)) (f : Int) : ∀ k ∈ th.take (lb th f), k < f := by
  intro k hk
  obtain ⟨m, hm, e⟩ := List.getElem_of_mem hk
  have h2 := (At_lb hs f).2.1 m (by simp at hm; omega)
  have hm2 : m < th.length := by simp at hm; omega
  rw [List.getElem_take] at e
  simpa [hm2, e] using h2
theorem drop_ge {th : List Int} (hs : th.Pairwise (· < ·)) (f : Int) : ∀ k ∈ th.drop (lb th f), f ≤ k := by
  intro k hk
  obtain ⟨m, hm, e⟩ := List.getElem_of_mem hk
  have h3 := (At_lb hs f).2.2 (lb th f + m) (by omega) (by simp at hm; omega)
  simp at hm
  rw [List.getElem_drop] at e
  simpa [show lb th f + m < th.length by omega, e] using h3
theorem MS.map_ok {S : MS} (h : S.Ok) {f : Int} {c : Nat} {perm : Int} (hp : 0 ≤ perm ∧ perm ≤ 7) (hf : 0 ≤ f ∧ f + c ≤ 16777216) (he : lb S.th f = lb S.th (f + c)) (hb : (S.th.length : Int) + c ≤ S.budget) : (S.map f c perm).Ok := by
  have hbt := between h.rise he
  have htk := take_lt h.rise f
  have hdp := drop_ge h.rise f
  have hdp2 : ∀ k ∈ S.th.drop (lb S.th f), f + c ≤ k := fun k hk => by have := hdp k hk; have := hbt k (List.mem_of_mem_drop hk); omega
  refine ⟨h.budget, ?_, ?_, ?_, ?_, ?_⟩
  · simp only [MS.map, List.length_append, news_length, List.length_take, List.length_drop]
    have := (At_lb h.rise f).1
    omega
  · simp only [MS.map]
    rw [List.pairwise_append, List.pairwise_append]
    refine ⟨⟨h.rise.sublist (List.take_sublist _ _), news_rise _ _, fun a ha b hb => ?_⟩, h.rise.sublist (List.drop_sublist _ _), fun a ha b hb => ?_⟩
    · have := htk a ha; have := mem_news.1 hb; omega
    · have := hdp2 b hb
      rcases List.mem_append.1 ha with ha | ha
      · have := htk a ha; omega
      · have := mem_news.1 ha; omega
  · intro k hk
    simp only [MS.map, List.mem_append] at hk
    rcases hk with (hk | hk) | hk
    · exact h.rng k (List.mem_of_mem_take hk)
    · have := mem_news.1 hk; omega
    · exact h.rng k (List.mem_of_mem_drop hk)
  · intro k
    simp only [MS.map, List.mem_append]
    by_cases e : f ≤ k ∧ k < f + c
    · simp [e, mem_news]
    · rw [if_neg e, h.mem]
      constructor
      · intro hk
        rw [← List.take_append_drop (lb S.th f) S.th] at hk
        rcases List.mem_append.1 hk with hk | hk
        · exact .inl (.inl hk)
        · exact .inr hk
      · rintro ((hk | hk) | hk)
        · exact List.mem_of_mem_take hk
        · exact absurd (mem_news.1 hk) e
        · exact List.mem_of_mem_drop hk
  · intro k p hk
    simp only [MS.map] at hk
    by_cases e : f ≤ k ∧ k < f + c
    · rw [if_pos e] at hk
      cases hk
      exact ⟨fun _ => by simp [Pg.fresh], ⟨hp.1, by simp [Pg.fresh]; omega⟩, U4.inc⟩
    · rw [if_neg e] at hk
      exact h.pg k p hk

/-- All laid: the memory as it is then. -/
theorem Map_fin {w w2 wr w5 : World} {mb : Nat} {F : Nat → Prop} {N : Nat} {S : MS} {L : Lay} {f : Int} {c : Nat} {perm : Int} {v' : Value} (h2 : OwnL w2 mb F N S L) (h0 : Fr F w w2)
    (hp : 0 ≤ perm ∧ perm ≤ 7) (hf : 0 ≤ f ∧ f + c ≤ 16777216) (he : lb S.th f = lb S.th (f + c)) (hb : (S.th.length : Int) + c ≤ S.budget)
    (hR : MapRel w2 L N S.gone f c perm c wr) (hrow : w5.ownsRow 0 25 1 v' (S.th.length + c) ((S.th.take (lb S.th f) ++ news f c ++ S.th.drop (lb S.th f)).map (Value.int .u32)))
    (hfr : Fr (fun k => L.v.ownBlock = some k) wr w5) (hat : v'.ownBlock = L.v.ownBlock ∨ ∃ k, v'.ownBlock = some k ∧ wr.heap.size ≤ k) :
    Fr F w (w5.setCell ⟨mb, 1, none⟩ v') ∧ Own (w5.setCell ⟨mb, 1, none⟩ v') mb (Add F w (w5.setCell ⟨mb, 1, none⟩ v')) (N + c) (S.map f c perm) := by
  have hbt := between h2.ok.rise he
  obtain ⟨bk', p1, p2, p3, p4⟩ := hR.pm
  have lm := h2.lt _ h2.Fm
  have lp := h2.lt _ h2.Fp
  have lg := h2.lt _ h2.Fg
  obtain ⟨ep, cp, op⟩ := h2.pm.isMapObj
  obtain ⟨eg, cg, og⟩ := h2.gm.isMapObj
  have top := h2.top
  have nmp : mb ≠ L.bp := fun e => by rw [e, op] at top; simp at top
  have nmg : mb ≠ L.bg := fun e => by rw [e, og] at top; simp at top
  have nmv : ∀ g, L.v.ownBlock = some g → g ≠ mb ∧ g ≠ L.bp ∧ g ≠ L.bg := fun g hg => by
    obtain ⟨cc, oc⟩ := row_obj h2.row hg
    exact ⟨fun e => by rw [← e, oc] at top; simp at top, fun e => by rw [← e, oc] at op; simp at op, fun e => by rw [← e, oc] at og; simp at og⟩
  have szr := hR.fr.size
  have sz5 := hfr.size
  have szs : (w5.setCell ⟨mb, 1, none⟩ v').heap.size = w5.heap.size := by simp
  -- old blocks of F
  have FR : Fr F w2 (w5.setCell ⟨mb, 1, none⟩ v') := by
    refine Fr.setCell ?_ (.inl h2.Fm) _
    refine (hR.fr.mono (fun i _ e => ?_)).trans hfr (fun i _ e => h2.Fv i e)
    rcases e with e | e
    · rw [e]; exact h2.Fp
    · rw [e]; exact h2.Fg
  have FW : Fr F w (w5.setCell ⟨mb, 1, none⟩ v') := h0.trans FR (fun _ _ h => h)
  have sw := h0.size
  -- a block that none of the steps touched
  have keep : ∀ i, i < wr.heap.size → i ≠ mb → L.v.ownBlock ≠ some i → (w5.setCell ⟨mb, 1, none⟩ v').heap[i]? = wr.heap[i]? := fun i hi n1 n2 => by
    rw [Below.heap_setCell _ _ _ _ n1]; exact hfr.block i hi n2
  have top5 : w5.heap[mb]? = some (.cells #[.int .i64 S.budget, L.v, .map (some L.bp), .map (some L.bg)] 104 (0, 0)) := by
    rw [hfr.block mb (by omega) (fun e => (nmv _ e).1 rfl), hR.fr.block mb lm (by simp [nmp, nmg])]; exact top
  have hF2 : ∀ i, F i → Add F w (w5.setCell ⟨mb, 1, none⟩ v') i := fun i hi => .inl hi
  have hnew : ∀ i, w2.heap.size ≤ i → i < w5.heap.size → Add F w (w5.setCell ⟨mb, 1, none⟩ v') i := fun i h1 h3 => .inr ⟨by omega, by rw [szs]; exact h3⟩
  refine ⟨FW, ⟨v', L.bp, L.bg, bk'⟩, ?_⟩
  exact {
    top := by rw [heap_setCell_same top5]; rfl
    row := by
      have hl : (S.map f c perm).th.length = S.th.length + c := by
        simp only [MS.map, List.length_append, news_length, List.length_take, List.length_drop]
        have := (At_lb h2.ok.rise f).1
        omega
      rw [hl]
      refine row_congr hrow (fun g hg => Below.heap_setCell _ _ _ _ ?_)
      intro e
      obtain ⟨cc, oc⟩ := row_obj hrow hg
      rw [show g = mb from e, top5] at oc
      simp at oc
    pm := p1.congr (keep _ (by omega) (Ne.symm nmp) (fun e => (nmv _ e).2.1 rfl))
    gm := (hR.gm.congr (keep _ (by omega) (Ne.symm nmg) (fun e => (nmv _ e).2.2 rfl))).mono (by omega)
    ne := h2.ne
    pgs := fun k b hb => by
      by_cases e : f ≤ k ∧ k < f + c
      · obtain ⟨x, x1, x2, x3⟩ := p3 k e
        rw [show bk' k = some b from hb] at x1
        cases x1
        refine ⟨_, if_pos e, ?_, hnew _ x3 (Nat.lt_of_lt_of_le x2.lt sz5)⟩
        exact (keep b x2.lt (by omega) (fun e => by have := h2.lt _ (h2.Fv _ e); omega)).trans x2
      · have hb' : L.bk k = some b := (p2 k e).symm.trans hb
        obtain ⟨p, y1, y2, y3⟩ := h2.pgs k b hb'
        have yl := h2.lt b y3
        refine ⟨p, (if_neg e).trans y1, ?_, hF2 b y3⟩
        have n1 : b ≠ mb := fun e => by rw [e] at y2; rw [show w2.heap[mb]? = _ from y2] at top; simp at top
        have n2 : L.v.ownBlock ≠ some b := fun e => by obtain ⟨cc, oc⟩ := row_obj h2.row e; rw [show w2.heap[b]? = _ from y2] at oc; simp at oc
        have n3 : b ≠ L.bp := fun e => by rw [← e, show w2.heap[b]? = _ from y2] at op; simp at op
        have n4 : b ≠ L.bg := fun e => by rw [← e, show w2.heap[b]? = _ from y2] at og; simp at og
        exact ((keep b (by omega) n1 n2).trans (hR.fr.block b yl (by simp [n3, n4]))).trans y2
    non := fun k hk => by
      by_cases e : f ≤ k ∧ k < f + c
      · obtain ⟨x, x1, _⟩ := p3 k e
        rw [show bk' k = none from hk] at x1
        cases x1
      · exact (if_neg e).trans (h2.non k ((p2 k e).symm.trans hk))
    inj := fun k k' b e1 e2 => by
      by_cases x : f ≤ k ∧ k < f + c <;> by_cases x' : f ≤ k' ∧ k' < f + c
      · exact p4 k k' b x x' e1 e2
      · obtain ⟨y, y1, y2, y3⟩ := p3 k x
        rw [show bk' k = some b from e1] at y1; cases y1
        obtain ⟨_, _, _, z3⟩ := h2.pgs k' b ((p2 k' x').symm.trans e2)
        have := h2.lt b z3; omega
      · obtain ⟨y, y1, y2, y3⟩ := p3 k' x'
        rw [show bk' k' = some b from e2] at y1; cases y1
        obtain ⟨_, _, _, z3⟩ := h2.pgs k b ((p2 k x).symm.trans e1)
        have := h2.lt b z3; omega
      · exact h2.inj k k' b ((p2 k x).symm.trans e1) ((p2 k' x').symm.trans e2)
    Fm := hF2 _ h2.Fm
    Fp := hF2 _ h2.Fp
    Fg := hF2 _ h2.Fg
    Fv := fun g hg => by
      rcases hat with e | ⟨k, e, hk⟩
      · exact hF2 _ (h2.Fv g (e.symm.trans hg))
      · rw [show v'.ownBlock = some g from hg] at e; cases e
        exact hnew _ (by omega) (by obtain ⟨cc, oc⟩ := row_obj hrow hg; exact (Array.getElem?_eq_some_iff.1 oc).1)
    lt := fun i hi => by
      rcases hi with hi | hi
      · have := h2.lt i hi; rw [szs]; omega
      · exact hi.2
    ok := MS.map_ok h2.ok hp hf he hb }
end Go.Proofs.YtbackacbdfgdoaaDoor
namespace Go.Proofs.YtbackacbdfgdoaaDoor
open Go.ChangeShapes Go.WideShapes Go.ChangeAt Go.RowKit
set_option linter.unusedSimpArgs false
set_option linter.unusedVariables false

section
variable {w : World} {mb : Nat} {F : Nat → Prop} {N : Nat} {S : MS} {L : Lay}
set_option maxRecDepth 100000 in
set_option maxHeartbeats 2000000 in
theorem Map_ok (h : OwnL w mb F N S L) (a n perm : Int) (ha : U4 a) (hn : U4 n) (hs : n ≠ 0 ∧ a % 256 = 0 ∧ a / 256 + (n + 255) / 256 ≤ 16777216) (hp : 0 ≤ perm ∧ perm ≤ 7)
    (c : Nat) (hc : (n + 255) / 256 = c) (f : Int) (hf : a / 256 = f) (i : Nat) (hi : lb S.th f = i) (hi2 : lb S.th (f + c) = i) (hb : (S.th.length : Int) + c ≤ S.budget) (hN : N + c < maxLen) (hI : InsSpec S.th i) :
    Calls Tryd.prog 25 #[.pointer (some ⟨mb, 0, none⟩), .int .u32 a, .int .u32 n, .int .i64 perm] w fun e w' => e = .returned (.int .i64 0) ∧ Fr F w w' ∧ Own w' mb (Add F w w') (N + c) (S.map f c perm) := by
  have hst := stretch_ok a n ha hn hs
  rw [hc, hf] at hst
  have hdp : decide (0 ≤ perm ∧ perm ≤ 7) = true := by simpa using hp
  have hbud := h.ok.budget
  have hc0 : 1 ≤ c := by obtain ⟨h1, _⟩ := hs; unfold U4 at hn; omega
  have hf0 : 0 ≤ f ∧ f + c ≤ 16777216 := by unfold U4 at ha; omega
  have hmk := run_make_row' (P := Tryd.prog) 29 25 (.int .u32 0) 4 Tryd.underlying29 infoU rfl .u32 .u32 c (by omega) (by omega)
  obtain ⟨f0, f1⟩ := hf0
  have hgo := goodPerm_c perm
  rw [hdp] at hgo
  have HP : Hid _ := hp
  have HB : Hid _ := hb
  clear hs hdp hp ha hn hc hf
  have hmb := h.lt _ h.Fm
  have hlen : S.th.length ≤ 4096 := by omega
  obtain ⟨q, cap, hv⟩ := row_shape h.row
  have hb' : ¬ S.budget < (S.th.length : Int) + c := by omega
  clear hb
  go_enter Tryd.func25, Tryd.ntmps25
  go_wp2_with fail
  refine (hst _).mono ?_
  rintro e w1 ⟨rfl, g1⟩
  go_wp2_with fail
  refine (hgo _).mono ?_
  rintro e w1 ⟨rfl, rfl⟩
  go_wp2_with fail
  have ga : Gr w (w1.alloc (.cells #[.int .u32 f, .int .u32 c] 106)) := g1.alloc _ _
  refine (among_c (h.gr ga) f c ⟨f0, by omega⟩ ⟨by omega, by omega⟩).mono ?_
  rw [hi, hi2]
  rintro e w2 ⟨rfl, g2⟩
  have g3 := ga.trans g2
  have h2 := h.gr g3
  have c0 := h2.c0
  have c1 := h2.c1
  rw [hv] at c1
  have s0 : w2.cell? ⟨w1.heap.size, 0, none⟩ = some (.int .u32 f) := g2.keep (by simp)
  have s1 : w2.cell? ⟨w1.heap.size, 1, none⟩ = some (.int .u32 c) := g2.keep (by simp)
  go_wp2_with fail
  go_quiet (fail)
  go_wp2_with fail
  have lp := h2.lt _ h2.Fp
  have lg := h2.lt _ h2.Fg
  have lm2 := h2.lt _ h2.Fm
  have lm0 := h.lt _ h.Fp
  have lm1 := h.lt _ h.Fg
  have zs1 := g1.size
  have zs2 := g2.size
  simp only [World.size_alloc] at zs2
  obtain ⟨ep, cp, op⟩ := h2.pm.isMapObj
  obtain ⟨eg, cg, og⟩ := h2.gm.isMapObj
  have nmp : mb ≠ L.bp := fun e => by rw [← e, h2.top] at op; simp at op
  have nmg : mb ≠ L.bg := fun e => by rw [← e, h2.top] at og; simp at og
  have FIN := fun wr w5 v' => @Map_fin w w2 wr w5 mb F N S L f c perm v' h2 (g3.fr F) HP.out ⟨f0, f1⟩ (hi.trans hi2.symm) HB.out
  go_loopw [56] (fun x wr => ∃ m : Nat, m ≤ c ∧ x = .int .i64 m ∧ MapRel w2 L N S.gone f c perm m wr) (fun x _ => c - (intOf x).toNat)
  case atStart =>
    refine ⟨0, Nat.zero_le _, rfl, ?_, ?_, ⟨L.bk, ?_, fun _ _ => rfl, fun k hk => by omega, fun k k' b hk => by omega⟩, ?_⟩
    · exact ((Fr.refl _ _).alloc _ _).drewN _
    · rw [← laid_zero]; exact heap_alloc_new w2 _
    · exact h2.pm.congr (Below.heap_alloc _ _ _ lp)
    · have e0 : (fun k => if f ≤ k ∧ k < f + ((0 : Nat) : Int) then 0 else S.gone k) = S.gone := by
        funext k; rw [if_neg (by omega)]
      rw [e0]
      exact h2.gm.congr (Below.heap_alloc _ _ _ lg)
  case round =>
    obtain ⟨m, hm, rfl, hR⟩ := hrel
    have sr0 : wr.cell? ⟨w1.heap.size, 0, none⟩ = some (.int .u32 f) := by
      rw [hR.fr.cell (p := ⟨w1.heap.size, 0, none⟩) (by show w1.heap.size < _; omega) (by show ¬ (w1.heap.size = _ ∨ w1.heap.size = _); omega)]; exact s0
    by_cases hmc : m = c
    · subst hmc
      have hrow := row_congr h2.row (w' := wr) (fun g hg => hR.fr.block g (h2.lt _ (h2.Fv g hg)) (by
        obtain ⟨cc, oc⟩ := row_obj h2.row hg
        rintro (e | e)
        · rw [← e, oc] at op; simp at op
        · rw [← e, oc] at og; simp at og))
      have hnb : L.v.ownBlock ≠ some w2.heap.size := fun e => by have := h2.lt _ (h2.Fv _ e); omega
      have hins := hI wr L.v w2.heap.size (news f m) (fun e => by have := news_length f m; rw [e] at this; simp at this; omega) (by rw [news_length]; omega) hrow (by rw [hR.laid, laid_all]) hnb
      rw [news_length, hv] at hins
      have kr1 : wr.cell? ⟨mb, 1, none⟩ = some (.slice q S.th.length cap) := by
        rw [hR.fr.cell (p := ⟨mb, 1, none⟩) lm2 (by show ¬ (mb = _ ∨ mb = _); simp [nmp, nmg])]; exact c1
      go_wp2_with fail
      refine hins.mono ?_
      rintro e w5 ⟨v', rfl, rw5, fr5, at5⟩
      obtain ⟨q', cap', rfl⟩ := row_shape rw5
      rw [← hv] at fr5 at5
      have top5 : w5.heap[mb]? = some (.cells #[.int .i64 S.budget, L.v, .map (some L.bp), .map (some L.bg)] 104 (0, 0)) := by
        rw [fr5.block mb (Nat.lt_of_lt_of_le lm2 hR.fr.size) (fun e => by obtain ⟨cc, oc⟩ := row_obj h2.row e; rw [h2.top] at oc; simp at oc), hR.fr.block mb lm2 (by simp [nmp, nmg])]; exact h2.top
      have k5 : w5.cell? ⟨mb, 1, none⟩ = some L.v := by simp [World.cell?, top5]
      have z5 : w5.frozen? ⟨mb, 1, none⟩ = false := by simp [World.frozen?, top5]
      have HF := FIN wr w5 _ hR (by rw [hi]; exact rw5) fr5 at5
      clear FIN hins rw5 fr5 at5 hrow kr1 top5
      go_wp2_with fail
      go_returns
      exact ⟨rfl, HF.1, HF.2⟩
    · have hlt : (m : Int) < (c : Int) := by omega
      have hlt' : m < c := by omega
      clear hmc hm
      have hcell := cell_of_row wr w2.heap.size m _ _ _ hR.laid
      rw [laid_at hlt'] at hcell
      have hfz : wr.frozen? ⟨w2.heap.size, m, none⟩ = false := by simp [World.frozen?, hR.laid]
      obtain ⟨bk', p1, p2, p3, p4⟩ := hR.pm
      have hne : ∀ i, i < w2.heap.size → (wr.setCell ⟨w2.heap.size, m, none⟩ (.int .u32 (f + m))).heap[i]? = wr.heap[i]? := fun i hi => Below.heap_setCell _ _ _ _ (by show i ≠ w2.heap.size; omega)
      have k2 : (wr.setCell ⟨w2.heap.size, m, none⟩ (.int .u32 (f + m))).cell? ⟨mb, 2, none⟩ = some (.map (some L.bp)) := by
        rw [World.cell?_of_block (w := wr) (hne mb lm2), hR.fr.cell (p := ⟨mb, 2, none⟩) lm2 (by show ¬ (mb = _ ∨ mb = _); simp [nmp, nmg])]; exact h2.c2
      have k3 : (wr.setCell ⟨w2.heap.size, m, none⟩ (.int .u32 (f + m))).cell? ⟨mb, 3, none⟩ = some (.map (some L.bg)) := by
        rw [World.cell?_of_block (w := wr) (hne mb lm2), hR.fr.cell (p := ⟨mb, 3, none⟩) lm2 (by show ¬ (mb = _ ∨ mb = _); simp [nmp, nmg])]; exact h2.c3
      have hlay := lay_c k2 k3 (p1.congr (hne _ lp)) (hR.gm.congr (hne _ lg)) h2.ne (by omega) (f + m) perm ⟨by omega, by omega⟩
      go_wp2_with fail
      refine hlay.mono ?_
      rintro e w4 ⟨rfl, b, b1, b2, fr4, P4, G4, I4⟩
      have hg0 : (if f ≤ f + (m : Int) ∧ f + (m : Int) < f + (m : Int) then 0 else S.gone (f + m)) = S.gone (f + m) := if_neg (by omega)
      rw [hg0] at I4
      have HS := MapRel.step hlt' lp lg hR.fr hR.laid p2 p3 p4 b1 b2 fr4 P4 G4 I4
      clear hlay p1 p2 p3 p4 P4 G4 I4 k2 k3 hcell hfz fr4 b1 b2 hg0
      go_wp2_with fail
      go_roundw
      case rel => exact ⟨m + 1, by omega, by simp, HS⟩
      case measure => simp [intOf]; omega
end
end Go.Proofs.YtbackacbdfgdoaaDoor
namespace Go.Proofs.YtbackacbdfgdoaaDoor
open Go.ChangeShapes Go.WideShapes Go.ChangeAt Go.RowKit
set_option linter.unusedSimpArgs false
set_option linter.unusedVariables false

/-- A stretch that may be. -/
def StOk (a n : Int) : Prop := n ≠ 0 ∧ a % 256 = 0 ∧ a / 256 + (n + 255) / 256 ≤ 16777216
section
variable {w : World} {mb : Nat} {F : Nat → Prop} {N : Nat} {S : MS} {L : Lay}
theorem Map_bad (a n perm : Int) (ha : U4 a) (hn : U4 n) (hs : ¬ StOk a n ∨ ¬ (0 ≤ perm ∧ perm ≤ 7)) :
    Calls Tryd.prog 25 #[.pointer (some ⟨mb, 0, none⟩), .int .u32 a, .int .u32 n, .int .i64 perm] w fun e w' => e = .returned (.int .i64 1) ∧ Gr w w' := by
  by_cases hk : StOk a n
  · have hst := stretch_ok a n ha hn hk
    have hdp : decide (0 ≤ perm ∧ perm ≤ 7) = false := by simp only [decide_eq_false_iff_not]; exact hs.resolve_left (fun x => x hk)
    have hgo := goodPerm_c perm
    rw [hdp] at hgo
    clear hs hdp ha hn hk
    go_enter Tryd.func25, Tryd.ntmps25
    go_wp2_with fail
    refine (hst _).mono ?_
    rintro e w1 ⟨rfl, g1⟩
    go_wp2_with fail
    refine (hgo _).mono ?_
    rintro e w1 ⟨rfl, rfl⟩
    go_wp2_with fail
    go_returns
    exact ⟨rfl, g1.alloc _ _⟩
  · have hst := stretch_bad a n ha hn hk
    clear hs hk
    go_enter Tryd.func25, Tryd.ntmps25
    go_wp2_with fail
    refine (hst _).mono ?_
    rintro e w1 ⟨rfl, g1⟩
    go_wp2_with fail
    go_returns
    exact ⟨rfl, g1.alloc _ _⟩
set_option maxRecDepth 100000 in
theorem Map_there (h : OwnL w mb F N S L) (a n perm : Int) (ha : U4 a) (hn : U4 n) (hs : StOk a n) (hp : 0 ≤ perm ∧ perm ≤ 7) (c : Nat) (hc : (n + 255) / 256 = c) (f : Int) (hf : a / 256 = f) (hi : lb S.th f ≠ lb S.th (f + c)) :
    Calls Tryd.prog 25 #[.pointer (some ⟨mb, 0, none⟩), .int .u32 a, .int .u32 n, .int .i64 perm] w fun e w' => e = .returned (.int .i64 5) ∧ Gr w w' := by
  have hst := stretch_ok a n ha hn hs
  have hgo := goodPerm_c perm
  rw [show decide (0 ≤ perm ∧ perm ≤ 7) = true by simpa using hp] at hgo
  obtain ⟨_, _, hs3⟩ := hs
  obtain ⟨a0, a1⟩ := ha
  obtain ⟨n0, n1⟩ := hn
  rw [hc, hf] at hst hs3
  have f0 : 0 ≤ f := by omega
  have f1 : f ≤ 16777216 := by omega
  have hbud := h.ok.budget
  have hlen : S.th.length ≤ 4096 := by have := h.ok.len; omega
  obtain ⟨q, cap, hv⟩ := row_shape h.row
  have hne : (((lb S.th f : Nat) : Int) == ((lb S.th (f + c) : Nat) : Int)) = false := by simp; omega
  clear hp hc hf
  go_enter Tryd.func25, Tryd.ntmps25
  go_wp2_with fail
  refine (hst _).mono ?_
  rintro e w1 ⟨rfl, g1⟩
  go_wp2_with fail
  refine (hgo _).mono ?_
  rintro e w1 ⟨rfl, rfl⟩
  go_wp2_with fail
  have ga : Gr w (w1.alloc (.cells #[.int .u32 f, .int .u32 c] 106)) := g1.alloc _ _
  refine (among_c (h.gr ga) f c ⟨f0, f1⟩ ⟨by omega, by omega⟩).mono ?_
  rintro e w2 ⟨rfl, g2⟩
  go_wp2_with fail
  go_returns
  exact ⟨rfl, ga.trans g2⟩
set_option maxRecDepth 100000 in
theorem Map_full (h : OwnL w mb F N S L) (a n perm : Int) (ha : U4 a) (hn : U4 n) (hs : StOk a n) (hp : 0 ≤ perm ∧ perm ≤ 7) (c : Nat) (hc : (n + 255) / 256 = c) (f : Int) (hf : a / 256 = f) (i : Nat) (hi : lb S.th f = i) (hi2 : lb S.th (f + c) = i) (hb : S.budget < (S.th.length : Int) + c) :
    Calls Tryd.prog 25 #[.pointer (some ⟨mb, 0, none⟩), .int .u32 a, .int .u32 n, .int .i64 perm] w fun e w' => e = .returned (.int .i64 6) ∧ Gr w w' := by
  have hst := stretch_ok a n ha hn hs
  have hgo := goodPerm_c perm
  rw [show decide (0 ≤ perm ∧ perm ≤ 7) = true by simpa using hp] at hgo
  obtain ⟨_, _, hs3⟩ := hs
  obtain ⟨a0, a1⟩ := ha
  obtain ⟨n0, n1⟩ := hn
  rw [hc, hf] at hst hs3
  have f0 : 0 ≤ f := by omega
  have f1 : f ≤ 16777216 := by omega
  have hbud := h.ok.budget
  have hlen : S.th.length ≤ 4096 := by have := h.ok.len; omega
  obtain ⟨q, cap, hv⟩ := row_shape h.row
  clear hp hc hf
  go_enter Tryd.func25, Tryd.ntmps25
  go_wp2_with fail
  refine (hst _).mono ?_
  rintro e w1 ⟨rfl, g1⟩
  go_wp2_with fail
  refine (hgo _).mono ?_
  rintro e w1 ⟨rfl, rfl⟩
  go_wp2_with fail
  have ga : Gr w (w1.alloc (.cells #[.int .u32 f, .int .u32 c] 106)) := g1.alloc _ _
  refine (among_c (h.gr ga) f c ⟨f0, f1⟩ ⟨by omega, by omega⟩).mono ?_
  rw [hi, hi2]
  rintro e w2 ⟨rfl, g2⟩
  have g3 := ga.trans g2
  have h2 := h.gr g3
  have c0 := h2.c0
  have c1 := h2.c1
  rw [hv] at c1
  have s0 : w2.cell? ⟨w1.heap.size, 0, none⟩ = some (.int .u32 f) := g2.keep (by simp)
  have s1 : w2.cell? ⟨w1.heap.size, 1, none⟩ = some (.int .u32 c) := g2.keep (by simp)
  go_wp2_with fail
  go_quiet (fail)
  go_wp2_with fail
  go_returns
  exact ⟨rfl, g3.drewN _⟩

def MS.mapE (S : MS) (a n perm : Int) : Int :=
  if (n ≠ 0 ∧ a % 256 = 0 ∧ a / 256 + (n + 255) / 256 ≤ 16777216) ∧ 0 ≤ perm ∧ perm ≤ 7 then
    (if lb S.th (a / 256) = lb S.th (a / 256 + (n + 255) / 256) then (if S.budget < (S.th.length : Int) + (n + 255) / 256 then 6 else 0) else 5)
  else 1
def MS.mapS (S : MS) (a n perm : Int) : MS := if S.mapE a n perm = 0 then S.map (a / 256) ((n + 255) / 256).toNat perm else S

theorem Own.add (h : Own w mb F N S) {w' : World} {M : Nat} (g : Gr w w') (hN : N ≤ M) : Own w' mb (Add F w w') M S := by
  obtain ⟨L, h⟩ := h
  exact ⟨L, (h.gr g).mono (fun i hi => .inl hi) (fun i hi => hi.elim (fun x => (h.gr g).lt i x) (fun x => x.2)) hN⟩
theorem Map_c (h : Own w mb F N S) (a n perm : Int) (ha : U4 a) (hn : U4 n) (hN : N + 4096 < maxLen) (hI : S.mapE a n perm = 0 → InsSpec S.th (lb S.th (a / 256))) :
    Calls Tryd.prog 25 #[.pointer (some ⟨mb, 0, none⟩), .int .u32 a, .int .u32 n, .int .i64 perm] w fun e w' => e = .returned (.int .i64 (S.mapE a n perm)) ∧ Fr F w w' ∧ Own w' mb (Add F w w') (N + 4096) (S.mapS a n perm) := by
  have h' := h
  obtain ⟨L, h⟩ := h
  have fin : ∀ x, S.mapE a n perm = x → x ≠ 0 → Calls Tryd.prog 25 #[.pointer (some ⟨mb, 0, none⟩), .int .u32 a, .int .u32 n, .int .i64 perm] w (fun e w' => e = .returned (.int .i64 x) ∧ Gr w w') →
      Calls Tryd.prog 25 #[.pointer (some ⟨mb, 0, none⟩), .int .u32 a, .int .u32 n, .int .i64 perm] w (fun e w' => e = .returned (.int .i64 (S.mapE a n perm)) ∧ Fr F w w' ∧ Own w' mb (Add F w w') (N + 4096) (S.mapS a n perm)) := by
    intro x hx nx hcall
    refine hcall.mono (fun e w' ⟨he, hg⟩ => ?_)
    rw [hx, show S.mapS a n perm = S by simp [MS.mapS, hx, nx]]
    exact ⟨he, hg.fr _, h'.add hg (by omega)⟩
  by_cases hk : StOk a n ∧ 0 ≤ perm ∧ perm ≤ 7
  · obtain ⟨c, hc⟩ : ∃ c : Nat, (n + 255) / 256 = c := ⟨((n + 255) / 256).toNat, by unfold U4 at hn; omega⟩
    have hk' := hk
    obtain ⟨hk1, hk2⟩ := hk
    unfold StOk at hk'
    by_cases hi : lb S.th (a / 256) = lb S.th (a / 256 + (n + 255) / 256)
    · by_cases hb : S.budget < (S.th.length : Int) + (n + 255) / 256
      · have e6 : S.mapE a n perm = 6 := by unfold MS.mapE; rw [if_pos hk', if_pos hi, if_pos hb]
        exact fin 6 e6 (by omega) (Map_full h a n perm ha hn hk1 hk2 c hc _ rfl _ hi (by rw [← hc]) (by rw [← hc]; exact hb))
      · have e0 : S.mapE a n perm = 0 := by unfold MS.mapE; rw [if_pos hk', if_pos hi, if_neg hb]
        have hb2 : (S.th.length : Int) + c ≤ S.budget := by rw [← hc]; omega
        have hbud := h.ok.budget
        have hc4 : c ≤ 4096 := by omega
        have es : S.mapS a n perm = S.map (a / 256) c perm := by simp only [MS.mapS, e0, if_pos]; rw [hc]; simp
        rw [e0, es]
        refine (Map_ok h a n perm ha hn hk1 hk2 c hc _ rfl _ rfl (by rw [← hc]; exact hi.symm) hb2 (by omega) (hI e0)).mono (fun e w' ⟨h1, h2, h3⟩ => ⟨h1, h2, ?_⟩)
        obtain ⟨L', h3⟩ := h3
        exact ⟨L', h3.mono (fun _ x => x) h3.lt (by omega)⟩
    · have e5 : S.mapE a n perm = 5 := by unfold MS.mapE; rw [if_pos hk', if_neg hi]
      exact fin 5 e5 (by omega) (Map_there h a n perm ha hn hk1 hk2 c hc _ rfl (by rw [← hc]; exact hi))
  · have e1 : S.mapE a n perm = 1 := by unfold MS.mapE; rw [if_neg (by unfold StOk at hk; exact hk)]
    refine fin 1 e1 (by omega) (Map_bad a n perm ha hn ?_)
    by_cases x : StOk a n
    · exact .inr (fun y => hk ⟨x, y⟩)
    · exact .inl x
end
end Go.Proofs.YtbackacbdfgdoaaDoor
namespace Go.Proofs.YtbackacbdfgdoaaDoor
open Go.ChangeShapes Go.WideShapes Go.ChangeAt Go.RowKit
set_option linter.unusedSimpArgs false
set_option linter.unusedVariables false

theorem u4_is {a : Int} (h : (Lit.int .u32 a).wf = true) : U4 a := by have := bounds_u32 h; exact ⟨by omega, by omega⟩
theorem u8_is {a : Int} (h : (Lit.int .u8 a).wf = true) : 0 ≤ a ∧ a < 256 := by have := bounds_u8 h; exact ⟨by omega, by omega⟩
/-- A law that began in w0 holds a memory of its own making. -/
def Has (w0 w : World) (mb N : Nat) (S : MS) : Prop := ∃ F, Gr w0 w ∧ (∀ i, F i → w0.heap.size ≤ i) ∧ Own w mb F N S
theorem Has.gr {w0 w : World} {mb N : Nat} {S : MS} (h : Has w0 w mb N S) : Gr w0 w := by obtain ⟨F, g, _⟩ := h; exact g
theorem Has.ok {w0 w : World} {mb N : Nat} {S : MS} (h : Has w0 w mb N S) : S.Ok := by obtain ⟨F, _, _, o⟩ := h; exact o.ok
theorem Has.step {w0 w w' : World} {F : Nat → Prop} (g : Gr w0 w) (hF : ∀ i, F i → w0.heap.size ≤ i) (fr : Fr F w w') : Gr w0 w' :=
  ((g.fr F).trans fr (fun _ _ h => h)).gr (fun i hi hf => by have := hF i hf; omega)
theorem Has.on {w0 w w' : World} {mb N : Nat} {S : MS} (h : Has w0 w mb N S) (g : Gr w w') : Has w0 w' mb N S := by
  obtain ⟨F, g0, hF, o⟩ := h
  exact ⟨F, g0.trans g, hF, o.gr g⟩
theorem Add_ge {w0 w w' : World} {F : Nat → Prop} (g : Gr w0 w) (hF : ∀ i, F i → w0.heap.size ≤ i) : ∀ i, Add F w w' i → w0.heap.size ≤ i := by
  rintro i (h | h)
  · exact hF i h
  · have := g.size; omega

theorem New_h {w0 w : World} (g : Gr w0 w) (n : Int) (hn : 1 ≤ n ∧ n ≤ 4096) :
    Calls Tryd.prog 24 #[.int .i64 n] w fun e w' => ∃ mb, e = .returned (.tuple #[.pointer (some ⟨mb, 0, none⟩), .int .i64 0]) ∧ Has w0 w' mb 0 (MS.new n) :=
  (New_c n hn w).mono (fun _ _ ⟨mb, F, h1, h2, h3, h4⟩ => ⟨mb, h1, F, g.trans h2, fun i hi => Nat.le_trans g.size (h3 i hi), h4⟩)
section
variable {w0 w : World} {mb N : Nat} {S : MS}
theorem Map_h (h : Has w0 w mb N S) (a n perm : Int) (ha : U4 a) (hn : U4 n) (hN : N + 4096 < maxLen) (hI : S.mapE a n perm = 0 → InsSpec S.th (lb S.th (a / 256))) :
    Calls Tryd.prog 25 #[.pointer (some ⟨mb, 0, none⟩), .int .u32 a, .int .u32 n, .int .i64 perm] w fun e w' => e = .returned (.int .i64 (S.mapE a n perm)) ∧ Has w0 w' mb (N + 4096) (S.mapS a n perm) := by
  obtain ⟨F, g, hF, o⟩ := h
  exact (Map_c o a n perm ha hn hN hI).mono (fun e w' ⟨h1, h2, h3⟩ => ⟨h1, _, Has.step g hF h2, Add_ge g hF, h3⟩)
theorem Store_h (h : Has w0 w mb N S) (a size v : Int) (ha : U4 a) (hv : U4 v) :
    Calls Tryd.prog 86 #[.pointer (some ⟨mb, 0, none⟩), .int .u32 a, .int .i64 size, .int .u32 v] w fun e w' => e = .returned (.int .i64 (S.ask a size 2)) ∧ Has w0 w' mb N (S.store a size v) := by
  obtain ⟨F, g, hF, o⟩ := h
  exact (Store_c o a size v ha hv).mono (fun e w' ⟨h1, h2, h3, _⟩ => ⟨h1, F, Has.step g hF h2, hF, h3⟩)
theorem Load_h (h : Has w0 w mb N S) (a size need : Int) (ha : U4 a) :
    Calls Tryd.prog 31 #[.pointer (some ⟨mb, 0, none⟩), .int .u32 a, .int .i64 size, .int .i64 need] w fun e w' => e = .returned (.tuple #[.int .u32 (S.load a size need), .int .i64 (S.ask a size need)]) ∧ w' = w := by
  obtain ⟨F, g, hF, L, o⟩ := h
  exact Load_c o a size need ha
end

/-- A page that is there, with its perm. -/
theorem ask_pg {S : MS} {a size need : Int} {p : Pg} (hp : S.pg (a / 256) = some p) (hs : (size = 1 ∨ size = 2 ∨ size = 4) ∧ a % size = 0) (hb : (bits .and .i64 p.perm need == need) = true) : S.ask a size need = 0 := by
  unfold MS.ask
  rw [if_pos hs, hp]
  simp only
  rw [if_pos hb]
theorem load_pg {S : MS} {a size need : Int} {p : Pg} (hp : S.pg (a / 256) = some p) (h0 : S.ask a size need = 0) : S.load a size need = p.val (a % 256).toNat size := by
  unfold MS.load
  rw [if_pos h0, hp]
theorem store_pg {S : MS} {a size v : Int} {p : Pg} (hp : S.pg (a / 256) = some p) (h0 : S.ask a size 2 = 0) :
    (S.store a size v).pg (a / 256) = some { p.wrt (a % 256).toNat v size.toNat with gen := (p.gen + 1) % 4294967296 } := by
  unfold MS.store
  rw [if_pos h0, hp]
  simp [upd_same]
theorem b32 : (bits .and .i64 3 2 == 2) = true := by decide
theorem b31 : (bits .and .i64 3 1 == 1) = true := by decide
theorem new_map {b a n perm : Int} (hs : n ≠ 0 ∧ a % 256 = 0 ∧ a / 256 + (n + 255) / 256 ≤ 16777216) (hp : 0 ≤ perm ∧ perm ≤ 7) (hb : (n + 255) / 256 ≤ b) : (MS.new b).mapE a n perm = 0 := by
  unfold MS.mapE
  rw [if_pos ⟨hs, hp⟩, if_pos (by simp [MS.new, lb]), if_neg (by simp [MS.new]; omega)]
theorem new_ins (b : Int) (f : Int) : InsSpec (MS.new b).th (lb (MS.new b).th f) := Insert_end []
theorem new_pg {b a n perm : Int} (h : (MS.new b).mapE a n perm = 0) {k : Int} (hn : 0 ≤ n) (hk : a / 256 ≤ k ∧ k < a / 256 + (n + 255) / 256) : ((MS.new b).mapS a n perm).pg k = some (Pg.fresh perm 1) := by
  unfold MS.mapS
  rw [if_pos h]
  simp only [MS.map]
  rw [if_pos (by omega)]
  rfl

end Go.Proofs.YtbackacbdfgdoaaDoor
