/- Put; Tag. -/
import Derived.Test.YtgebmedkhakhfaaShFill
namespace Go.Proofs.Ytgebmedkhakhfaa
open Go.ChangeShapes Go.WideShapes Go.ChangeAt Go.RowKit Go.Shelf
set_option linter.unusedSimpArgs false
set_option linter.unusedVariables false
attribute [local go_sem] Oper.semAt_some wide_fn

/-- How many bytes of a number are meant. -/
def tsz (n : Int) : Nat := if n < 0 ∨ 4 < n then 4 else n.toNat
theorem tsz_le (n : Int) : tsz n ≤ 4 := by unfold tsz; split <;> omega
theorem sizeOf_t (n : Int) (w : World) : Calls Try.prog 82 #[.int .i64 n] w fun e w' => e = .returned (.int .i64 (tsz n)) ∧ w' = w := by
  have e : (if n < 0 ∨ 4 < n then 4 else n) = (tsz n : Int) := by unfold tsz; split <;> omega
  rw [← e]
  exact sizeOf_c n w
def tagv (t : Nat → Int) : Array Value := #[.int .u8 (t 0), .int .u8 (t 1), .int .u8 (t 2), .int .u8 (t 3)]
section
variable {w : World} {sb : Nat} {F : Nat → Prop} {N : Nat} {S : SS} {L : SLay}
theorem four_cases {P : Nat → Prop} {i : Nat} (hi : i < 4) (h0 : P 0) (h1 : P 1) (h2 : P 2) (h3 : P 3) : P i := by
  have : i = 0 ∨ i = 1 ∨ i = 2 ∨ i = 3 := by omega
  rcases this with rfl | rfl | rfl | rfl <;> assumption
set_option maxRecDepth 100000 in
set_option maxHeartbeats 1000000 in
theorem Put_c (h : ShL w sb F N S L) (A n : Int) (hA : U4 A) (t : Nat → Int) (ht : ∀ i, 0 ≤ t i ∧ t i < 256) (m : Nat) (hm : (m : Int) = max 0 (min ((tsz n : Nat) : Int) (4294967296 - A))) (hks : (L.ks.length : Int) ≤ S.budget) (hN : N + rowN A m < maxLen) :
    Calls Try.prog 44 #[.pointer (some ⟨sb, 0, none⟩), .int .u32 A, .int .i64 n, .agg (tagv t)] w (SetPost w sb F (N + rowN A m) S (S.put A t m)) := by
  have H := sizeOf_t n
  have hk := tsz_le n
  obtain ⟨k, hk'⟩ : ∃ k, tsz n = k := ⟨_, rfl⟩
  rw [hk'] at H hk hm
  clear hk'
  have hk4 : (k : Int) ≤ 4 := by omega
  unfold tagv
  go_enter Try.func44, Try.ntmps44
  go_wp2_with fail
  refine (H _).mono ?_
  rintro e w1 ⟨rfl, rfl⟩
  have g1 : Below w.heap.size w (w.alloc (.cells #[.int .u8 (t 0), .int .u8 (t 1), .int .u8 (t 2), .int .u8 (t 3)] 57)) := bl_alloc (Below.refl _ _) _
  have hby : Bys (w.alloc (.cells #[.int .u8 (t 0), .int .u8 (t 1), .int .u8 (t 2), .int .u8 (t 3)] 57)) w.heap.size 0 k t := fun i hi => ⟨by
    have h4 : i < 4 := by omega
    refine four_cases (P := fun i => World.cell? (w.alloc (.cells #[.int .u8 (t 0), .int .u8 (t 1), .int .u8 (t 2), .int .u8 (t 3)] 57)) ⟨w.heap.size, 0 + i, none⟩ = some (.int .u8 (t i))) h4 ?_ ?_ ?_ ?_ <;> simp, ht i⟩
  go_wp2_with fail
  refine (Set_c (h.bl g1) A hA (g := w.heap.size) (o := 0) (len := k) (cap := 4) (bs := t) ⟨by omega, by omega, hby, .inr rfl⟩ m hm hks (by omega) hN (fun _ x => by have := h.lt _ x; omega)).mono ?_
  intro e w' hp
  have hq := SetPost.up g1 hp
  obtain ⟨x, hx⟩ : ∃ x, e = .returned (.int .i64 x) := by
    obtain ⟨ks', he, (⟨rfl, _⟩ | ⟨rfl, _⟩)⟩ := hq <;> exact ⟨_, rfl⟩
  subst hx
  go_wp2_with fail
  go_returns
  exact hq

/-- Block B holds these cells. -/
def BoxN (W : World) (B : Nat) (t : TypeId) (cs : Array Value) : Prop := W.heap[B]? = some (.cells cs t (0, 0))
theorem BoxN.lt {W : World} {B : Nat} {t : TypeId} {cs : Array Value} (h : BoxN W B t cs) : B < W.heap.size := (Array.getElem?_eq_some_iff.1 h).1
theorem BoxN.bl {W W' : World} {B : Nat} {t : TypeId} {cs : Array Value} (b : BoxN W B t cs) (h : Below W.heap.size W W') : BoxN W' B t cs := (h.block B b.lt).trans b
theorem boxN_own {β : Type} (B : Nat) (t : TypeId) (f : β → Array Value) : Go.Own (fun s W => BoxN W B t (f s)) := fun s X Y row hs hg hrow =>
  (hg.block B (BoxN.lt hs) (fun e' => by obtain ⟨o, ho, hc⟩ := hrow B e'.symm; rw [show X.heap[B]? = _ from hs] at ho; cases ho; cases hc)).trans hs
theorem wpListIn_copy_eq {F : Fence} {n : Nat} {P : Program} {w w' : World} {ops : Array Oper} {rest : List Oper} {o : Oper} {a : Act} {Q : Exit → Act → World → Prop} (hgd : o.guard = none) (s x : Operand) (t : TypeId)
    (ho : o.op = .call { callee := .builtin .copy, args := #[s, x], argTypes := #[t, t] }) {v xv v' : Value} (hs : a.eval s = v) (hx : a.eval x = xv)
    (hr : (Builtin.copy_ #[t, t] o.type #[v, xv]).run P w = .ok v' w') (h : wpListIn F n P ops Q rest (a.put o.dst v') w') : wpListIn F n P ops Q (o :: rest) a w := by
  refine wpListIn_plain hgd fun K hK' => ?_
  unfold Oper.wpIn
  refine ⟨?_, ?_⟩
  · simp [Oper.about, ho, resolve, Target.leads, Sem.run_pure]
  · rw [Oper.semAt_plain F _ _ (by rw [ho]; intro c hc'; cases hc')]
    simp [execOp, ho, resolve, invoke, builtin, hs, hx, hr, Result.andThen]
    exact hK' _ _ h
/-- The labels that the rows of pre have brought. -/
def tagF (S : SS) (A : Int) (m : Nat) (pre : List (Rw A m)) (j : Nat) : Int := if pre.any (fun i => decide (sk A m i ≤ j ∧ j < sk A m (i + 1))) then S.lab (A + j) else 0
theorem tagF_nil (S : SS) (A : Int) (m j : Nat) : tagF S A m [] j = 0 := by simp [tagF]
theorem tagF_snoc (S : SS) (A : Int) (m : Nat) (pre : List (Rw A m)) (x : Rw A m) (j : Nat) : tagF S A m (pre ++ [x]) j = if sk A m x ≤ j ∧ j < sk A m (x + 1) then S.lab (A + j) else tagF S A m pre j := by
  unfold tagF
  rw [List.any_append]
  by_cases h : sk A m x ≤ j ∧ j < sk A m (x + 1)
  · simp [h]
  · rw [if_neg h]
    simp only [List.any_cons, List.any_nil, Bool.or_false, decide_eq_false h]
theorem row_of {A : Int} {m j : Nat} (hA : 0 ≤ A) (hj : j < m) : ∃ i : Rw A m, sk A m i ≤ j ∧ j < sk A m (i + 1) := by
  have H : ∀ k, j < sk A m k → k ≤ rowN A m → ∃ i : Rw A m, sk A m i ≤ j ∧ j < sk A m (i + 1) := by
    intro k
    induction k with
    | zero => intro h; rw [sk_zero] at h; omega
    | succ k ih =>
      intro h hk
      by_cases h2 : j < sk A m k
      · exact ih h2 (by omega)
      · exact ⟨⟨k, hk⟩, by dsimp only; omega, h⟩
  exact H (rowN A m) (by rw [sk_end (Nat.le_refl _)]; exact hj) (Nat.le_refl _)
theorem tagF_all (S : SS) {A : Int} (m : Nat) (hA : 0 ≤ A) (j : Nat) : tagF S A m (List.finRange (rowN A m)) j = if j < m then S.lab (A + j) else 0 := by
  unfold tagF
  by_cases h : j < m
  · obtain ⟨i, hi⟩ := row_of hA h
    rw [if_pos h, if_pos (List.any_eq_true.2 ⟨i, List.mem_finRange i, by simpa using hi⟩)]
  · rw [if_neg h, if_neg]
    intro x
    obtain ⟨i, _, hi⟩ := List.any_eq_true.1 x
    have := sk_le A m (i + 1)
    simp at hi
    omega
theorem tagv_size (f : Nat → Int) : (tagv f).size = 4 := rfl
theorem tagv_at (f : Nat → Int) {i : Nat} (hi : i < 4) : (tagv f)[i]? = some (.int .u8 (f i)) :=
  four_cases (P := fun i => (tagv f)[i]? = some (.int .u8 (f i))) hi rfl rfl rfl rfl
theorem tagv_ext {a : Array Value} {f : Nat → Int} (h : a.size = 4) (h1 : ∀ i, i < 4 → a[i]? = some (.int .u8 (f i))) : a = tagv f := by
  apply Array.ext_getElem?
  intro i
  by_cases e : i < 4
  · rw [h1 i e, tagv_at f e]
  · have := tagv_size f
    rw [Array.getElem?_eq_none (by omega), Array.getElem?_eq_none (by omega)]
theorem tagv_congr {f g : Nat → Int} (h : ∀ i, i < 4 → f i = g i) : tagv f = tagv g := tagv_ext (tagv_size f) (fun i hi => by rw [tagv_at f hi, h i hi])
theorem copy_tag {B b r sl dc sc s d : Nat} {f g : Nat → Int} {ty : TypeId} (hB : BoxN w B ty (tagv f)) (hb : Bys w b r d g) (hs : s + d ≤ 4) (hd : d ≤ sl) :
    (Builtin.copy_ #[34, 34] 3 #[.slice (some ⟨B, s, none⟩) d dc, .slice (some ⟨b, r, none⟩) sl sc]).run Try.prog w = .ok (goInt d) (w.setRow B (tagv (over f s g d))) := by
  have hl : ((List.range d).map (fun i => Value.int .u8 (g i))).length = d := by simp
  have hr := run_copy_row (P := Try.prog) w 34 34 3 5 B s d dc ⟨b, r, none⟩ sl sc (tagv f) ty ((List.range d).map (fun i => Value.int .u8 (g i))) Try.underlying34 (by kernel_rfl) hB
    (by rw [hl]; exact (Nat.min_eq_right hd).symm) (fun j v hv => by
      have hj : j < d := by have := (List.getElem?_eq_some_iff.1 hv).1; simpa using this
      simp [hj] at hv
      subst hv
      have hadd : (⟨b, r, none⟩ : Addr).add j = ⟨b, r + j, none⟩ := by unfold Addr.add; split <;> simp_all
      rw [hadd]; exact (hb j hj).1) (by rw [hl, tagv_size]; omega) (fun v hv => by simp at hv; obtain ⟨i, _, rfl⟩ := hv; rfl)
  rw [hr, hl]
  have e : ((tagv f).toList.take s ++ (List.range d).map (fun i => Value.int .u8 (g i)) ++ (tagv f).toList.drop (s + d)).toArray = tagv (over f s g d) := by
    have hsz : (tagv f).toList.length = 4 := rfl
    have gt : ∀ i : Nat, (tagv f).toList[i]? = (tagv f)[i]? := fun i => by rw [Array.getElem?_toList]
    apply tagv_ext
    · have : (tagv f).size = 4 := rfl
      simp; omega
    · intro i hi
      simp only [List.getElem?_toArray]
      by_cases e1 : i < s
      · rw [List.append_assoc, List.getElem?_append_left (by simp [hsz]; omega), List.getElem?_take_of_lt e1, gt, tagv_at _ hi]
        unfold over; rw [if_neg (by omega)]
      · by_cases e2 : i < s + d
        · rw [List.getElem?_append_left (by simp [hsz]; omega), List.getElem?_append_right (by simp [hsz]; omega)]
          have : i - (List.take s (tagv f).toList).length = i - s := by simp [hsz]; omega
          rw [this]
          unfold over; rw [if_pos (by omega), List.getElem?_map, List.getElem?_range (by omega)]
          rfl
        · rw [List.getElem?_append_right (by simp [hsz]; omega), List.getElem?_drop, gt]
          have : s + d + (i - (List.take s (tagv f).toList ++ (List.range d).map (fun i => Value.int .u8 (g i))).length) = i := by simp [hsz]; omega
          rw [this, tagv_at _ hi]
          unfold over; rw [if_neg (by omega)]
  rw [e]
theorem BoxN.row {W : World} {B : Nat} {t : TypeId} {cs cs' : Array Value} (h : BoxN W B t cs) : BoxN (W.setRow B cs') B t cs' := by
  unfold BoxN World.setRow
  simp [Array.getElem?_modify, show W.heap[B]? = _ from h]
theorem BoxN.at {W : World} {B : Nat} {t : TypeId} {f : Nat → Int} (h : BoxN W B t (tagv f)) {i : Nat} (hi : i < 4) : W.cell? ⟨B, i, none⟩ = some (.int .u8 (f i)) := by
  simp [World.cell?, show W.heap[B]? = _ from h, tagv_at f hi]
theorem BoxN.fz {W : World} {B : Nat} {t : TypeId} {cs : Array Value} (h : BoxN W B t cs) (i : Nat) : W.frozen? ⟨B, i, none⟩ = false := by
  simp [World.frozen?, show W.heap[B]? = _ from h]
theorem BoxN.c0 {W : World} {B : Nat} {t : TypeId} {v : Value} (h : BoxN W B t #[v]) : W.cell? ⟨B, 0, none⟩ = some v := by simp [World.cell?, show W.heap[B]? = _ from h]
theorem BoxN.new (W : World) (t : TypeId) (cs : Array Value) : BoxN (W.alloc (.cells cs t)) W.heap.size t cs := World.alloc_heap_new W _
theorem BoxN.four {W : World} {B : Nat} {t : TypeId} {f : Nat → Int} (h : BoxN W B t (tagv f)) (G : Nat → Int) :
    BoxN ((((W.setCell ⟨B, 0, none⟩ (.int .u8 (G 0))).setCell ⟨B, 1, none⟩ (.int .u8 (G 1))).setCell ⟨B, 2, none⟩ (.int .u8 (G 2))).setCell ⟨B, 3, none⟩ (.int .u8 (G 3))) B t (tagv G) := by
  have h1 := heap_setCell_same h (o := 0) (v := .int .u8 (G 0))
  have h2 := heap_setCell_same h1 (o := 1) (v := .int .u8 (G 1))
  have h3 := heap_setCell_same h2 (o := 2) (v := .int .u8 (G 2))
  have h4 := heap_setCell_same h3 (o := 3) (v := .int .u8 (G 3))
  exact h4
theorem setRow_keeps (W : World) (B b : Nat) (cs : Array Value) {t : TypeId} {c0 : Array Value} (h : BoxN W b t c0) : KeepsFrom B W (W.setRow b cs) :=
  ⟨by simp [World.setRow], fun k o _ hk hc => by
    rw [setRow_other W b k cs (fun e => by subst e; rw [show W.heap[k]? = _ from h] at hk; cases hk; cases hc)]; exact hk⟩
set_option maxRecDepth 100000 in
set_option maxHeartbeats 2000000 in
theorem Tag_c (h : ShL w sb F N S L) (A n : Int) (hA : U4 A) (m : Nat) (hm : (m : Int) = max 0 (min ((tsz n : Nat) : Int) (4294967296 - A))) :
    Calls Try.prog 40 #[.pointer (some ⟨sb, 0, none⟩), .int .u32 A, .int .i64 n] w fun e w' => e = .returned (.agg (tagv (fun j => if j < m then S.lab (A + j) else 0))) ∧ Below w.heap.size w w' := by
  have H := sizeOf_t n
  have hk := tsz_le n
  obtain ⟨k, hk'⟩ : ∃ k, tsz n = k := ⟨_, rfl⟩
  rw [hk'] at H hk hm
  clear hk'
  have hk4 : (k : Int) ≤ 4 := by omega
  obtain ⟨G, hG⟩ : ∃ G : Nat → Int, (fun j : Nat => if j < m then S.lab (A + j) else 0) = G := ⟨_, rfl⟩
  have HG : ∀ j, tagF S A m (List.finRange (rowN A m)) j = G j := fun j => by rw [← hG]; exact tagF_all S m hA.1 j
  rw [hG]
  clear hG
  refine (callsIn_wide (n := 5)).1 ?_
  refine callsIn_of_wp_marks Try.func40 rfl trivial ?_ rfl
  simp only [Try.ntmps40, List.size_toArray, List.length_cons, List.length_nil, Nat.reduceAdd, Nat.reduceSub, Array.replicate_succ, Array.replicate_zero, List.push_toArray, List.append_toArray, List.nil_append, List.cons_append]
  gi_wp2_with (first
    | (gi_at_call 82; refine (callsIn_wide.2 (H _)).mono ?_; rintro e w' ⟨rfl, rfl⟩)
    | (gi_at_call 80; refine (rows_in _ A _ _ (some ⟨w.heap.size + 1 + 1, 0, none⟩) k 4 rfl).mono ?_; rintro e w' ⟨rfl, rfl⟩))
  obtain ⟨a0, a1⟩ := hA
  obtain ⟨W0, hW0⟩ : ∃ W0, (((((w.alloc (.cells #[.pointer (some ⟨sb, 0, none⟩)] 52)).alloc (.cells #[.int .u8 0, .int .u8 0, .int .u8 0, .int .u8 0] 57)).alloc (.cells #[.int .u8 0, .int .u8 0, .int .u8 0, .int .u8 0] 57)).alloc (.cells #[.int .u32 A] 33)).alloc (.cells #[.slice (some ⟨w.heap.size + 1 + 1, 0, none⟩) k 4] 34)) = W0 := ⟨_, rfl⟩
  have bS : BoxN W0 w.heap.size 52 #[.pointer (some ⟨sb, 0, none⟩)] := by
    rw [← hW0]; exact BoxN.bl (BoxN.bl (BoxN.bl (BoxN.bl (BoxN.new w _ _) (bl_alloc (Below.refl _ _) _)) (bl_alloc (Below.refl _ _) _)) (bl_alloc (Below.refl _ _) _)) (bl_alloc (Below.refl _ _) _)
  have bR : BoxN W0 (w.heap.size + 1) 57 (tagv (fun _ => 0)) := by
    have := BoxN.new (w.alloc (.cells #[.pointer (some ⟨sb, 0, none⟩)] 52)) 57 (tagv (fun _ => 0))
    rw [World.size_alloc] at this
    rw [← hW0]; exact BoxN.bl (BoxN.bl (BoxN.bl this (bl_alloc (Below.refl _ _) _)) (bl_alloc (Below.refl _ _) _)) (bl_alloc (Below.refl _ _) _)
  have bT : BoxN W0 (w.heap.size + 1 + 1) 57 (tagv (fun _ => 0)) := by
    have := BoxN.new ((w.alloc (.cells #[.pointer (some ⟨sb, 0, none⟩)] 52)).alloc (.cells #[.int .u8 0, .int .u8 0, .int .u8 0, .int .u8 0] 57)) 57 (tagv (fun _ => 0))
    rw [World.size_alloc, World.size_alloc] at this
    rw [← hW0]; exact BoxN.bl (BoxN.bl this (bl_alloc (Below.refl _ _) _)) (bl_alloc (Below.refl _ _) _)
  have bA : W0.cell? ⟨w.heap.size + 1 + 1 + 1, 0, none⟩ = some (.int .u32 A) := by
    have := BoxN.new (((w.alloc (.cells #[.pointer (some ⟨sb, 0, none⟩)] 52)).alloc (.cells #[.int .u8 0, .int .u8 0, .int .u8 0, .int .u8 0] 57)).alloc (.cells #[.int .u8 0, .int .u8 0, .int .u8 0, .int .u8 0] 57)) 33 #[.int .u32 A]
    rw [World.size_alloc, World.size_alloc, World.size_alloc] at this
    rw [← hW0]; exact (BoxN.bl this (bl_alloc (Below.refl _ _) _)).c0
  have bL : W0.cell? ⟨w.heap.size + 1 + 1 + 1 + 1, 0, none⟩ = some (.slice (some ⟨w.heap.size + 1 + 1, 0, none⟩) k 4) := by
    have := BoxN.new ((((w.alloc (.cells #[.pointer (some ⟨sb, 0, none⟩)] 52)).alloc (.cells #[.int .u8 0, .int .u8 0, .int .u8 0, .int .u8 0] 57)).alloc (.cells #[.int .u8 0, .int .u8 0, .int .u8 0, .int .u8 0] 57)).alloc (.cells #[.int .u32 A] 33)) 34 #[.slice (some ⟨w.heap.size + 1 + 1, 0, none⟩) k 4]
    rw [World.size_alloc, World.size_alloc, World.size_alloc, World.size_alloc] at this
    rw [← hW0]; exact this.c0
  have b0 : Below w.heap.size w W0 := by
    rw [← hW0]; exact bl_alloc (bl_alloc (bl_alloc (bl_alloc (bl_alloc (Below.refl _ _) _) _) _) _) _
  have s0 : W0.heap.size = w.heap.size + 5 := by rw [← hW0]; simp
  rw [hW0]
  clear hW0
  refine wpIn_rangeFunc_ownG rfl (by decide) (gf := 99) (lb := #[.pointer (some ⟨w.heap.size + 1 + 1 + 1, 0, none⟩), .pointer (some ⟨w.heap.size + 1 + 1 + 1 + 1, 0, none⟩)]) rfl trivial (enters_of Try.func99 (by kernel_rfl) rfl)
    (rows_any 4 (by omega) A ⟨a0, a1⟩ (w.heap.size + 1 + 1 + 1) (w.heap.size + 1 + 1 + 1 + 1) (w.heap.size + 1 + 1) 0 m k 4 (some ⟨w.heap.size + 1 + 1, 0, none⟩) (.inr rfl) hm hk (by omega) W0 (by omega) (by omega) bA bL) (fun _ _ => trivial) (fun _ _ _ _ _ _ _ _ => trivial) (Below.refl _ _) (fun _ => rfl)
    (fun pre W => BoxN W w.heap.size 52 #[.pointer (some ⟨sb, 0, none⟩)] ∧ BoxN W (w.heap.size + 1) 57 (tagv (fun _ => 0)) ∧ BoxN W (w.heap.size + 1 + 1) 57 (tagv (tagF S A m pre)) ∧ Below w.heap.size w W)
    (fun _ _ _ => False)
    (OwnFrom.and (Own.from (boxN_own _ _ (fun _ => #[.pointer (some ⟨sb, 0, none⟩)])) _) (OwnFrom.and (Own.from (boxN_own _ _ (fun _ => tagv (fun _ => 0))) _) (OwnFrom.and (Own.from (boxN_own _ _ (fun pre => tagv (tagF S A m pre))) _) (ownFrom_below (Nat.le_refl _) (by omega)))))
    (fun _ _ _ _ _ hs _ _ => hs)
    ⟨bS, bR, by rw [tagv_congr (fun j _ => tagF_nil S A m j)]; exact bT, b0⟩
    (fun x => { tmps := #[.pointer (some ⟨sb, 0, none⟩), .int .u32 A, .int .i64 n, .pointer (some ⟨w.heap.size, 0, none⟩), undef, undef, .pointer (some ⟨w.heap.size + 1, 0, none⟩), .pointer (some ⟨w.heap.size + 1 + 1, 0, none⟩),
      .int .u32 (A + sk A m x), .slice (some ⟨w.heap.size + 1 + 1, sk A m x, none⟩) (sk A m (x + 1) - sk A m x) (4 - sk A m x), undef, .int .u32 A, .int .i64 n, .int .i64 k, .slice (some ⟨w.heap.size + 1 + 1, 0, none⟩) k 4,
      .func (.func 99) #[] #[.pointer (some ⟨w.heap.size + 1 + 1 + 1, 0, none⟩), .pointer (some ⟨w.heap.size + 1 + 1 + 1 + 1, 0, none⟩)],
      .int .u32 (A + sk A m x), .slice (some ⟨w.heap.size + 1 + 1, sk A m x, none⟩) (sk A m (x + 1) - sk A m x) (4 - sk A m x), undef, undef, undef, undef, undef, undef, undef, undef, undef, undef, undef, undef, undef, undef, undef, undef, undef, undef], defers := [] }) ?assign ?body ?done ?stop
  case assign =>
    intro l x W K hK
    simp only [rowEnc, Nat.zero_add]
    gi_wp2
    exact hK
  case body =>
    rintro l pre x W ⟨cS, cR, cT, bl⟩ hlt
    obtain ⟨f1, f2, f3⟩ := row_fits a0 x.2
    have hml : m ≤ k ∧ A + m ≤ 4294967296 := by omega
    have hsn := tagF_snoc S A m pre x
    have hmo := sk_mono (A := A) (m := m) (k := x) a0
    obtain ⟨s, hs⟩ : ∃ s : Nat, sk A m x = s := ⟨_, rfl⟩
    obtain ⟨d, hd⟩ : ∃ d : Nat, sk A m (x + 1) - sk A m x = d := ⟨_, rfl⟩
    have hsd : sk A m (x + 1) = s + d := by omega
    rw [hsd, hs] at hsn
    rw [hd, hs] at f2 f3
    rw [hs] at f1
    rw [hd, hs]
    obtain ⟨a, ha⟩ : ∃ a : Int, A + s = a := ⟨_, rfl⟩
    rw [ha] at f2 ⊢
    have ua : U4 a := ⟨by omega, by omega⟩
    have u0 : 0 ≤ a := ua.1
    have u1 : a < 4294967296 := ua.2
    have hu : U4 (a / 256) := by unfold U4 at *; omega
    have hS := h.bl bl
    have hl := hS.pm.look hu
    have c1 := hS.c1
    have s1 : W.cell? ⟨w.heap.size, 0, none⟩ = some (.pointer (some ⟨sb, 0, none⟩)) := by simp [World.cell?, show W.heap[w.heap.size]? = _ from cS]
    clear hd hs hsd hmo hm hlt
    cases hb : L.bk (a / 256) with
    | none =>
      rw [hb] at hl
      simp only [pv] at hl
      gi_wp2
      refine ⟨KeepsFrom.refl _ _, trivial, cS, cR, ?_, bl⟩
      rw [tagv_congr (f := tagF S A m (pre ++ [x])) (g := tagF S A m pre) (fun j hj => ?_)]
      · exact cT
      · rw [hsn]
        split
        · rename_i hj2
          have z := nz_zero.1 (h.non _ (by omega) (by omega) hb) (a % 256 + (j - s)).toNat (by omega)
          unfold SS.pg at z
          rw [show 256 * (a / 256) + (((a % 256 + (j - s)).toNat : Nat) : Int) = A + j by omega] at z
          rw [z]
          unfold tagF
          split
          · exact z.symm
          · rfl
        · rfl
    | some b =>
      rw [hb] at hl
      simp only [pv] at hl
      have hq := (hS.pgs _ _ hb).2.2.1
      have hm0 : 0 ≤ a % 256 := by omega
      have hm1 : a % 256 ≤ 256 := by omega
      have hm2 : (a % 256).toNat ≤ 256 := by omega
      have hm3 : ¬ (256 = (a % 256).toNat) := by omega
      have hby : Bys W b (a % 256).toNat d (fun i => S.pg (a / 256) ((a % 256).toNat + i)) := fun i hi => ⟨hq.lab (by omega), h.rng _⟩
      have hrun := copy_tag (sl := 256 - (a % 256).toNat) (sc := 256 - (a % 256).toNat) (dc := 4 - s) (s := s) cT hby (by omega) (by omega)
      gi_wp2_with (first | (refine wpListIn_copy_eq rfl _ _ 34 rfl rfl rfl hrun ?_) | gi_in)
      refine ⟨setRow_keeps _ _ _ _ cT, trivial, ?_, ?_, ?_, ?_⟩
      · exact (setRow_other _ _ _ _ (by omega)).trans cS
      · exact (setRow_other _ _ _ _ (by omega)).trans cR
      · rw [tagv_congr (f := tagF S A m (pre ++ [x])) (g := over (tagF S A m pre) s (fun i => S.pg (a / 256) ((a % 256).toNat + i)) d) (fun j hj => ?_)]
        · exact cT.row
        · rw [hsn]
          unfold over
          split
          · unfold SS.pg
            congr 1
            omega
          · rfl
      · exact bl.trans ((setRow_fs W (w.heap.size + 1 + 1) _ (fun i => i = w.heap.size + 1 + 1) rfl).bl bl.size (fun i _ e => by omega))
  case done =>
    rintro D ys W hD rfl ⟨cS, cR, cT, bl⟩ hK
    rw [tagv_congr (fun j _ => HG j)] at cT
    have t0 := cT.at (i := 0) (by omega)
    have t1 := cT.at (i := 1) (by omega)
    have t2 := cT.at (i := 2) (by omega)
    have t3 := cT.at (i := 3) (by omega)
    have r0 := cR.at (i := 0) (by omega)
    have r1 := cR.at (i := 1) (by omega)
    have r2 := cR.at (i := 2) (by omega)
    have r3 := cR.at (i := 3) (by omega)
    have z0 := cR.fz 0
    have z1 := cR.fz 1
    have z2 := cR.fz 2
    have z3 := cR.fz 3
    have hne : D ≠ w.heap.size + 1 := by omega
    gi_wp2
    have hK' : ((((W.setCell ⟨w.heap.size + 1, 0, none⟩ (.int .u8 (G 0))).setCell ⟨w.heap.size + 1, 1, none⟩ (.int .u8 (G 1))).setCell ⟨w.heap.size + 1, 2, none⟩ (.int .u8 (G 2))).setCell ⟨w.heap.size + 1, 3, none⟩ (.int .u8 (G 3))).heap[D]? = some (.deferred (some [])) := by
      rw [Below.heap_setCell _ _ _ _ hne, Below.heap_setCell _ _ _ _ hne, Below.heap_setCell _ _ _ _ hne, Below.heap_setCell _ _ _ _ hne]; exact hK
    refine ⟨by simp, .inl ⟨_, _, rfl, run_takeDeferred hK', ?_⟩⟩
    have c4 := cR.four G
    have b4 : Below w.heap.size w ((((W.setCell ⟨w.heap.size + 1, 0, none⟩ (.int .u8 (G 0))).setCell ⟨w.heap.size + 1, 1, none⟩ (.int .u8 (G 1))).setCell ⟨w.heap.size + 1, 2, none⟩ (.int .u8 (G 2))).setCell ⟨w.heap.size + 1, 3, none⟩ (.int .u8 (G 3))) :=
      (((bl.setCell (p := ⟨w.heap.size + 1, 0, none⟩) (by dsimp only; omega) _).setCell (p := ⟨w.heap.size + 1, 1, none⟩) (by dsimp only; omega) _).setCell (p := ⟨w.heap.size + 1, 2, none⟩) (by dsimp only; omega) _).setCell (p := ⟨w.heap.size + 1, 3, none⟩) (by dsimp only; omega) _
    generalize ((((W.setCell ⟨w.heap.size + 1, 0, none⟩ (.int .u8 (G 0))).setCell ⟨w.heap.size + 1, 1, none⟩ (.int .u8 (G 1))).setCell ⟨w.heap.size + 1, 2, none⟩ (.int .u8 (G 2))).setCell ⟨w.heap.size + 1, 3, none⟩ (.int .u8 (G 3))) = W4 at *
    have c5 : BoxN (W4.putObj D (.deferred none)) (w.heap.size + 1) 57 (tagv G) := (World.putObj_heap_other (by omega)).trans c4
    have q0 := c5.at (i := 0) (by omega)
    have q1 := c5.at (i := 1) (by omega)
    have q2 := c5.at (i := 2) (by omega)
    have q3 := c5.at (i := 3) (by omega)
    refine ⟨.agg (tagv G), by simp [results, Try.results40, go_sem, q0, q1, q2, q3, tagv], rfl, ?_⟩
    exact b4.trans (belowK_b (w := w) (Nat.le_refl _) W4 D _ _ (by omega) hK' rfl rfl)
  case stop =>
    rintro D c pre W _ _ h _
    exact h.elim
end
end Go.Proofs.Ytgebmedkhakhfaa
