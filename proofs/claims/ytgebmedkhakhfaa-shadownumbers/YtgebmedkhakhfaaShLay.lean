/- A PAGE OF LABELS IS LAID: lay. -/
import Derived.Test.YtgebmedkhakhfaaShW1
import Derived.Laws.CopyRow
import Derived.Test.YtgebmedkhakhfaaMemRow
namespace Go.Proofs.Ytgebmedkhakhfaa
open Go.ChangeShapes Go.WideShapes Go.ChangeAt Go.RowKit
set_option linter.unusedSimpArgs false
set_option linter.unusedVariables false

/-- n labels bs laid in from address a on. -/
def SS.put (S : SS) (a : Int) (bs : Nat → Int) (n : Nat) : SS := { S with lab := fun x => if a ≤ x ∧ x < a + n then bs (x - a).toNat else S.lab x }
theorem put_pg_same (S : SS) (a : Int) (bs : Nat → Int) (n : Nat) : (S.put a bs n).pg (a / 256) = over (S.pg (a / 256)) (a % 256).toNat bs n := by
  funext i
  unfold SS.pg SS.put over
  dsimp only
  by_cases e : a ≤ 256 * (a / 256) + (i : Int) ∧ 256 * (a / 256) + (i : Int) < a + n
  · rw [if_pos e, if_pos (by omega)]; congr 1; omega
  · rw [if_neg e, if_neg (by omega)]
theorem put_pg_other (S : SS) {a : Int} (bs : Nat → Int) {n : Nat} (hn : a % 256 + n ≤ 256) {k : Int} (hk : k ≠ a / 256) (i : Nat) (hi : i < 256) : (S.put a bs n).pg k i = S.pg k i := by
  unfold SS.pg SS.put
  dsimp only
  rw [if_neg (by omega)]
theorem sarr_congr {f g : Nat → Int} (h : ∀ i, i < 256 → f i = g i) (c : Int) : sarr f c = sarr g c :=
  sarr_ext (sarr_size _ _) (fun i hi => by rw [sarr_lab _ _ hi, h i hi]) (sarr_cnt _ _)
theorem put_aft (S : SS) (a : Int) (bs : Nat → Int) (n : Nat) : nz ((S.put a bs n).pg (a / 256)) 256 = S.aft a bs n := by rw [put_pg_same]; rfl

section
variable {w w' : World} {sb : Nat} {F G : Nat → Prop} {N M : Nat} {S : SS} {L : SLay}
theorem ShL.sb_ne (h : ShL w sb F N S L) : sb ≠ L.bp := fun e => by obtain ⟨es, c, hm⟩ := h.pm.obj; rw [← e, h.top] at hm; simp at hm
theorem ShL.pg_ne (h : ShL w sb F N S L) {k : Int} {b : Nat} (hb : L.bk k = some b) : b ≠ L.bp ∧ b ≠ sb := by
  have hq := (h.pgs k b hb).2.2.1
  refine ⟨fun e => ?_, fun e => ?_⟩
  · obtain ⟨es, c, hm⟩ := h.pm.obj; rw [← e, show w.heap[b]? = _ from hq] at hm; simp at hm
  · have := h.top; rw [← e, show w.heap[b]? = _ from hq] at this; simp at this
/-- One page is another one now. -/
theorem ShL.turn (h : ShL w sb F N S L) (a : Int) {bs : Nat → Int} {n : Nat} (hr : ∀ i, i < n → 0 ≤ bs i ∧ bs i < 256) (hn : a % 256 + n ≤ 256) (hs : w.heap.size ≤ w'.heap.size)
    {bk' : Int → Option Nat} {ks' : List Int} {B : Nat} (pm : SMap w' L.bp M bk' ks'.length)
    (e : ∀ i, F i → i ≠ L.bp → i ≠ B → w'.heap[i]? = w.heap[i]?) (hB : B ≠ sb) (hBk : ∀ k, k ≠ a / 256 → L.bk k ≠ some B)
    (ho : ∀ k, k ≠ a / 256 → bk' k = L.bk k) (hk : ∀ b, bk' (a / 256) = some b → b = B ∧ 0 ≤ a / 256 ∧ a / 256 < 16777216 ∧ IsSP w' B (over (S.pg (a / 256)) (a % 256).toNat bs n) (S.aft a bs n) ∧ 0 < S.aft a bs n ∧ G B)
    (h0 : bk' (a / 256) = none → S.aft a bs n = 0) (nd : ks'.Nodup) (mem : ∀ k, k ∈ ks' ↔ (bk' k).isSome) (hFG : ∀ i, F i → G i) (hG : ∀ i, G i → i < w'.heap.size) :
    ShL w' sb G M (S.put a bs n) ⟨L.bp, bk', ks'⟩ where
  top := (e _ h.Fm h.sb_ne (Ne.symm hB)).trans h.top
  pm := pm
  pgs := fun k b hb => by
    by_cases x : k = a / 256
    · subst x
      obtain ⟨rfl, q1, q2, q3, q4, q5⟩ := hk b hb
      rw [put_aft, put_pg_same]
      exact ⟨q1, q2, q3, q4, q5⟩
    · have hb' : L.bk k = some b := by rw [← ho k x]; exact hb
      obtain ⟨q1, q2, q3, q4, q5⟩ := h.pgs k b hb'
      rw [nz_congr (fun i hi => put_pg_other S bs hn x i hi)]
      refine ⟨q1, q2, ?_, q4, hFG _ q5⟩
      unfold IsSP
      rw [sarr_congr (fun i hi => put_pg_other S bs hn x i hi), e b q5 (h.pg_ne hb').1 (fun y => hBk k x (y ▸ hb'))]
      exact q3
  non := fun k k0 k1 hb => by
    by_cases x : k = a / 256
    · subst x; rw [put_aft]; exact h0 hb
    · rw [nz_congr (fun i hi => put_pg_other S bs hn x i hi)]
      exact h.non k k0 k1 (by rw [← ho k x]; exact hb)
  inj := fun k k' b hb hb' => by
    dsimp only at hb hb'
    by_cases x : k = a / 256
    · by_cases y : k' = a / 256
      · rw [x, y]
      · subst x; obtain ⟨rfl, _⟩ := hk b hb; rw [ho k' y] at hb'; exact absurd hb' (hBk k' y)
    · by_cases y : k' = a / 256
      · subst y; obtain ⟨rfl, _⟩ := hk b hb'; rw [ho k x] at hb; exact absurd hb (hBk k x)
      · rw [ho k x] at hb; rw [ho k' y] at hb'; exact h.inj _ _ _ hb hb'
  nd := nd
  mem := mem
  Fm := hFG _ h.Fm
  Fp := hFG _ h.Fp
  lt := hG
  bud := h.bud
  rng := fun x => by
    unfold SS.put
    dsimp only
    split
    · exact hr _ (by omega)
    · exact h.rng x
/-- F, and what is new. -/
def AddF (F : Nat → Prop) (w w' : World) : Nat → Prop := fun i => F i ∨ (w.heap.size ≤ i ∧ i < w'.heap.size)

/-- G is F, and pages that are new. -/
def LaidF (F G : Nat → Prop) (w w' : World) : Prop := (∀ i, F i → G i) ∧ ∀ i, G i → F i ∨ (w.heap.size ≤ i ∧ ∃ f c, IsSP w' i f c)
/-- What is a page is one still. -/
def PgKept (w w' : World) : Prop := ∀ i f c, IsSP w i f c → ∃ f' c', IsSP w' i f' c'
theorem LaidF.same (F : Nat → Prop) (w w' : World) : LaidF F F w w' := ⟨fun _ h => h, fun _ h => .inl h⟩
theorem copy_sp {b g o n dl dc c at' : Nat} {f bs : Nat → Int} {cn : Int} (hp : IsSP w b f cn) (hb : Bys w g o n bs) (ha : at' + n ≤ 256) (hd : n ≤ dl) :
    (Builtin.copy_ #[34, 34] 3 #[.slice (some ⟨b, at', none⟩) dl dc, .slice (some ⟨g, o, none⟩) n c]).run Try.prog w = .ok (goInt n) (w.setRow b (sarr (over f at' bs n) cn)) := by
  have hl : ((List.range n).map (fun i => Value.int .u8 (bs i))).length = n := by simp
  have hr := run_copy_row (P := Try.prog) w 34 34 3 5 b at' dl dc ⟨g, o, none⟩ n c (sarr f cn) 135 ((List.range n).map (fun i => Value.int .u8 (bs i))) Try.underlying34 (by kernel_rfl) hp
    (by rw [hl]; exact (Nat.min_eq_left hd).symm) (fun j v hv => by
      have hj : j < n := by have := (List.getElem?_eq_some_iff.1 hv).1; simpa using this
      simp [hj] at hv
      subst hv
      have hadd : (⟨g, o, none⟩ : Addr).add j = ⟨g, o + j, none⟩ := by unfold Addr.add; split <;> simp_all
      rw [hadd]; exact (hb j hj).1) (by rw [hl, sarr_size]; omega) (fun v hv => by simp at hv; obtain ⟨i, _, rfl⟩ := hv; rfl)
  rw [hr, hl]
  have e : ((sarr f cn).toList.take at' ++ (List.range n).map (fun i => Value.int .u8 (bs i)) ++ (sarr f cn).toList.drop (at' + n)).toArray = sarr (over f at' bs n) cn := by
    have hsz : (sarr f cn).toList.length = 257 := by have := sarr_size f cn; simpa using this
    have gt : ∀ i : Nat, (sarr f cn).toList[i]? = (sarr f cn)[i]? := fun i => by rw [Array.getElem?_toList]
    apply sarr_ext
    · have : (sarr f cn).size = 257 := sarr_size f cn
      simp; omega
    · intro i hi
      simp only [List.getElem?_toArray]
      by_cases e1 : i < at'
      · rw [List.append_assoc, List.getElem?_append_left (by simp [hsz]; omega), List.getElem?_take_of_lt e1, gt, sarr_lab _ _ hi]
        unfold over; rw [if_neg (by omega)]
      · by_cases e2 : i < at' + n
        · rw [List.getElem?_append_left (by simp [hsz]; omega), List.getElem?_append_right (by simp [hsz]; omega)]
          have : i - (List.take at' (sarr f cn).toList).length = i - at' := by simp [hsz]; omega
          rw [this]
          unfold over; rw [if_pos (by omega), List.getElem?_map, List.getElem?_range (by omega)]
          rfl
        · rw [List.getElem?_append_right (by simp [hsz]; omega), List.getElem?_drop, gt]
          have : at' + n + (i - (List.take at' (sarr f cn).toList ++ (List.range n).map (fun i => Value.int .u8 (bs i))).length) = i := by simp [hsz]; omega
          rw [this, sarr_lab _ _ hi]
          unfold over; rw [if_neg (by omega)]
    · simp only [List.getElem?_toArray]
      rw [List.getElem?_append_right (by simp [hsz]; omega), List.getElem?_drop, gt]
      have : at' + n + (256 - (List.take at' (sarr f cn).toList ++ (List.range n).map (fun i => Value.int .u8 (bs i))).length) = 256 := by simp [hsz]; omega
      rw [this, sarr_cnt]
  rw [e]
theorem IsSP.row {b : Nat} {f g : Nat → Int} {cn : Int} (hp : IsSP w b f cn) : IsSP (w.setRow b (sarr g cn)) b g cn := by
  unfold IsSP World.setRow
  simp [Array.getElem?_modify, show w.heap[b]? = _ from hp]
theorem setRow_fs (w : World) (b : Nat) (cs : Array Value) (F : Nat → Prop) (hF : F b) : Fs F w (w.setRow b cs) :=
  ⟨rfl, rfl, rfl, by simp [World.setRow], fun i _ hn => setRow_other w b i cs (fun e => hn (e ▸ hF))⟩

theorem zero_sp : Try.zeroCells135 = sarr (fun _ => 0) 0 := by kernel_rfl
set_option maxRecDepth 100000 in
set_option maxHeartbeats 1000000 in
theorem lay_drop (h : ShL w sb F N S L) (a : Int) (ha : U4 a) {g o n c : Nat} {bs : Nat → Int} (hb : Bys w g o n bs) (hn : a % 256 + n ≤ 256) (hz : S.aft a bs n = 0) :
    Calls Try.prog 81 #[.pointer (some ⟨sb, 0, none⟩), .int .u32 a, .slice (some ⟨g, o, none⟩) n c] w fun e w' => e = .returned (.tuple #[]) ∧ Fs F w w' ∧
      (∃ L' G, ShL w' sb G (N + 1) (S.put a bs n) L' ∧ LaidF F G w w' ∧ ∀ k, k ≠ a / 256 → L'.bk k = L.bk k) ∧ PgKept w w' := by
  have hc1 := h.c1
  have HA := after_c h a ha hb hn (c := c)
  rw [hz] at HA
  have hU : U4 (a / 256) := by unfold U4 at *; omega
  obtain ⟨a0, a1⟩ := ha
  go_enter Try.func81, Try.ntmps81
  go_wp2_with fail
  refine HA.mono ?_
  rintro e w1 ⟨rfl, g1⟩
  clear HA
  have h1 := h.bl g1
  have k1 := h1.c1
  obtain ⟨w2, hdr, hD, hT⟩ := h1.pm.drop hU 0
  go_wp2_with fail
  go_returns
  have f12 : Fs F w w2 := (bl_fs g1 F).trans (mapTurned_fs hT F h.Fp) (fun _ _ h => h)
  have hlen : (L.ks.erase (a / 256)).length = L.ks.length - if (L.bk (a / 256)).isSome = true then 1 else 0 := by
    by_cases x : a / 256 ∈ L.ks
    · rw [List.length_erase_of_mem x, if_pos ((h.mem _).1 x)]
    · rw [List.erase_of_not_mem x, if_neg (fun y => x ((h.mem _).2 y))]; rfl
  rw [← hlen] at hD
  refine ⟨rfl, f12, ⟨_, F, h1.turn a (fun i hi => (hb i hi).2) hn hT.grown.size (B := w2.heap.size) (hD.mono (Nat.le_succ _)) (fun i hi n1 n2 => hT.grown.block i (h1.lt i hi) (fun e => n1 (by cases e; rfl)))
    (fun e => by have := h1.lt _ h1.Fm; have := hT.grown.size; omega) (fun k _ hk => by have := h1.lt _ (h1.pgs k _ hk).2.2.2.2; have := hT.grown.size; omega)
    (fun k hk => upd_other _ _ hk) (fun b hb => by rw [upd_same] at hb; cases hb) (fun _ => hz) (h.nd.erase _) (fun k => ?_) (fun i hi => hi) (fun i hi => Nat.lt_of_lt_of_le (h.lt i hi) f12.size), LaidF.same _ _ _, fun k hk => upd_other _ _ hk⟩, fun i f c' hp => ⟨f, c', ?_⟩⟩
  rotate_left
  · have hlt := hp.lt
    exact (hT.grown.block i (Nat.lt_of_lt_of_le hlt g1.size) (fun e => by cases e; obtain ⟨_, _, x⟩ := h.pm.obj; rw [show w.heap[L.bp]? = _ from hp] at x; cases x)).trans ((g1.block i hlt).trans hp)
  rw [h.nd.mem_erase_iff, h.mem]
  by_cases x : k = a / 256
  · subst x; rw [upd_same]; simp
  · rw [upd_other _ _ x]; simp [x]
set_option maxRecDepth 100000 in
set_option maxHeartbeats 1000000 in
theorem lay_have (h : ShL w sb F N S L) (a : Int) (ha : U4 a) {g o n c : Nat} {bs : Nat → Int} (hb : Bys w g o n bs) (hg : ¬ F g) (hn : a % 256 + n ≤ 256) (hz : S.aft a bs n ≠ 0) {b : Nat} (hk : L.bk (a / 256) = some b) :
    Calls Try.prog 81 #[.pointer (some ⟨sb, 0, none⟩), .int .u32 a, .slice (some ⟨g, o, none⟩) n c] w fun e w' => e = .returned (.tuple #[]) ∧ Fs F w w' ∧
      (∃ L' G, ShL w' sb G (N + 1) (S.put a bs n) L' ∧ LaidF F G w w' ∧ ∀ k, k ≠ a / 256 → L'.bk k = L.bk k) ∧ PgKept w w' := by
  have hc1 := h.c1
  have HA := after_c h a ha hb hn (c := c)
  have hU : U4 (a / 256) := by unfold U4 at *; omega
  obtain ⟨a0, a1⟩ := ha
  obtain ⟨x1, x2, x3, x4, x5⟩ := h.pgs _ _ hk
  have hgb : g ≠ b := fun e => hg (e ▸ x5)
  obtain ⟨A, hA⟩ : ∃ A : Int, (S.aft a bs n : Int) = A := ⟨_, rfl⟩
  have hA0 : (A == 0) = false := by simp; omega
  rw [hA] at HA
  have hm0 : 0 ≤ a % 256 := by omega
  have hm1 : a % 256 ≤ 256 := by omega
  have hm2 : (a % 256).toNat ≤ 256 := by omega
  have hm3 : ¬ (256 = (a % 256).toNat) := by omega
  go_enter Try.func81, Try.ntmps81
  go_wp2_with fail
  refine HA.mono ?_
  rintro e w1 ⟨rfl, g1⟩
  clear HA
  have h1 := h.bl g1
  have k1 := h1.c1
  have hl := h1.pm.look hU
  rw [hk] at hl
  simp only [pv] at hl
  have q1 : IsSP w1 b (S.pg (a / 256)) (nz (S.pg (a / 256)) 256) := (h1.pgs _ _ hk).2.2.1
  have q2 := q1.setCnt A
  have fz := q1.frozen 256
  have hcn := q1.cnt
  have hb2 : Bys (w1.setCell ⟨b, 256, none⟩ (.int .i64 A)) g o n bs := fun i hi => ⟨by
    rw [World.cell?_of_block (w := w1) (Below.heap_setCell _ _ _ _ hgb)]; exact bl_keep g1 (hb i hi).1, (hb i hi).2⟩
  have hrun := copy_sp (dl := 256 - (a % 256).toNat) (dc := 256 - (a % 256).toNat) (c := c) q2 hb2 (at' := (a % 256).toNat) (by omega) (by omega)
  go_wp2_with (first | (at_builtin; refine wpList_copy_eq rfl _ _ 34 rfl rfl rfl hrun ?_) | go_in)
  go_returns
  obtain ⟨n1, n2⟩ := h1.pg_ne hk
  have lb := h1.lt _ x5
  obtain ⟨w4, hw4⟩ : ∃ w4, (w1.setCell ⟨b, 256, none⟩ (.int .i64 A)).setRow b (sarr (over (S.pg (a / 256)) (a % 256).toNat bs n) A) = w4 := ⟨_, rfl⟩
  have q4 : IsSP w4 b (over (S.pg (a / 256)) (a % 256).toNat bs n) A := by rw [← hw4]; exact q2.row
  have f14 : Fs F w1 w4 := by rw [← hw4]; exact ((Fs.refl F w1).setCell (.inl x5) _).trans (setRow_fs _ b _ F x5) (fun _ _ h => h)
  have oth : ∀ i, i ≠ b → w4.heap[i]? = w1.heap[i]? := fun i hi => by
    rw [← hw4, setRow_other _ _ _ _ hi, Below.heap_setCell _ _ _ _ hi]
  have f04 : Fs F w w4 := (bl_fs g1 F).trans f14 (fun _ _ h => h)
  rw [hw4]
  clear hw4
  refine ⟨rfl, f04, ⟨_, F, h1.turn a (fun i hi => (hb i hi).2) hn f14.size (B := b) ((h1.pm.congr (oth _ (Ne.symm n1))).mono (Nat.le_succ _)) (fun i hi _ x => oth i x) n2
    (fun k x hk' => x (h1.inj _ _ _ hk' hk)) (fun _ _ => rfl) (fun b' hb' => ?_) (fun x => by rw [hk] at x; cases x) h1.nd h1.mem (fun i hi => hi) (fun i hi => Nat.lt_of_lt_of_le (h.lt i hi) f04.size), LaidF.same _ _ _, fun k _ => rfl⟩, fun i f c' hp => ?_⟩
  rotate_left
  · by_cases e : i = b
    · subst e; exact ⟨_, _, q4⟩
    · exact ⟨f, c', (oth i e).trans ((g1.block i hp.lt).trans hp)⟩
  rw [hk] at hb'; cases hb'
  exact ⟨rfl, x1, x2, by rw [hA]; exact q4, by omega, x5⟩
set_option maxRecDepth 100000 in
set_option maxHeartbeats 1000000 in
theorem lay_make (h : ShL w sb F N S L) (hN : N < maxLen) (a : Int) (ha : U4 a) {g o n c : Nat} {bs : Nat → Int} (hb : Bys w g o n bs) (hg : ¬ F g) (hn : a % 256 + n ≤ 256) (hz : S.aft a bs n ≠ 0) (hk : L.bk (a / 256) = none) :
    Calls Try.prog 81 #[.pointer (some ⟨sb, 0, none⟩), .int .u32 a, .slice (some ⟨g, o, none⟩) n c] w fun e w' => e = .returned (.tuple #[]) ∧ Fs F w w' ∧
      (∃ L' G, ShL w' sb G (N + 1) (S.put a bs n) L' ∧ LaidF F G w w' ∧ ∀ k, k ≠ a / 256 → L'.bk k = L.bk k) ∧ PgKept w w' := by
  have hc1 := h.c1
  have HA := after_c h a ha hb hn (c := c)
  have hU : U4 (a / 256) := by unfold U4 at *; omega
  obtain ⟨a0, a1⟩ := ha
  obtain ⟨A, hA⟩ : ∃ A : Int, (S.aft a bs n : Int) = A := ⟨_, rfl⟩
  have hA0 : (A == 0) = false := by simp; omega
  rw [hA] at HA
  have hm0 : 0 ≤ a % 256 := by omega
  have hm1 : a % 256 ≤ 256 := by omega
  have hm2 : (a % 256).toNat ≤ 256 := by omega
  have hm3 : ¬ (256 = (a % 256).toNat) := by omega
  go_enter Try.func81, Try.ntmps81
  go_wp2_with fail
  refine HA.mono ?_
  rintro e w1 ⟨rfl, g1⟩
  clear HA
  have h1 := h.bl g1
  have k1 := h1.c1
  have hl := h1.pm.look hU
  rw [hk] at hl
  simp only [pv] at hl
  have g2 : Below w1.heap.size w1 (w1.alloc (.cells Try.zeroCells135 135)) := bl_alloc (Below.refl _ _) _
  have h2 := h1.bl g2
  have k2 := h2.c1
  obtain ⟨w3, hst, hM, hT⟩ := h2.pm.store hN hU hk w1.heap.size
  have b1 : w1.heap.size < (w1.alloc (.cells Try.zeroCells135 135)).heap.size := by simp
  have lp := h1.lt _ h1.Fp
  have q0 : IsSP w3 w1.heap.size (fun _ => 0) 0 := by
    unfold IsSP
    rw [hT.grown.block _ b1 (fun e => by injection e; omega), heap_alloc_new, zero_sp]
  have fz := q0.frozen 256
  have hcn := q0.cnt
  have q2 := q0.setCnt A
  have gb : g ≠ w1.heap.size ∨ n = 0 := by
    by_cases x : n = 0
    · exact .inr x
    · left
      have := World.block_lt_of_cell? w ⟨g, o + 0, none⟩ (hb 0 (by omega)).1
      have := g1.size
      simp at *; omega
  have hb2 : Bys (w3.setCell ⟨w1.heap.size, 256, none⟩ (.int .i64 A)) g o n bs := fun i hi => ⟨by
    have hlt : g < w1.heap.size := by
      have := World.block_lt_of_cell? w ⟨g, o + i, none⟩ (hb i hi).1
      have := g1.size
      simp at *; omega
    rw [World.cell?_of_block (w := w3) (Below.heap_setCell _ _ _ _ (by dsimp only; omega)), World.cell?_of_block (w := w1.alloc (.cells Try.zeroCells135 135)) (hT.grown.block _ (by dsimp only; omega) (fun e => hg (by injection e with e; dsimp only at e; rw [e]; exact h.Fp)))]
    exact bl_keep g2 (bl_keep g1 (hb i hi).1), (hb i hi).2⟩
  have hrun := copy_sp (dl := 256 - (a % 256).toNat) (dc := 256 - (a % 256).toNat) (c := c) q2 hb2 (at' := (a % 256).toNat) (by omega) (by omega)
  go_wp2_with (first | (at_builtin; refine wpList_copy_eq rfl _ _ 34 rfl rfl rfl hrun ?_) | go_in)
  go_returns
  obtain ⟨w4, hw4⟩ : ∃ w4, (w3.setCell ⟨w1.heap.size, 256, none⟩ (.int .i64 A)).setRow w1.heap.size (sarr (over (fun _ => 0) (a % 256).toNat bs n) A) = w4 := ⟨_, rfl⟩
  have q4 : IsSP w4 w1.heap.size (over (fun _ => 0) (a % 256).toNat bs n) A := by rw [← hw4]; exact q2.row
  have f14 : Fs F w1 w4 := by
    rw [← hw4]
    have t1 : Fs F w1 w3 := (bl_fs g2 F).trans (mapTurned_fs hT F h.Fp) (fun _ _ h => h)
    exact (t1.setCell (.inr (Nat.le_refl _)) _).trans (setRow_fs _ w1.heap.size _ (fun i => i = w1.heap.size) rfl) (fun i hi e => by omega)
  have oth : ∀ i, i ≠ w1.heap.size → w4.heap[i]? = w3.heap[i]? := fun i hi => by
    rw [← hw4, setRow_other _ _ _ _ hi, Below.heap_setCell _ _ _ _ hi]
  have f04 : Fs F w w4 := (bl_fs g1 F).trans f14 (fun _ _ h => h)
  have s4 : w1.heap.size < w4.heap.size := q4.lt
  rw [hw4]
  clear hw4
  refine ⟨rfl, f04, ⟨_, (fun i => F i ∨ i = w1.heap.size), h1.turn a (fun i hi => (hb i hi).2) hn f14.size (B := w1.heap.size) (ks' := (a / 256) :: L.ks) (hM.congr (oth _ (by omega))) (fun i hi x1 x2 => ?_) (fun e => by have := h1.lt _ h1.Fm; omega)
    (fun k x hk' => by have := h1.lt _ (h1.pgs k _ hk').2.2.2.2; omega) (fun k x => upd_other _ _ x) (fun b' hb' => ?_) (fun x => by rw [upd_same] at x; cases x) ?_ (fun k => ?_) (fun i hi => .inl hi) (fun i hi => ?_), ⟨fun i hi => .inl hi, fun i hi => ?_⟩, fun k x => upd_other _ _ x⟩, fun i f c' hp => ⟨f, c', ?_⟩⟩
  · have := h1.lt i hi
    rw [oth i x2, hT.grown.block i (by simp; omega) (fun e => x1 (by cases e; rfl))]
    exact Below.heap_alloc _ _ _ this
  · rw [upd_same] at hb'; cases hb'
    refine ⟨rfl, by omega, by omega, ?_, by omega, .inr rfl⟩
    rw [hA]
    unfold IsSP
    have z := nz_zero.1 (h.non _ (by omega) (by omega) hk)
    rw [sarr_congr (g := over (fun _ => 0) (a % 256).toNat bs n) (fun i hi => by unfold over; rw [z i hi])]
    exact q4
  · refine List.nodup_cons.2 ⟨fun x => ?_, h.nd⟩
    have := (h.mem _).1 x
    rw [hk] at this
    cases this
  · rw [List.mem_cons, h.mem]
    by_cases x : k = a / 256
    · subst x; rw [upd_same]; simp
    · rw [upd_other _ _ x]; simp [x]
  · rcases hi with hi | hi
    · exact Nat.lt_of_lt_of_le (h.lt i hi) f04.size
    · omega
  · rcases hi with hi | rfl
    · exact .inl hi
    · exact .inr ⟨g1.size, _, _, q4⟩
  · have hlt := hp.lt
    have z1 := g1.size
    refine (oth i (by omega)).trans ((hT.grown.block i (by simp; omega) (fun e => ?_)).trans ((Below.heap_alloc _ _ _ (by omega)).trans ((g1.block i hlt).trans hp)))
    cases e; obtain ⟨_, _, x⟩ := h.pm.obj; rw [show w.heap[L.bp]? = _ from hp] at x; cases x
theorem lay_s (h : ShL w sb F N S L) (hN : N < maxLen) (a : Int) (ha : U4 a) {g o n c : Nat} {bs : Nat → Int} (hb : Bys w g o n bs) (hg : ¬ F g) (hn : a % 256 + n ≤ 256) :
    Calls Try.prog 81 #[.pointer (some ⟨sb, 0, none⟩), .int .u32 a, .slice (some ⟨g, o, none⟩) n c] w fun e w' => e = .returned (.tuple #[]) ∧ Fs F w w' ∧
      (∃ L' G, ShL w' sb G (N + 1) (S.put a bs n) L' ∧ LaidF F G w w' ∧ ∀ k, k ≠ a / 256 → L'.bk k = L.bk k) ∧ PgKept w w' := by
  by_cases hz : S.aft a bs n = 0
  · exact lay_drop h a ha hb hn hz
  · cases hk : L.bk (a / 256) with
    | none => exact lay_make h hN a ha hb hg hn hz hk
    | some b => exact lay_have h a ha hb hg hn hz hk
end
end Go.Proofs.Ytgebmedkhakhfaa
