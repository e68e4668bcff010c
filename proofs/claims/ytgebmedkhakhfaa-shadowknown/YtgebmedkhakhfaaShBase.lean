/- LABELS OF MEMORY, AS BLOCKS: the worlds behind a call (Fs: of what is frozen nothing is said), the map of pages with how many there are, a page's block, and what is owned (Sh). -/
import Derived.Test.YtgebmedkhakhfaaMemBase
import Derived.RangeFuncFrom
namespace Go.Proofs.Ytgebmedkhakhfaa
open Go.ChangeShapes Go.WideShapes Go.ChangeAt Go.RowKit
open Go.Maps (Keyed IsMap Tidy)

/-- Behind a call that may write the blocks F and makes new ones: the others are as they were. -/
structure Fs (F : Nat → Prop) (w w' : World) : Prop where
  os : w'.os = w.os
  tape : w'.tape = w.tape
  output : w'.output = w.output
  size : w.heap.size ≤ w'.heap.size
  block : ∀ i, i < w.heap.size → ¬ F i → w'.heap[i]? = w.heap[i]?
theorem Fs.refl (F : Nat → Prop) (w : World) : Fs F w w := ⟨rfl, rfl, rfl, Nat.le_refl _, fun _ _ _ => rfl⟩
theorem Fs.trans {F G : Nat → Prop} {a b c : World} (h : Fs F a b) (k : Fs G b c) (hG : ∀ i, i < a.heap.size → G i → F i) : Fs F a c :=
  ⟨k.os.trans h.os, k.tape.trans h.tape, k.output.trans h.output, Nat.le_trans h.size k.size,
   fun i hi hF => (k.block i (Nat.lt_of_lt_of_le hi h.size) (fun g => hF (hG i hi g))).trans (h.block i hi hF)⟩
theorem Fs.mono {F G : Nat → Prop} {a b : World} (h : Fs F a b) (hG : ∀ i, i < a.heap.size → F i → G i) : Fs G a b :=
  ⟨h.os, h.tape, h.output, h.size, fun i hi g => h.block i hi (fun f => g (hG i hi f))⟩
theorem Fs.drew {F : Nat → Prop} {a w : World} (h : Fs F a w) : Fs F a w.drew := ⟨h.os, h.tape, h.output, h.size, h.block⟩
theorem Fs.drewN {F : Nat → Prop} {a w : World} (h : Fs F a w) (n : Nat) : Fs F a (w.drewN n) := ⟨h.os, h.tape, h.output, h.size, h.block⟩
theorem Fs.cell {F : Nat → Prop} {a w : World} (h : Fs F a w) {p : Addr} (hp : p.block < a.heap.size) (hF : ¬ F p.block) : w.cell? p = a.cell? p := World.cell?_of_block (w := a) (h.block _ hp hF)
theorem Fs.setCell {F : Nat → Prop} {a w : World} (h : Fs F a w) {p : Addr} (hp : F p.block ∨ a.heap.size ≤ p.block) (v : Value) : Fs F a (w.setCell p v) :=
  ⟨h.os, h.tape, h.output, by simpa using h.size, fun i hi hn => by
    rw [Below.heap_setCell _ _ _ _ (fun e => by subst e; rcases hp with hp | hp; exact hn hp; omega)]; exact h.block i hi hn⟩
theorem Fs.alloc {F : Nat → Prop} {a w : World} (h : Fs F a w) (o : Obj) : Fs F a (w.alloc o) :=
  ⟨h.os, h.tape, h.output, by have := h.size; simp; omega, fun i hi hn => (Below.heap_alloc _ _ _ (Nat.lt_of_lt_of_le hi h.size)).trans (h.block i hi hn)⟩
theorem bl_trans {a b c : World} (h : Below a.heap.size a b) (k : Below b.heap.size b c) : Below a.heap.size a c := h.trans (k.mono h.size)
theorem bl_alloc {a b : World} (h : Below a.heap.size a b) (o : Obj) : Below a.heap.size a (b.alloc o) := h.alloc h.size o
theorem bl_keep {a w : World} (h : Below a.heap.size a w) {p : Addr} {v : Value} (hv : a.cell? p = some v) : w.cell? p = some v := by
  have hb : p.block < a.heap.size := by
    apply Decidable.byContradiction
    intro hn
    have : a.heap[p.block]? = none := by simp; omega
    simp [World.cell?, this] at hv
  rw [h.cell hb]; exact hv
theorem bl_fs {w w' : World} (h : Below w.heap.size w w') (F : Nat → Prop) : Fs F w w' := ⟨h.os, h.tape, h.output, h.size, fun i hi _ => h.block i hi⟩
theorem Fs.bl {F : Nat → Prop} {a b : World} (h : Fs F a b) {n : Nat} (hn : n ≤ a.heap.size) (hF : ∀ i, i < a.heap.size → F i → n ≤ i) : Below n a b :=
  ⟨h.os, h.tape, h.output, h.size, fun i hi => h.block i (by omega) (fun f => by have := hF i (by omega) f; omega)⟩
theorem mapTurned_fs {w w' : World} {b : Nat} (h : w.mapTurned w' b) (F : Nat → Prop) (hF : F b) : Fs F w w' :=
  ⟨h.grown.os, h.grown.tape, h.grown.output, h.grown.size, fun i hi hn => h.grown.block i hi (fun e => hn (by cases e; exact hF))⟩

/-! ### how many are not clean -/
def nz (f : Nat → Int) : Nat → Nat
  | 0 => 0
  | n + 1 => nz f n + (if f n = 0 then 0 else 1)
theorem nz_le (f : Nat → Int) (n : Nat) : nz f n ≤ n := by
  induction n with
  | zero => simp [nz]
  | succ n ih => simp only [nz]; split <;> omega
theorem nz_congr {f g : Nat → Int} {n : Nat} (h : ∀ i, i < n → f i = g i) : nz f n = nz g n := by
  induction n with
  | zero => rfl
  | succ n ih => simp only [nz]; rw [ih (fun i hi => h i (by omega)), h n (by omega)]
theorem nz_add (f : Nat → Int) (a b : Nat) : nz f (a + b) = nz f a + nz (fun i => f (a + i)) b := by
  induction b with
  | zero => simp [nz]
  | succ b ih => rw [← Nat.add_assoc]; simp only [nz]; rw [ih]; omega
theorem nz_zero {f : Nat → Int} {n : Nat} : nz f n = 0 ↔ ∀ i, i < n → f i = 0 := by
  induction n with
  | zero => simp [nz]
  | succ n ih =>
    simp only [nz]
    constructor
    · intro h i hi
      by_cases e : i = n
      · subst e; split at h
        · assumption
        · omega
      · exact ih.1 (by omega) i (by omega)
    · intro h
      rw [ih.2 (fun i hi => h i (by omega)), if_pos (h n (by omega))]
/-- f, with k of g's laid at o. -/
def over (f : Nat → Int) (o : Nat) (g : Nat → Int) (k : Nat) : Nat → Int := fun i => if o ≤ i ∧ i < o + k then g (i - o) else f i
theorem nz_over (f g : Nat → Int) {o k : Nat} (h : o + k ≤ 256) : nz (over f o g k) 256 + nz (fun i => f (o + i)) k = nz f 256 + nz g k := by
  have e : 256 = o + k + (256 - (o + k)) := by omega
  have e1 : nz (over f o g k) 256 = nz f o + nz g k + nz (fun i => f (o + k + i)) (256 - (o + k)) := by
    conv => lhs; rw [e]
    rw [nz_add, nz_add]
    congr 1
    · congr 1
      · exact nz_congr (fun i hi => by unfold over; rw [if_neg (by omega)])
      · exact nz_congr (fun i hi => by unfold over; rw [if_pos (by omega)]; congr 1; omega)
    · exact nz_congr (fun i hi => by unfold over; rw [if_neg (by omega)])
  have e2 : nz f 256 = nz f o + nz (fun i => f (o + i)) k + nz (fun i => f (o + k + i)) (256 - (o + k)) := by
    conv => lhs; rw [e]
    rw [nz_add, nz_add]
  omega

/-! ### the map of pages -/
/-- Block b is a map that has just the keys of f, and the block's number at each; it has c of them. -/
def SMap (w : World) (b n : Nat) (f : Int → Option Nat) (c : Nat) : Prop :=
  ∃ D : DataW Unit, w.ownsMap Try.prog 33 ptrElem b n D ∧ (∀ k, U4 k → Maps.has D (.int .u32 k) = (f k).isSome ∧ D.atKey (.int .u32 k) .nil = pd (f k)) ∧ Maps.size D = c
theorem SMap.congr {w w' : World} {b n c : Nat} {f : Int → Option Nat} (h : SMap w b n f c) (e : w'.heap[b]? = w.heap[b]?) : SMap w' b n f c := by
  obtain ⟨D, hD, r⟩ := h; exact ⟨D, ownsMap_congr hD e, r⟩
theorem SMap.mono {w : World} {b n m c : Nat} {f : Int → Option Nat} (h : SMap w b n f c) (e : n ≤ m) : SMap w b m f c := by
  obtain ⟨D, hD, r⟩ := h; exact ⟨D, hD.mono e, r⟩
theorem SMap.obj {w : World} {b n c : Nat} {f : Int → Option Nat} (h : SMap w b n f c) : ∃ es k, w.heap[b]? = some (.map es k) := by
  obtain ⟨D, ⟨es, c, hb, _⟩, _⟩ := h; exact ⟨es, c, hb⟩
theorem SMap.lt {w : World} {b n c : Nat} {f : Int → Option Nat} (h : SMap w b n f c) : b < w.heap.size := by
  obtain ⟨D, hD, _⟩ := h; exact hD.lt
theorem zeroPtrS (w : World) : (zeroValue 133).run Try.prog w = .ok (.pointer none) w := by kernel_rfl
theorem SMap.look {w : World} {b n c : Nat} {f : Int → Option Nat} (h : SMap w b n f c) {k : Int} (hk : U4 k) :
    (Instr.lookup 123 (.map (some b)) (.int .u32 k) false).run Try.prog w = .ok (pv (f k)) w := by
  obtain ⟨D, hD, r, _⟩ := h
  obtain ⟨v, ps, hrun, hv⟩ := hD.lookup u32K Try.underlying123 (zeroPtrS w) (zd := .nil) (zp := []) rfl (u32key hk.wf)
  rw [(r k hk).2] at hv
  rw [hrun, ptrElem_inv hv]
theorem SMap.len {w : World} {b n c : Nat} {f : Int → Option Nat} (h : SMap w b n f c) (ty : TypeId) :
    (Builtin.len_ #[123] ty #[.map (some b)]).run Try.prog w = .ok (.int .i64 c) w := by
  obtain ⟨D, hD, _, rfl⟩ := h
  exact hD.len Try.underlying123 ty
theorem SMap.store {w : World} {b n c : Nat} {f : Int → Option Nat} (h : SMap w b n f c) (hn : n < maxLen) {k : Int} (hk : U4 k) (hf : f k = none) (o : Nat) :
    ∃ w', (Instr.mapUpdate 123 (.map (some b)) (.int .u32 k) (.pointer (some ⟨o, 0, none⟩))).run Try.prog w = .ok () w' ∧ SMap w' b (n + 1) (upd f k (some o)) (c + 1) ∧ w.mapTurned w' b := by
  obtain ⟨D, hD, r, rfl⟩ := h
  obtain ⟨w', hrun, h1, h2⟩ := hD.store u32K Try.underlying123 hn (u32key hk.wf) (ptrElem_mk (some o))
  refine ⟨w', hrun, ⟨_, h1, fun i hi => ?_, ?_⟩, h2⟩
  · by_cases e : i = k
    · subst e
      rw [upd_same]
      exact ⟨Maps.has_put_same hD.isMap (u4lit _) _, Maps.atKey_put_same hD.isMap (u4lit _) _ _⟩
    · rw [upd_other _ _ e]
      have ne : (Lit.int .u32 i) ≠ .int .u32 k := fun x => e (by injection x)
      exact ⟨(Maps.has_put_other ne _).trans (r i hi).1, (Maps.atKey_put_other ne _ _).trans (r i hi).2⟩
  · rw [Maps.size_put (hD.tidy u32K), (r k hk).1, hf]; rfl
theorem SMap.drop {w : World} {b n c : Nat} {f : Int → Option Nat} (h : SMap w b n f c) {k : Int} (hk : U4 k) (ty : TypeId) :
    ∃ w', (Builtin.delete_ #[123, 33] ty #[.map (some b), .int .u32 k]).run Try.prog w = .ok (.tuple #[]) w' ∧ SMap w' b n (upd f k none) (c - (if (f k).isSome then 1 else 0)) ∧ w.mapTurned w' b := by
  obtain ⟨D, hD, r, rfl⟩ := h
  obtain ⟨w', hrun, h1, h2⟩ := hD.drop u32K Try.underlying123 (u32key hk.wf) ty
  refine ⟨w', hrun, ⟨_, h1, fun i hi => ?_, ?_⟩, h2⟩
  · by_cases e : i = k
    · subst e
      rw [upd_same]
      exact ⟨Maps.has_del_same, Maps.atKey_del_same _⟩
    · rw [upd_other _ _ e]
      have ne : (Lit.int .u32 i) ≠ .int .u32 k := fun x => e (by injection x)
      exact ⟨(Maps.has_del_other ne).trans (r i hi).1, (Maps.atKey_del_other ne _).trans (r i hi).2⟩
  · have := Maps.size_del (hD.tidy u32K) (k := .int .u32 k)
    rw [(r k hk).1] at this
    omega
theorem SMap.made (w : World) : SMap (w.alloc (.map #[] 0)) w.heap.size 0 (fun _ => none) 0 :=
  ⟨.map [], World.ownsMap_made _ _ _ _, fun _ _ => ⟨rfl, rfl⟩, rfl⟩

/-! ### a page of labels -/
def sarr (f : Nat → Int) (c : Int) : Array Value := ((List.range 256).map (fun i => Value.int .u8 (f i)) ++ [Value.int .i64 c]).toArray
theorem sarr_size (f : Nat → Int) (c : Int) : (sarr f c).size = 257 := by simp [sarr]
theorem sarr_lab (f : Nat → Int) (c : Int) {i : Nat} (h : i < 256) : (sarr f c)[i]? = some (.int .u8 (f i)) := by simp [sarr, List.getElem?_append, h]
theorem sarr_cnt (f : Nat → Int) (c : Int) : (sarr f c)[256]? = some (.int .i64 c) := by simp [sarr]
theorem sarr_ext {a : Array Value} {f : Nat → Int} {c : Int} (h : a.size = 257) (h1 : ∀ i, i < 256 → a[i]? = some (.int .u8 (f i))) (h2 : a[256]? = some (.int .i64 c)) : a = sarr f c := by
  apply Array.ext_getElem?
  intro i
  by_cases e : i < 256
  · rw [h1 i e, sarr_lab f c e]
  · by_cases e2 : i = 256
    · rw [e2, h2, sarr_cnt]
    · have s := sarr_size f c
      rw [Array.getElem?_eq_none (by omega), Array.getElem?_eq_none (by omega)]
/-- Block b is that page. -/
def IsSP (w : World) (b : Nat) (f : Nat → Int) (c : Int) : Prop := w.heap[b]? = some (.cells (sarr f c) 135 (0, 0))
theorem IsSP.lab {w : World} {b : Nat} {f : Nat → Int} {c : Int} (h : IsSP w b f c) {i : Nat} (hi : i < 256) : w.cell? ⟨b, i, none⟩ = some (.int .u8 (f i)) := by
  simp [World.cell?, show w.heap[b]? = _ from h, sarr_lab f c hi]
theorem IsSP.cnt {w : World} {b : Nat} {f : Nat → Int} {c : Int} (h : IsSP w b f c) : w.cell? ⟨b, 256, none⟩ = some (.int .i64 c) := by
  simp [World.cell?, show w.heap[b]? = _ from h, sarr_cnt]
theorem IsSP.frozen {w : World} {b : Nat} {f : Nat → Int} {c : Int} (h : IsSP w b f c) (i : Nat) : w.frozen? ⟨b, i, none⟩ = false := by
  simp [World.frozen?, show w.heap[b]? = _ from h]
theorem IsSP.lt {w : World} {b : Nat} {f : Nat → Int} {c : Int} (h : IsSP w b f c) : b < w.heap.size := (Array.getElem?_eq_some_iff.1 h).1
theorem IsSP.setCnt {w : World} {b : Nat} {f : Nat → Int} {c : Int} (h : IsSP w b f c) (x : Int) : IsSP (w.setCell ⟨b, 256, none⟩ (.int .i64 x)) b f x := by
  have e : (sarr f c).setIfInBounds 256 (.int .i64 x) = sarr f x := by
    apply sarr_ext
    · simp [sarr_size]
    · intro i hi; rw [Array.getElem?_setIfInBounds, if_neg (by omega), sarr_lab _ _ hi]
    · simp [sarr_size]
  unfold IsSP; rw [heap_setCell_same h, e]

/-! ### all of it -/
structure SS where
  budget : Int
  lab : Int → Int
/-- A page's labels. -/
def SS.pg (S : SS) (k : Int) : Nat → Int := fun i => S.lab (256 * k + i)
structure SLay where
  bp : Nat
  bk : Int → Option Nat
  ks : List Int
/-- Block sb is that; its blocks lie in F. -/
structure ShL (w : World) (sb : Nat) (F : Nat → Prop) (N : Nat) (S : SS) (L : SLay) : Prop where
  top : w.heap[sb]? = some (.cells #[.int .i64 S.budget, .map (some L.bp)] 125 (0, 0))
  pm : SMap w L.bp N L.bk L.ks.length
  pgs : ∀ k b, L.bk k = some b → 0 ≤ k ∧ k < 16777216 ∧ IsSP w b (S.pg k) (nz (S.pg k) 256) ∧ 0 < nz (S.pg k) 256 ∧ F b
  non : ∀ k, 0 ≤ k → k < 16777216 → L.bk k = none → nz (S.pg k) 256 = 0
  inj : ∀ k k' b, L.bk k = some b → L.bk k' = some b → k = k'
  nd : L.ks.Nodup
  mem : ∀ k, k ∈ L.ks ↔ (L.bk k).isSome
  Fm : F sb
  Fp : F L.bp
  lt : ∀ i, F i → i < w.heap.size
  bud : 0 ≤ S.budget ∧ S.budget ≤ 4096
  rng : ∀ a, 0 ≤ S.lab a ∧ S.lab a < 256
section
variable {w w' : World} {sb : Nat} {F G : Nat → Prop} {N : Nat} {S : SS} {L : SLay}
theorem ShL.congr (h : ShL w sb F N S L) (hs : w.heap.size ≤ w'.heap.size) (e : ∀ i, F i → w'.heap[i]? = w.heap[i]?) : ShL w' sb F N S L :=
  ⟨(e _ h.Fm).trans h.top, h.pm.congr (e _ h.Fp), fun k b hb => by
    obtain ⟨h1, h2, h3, h4, h5⟩ := h.pgs k b hb
    exact ⟨h1, h2, (e b h5).trans h3, h4, h5⟩, h.non, h.inj, h.nd, h.mem, h.Fm, h.Fp, fun i hi => Nat.lt_of_lt_of_le (h.lt i hi) hs, h.bud, h.rng⟩
theorem ShL.frame (h : ShL w sb F N S L) (fr : Fs G w w') (hd : ∀ i, F i → ¬ G i) : ShL w' sb F N S L := h.congr fr.size (fun i hi => fr.block i (h.lt i hi) (hd i hi))
theorem ShL.bl (h : ShL w sb F N S L) (g : Below w.heap.size w w') : ShL w' sb F N S L := h.congr g.size (fun i hi => g.block i (h.lt i hi))
theorem ShL.mono (h : ShL w sb F N S L) {M : Nat} (hF : ∀ i, F i → G i) (hG : ∀ i, G i → i < w.heap.size) (hN : N ≤ M) : ShL w sb G M S L :=
  ⟨h.top, h.pm.mono hN, fun k b hb => by
    obtain ⟨h1, h2, h3, h4, h5⟩ := h.pgs k b hb
    exact ⟨h1, h2, h3, h4, hF _ h5⟩, h.non, h.inj, h.nd, h.mem, hF _ h.Fm, hF _ h.Fp, hG, h.bud, h.rng⟩
theorem ShL.c0 (h : ShL w sb F N S L) : w.cell? ⟨sb, 0, none⟩ = some (.int .i64 S.budget) := by simp [World.cell?, h.top]
theorem ShL.c1 (h : ShL w sb F N S L) : w.cell? ⟨sb, 1, none⟩ = some (.map (some L.bp)) := by simp [World.cell?, h.top]
theorem ShL.ks_iff (h : ShL w sb F N S L) {k : Int} (h0 : 0 ≤ k) (h1 : k < 16777216) : k ∈ L.ks ↔ 0 < nz (S.pg k) 256 := by
  rw [h.mem]
  cases hb : L.bk k with
  | none => simp [h.non k h0 h1 hb]
  | some b => simp [(h.pgs k b hb).2.2.2.1]
theorem ShL.ks_rng (h : ShL w sb F N S L) {k : Int} (hk : k ∈ L.ks) : 0 ≤ k ∧ k < 16777216 := by
  rw [h.mem] at hk
  obtain ⟨b, hb⟩ := Option.isSome_iff_exists.1 hk
  exact ⟨(h.pgs k b hb).1, (h.pgs k b hb).2.1⟩
end
end Go.Proofs.Ytgebmedkhakhfaa
