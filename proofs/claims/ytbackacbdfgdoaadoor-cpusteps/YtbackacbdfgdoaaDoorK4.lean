/- MEMORY IN PAGES, AS BLOCKS: the worlds behind a call that writes blocks of its own (Fr), the two maps by their keys, a page's block, and what is owned (Own). · THE WALKS OF LAYER 3: the small ones. · THE WALKS OF LAYER 3: Load, Store. · THE WALKS OF LAYER 3: the search in the rising list; where a stretch stands. · THE WALKS OF LAYER 3: a page is laid in. -/
import Derived.Test.YtbackacbdfgdoaaDoorK1
import Derived.Maps.OwnSet
import Derived.RegionTactic
import Derived.BigRegion
import Derived.Deep.QuietTactic
import Derived.BigQuiet
import Derived.Lib.EndianBits
namespace Go.Proofs.YtbackacbdfgdoaaDoor
open Go.ChangeShapes Go.WideShapes Go.ChangeAt Go.RowKit
open Go.Maps (Keyed IsMap Tidy)

/-- Behind a call that may write the blocks F and makes new ones: the others are as they were. -/
structure Fr (F : Nat → Prop) (w w' : World) : Prop where
  os : w'.os = w.os
  tape : w'.tape = w.tape
  output : w'.output = w.output
  size : w.heap.size ≤ w'.heap.size
  block : ∀ i, i < w.heap.size → ¬ F i → w'.heap[i]? = w.heap[i]?
  frozen : ∀ a, w'.frozen? a = w.frozen? a

theorem Fr.refl (F : Nat → Prop) (w : World) : Fr F w w := ⟨rfl, rfl, rfl, Nat.le_refl _, fun _ _ _ => rfl, fun _ => rfl⟩
theorem Fr.trans {F G : Nat → Prop} {a b c : World} (h : Fr F a b) (k : Fr G b c) (hG : ∀ i, i < a.heap.size → G i → F i) : Fr F a c :=
  ⟨k.os.trans h.os, k.tape.trans h.tape, k.output.trans h.output, Nat.le_trans h.size k.size,
   fun i hi hF => (k.block i (Nat.lt_of_lt_of_le hi h.size) (fun g => hF (hG i hi g))).trans (h.block i hi hF), fun x => (k.frozen x).trans (h.frozen x)⟩
theorem Fr.mono {F G : Nat → Prop} {a b : World} (h : Fr F a b) (hG : ∀ i, i < a.heap.size → F i → G i) : Fr G a b :=
  ⟨h.os, h.tape, h.output, h.size, fun i hi g => h.block i hi (fun f => g (hG i hi f)), h.frozen⟩
theorem Gr.fr {a b : World} (h : Gr a b) (F : Nat → Prop) : Fr F a b := ⟨h.b.os, h.b.tape, h.b.output, h.b.size, fun i hi _ => h.b.block i hi, h.f⟩
theorem Fr.gr {F : Nat → Prop} {a b : World} (h : Fr F a b) (hF : ∀ i, i < a.heap.size → ¬ F i) : Gr a b :=
  ⟨⟨h.os, h.tape, h.output, h.size, fun i hi => h.block i hi (hF i hi)⟩, h.frozen⟩
theorem Fr.drew {F : Nat → Prop} {a w : World} (h : Fr F a w) : Fr F a w.drew := ⟨h.os, h.tape, h.output, h.size, h.block, h.frozen⟩
theorem Fr.drewN {F : Nat → Prop} {a w : World} (h : Fr F a w) (n : Nat) : Fr F a (w.drewN n) := ⟨h.os, h.tape, h.output, h.size, h.block, h.frozen⟩
theorem Fr.cell {F : Nat → Prop} {a w : World} (h : Fr F a w) {p : Addr} (hp : p.block < a.heap.size) (hF : ¬ F p.block) : w.cell? p = a.cell? p := World.cell?_of_block (w := a) (h.block _ hp hF)
theorem Gr.allocMap {a w : World} (h : Gr a w) (es : Array MapEntry) (c : Nat) : Gr a (w.alloc (.map es c)) := by
  refine ⟨h.b.alloc h.b.size _, fun x => ?_⟩
  rw [← h.f x]
  unfold World.frozen?
  by_cases e : x.block < w.heap.size
  · rw [Below.heap_alloc _ _ _ e]
  · have e1 : w.heap[x.block]? = none := by simp; omega
    rw [e1]
    by_cases e2 : x.block = w.heap.size
    · rw [e2, heap_alloc_new]
    · have e3 : (w.alloc (.map es c)).heap[x.block]? = none := by simp; omega
      rw [e3]
theorem mapTurned_fr {w w' : World} {b : Nat} (h : w.mapTurned w' b) (F : Nat → Prop) (hF : F b) : Fr F w w' :=
  ⟨h.grown.os, h.grown.tape, h.grown.output, h.grown.size, fun i hi hn => h.grown.block i hi (fun e => hn (by cases e; exact hF)), h.frozen⟩
theorem Fr.setCell {F : Nat → Prop} {a w : World} (h : Fr F a w) {p : Addr} (hp : F p.block ∨ a.heap.size ≤ p.block) (v : Value) : Fr F a (w.setCell p v) :=
  ⟨h.os, h.tape, h.output, by simpa using h.size, fun i hi hn => by
    rw [Below.heap_setCell _ _ _ _ (fun e => by subst e; rcases hp with hp | hp; exact hn hp; omega)]; exact h.block i hi hn, fun x => (World.frozen?_setCell _ _ _ _).trans (h.frozen x)⟩
theorem Fr.alloc {F : Nat → Prop} {a w : World} (h : Fr F a w) (c : Array Value) (t : TypeId) : Fr F a (w.alloc (.cells c t)) :=
  h.trans ((Gr.refl w).alloc c t |>.fr (fun _ => False)) (fun _ _ h => h.elim)

/-! ### maps keyed by uint32 -/
theorem u32K : Keyed Tryd.prog 25 := Maps.int_keyed Tryd.underlying25
theorem u32key {k : Int} (h : (Lit.int .u32 k).wf = true) : keyOf Tryd.prog 25 (.int .u32 k) = some (.int .u32 k) := Maps.keyOf_int_mk Tryd.underlying25 h
def U4 (k : Int) : Prop := 0 ≤ k ∧ k < 4294967296
theorem U4.wf {k : Int} (h : U4 k) : (Lit.int .u32 k).wf = true := WalkArith.wf_u32 ⟨h.1, by have := h.2; omega⟩
theorem u4lit (k : Int) : WideAt.IsKeyLit (.int .u32 k) := by simp [WideAt.IsKeyLit]

/-- An element that is a pointer to a whole block reads as the block's number. -/
def ptrElem : Value → Option (DataW Unit × List MemPlace)
  | .pointer none => some (.nil, [])
  | .pointer (some ⟨b, 0, none⟩) => some (.lit (.int .i64 b), [])
  | _ => none
def pv : Option Nat → Value
  | none => .pointer none
  | some b => .pointer (some ⟨b, 0, none⟩)
def pd : Option Nat → DataW Unit
  | none => .nil
  | some b => .lit (.int .i64 b)
theorem ptrElem_mk (o : Option Nat) : ptrElem (pv o) = some (pd o, []) := by cases o <;> rfl
theorem ptrElem_inv {v : Value} {o : Option Nat} {ps : List MemPlace} (h : ptrElem v = some (pd o, ps)) : v = pv o := by
  unfold ptrElem at h
  split at h
  · cases o <;> simp [pd] at h ⊢
    rfl
  · cases o <;> simp [pd] at h ⊢
    · rw [← Int.ofNat_inj.1 h.1]; rfl
  · cases h

/-- Block b is a map that has just the keys of f, and the block's number at each. -/
def PMap (w : World) (b n : Nat) (f : Int → Option Nat) : Prop :=
  ∃ D : DataW Unit, w.ownsMap Tryd.prog 25 ptrElem b n D ∧ ∀ k, U4 k → Maps.has D (.int .u32 k) = (f k).isSome ∧ D.atKey (.int .u32 k) .nil = pd (f k)
/-- Block b is a map that has g's numbers (0 where none). -/
def UMap (w : World) (b n : Nat) (g : Int → Int) : Prop :=
  ∃ D : DataW Unit, w.ownsMap Tryd.prog 25 (plainElem Tryd.prog 25) b n D ∧ ∀ k, U4 k → D.atKey (.int .u32 k) (.lit (.int .u32 0)) = .lit (.int .u32 (g k)) ∧ U4 (g k)

def upd {α : Type} (f : Int → α) (k : Int) (x : α) : Int → α := fun i => if i = k then x else f i
theorem upd_same {α : Type} (f : Int → α) (k : Int) (x : α) : upd f k x k = x := by simp [upd]
theorem upd_other {α : Type} (f : Int → α) {k i : Int} (x : α) (h : i ≠ k) : upd f k x i = f i := by simp [upd, h]

theorem ownsMap_congr {P : Program} {k : TypeId} {R : Value → Option (DataW Unit × List MemPlace)} {w w' : World} {b n : Nat} {D : DataW Unit} (h : w.ownsMap P k R b n D) (e : w'.heap[b]? = w.heap[b]?) : w'.ownsMap P k R b n D := by
  obtain ⟨es, c, hb, r⟩ := h
  exact ⟨es, c, e.trans hb, r⟩
theorem PMap.congr {w w' : World} {b n : Nat} {f : Int → Option Nat} (h : PMap w b n f) (e : w'.heap[b]? = w.heap[b]?) : PMap w' b n f := by
  obtain ⟨D, hD, r⟩ := h; exact ⟨D, ownsMap_congr hD e, r⟩
theorem UMap.congr {w w' : World} {b n : Nat} {f : Int → Int} (h : UMap w b n f) (e : w'.heap[b]? = w.heap[b]?) : UMap w' b n f := by
  obtain ⟨D, hD, r⟩ := h; exact ⟨D, ownsMap_congr hD e, r⟩
theorem PMap.mono {w : World} {b n m : Nat} {f : Int → Option Nat} (h : PMap w b n f) (e : n ≤ m) : PMap w b m f := by
  obtain ⟨D, hD, r⟩ := h; exact ⟨D, hD.mono e, r⟩
theorem UMap.mono {w : World} {b n m : Nat} {f : Int → Int} (h : UMap w b n f) (e : n ≤ m) : UMap w b m f := by
  obtain ⟨D, hD, r⟩ := h; exact ⟨D, hD.mono e, r⟩
theorem PMap.isMapObj {w : World} {b n : Nat} {f : Int → Option Nat} (h : PMap w b n f) : ∃ es c, w.heap[b]? = some (.map es c) := by
  obtain ⟨D, ⟨es, c, hb, _⟩, _⟩ := h; exact ⟨es, c, hb⟩
theorem UMap.isMapObj {w : World} {b n : Nat} {f : Int → Int} (h : UMap w b n f) : ∃ es c, w.heap[b]? = some (.map es c) := by
  obtain ⟨D, ⟨es, c, hb, _⟩, _⟩ := h; exact ⟨es, c, hb⟩

theorem zeroPtr (w : World) : (zeroValue 120).run Tryd.prog w = .ok (.pointer none) w := by kernel_rfl
theorem zeroU32 (w : World) : (zeroValue 25).run Tryd.prog w = .ok (.int .u32 0) w := by kernel_rfl

theorem PMap.look {w : World} {b n : Nat} {f : Int → Option Nat} (h : PMap w b n f) {k : Int} (hk : U4 k) :
    (Instr.lookup 101 (.map (some b)) (.int .u32 k) true).run Tryd.prog w = .ok (.tuple #[pv (f k), .bool (f k).isSome]) w := by
  obtain ⟨D, hD, r⟩ := h
  obtain ⟨v, ps, hrun, hv⟩ := hD.look_ok u32K Tryd.underlying101 (zeroPtr w) (zd := .nil) (zp := []) rfl (u32key hk.wf)
  rw [(r k hk).2] at hv
  rw [hrun, ptrElem_inv hv, (r k hk).1]
theorem PMap.look1 {w : World} {b n : Nat} {f : Int → Option Nat} (h : PMap w b n f) {k : Int} (hk : U4 k) :
    (Instr.lookup 101 (.map (some b)) (.int .u32 k) false).run Tryd.prog w = .ok (pv (f k)) w := by
  obtain ⟨D, hD, r⟩ := h
  obtain ⟨v, ps, hrun, hv⟩ := hD.lookup u32K Tryd.underlying101 (zeroPtr w) (zd := .nil) (zp := []) rfl (u32key hk.wf)
  rw [(r k hk).2] at hv
  rw [hrun, ptrElem_inv hv]
theorem UMap.look {w : World} {b n : Nat} {g : Int → Int} (h : UMap w b n g) {k : Int} (hk : U4 k) :
    (Instr.lookup 102 (.map (some b)) (.int .u32 k) false).run Tryd.prog w = .ok (.int .u32 (g k)) w := by
  obtain ⟨D, hD, r⟩ := h
  obtain ⟨c, hrun, hat, hwc⟩ := hD.lookup_int u32K Tryd.underlying102 Tryd.underlying25 (zeroU32 w) (u32key hk.wf)
  have := (r k hk).1
  rw [hat] at this
  rw [hrun]
  simp at this
  rw [this]
theorem PMap.store {w : World} {b n : Nat} {f : Int → Option Nat} (h : PMap w b n f) (hn : n < maxLen) {k : Int} (hk : U4 k) (o : Nat) :
    ∃ w', (Instr.mapUpdate 101 (.map (some b)) (.int .u32 k) (.pointer (some ⟨o, 0, none⟩))).run Tryd.prog w = .ok () w' ∧ PMap w' b (n + 1) (upd f k (some o)) ∧ w.mapTurned w' b := by
  obtain ⟨D, hD, r⟩ := h
  obtain ⟨w', hrun, h1, h2⟩ := hD.store u32K Tryd.underlying101 hn (u32key hk.wf) (ptrElem_mk (some o))
  refine ⟨w', hrun, ⟨_, h1, fun i hi => ?_⟩, h2⟩
  by_cases e : i = k
  · subst e
    rw [upd_same]
    exact ⟨Maps.has_put_same hD.isMap (u4lit _) _, Maps.atKey_put_same hD.isMap (u4lit _) _ _⟩
  · rw [upd_other _ _ e]
    have ne : (Lit.int .u32 i) ≠ .int .u32 k := fun x => e (by injection x)
    exact ⟨(Maps.has_put_other ne _).trans (r i hi).1, (Maps.atKey_put_other ne _ _).trans (r i hi).2⟩
theorem UMap.store {w : World} {b n : Nat} {g : Int → Int} (h : UMap w b n g) (hn : n < maxLen) {k x : Int} (hk : U4 k) (hx : U4 x) :
    ∃ w', (Instr.mapUpdate 102 (.map (some b)) (.int .u32 k) (.int .u32 x)).run Tryd.prog w = .ok () w' ∧ UMap w' b (n + 1) (upd g k x) ∧ w.mapTurned w' b := by
  obtain ⟨D, hD, r⟩ := h
  obtain ⟨w', hrun, h1, h2⟩ := hD.store u32K Tryd.underlying102 hn (u32key hk.wf) (plainElem_int Tryd.underlying25 hx.wf)
  refine ⟨w', hrun, ⟨_, h1, fun i hi => ?_⟩, h2⟩
  by_cases e : i = k
  · subst e
    rw [upd_same]
    exact ⟨Maps.atKey_put_same hD.isMap (u4lit _) _ _, hx⟩
  · rw [upd_other _ _ e]
    have ne : (Lit.int .u32 i) ≠ .int .u32 k := fun x => e (by injection x)
    exact ⟨(Maps.atKey_put_other ne _ _).trans (r i hi).1, (r i hi).2⟩
theorem PMap.drop {w : World} {b n : Nat} {f : Int → Option Nat} (h : PMap w b n f) {k : Int} (hk : U4 k) (ty : TypeId) :
    ∃ w', (Builtin.delete_ #[101, 25] ty #[.map (some b), .int .u32 k]).run Tryd.prog w = .ok (.tuple #[]) w' ∧ PMap w' b n (upd f k none) ∧ w.mapTurned w' b := by
  obtain ⟨D, hD, r⟩ := h
  obtain ⟨w', hrun, h1, h2⟩ := hD.drop u32K Tryd.underlying101 (u32key hk.wf) ty
  refine ⟨w', hrun, ⟨_, h1, fun i hi => ?_⟩, h2⟩
  by_cases e : i = k
  · subst e
    rw [upd_same]
    exact ⟨Maps.has_del_same, Maps.atKey_del_same _⟩
  · rw [upd_other _ _ e]
    have ne : (Lit.int .u32 i) ≠ .int .u32 k := fun x => e (by injection x)
    exact ⟨(Maps.has_del_other ne).trans (r i hi).1, (Maps.atKey_del_other ne _).trans (r i hi).2⟩
theorem UMap.drop {w : World} {b n : Nat} {g : Int → Int} (h : UMap w b n g) {k : Int} (hk : U4 k) (ty : TypeId) :
    ∃ w', (Builtin.delete_ #[102, 25] ty #[.map (some b), .int .u32 k]).run Tryd.prog w = .ok (.tuple #[]) w' ∧ UMap w' b n (upd g k 0) ∧ w.mapTurned w' b := by
  obtain ⟨D, hD, r⟩ := h
  obtain ⟨w', hrun, h1, h2⟩ := hD.drop u32K Tryd.underlying102 (u32key hk.wf) ty
  refine ⟨w', hrun, ⟨_, h1, fun i hi => ?_⟩, h2⟩
  by_cases e : i = k
  · subst e
    rw [upd_same]
    exact ⟨Maps.atKey_del_same _, by unfold U4; omega⟩
  · rw [upd_other _ _ e]
    have ne : (Lit.int .u32 i) ≠ .int .u32 k := fun x => e (by injection x)
    exact ⟨(Maps.atKey_del_other ne _).trans (r i hi).1, (r i hi).2⟩
theorem PMap.made (w : World) : PMap (w.alloc (.map #[] 0)) w.heap.size 0 (fun _ => none) :=
  ⟨.map [], World.ownsMap_made _ _ _ _, fun _ _ => ⟨rfl, rfl⟩⟩
theorem UMap.made (w : World) : UMap (w.alloc (.map #[] 0)) w.heap.size 0 (fun _ => 0) :=
  ⟨.map [], World.ownsMap_made _ _ _ _, fun _ _ => ⟨rfl, by unfold U4; simp⟩⟩

/-! ### a page, all of it -/
structure Pg where
  byt : Nat → Int
  perm : Int
  gen : Int
def Pg.arr (p : Pg) : Array Value := ((List.range 256).map (fun i => Value.int .u8 (p.byt i)) ++ [Value.int .i64 p.perm, Value.int .u32 p.gen]).toArray
theorem Pg.arr_size (p : Pg) : p.arr.size = 258 := by simp [Pg.arr]
theorem Pg.arr_byt (p : Pg) {i : Nat} (h : i < 256) : p.arr[i]? = some (.int .u8 (p.byt i)) := by
  simp [Pg.arr, List.getElem?_append, h]
theorem Pg.arr_perm (p : Pg) : p.arr[256]? = some (.int .i64 p.perm) := by simp [Pg.arr]
theorem Pg.arr_gen (p : Pg) : p.arr[257]? = some (.int .u32 p.gen) := by simp [Pg.arr]
def Pg.setByt (p : Pg) (i : Nat) (x : Int) : Pg := { p with byt := fun j => if j = i then x else p.byt j }
theorem arr_ext {a : Array Value} {p : Pg} (h : a.size = 258) (h1 : ∀ i, i < 256 → a[i]? = some (.int .u8 (p.byt i))) (h2 : a[256]? = some (.int .i64 p.perm)) (h3 : a[257]? = some (.int .u32 p.gen)) : a = p.arr := by
  apply Array.ext_getElem?
  intro i
  by_cases e : i < 256
  · rw [h1 i e, p.arr_byt e]
  · by_cases e2 : i = 256
    · rw [e2, h2, p.arr_perm]
    · by_cases e3 : i = 257
      · rw [e3, h3, p.arr_gen]
      · have s := p.arr_size
        rw [Array.getElem?_eq_none (by omega), Array.getElem?_eq_none (by omega)]
theorem Pg.set_byt (p : Pg) {i : Nat} (h : i < 256) (x : Int) : p.arr.setIfInBounds i (.int .u8 x) = (p.setByt i x).arr := by
  apply arr_ext
  · simp [p.arr_size]
  · intro j hj
    rw [Array.getElem?_setIfInBounds]
    by_cases e : i = j
    · subst e; simp [p.arr_size, Pg.setByt]; omega
    · rw [if_neg e, p.arr_byt hj]; simp [Pg.setByt, Ne.symm e]
  · rw [Array.getElem?_setIfInBounds, if_neg (by omega), p.arr_perm]; rfl
  · rw [Array.getElem?_setIfInBounds, if_neg (by omega), p.arr_gen]; rfl
theorem Pg.set_perm (p : Pg) (x : Int) : p.arr.setIfInBounds 256 (.int .i64 x) = ({ p with perm := x } : Pg).arr := by
  apply arr_ext
  · simp [p.arr_size]
  · intro j hj
    rw [Array.getElem?_setIfInBounds, if_neg (by omega), p.arr_byt hj]
  · simp [p.arr_size]
  · rw [Array.getElem?_setIfInBounds, if_neg (by omega), p.arr_gen]
theorem Pg.set_gen (p : Pg) (x : Int) : p.arr.setIfInBounds 257 (.int .u32 x) = ({ p with gen := x } : Pg).arr := by
  apply arr_ext
  · simp [p.arr_size]
  · intro j hj
    rw [Array.getElem?_setIfInBounds, if_neg (by omega), p.arr_byt hj]
  · rw [Array.getElem?_setIfInBounds, if_neg (by omega), p.arr_perm]
  · simp [p.arr_size]
/-- Block b is that page. -/
def IsPg (w : World) (b : Nat) (p : Pg) : Prop := w.heap[b]? = some (.cells p.arr 123 (0, 0))
theorem IsPg.byt {w : World} {b : Nat} {p : Pg} (h : IsPg w b p) {i : Nat} (hi : i < 256) : w.cell? ⟨b, i, none⟩ = some (.int .u8 (p.byt i)) := by
  simp [World.cell?, show w.heap[b]? = _ from h, p.arr_byt hi]
theorem IsPg.perm {w : World} {b : Nat} {p : Pg} (h : IsPg w b p) : w.cell? ⟨b, 256, none⟩ = some (.int .i64 p.perm) := by
  simp [World.cell?, show w.heap[b]? = _ from h, p.arr_perm]
theorem IsPg.gen {w : World} {b : Nat} {p : Pg} (h : IsPg w b p) : w.cell? ⟨b, 257, none⟩ = some (.int .u32 p.gen) := by
  simp [World.cell?, show w.heap[b]? = _ from h, p.arr_gen]
theorem IsPg.frozen {w : World} {b : Nat} {p : Pg} (h : IsPg w b p) (i : Nat) : w.frozen? ⟨b, i, none⟩ = false := by
  simp [World.frozen?, show w.heap[b]? = _ from h]
theorem heap_setCell_same {w : World} {b o : Nat} {a : Array Value} {t : TypeId} {z : Nat × Nat} {v : Value} (h : w.heap[b]? = some (.cells a t z)) : (w.setCell ⟨b, o, none⟩ v).heap[b]? = some (.cells (a.setIfInBounds o v) t z) := by
  simp [World.setCell, Array.getElem?_modify, h]
theorem IsPg.setByt {w : World} {b : Nat} {p : Pg} (h : IsPg w b p) {i : Nat} (hi : i < 256) (x : Int) : IsPg (w.setCell ⟨b, i, none⟩ (.int .u8 x)) b (p.setByt i x) := by
  unfold IsPg; rw [heap_setCell_same h, p.set_byt hi]
theorem IsPg.setPerm {w : World} {b : Nat} {p : Pg} (h : IsPg w b p) (x : Int) : IsPg (w.setCell ⟨b, 256, none⟩ (.int .i64 x)) b { p with perm := x } := by
  unfold IsPg; rw [heap_setCell_same h, p.set_perm]
theorem IsPg.setGen {w : World} {b : Nat} {p : Pg} (h : IsPg w b p) (x : Int) : IsPg (w.setCell ⟨b, 257, none⟩ (.int .u32 x)) b { p with gen := x } := by
  unfold IsPg; rw [heap_setCell_same h, p.set_gen]
theorem IsPg.lt {w : World} {b : Nat} {p : Pg} (h : IsPg w b p) : b < w.heap.size := (Array.getElem?_eq_some_iff.1 h).1
structure Pg.Ok (p : Pg) : Prop where
  byt : ∀ i, 0 ≤ p.byt i ∧ p.byt i < 256
  perm : 0 ≤ p.perm ∧ p.perm < 8
  gen : U4 p.gen

/-! ### a memory -/
structure MS where
  budget : Int
  th : List Int
  pg : Int → Option Pg
  gone : Int → Int
structure MS.Ok (S : MS) : Prop where
  budget : 1 ≤ S.budget ∧ S.budget ≤ 4096
  len : (S.th.length : Int) ≤ S.budget
  rise : S.th.Pairwise (· < ·)
  rng : ∀ k ∈ S.th, 0 ≤ k ∧ k < 16777216
  mem : ∀ k, (S.pg k).isSome ↔ k ∈ S.th
  pg : ∀ k p, S.pg k = some p → p.Ok
structure Lay where
  v : Value
  bp : Nat
  bg : Nat
  bk : Int → Option Nat
/-- Block mb is that memory; all its blocks lie in F. -/
structure OwnL (w : World) (mb : Nat) (F : Nat → Prop) (N : Nat) (S : MS) (L : Lay) : Prop where
  top : w.heap[mb]? = some (.cells #[.int .i64 S.budget, L.v, .map (some L.bp), .map (some L.bg)] 104 (0, 0))
  row : w.ownsRow 0 25 1 L.v S.th.length (S.th.map (Value.int .u32))
  pm : PMap w L.bp N L.bk
  gm : UMap w L.bg N S.gone
  ne : L.bp ≠ L.bg
  pgs : ∀ k b, L.bk k = some b → ∃ p, S.pg k = some p ∧ IsPg w b p ∧ F b
  non : ∀ k, L.bk k = none → S.pg k = none
  inj : ∀ k k' b, L.bk k = some b → L.bk k' = some b → k = k'
  Fm : F mb
  Fp : F L.bp
  Fg : F L.bg
  Fv : ∀ g, L.v.ownBlock = some g → F g
  lt : ∀ i, F i → i < w.heap.size
  ok : S.Ok
def Own (w : World) (mb : Nat) (F : Nat → Prop) (N : Nat) (S : MS) : Prop := ∃ L, OwnL w mb F N S L

theorem row_congr {w w' : World} {e : TypeId} {v : Value} {n : Nat} {xs : List Value} (h : w.ownsRow 0 e 1 v n xs) (hb : ∀ g, v.ownBlock = some g → w'.heap[g]? = w.heap[g]?) : w'.ownsRow 0 e 1 v n xs := by
  refine ⟨h.1, ?_⟩
  rcases h.2 with hn | ⟨g, cap, cur, rfl, b0, hg, r⟩
  · exact .inl hn
  · exact .inr ⟨g, cap, cur, rfl, b0, (hb g rfl).trans hg, r⟩
theorem row_obj {w : World} {e : TypeId} {v : Value} {n : Nat} {xs : List Value} (h : w.ownsRow 0 e 1 v n xs) {g : Nat} (hv : v.ownBlock = some g) : ∃ c, w.heap[g]? = some (.cells c e (0, 0)) := by
  rcases h.2 with ⟨rfl, _⟩ | ⟨g', cap, cur, rfl, b0, hg, r⟩
  · simp [Value.ownBlock] at hv
  · simp [Value.ownBlock] at hv; subst hv; exact ⟨cur, hg⟩

section
variable {w w' : World} {mb : Nat} {F G : Nat → Prop} {N : Nat} {S : MS} {L : Lay}
theorem OwnL.congr (h : OwnL w mb F N S L) (hs : w.heap.size ≤ w'.heap.size) (e : ∀ i, F i → w'.heap[i]? = w.heap[i]?) : OwnL w' mb F N S L where
  top := (e _ h.Fm).trans h.top
  row := row_congr h.row (fun g hg => e g (h.Fv g hg))
  pm := h.pm.congr (e _ h.Fp)
  gm := h.gm.congr (e _ h.Fg)
  ne := h.ne
  pgs := fun k b hb => by
    obtain ⟨p, h1, h2, h3⟩ := h.pgs k b hb
    exact ⟨p, h1, (e b h3).trans h2, h3⟩
  non := h.non
  inj := h.inj
  Fm := h.Fm
  Fp := h.Fp
  Fg := h.Fg
  Fv := h.Fv
  lt := fun i hi => Nat.lt_of_lt_of_le (h.lt i hi) hs
  ok := h.ok
theorem OwnL.frame (h : OwnL w mb F N S L) (fr : Fr G w w') (hd : ∀ i, F i → ¬ G i) : OwnL w' mb F N S L :=
  h.congr fr.size (fun i hi => fr.block i (h.lt i hi) (hd i hi))
theorem OwnL.gr (h : OwnL w mb F N S L) (g : Gr w w') : OwnL w' mb F N S L := h.congr g.size (fun i hi => g.b.block i (h.lt i hi))
theorem Own.gr (h : Own w mb F N S) (g : Gr w w') : Own w' mb F N S := by obtain ⟨L, h⟩ := h; exact ⟨L, h.gr g⟩
theorem Own.frame (h : Own w mb F N S) (fr : Fr G w w') (hd : ∀ i, F i → ¬ G i) : Own w' mb F N S := by obtain ⟨L, h⟩ := h; exact ⟨L, h.frame fr hd⟩
theorem OwnL.mono (h : OwnL w mb F N S L) {M : Nat} (hF : ∀ i, F i → G i) (hG : ∀ i, G i → i < w.heap.size) (hN : N ≤ M) : OwnL w mb G M S L where
  top := h.top
  row := h.row
  pm := h.pm.mono hN
  gm := h.gm.mono hN
  ne := h.ne
  pgs := fun k b hb => by
    obtain ⟨p, h1, h2, h3⟩ := h.pgs k b hb
    exact ⟨p, h1, h2, hF _ h3⟩
  non := h.non
  inj := h.inj
  Fm := hF _ h.Fm
  Fp := hF _ h.Fp
  Fg := hF _ h.Fg
  Fv := fun g hg => hF _ (h.Fv g hg)
  lt := hG
  ok := h.ok
theorem Own.ok (h : Own w mb F N S) : S.Ok := by obtain ⟨L, h⟩ := h; exact h.ok
theorem Own.lt (h : Own w mb F N S) : ∀ i, F i → i < w.heap.size := by obtain ⟨L, h⟩ := h; exact h.lt
theorem OwnL.c0 (h : OwnL w mb F N S L) : w.cell? ⟨mb, 0, none⟩ = some (.int .i64 S.budget) := by simp [World.cell?, h.top]
theorem OwnL.c1 (h : OwnL w mb F N S L) : w.cell? ⟨mb, 1, none⟩ = some L.v := by simp [World.cell?, h.top]
theorem OwnL.c2 (h : OwnL w mb F N S L) : w.cell? ⟨mb, 2, none⟩ = some (.map (some L.bp)) := by simp [World.cell?, h.top]
theorem OwnL.c3 (h : OwnL w mb F N S L) : w.cell? ⟨mb, 3, none⟩ = some (.map (some L.bg)) := by simp [World.cell?, h.top]
theorem OwnL.f0 (h : OwnL w mb F N S L) (i : Nat) : w.frozen? ⟨mb, i, none⟩ = false := by simp [World.frozen?, h.top]
theorem OwnL.pgb (h : OwnL w mb F N S L) {k : Int} {p : Pg} (hp : S.pg k = some p) : ∃ b, L.bk k = some b ∧ IsPg w b p ∧ F b := by
  cases hb : L.bk k with
  | none => rw [h.non k hb] at hp; cases hp
  | some b =>
    obtain ⟨p', h1, h2, h3⟩ := h.pgs k b hb
    rw [h1] at hp; cases hp
    exact ⟨b, rfl, h2, h3⟩
theorem OwnL.bnone (h : OwnL w mb F N S L) {k : Int} (hp : S.pg k = none) : L.bk k = none := by
  cases hb : L.bk k with
  | none => rfl
  | some b =>
    obtain ⟨p', h1, h2, h3⟩ := h.pgs k b hb
    rw [h1] at hp; cases hp
/-- One page's block is another page now. -/
theorem OwnL.setPg (h : OwnL w mb F N S L) {k : Int} {b : Nat} {p : Pg} (hb : L.bk k = some b) (hs : w.heap.size ≤ w'.heap.size) (e : ∀ i, F i → i ≠ b → w'.heap[i]? = w.heap[i]?) (hp : IsPg w' b p) (ho : p.Ok) :
    OwnL w' mb F N { S with pg := upd S.pg k (some p) } L := by
  obtain ⟨p0, q1, q2, q3⟩ := h.pgs k b hb
  have nm : mb ≠ b := fun x => by subst x; have := h.top; rw [show w.heap[mb]? = _ from q2] at this; simp at this
  have np : L.bp ≠ b := fun x => by obtain ⟨es, c, hm⟩ := h.pm.isMapObj; rw [x, show w.heap[b]? = _ from q2] at hm; simp at hm
  have ng : L.bg ≠ b := fun x => by obtain ⟨es, c, hm⟩ := h.gm.isMapObj; rw [x, show w.heap[b]? = _ from q2] at hm; simp at hm
  have nv : ∀ g, L.v.ownBlock = some g → g ≠ b := fun g hg x => by obtain ⟨c, hc⟩ := row_obj h.row hg; rw [x, show w.heap[b]? = _ from q2] at hc; simp at hc
  exact {
    top := (e _ h.Fm nm).trans h.top
    row := row_congr h.row (fun g hg => e g (h.Fv g hg) (nv g hg))
    pm := h.pm.congr (e _ h.Fp np)
    gm := h.gm.congr (e _ h.Fg ng)
    ne := h.ne
    pgs := fun k' b' hb' => by
      by_cases x : k' = k
      · subst x
        rw [hb] at hb'; cases hb'
        exact ⟨p, upd_same _ _ _, hp, q3⟩
      · obtain ⟨p', h1, h2, h3⟩ := h.pgs k' b' hb'
        have nb : b' ≠ b := fun y => x (h.inj _ _ b (y ▸ hb') hb)
        exact ⟨p', (upd_other _ _ x).trans h1, (e b' h3 nb).trans h2, h3⟩
    non := fun k' hk' => by
      by_cases x : k' = k
      · subst x; rw [hb] at hk'; cases hk'
      · exact (upd_other _ _ x).trans (h.non k' hk')
    inj := h.inj
    Fm := h.Fm
    Fp := h.Fp
    Fg := h.Fg
    Fv := h.Fv
    lt := fun i hi => Nat.lt_of_lt_of_le (h.lt i hi) hs
    ok := {
      budget := h.ok.budget
      len := h.ok.len
      rise := h.ok.rise
      rng := h.ok.rng
      mem := fun k' => by
        by_cases x : k' = k
        · subst x; rw [← h.ok.mem]; simp [upd_same, q1]
        · rw [← h.ok.mem]; simp [upd_other _ _ x]
      pg := fun k' p' hk' => by
        by_cases x : k' = k
        · subst x; simp only [upd_same] at hk'; cases hk'; exact ho
        · simp only [upd_other _ _ x] at hk'; exact h.ok.pg k' p' hk' } }
end
end Go.Proofs.YtbackacbdfgdoaaDoor
namespace Go.Proofs.YtbackacbdfgdoaaDoor
open Go.ChangeShapes Go.WideShapes Go.ChangeAt Go.RowKit
set_option linter.unusedSimpArgs false
set_option linter.unusedVariables false

theorem allows_c {w : World} {b : Nat} {p : Pg} (hp : IsPg w b p) (need : Int) :
    Calls Tryd.prog 87 #[.pointer (some ⟨b, 0, none⟩), .int .i64 need] w fun e w' => e = .returned (.bool (bits .and .i64 p.perm need == need)) ∧ w' = w := by
  have hc := hp.perm
  go_enter Tryd.func87, Tryd.ntmps87
  go_wp2
  go_ret
  exact ⟨rfl, rfl⟩

theorem goodPerm_c (perm : Int) (w : World) :
    Calls Tryd.prog 53 #[.int .i64 perm] w fun e w' => e = .returned (.bool (decide (0 ≤ perm ∧ perm ≤ 7))) ∧ w' = w := by
  go_enter Tryd.func53, Tryd.ntmps53
  go_wp2
  all_goals go_ret
  · rename_i h
    refine ⟨?_, rfl⟩
    show Ending.returned (.bool (decide (perm ≤ 7))) = _
    simp [h]
  · rename_i h
    refine ⟨?_, rfl⟩
    show Ending.returned (.bool false) = _
    have : ¬ 0 ≤ perm := by omega
    simp [this]

def MS.new (n : Int) : MS := ⟨n, [], fun _ => none, fun _ => 0⟩
theorem New_c (n : Int) (hn : 1 ≤ n ∧ n ≤ 4096) (w : World) :
    Calls Tryd.prog 24 #[.int .i64 n] w fun e w' => ∃ mb F, e = .returned (.tuple #[.pointer (some ⟨mb, 0, none⟩), .int .i64 0]) ∧ Gr w w' ∧ (∀ i, F i → w.heap.size ≤ i) ∧ Own w' mb F 0 (MS.new n) := by
  obtain ⟨h1, h2⟩ := hn
  have hmm := @run_makeMap Tryd.prog
  go_enter Tryd.func24, Tryd.ntmps24
  go_wp2
  go_returns
  refine ⟨_, fun i => w.heap.size ≤ i ∧ i < w.heap.size + 3, rfl, (((Gr.refl w).allocMap _ _).allocMap _ _).alloc _ _, fun i h => h.1, ⟨.slice none 0 0, w.heap.size, w.heap.size + 1, fun _ => none⟩, ?_⟩
  have e2 : ((w.alloc (.map #[] 0)).alloc (.map #[] 0)).heap.size = w.heap.size + 2 := by simp
  have e1 : (w.alloc (.map #[] 0)).heap.size = w.heap.size + 1 := by simp
  exact {
    top := by
      have := heap_alloc_new ((w.alloc (.map #[] 0)).alloc (.map #[] 0)) (.cells #[.int .i64 n, .slice none 0 0, .map (some w.heap.size), .map (some (w.heap.size + 1))] 104)
      rw [e2] at this
      exact this
    row := World.ownsRow_nil _ _ _ _
    pm := ((PMap.made w).congr (Below.heap_alloc _ _ _ (by simp))).congr (Below.heap_alloc _ _ _ (by simp; omega))
    gm := by
      have := UMap.made (w.alloc (.map #[] 0))
      rw [e1] at this
      exact this.congr (Below.heap_alloc _ _ _ (by simp))
    ne := by simp
    pgs := fun k b h => by cases h
    non := fun k _ => rfl
    inj := fun k k' b h => by cases h
    Fm := ⟨by omega, by omega⟩
    Fp := by simp
    Fg := by simp
    Fv := fun g h => by simp [Value.ownBlock] at h
    lt := fun i h => by simp; omega
    ok := ⟨⟨h1, h2⟩, by simp [MS.new]; omega, by simp [MS.new], by simp [MS.new], by simp [MS.new], by simp [MS.new]⟩ }
theorem New_bad (n : Int) (hn : n < 1 ∨ 4096 < n) (w : World) :
    Calls Tryd.prog 24 #[.int .i64 n] w fun e w' => e = .returned (.tuple #[.pointer none, .int .i64 1]) ∧ w' = w := by
  rcases hn with h | h
  · go_enter Tryd.func24, Tryd.ntmps24
    go_wp2
    go_returns
    exact ⟨rfl, rfl⟩
  · have h0 : ¬ n < 1 := by omega
    go_enter Tryd.func24, Tryd.ntmps24
    go_wp2
    go_returns
    exact ⟨rfl, rfl⟩

theorem stretch_ok (a n : Int) (ha : U4 a) (hn : U4 n) (h : n ≠ 0 ∧ a % 256 = 0 ∧ a / 256 + (n + 255) / 256 ≤ 16777216) (w : World) :
    Calls Tryd.prog 52 #[.int .u32 a, .int .u32 n] w fun e w' => e = .returned (.tuple #[.agg #[.int .u32 (a / 256), .int .u32 ((n + 255) / 256)], .int .i64 0]) ∧ Gr w w' := by
  obtain ⟨h1, h2⟩ := ha
  obtain ⟨h3, h4⟩ := hn
  obtain ⟨h5, h6, h7⟩ := h
  have h5' : (n == 0) = false := by simpa using h5
  have h7' : ¬ 16777216 < a / 256 + (n + 256 - 1) / 256 := by omega
  have e0 : (n + 255) / 256 = (n + 256 - 1) / 256 := by omega
  rw [e0]
  clear e0 h7
  go_enter Tryd.func52, Tryd.ntmps52
  go_wp2
  go_returns
  refine ⟨rfl, ?_⟩
  (repeat' (first | (with_reducible assumption) | (with_reducible exact Gr.refl _) | (with_reducible refine Gr.alloc ?_ _ _) | (with_reducible refine Gr.drew ?_) | (with_reducible refine Gr.drewN ?_ _) | (with_reducible refine Gr.setCell ?_ ?_ _) | (with_reducible refine Gr.trans ?_ (by assumption)) | omega | (dsimp only; omega) | (simp; done) | (simp; omega)))
theorem stretch_bad (a n : Int) (ha : U4 a) (hn : U4 n) (h : ¬ (n ≠ 0 ∧ a % 256 = 0 ∧ a / 256 + (n + 255) / 256 ≤ 16777216)) (w : World) :
    Calls Tryd.prog 52 #[.int .u32 a, .int .u32 n] w fun e w' => e = .returned (.tuple #[.agg #[.int .u32 0, .int .u32 0], .int .i64 1]) ∧ Gr w w' := by
  obtain ⟨h1, h2⟩ := ha
  obtain ⟨h3, h4⟩ := hn
  by_cases h5 : n = 0
  · subst h5
    go_enter Tryd.func52, Tryd.ntmps52
    go_wp2
    go_returns
    refine ⟨rfl, ?_⟩
    (repeat' (first | (with_reducible assumption) | (with_reducible exact Gr.refl _) | (with_reducible refine Gr.alloc ?_ _ _) | (with_reducible refine Gr.drew ?_) | (with_reducible refine Gr.drewN ?_ _) | (with_reducible refine Gr.setCell ?_ ?_ _) | (with_reducible refine Gr.trans ?_ (by assumption)) | omega | (dsimp only; omega) | (simp; done) | (simp; omega)))
  · have h5' : (n == 0) = false := by simpa using h5
    by_cases h6 : a % 256 = 0
    · have h7' : 16777216 < a / 256 + (n + 256 - 1) / 256 := by omega
      clear h
      go_enter Tryd.func52, Tryd.ntmps52
      go_wp2
      go_returns
      refine ⟨rfl, ?_⟩
      (repeat' (first | (with_reducible assumption) | (with_reducible exact Gr.refl _) | (with_reducible refine Gr.alloc ?_ _ _) | (with_reducible refine Gr.drew ?_) | (with_reducible refine Gr.drewN ?_ _) | (with_reducible refine Gr.setCell ?_ ?_ _) | (with_reducible refine Gr.trans ?_ (by assumption)) | omega | (dsimp only; omega) | (simp; done) | (simp; omega)))
    · have h6' : (a % 256 == 0) = false := by simpa using h6
      clear h
      go_enter Tryd.func52, Tryd.ntmps52
      go_wp2
      go_returns
      refine ⟨rfl, ?_⟩
      (repeat' (first | (with_reducible assumption) | (with_reducible exact Gr.refl _) | (with_reducible refine Gr.alloc ?_ _ _) | (with_reducible refine Gr.drew ?_) | (with_reducible refine Gr.drewN ?_ _) | (with_reducible refine Gr.setCell ?_ ?_ _) | (with_reducible refine Gr.trans ?_ (by assumption)) | omega | (dsimp only; omega) | (simp; done) | (simp; omega)))

/-- May a number be there: the fault. -/
def MS.ask (S : MS) (a size need : Int) : Int :=
  if (size = 1 ∨ size = 2 ∨ size = 4) ∧ a % size = 0 then
    match S.pg (a / 256) with
    | none => 1
    | some p => if (bits .and .i64 p.perm need == need) = true then 0 else 2
  else 3
def MS.fnd (S : MS) (L : Lay) (a size need : Int) : Option Nat := if S.ask a size need = 0 then L.bk (a / 256) else none

section
variable {w : World} {mb : Nat} {F : Nat → Prop} {N : Nat} {S : MS} {L : Lay}
theorem cell_c (h : OwnL w mb F N S L) (a size need : Int) (ha : U4 a) :
    Calls Tryd.prog 65 #[.pointer (some ⟨mb, 0, none⟩), .int .u32 a, .int .i64 size, .int .i64 need] w fun e w' => e = .returned (.tuple #[pv (S.fnd L a size need), .int .i64 (S.ask a size need)]) ∧ w' = w := by
  have hc2 := h.c2
  have ha' := ha
  obtain ⟨a0, a1⟩ := ha
  by_cases hs : size = 1 ∨ size = 2 ∨ size = 4
  · by_cases hm : a % size = 0
    · have hl := h.pm.look (k := a / 256) ⟨by omega, by omega⟩
      cases hpg : S.pg (a / 256) with
      | none =>
        have hb := h.bnone hpg
        rw [hb] at hl
        have e1 : S.ask a size need = 1 := by simp [MS.ask, hs, hm, hpg]
        have e2 : S.fnd L a size need = none := by simp [MS.fnd, e1]
        rw [e1, e2]
        simp only [pv, Option.isSome] at hl ⊢
        clear e1 e2 hpg hb
        rcases hs with rfl | rfl | rfl
        all_goals
          go_enter Tryd.func65, Tryd.ntmps65
          go_wp2
          go_returns
          exact ⟨rfl, rfl⟩
      | some p =>
        obtain ⟨b, hb, hq, hF⟩ := h.pgb hpg
        rw [hb] at hl
        by_cases hy : (bits .and .i64 p.perm need == need) = true
        · have e1 : S.ask a size need = 0 := by simp only [MS.ask, hs, hm, hpg, hy]; simp
          have e2 : S.fnd L a size need = some b := by simp [MS.fnd, e1, hb]
          rw [e1, e2]
          simp only [pv, Option.isSome] at hl ⊢
          clear e1 e2 hpg hb
          rcases hs with rfl | rfl | rfl
          all_goals
            go_enter Tryd.func65, Tryd.ntmps65
            go_wp2_with fail
            refine (allows_c hq need).mono ?_
            rintro e w1 ⟨rfl, rfl⟩
            go_wp2
            go_returns
            exact ⟨rfl, rfl⟩
        · have e1 : S.ask a size need = 2 := by simp only [MS.ask, hs, hm, hpg, hy]; simp
          have e2 : S.fnd L a size need = none := by simp [MS.fnd, e1]
          rw [e1, e2]
          replace hy : (bits .and .i64 p.perm need == need) = false := by simpa using hy
          simp only [pv, Option.isSome] at hl ⊢
          clear e1 e2 hpg hb
          rcases hs with rfl | rfl | rfl
          all_goals
            go_enter Tryd.func65, Tryd.ntmps65
            go_wp2_with fail
            refine (allows_c hq need).mono ?_
            rintro e w1 ⟨rfl, rfl⟩
            go_wp2
            go_returns
            exact ⟨rfl, rfl⟩
    · have e1 : S.ask a size need = 3 := by simp [MS.ask, hm]
      have e2 : S.fnd L a size need = none := by simp [MS.fnd, e1]
      rw [e1, e2]
      clear e1 e2
      simp only [pv]
      rcases hs with rfl | rfl | rfl
      · omega
      all_goals
        go_enter Tryd.func65, Tryd.ntmps65
        go_wp2
        go_returns
        exact ⟨rfl, rfl⟩
  · have e1 : S.ask a size need = 3 := by simp [MS.ask, hs]
    have e2 : S.fnd L a size need = none := by simp [MS.fnd, e1]
    rw [e1, e2]
    clear e1 e2
    simp only [pv]
    have s1 : (size == 1) = false := by simp; omega
    have s2 : (size == 2) = false := by simp; omega
    have s4 : (size == 4) = false := by simp; omega
    go_enter Tryd.func65, Tryd.ntmps65
    go_wp2
    go_returns
    exact ⟨rfl, rfl⟩
end
end Go.Proofs.YtbackacbdfgdoaaDoor
namespace Go.Proofs.YtbackacbdfgdoaaDoor
open Go.ChangeShapes Go.WideShapes Go.ChangeAt Go.RowKit
set_option linter.unusedSimpArgs false
set_option linter.unusedVariables false

/-- The number of size bytes at a page's place o. -/
def Pg.val (p : Pg) (o : Nat) (size : Int) : Int :=
  if size = 1 then p.byt o else if size = 2 then p.byt o + p.byt (o + 1) * 256 else p.byt o + p.byt (o + 1) * 256 + p.byt (o + 2) * 65536 + p.byt (o + 3) * 16777216
def MS.load (S : MS) (a size need : Int) : Int :=
  if S.ask a size need = 0 then (match S.pg (a / 256) with | some p => p.val (a % 256).toNat size | none => 0) else 0
/-- The first k bytes of v laid in at o. -/
def Pg.wrt (p : Pg) (o : Nat) (v : Int) (k : Nat) : Pg := { p with byt := fun i => if o ≤ i ∧ i < o + k then v / 256 ^ (i - o) % 256 else p.byt i }
def MS.store (S : MS) (a size v : Int) : MS :=
  if S.ask a size 2 = 0 then (match S.pg (a / 256) with | some p => { S with pg := upd S.pg (a / 256) (some { p.wrt (a % 256).toNat v size.toNat with gen := (p.gen + 1) % 4294967296 }) } | none => S) else S
theorem Pg.wrt_zero (p : Pg) (o : Nat) (v : Int) : p.wrt o v 0 = p := by
  unfold Pg.wrt
  have : (fun i => if o ≤ i ∧ i < o + 0 then v / 256 ^ (i - o) % 256 else p.byt i) = p.byt := by
    funext i; rw [if_neg (by omega)]
  rw [this]
theorem Pg.wrt_succ (p : Pg) (o : Nat) (v x : Int) (k : Nat) (hx : x = v / 256 ^ k % 256) : (p.wrt o v k).setByt (o + k) x = p.wrt o v (k + 1) := by
  subst hx
  unfold Pg.wrt Pg.setByt
  simp only [Pg.mk.injEq, and_true]
  funext i
  by_cases e : i = o + k
  · subst e; simp
  · rw [if_neg e]
    by_cases e2 : o ≤ i ∧ i < o + k
    · rw [if_pos e2, if_pos (by omega)]
    · rw [if_neg e2, if_neg (by omega)]
theorem Pg.wrt_ok {p : Pg} (h : p.Ok) (o : Nat) (v : Int) (k : Nat) {g : Int} (hg : U4 g) : ({ p.wrt o v k with gen := g } : Pg).Ok := by
  refine ⟨fun i => ?_, h.perm, hg⟩
  simp only [Pg.wrt]
  split
  · omega
  · exact h.byt i
theorem or1 {x : Int} (h : 0 ≤ x ∧ x < 256) : bits .or .u32 0 (x % 4294967296) = x := by
  rw [show x % 4294967296 = x by omega, u32_or 0 x (by omega) (by omega) h.1 (by omega)]; simp; omega
theorem or2 {y x : Int} (h : 0 ≤ x ∧ x < 256) (hy : 0 ≤ y ∧ y < 256) : bits .or .u32 y (x % 4294967296 * 256 % 4294967296) = y + x * 256 := by
  rw [show x % 4294967296 * 256 % 4294967296 = x * 256 by omega]
  exact u32_or8 _ _ hy.1 hy.2 (by omega) (by omega) (by omega)
theorem or3 {y x : Int} (h : 0 ≤ x ∧ x < 256) (hy : 0 ≤ y ∧ y < 65536) : bits .or .u32 y (x % 4294967296 * 65536 % 4294967296) = y + x * 65536 := by
  rw [show x % 4294967296 * 65536 % 4294967296 = x * 65536 by omega]
  exact u32_or16 _ _ hy.1 hy.2 (by omega) (by omega) (by omega)
theorem or4 {y x : Int} (h : 0 ≤ x ∧ x < 256) (hy : 0 ≤ y ∧ y < 16777216) : bits .or .u32 y (x % 4294967296 * 16777216 % 4294967296) = y + x * 16777216 := by
  rw [show x % 4294967296 * 16777216 % 4294967296 = x * 16777216 by omega]
  exact u32_or24 _ _ hy.1 hy.2 (by omega) (by omega) (by omega)
theorem ret_ue {a b c d : Int} (h : a = b) (h2 : c = d) : Ending.returned (.tuple #[.int .u32 a, .int .i64 c]) = .returned (.tuple #[.int .u32 b, .int .i64 d]) := by rw [h, h2]

section
variable {w : World} {mb : Nat} {F : Nat → Prop} {N : Nat} {S : MS} {L : Lay}
theorem Load_no (h : OwnL w mb F N S L) (a size need : Int) (ha : U4 a) (hn : S.ask a size need ≠ 0) :
    Calls Tryd.prog 31 #[.pointer (some ⟨mb, 0, none⟩), .int .u32 a, .int .i64 size, .int .i64 need] w fun e w' => e = .returned (.tuple #[.int .u32 0, .int .i64 (S.ask a size need)]) ∧ w' = w := by
  have hc := cell_c h a size need ha
  have hn' : (S.ask a size need == 0) = false := by simpa using hn
  go_enter Tryd.func31, Tryd.ntmps31
  go_wp2_with fail
  refine hc.mono ?_
  rintro e w1 ⟨rfl, rfl⟩
  clear hc
  go_wp2
  go_returns
  exact ⟨rfl, rfl⟩
theorem ask_zero {a size need : Int} (hn : S.ask a size need = 0) : (size = 1 ∨ size = 2 ∨ size = 4) ∧ a % size = 0 ∧ ∃ p, S.pg (a / 256) = some p ∧ (bits .and .i64 p.perm need == need) = true := by
  unfold MS.ask at hn
  split at hn
  · rename_i hc
    refine ⟨hc.1, hc.2, ?_⟩
    cases hp : S.pg (a / 256) with
    | none => simp [hp] at hn
    | some p =>
      refine ⟨p, rfl, ?_⟩
      simp only [hp] at hn
      split at hn
      · assumption
      · omega
  · omega
theorem Load_yes (h : OwnL w mb F N S L) (a size need : Int) (ha : U4 a) (hn : S.ask a size need = 0) :
    Calls Tryd.prog 31 #[.pointer (some ⟨mb, 0, none⟩), .int .u32 a, .int .i64 size, .int .i64 need] w fun e w' => e = .returned (.tuple #[.int .u32 (S.load a size need), .int .i64 0]) ∧ w' = w := by
  obtain ⟨hs, hm, p, hp, _⟩ := ask_zero hn
  obtain ⟨b, hb, hq, hF⟩ := h.pgb hp
  have hc := cell_c h a size need ha
  rw [show S.fnd L a size need = some b by simp [MS.fnd, hn, hb], hn] at hc
  have e0 : S.load a size need = p.val (a % 256).toNat size := by simp [MS.load, hn, hp]
  rw [e0]
  have hk := h.ok.pg _ _ hp
  clear e0 hn hp hb h
  simp only [pv] at hc
  obtain ⟨a0, a1⟩ := ha
  have e1 : (a % 256 + 1).toNat = (a % 256).toNat + 1 := by omega
  have e2 : (a % 256 + 2).toNat = (a % 256).toNat + 2 := by omega
  have e3 : (a % 256 + 3).toNat = (a % 256).toNat + 3 := by omega
  have E1 : Hid _ := e1
  have E2 : Hid _ := e2
  have E3 : Hid _ := e3
  clear e1 e2 e3
  rcases hs with rfl | rfl | rfl
  · have d0 := hq.byt (i := (a % 256).toNat) (by omega)
    go_enter Tryd.func31, Tryd.ntmps31
    go_wp2_with fail
    refine hc.mono ?_
    rintro e w1 ⟨rfl, rfl⟩
    clear hc
    go_wp2
    refine wp_loop_rounds 2 ?_
    iterate 2 (rw [rounds_succ]; go_wp2)
    go_returns
    refine ⟨ret_ue ?_ rfl, rfl⟩
    rw [or1 (hk.byt _)]; simp [Pg.val]
  · have d0 := hq.byt (i := (a % 256).toNat) (by omega)
    have d1 := hq.byt (i := (a % 256 + 1).toNat) (by omega)
    go_enter Tryd.func31, Tryd.ntmps31
    go_wp2_with fail
    refine hc.mono ?_
    rintro e w1 ⟨rfl, rfl⟩
    clear hc
    go_wp2
    refine wp_loop_rounds 3 ?_
    iterate 3 (rw [rounds_succ]; go_wp2)
    go_returns
    refine ⟨ret_ue ?_ rfl, rfl⟩
    have q0 := hk.byt (a % 256).toNat
    have q1 := hk.byt (a % 256 + 1).toNat
    rw [or1 q0, or2 q1 q0, E1.out]; simp [Pg.val]
  · have d0 := hq.byt (i := (a % 256).toNat) (by omega)
    have d1 := hq.byt (i := (a % 256 + 1).toNat) (by omega)
    have d2 := hq.byt (i := (a % 256 + 2).toNat) (by omega)
    have d3 := hq.byt (i := (a % 256 + 3).toNat) (by omega)
    go_enter Tryd.func31, Tryd.ntmps31
    go_wp2_with fail
    refine hc.mono ?_
    rintro e w1 ⟨rfl, rfl⟩
    clear hc
    go_wp2
    refine wp_loop_rounds 5 ?_
    iterate 5 (rw [rounds_succ]; go_wp2)
    go_returns
    refine ⟨ret_ue ?_ rfl, rfl⟩
    have q0 := hk.byt (a % 256).toNat
    have q1 := hk.byt (a % 256 + 1).toNat
    have q2 := hk.byt (a % 256 + 2).toNat
    have q3 := hk.byt (a % 256 + 3).toNat
    rw [or1 q0, or2 q1 q0, or3 q2 (by omega), or4 q3 (by omega), E1.out, E2.out, E3.out]; simp [Pg.val]
theorem Load_c (h : OwnL w mb F N S L) (a size need : Int) (ha : U4 a) :
    Calls Tryd.prog 31 #[.pointer (some ⟨mb, 0, none⟩), .int .u32 a, .int .i64 size, .int .i64 need] w fun e w' => e = .returned (.tuple #[.int .u32 (S.load a size need), .int .i64 (S.ask a size need)]) ∧ w' = w := by
  by_cases hn : S.ask a size need = 0
  · rw [hn]; exact Load_yes h a size need ha hn
  · rw [show S.load a size need = 0 by simp [MS.load, hn]]; exact Load_no h a size need ha hn

theorem Store_no (h : OwnL w mb F N S L) (a size v : Int) (ha : U4 a) (hn : S.ask a size 2 ≠ 0) :
    Calls Tryd.prog 86 #[.pointer (some ⟨mb, 0, none⟩), .int .u32 a, .int .i64 size, .int .u32 v] w fun e w' => e = .returned (.int .i64 (S.ask a size 2)) ∧ w' = w := by
  have hc := cell_c h a size 2 ha
  have hn' : (S.ask a size 2 == 0) = false := by simpa using hn
  go_enter Tryd.func86, Tryd.ntmps86
  go_wp2_with fail
  refine hc.mono ?_
  rintro e w1 ⟨rfl, rfl⟩
  clear hc
  go_wp2
  go_returns
  exact ⟨rfl, rfl⟩
set_option maxHeartbeats 1000000 in
theorem Store_yes (h : OwnL w mb F N S L) (a v : Int) (sz : Nat) (ha : U4 a) (hv : U4 v) (hn : S.ask a sz 2 = 0) :
    Calls Tryd.prog 86 #[.pointer (some ⟨mb, 0, none⟩), .int .u32 a, .int .i64 sz, .int .u32 v] w fun e w' => e = .returned (.int .i64 0) ∧ Fr F w w' ∧ OwnL w' mb F N (S.store a sz v) L ∧ w'.heap.size = w.heap.size := by
  obtain ⟨hs, hm, p, hp, _⟩ := ask_zero hn
  obtain ⟨b, hb, hq, hF⟩ := h.pgb hp
  have hc := cell_c h a sz 2 ha
  rw [show S.fnd L a sz 2 = some b by simp [MS.fnd, hn, hb], hn] at hc
  have e0 : S.store a sz v = { S with pg := upd S.pg (a / 256) (some { p.wrt (a % 256).toNat v sz with gen := (p.gen + 1) % 4294967296 }) } := by simp [MS.store, hn, hp]
  rw [e0]
  have hk := h.ok.pg _ _ hp
  clear e0 hn hp
  simp only [pv] at hc
  obtain ⟨a0, a1⟩ := ha
  obtain ⟨v0, v1⟩ := hv
  have hle : a % 256 + sz ≤ 256 := by rcases hs with hs | hs | hs <;> rw [hs] at hm <;> omega
  have hs4 : sz ≤ 4 := by omega
  go_enter Tryd.func86, Tryd.ntmps86
  go_wp2_with fail
  refine hc.mono ?_
  rintro e w1 ⟨rfl, rfl⟩
  clear hc
  go_wp2
  go_loopw [23] (fun i wr => ∃ k : Nat, k ≤ sz ∧ i = .int .i64 k ∧ IsPg wr b (p.wrt (a % 256).toNat v k) ∧ Fr (fun i => i = b) w1 wr ∧ wr.heap.size = w1.heap.size) (fun i _ => sz - (intOf i).toNat)
  case atStart => exact ⟨0, Nat.zero_le _, rfl, by rw [Pg.wrt_zero]; exact hq, Fr.refl _ _, rfl⟩
  case round =>
    obtain ⟨k, hk1, rfl, hqr, hfr, hsz⟩ := hrel
    by_cases hk0 : k = sz
    · subst hk0
      have hg := hqr.gen
      have hz := hqr.frozen 257
      go_wp2
      go_returns
      have hu : U4 ((p.gen + 1) % 4294967296) := by unfold U4; omega
      have hfin := hqr.setGen ((p.gen + 1) % 4294967296)
      have hfr2 := hfr.setCell (p := ⟨b, 257, none⟩) (.inl rfl) (.int .u32 ((p.gen + 1) % 4294967296))
      refine ⟨rfl, hfr2.mono (fun i _ e => e ▸ hF), ?_, by simpa using hsz⟩
      exact h.setPg hb hfr2.size (fun i hi ne => hfr2.block i (h.lt i hi) ne) hfin (Pg.wrt_ok hk _ _ _ hu)
    have hlt : (k : Int) < (sz : Int) := by omega
    have hk4 : k = 0 ∨ k = 1 ∨ k = 2 ∨ k = 3 := by omega
    clear hk0
    rcases hk4 with hk0 | hk0 | hk0 | hk0
    · subst hk0
      have hd := hqr.byt (i := (a % 256).toNat) (by omega)
      have hz := hqr.frozen ((a % 256).toNat)
      go_wp2
      go_region
      go_wp2
      go_roundw
      case rel =>
        refine ⟨1, by omega, rfl, ?_, ?_, ?_⟩
        · have e1 : ((a % 256).toNat : Nat) = (a % 256).toNat + 0 := by omega
          have hw := hqr.setByt (i := (a % 256).toNat) (by omega) (v / 1 % 256)
          rw [e1, Pg.wrt_succ p _ v _ 0 (by simp)] at hw
          first | exact hw | (simp at hw ⊢; exact hw) | (rw [e1]; simp at hw ⊢; exact hw)
        · exact (hfr.setCell (.inl rfl) _).drew
        · simpa using hsz
      case measure => simp [intOf]; omega
    · subst hk0
      have hd := hqr.byt (i := (a % 256 + 1).toNat) (by omega)
      have hz := hqr.frozen ((a % 256 + 1).toNat)
      go_wp2
      go_region
      go_wp2
      go_roundw
      case rel =>
        refine ⟨2, by omega, rfl, ?_, ?_, ?_⟩
        · have e1 : ((a % 256 + 1).toNat : Nat) = (a % 256).toNat + 1 := by omega
          have hw := hqr.setByt (i := (a % 256 + 1).toNat) (by omega) (v / 256 % 256)
          rw [e1, Pg.wrt_succ p _ v _ 1 (by simp)] at hw
          first | exact hw | (simp at hw ⊢; exact hw) | (rw [e1]; simp at hw ⊢; exact hw)
        · exact (hfr.setCell (.inl rfl) _).drew
        · simpa using hsz
      case measure => simp [intOf]; omega
    · subst hk0
      have hd := hqr.byt (i := (a % 256 + 2).toNat) (by omega)
      have hz := hqr.frozen ((a % 256 + 2).toNat)
      go_wp2
      go_region
      go_wp2
      go_roundw
      case rel =>
        refine ⟨3, by omega, rfl, ?_, ?_, ?_⟩
        · have e1 : ((a % 256 + 2).toNat : Nat) = (a % 256).toNat + 2 := by omega
          have hw := hqr.setByt (i := (a % 256 + 2).toNat) (by omega) (v / 65536 % 256)
          rw [e1, Pg.wrt_succ p _ v _ 2 (by simp)] at hw
          first | exact hw | (simp at hw ⊢; exact hw) | (rw [e1]; simp at hw ⊢; exact hw)
        · exact (hfr.setCell (.inl rfl) _).drew
        · simpa using hsz
      case measure => simp [intOf]; omega
    · subst hk0
      have hd := hqr.byt (i := (a % 256 + 3).toNat) (by omega)
      have hz := hqr.frozen ((a % 256 + 3).toNat)
      go_wp2
      go_region
      go_wp2
      go_roundw
      case rel =>
        refine ⟨4, by omega, rfl, ?_, ?_, ?_⟩
        · have e1 : ((a % 256 + 3).toNat : Nat) = (a % 256).toNat + 3 := by omega
          have hw := hqr.setByt (i := (a % 256 + 3).toNat) (by omega) (v / 16777216)
          rw [e1, Pg.wrt_succ p _ v _ 3 (by simp; omega)] at hw
          first | exact hw | (simp at hw ⊢; exact hw) | (rw [e1]; simp at hw ⊢; exact hw)
        · exact (hfr.setCell (.inl rfl) _).drew
        · simpa using hsz
      case measure => simp [intOf]; omega
theorem Store_c (h : Own w mb F N S) (a size v : Int) (ha : U4 a) (hv : U4 v) :
    Calls Tryd.prog 86 #[.pointer (some ⟨mb, 0, none⟩), .int .u32 a, .int .i64 size, .int .u32 v] w fun e w' => e = .returned (.int .i64 (S.ask a size 2)) ∧ Fr F w w' ∧ Own w' mb F N (S.store a size v) ∧ w'.heap.size = w.heap.size := by
  obtain ⟨L, h⟩ := h
  by_cases hn : S.ask a size 2 = 0
  · rw [hn]
    obtain ⟨hs, _⟩ := ask_zero hn
    obtain ⟨sz, rfl⟩ : ∃ sz : Nat, size = sz := ⟨size.toNat, by omega⟩
    exact (Store_yes h a v sz ha hv hn).mono (fun e w' ⟨h1, h2, h3, h4⟩ => ⟨h1, h2, ⟨L, h3⟩, h4⟩)
  · rw [show S.store a size v = S by simp [MS.store, hn]]
    exact (Store_no h a size v ha hn).mono (fun e w' ⟨h1, h2⟩ => by subst h2; exact ⟨h1, Fr.refl _ _, ⟨L, h⟩, rfl⟩)
end
end Go.Proofs.YtbackacbdfgdoaaDoor
namespace Go.Proofs.YtbackacbdfgdoaaDoor
open Go.ChangeShapes Go.WideShapes Go.ChangeAt Go.RowKit
set_option linter.unusedSimpArgs false
set_option linter.unusedVariables false

theorem cmpNaN_c (x : Int) (w : World) : Calls Tryd.prog 98 #[.int .u32 x] w fun e w' => e = .returned (.bool false) ∧ w' = w := by
  go_enter Tryd.func98, Tryd.ntmps98
  go_wp2
  go_ret
  exact ⟨by simp, rfl⟩
theorem slNaN_c (x : Int) (w : World) : Calls Tryd.prog 96 #[.int .u32 x] w fun e w' => e = .returned (.bool false) ∧ w' = w := by
  go_enter Tryd.func96, Tryd.ntmps96
  go_wp2
  go_ret
  exact ⟨by simp, rfl⟩
theorem less_c (x y : Int) (w : World) : Calls Tryd.prog 95 #[.int .u32 x, .int .u32 y] w fun e w' => e = .returned (.bool (decide (x < y))) ∧ w' = w := by
  go_enter Tryd.func95, Tryd.ntmps95
  go_wp2_with fail
  refine (cmpNaN_c _ _).mono ?_
  rintro e w1 ⟨rfl, rfl⟩
  go_wp2_with fail
  go_ret
  exact ⟨rfl, rfl⟩

/-- Where t would stand. -/
def At (th : List Int) (t : Int) (i : Nat) : Prop := i ≤ th.length ∧ (∀ m, m < i → th[m]?.getD 0 < t) ∧ (∀ m, i ≤ m → m < th.length → t ≤ th[m]?.getD 0)

theorem row_cells {w : World} {v : Value} {th : List Int} (hr : w.ownsRow 0 25 1 v th.length (th.map (Value.int .u32))) :
    (th = [] ∧ v = .slice none 0 0) ∨ ∃ g cap, v = .slice (some ⟨g, 0, none⟩) th.length cap ∧ ∀ m, m < th.length → w.cell? ⟨g, m, none⟩ = some (.int .u32 (th[m]?.getD 0)) := by
  rcases hr.2 with ⟨h1, h2⟩ | ⟨g, cap, cur, h1, _, hg, hc, _, hsz, htk⟩
  · exact .inl ⟨List.length_eq_zero_iff.1 h2, h1⟩
  · refine .inr ⟨g, cap, h1, fun m hm => ?_⟩
    rw [cell_of_row w g m cur _ (0, 0) hg]
    have : (cur.toList.take (th.length * 1))[m]? = (th.map (Value.int .u32))[m]? := by rw [htk]
    rw [List.getElem?_take, if_pos (by omega)] at this
    rw [← Array.getElem?_toList, this]
    simp [hm]

theorem At.uniq {th : List Int} {t : Int} {i j : Nat} (h : At th t i) (k : At th t j) : i = j := by
  obtain ⟨h1, h2, h3⟩ := h
  obtain ⟨k1, k2, k3⟩ := k
  apply Decidable.byContradiction
  intro ne
  rcases Nat.lt_or_gt_of_ne ne with x | x
  · have a := k2 i x
    have b := h3 i (Nat.le_refl _) (by omega)
    omega
  · have a := h2 j x
    have b := k3 j (Nat.le_refl _) (by omega)
    omega
/-- Where t would stand in a rising list. -/
def lb : List Int → Int → Nat
  | [], _ => 0
  | x :: r, t => if x < t then lb r t + 1 else 0
def fl (th : List Int) (t : Int) : Bool := decide (lb th t < th.length) && (th[lb th t]?.getD 0 == t)
theorem At_lb : ∀ {th : List Int} (_ : th.Pairwise (· < ·)) (t : Int), At th t (lb th t)
  | [], _, t => ⟨by simp [lb], by simp [lb], by simp⟩
  | x :: r, h, t => by
    obtain ⟨hx, hr⟩ := List.pairwise_cons.1 h
    obtain ⟨i1, i2, i3⟩ := At_lb hr t
    unfold lb
    split
    · rename_i hlt
      refine ⟨by simp; omega, fun m hm => ?_, fun m h1 h2 => ?_⟩
      · cases m with
        | zero => simpa using hlt
        | succ m => simpa using i2 m (by omega)
      · cases m with
        | zero => omega
        | succ m => simpa using i3 m (by omega) (by simp at h2; omega)
    · rename_i hge
      refine ⟨by simp, fun m hm => by omega, fun m _ h2 => ?_⟩
      cases m with
      | zero => simp; omega
      | succ m =>
        simp at h2
        have := hx r[m] (List.getElem_mem _)
        simp [h2]; omega
theorem rise_lt {th : List Int} (hs : th.Pairwise (· < ·)) {i j : Nat} (h : i < j) (hj : j < th.length) : th[i]?.getD 0 < th[j]?.getD 0 := by
  have := List.pairwise_iff_getElem.1 hs i j (by omega) hj h
  simpa [show i < th.length by omega, hj] using this
set_option maxHeartbeats 1000000 in
theorem BS_c {w : World} {v : Value} {th : List Int} (hr : w.ownsRow 0 25 1 v th.length (th.map (Value.int .u32))) (hl : th.length ≤ 4096) (hs : th.Pairwise (· < ·)) (t : Int) :
    Calls Tryd.prog 79 #[v, .int .u32 t] w fun e w' => e = .returned (.tuple #[.int .i64 (lb th t), .bool (fl th t)]) ∧ w' = w := by
  rcases row_cells hr with ⟨rfl, rfl⟩ | ⟨g, cap, rfl, hc⟩
  · go_enter Tryd.func79, Tryd.ntmps79
    go_wp2
    refine wp_loop_rounds 1 ?_
    rw [rounds_succ]; go_wp2
    go_returns
    exact ⟨rfl, by first | rfl | trivial⟩
  · clear hr
    obtain ⟨n, hn⟩ : ∃ n, n = th.length := ⟨_, rfl⟩
    rw [← hn] at hc hl ⊢
    have HN : Hid _ := hn
    clear hn
    go_enter Tryd.func79, Tryd.ntmps79
    go_wp2
    go_loopw [7, 8] (fun x y wr => ∃ i j : Nat, x = .int .i64 i ∧ y = .int .i64 j ∧ wr = w ∧ i ≤ j ∧ j ≤ n ∧ (∀ m, m < i → th[m]?.getD 0 < t) ∧ (∀ m, j ≤ m → m < n → t ≤ th[m]?.getD 0)) (fun x y _ => (intOf y - intOf x).toNat)
    case atStart => exact ⟨0, n, rfl, rfl, rfl, by omega, by omega, by omega, by omega⟩
    case round =>
      obtain ⟨i, j, rfl, rfl, rfl, hij, hjn, hlo, hhi⟩ := hrel
      have HL : Hid _ := hlo
      have HH : Hid _ := hhi
      clear hlo hhi
      by_cases he : i = j
      · subst he
        have fin : lb th t = i := by
          refine (At_lb hs t).uniq ⟨?_, HL.out, ?_⟩
          · rw [← HN.out]; exact hjn
          · rw [← HN.out]; exact HH.out
        have FIN : Hid (lb th t = i) := fin
        clear fin HL HH
        by_cases hin : i < n
        · have hi1 : (i : Int) < (n : Int) := by omega
          have hd := hc i hin
          by_cases heq : th[i]?.getD 0 = t
          · have heq' : (th[i]?.getD 0 == t) = true := by simpa using heq
            have FX : Hid (fl th t = true) := by show fl th t = true; simp only [fl, FIN.out, ← HN.out, hin, heq']; rfl
            clear heq
            go_wp2_with fail
            go_returns
            rw [FIN.out, FX.out]
            exact ⟨rfl, by first | rfl | trivial⟩
          · have heq' : (th[i]?.getD 0 == t) = false := by simpa using heq
            have FX : Hid (fl th t = false) := by show fl th t = false; simp only [fl, FIN.out, ← HN.out, hin, heq']; rfl
            clear heq
            go_wp2_with fail
            refine (slNaN_c _ _).mono ?_
            rintro e w1 ⟨rfl, rfl⟩
            go_wp2_with fail
            go_returns
            rw [FIN.out, FX.out]
            exact ⟨rfl, by first | rfl | trivial⟩
        · have hi1 : decide ((i : Int) < (n : Int)) = false := by simp; omega
          have FX : Hid (fl th t = false) := by show fl th t = false; simp only [fl, FIN.out, ← HN.out, hin]; rfl
          go_wp2_with fail
          go_returns
          rw [FIN.out, FX.out]
          exact ⟨rfl, by first | rfl | trivial⟩
      · have hlt : (i : Int) < (j : Int) := by omega
        have hd := hc ((i + j) / 2) (by omega)
        go_wp2_with fail
        refine (less_c _ _ _).mono ?_
        rintro e w1 ⟨rfl, rfl⟩
        by_cases hx : th[(i + j) / 2]?.getD 0 < t
        · go_wp2
          go_roundw
          case rel =>
            refine ⟨(i + j) / 2 + 1, j, by simp, rfl, by first | rfl | trivial, by omega, hjn, fun m hm => ?_, HH.out⟩
            by_cases e : m = (i + j) / 2
            · subst e; exact hx
            · exact Int.lt_trans (rise_lt hs (by omega) (by rw [← HN.out]; omega)) hx
          case measure => simp [intOf]; omega
        · go_wp2
          go_roundw
          case rel =>
            refine ⟨i, (i + j) / 2, rfl, by simp, by first | rfl | trivial, by omega, by omega, HL.out, fun m h1 h2 => ?_⟩
            by_cases e : m = (i + j) / 2
            · subst e; omega
            · have := rise_lt hs (show (i + j) / 2 < m by omega) (by rw [← HN.out]; omega); omega
          case measure => simp [intOf]; omega
theorem row_drewN {w : World} {v : Value} {n : Nat} {e : TypeId} {xs : List Value} (hr : w.ownsRow 0 e 1 v n xs) (m : Nat) : (w.drewN m).ownsRow 0 e 1 v n xs := hr
theorem BS_d {w : World} {v : Value} {th : List Int} (hr : w.ownsRow 0 25 1 v th.length (th.map (Value.int .u32))) (hl : th.length ≤ 4096) (hs : th.Pairwise (· < ·)) (t : Int) (m : Nat) :
    Calls Tryd.prog 79 #[v, .int .u32 t] (w.drewN m) fun e w' => e = .returned (.tuple #[.int .i64 (lb th t), .bool (fl th t)]) ∧ w' = w.drewN m :=
  BS_c (w := w.drewN m) (show (w.drewN m).ownsRow 0 25 1 v th.length (th.map (Value.int .u32)) from hr) hl hs t
section
variable {w : World} {mb : Nat} {F : Nat → Prop} {N : Nat} {S : MS} {L : Lay}
theorem among_c (h : OwnL w mb F N S L) (f c : Int) (hf : 0 ≤ f ∧ f ≤ 16777216) (hc : 0 ≤ c ∧ f + c ≤ 16777216) :
    Calls Tryd.prog 54 #[.pointer (some ⟨mb, 0, none⟩), .agg #[.int .u32 f, .int .u32 c]] w fun e w' => e = .returned (.tuple #[.int .i64 (lb S.th f), .int .i64 (lb S.th (f + c))]) ∧ Gr w w' := by
  obtain ⟨f0, f1⟩ := hf
  obtain ⟨c0, c1'⟩ := hc
  have hl : S.th.length ≤ 4096 := by have := h.ok.len; have := h.ok.budget; omega
  have hc1 := (h.gr ((Gr.refl w).alloc #[.int .u32 f, .int .u32 c] 106)).c1
  have hrow := (h.gr ((Gr.refl w).alloc #[.int .u32 f, .int .u32 c] 106)).row
  have hmb : mb < w.heap.size := h.lt _ h.Fm
  have hs := h.ok.rise
  go_enter Tryd.func54, Tryd.ntmps54
  go_wp2_with fail
  go_quiet (first | (go_at_call 79; refine Calls.quiet_of_same (BS_d hrow hl hs _ _)))
  go_wp2_with fail
  go_quiet (first | (go_at_call 79; refine (BS_d hrow hl hs _ _).mono (fun _ _ h => ⟨h.1, _, h.2⟩)))
  go_wp2
  go_returns
  refine ⟨rfl, ?_⟩
  (repeat' (first | (with_reducible assumption) | (with_reducible exact Gr.refl _) | (with_reducible refine Gr.alloc ?_ _ _) | (with_reducible refine Gr.drew ?_) | (with_reducible refine Gr.drewN ?_ _) | (with_reducible refine Gr.setCell ?_ ?_ _) | (with_reducible refine Gr.trans ?_ (by assumption)) | omega | (dsimp only; omega) | (simp; done) | (simp; omega)))
end
end Go.Proofs.YtbackacbdfgdoaaDoor
namespace Go.Proofs.YtbackacbdfgdoaaDoor
open Go.ChangeShapes Go.WideShapes Go.ChangeAt Go.RowKit
set_option linter.unusedSimpArgs false
set_option linter.unusedVariables false

def Pg.fresh (perm gen : Int) : Pg := ⟨fun _ => 0, perm, gen⟩
theorem U4.inc {g : Int} : U4 ((g + 1) % 4294967296) := by unfold U4; omega

theorem zero_page : Tryd.zeroCells123 = ((List.range 256).map (fun _ => Value.int .u8 0) ++ [Value.int .i64 0, Value.int .u32 0]).toArray := by kernel_rfl
theorem fresh_arr (perm gen : Int) : (Tryd.zeroCells123.setIfInBounds 256 (Value.int .i64 perm)).setIfInBounds 257 (Value.int .u32 gen) = (Pg.fresh perm gen).arr := by
  have h0 : Tryd.zeroCells123 = (Pg.fresh 0 0).arr := zero_page
  rw [h0, Pg.set_perm, Pg.set_gen]; rfl

set_option maxRecDepth 100000 in
set_option maxHeartbeats 1000000 in
theorem lay_c {w : World} {mb bp bg N : Nat} {f : Int → Option Nat} {g : Int → Int} (c2 : w.cell? ⟨mb, 2, none⟩ = some (.map (some bp))) (c3 : w.cell? ⟨mb, 3, none⟩ = some (.map (some bg)))
    (hp : PMap w bp N f) (hg : UMap w bg N g) (ne : bp ≠ bg) (hN : N < maxLen) (k perm : Int) (hk : U4 k) :
    Calls Tryd.prog 55 #[.pointer (some ⟨mb, 0, none⟩), .int .u32 k, .int .i64 perm] w fun e w' => e = .returned (.tuple #[]) ∧ ∃ b, w.heap.size ≤ b ∧ b < w'.heap.size ∧
      Fr (fun i => i = bp ∨ i = bg) w w' ∧ PMap w' bp (N + 1) (upd f k (some b)) ∧ UMap w' bg N (upd g k 0) ∧ IsPg w' b (Pg.fresh perm ((g k + 1) % 4294967296)) := by
  have hmb : mb < w.heap.size := World.block_lt_of_cell? w ⟨mb, 2, none⟩ c2
  have hl := hg.look hk
  have hld : (Instr.lookup 102 (.map (some bg)) (.int .u32 k) false).run Tryd.prog w.drew = .ok (.int .u32 (g k)) w.drew := (hg.congr (w' := w.drew) rfl).look hk
  obtain ⟨ar, har⟩ : ∃ ar, ar = (Tryd.zeroCells123.setIfInBounds 256 (Value.int .i64 perm)).setIfInBounds 257 (Value.int .u32 ((g k + 1) % 4294967296)) := ⟨_, rfl⟩
  have e1 : ar = (Pg.fresh perm ((g k + 1) % 4294967296)).arr := by rw [har]; exact fresh_arr _ _
  have gr1 : Gr w (w.alloc (.cells ar 123)).drew := ((Gr.refl w).alloc _ _).drew
  obtain ⟨esp, cp, hbp⟩ := hp.isMapObj
  obtain ⟨esg, cg, hbg⟩ := hg.isMapObj
  have lp : bp < w.heap.size := (Array.getElem?_eq_some_iff.1 hbp).1
  have lg : bg < w.heap.size := (Array.getElem?_eq_some_iff.1 hbg).1
  obtain ⟨w2, hrun, hP2, hT2⟩ := (hp.congr (w' := (w.alloc (.cells ar 123)).drew) (gr1.b.block bp lp)).store hN hk w.heap.size
  have hg2 := hg.congr (w' := w2) ((hT2.grown.block bg (Nat.lt_of_lt_of_le lg gr1.size) (fun e => ne (by cases e; rfl))).trans (gr1.b.block bg lg))
  have hnb : mb ≠ bp := fun e => by subst e; simp [World.cell?, hbp] at c2
  have hng : mb ≠ bg := fun e => by subst e; simp [World.cell?, hbg] at c2
  have c3' : w2.cell? ⟨mb, 3, none⟩ = some (.map (some bg)) := by
    rw [World.cell?_of_block (w := (w.alloc (.cells ar 123)).drew) (a := ⟨mb, 3, none⟩) (hT2.grown.block mb (Nat.lt_of_lt_of_le hmb gr1.size) (fun e => hnb (by cases e; rfl)))]
    exact gr1.keep c3
  have F2 : Fr (fun i => i = bp ∨ i = bg) (w.alloc (.cells ar 123)).drew w2 := mapTurned_fr hT2 _ (.inl rfl)
  have sz2 := hT2.grown.size
  obtain ⟨w3, hdr, hG3, hT3⟩ := hg2.drop hk 0
  rw [har] at hrun
  go_enter Tryd.func55, Tryd.ntmps55
  go_wp2_with fail
  go_region
  go_wp2_with fail
  go_returns
  have F3 : Fr (fun i => i = bp ∨ i = bg) w2 w3 := mapTurned_fr hT3 _ (.inr rfl)
  have F0 : Fr (fun i => i = bp ∨ i = bg) w w3 := ((gr1.fr _).trans F2 (fun _ _ h => h)).trans F3 (fun _ _ h => h)
  obtain ⟨ep3, cp3, hbp2⟩ := hP2.isMapObj
  have lp2 : bp < w2.heap.size := (Array.getElem?_eq_some_iff.1 hbp2).1
  have hnew : (w.alloc (.cells ar 123)).drew.heap[w.heap.size]? = some (.cells ar 123 (0, 0)) := heap_alloc_new w _
  have hsz1 : w.heap.size < (w.alloc (.cells ar 123)).drew.heap.size := by simp
  refine ⟨rfl, w.heap.size, Nat.le_refl _, Nat.lt_of_lt_of_le hsz1 (Nat.le_trans sz2 F3.size), F0, hP2.congr (hT3.grown.block bp lp2 (fun e => ne (by cases e; rfl))), hG3, ?_⟩
  unfold IsPg
  rw [F3.block _ (Nat.lt_of_lt_of_le hsz1 sz2) (by omega), F2.block _ hsz1 (by omega), hnew, e1]
end Go.Proofs.YtbackacbdfgdoaaDoor
