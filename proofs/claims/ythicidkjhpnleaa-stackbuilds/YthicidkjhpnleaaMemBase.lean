/- MEMORY IN PAGES, AS BLOCKS: the worlds behind a call that writes blocks of its own (Fr), the two maps by their keys, a page's block, and what is owned (Own). -/
import Derived.Test.YthicidkjhpnleaaBase
import Derived.Maps.OwnSet
namespace Go.Proofs.Ythicidkjhpnleaa
open Go.ChangeShapes Go.WideShapes Go.ChangeAt Go.RowKit
open Go.Maps (Keyed IsMap Tidy)

/-- Behind a call that may write the blocks F and makes new ones: the others are as they were. -/
structure Fr (F : Nat → Prop) (w w' : World) : Prop where
  os : w'.os = w.os
  tape : w'.tape = w.tape
  output : w'.output = w.output
  size : w.heap.size ≤ w'.heap.size
  block : ∀ i, i < w.heap.size → ¬ F i → w'.heap[i]? = w.heap[i]?
  frozen : ∀ a, w'.frozen? a = w.frozen? a

theorem Fr.refl (F : Nat → Prop) (w : World) : Fr F w w := ⟨rfl, rfl, rfl, Nat.le_refl _, fun _ _ _ => rfl, fun _ => rfl⟩
theorem Fr.trans {F G : Nat → Prop} {a b c : World} (h : Fr F a b) (k : Fr G b c) (hG : ∀ i, i < a.heap.size → G i → F i) : Fr F a c :=
  ⟨k.os.trans h.os, k.tape.trans h.tape, k.output.trans h.output, Nat.le_trans h.size k.size,
   fun i hi hF => (k.block i (Nat.lt_of_lt_of_le hi h.size) (fun g => hF (hG i hi g))).trans (h.block i hi hF), fun x => (k.frozen x).trans (h.frozen x)⟩
theorem Fr.mono {F G : Nat → Prop} {a b : World} (h : Fr F a b) (hG : ∀ i, i < a.heap.size → F i → G i) : Fr G a b :=
  ⟨h.os, h.tape, h.output, h.size, fun i hi g => h.block i hi (fun f => g (hG i hi f)), h.frozen⟩
theorem Gr.fr {a b : World} (h : Gr a b) (F : Nat → Prop) : Fr F a b := ⟨h.b.os, h.b.tape, h.b.output, h.b.size, fun i hi _ => h.b.block i hi, h.f⟩
theorem Fr.gr {F : Nat → Prop} {a b : World} (h : Fr F a b) (hF : ∀ i, i < a.heap.size → ¬ F i) : Gr a b :=
  ⟨⟨h.os, h.tape, h.output, h.size, fun i hi => h.block i hi (hF i hi)⟩, h.frozen⟩
theorem Fr.drew {F : Nat → Prop} {a w : World} (h : Fr F a w) : Fr F a w.drew := ⟨h.os, h.tape, h.output, h.size, h.block, h.frozen⟩
theorem Fr.drewN {F : Nat → Prop} {a w : World} (h : Fr F a w) (n : Nat) : Fr F a (w.drewN n) := ⟨h.os, h.tape, h.output, h.size, h.block, h.frozen⟩
theorem Fr.cell {F : Nat → Prop} {a w : World} (h : Fr F a w) {p : Addr} (hp : p.block < a.heap.size) (hF : ¬ F p.block) : w.cell? p = a.cell? p := World.cell?_of_block (w := a) (h.block _ hp hF)
theorem Gr.allocMap {a w : World} (h : Gr a w) (es : Array MapEntry) (c : Nat) : Gr a (w.alloc (.map es c)) := by
  refine ⟨h.b.alloc h.b.size _, fun x => ?_⟩
  rw [← h.f x]
  unfold World.frozen?
  by_cases e : x.block < w.heap.size
  · rw [Below.heap_alloc _ _ _ e]
  · have e1 : w.heap[x.block]? = none := by simp; omega
    rw [e1]
    by_cases e2 : x.block = w.heap.size
    · rw [e2, heap_alloc_new]
    · have e3 : (w.alloc (.map es c)).heap[x.block]? = none := by simp; omega
      rw [e3]
theorem mapTurned_fr {w w' : World} {b : Nat} (h : w.mapTurned w' b) (F : Nat → Prop) (hF : F b) : Fr F w w' :=
  ⟨h.grown.os, h.grown.tape, h.grown.output, h.grown.size, fun i hi hn => h.grown.block i hi (fun e => hn (by cases e; exact hF)), h.frozen⟩
theorem Fr.setCell {F : Nat → Prop} {a w : World} (h : Fr F a w) {p : Addr} (hp : F p.block ∨ a.heap.size ≤ p.block) (v : Value) : Fr F a (w.setCell p v) :=
  ⟨h.os, h.tape, h.output, by simpa using h.size, fun i hi hn => by
    rw [Below.heap_setCell _ _ _ _ (fun e => by subst e; rcases hp with hp | hp; exact hn hp; omega)]; exact h.block i hi hn, fun x => (World.frozen?_setCell _ _ _ _).trans (h.frozen x)⟩
theorem Fr.alloc {F : Nat → Prop} {a w : World} (h : Fr F a w) (c : Array Value) (t : TypeId) : Fr F a (w.alloc (.cells c t)) :=
  h.trans ((Gr.refl w).alloc c t |>.fr (fun _ => False)) (fun _ _ h => h.elim)

/-! ### maps keyed by uint32 -/
theorem u32K : Keyed Try.prog 24 := Maps.int_keyed Try.underlying24
theorem u32key {k : Int} (h : (Lit.int .u32 k).wf = true) : keyOf Try.prog 24 (.int .u32 k) = some (.int .u32 k) := Maps.keyOf_int_mk Try.underlying24 h
def U4 (k : Int) : Prop := 0 ≤ k ∧ k < 4294967296
theorem U4.wf {k : Int} (h : U4 k) : (Lit.int .u32 k).wf = true := WalkArith.wf_u32 ⟨h.1, by have := h.2; omega⟩
theorem u4lit (k : Int) : WideAt.IsKeyLit (.int .u32 k) := by simp [WideAt.IsKeyLit]

/-- An element that is a pointer to a whole block reads as the block's number. -/
def ptrElem : Value → Option (DataW Unit × List MemPlace)
  | .pointer none => some (.nil, [])
  | .pointer (some ⟨b, 0, none⟩) => some (.lit (.int .i64 b), [])
  | _ => none
def pv : Option Nat → Value
  | none => .pointer none
  | some b => .pointer (some ⟨b, 0, none⟩)
def pd : Option Nat → DataW Unit
  | none => .nil
  | some b => .lit (.int .i64 b)
theorem ptrElem_mk (o : Option Nat) : ptrElem (pv o) = some (pd o, []) := by cases o <;> rfl
theorem ptrElem_inv {v : Value} {o : Option Nat} {ps : List MemPlace} (h : ptrElem v = some (pd o, ps)) : v = pv o := by
  unfold ptrElem at h
  split at h
  · cases o <;> simp [pd] at h ⊢
    rfl
  · cases o <;> simp [pd] at h ⊢
    · rw [← Int.ofNat_inj.1 h.1]; rfl
  · cases h

/-- Block b is a map that has just the keys of f, and the block's number at each. -/
def PMap (w : World) (b n : Nat) (f : Int → Option Nat) : Prop :=
  ∃ D : DataW Unit, w.ownsMap Try.prog 24 ptrElem b n D ∧ ∀ k, U4 k → Maps.has D (.int .u32 k) = (f k).isSome ∧ D.atKey (.int .u32 k) .nil = pd (f k)
/-- Block b is a map that has g's numbers (0 where none). -/
def UMap (w : World) (b n : Nat) (g : Int → Int) : Prop :=
  ∃ D : DataW Unit, w.ownsMap Try.prog 24 (plainElem Try.prog 24) b n D ∧ ∀ k, U4 k → D.atKey (.int .u32 k) (.lit (.int .u32 0)) = .lit (.int .u32 (g k)) ∧ U4 (g k)

def upd {α : Type} (f : Int → α) (k : Int) (x : α) : Int → α := fun i => if i = k then x else f i
theorem upd_same {α : Type} (f : Int → α) (k : Int) (x : α) : upd f k x k = x := by simp [upd]
theorem upd_other {α : Type} (f : Int → α) {k i : Int} (x : α) (h : i ≠ k) : upd f k x i = f i := by simp [upd, h]

theorem ownsMap_congr {P : Program} {k : TypeId} {R : Value → Option (DataW Unit × List MemPlace)} {w w' : World} {b n : Nat} {D : DataW Unit} (h : w.ownsMap P k R b n D) (e : w'.heap[b]? = w.heap[b]?) : w'.ownsMap P k R b n D := by
  obtain ⟨es, c, hb, r⟩ := h
  exact ⟨es, c, e.trans hb, r⟩
theorem PMap.congr {w w' : World} {b n : Nat} {f : Int → Option Nat} (h : PMap w b n f) (e : w'.heap[b]? = w.heap[b]?) : PMap w' b n f := by
  obtain ⟨D, hD, r⟩ := h; exact ⟨D, ownsMap_congr hD e, r⟩
theorem UMap.congr {w w' : World} {b n : Nat} {f : Int → Int} (h : UMap w b n f) (e : w'.heap[b]? = w.heap[b]?) : UMap w' b n f := by
  obtain ⟨D, hD, r⟩ := h; exact ⟨D, ownsMap_congr hD e, r⟩
theorem PMap.mono {w : World} {b n m : Nat} {f : Int → Option Nat} (h : PMap w b n f) (e : n ≤ m) : PMap w b m f := by
  obtain ⟨D, hD, r⟩ := h; exact ⟨D, hD.mono e, r⟩
theorem UMap.mono {w : World} {b n m : Nat} {f : Int → Int} (h : UMap w b n f) (e : n ≤ m) : UMap w b m f := by
  obtain ⟨D, hD, r⟩ := h; exact ⟨D, hD.mono e, r⟩
theorem PMap.isMapObj {w : World} {b n : Nat} {f : Int → Option Nat} (h : PMap w b n f) : ∃ es c, w.heap[b]? = some (.map es c) := by
  obtain ⟨D, ⟨es, c, hb, _⟩, _⟩ := h; exact ⟨es, c, hb⟩
theorem UMap.isMapObj {w : World} {b n : Nat} {f : Int → Int} (h : UMap w b n f) : ∃ es c, w.heap[b]? = some (.map es c) := by
  obtain ⟨D, ⟨es, c, hb, _⟩, _⟩ := h; exact ⟨es, c, hb⟩

theorem zeroPtr (w : World) : (zeroValue 63).run Try.prog w = .ok (.pointer none) w := by kernel_rfl
theorem zeroU32 (w : World) : (zeroValue 24).run Try.prog w = .ok (.int .u32 0) w := by kernel_rfl

theorem PMap.look {w : World} {b n : Nat} {f : Int → Option Nat} (h : PMap w b n f) {k : Int} (hk : U4 k) :
    (Instr.lookup 57 (.map (some b)) (.int .u32 k) true).run Try.prog w = .ok (.tuple #[pv (f k), .bool (f k).isSome]) w := by
  obtain ⟨D, hD, r⟩ := h
  obtain ⟨v, ps, hrun, hv⟩ := hD.look_ok u32K Try.underlying57 (zeroPtr w) (zd := .nil) (zp := []) rfl (u32key hk.wf)
  rw [(r k hk).2] at hv
  rw [hrun, ptrElem_inv hv, (r k hk).1]
theorem PMap.look1 {w : World} {b n : Nat} {f : Int → Option Nat} (h : PMap w b n f) {k : Int} (hk : U4 k) :
    (Instr.lookup 57 (.map (some b)) (.int .u32 k) false).run Try.prog w = .ok (pv (f k)) w := by
  obtain ⟨D, hD, r⟩ := h
  obtain ⟨v, ps, hrun, hv⟩ := hD.lookup u32K Try.underlying57 (zeroPtr w) (zd := .nil) (zp := []) rfl (u32key hk.wf)
  rw [(r k hk).2] at hv
  rw [hrun, ptrElem_inv hv]
theorem UMap.look {w : World} {b n : Nat} {g : Int → Int} (h : UMap w b n g) {k : Int} (hk : U4 k) :
    (Instr.lookup 58 (.map (some b)) (.int .u32 k) false).run Try.prog w = .ok (.int .u32 (g k)) w := by
  obtain ⟨D, hD, r⟩ := h
  obtain ⟨c, hrun, hat, hwc⟩ := hD.lookup_int u32K Try.underlying58 Try.underlying24 (zeroU32 w) (u32key hk.wf)
  have := (r k hk).1
  rw [hat] at this
  rw [hrun]
  simp at this
  rw [this]
theorem PMap.store {w : World} {b n : Nat} {f : Int → Option Nat} (h : PMap w b n f) (hn : n < maxLen) {k : Int} (hk : U4 k) (o : Nat) :
    ∃ w', (Instr.mapUpdate 57 (.map (some b)) (.int .u32 k) (.pointer (some ⟨o, 0, none⟩))).run Try.prog w = .ok () w' ∧ PMap w' b (n + 1) (upd f k (some o)) ∧ w.mapTurned w' b := by
  obtain ⟨D, hD, r⟩ := h
  obtain ⟨w', hrun, h1, h2⟩ := hD.store u32K Try.underlying57 hn (u32key hk.wf) (ptrElem_mk (some o))
  refine ⟨w', hrun, ⟨_, h1, fun i hi => ?_⟩, h2⟩
  by_cases e : i = k
  · subst e
    rw [upd_same]
    exact ⟨Maps.has_put_same hD.isMap (u4lit _) _, Maps.atKey_put_same hD.isMap (u4lit _) _ _⟩
  · rw [upd_other _ _ e]
    have ne : (Lit.int .u32 i) ≠ .int .u32 k := fun x => e (by injection x)
    exact ⟨(Maps.has_put_other ne _).trans (r i hi).1, (Maps.atKey_put_other ne _ _).trans (r i hi).2⟩
theorem UMap.store {w : World} {b n : Nat} {g : Int → Int} (h : UMap w b n g) (hn : n < maxLen) {k x : Int} (hk : U4 k) (hx : U4 x) :
    ∃ w', (Instr.mapUpdate 58 (.map (some b)) (.int .u32 k) (.int .u32 x)).run Try.prog w = .ok () w' ∧ UMap w' b (n + 1) (upd g k x) ∧ w.mapTurned w' b := by
  obtain ⟨D, hD, r⟩ := h
  obtain ⟨w', hrun, h1, h2⟩ := hD.store u32K Try.underlying58 hn (u32key hk.wf) (plainElem_int Try.underlying24 hx.wf)
  refine ⟨w', hrun, ⟨_, h1, fun i hi => ?_⟩, h2⟩
  by_cases e : i = k
  · subst e
    rw [upd_same]
    exact ⟨Maps.atKey_put_same hD.isMap (u4lit _) _ _, hx⟩
  · rw [upd_other _ _ e]
    have ne : (Lit.int .u32 i) ≠ .int .u32 k := fun x => e (by injection x)
    exact ⟨(Maps.atKey_put_other ne _ _).trans (r i hi).1, (r i hi).2⟩
theorem PMap.drop {w : World} {b n : Nat} {f : Int → Option Nat} (h : PMap w b n f) {k : Int} (hk : U4 k) (ty : TypeId) :
    ∃ w', (Builtin.delete_ #[57, 24] ty #[.map (some b), .int .u32 k]).run Try.prog w = .ok (.tuple #[]) w' ∧ PMap w' b n (upd f k none) ∧ w.mapTurned w' b := by
  obtain ⟨D, hD, r⟩ := h
  obtain ⟨w', hrun, h1, h2⟩ := hD.drop u32K Try.underlying57 (u32key hk.wf) ty
  refine ⟨w', hrun, ⟨_, h1, fun i hi => ?_⟩, h2⟩
  by_cases e : i = k
  · subst e
    rw [upd_same]
    exact ⟨Maps.has_del_same, Maps.atKey_del_same _⟩
  · rw [upd_other _ _ e]
    have ne : (Lit.int .u32 i) ≠ .int .u32 k := fun x => e (by injection x)
    exact ⟨(Maps.has_del_other ne).trans (r i hi).1, (Maps.atKey_del_other ne _).trans (r i hi).2⟩
theorem UMap.drop {w : World} {b n : Nat} {g : Int → Int} (h : UMap w b n g) {k : Int} (hk : U4 k) (ty : TypeId) :
    ∃ w', (Builtin.delete_ #[58, 24] ty #[.map (some b), .int .u32 k]).run Try.prog w = .ok (.tuple #[]) w' ∧ UMap w' b n (upd g k 0) ∧ w.mapTurned w' b := by
  obtain ⟨D, hD, r⟩ := h
  obtain ⟨w', hrun, h1, h2⟩ := hD.drop u32K Try.underlying58 (u32key hk.wf) ty
  refine ⟨w', hrun, ⟨_, h1, fun i hi => ?_⟩, h2⟩
  by_cases e : i = k
  · subst e
    rw [upd_same]
    exact ⟨Maps.atKey_del_same _, by unfold U4; omega⟩
  · rw [upd_other _ _ e]
    have ne : (Lit.int .u32 i) ≠ .int .u32 k := fun x => e (by injection x)
    exact ⟨(Maps.atKey_del_other ne _).trans (r i hi).1, (r i hi).2⟩
theorem PMap.made (w : World) : PMap (w.alloc (.map #[] 0)) w.heap.size 0 (fun _ => none) :=
  ⟨.map [], World.ownsMap_made _ _ _ _, fun _ _ => ⟨rfl, rfl⟩⟩
theorem UMap.made (w : World) : UMap (w.alloc (.map #[] 0)) w.heap.size 0 (fun _ => 0) :=
  ⟨.map [], World.ownsMap_made _ _ _ _, fun _ _ => ⟨rfl, by unfold U4; simp⟩⟩

/-! ### a page, all of it -/
structure Pg where
  byt : Nat → Int
  perm : Int
  gen : Int
def Pg.arr (p : Pg) : Array Value := ((List.range 256).map (fun i => Value.int .u8 (p.byt i)) ++ [Value.int .i64 p.perm, Value.int .u32 p.gen]).toArray
theorem Pg.arr_size (p : Pg) : p.arr.size = 258 := by simp [Pg.arr]
theorem Pg.arr_byt (p : Pg) {i : Nat} (h : i < 256) : p.arr[i]? = some (.int .u8 (p.byt i)) := by
  simp [Pg.arr, List.getElem?_append, h]
theorem Pg.arr_perm (p : Pg) : p.arr[256]? = some (.int .i64 p.perm) := by simp [Pg.arr]
theorem Pg.arr_gen (p : Pg) : p.arr[257]? = some (.int .u32 p.gen) := by simp [Pg.arr]
def Pg.setByt (p : Pg) (i : Nat) (x : Int) : Pg := { p with byt := fun j => if j = i then x else p.byt j }
theorem arr_ext {a : Array Value} {p : Pg} (h : a.size = 258) (h1 : ∀ i, i < 256 → a[i]? = some (.int .u8 (p.byt i))) (h2 : a[256]? = some (.int .i64 p.perm)) (h3 : a[257]? = some (.int .u32 p.gen)) : a = p.arr := by
  apply Array.ext_getElem?
  intro i
  by_cases e : i < 256
  · rw [h1 i e, p.arr_byt e]
  · by_cases e2 : i = 256
    · rw [e2, h2, p.arr_perm]
    · by_cases e3 : i = 257
      · rw [e3, h3, p.arr_gen]
      · have s := p.arr_size
        rw [Array.getElem?_eq_none (by omega), Array.getElem?_eq_none (by omega)]
theorem Pg.set_byt (p : Pg) {i : Nat} (h : i < 256) (x : Int) : p.arr.setIfInBounds i (.int .u8 x) = (p.setByt i x).arr := by
  apply arr_ext
  · simp [p.arr_size]
  · intro j hj
    rw [Array.getElem?_setIfInBounds]
    by_cases e : i = j
    · subst e; simp [p.arr_size, Pg.setByt]; omega
    · rw [if_neg e, p.arr_byt hj]; simp [Pg.setByt, Ne.symm e]
  · rw [Array.getElem?_setIfInBounds, if_neg (by omega), p.arr_perm]; rfl
  · rw [Array.getElem?_setIfInBounds, if_neg (by omega), p.arr_gen]; rfl
theorem Pg.set_perm (p : Pg) (x : Int) : p.arr.setIfInBounds 256 (.int .i64 x) = ({ p with perm := x } : Pg).arr := by
  apply arr_ext
  · simp [p.arr_size]
  · intro j hj
    rw [Array.getElem?_setIfInBounds, if_neg (by omega), p.arr_byt hj]
  · simp [p.arr_size]
  · rw [Array.getElem?_setIfInBounds, if_neg (by omega), p.arr_gen]
theorem Pg.set_gen (p : Pg) (x : Int) : p.arr.setIfInBounds 257 (.int .u32 x) = ({ p with gen := x } : Pg).arr := by
  apply arr_ext
  · simp [p.arr_size]
  · intro j hj
    rw [Array.getElem?_setIfInBounds, if_neg (by omega), p.arr_byt hj]
  · rw [Array.getElem?_setIfInBounds, if_neg (by omega), p.arr_perm]
  · simp [p.arr_size]
/-- Block b is that page. -/
def IsPg (w : World) (b : Nat) (p : Pg) : Prop := w.heap[b]? = some (.cells p.arr 67 (0, 0))
theorem IsPg.byt {w : World} {b : Nat} {p : Pg} (h : IsPg w b p) {i : Nat} (hi : i < 256) : w.cell? ⟨b, i, none⟩ = some (.int .u8 (p.byt i)) := by
  simp [World.cell?, show w.heap[b]? = _ from h, p.arr_byt hi]
theorem IsPg.perm {w : World} {b : Nat} {p : Pg} (h : IsPg w b p) : w.cell? ⟨b, 256, none⟩ = some (.int .i64 p.perm) := by
  simp [World.cell?, show w.heap[b]? = _ from h, p.arr_perm]
theorem IsPg.gen {w : World} {b : Nat} {p : Pg} (h : IsPg w b p) : w.cell? ⟨b, 257, none⟩ = some (.int .u32 p.gen) := by
  simp [World.cell?, show w.heap[b]? = _ from h, p.arr_gen]
theorem IsPg.frozen {w : World} {b : Nat} {p : Pg} (h : IsPg w b p) (i : Nat) : w.frozen? ⟨b, i, none⟩ = false := by
  simp [World.frozen?, show w.heap[b]? = _ from h]
theorem heap_setCell_same {w : World} {b o : Nat} {a : Array Value} {t : TypeId} {z : Nat × Nat} {v : Value} (h : w.heap[b]? = some (.cells a t z)) : (w.setCell ⟨b, o, none⟩ v).heap[b]? = some (.cells (a.setIfInBounds o v) t z) := by
  simp [World.setCell, Array.getElem?_modify, h]
theorem IsPg.setByt {w : World} {b : Nat} {p : Pg} (h : IsPg w b p) {i : Nat} (hi : i < 256) (x : Int) : IsPg (w.setCell ⟨b, i, none⟩ (.int .u8 x)) b (p.setByt i x) := by
  unfold IsPg; rw [heap_setCell_same h, p.set_byt hi]
theorem IsPg.setPerm {w : World} {b : Nat} {p : Pg} (h : IsPg w b p) (x : Int) : IsPg (w.setCell ⟨b, 256, none⟩ (.int .i64 x)) b { p with perm := x } := by
  unfold IsPg; rw [heap_setCell_same h, p.set_perm]
theorem IsPg.setGen {w : World} {b : Nat} {p : Pg} (h : IsPg w b p) (x : Int) : IsPg (w.setCell ⟨b, 257, none⟩ (.int .u32 x)) b { p with gen := x } := by
  unfold IsPg; rw [heap_setCell_same h, p.set_gen]
theorem IsPg.lt {w : World} {b : Nat} {p : Pg} (h : IsPg w b p) : b < w.heap.size := (Array.getElem?_eq_some_iff.1 h).1
structure Pg.Ok (p : Pg) : Prop where
  byt : ∀ i, 0 ≤ p.byt i ∧ p.byt i < 256
  perm : 0 ≤ p.perm ∧ p.perm < 8
  gen : U4 p.gen

/-! ### a memory -/
structure MS where
  budget : Int
  th : List Int
  pg : Int → Option Pg
  gone : Int → Int
structure MS.Ok (S : MS) : Prop where
  budget : 1 ≤ S.budget ∧ S.budget ≤ 4096
  len : (S.th.length : Int) ≤ S.budget
  rise : S.th.Pairwise (· < ·)
  rng : ∀ k ∈ S.th, 0 ≤ k ∧ k < 16777216
  mem : ∀ k, (S.pg k).isSome ↔ k ∈ S.th
  pg : ∀ k p, S.pg k = some p → p.Ok
structure Lay where
  v : Value
  bp : Nat
  bg : Nat
  bk : Int → Option Nat
/-- Block mb is that memory; all its blocks lie in F. -/
structure OwnL (w : World) (mb : Nat) (F : Nat → Prop) (N : Nat) (S : MS) (L : Lay) : Prop where
  top : w.heap[mb]? = some (.cells #[.int .i64 S.budget, L.v, .map (some L.bp), .map (some L.bg)] 60 (0, 0))
  row : w.ownsRow 0 24 1 L.v S.th.length (S.th.map (Value.int .u32))
  pm : PMap w L.bp N L.bk
  gm : UMap w L.bg N S.gone
  ne : L.bp ≠ L.bg
  pgs : ∀ k b, L.bk k = some b → ∃ p, S.pg k = some p ∧ IsPg w b p ∧ F b
  non : ∀ k, L.bk k = none → S.pg k = none
  inj : ∀ k k' b, L.bk k = some b → L.bk k' = some b → k = k'
  Fm : F mb
  Fp : F L.bp
  Fg : F L.bg
  Fv : ∀ g, L.v.ownBlock = some g → F g
  lt : ∀ i, F i → i < w.heap.size
  ok : S.Ok
def Own (w : World) (mb : Nat) (F : Nat → Prop) (N : Nat) (S : MS) : Prop := ∃ L, OwnL w mb F N S L

theorem row_congr {w w' : World} {e : TypeId} {v : Value} {n : Nat} {xs : List Value} (h : w.ownsRow 0 e 1 v n xs) (hb : ∀ g, v.ownBlock = some g → w'.heap[g]? = w.heap[g]?) : w'.ownsRow 0 e 1 v n xs := by
  refine ⟨h.1, ?_⟩
  rcases h.2 with hn | ⟨g, cap, cur, rfl, b0, hg, r⟩
  · exact .inl hn
  · exact .inr ⟨g, cap, cur, rfl, b0, (hb g rfl).trans hg, r⟩
theorem row_obj {w : World} {e : TypeId} {v : Value} {n : Nat} {xs : List Value} (h : w.ownsRow 0 e 1 v n xs) {g : Nat} (hv : v.ownBlock = some g) : ∃ c, w.heap[g]? = some (.cells c e (0, 0)) := by
  rcases h.2 with ⟨rfl, _⟩ | ⟨g', cap, cur, rfl, b0, hg, r⟩
  · simp [Value.ownBlock] at hv
  · simp [Value.ownBlock] at hv; subst hv; exact ⟨cur, hg⟩

section
variable {w w' : World} {mb : Nat} {F G : Nat → Prop} {N : Nat} {S : MS} {L : Lay}
theorem OwnL.congr (h : OwnL w mb F N S L) (hs : w.heap.size ≤ w'.heap.size) (e : ∀ i, F i → w'.heap[i]? = w.heap[i]?) : OwnL w' mb F N S L where
  top := (e _ h.Fm).trans h.top
  row := row_congr h.row (fun g hg => e g (h.Fv g hg))
  pm := h.pm.congr (e _ h.Fp)
  gm := h.gm.congr (e _ h.Fg)
  ne := h.ne
  pgs := fun k b hb => by
    obtain ⟨p, h1, h2, h3⟩ := h.pgs k b hb
    exact ⟨p, h1, (e b h3).trans h2, h3⟩
  non := h.non
  inj := h.inj
  Fm := h.Fm
  Fp := h.Fp
  Fg := h.Fg
  Fv := h.Fv
  lt := fun i hi => Nat.lt_of_lt_of_le (h.lt i hi) hs
  ok := h.ok
theorem OwnL.frame (h : OwnL w mb F N S L) (fr : Fr G w w') (hd : ∀ i, F i → ¬ G i) : OwnL w' mb F N S L :=
  h.congr fr.size (fun i hi => fr.block i (h.lt i hi) (hd i hi))
theorem OwnL.gr (h : OwnL w mb F N S L) (g : Gr w w') : OwnL w' mb F N S L := h.congr g.size (fun i hi => g.b.block i (h.lt i hi))
theorem Own.gr (h : Own w mb F N S) (g : Gr w w') : Own w' mb F N S := by obtain ⟨L, h⟩ := h; exact ⟨L, h.gr g⟩
theorem Own.frame (h : Own w mb F N S) (fr : Fr G w w') (hd : ∀ i, F i → ¬ G i) : Own w' mb F N S := by obtain ⟨L, h⟩ := h; exact ⟨L, h.frame fr hd⟩
theorem OwnL.mono (h : OwnL w mb F N S L) {M : Nat} (hF : ∀ i, F i → G i) (hG : ∀ i, G i → i < w.heap.size) (hN : N ≤ M) : OwnL w mb G M S L where
  top := h.top
  row := h.row
  pm := h.pm.mono hN
  gm := h.gm.mono hN
  ne := h.ne
  pgs := fun k b hb => by
    obtain ⟨p, h1, h2, h3⟩ := h.pgs k b hb
    exact ⟨p, h1, h2, hF _ h3⟩
  non := h.non
  inj := h.inj
  Fm := hF _ h.Fm
  Fp := hF _ h.Fp
  Fg := hF _ h.Fg
  Fv := fun g hg => hF _ (h.Fv g hg)
  lt := hG
  ok := h.ok
theorem Own.ok (h : Own w mb F N S) : S.Ok := by obtain ⟨L, h⟩ := h; exact h.ok
theorem Own.lt (h : Own w mb F N S) : ∀ i, F i → i < w.heap.size := by obtain ⟨L, h⟩ := h; exact h.lt
theorem OwnL.c0 (h : OwnL w mb F N S L) : w.cell? ⟨mb, 0, none⟩ = some (.int .i64 S.budget) := by simp [World.cell?, h.top]
theorem OwnL.c1 (h : OwnL w mb F N S L) : w.cell? ⟨mb, 1, none⟩ = some L.v := by simp [World.cell?, h.top]
theorem OwnL.c2 (h : OwnL w mb F N S L) : w.cell? ⟨mb, 2, none⟩ = some (.map (some L.bp)) := by simp [World.cell?, h.top]
theorem OwnL.c3 (h : OwnL w mb F N S L) : w.cell? ⟨mb, 3, none⟩ = some (.map (some L.bg)) := by simp [World.cell?, h.top]
theorem OwnL.f0 (h : OwnL w mb F N S L) (i : Nat) : w.frozen? ⟨mb, i, none⟩ = false := by simp [World.frozen?, h.top]
theorem OwnL.pgb (h : OwnL w mb F N S L) {k : Int} {p : Pg} (hp : S.pg k = some p) : ∃ b, L.bk k = some b ∧ IsPg w b p ∧ F b := by
  cases hb : L.bk k with
  | none => rw [h.non k hb] at hp; cases hp
  | some b =>
    obtain ⟨p', h1, h2, h3⟩ := h.pgs k b hb
    rw [h1] at hp; cases hp
    exact ⟨b, rfl, h2, h3⟩
theorem OwnL.bnone (h : OwnL w mb F N S L) {k : Int} (hp : S.pg k = none) : L.bk k = none := by
  cases hb : L.bk k with
  | none => rfl
  | some b =>
    obtain ⟨p', h1, h2, h3⟩ := h.pgs k b hb
    rw [h1] at hp; cases hp
/-- One page's block is another page now. -/
theorem OwnL.setPg (h : OwnL w mb F N S L) {k : Int} {b : Nat} {p : Pg} (hb : L.bk k = some b) (hs : w.heap.size ≤ w'.heap.size) (e : ∀ i, F i → i ≠ b → w'.heap[i]? = w.heap[i]?) (hp : IsPg w' b p) (ho : p.Ok) :
    OwnL w' mb F N { S with pg := upd S.pg k (some p) } L := by
  obtain ⟨p0, q1, q2, q3⟩ := h.pgs k b hb
  have nm : mb ≠ b := fun x => by subst x; have := h.top; rw [show w.heap[mb]? = _ from q2] at this; simp at this
  have np : L.bp ≠ b := fun x => by obtain ⟨es, c, hm⟩ := h.pm.isMapObj; rw [x, show w.heap[b]? = _ from q2] at hm; simp at hm
  have ng : L.bg ≠ b := fun x => by obtain ⟨es, c, hm⟩ := h.gm.isMapObj; rw [x, show w.heap[b]? = _ from q2] at hm; simp at hm
  have nv : ∀ g, L.v.ownBlock = some g → g ≠ b := fun g hg x => by obtain ⟨c, hc⟩ := row_obj h.row hg; rw [x, show w.heap[b]? = _ from q2] at hc; simp at hc
  exact {
    top := (e _ h.Fm nm).trans h.top
    row := row_congr h.row (fun g hg => e g (h.Fv g hg) (nv g hg))
    pm := h.pm.congr (e _ h.Fp np)
    gm := h.gm.congr (e _ h.Fg ng)
    ne := h.ne
    pgs := fun k' b' hb' => by
      by_cases x : k' = k
      · subst x
        rw [hb] at hb'; cases hb'
        exact ⟨p, upd_same _ _ _, hp, q3⟩
      · obtain ⟨p', h1, h2, h3⟩ := h.pgs k' b' hb'
        have nb : b' ≠ b := fun y => x (h.inj _ _ b (y ▸ hb') hb)
        exact ⟨p', (upd_other _ _ x).trans h1, (e b' h3 nb).trans h2, h3⟩
    non := fun k' hk' => by
      by_cases x : k' = k
      · subst x; rw [hb] at hk'; cases hk'
      · exact (upd_other _ _ x).trans (h.non k' hk')
    inj := h.inj
    Fm := h.Fm
    Fp := h.Fp
    Fg := h.Fg
    Fv := h.Fv
    lt := fun i hi => Nat.lt_of_lt_of_le (h.lt i hi) hs
    ok := {
      budget := h.ok.budget
      len := h.ok.len
      rise := h.ok.rise
      rng := h.ok.rng
      mem := fun k' => by
        by_cases x : k' = k
        · subst x; rw [← h.ok.mem]; simp [upd_same, q1]
        · rw [← h.ok.mem]; simp [upd_other _ _ x]
      pg := fun k' p' hk' => by
        by_cases x : k' = k
        · subst x; simp only [upd_same] at hk'; cases hk'; exact ho
        · simp only [upd_other _ _ x] at hk'; exact h.ok.pg k' p' hk' } }
end
end Go.Proofs.Ythicidkjhpnleaa
