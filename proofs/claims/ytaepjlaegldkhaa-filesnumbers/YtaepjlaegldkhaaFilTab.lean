/- LAYER 11's law FilesNumbers: which numbers are open, as a table. -/
import Derived.Test.YtaepjlaegldkhaaFilOne
namespace Go.Proofs.Ytaepjlaegldkhaa
open Go.ChangeShapes Go.WideShapes Go.ChangeAt Go.RowKit

def Fil.isO (h : Fil.H) : Bool := h.kind != 0
def Fil.tab (op : List Fil.H) : List Value := op.map (fun h => Value.bool (Fil.isO h)) ++ List.replicate 48 (Value.bool false)
def Fil.cnt (op : List Fil.H) : Nat := op.countP Fil.isO
def Fil.sN (op : List Fil.H) : Fil.St := ⟨[⟨⟨#[]⟩, []⟩, ⟨Fil.na, [49]⟩], op, [], [], [], [], [], 0, 0, 0⟩
theorem Fil.tab_len {op : List Fil.H} (h : op.length = 16) : (Fil.tab op).length = 64 := by unfold Fil.tab; simp [h]
theorem Fil.tab_lo {op : List Fil.H} {i : Nat} {h : Fil.H} (hi : op[i]? = some h) : (Fil.tab op)[i]? = some (.bool (Fil.isO h)) := by
  have hl := (List.getElem?_eq_some_iff.1 hi).1
  unfold Fil.tab
  rw [List.getElem?_append_left (by simpa using hl), List.getElem?_map, hi]; rfl
theorem Fil.tab_hi {op : List Fil.H} (h : op.length = 16) {i : Nat} (h1 : 16 ≤ i) (h2 : i < 64) : (Fil.tab op)[i]? = some (.bool false) := by
  unfold Fil.tab
  rw [List.getElem?_append_right (by simp; omega), List.getElem?_replicate, if_pos (by simp; omega)]
theorem Fil.tab_set {op : List Fil.H} {i : Nat} (hi : i < op.length) (x : Fil.H) : (Fil.tab op).set i (.bool (Fil.isO x)) = Fil.tab (op.set i x) := by
  unfold Fil.tab
  rw [List.set_append_left _ _ (by simpa using hi), List.map_set]
theorem Fil.cnt_set {op : List Fil.H} {i : Nat} {h : Fil.H} (hi : op[i]? = some h) (x : Fil.H) : Fil.cnt (op.set i x) = Fil.cnt op - (if Fil.isO h then 1 else 0) + (if Fil.isO x then 1 else 0) := by
  obtain ⟨hl, rfl⟩ := List.getElem?_eq_some_iff.1 hi
  unfold Fil.cnt
  rw [List.countP_set hl]
theorem Fil.cnt_pos {op : List Fil.H} {i : Nat} {h : Fil.H} (hi : op[i]? = some h) (ho : Fil.isO h = true) : 1 ≤ Fil.cnt op := by
  unfold Fil.cnt
  exact List.countP_pos_iff.2 ⟨h, List.mem_of_getElem? hi, ho⟩
theorem Fil.cnt_le (op : List Fil.H) : Fil.cnt op ≤ op.length := List.countP_le_length
theorem Fil.cnt_all {op : List Fil.H} (h : ∀ (i : Nat) x, i < op.length → op[i]? = some x → Fil.isO x = true) : Fil.cnt op = op.length := by
  unfold Fil.cnt
  rw [List.countP_eq_length]
  intro x hx
  obtain ⟨i, hi, rfl⟩ := List.getElem_of_mem hx
  exact h i _ hi (List.getElem?_eq_getElem hi)
theorem Fil.cnt_lt {op : List Fil.H} {i : Nat} {h : Fil.H} (hi : op[i]? = some h) (ho : Fil.isO h = false) : Fil.cnt op < op.length := by
  apply Decidable.byContradiction
  intro hn
  have he : Fil.cnt op = op.length := by have := Fil.cnt_le op; omega
  unfold Fil.cnt at he
  rw [List.countP_eq_length] at he
  have := he h (List.mem_of_getElem? hi)
  rw [ho] at this; simp at this
theorem Fil.find_sN (op : List Fil.H) : Fil.find (Fil.sN op).srcs Fil.na = 1 := by
  unfold Fil.find Fil.sN
  simp [List.findIdx?_cons]
theorem Fil.open_sN {op : List Fil.H} {k : Nat} (h : Fil.free op = some k) : Fil.open (Fil.sN op) Fil.na = ((k : Int), Fil.sN (op.set k ⟨1, 1, 0⟩)) := by
  unfold Fil.open
  rw [Fil.find_sN, if_neg (by decide), show (Fil.sN op).op = op from rfl, h]; rfl
theorem Fil.open_full {op : List Fil.H} (h : Fil.free op = none) : Fil.open (Fil.sN op) Fil.na = (-24, Fil.sN op) := by
  unfold Fil.open
  rw [Fil.find_sN, if_neg (by decide), show (Fil.sN op).op = op from rfl, h]; rfl
theorem Fil.isO_iff (h : Fil.H) : Fil.isO h = true ↔ h.kind ≠ 0 := by unfold Fil.isO; simp
theorem Fil.isO_no (h : Fil.H) : Fil.isO h = false ↔ h.kind = 0 := by unfold Fil.isO; simp
theorem Fil.free_tab {op : List Fil.H} {k : Nat} {x : Fil.H} (hx : op[k]? = some x) (h0 : Fil.isO x = false) (hno : ∀ (i : Nat) y, i < k → op[i]? = some y → Fil.isO y = true) : Fil.free op = some k :=
  idx_hit hx (by have := (Fil.isO_no x).1 h0; simp [this]) (fun i y hi hy => by have := (Fil.isO_iff y).1 (hno i y hi hy); simpa using this)
theorem Fil.free_full {op : List Fil.H} (hno : ∀ (i : Nat) y, i < op.length → op[i]? = some y → Fil.isO y = true) : Fil.free op = none :=
  idx_none (fun i y hi hy => by have := (Fil.isO_iff y).1 (hno i y hi hy); simpa using this)
theorem Fil.close_sN {op : List Fil.H} (hl : op.length = 16) {k : Nat} {x : Fil.H} (hx : op[k]? = some x) (ho : Fil.isO x = true) : Fil.close (Fil.sN op) k = (0, Fil.sN (op.set k Fil.no)) := by
  have hk : k < 16 := by rw [← hl]; exact (List.getElem?_eq_some_iff.1 hx).1
  have hd : Fil.hd (Fil.sN op) (k : Int) = x := by
    unfold Fil.hd
    rw [if_pos (by omega), Int.toNat_natCast, show (Fil.sN op).op = op from rfl, hx]; rfl
  unfold Fil.close
  rw [hd, if_neg ((Fil.isO_iff x).1 ho), Int.toNat_natCast]; rfl
theorem Fil.close_no {op : List Fil.H} (hl : op.length = 16) {k : Nat} (h : ∀ x, op[k]? = some x → Fil.isO x = false) : Fil.close (Fil.sN op) k = (-9, Fil.sN op) := by
  have hd : (Fil.hd (Fil.sN op) (k : Int)).kind = 0 := by
    unfold Fil.hd
    by_cases hk : k < 16
    · rw [if_pos (by omega), Int.toNat_natCast, show (Fil.sN op).op = op from rfl, List.getElem?_eq_getElem (by omega)]
      exact (Fil.isO_no _).1 (h _ (List.getElem?_eq_getElem (by omega)))
    · rw [if_neg (by omega)]; rfl
  unfold Fil.close
  rw [if_pos hd]
/-- A table's box beside open files. -/
structure TabS (W w : World) (fb ob : Nat) (A : Nat → Prop) (op : List Fil.H) : Prop where
  l : LF W w fb A (Fil.sN op)
  t : Box w ob (Fil.tab op)
  n : ¬ A ob
  o : W.heap.size ≤ ob
theorem TabS.step {W w w' : World} {fb ob : Nat} {A : Nat → Prop} {op op' : List Fil.H} (h : TabS W w fb ob A op) (hl : LF W w' fb A (Fil.sN op')) (g : Fz A w w') (hlt : ob < w.heap.size) : LF W w' fb A (Fil.sN op') ∧ Box w' ob (Fil.tab op) := ⟨hl, h.t.blk (g.block ob hlt h.n)⟩
theorem TabS.lt {W w : World} {fb ob : Nat} {A : Nat → Prop} {op : List Fil.H} (h : TabS W w fb ob A op) : ob < w.heap.size := by
  have hl := h.l.f.ok.ln
  have ht := h.t
  have h0 := ht.c 63 _ (Fil.tab_hi (show op.length = 16 from hl) (by omega) (by omega))
  apply Decidable.byContradiction
  intro hn
  have : w.heap[ob]? = none := by simp; omega
  simp [World.cell?, this] at h0
end Go.Proofs.Ytaepjlaegldkhaa
