/- WHAT EVERY LAYER USES: the world behind a call ('Gr': old blocks stand, nothing is frozen anew); endings. · PLAIN MATHEMATICS OF LAYER 1 (numbers of 32 bits): what alu.Do comes to at each kind, as integers; no Go in sight. · THE WALKS OF LAYER 1: each function of package alu comes to the plain value (Alu.val ..), and the world stays as it was. -/
import Derived.Test.YtbackacbdfgdoaaDoorRows
import Derived.WalkKit
import Derived.ProofKit
import Derived.OpenShut
import Derived.Handy
import Derived.Deep.Draws
import Derived.WalkLawsBesides
namespace Go.Proofs.YtbackacbdfgdoaaDoor
open Go.ChangeShapes Go.WideShapes Go.ChangeAt Go.RowKit

/-- Behind a call that makes memory of its own alone: what was there is as it was. -/
structure Gr (w w' : World) : Prop where
  b : Below w.heap.size w w'
  f : ∀ a, w'.frozen? a = w.frozen? a

theorem Gr.refl (w : World) : Gr w w := ⟨Below.refl _ _, fun _ => rfl⟩
theorem Gr.trans {a b c : World} (h : Gr a b) (k : Gr b c) : Gr a c := ⟨h.b.trans (k.b.mono h.b.size), fun x => (k.f x).trans (h.f x)⟩
theorem Gr.alloc {a w : World} (h : Gr a w) (c : Array Value) (t : TypeId) : Gr a (w.alloc (.cells c t)) :=
  ⟨h.b.alloc h.b.size _, fun x => (frozen?_alloc_cells w c t x).trans (h.f x)⟩
theorem Gr.setCell {a w : World} (h : Gr a w) {p : Addr} (hp : a.heap.size ≤ p.block) (v : Value) : Gr a (w.setCell p v) :=
  ⟨h.b.setCell hp v, fun x => (World.frozen?_setCell _ _ _ _).trans (h.f x)⟩
theorem Gr.drew {a w : World} (h : Gr a w) : Gr a w.drew := ⟨h.b.drew, h.f⟩
theorem Gr.of_eq {a w : World} (h : w = a) : Gr a w := h ▸ Gr.refl _
theorem Gr.grown {a w : World} (h : Gr a w) : Grown a w := ⟨h.b.frame _, h.f, h.b.size⟩
theorem Gr.size {a w : World} (h : Gr a w) : a.heap.size ≤ w.heap.size := h.b.size
theorem Gr.cell {a w : World} (h : Gr a w) (b o : Nat) (hb : b < a.heap.size) : w.cell? ⟨b, o, none⟩ = a.cell? ⟨b, o, none⟩ := h.b.cell (p := ⟨b, o, none⟩) hb
theorem Gr.cellA {a w : World} (h : Gr a w) (b o : Nat) (hb : b < a.heap.size) (X : Obj) : (w.alloc X).cell? ⟨b, o, none⟩ = a.cell? ⟨b, o, none⟩ := by
  have h2 : Below a.heap.size a (w.alloc X) := h.b.alloc h.b.size X
  exact h2.cell (p := ⟨b, o, none⟩) hb
theorem Gr.frozenA {a w : World} (h : Gr a w) (b o : Nat) (_ : b < a.heap.size) (c : Array Value) (t : TypeId) : (w.alloc (.cells c t)).frozen? ⟨b, o, none⟩ = a.frozen? ⟨b, o, none⟩ := (frozen?_alloc_cells w c t _).trans (h.f _)
theorem Gr.keep {a w : World} (h : Gr a w) {p : Addr} {v : Value} (hv : a.cell? p = some v) : w.cell? p = some v := by
  have hb : p.block < a.heap.size := by
    apply Decidable.byContradiction
    intro hn
    have : a.heap[p.block]? = none := by simp; omega
    simp [World.cell?, this] at hv
  rw [h.b.cell hb]; exact hv
@[go_sem] theorem setCell_drewN (w : World) (n : Nat) (a : Addr) (v : Value) : (w.drewN n).setCell a v = (w.setCell a v).drewN n := rfl
@[go_sem] theorem alloc_drewN (w : World) (n : Nat) (x : Obj) : (w.drewN n).alloc x = (w.alloc x).drewN n := rfl
theorem Gr.drewN {a w : World} (h : Gr a w) (n : Nat) : Gr a (w.drewN n) := ⟨⟨h.b.os, h.b.tape, h.b.output, h.b.size, h.b.block⟩, h.f⟩
end Go.Proofs.YtbackacbdfgdoaaDoor
namespace Go.Proofs.YtbackacbdfgdoaaDoor.Alu

/-- A number of 32 bits with its sign. -/
def s32 (a : Int) : Int := if a < 2147483648 then a else a - 4294967296

def U32 (a : Int) : Prop := 0 ≤ a ∧ a < 4294967296

/-- 2 to the power of a count from 0 to 31. -/
def pw (b : Int) : Int := 2 ^ (b % 32).toNat

def bx (a b : Int) : Int := ((a.toNat ^^^ b.toNat : Nat) : Int)
def bo (a b : Int) : Int := ((a.toNat ||| b.toNat : Nat) : Int)
def ba (a b : Int) : Int := ((a.toNat &&& b.toNat : Nat) : Int)

/-- What alu.Do answers (nought of another kind). -/
def val (k a b : Int) : Int :=
  if k = 0 then (a + b) % 4294967296
  else if k = 1 then (a - b) % 4294967296
  else if k = 2 then (a * pw b) % 4294967296
  else if k = 3 then (if s32 a < s32 b then 1 else 0)
  else if k = 4 then (if a < b then 1 else 0)
  else if k = 5 then bx a b
  else if k = 6 then a / pw b
  else if k = 7 then (s32 a / pw b) % 4294967296
  else if k = 8 then bo a b
  else if k = 9 then ba a b
  else if k = 10 then (a * b) % 4294967296
  else if k = 11 then (s32 a * s32 b / 4294967296) % 4294967296
  else if k = 12 then (s32 a * b / 4294967296) % 4294967296
  else if k = 13 then a * b / 4294967296
  else if k = 14 then (if b = 0 then 4294967295 else (s32 a).tdiv (s32 b) % 4294967296)
  else if k = 15 then (if b = 0 then 4294967295 else a / b)
  else if k = 16 then (if b = 0 then a else (s32 a).tmod (s32 b) % 4294967296)
  else if k = 17 then (if b = 0 then a else a % b)
  else 0

def num (t : Bool) : Int := if t then 1 else 0
theorem val_0 (a b : Int) : val 0 a b = (a + b) % 4294967296 := by simp [val]
theorem val_1 (a b : Int) : val 1 a b = (a - b) % 4294967296 := by simp [val]
theorem val_2 (a b : Int) : val 2 a b = (a * pw b) % 4294967296 := by simp [val]
theorem val_3 (a b : Int) : val 3 a b = num (decide (s32 a < s32 b)) := by simp [val, num]
theorem val_4 (a b : Int) : val 4 a b = num (decide (a < b)) := by simp [val, num]
theorem val_5 (a b : Int) : val 5 a b = bx a b := by simp [val]
theorem val_6 (a b : Int) : val 6 a b = a / pw b := by simp [val]
theorem val_7 (a b : Int) : val 7 a b = (s32 a / pw b) % 4294967296 := by simp [val]
theorem val_8 (a b : Int) : val 8 a b = bo a b := by simp [val]
theorem val_9 (a b : Int) : val 9 a b = ba a b := by simp [val]
theorem val_10 (a b : Int) : val 10 a b = (a * b) % 4294967296 := by simp [val]
theorem val_11 (a b : Int) : val 11 a b = (s32 a * s32 b / 4294967296) % 4294967296 := by simp [val]
theorem val_12 (a b : Int) : val 12 a b = (s32 a * b / 4294967296) % 4294967296 := by simp [val]
theorem val_13 (a b : Int) : val 13 a b = a * b / 4294967296 := by simp [val]
theorem val_14 (a b : Int) : val 14 a b = (if b = 0 then 4294967295 else (s32 a).tdiv (s32 b) % 4294967296) := by simp [val]
theorem val_15 (a b : Int) : val 15 a b = (if b = 0 then 4294967295 else a / b) := by simp [val]
theorem val_16 (a b : Int) : val 16 a b = (if b = 0 then a else (s32 a).tmod (s32 b) % 4294967296) := by simp [val]
theorem val_17 (a b : Int) : val 17 a b = (if b = 0 then a else a % b) := by simp [val]
theorem val_other (k a b : Int) (h : k < 0 ∨ 17 < k) : val k a b = 0 := by
  unfold val
  repeat rw [if_neg (by omega)]

/-- Is there such a kind? -/
def known (k : Int) : Bool := decide (0 ≤ k ∧ k ≤ 17)
def err (k : Int) : Int := if known k then 0 else 1

theorem s32_bd {a : Int} (h : U32 a) : -2147483648 ≤ s32 a ∧ s32 a ≤ 2147483647 := by
  unfold s32; unfold U32 at h; split <;> omega
theorem s32_eq (a : Int) : s32 a = a ∨ s32 a = a - 4294967296 := by
  unfold s32; split <;> omega
theorem s32_mod {a : Int} (h : U32 a) : s32 a % 4294967296 = a := by
  unfold s32; unfold U32 at h; split <;> omega
theorem s32_zero {a : Int} (h : U32 a) : s32 a = 0 ↔ a = 0 := by
  unfold s32; unfold U32 at h; split <;> omega

theorem mul_bd {x y m n : Int} (h1 : -m ≤ x) (h2 : x ≤ m) (h3 : -n ≤ y) (h4 : y ≤ n) : -(m * n) ≤ x * y ∧ x * y ≤ m * n := by
  have hm : 0 ≤ m := by omega
  have hn : 0 ≤ n := by omega
  have a1 : x.natAbs ≤ m.toNat := by omega
  have a2 : y.natAbs ≤ n.toNat := by omega
  have a3 := Nat.mul_le_mul a1 a2
  rw [← Int.natAbs_mul] at a3
  have a4 : ((m.toNat * n.toNat : Nat) : Int) = m * n := by
    rw [Int.natCast_mul, Int.toNat_of_nonneg hm, Int.toNat_of_nonneg hn]
  omega

theorem ss_bd {a b : Int} (ha : U32 a) (hb : U32 b) : -4611686018427387904 ≤ s32 a * s32 b ∧ s32 a * s32 b ≤ 4611686018427387904 := by
  have h1 := s32_bd ha
  have h2 := s32_bd hb
  have := mul_bd (x := s32 a) (y := s32 b) (m := 2147483648) (n := 2147483648) (by omega) (by omega) (by omega) (by omega)
  omega
theorem su_bd {a b : Int} (ha : U32 a) (hb : U32 b) : -9223372036854775808 ≤ s32 a * b ∧ s32 a * b ≤ 9223372036854775807 := by
  have h1 := s32_bd ha
  unfold U32 at hb
  have := mul_bd (x := s32 a) (y := b) (m := 2147483648) (n := 4294967295) (by omega) (by omega) (by omega) (by omega)
  omega
theorem uu_bd {a b : Int} (ha : U32 a) (hb : U32 b) : 0 ≤ a * b ∧ a * b ≤ 18446744065119617025 := by
  unfold U32 at ha hb
  have := mul_bd (x := a) (y := b) (m := 4294967295) (n := 4294967295) (by omega) (by omega) (by omega) (by omega)
  have h0 := Int.mul_nonneg ha.1 hb.1
  omega

theorem pw_pos (b : Int) : 1 ≤ pw b := by unfold pw; exact Int.pow_pos (by decide)
theorem pw_cases (b : Int) : ∃ n : Nat, n < 32 ∧ pw b = ((2 ^ n : Nat) : Int) := ⟨(b % 32).toNat, by omega, by unfold pw; simp⟩
theorem pw_bd (b : Int) : pw b ≤ 2147483648 := by
  obtain ⟨n, hn, h⟩ := pw_cases b
  have h2 : (2 : Nat) ^ n ≤ 2 ^ 31 := Nat.pow_le_pow_right (by decide) (by omega)
  rw [h]; omega

theorem bx_U32 {a b : Int} (ha : U32 a) (hb : U32 b) : U32 (bx a b) := by
  unfold U32 at *; unfold bx
  have h : a.toNat ^^^ b.toNat < 2 ^ 32 := Nat.xor_lt_two_pow (by omega) (by omega)
  omega
theorem bo_U32 {a b : Int} (ha : U32 a) (hb : U32 b) : U32 (bo a b) := by
  unfold U32 at *; unfold bo
  have h : a.toNat ||| b.toNat < 2 ^ 32 := Nat.or_lt_two_pow (by omega) (by omega)
  omega
theorem ba_U32 {a b : Int} (_ : U32 a) (hb : U32 b) : U32 (ba a b) := by
  unfold U32 at *; unfold ba
  have h : a.toNat &&& b.toNat < 2 ^ 32 := Nat.and_lt_two_pow _ (by omega)
  omega

theorem tdiv_bd {x y : Int} (h1 : -2147483648 ≤ x) (h2 : x ≤ 2147483647) : -2147483648 ≤ x.tdiv y ∧ x.tdiv y ≤ 2147483648 := by
  have h : (x.tdiv y).natAbs ≤ x.natAbs := by rw [Int.natAbs_tdiv]; exact Nat.div_le_self _ _
  omega
theorem tmod_bd {x y : Int} (h1 : -2147483648 ≤ x) (h2 : x ≤ 2147483647) : -2147483648 ≤ x.tmod y ∧ x.tmod y ≤ 2147483647 := by
  have h : (x.tmod y).natAbs ≤ x.natAbs := by rw [Int.natAbs_tmod]; exact Nat.mod_le _ _
  by_cases h0 : 0 ≤ x
  · have := Int.tmod_nonneg y h0; omega
  · have h3 := Int.tmod_nonneg y (show 0 ≤ -x by omega)
    rw [Int.neg_tmod] at h3; omega

theorem ite_U32 {p : Prop} [Decidable p] {x y : Int} (h1 : p → U32 x) (h2 : ¬ p → U32 y) : U32 (if p then x else y) := by
  split
  · exact h1 ‹_›
  · exact h2 ‹_›

theorem val_U32 (k : Int) {a b : Int} (ha : U32 a) (hb : U32 b) : U32 (val k a b) := by
  have m : ∀ x : Int, U32 (x % 4294967296) := fun x => ⟨by omega, by omega⟩
  have h0 : U32 0 := ⟨by omega, by omega⟩
  have h1 : U32 1 := ⟨by omega, by omega⟩
  have hf : U32 4294967295 := ⟨by omega, by omega⟩
  have p := pw_pos b
  have hd : U32 (a / pw b) := by
    unfold U32 at *
    exact ⟨Int.ediv_nonneg ha.1 (by omega), by have := Int.ediv_le_self (b := pw b) ha.1; omega⟩
  have hq : U32 (a / b) := by
    unfold U32 at *
    exact ⟨Int.ediv_nonneg ha.1 (by omega), by have := Int.ediv_le_self (b := b) ha.1; omega⟩
  have hr : b ≠ 0 → U32 (a % b) := fun h => by
    unfold U32 at *
    have := Int.emod_nonneg a h
    have := Int.emod_lt_of_pos a (show 0 < b by omega)
    omega
  have hh : U32 (a * b / 4294967296) := by
    have := uu_bd ha hb
    exact ⟨by omega, by omega⟩
  have hx := bx_U32 ha hb
  have ho := bo_U32 ha hb
  have hn := ba_U32 ha hb
  unfold val
  repeat' (refine ite_U32 (fun _ => ?_) (fun _ => ?_))
  all_goals first | exact m _ | assumption | (refine hr ?_; assumption)
theorem kinds (k : Int) : (k < 0 ∨ 17 < k) ∨ k = 0 ∨ k = 1 ∨ k = 2 ∨ k = 3 ∨ k = 4 ∨ k = 5 ∨ k = 6 ∨ k = 7 ∨ k = 8 ∨ k = 9 ∨ k = 10 ∨ k = 11 ∨ k = 12 ∨ k = 13 ∨ k = 14 ∨ k = 15 ∨ k = 16 ∨ k = 17 := by omega

/-- What alu.Test answers (false of another kind). -/
def tst (k a b : Int) : Bool :=
  if k = 0 then decide (a = b)
  else if k = 1 then decide (a ≠ b)
  else if k = 4 then decide (s32 a < s32 b)
  else if k = 5 then decide (s32 b ≤ s32 a)
  else if k = 6 then decide (a < b)
  else if k = 7 then decide (b ≤ a)
  else false
def tknown (k : Int) : Bool := decide (k = 0 ∨ k = 1 ∨ 4 ≤ k ∧ k ≤ 7)
def terr (k : Int) : Int := if tknown k then 0 else 1
theorem tkinds (k : Int) : (k < 0 ∨ k = 2 ∨ k = 3 ∨ 7 < k) ∨ k = 0 ∨ k = 1 ∨ k = 4 ∨ k = 5 ∨ k = 6 ∨ k = 7 := by omega

/-- What alu.Extend answers. -/
def ext (v bits : Int) : Int :=
  if bits = 8 then (if v % 256 < 128 then v % 256 else v % 256 + 4294967040)
  else if bits = 16 then (if v % 65536 < 32768 then v % 65536 else v % 65536 + 4294901760)
  else v
theorem ext_U32 {v : Int} (bits : Int) (h : U32 v) : U32 (ext v bits) := by
  unfold ext; unfold U32 at *
  repeat' split
  all_goals omega
end Go.Proofs.YtbackacbdfgdoaaDoor.Alu
namespace Go.Proofs.YtbackacbdfgdoaaDoor
open Go.ChangeShapes Go.WideShapes Go.ChangeAt Go.RowKit

theorem ret_int {k : IntKind} {a b : Int} (h : a = b) : Ending.returned (.int k a) = .returned (.int k b) := by rw [h]
theorem ret_bool {a b : Bool} (h : a = b) : Ending.returned (.bool a) = .returned (.bool b) := by rw [h]
theorem ret_ie {k l : IntKind} {a b c d : Int} (h : a = b) (h2 : c = d) : Ending.returned (.tuple #[.int k a, .int l c]) = .returned (.tuple #[.int k b, .int l d]) := by rw [h, h2]
theorem ret_be {l : IntKind} {a b : Bool} {c d : Int} (h : a = b) (h2 : c = d) : Ending.returned (.tuple #[.bool a, .int l c]) = .returned (.tuple #[.bool b, .int l d]) := by rw [h, h2]

theorem and31 {b : Int} (h : Alu.U32 b) : bits .and .u32 b 31 = b % 32 := by
  obtain ⟨h0, h1⟩ := h
  rw [u32_and b 31 h0 h1 (by omega) (by omega)]
  have : b.toNat &&& (31 : Int).toNat = b.toNat % 2 ^ 5 := Nat.and_two_pow_sub_one_eq_mod _ 5
  rw [this]; omega
theorem wrap32_s32 {a : Int} (h : Alu.U32 a) : wrap32 a = Alu.s32 a := by
  unfold Alu.U32 at h; unfold wrap32 Alu.s32; split <;> omega
theorem wrap64_s32 {a : Int} (h : Alu.U32 a) : wrap64 (Alu.s32 a) = Alu.s32 a := by
  have := Alu.s32_bd h; unfold wrap64; omega

theorem places_c (b : Int) (hb : Alu.U32 b) (w : World) :
    Calls Tryd.prog 44 #[.int .u32 b] w fun e w' => e = .returned (.int .u32 (b % 32)) ∧ w' = w := by
  go_enter Tryd.func44, Tryd.ntmps44
  go_wp2
  go_ret
  exact ⟨ret_int (and31 hb), rfl⟩

theorem number_c (t : Bool) (w : World) :
    Calls Tryd.prog 45 #[.bool t] w fun e w' => e = .returned (.int .u32 (Alu.num t)) ∧ w' = w := by
  cases t
  all_goals
    go_enter Tryd.func45, Tryd.ntmps45
    go_wp2
    go_ret
    exact ⟨rfl, rfl⟩

theorem signed_c (a : Int) (ha : Alu.U32 a) (w : World) :
    Calls Tryd.prog 47 #[.int .u32 a] w fun e w' => e = .returned (.int .i64 (Alu.s32 a)) ∧ w' = w := by
  go_enter Tryd.func47, Tryd.ntmps47
  go_wp2
  go_ret
  exact ⟨ret_int (by rw [wrap32_s32 ha, wrap64_s32 ha]), rfl⟩

theorem high_c (p : Int) (w : World) :
    Calls Tryd.prog 46 #[.int .i64 p] w fun e w' => e = .returned (.int .u32 ((p / 4294967296) % 4294967296)) ∧ w' = w := by
  go_enter Tryd.func46, Tryd.ntmps46
  go_wp2
  go_ret
  exact ⟨rfl, rfl⟩

theorem wrap64_tdiv {a b : Int} (ha : Alu.U32 a) : wrap64 ((Alu.s32 a).tdiv b) = (Alu.s32 a).tdiv b := by
  have h := Alu.s32_bd ha
  have := Alu.tdiv_bd (x := Alu.s32 a) (y := b) h.1 h.2
  unfold wrap64; omega
theorem wrap64_tmod {a b : Int} (ha : Alu.U32 a) : wrap64 ((Alu.s32 a).tmod b) = (Alu.s32 a).tmod b := by
  have h := Alu.s32_bd ha
  have := Alu.tmod_bd (x := Alu.s32 a) (y := b) h.1 h.2
  unfold wrap64; omega

set_option maxHeartbeats 400000 in
theorem quoS_c (a b : Int) (ha : Alu.U32 a) (hb : Alu.U32 b) (w : World) :
    Calls Tryd.prog 48 #[.int .u32 a, .int .u32 b] w fun e w' => e = .returned (.int .u32 (Alu.val 14 a b)) ∧ w' = w := by
  by_cases h : b = 0
  · subst h
    go_enter Tryd.func48, Tryd.ntmps48
    go_wp2
    go_ret
    exact ⟨ret_int (by rw [Alu.val_14, if_pos rfl]), rfl⟩
  · have hz : (b == 0) = false := by simpa using h
    have hs : ¬ Alu.s32 b = 0 := by simpa [Alu.s32_zero hb] using h
    go_enter Tryd.func48, Tryd.ntmps48
    go_wp2_with (go_at_call 47; refine (signed_c _ (by assumption) _).mono ?_; rintro e w' ⟨rfl, rfl⟩)
    go_ret
    exact ⟨ret_int (by rw [Alu.val_14, if_neg h, wrap64_tdiv ha]), rfl⟩

set_option maxHeartbeats 400000 in
theorem remS_c (a b : Int) (ha : Alu.U32 a) (hb : Alu.U32 b) (w : World) :
    Calls Tryd.prog 50 #[.int .u32 a, .int .u32 b] w fun e w' => e = .returned (.int .u32 (Alu.val 16 a b)) ∧ w' = w := by
  by_cases h : b = 0
  · subst h
    go_enter Tryd.func50, Tryd.ntmps50
    go_wp2
    go_ret
    exact ⟨ret_int (by rw [Alu.val_16, if_pos rfl]), rfl⟩
  · have hz : (b == 0) = false := by simpa using h
    have hs : ¬ Alu.s32 b = 0 := by simpa [Alu.s32_zero hb] using h
    go_enter Tryd.func50, Tryd.ntmps50
    go_wp2_with (go_at_call 47; refine (signed_c _ (by assumption) _).mono ?_; rintro e w' ⟨rfl, rfl⟩)
    go_ret
    exact ⟨ret_int (by rw [Alu.val_16, if_neg h]), rfl⟩

set_option maxHeartbeats 400000 in
theorem quo_c (a b : Int) (ha : Alu.U32 a) (hb : Alu.U32 b) (w : World) :
    Calls Tryd.prog 49 #[.int .u32 a, .int .u32 b] w fun e w' => e = .returned (.int .u32 (Alu.val 15 a b)) ∧ w' = w := by
  obtain ⟨a0, a1⟩ := ha
  obtain ⟨b0, b1⟩ := hb
  by_cases h : b = 0
  · subst h
    go_enter Tryd.func49, Tryd.ntmps49
    go_wp2
    go_ret
    exact ⟨ret_int (by rw [Alu.val_15, if_pos rfl]), rfl⟩
  · have hz : (b == 0) = false := by simpa using h
    go_enter Tryd.func49, Tryd.ntmps49
    go_wp2
    go_ret
    exact ⟨ret_int (by rw [Alu.val_15, if_neg h]), rfl⟩

set_option maxHeartbeats 400000 in
theorem rem_c (a b : Int) (ha : Alu.U32 a) (hb : Alu.U32 b) (w : World) :
    Calls Tryd.prog 51 #[.int .u32 a, .int .u32 b] w fun e w' => e = .returned (.int .u32 (Alu.val 17 a b)) ∧ w' = w := by
  obtain ⟨a0, a1⟩ := ha
  obtain ⟨b0, b1⟩ := hb
  by_cases h : b = 0
  · subst h
    go_enter Tryd.func51, Tryd.ntmps51
    go_wp2
    go_ret
    exact ⟨ret_int (by rw [Alu.val_17, if_pos rfl]), rfl⟩
  · have hz : (b == 0) = false := by simpa using h
    go_enter Tryd.func51, Tryd.ntmps51
    go_wp2
    go_ret
    exact ⟨ret_int (by rw [Alu.val_17, if_neg h]), rfl⟩

theorem w64_ss {a b : Int} (ha : Alu.U32 a) (hb : Alu.U32 b) : wrap64 (Alu.s32 a * Alu.s32 b) = Alu.s32 a * Alu.s32 b := by
  have := Alu.ss_bd ha hb; unfold wrap64; omega
theorem w64_su {a b : Int} (ha : Alu.U32 a) (hb : Alu.U32 b) : wrap64 (Alu.s32 a * b) = Alu.s32 a * b := by
  have := Alu.su_bd ha hb; unfold wrap64; omega
theorem u64_uu {a b : Int} (ha : Alu.U32 a) (hb : Alu.U32 b) : IntKind.u64.wrap (a * b) = a * b := by
  have := Alu.uu_bd ha hb; rw [IntKind.wrap_u64]; omega
theorem uu_hi {a b : Int} (ha : Alu.U32 a) (hb : Alu.U32 b) : a * b / 4294967296 % 4294967296 = a * b / 4294967296 := by
  have := Alu.uu_bd ha hb; omega
theorem f5 {a b : Int} (ha : Alu.U32 a) (hb : Alu.U32 b) : bits .xor .u32 a b = Alu.val 5 a b := by
  rw [Alu.val_5]; exact u32_xor a b ha.1 ha.2 hb.1 hb.2
theorem f8 {a b : Int} (ha : Alu.U32 a) (hb : Alu.U32 b) : bits .or .u32 a b = Alu.val 8 a b := by
  rw [Alu.val_8]; exact u32_or a b ha.1 ha.2 hb.1 hb.2
theorem f9 {a b : Int} (ha : Alu.U32 a) (hb : Alu.U32 b) : bits .and .u32 a b = Alu.val 9 a b := by
  rw [Alu.val_9]; exact u32_and a b ha.1 ha.2 hb.1 hb.2
theorem f3 {a b : Int} (ha : Alu.U32 a) (hb : Alu.U32 b) : Alu.num (decide (wrap32 a < wrap32 b)) = Alu.val 3 a b := by
  rw [Alu.val_3, wrap32_s32 ha, wrap32_s32 hb]
theorem f7 {a : Int} (b : Int) (ha : Alu.U32 a) : wrap32 a / 2 ^ (b % 32).toNat % 4294967296 = Alu.val 7 a b := by
  rw [Alu.val_7, wrap32_s32 ha]; rfl
theorem f11 {a b : Int} (ha : Alu.U32 a) (hb : Alu.U32 b) : wrap64 (Alu.s32 a * Alu.s32 b) / 4294967296 % 4294967296 = Alu.val 11 a b := by
  rw [Alu.val_11, w64_ss ha hb]
theorem f12 {a b : Int} (ha : Alu.U32 a) (hb : Alu.U32 b) : wrap64 (Alu.s32 a * b) / 4294967296 % 4294967296 = Alu.val 12 a b := by
  rw [Alu.val_12, w64_su ha hb]
theorem f13 {a b : Int} (ha : Alu.U32 a) (hb : Alu.U32 b) : IntKind.u64.wrap (a * b) / 4294967296 % 4294967296 = Alu.val 13 a b := by
  rw [Alu.val_13, u64_uu ha hb, uu_hi ha hb]

set_option maxHeartbeats 2000000 in
theorem Do_c (k a b : Int) (ha : Alu.U32 a) (hb : Alu.U32 b) (w : World) :
    Calls Tryd.prog 22 #[.int .i64 k, .int .u32 a, .int .u32 b] w fun e w' => e = .returned (.tuple #[.int .u32 (Alu.val k a b), .int .i64 (Alu.err k)]) ∧ w' = w := by
  obtain ⟨a0, a1⟩ := id ha
  obtain ⟨b0, b1⟩ := id hb
  have hm0 : 0 ≤ b % 32 := by omega
  have hm1 : b % 32 < 32 := by omega
  rcases Alu.kinds k with h | rfl | rfl | rfl | rfl | rfl | rfl | rfl | rfl | rfl | rfl | rfl | rfl | rfl | rfl | rfl | rfl | rfl | rfl
  · have f : ∀ j : Int, 0 ≤ j → j ≤ 17 → (k == j) = false := fun j _ _ => by simp; omega
    have f0 := f 0 (by omega) (by omega)
    have f1 := f 1 (by omega) (by omega)
    have f2 := f 2 (by omega) (by omega)
    have f3 := f 3 (by omega) (by omega)
    have f4 := f 4 (by omega) (by omega)
    have f5 := f 5 (by omega) (by omega)
    have f6 := f 6 (by omega) (by omega)
    have f7 := f 7 (by omega) (by omega)
    have f8 := f 8 (by omega) (by omega)
    have f9 := f 9 (by omega) (by omega)
    have f10 := f 10 (by omega) (by omega)
    have f11 := f 11 (by omega) (by omega)
    have f12 := f 12 (by omega) (by omega)
    have f13 := f 13 (by omega) (by omega)
    have f14 := f 14 (by omega) (by omega)
    have f15 := f 15 (by omega) (by omega)
    have f16 := f 16 (by omega) (by omega)
    have f17 := f 17 (by omega) (by omega)
    clear f
    go_enter Tryd.func22, Tryd.ntmps22
    go_wp2
    go_ret2
    exact ⟨ret_ie (Alu.val_other k a b h).symm (by simp [Alu.err, Alu.known]; omega), rfl⟩
  all_goals
    go_enter Tryd.func22, Tryd.ntmps22
    go_wp2_with (first
      | (go_at_call 44; refine (places_c _ (by assumption) _).mono ?_; rintro e w' ⟨rfl, rfl⟩)
      | (go_at_call 45; refine (number_c _ _).mono ?_; rintro e w' ⟨rfl, rfl⟩)
      | (go_at_call 47; refine (signed_c _ (by assumption) _).mono ?_; rintro e w' ⟨rfl, rfl⟩)
      | (go_at_call 46; refine (high_c _ _).mono ?_; rintro e w' ⟨rfl, rfl⟩)
      | (go_at_call 48; refine (quoS_c _ _ (by assumption) (by assumption) _).mono ?_; rintro e w' ⟨rfl, rfl⟩)
      | (go_at_call 50; refine (remS_c _ _ (by assumption) (by assumption) _).mono ?_; rintro e w' ⟨rfl, rfl⟩)
      | (go_at_call 49; refine (quo_c _ _ (by assumption) (by assumption) _).mono ?_; rintro e w' ⟨rfl, rfl⟩)
      | (go_at_call 51; refine (rem_c _ _ (by assumption) (by assumption) _).mono ?_; rintro e w' ⟨rfl, rfl⟩))
    go_ret2
    refine ⟨ret_ie (b := Alu.val _ _ _) ?_ (by decide), rfl⟩
    first | rfl | exact (Alu.val_0 a b).symm | exact (Alu.val_1 a b).symm | exact (Alu.val_2 a b).symm | exact f3 ha hb | exact (Alu.val_4 a b).symm | exact f5 ha hb | exact (Alu.val_6 a b).symm | exact f7 b ha | exact f8 ha hb | exact f9 ha hb | exact (Alu.val_10 a b).symm | exact f11 ha hb | exact f12 ha hb | exact f13 ha hb


theorem dec_eq (a b : Int) : (a == b) = decide (a = b) := by rw [Bool.eq_iff_iff]; simp
theorem dec_ne (a b : Int) : (a != b) = decide (a ≠ b) := by rw [Bool.eq_iff_iff]; simp

set_option maxHeartbeats 1000000 in
theorem Test_c (k a b : Int) (ha : Alu.U32 a) (hb : Alu.U32 b) (w : World) :
    Calls Tryd.prog 85 #[.int .i64 k, .int .u32 a, .int .u32 b] w fun e w' => e = .returned (.tuple #[.bool (Alu.tst k a b), .int .i64 (Alu.terr k)]) ∧ w' = w := by
  rcases Alu.tkinds k with h | rfl | rfl | rfl | rfl | rfl | rfl
  · have f : ∀ j : Int, j = 0 ∨ j = 1 ∨ 4 ≤ j ∧ j ≤ 7 → (k == j) = false := fun j _ => by simp; omega
    have f0 := f 0 (by omega)
    have f1 := f 1 (by omega)
    have f4 := f 4 (by omega)
    have f5 := f 5 (by omega)
    have f6 := f 6 (by omega)
    have f7 := f 7 (by omega)
    clear f
    have e1 : Alu.tst k a b = false := by
      unfold Alu.tst
      repeat rw [if_neg (by omega)]
    have e2 : Alu.terr k = 1 := by
      unfold Alu.terr Alu.tknown; rw [if_neg (by simp; omega)]
    have E1 : Hid (Alu.tst k a b = false) := e1
    have E2 : Hid (Alu.terr k = 1) := e2
    clear e1 e2
    go_enter Tryd.func85, Tryd.ntmps85
    go_wp2
    go_ret2
    exact ⟨ret_be E1.out.symm E2.out.symm, rfl⟩
  all_goals
    go_enter Tryd.func85, Tryd.ntmps85
    go_wp2
    go_ret2
    refine ⟨ret_be (b := Alu.tst _ _ _) ?_ (by decide), rfl⟩
    simp [Alu.tst, wrap32_s32 ha, wrap32_s32 hb, dec_eq, dec_ne]

theorem w8 (v : Int) : IntKind.i8.wrap v = (v + 128) % 256 - 128 := by
  simp only [IntKind.wrap, IntKind.bits, IntKind.signed]; simp; split <;> omega
theorem w16 (v : Int) : IntKind.i16.wrap v = (v + 32768) % 65536 - 32768 := by
  simp only [IntKind.wrap, IntKind.bits, IntKind.signed]; simp; split <;> omega

theorem e8 (v : Int) : wrap32 (IntKind.i8.wrap v) % 4294967296 = Alu.ext v 8 := by
  rw [w8]; unfold wrap32 Alu.ext; rw [if_pos rfl]; split <;> omega
theorem e16 (v : Int) : wrap32 (IntKind.i16.wrap v) % 4294967296 = Alu.ext v 16 := by
  rw [w16]; unfold wrap32 Alu.ext; rw [if_neg (by decide), if_pos rfl]; split <;> omega

set_option maxHeartbeats 400000 in
theorem Extend_c (v bs : Int) (hv : Alu.U32 v) (w : World) :
    Calls Tryd.prog 23 #[.int .u32 v, .int .i64 bs] w fun e w' => e = .returned (.int .u32 (Alu.ext v bs)) ∧ w' = w := by
  obtain ⟨h0, h1⟩ := hv
  by_cases h8 : bs = 8
  · subst h8
    go_enter Tryd.func23, Tryd.ntmps23
    go_wp2
    go_ret
    exact ⟨ret_int (e8 v), rfl⟩
  · by_cases h16 : bs = 16
    · subst h16
      go_enter Tryd.func23, Tryd.ntmps23
      go_wp2
      go_ret
      exact ⟨ret_int (e16 v), rfl⟩
    · have f8 : (bs == 8) = false := by simpa using h8
      have f16 : (bs == 16) = false := by simpa using h16
      have E : Hid (Alu.ext v bs = v) := by show _ = _; unfold Alu.ext; rw [if_neg h8, if_neg h16]
      go_enter Tryd.func23, Tryd.ntmps23
      go_wp2
      go_ret
      exact ⟨ret_int E.out.symm, rfl⟩


end Go.Proofs.YtbackacbdfgdoaaDoor
