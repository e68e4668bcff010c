/- THE WALKS OF LAYER 4: the small ones. -/
import Derived.Test.YtgebmedkhakhfaaShBase
import Derived.Shelf.Bytes.SlCountOne
import Derived.RegionTactic
import Derived.BigRegion
import Derived.Deep.QuietTactic
import Derived.BigQuiet
import Derived.Deep.RegionHeld3
namespace Go.Proofs.Ytgebmedkhakhfaa
open Go.ChangeShapes Go.WideShapes Go.ChangeAt Go.RowKit
set_option linter.unusedSimpArgs false
set_option linter.unusedVariables false

theorem SNew_c (n : Int) (h1 : 0 ≤ n) (h2 : n ≤ 4096) (w : World) :
    Calls Try.prog 37 #[.int .i64 n] w fun e w' => e = .returned (.tuple #[.pointer (some ⟨w.heap.size + 1, 0, none⟩), .int .i64 0]) ∧ Below w.heap.size w w' ∧
      ShL w' (w.heap.size + 1) (fun i => i = w.heap.size ∨ i = w.heap.size + 1) 0 ⟨n, fun _ => 0⟩ ⟨w.heap.size, fun _ => none, []⟩ := by
  have hmm := @run_makeMap Try.prog
  go_enter Try.func37, Try.ntmps37
  go_wp2
  go_returns
  refine ⟨rfl, ((Below.refl _ w).alloc (Nat.le_refl _) _).alloc (by simp) _, ?_⟩
  exact {
    top := by
      have := heap_alloc_new (w.alloc (.map #[] 0)) (.cells #[.int .i64 n, .map (some w.heap.size)] 125)
      rw [show (w.alloc (.map #[] 0)).heap.size = w.heap.size + 1 by simp] at this
      exact this
    pm := (SMap.made w).congr (Below.heap_alloc _ _ _ (by simp))
    pgs := fun k b h => by cases h
    non := fun k _ _ _ => nz_zero.2 (fun _ _ => rfl)
    inj := fun k k' b h => by cases h
    nd := by simp
    mem := by simp
    Fm := .inr rfl
    Fp := .inl rfl
    lt := fun i h => by simp; omega
    bud := ⟨h1, h2⟩
    rng := fun a => by simp }
theorem reach_c (a n : Int) (ha : U4 a) (h0 : -9223372036854775808 ≤ n) (h1 : n ≤ 9223372036854775807) (w : World) :
    Calls Try.prog 78 #[.int .u32 a, .int .i64 n] w fun e w' => e = .returned (.int .i64 (max 0 (min n (4294967296 - a)))) ∧ w' = w := by
  obtain ⟨a0, a1⟩ := ha
  go_enter Try.func78, Try.ntmps78
  go_wp2
  go_ret
  exact ⟨rfl, rfl⟩
theorem sizeOf_c (n : Int) (w : World) :
    Calls Try.prog 82 #[.int .i64 n] w fun e w' => e = .returned (.int .i64 (if n < 0 ∨ 4 < n then 4 else n)) ∧ w' = w := by
  go_enter Try.func82, Try.ntmps82
  go_wp2
  all_goals go_ret
  all_goals exact ⟨rfl, rfl⟩

/-- n bytes lie from place o of block g on. -/
def Bys (w : World) (g o n : Nat) (bs : Nat → Int) : Prop := ∀ i, i < n → w.cell? ⟨g, o + i, none⟩ = some (.int .u8 (bs i)) ∧ 0 ≤ bs i ∧ bs i < 256
theorem Bys.bl {w w' : World} {g o n : Nat} {bs : Nat → Int} (h : Bys w g o n bs) (b : Below w.heap.size w w') : Bys w' g o n bs := fun i hi => ⟨bl_keep b (h i hi).1, (h i hi).2⟩
theorem count_nz (bs : Nat → Int) (n : Nat) (h : ∀ i, i < n → 0 ≤ bs i ∧ bs i < 256) : (Lib.countByte (Lib.bytesOf ((List.range n).map bs)) (0 : Int).toNat.toUInt8 : Int) = (n : Int) - nz bs n := by
  induction n with
  | zero => rfl
  | succ n ih =>
    have h1 := ih (fun i hi => h i (by omega))
    have hb := h n (by omega)
    rw [List.range_succ, List.map_append]
    simp only [Lib.countByte, Lib.bytesOf, List.map_append, List.map_cons, List.map_nil, List.count_append] at h1 ⊢
    have e1 : List.count ((0 : Int).toNat.toUInt8) [UInt8.ofNat (bs n).toNat] = if bs n = 0 then 1 else 0 := by
      by_cases e : bs n = 0
      · rw [if_pos e, e]; rfl
      · rw [if_neg e, List.count_eq_zero]
        simp only [List.mem_singleton]
        intro x
        have := congrArg UInt8.toNat x
        simp [UInt8.toNat_ofNat'] at this
        omega
    rw [e1]
    simp only [nz]
    split <;> omega
set_option maxRecDepth 100000 in
set_option maxHeartbeats 1000000 in
theorem Count_c {w : World} {g o n c b2 : Nat} {bs : Nat → Int} (h : Bys w g o n bs) (h2 : w.cell? ⟨b2, 0, none⟩ = some (.int .u8 0)) :
    Calls Try.prog 116 #[.slice (some ⟨g, o, none⟩) n c, .slice (some ⟨b2, 0, none⟩) 1 1] w fun e w' => e = .returned (.int .i64 ((n : Int) - nz bs n)) ∧ w' = w := by
  rw [← count_nz bs n (fun i hi => (h i hi).2)]
  have hc : ∀ i, i < n → w.cell? ⟨g, o + i, none⟩ = some (.int .u8 (((List.range n).map bs).getD i 0)) := fun i hi => by
    rw [(h i hi).1]; simp [hi]
  go_enter Try.func116, Try.ntmps116
  go_wp2
  rw [run_callFunc_extern Try.func128 (by kernel_rfl) (by kernel_rfl) (by kernel_rfl) (e := Extern.BytealgCount.count) (by kernel_rfl), Lib.run_countSlice w g o n c ((List.range n).map bs) (by simp) hc 0]
  simp only [Result.andThen]
  rw [Oper.upon_value]
  go_wp2
  go_ret
  exact ⟨rfl, rfl⟩
theorem borne_c {w : World} {g o n c : Nat} {bs : Nat → Int} (h : Bys w g o n bs) (hn : n ≤ 1000000000) :
    Calls Try.prog 110 #[.slice (some ⟨g, o, none⟩) n c] w fun e w' => e = .returned (.int .i64 (nz bs n)) ∧ Below w.heap.size w w' := by
  have h1 : Bys (w.alloc (.cells #[.int .u8 0] 5)) g o n bs := fun i hi => ⟨by
    have := (h i hi).1
    exact ((Gr.refl w).alloc _ _).keep this, (h i hi).2⟩
  have hz := nz_le bs n
  go_enter Try.func110, Try.ntmps110
  go_wp2_with fail
  refine (Count_c h1 (by simp)).mono ?_
  rintro e w1 ⟨rfl, rfl⟩
  go_wp2
  go_ret
  refine ⟨?_, (Below.refl _ w).alloc (Nat.le_refl _) _⟩
  show Ending.returned (.int .i64 ((n : Int) - ((n : Int) - nz bs n))) = _
  rw [show (n : Int) - ((n : Int) - nz bs n) = nz bs n by omega]

section
variable {w : World} {sb : Nat} {F : Nat → Prop} {N : Nat} {S : SS} {L : SLay}
theorem SAt_c (h : ShL w sb F N S L) (a : Int) (ha : U4 a) :
    Calls Try.prog 43 #[.pointer (some ⟨sb, 0, none⟩), .int .u32 a] w fun e w' => e = .returned (.int .u8 (S.lab a)) ∧ w' = w := by
  have hc1 := h.c1
  have ha' := ha
  obtain ⟨a0, a1⟩ := ha
  have hl := h.pm.look (k := a / 256) ⟨by omega, by omega⟩
  have ea : 256 * (a / 256) + ((a % 256).toNat : Int) = a := by omega
  cases hb : L.bk (a / 256) with
  | none =>
    rw [hb] at hl
    simp only [pv] at hl
    have e0 : S.lab a = 0 := by
      have := nz_zero.1 (h.non _ (by omega) (by omega) hb) (a % 256).toNat (by omega)
      unfold SS.pg at this; rw [ea] at this; exact this
    rw [e0]
    go_enter Try.func43, Try.ntmps43
    go_wp2
    go_ret
    exact ⟨rfl, rfl⟩
  | some b =>
    rw [hb] at hl
    simp only [pv] at hl
    have hq := (h.pgs _ _ hb).2.2.1.lab (i := (a % 256).toNat) (by omega)
    unfold SS.pg at hq; rw [ea] at hq
    go_enter Try.func43, Try.ntmps43
    go_wp2
    go_ret
    exact ⟨rfl, rfl⟩
/-- A page's labels, with n of bs laid in from address a on. -/
def SS.aft (S : SS) (a : Int) (bs : Nat → Int) (n : Nat) : Nat := nz (over (S.pg (a / 256)) (a % 256).toNat bs n) 256
set_option maxRecDepth 100000 in
set_option maxHeartbeats 1000000 in
theorem after_c (h : ShL w sb F N S L) (a : Int) (ha : U4 a) {g o n c : Nat} {bs : Nat → Int} (hb : Bys w g o n bs) (hn : a % 256 + n ≤ 256) :
    Calls Try.prog 98 #[.pointer (some ⟨sb, 0, none⟩), .int .u32 a, .slice (some ⟨g, o, none⟩) n c] w fun e w' => e = .returned (.int .i64 (S.aft a bs n)) ∧ Below w.heap.size w w' := by
  have hc1 := h.c1
  have ha' := ha
  obtain ⟨a0, a1⟩ := ha
  have hl := h.pm.look (k := a / 256) ⟨by omega, by omega⟩
  have hov := nz_over (S.pg (a / 256)) bs (o := (a % 256).toNat) (k := n) (by omega)
  cases hk : L.bk (a / 256) with
  | none =>
    rw [hk] at hl
    simp only [pv] at hl
    have e0 : S.aft a bs n = nz bs n := by
      have z := h.non _ (by omega) (by omega) hk
      have z2 : nz (fun i => S.pg (a / 256) ((a % 256).toNat + i)) n = 0 := nz_zero.2 (fun i hi => nz_zero.1 z _ (by omega))
      unfold SS.aft; omega
    rw [e0]
    go_enter Try.func98, Try.ntmps98
    go_wp2_with fail
    refine (borne_c hb (by omega)).mono ?_
    rintro e w1 ⟨rfl, g1⟩
    go_wp2
    go_ret
    exact ⟨rfl, g1⟩
  | some b =>
    rw [hk] at hl
    simp only [pv] at hl
    have hq := (h.pgs _ _ hk).2.2.1
    have hcn := hq.cnt
    have hb2 : Bys w b (a % 256).toNat n (fun i => S.pg (a / 256) ((a % 256).toNat + i)) := fun i hi => ⟨hq.lab (by omega), h.rng _⟩
    have E0 : (S.aft a bs n : Int) = nz (S.pg (a / 256)) 256 - nz (fun i => S.pg (a / 256) ((a % 256).toNat + i)) n + nz bs n := by unfold SS.aft; omega
    rw [E0]
    go_enter Try.func98, Try.ntmps98
    go_wp2_with fail
    have hz0 := nz_le (S.pg (a / 256)) 256
    have hz1 := nz_le (fun i => S.pg (a / 256) ((a % 256).toNat + i)) n
    have hz2 := nz_le bs n
    have hn' : n ≤ 256 - (a % 256).toNat := by omega
    have htm : a.tmod 256 = a % 256 := Int.tmod_eq_emod_of_nonneg a0
    have hm0 : 0 ≤ a % 256 := by omega
    have hm1 : a % 256 ≤ 256 := by omega
    have hm2 : (a % 256).toNat ≤ 256 := by omega
    have hm3 : ¬ (256 = (a % 256).toNat) := by omega
    have C1 := fun (wx : World) (hx : Below w.heap.size w wx) => borne_c (c := c) (hb.bl hx) (by omega)
    have C2 := fun (wx : World) (hx : Below w.heap.size w wx) => borne_c (c := 256 - (a % 256).toNat) (hb2.bl hx) (by omega)
    go_region_held3 (fun wx => wx.cell? ⟨b, 256, none⟩ = some (.int .i64 (nz (S.pg (a / 256)) 256))) ((refine bl_keep (a := w) ?_ hcn; (repeat' (first | (with_reducible assumption) | (with_reducible exact Below.refl _ _) | (with_reducible refine Below.drew ?_) | (with_reducible refine bl_alloc ?_ _) | (with_reducible refine bl_trans ?_ (by assumption))))))
      (first
      | (go_at_call 110; with_reducible refine (C1 _ (by (repeat' (first | (with_reducible assumption) | (with_reducible exact Below.refl _ _) | (with_reducible refine Below.drew ?_) | (with_reducible refine bl_alloc ?_ _) | (with_reducible refine bl_trans ?_ (by assumption)))))).mono ?_; rintro e wA ⟨rfl, gA⟩)
      | (go_at_call 110; with_reducible refine (C2 _ (by (repeat' (first | (with_reducible assumption) | (with_reducible exact Below.refl _ _) | (with_reducible refine Below.drew ?_) | (with_reducible refine bl_alloc ?_ _) | (with_reducible refine bl_trans ?_ (by assumption)))))).mono ?_; rintro e wA ⟨rfl, gA⟩))
    go_wp2
    go_ret
    refine ⟨?_, by (repeat' (first | (with_reducible assumption) | (with_reducible exact Below.refl _ _) | (with_reducible refine Below.drew ?_) | (with_reducible refine bl_alloc ?_ _) | (with_reducible refine bl_trans ?_ (by assumption))))⟩
    show Ending.returned (.int .i64 (IntKind.i64.wrap (IntKind.i64.wrap ((nz (S.pg (a / 256)) 256 : Int) - nz (fun i => S.pg (a / 256) ((a % 256).toNat + i)) n) + nz bs n))) = _
    rw [IntWalk.i64_in ((nz (S.pg (a / 256)) 256 : Int) - nz (fun i => S.pg (a / 256) ((a % 256).toNat + i)) n) ⟨by omega, by omega⟩, IntWalk.i64_in _ ⟨by omega, by omega⟩]
end
end Go.Proofs.Ytgebmedkhakhfaa
