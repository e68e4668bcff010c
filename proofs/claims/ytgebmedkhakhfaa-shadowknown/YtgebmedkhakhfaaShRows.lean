/- ROWS OF LABELS, PAGE BY PAGE: the iterator's contract. -/
import Derived.Test.YtgebmedkhakhfaaShLay
import Derived.RangeFuncNested
import Derived.RangeFuncBound
import Derived.RangeFuncCalls
import Derived.RangeFuncLeaves
import Derived.Shelf.Abstract
import Derived.Shelf.RegionOpen
import Derived.WalkKit
import Derived.OwnWalkIn
import Derived.TacticsInMore
import Derived.LoopNIn
import Derived.LoopIn
import Derived.Maps.OwnIn
import Derived.Sort.QuietIn
namespace Go.Proofs.Ytgebmedkhakhfaa
open Go.ChangeShapes Go.WideShapes Go.ChangeAt Go.RowKit Go.Shelf
set_option linter.unusedSimpArgs false
set_option linter.unusedVariables false
attribute [local go_sem] Oper.semAt_some
theorem wide_fn (f : FuncId) : Fence.wide.fn f = True := rfl
attribute [local go_sem] wide_fn

/-- Where the row of number k begins, of n labels from address A on. -/
def sk (A : Int) (n k : Nat) : Nat := min n (if k = 0 then 0 else 256 * k - (A % 256).toNat)
/-- How many rows. -/
def rowN (A : Int) (n : Nat) : Nat := if n = 0 then 0 else ((A % 256).toNat + n + 255) / 256
theorem sk_zero (A : Int) (n : Nat) : sk A n 0 = 0 := by simp [sk]
theorem sk_le (A : Int) (n k : Nat) : sk A n k ≤ n := by unfold sk; omega
theorem sk_lt {A : Int} {n k : Nat} : sk A n k < n ↔ k < rowN A n := by
  unfold sk rowN
  split <;> split <;> omega
theorem sk_end {A : Int} {n k : Nat} (h : rowN A n ≤ k) : sk A n k = n := by
  have := sk_le A n k
  have h2 : ¬ sk A n k < n := fun x => by have := sk_lt.1 x; omega
  omega
/-- The row's length: to the page's end, or to the labels'. -/
theorem sk_succ {A : Int} {n k : Nat} (hA : 0 ≤ A) (h : sk A n k < n) : sk A n (k + 1) = sk A n k + min (n - sk A n k) (256 - ((A + sk A n k) % 256).toNat) := by
  unfold sk at *
  split at h <;> rename_i e
  · subst e; simp
  · rw [if_neg e, if_neg (by omega)]; omega
theorem sk_page {A : Int} {n k : Nat} (hA : 0 ≤ A) (h : sk A n k < n) : (A + sk A n k) / 256 = A / 256 + k := by
  unfold sk at *
  split at h <;> rename_i e
  · subst e; simp
  · rw [if_neg e]; omega
theorem rowN_le {A : Int} {n : Nat} : rowN A n ≤ n / 256 + 2 := by
  unfold rowN
  split <;> omega

abbrev Rw (A : Int) (n : Nat) := Fin (rowN A n)
/-- The first k rows. -/
def rowsTo (A : Int) (n k : Nat) : List (Rw A n) := (List.finRange (rowN A n)).take k
theorem rowsTo_succ {A : Int} {n k : Nat} (h : k < rowN A n) : rowsTo A n (k + 1) = rowsTo A n k ++ [⟨k, h⟩] := by
  unfold rowsTo
  rw [List.take_succ_eq_append_getElem (by simpa using h)]
  simp
theorem rowsTo_len {A : Int} {n k : Nat} (h : k ≤ rowN A n) : (rowsTo A n k).length = k := by simp [rowsTo]; omega
theorem rowsTo_all {A : Int} {n : Nat} : rowsTo A n (rowN A n) = List.finRange (rowN A n) := by unfold rowsTo; rw [List.take_of_length_le (by simp)]
def rowEnc (A : Int) (g o n c : Nat) (i : Rw A n) : Array Value := #[.int .u32 (A + sk A n i), .slice (some ⟨g, o + sk A n i, none⟩) (sk A n (i + 1) - sk A n i) (c - sk A n i)]
def sliceLen : Value → Nat
  | .slice _ n _ => n
  | _ => 0

theorem rows_in (n : Nat) (A : Int) (v : Value) (w : World) (q : Option Addr) (len cap : Nat) (hv : v = .slice q len cap) :
    CallsIn Fence.wide n Try.prog 80 #[.int .u32 A, v] w fun e w' => e = .returned (.func (.func 99) #[] #[.pointer (some ⟨w.heap.size, 0, none⟩), .pointer (some ⟨w.heap.size + 1, 0, none⟩)]) ∧
      w' = (w.alloc (.cells #[.int .u32 A] 33)).alloc (.cells #[v] 34) := by
  subst hv
  refine callsIn_of_wp Try.func80 rfl trivial ?_ rfl
  simp only [Try.ntmps80, List.size_toArray, List.length_cons, List.length_nil, Nat.reduceAdd, Nat.reduceSub, Array.replicate_succ, Array.replicate_zero, List.push_toArray, List.append_toArray, List.nil_append, List.cons_append]
  gi_wp2
  go_ret
  exact ⟨rfl, rfl⟩

set_option maxRecDepth 100000 in
set_option maxHeartbeats 2000000 in
theorem rows1_in (n : Nat) (hn : 1 ≤ n) (l : Nat) (A : Int) (hA : U4 A) (Ba Bl g o m len cap : Nat) (hm : (m : Int) = max 0 (min (len : Int) (4294967296 - A))) (hcap : len ≤ cap) (hc9 : cap ≤ 9223372036854775807) (J Jx : List (Rw A m) → World → Prop)
    (hY : ∀ pre x W1, J pre W1 → pre.length < rowN A m → YieldAt Fence.wide (n - 1) Try.prog l (rowEnc A g o m cap x) W1 fun e W' =>
      (e = .returned (.bool true) ∧ J (pre ++ [x]) W' ∧ True) ∨ (e = .returned (.bool false) ∧ Jx (pre ++ [x]) W'))
    (W : World) (hJ : AbidesFrom W.heap.size J) (ha : W.cell? ⟨Ba, 0, none⟩ = some (.int .u32 A)) (hl : W.cell? ⟨Bl, 0, none⟩ = some (.slice (some ⟨g, o, none⟩) len cap)) (h0 : J [] W) :
    CallsIn Fence.wide n Try.prog 99 #[.func (.yield l) #[] #[], .pointer (some ⟨Ba, 0, none⟩), .pointer (some ⟨Bl, 0, none⟩)] W fun e W' => (∃ v, e = .returned v) ∧
      ((∃ xs, xs = List.finRange (rowN A m) ∧ J xs W') ∨ (∃ pre, True ∧ Jx pre W')) := by
  obtain ⟨a0, a1⟩ := hA
  have hml : m ≤ len := by omega
  have hmA : A + m ≤ 4294967296 := by omega
  refine callsIn_of_wp Try.func99 rfl trivial ?_ rfl
  simp only [Try.ntmps99, List.size_toArray, List.length_cons, List.length_nil, Nat.reduceAdd, Nat.reduceSub, Array.replicate_succ, Array.replicate_zero, List.push_toArray, List.append_toArray, List.nil_append, List.cons_append]
  have HR : ∀ wx, Calls Try.prog 78 #[.int .u32 A, .int .i64 len] wx fun e w' => e = .returned (.int .i64 m) ∧ w' = wx := fun wx => by
    rw [hm]; exact reach_c A len ⟨a0, a1⟩ (by omega) (by omega) wx
  have hmc : m ≤ cap := by omega
  clear hm
  have hmx : Try.prog.follows .mixedOrders = true := by kernel_rfl
  gi_wp2
  gi_quiet (first | (refine ⟨trivial, ?_⟩; gi_at_call 78; refine CallsIn.quiet_of_same (callsIn_wide.2 (HR _))) | (gi_at_call 78; refine CallsIn.quiet_of_same (callsIn_wide.2 (HR _))))
  gi_wp2
  gi_loopw [4, 5] (fun x r wr => ∃ (k : Nat) (X : Int) (p : Option Addr), k ≤ rowN A m ∧ x = .int .u32 X ∧ r = .slice p (m - sk A m k) (cap - sk A m k) ∧ 0 ≤ X ∧ X < 4294967296 ∧ (sk A m k < m → X = A + sk A m k ∧ p = some ⟨g, o + sk A m k, none⟩) ∧ J (rowsTo A m k) wr)
    (fun x r _ => sliceLen r)
  case atStart =>
    refine ⟨0, A, some ⟨g, o, none⟩, Nat.zero_le _, rfl, by simp [sk_zero], a0, a1, fun _ => by simp [sk_zero], ?_⟩
    exact hJ [] W _ none h0 ⟨rfl, rfl, rfl, Nat.le_refl _, fun _ _ _ => rfl⟩ (fun r e => by cases e)
  case round =>
    obtain ⟨k, X, p, hk, rfl, rfl, x0, x1, hx, hJs⟩ := hrel
    by_cases hlt : sk A m k < m
    · obtain ⟨rfl, rfl⟩ := hx hlt
      have hkr := sk_lt.1 hlt
      obtain ⟨fn, tmps, assign, body, hy, hR⟩ := hY _ ⟨k, hkr⟩ wr hJs (by rw [rowsTo_len hk]; exact hkr)
      have hs := sk_succ a0 hlt
      simp only [rowEnc] at hy
      obtain ⟨s, hs0⟩ : ∃ s, sk A m k = s := ⟨_, rfl⟩
      obtain ⟨d, hd⟩ : ∃ d : Nat, d = min (m - sk A m k) (256 - ((A + sk A m k) % 256).toNat) := ⟨_, rfl⟩
      rw [← hd] at hs
      rw [hs0] at hs hd hlt x0 x1
      rw [hs, hs0, show s + d - s = d by omega] at hy
      have hp : (0 : Int) < ((m - s : Nat) : Int) := by omega
      have hd2 : min ((m - s : Nat) : Int) (256 - (A + s) % 256) = d := by omega
      have hdc : d ≤ cap - s := by omega
      have hdm : d ≤ m - s := by omega
      have hd0 : 0 < d := by omega
      have hne : ¬ (cap - s = d ∧ s + d < m) := by omega
      have HS : Hid _ := hs
      have HK : Hid _ := hk
      clear hd hs hk hx hY
      rw [hs0]
      gi_wp2
      refine hR.mono ?_
      rintro e W3 (⟨rfl, hJ3, _⟩ | ⟨rfl, hJx3⟩)
      · gi_wp2
        go_roundw
        case rel =>
          refine ⟨k + 1, _, (if cap - s = d then some ⟨g, o + s, none⟩ else some ⟨g, o + s + d, none⟩), hkr, rfl, ?_, by omega, by omega, fun x => ?_, by rw [rowsTo_succ hkr]; exact hJ3⟩
          · rw [HS.out, Nat.sub_sub, Nat.sub_sub]
          · rw [HS.out] at x ⊢
            refine ⟨by omega, ?_⟩
            rw [if_neg (by omega), Nat.add_assoc]
        case measure => show m - s - d < m - s; omega
      · gi_wp2
        refine bodyPost_ret (results_none rfl _ _ _) rfl ?_
        exact ⟨⟨_, rfl⟩, .inr ⟨_, trivial, hJx3⟩⟩
    · gi_wp2
      go_end0
      have hk2 : k = rowN A m := by
        have : ¬ k < rowN A m := fun x => hlt (sk_lt.2 x)
        omega
      subst hk2
      rw [rowsTo_all] at hJs
      exact ⟨⟨_, rfl⟩, .inl ⟨_, rfl, hJs⟩⟩

set_option maxRecDepth 100000 in
set_option maxHeartbeats 2000000 in
theorem rows1_nil (n : Nat) (hn : 1 ≤ n) (l : Nat) (A : Int) (hA : U4 A) (Ba Bl cap : Nat) (q : Option Addr) (J : List (Rw A 0) → World → Prop)
    (W : World) (hJ : AbidesFrom W.heap.size J) (ha : W.cell? ⟨Ba, 0, none⟩ = some (.int .u32 A)) (hl : W.cell? ⟨Bl, 0, none⟩ = some (.slice q 0 cap)) (h0 : J [] W) :
    CallsIn Fence.wide n Try.prog 99 #[.func (.yield l) #[] #[], .pointer (some ⟨Ba, 0, none⟩), .pointer (some ⟨Bl, 0, none⟩)] W fun e W' => (∃ v, e = .returned v) ∧ J [] W' := by
  obtain ⟨a0, a1⟩ := hA
  refine callsIn_of_wp Try.func99 rfl trivial ?_ rfl
  simp only [Try.ntmps99, List.size_toArray, List.length_cons, List.length_nil, Nat.reduceAdd, Nat.reduceSub, Array.replicate_succ, Array.replicate_zero, List.push_toArray, List.append_toArray, List.nil_append, List.cons_append]
  have HR : ∀ wx, Calls Try.prog 78 #[.int .u32 A, .int .i64 0] wx fun e w' => e = .returned (.int .i64 0) ∧ w' = wx := fun wx => by
    have := reach_c A 0 ⟨a0, a1⟩ (by omega) (by omega) wx
    rwa [show max 0 (min 0 (4294967296 - A)) = 0 by omega] at this
  have hmx : Try.prog.follows .mixedOrders = true := by kernel_rfl
  cases q with
  | none =>
    gi_wp2
    gi_quiet (first | (refine ⟨trivial, ?_⟩; gi_at_call 78; refine CallsIn.quiet_of_same (callsIn_wide.2 (HR _))) | (gi_at_call 78; refine CallsIn.quiet_of_same (callsIn_wide.2 (HR _))))
    gi_wp2
    gi_loopw [5] (fun r wr => sliceLen r = 0 ∧ (∃ p c, r = .slice p 0 c) ∧ J [] wr) (fun _ _ => 0)
    case atStart => exact ⟨rfl, ⟨_, _, rfl⟩, hJ [] W _ none h0 ⟨rfl, rfl, rfl, Nat.le_refl _, fun _ _ _ => rfl⟩ (fun r e => by cases e)⟩
    case round =>
      obtain ⟨_, ⟨p, c, rfl⟩, hJs⟩ := hrel
      gi_wp2
      go_end0
      exact ⟨⟨_, rfl⟩, hJs⟩
  | some q =>
    gi_wp2
    gi_quiet (first | (refine ⟨trivial, ?_⟩; gi_at_call 78; refine CallsIn.quiet_of_same (callsIn_wide.2 (HR _))) | (gi_at_call 78; refine CallsIn.quiet_of_same (callsIn_wide.2 (HR _))))
    gi_wp2
    gi_loopw [5] (fun r wr => sliceLen r = 0 ∧ (∃ p c, r = .slice p 0 c) ∧ J [] wr) (fun _ _ => 0)
    case atStart => exact ⟨rfl, ⟨_, _, rfl⟩, hJ [] W _ none h0 ⟨rfl, rfl, rfl, Nat.le_refl _, fun _ _ _ => rfl⟩ (fun r e => by cases e)⟩
    case round =>
      obtain ⟨_, ⟨p, c, rfl⟩, hJs⟩ := hrel
      gi_wp2
      go_end0
      exact ⟨⟨_, rfl⟩, hJs⟩

/-- The iterator's value, in the world behind rows. -/
theorem rows_stops (n : Nat) (hn : 1 ≤ n) (A : Int) (hA : U4 A) (Ba Bl g o m len cap : Nat) (hm : (m : Int) = max 0 (min (len : Int) (4294967296 - A))) (hcap : len ≤ cap) (hc9 : cap ≤ 9223372036854775807)
    (w : World) (hBa : Ba < w.heap.size) (hBl : Bl < w.heap.size) (ha : w.cell? ⟨Ba, 0, none⟩ = some (.int .u32 A)) (hl : w.cell? ⟨Bl, 0, none⟩ = some (.slice (some ⟨g, o, none⟩) len cap)) :
    SeqStopsK Fence.wide n Try.prog 99 #[.pointer (some ⟨Ba, 0, none⟩), .pointer (some ⟨Bl, 0, none⟩)] (rowEnc A g o m cap) (fun _ _ => True) (fun xs => xs = List.finRange (rowN A m)) (fun _ => True) (rowN A m) w :=
  fun l J Jx W hW hJ _ hY h0 => rows1_in n hn l A hA Ba Bl g o m len cap hm hcap hc9 J Jx hY W hJ ((hW.cell (p := ⟨Ba, 0, none⟩) hBa).trans ha) ((hW.cell (p := ⟨Bl, 0, none⟩) hBl).trans hl) h0
theorem rows_stops0 (n : Nat) (hn : 1 ≤ n) (A : Int) (hA : U4 A) (Ba Bl cap : Nat) (q : Option Addr)
    (w : World) (hBa : Ba < w.heap.size) (hBl : Bl < w.heap.size) (ha : w.cell? ⟨Ba, 0, none⟩ = some (.int .u32 A)) (hl : w.cell? ⟨Bl, 0, none⟩ = some (.slice q 0 cap)) (g o : Nat) :
    SeqStopsK Fence.wide n Try.prog 99 #[.pointer (some ⟨Ba, 0, none⟩), .pointer (some ⟨Bl, 0, none⟩)] (rowEnc A g o 0 cap) (fun _ _ => True) (fun xs => xs = List.finRange (rowN A 0)) (fun _ => True) (rowN A 0) w :=
  fun l J Jx W hW hJ _ hY h0 => (rows1_nil n hn l A hA Ba Bl cap q J W hJ ((hW.cell (p := ⟨Ba, 0, none⟩) hBa).trans ha) ((hW.cell (p := ⟨Bl, 0, none⟩) hBl).trans hl) h0).mono
    fun e W' ⟨he, hj⟩ => ⟨he, .inl ⟨_, rfl, hj⟩⟩
end Go.Proofs.Ytgebmedkhakhfaa
