/- LAYER 7's walks: cutRows. -/
import Derived.Test.YtkffkmiegmaoiaaPolW5
namespace Go.Proofs.Ytkffkmiegmaoiaa
open Go.ChangeShapes Go.WideShapes Go.ChangeAt Go.RowKit

set_option maxHeartbeats 1000000 in
set_option maxRecDepth 100000 in
theorem cutRows_none (w : World) (q : Option Addr) (cap : Nat) (sz : Int) : Calls Try.prog 22 #[.slice q 0 cap, .int .i64 sz] w fun e w' => e = .returned (.tuple #[.slice none 0 0, .slice none 0 0, .bool false]) ∧ w' = w := by
  go_enter Try.func22, Try.ntmps22
  go_wp2_with fail
  go_returns
  exact ⟨rfl, rfl⟩
set_option maxHeartbeats 1000000 in
set_option maxRecDepth 100000 in
theorem cutRows_far (w : World) (b o n cap x sz : Nat) (hx : x < 256) (hs : sz ≤ 10) (hn : 0 < n) (hf : n < 1 + x * sz) (c0 : w.cell? ⟨b, o, none⟩ = some (.int .u8 x)) : Calls Try.prog 22 #[.slice (some ⟨b, o, none⟩) n cap, .int .i64 sz] w fun e w' => e = .returned (.tuple #[.slice none 0 0, .slice none 0 0, .bool false]) ∧ w' = w := by
  have hm : x * sz ≤ 255 * 10 := Nat.mul_le_mul (by omega) hs
  have hmi : ((x : Int) * sz) = ((x * sz : Nat) : Int) := by simp
  have hz : ((n : Int) == 0) = false := by simp; omega
  have hw1 : IntKind.i64.wrap ((x : Int) * sz) = ((x * sz : Nat) : Int) := by rw [IntKind.wrap_i64]; omega
  have hw0 : IntKind.i64.wrap (x : Int) = x := by rw [IntKind.wrap_i64]; omega
  have hni : (0 : Int) < n := by omega
  generalize x * sz = m at *
  have hlt : (n : Int) < 1 + (m : Int) := by omega
  go_enter Try.func22, Try.ntmps22
  go_wp2_with fail
  go_returns
  exact ⟨rfl, rfl⟩
def CutPost (w : World) (b o n cap E : Nat) (e : Ending) (w' : World) : Prop :=
  ∃ q1 q2, e = .returned (.tuple #[.slice q1 (E - 1) (cap - 1), .slice q2 (n - E) (cap - E), .bool true]) ∧ (0 < E - 1 → q1 = some ⟨b, o + 1, none⟩) ∧ (0 < n - E → q2 = some ⟨b, o + E, none⟩) ∧ Bw w w'
theorem cut_mk {w w' : World} {b o n cap E : Nat} {q1 q2 : Option Addr} {a1 c1 a2 c2 : Nat} (h1 : a1 = E - 1) (h2 : c1 = cap - 1) (h3 : a2 = n - E) (h4 : c2 = cap - E) (h5 : 0 < E - 1 → q1 = some ⟨b, o + 1, none⟩) (h6 : 0 < n - E → q2 = some ⟨b, o + E, none⟩) (h7 : Bw w w') :
    CutPost w b o n cap E (.returned (.tuple #[.slice q1 a1 c1, .slice q2 a2 c2, .bool true])) w' := by
  subst h1 h2 h3 h4; exact ⟨q1, q2, rfl, h5, h6, h7⟩
set_option maxHeartbeats 1000000 in
set_option maxRecDepth 100000 in
theorem cutRows_ok (w : World) (b o n cap x sz : Nat) (hx : x < 256) (hs : sz ≤ 10) (hf : 1 + x * sz ≤ n) (hcap : n ≤ cap) (hcm : cap ≤ 9223372036854775807) (c0 : w.cell? ⟨b, o, none⟩ = some (.int .u8 x)) : Calls Try.prog 22 #[.slice (some ⟨b, o, none⟩) n cap, .int .i64 sz] w (CutPost w b o n cap (1 + x * sz)) := by
  have hm : x * sz ≤ 255 * 10 := Nat.mul_le_mul (by omega) hs
  have hmi : ((x : Int) * sz) = ((x * sz : Nat) : Int) := by simp
  have hz : ((n : Int) == 0) = false := by simp; omega
  have hw1 : IntKind.i64.wrap ((x : Int) * sz) = ((x * sz : Nat) : Int) := by rw [IntKind.wrap_i64]; omega
  have hw0 : IntKind.i64.wrap (x : Int) = x := by rw [IntKind.wrap_i64]; omega
  have hni : (0 : Int) < n := by omega
  generalize x * sz = m at *
  obtain ⟨E, hE⟩ : ∃ E : Nat, E = 1 + m := ⟨_, rfl⟩
  have hEi : (1 : Int) + m = (E : Int) := by omega
  obtain ⟨f1, f2, f3, f4, f5, f6⟩ : (E : Int) ≤ n ∧ (n : Int) ≤ cap ∧ (1 : Int) ≤ E ∧ (0 : Int) ≤ E ∧ (E : Int) ≤ cap ∧ (1 : Int) ≤ cap := by omega
  rw [← hE] at hf ⊢
  have hmE : m = E - 1 := by omega
  subst hmE
  clear hmi hm hE
  go_enter Try.func22, Try.ntmps22
  go_wp2_with fail
  go_region
  all_goals (go_wp2_with fail)
  all_goals
    go_returns
    exact cut_mk (by omega) (by omega) (by omega) (by omega) (fun h => by first | rfl | omega) (fun h => by first | rfl | omega) (Bw.refl _).drew
end Go.Proofs.Ytkffkmiegmaoiaa
