/- The reference's reader of chapter 9: what is left of the bytes. -/
import Derived.Test.YtmecompcffphcaaRefRd3
import Derived.Test.YtmecompcffphcaaFeeGt3a
namespace Go.Proofs.Ytmecompcffphcaa
open Go.ChangeShapes Go.WideShapes Go.ChangeAt Go.RowKit
set_option linter.unusedSimpArgs false
set_option linter.unusedVariables false

set_option maxHeartbeats 2000000 in
set_option maxRecDepth 100000 in
theorem rBytes_zero {q : Option Addr} {cap : Nat} {L : List Int} (a rb : Nat) (w : World) (hx : Box w rb [.slice q L.length cap, .int .i64 a, .bool false]) (ha : a ≤ L.length) (hcap : L.length ≤ cap) (hc2 : cap ≤ 9223372036854775807) (hq : (∃ ad, q = some ad ∧ a = cap) ∨ (q = none ∧ L = []) ∨ (∃ ad, q = some ad ∧ L = [] ∧ 0 < cap)) :
    Calls Try.prog 20 #[.pointer (some ⟨rb, 0, none⟩), .int .u32 0] w fun e w' => ∃ v', e = .returned v' ∧ Own8 w w' v' [] ∧ Box w' rb [.slice q L.length cap, .int .i64 a, .bool false] ∧ Bq rb w w' := by
  rcases hq with ⟨⟨b, o, p⟩, rfl, rfl⟩ | ⟨rfl, rfl⟩ | ⟨⟨b, o, p⟩, rfl, rfl, hc0⟩
  · have x0 := hx.c 0 _ rfl; have x1 := hx.c 1 _ rfl; have x2 := hx.c 2 _ rfl
    have m1 : IntKind.i64.wrap ((L.length : Int) - a) = (L.length : Int) - a := by rw [IntKind.wrap_i64]; omega
    have m3 : IntKind.i64.wrap ((a : Int) + 0) = (a : Int) := by rw [IntKind.wrap_i64]; omega
    have m0 : IntKind.i64.wrap 0 = 0 := by decide
    have m4 : IntKind.i64.wrap ((a : Int)) = (a : Int) := by rw [IntKind.wrap_i64]; omega
    have d1 : (0 : Int) ≤ (L.length : Int) - a := by omega
    have i2 : (a : Int) ≤ (a : Int) := by omega
    have i3 : (a : Int) ≤ (L.length : Int) := by omega
    go_enter Try.func20, Try.ntmps20
    go_wp2_with fail
    go_region
    go_wp2_with fail
    have hBX : Bw w ((w.alloc (.cells #[] 5)).drew.drew) := (((Bw.refl w).alloc _).drew).drew
    have hO0 := (Own8.new0 w w (Nat.le_refl _)).bw (((Bw.refl (w.alloc (.cells #[] 5))).drew).drew)
    have hr1 := fun q' c' => run_app8_none hO0 q' c'
    obtain ⟨w1, hw1⟩ : ∃ w1, (w.alloc (.cells #[] 5)).drew.drew = w1 := ⟨_, rfl⟩
    have hr2 : ∀ (q' : Option Addr) (c' : Nat), (Builtin.append_ #[22, 22] 22 #[.slice (some ⟨w.heap.size, 0, none⟩) 0 0, .slice q' 0 c']).run Try.prog ((w.alloc (.cells #[] 5)).drew.drew) = .ok (.slice (some ⟨w.heap.size, 0, none⟩) 0 0) w1 := fun q' c' => by rw [← hw1]; exact hr1 q' c'
    have hB1 : Bw w w1 := by rw [← hw1]; exact hBX
    have hO1 : Own8 w w1 (.slice (some ⟨w.heap.size, 0, none⟩) 0 0) [] := by rw [← hw1]; exact hO0
    clear hr1 hO0 hw1
    have HSX : Hid (∀ X, Bw w X → (X.cell? ⟨rb, 0, none⟩ = some (.slice (some ⟨b, o, p⟩) L.length a) ∧ X.cell? ⟨rb, 1, none⟩ = some (.int .i64 a))) := fun X g => ⟨g.keep x0, g.keep x1⟩
    refine wp_region_held_drew (S := fun X => X.cell? ⟨rb, 0, none⟩ = some (.slice (some ⟨b, o, p⟩) L.length a) ∧ X.cell? ⟨rb, 1, none⟩ = some (.int .i64 a)) (by kernel_rfl) ((show ∀ X, _ → _ from HSX) _ (((Bw.refl w).drew).drew)) (fun hHeld => ?_)
    refine wpAnyH_take (i := 1) (oi := ⟨some 29, _, _, _, _, _⟩) (v := ?_) rfl (by kernel_rfl) (by kernel_rfl) (by kernel_rfl) (fun _ _ _ h => h) (Or.inl ⟨by rfl, ?_⟩) (by assumption) ?_; (rotate_left 1); (focus (intro wz hSw; (try dsimp only at hSw); go_simp; try (with_reducible rfl))); simp only [Act.put, List.setIfInBounds_toArray, List.set_cons_zero, List.set_cons_succ]
    refine wpAnyH_take (i := 2) (oi := ⟨some 30, _, _, _, _, _⟩) (v := ?_) rfl (by kernel_rfl) (by kernel_rfl) (by kernel_rfl) (fun _ _ _ h => h) (Or.inl ⟨by rfl, ?_⟩) (by assumption) ?_; (rotate_left 1); (focus (intro wz hSw; (try dsimp only at hSw); go_simp; try (with_reducible rfl))); simp only [Act.put, List.setIfInBounds_toArray, List.set_cons_zero, List.set_cons_succ]
    refine wpAnyH_take (i := 3) (oi := ⟨some 31, _, _, _, _, _⟩) (v := ?_) rfl (by kernel_rfl) (by kernel_rfl) (by kernel_rfl) (fun _ _ _ h => h) (Or.inl ⟨by rfl, ?_⟩) (by assumption) ?_; (rotate_left 1); (focus (intro wz hSw; (try dsimp only at hSw); go_simp; try (with_reducible rfl))); simp only [Act.put, List.setIfInBounds_toArray, List.set_cons_zero, List.set_cons_succ]
    refine wpAnyH_take (i := 4) (oi := ⟨some 32, _, _, _, _, _⟩) (v := ?_) rfl (by kernel_rfl) (by kernel_rfl) (by kernel_rfl) (fun _ _ _ h => h) (Or.inl ⟨by rfl, ?_⟩) (by assumption) ?_; (rotate_left 1); (focus (intro wz hSw; (try dsimp only at hSw); go_simp; try (with_reducible rfl))); simp only [Act.put, List.setIfInBounds_toArray, List.set_cons_zero, List.set_cons_succ]
    refine wpAnyH_take (i := 5) (oi := ⟨some 33, _, _, _, _, _⟩) (v := ?_) rfl (by kernel_rfl) (by kernel_rfl) (by kernel_rfl) (fun _ _ _ h => h) (Or.inl ⟨by rfl, ?_⟩) (by assumption) ?_; (rotate_left 1); (focus (intro wz hSw; (try dsimp only at hSw); go_simp; try (with_reducible rfl))); simp only [Act.put, List.setIfInBounds_toArray, List.set_cons_zero, List.set_cons_succ]
    refine wpAnyH_take (i := 6) (oi := ⟨some 34, _, _, _, _, _⟩) (v := ?_) rfl (by kernel_rfl) (by kernel_rfl) (by kernel_rfl) (fun _ _ _ h => h) (Or.inl ⟨by rfl, ?_⟩) (by assumption) ?_; (rotate_left 1); (focus (intro wz hSw; (try dsimp only at hSw); go_simp; try (with_reducible rfl))); simp only [Act.put, List.setIfInBounds_toArray, List.set_cons_zero, List.set_cons_succ]
    refine wpAnyH_take (i := 7) (oi := ⟨some 35, _, _, _, _, _⟩) (v := ?_) rfl (by kernel_rfl) (by kernel_rfl) (by kernel_rfl) (fun _ _ _ h => h) (Or.inl ⟨by rfl, ?_⟩) (by assumption) ?_; (rotate_left 1); (focus (intro wz hSw; (try dsimp only at hSw); go_simp; try (with_reducible rfl))); simp only [Act.put, List.setIfInBounds_toArray, List.set_cons_zero, List.set_cons_succ]
    refine wpAnyH_take (i := 8) (oi := ⟨some 36, _, _, _, _, _⟩) (v := ?_) rfl (by kernel_rfl) (by kernel_rfl) (by kernel_rfl) (fun _ _ _ h => h) (Or.inl ⟨by rfl, ?_⟩) (by assumption) ?_; (rotate_left 1); (focus (intro wz hSw; (try dsimp only at hSw); go_simp; try (with_reducible rfl))); simp only [Act.put, List.setIfInBounds_toArray, List.set_cons_zero, List.set_cons_succ]
    refine wpAnyH_take (i := 9) (oi := ⟨some 37, _, _, _, _, _⟩) (v := ?_) rfl (by kernel_rfl) (by kernel_rfl) (by kernel_rfl) (fun _ _ _ h => h) (Or.inl ⟨by rfl, ?_⟩) (by assumption) ?_; (rotate_left 1); (focus (intro wz hSw; (try dsimp only at hSw); go_simp; try (with_reducible rfl))); simp only [Act.put, List.setIfInBounds_toArray, List.set_cons_zero, List.set_cons_succ]
    refine wpAnyH_take (i := 10) (oi := ⟨some 38, _, _, _, _, _⟩) (v := ?_) rfl (by kernel_rfl) (by kernel_rfl) (by kernel_rfl) (fun _ _ _ h => h) (Or.inl ⟨by rfl, ?_⟩) (by assumption) ?_; (rotate_left 1); (focus (intro wz hSw; (try dsimp only at hSw); go_simp; try (with_reducible rfl))); simp only [Act.put, List.setIfInBounds_toArray, List.set_cons_zero, List.set_cons_succ]
    refine wpAnyH_take (i := 11) (oi := ⟨some 39, _, _, _, _, _⟩) (v := ?_) rfl (by kernel_rfl) (by kernel_rfl) (by kernel_rfl) (fun _ _ _ h => h) (Or.inl ⟨by rfl, ?_⟩) (by assumption) ?_; (rotate_left 1); (focus (intro wz hSw; (try dsimp only at hSw); go_simp; try (with_reducible rfl))); simp only [Act.put, List.setIfInBounds_toArray, List.set_cons_zero, List.set_cons_succ]
    refine wpAnyH_take (i := 12) (oi := ⟨some 40, _, _, _, _, _⟩) (v := ?_) rfl (by kernel_rfl) (by kernel_rfl) (by kernel_rfl) (fun _ _ _ h => h) (Or.inl ⟨by rfl, ?_⟩) (by assumption) ?_; (rotate_left 1); (focus (intro wz hSw; (try dsimp only at hSw); go_simp; try (with_reducible rfl))); simp only [Act.put, List.setIfInBounds_toArray, List.set_cons_zero, List.set_cons_succ]
    refine wpAnyH_take (i := 13) (oi := ⟨some 41, _, _, _, _, _⟩) (v := ?_) rfl (by kernel_rfl) (by kernel_rfl) (by kernel_rfl) (fun _ _ _ h => h) (Or.inl ⟨by rfl, ?_⟩) (by assumption) ?_; (rotate_left 1); (focus (intro wz hSw; (try dsimp only at hSw); go_simp; try (with_reducible rfl))); simp only [Act.put, List.setIfInBounds_toArray, List.set_cons_zero, List.set_cons_succ]
    refine wpAnyH_take (i := 14) (oi := ⟨some 42, _, _, _, _, _⟩) (v := ?_) rfl (by kernel_rfl) (by kernel_rfl) (by kernel_rfl) (fun _ _ _ h => h) (Or.inl ⟨by rfl, ?_⟩) (by assumption) ?_; (rotate_left 1); (focus (intro wz hSw; (try dsimp only at hSw); go_simp; try (with_reducible rfl))); simp only [Act.put, List.setIfInBounds_toArray, List.set_cons_zero, List.set_cons_succ]
    refine wpAnyH_take (i := 15) (oi := ⟨some 43, _, _, _, _, _⟩) (v := ?_) rfl (by kernel_rfl) (by kernel_rfl) (by kernel_rfl) (fun _ _ _ h => h) (Or.inl ⟨by rfl, ?_⟩) (by assumption) ?_; (rotate_left 1); (focus (intro wz hSw; (try dsimp only at hSw); go_simp; try (with_reducible rfl))); simp only [Act.put, List.setIfInBounds_toArray, List.set_cons_zero, List.set_cons_succ]
    refine wpAnyH_take (i := 16) (oi := ⟨some 44, _, _, _, _, _⟩) (v := ?_) rfl (by kernel_rfl) (by kernel_rfl) (by kernel_rfl) (fun _ _ _ h => h) (Or.inl ⟨by rfl, ?_⟩) (by assumption) ?_; (rotate_left 1); (focus (intro wz hSw; (try dsimp only at hSw); go_simp; try (with_reducible rfl))); simp only [Act.put, List.setIfInBounds_toArray, List.set_cons_zero, List.set_cons_succ]
    refine wpAnyH_ready (rs := [0]) (by kernel_rfl) (by simp) ?_; refine AllReadyH.cons rfl (fun K hK => ?_) AllReadyH.nil; go_simp; (try clear hHeld); refine hK.out _ _ ?_ (fun hHeld => ?_); focus (exact (show ∀ X, _ → _ from HSX) _ hBX)
    refine wpAnyH_ready (rs := [17]) (by kernel_rfl) (by simp) ?_; refine AllReadyH.cons (o := ⟨some 45, _, _, _, _, _⟩) rfl (fun K hK => ?_) AllReadyH.nil; refine stepApp rfl _ _ 22 rfl rfl rfl (hr2 _ _) ?_; (try clear hHeld); refine hK.out _ _ ?_ (fun hHeld => ?_); focus (exact (show ∀ X, _ → _ from HSX) _ hB1)
    simp only [Act.put, List.setIfInBounds_toArray, List.set_cons_zero, List.set_cons_succ]
    refine wpAnyH_take (i := 18) (oi := ⟨some 5, _, _, _, _, _⟩) (v := ?_) rfl (by kernel_rfl) (by kernel_rfl) (by kernel_rfl) (fun _ _ _ h => h) (Or.inl ⟨by rfl, ?_⟩) (by assumption) ?_; (rotate_left 1); (focus (intro wz hSw; (try dsimp only at hSw); go_simp; try (with_reducible rfl))); simp only [Act.put, List.setIfInBounds_toArray, List.set_cons_zero, List.set_cons_succ]
    refine wpAnyH_done (by kernel_rfl) ?_ _
    have hx1 := hx.bw hB1
    have y1 := hx1.c 1 _ rfl; have y1f := hx1.f 1 (by simp)
    have hrb := hx.lt
    have HO1 : Hid (Own8 w w1 (.slice (some ⟨w.heap.size, 0, none⟩) 0 0) []) := hO1
    clear x0 x1 x2 hr2 hO1
    go_wp2_with fail
    go_returns
    refine ⟨_, rfl, (show Own8 _ _ _ _ from HO1).away hrb 1 _, ?_, ((Bq.refl rb w).bw hB1).set 1 _⟩
    exact hx1.set 1 (by simp) (.int .i64 (a : Int))
  · obtain rfl : a = 0 := by simpa using ha
    rw [List.length_nil] at *
    have x0 := hx.c 0 _ rfl; have x1 := hx.c 1 _ rfl; have x2 := hx.c 2 _ rfl
    have m1 : IntKind.i64.wrap ((0 : Int) - 0) = (0 : Int) - 0 := by rw [IntKind.wrap_i64]; omega
    have m3 : IntKind.i64.wrap ((0 : Int) + 0) = (0 : Int) := by rw [IntKind.wrap_i64]; omega
    have m0 : IntKind.i64.wrap 0 = 0 := by decide
    have d1 : (0 : Int) ≤ (0 : Int) - 0 := by omega
    have i2 : (0 : Int) ≤ (cap : Int) := by omega
    have i3 : (0 : Int) ≤ (0 : Int) := by omega
    go_enter Try.func20, Try.ntmps20
    go_wp2_with fail
    go_region
    go_wp2_with fail
    have hBX : Bw w ((w.alloc (.cells #[] 5)).drew.drew) := (((Bw.refl w).alloc _).drew).drew
    have hO0 := (Own8.new0 w w (Nat.le_refl _)).bw (((Bw.refl (w.alloc (.cells #[] 5))).drew).drew)
    have hr1 := fun q' c' => run_app8_none hO0 q' c'
    obtain ⟨w1, hw1⟩ : ∃ w1, (w.alloc (.cells #[] 5)).drew.drew = w1 := ⟨_, rfl⟩
    have hr2 : ∀ (q' : Option Addr) (c' : Nat), (Builtin.append_ #[22, 22] 22 #[.slice (some ⟨w.heap.size, 0, none⟩) 0 0, .slice q' 0 c']).run Try.prog ((w.alloc (.cells #[] 5)).drew.drew) = .ok (.slice (some ⟨w.heap.size, 0, none⟩) 0 0) w1 := fun q' c' => by rw [← hw1]; exact hr1 q' c'
    have hB1 : Bw w w1 := by rw [← hw1]; exact hBX
    have hO1 : Own8 w w1 (.slice (some ⟨w.heap.size, 0, none⟩) 0 0) [] := by rw [← hw1]; exact hO0
    clear hr1 hO0 hw1
    have HSX : Hid (∀ X, Bw w X → (X.cell? ⟨rb, 0, none⟩ = some (.slice none 0 cap) ∧ X.cell? ⟨rb, 1, none⟩ = some (.int .i64 0))) := fun X g => ⟨g.keep x0, g.keep x1⟩
    refine wp_region_held_drew (S := fun X => X.cell? ⟨rb, 0, none⟩ = some (.slice none 0 cap) ∧ X.cell? ⟨rb, 1, none⟩ = some (.int .i64 0)) (by kernel_rfl) ((show ∀ X, _ → _ from HSX) _ (((Bw.refl w).drew).drew)) (fun hHeld => ?_)
    refine wpAnyH_take (i := 1) (oi := ⟨some 29, _, _, _, _, _⟩) (v := ?_) rfl (by kernel_rfl) (by kernel_rfl) (by kernel_rfl) (fun _ _ _ h => h) (Or.inl ⟨by rfl, ?_⟩) (by assumption) ?_; (rotate_left 1); (focus (intro wz hSw; (try dsimp only at hSw); go_simp; try (with_reducible rfl))); simp only [Act.put, List.setIfInBounds_toArray, List.set_cons_zero, List.set_cons_succ]
    refine wpAnyH_take (i := 2) (oi := ⟨some 30, _, _, _, _, _⟩) (v := ?_) rfl (by kernel_rfl) (by kernel_rfl) (by kernel_rfl) (fun _ _ _ h => h) (Or.inl ⟨by rfl, ?_⟩) (by assumption) ?_; (rotate_left 1); (focus (intro wz hSw; (try dsimp only at hSw); go_simp; try (with_reducible rfl))); simp only [Act.put, List.setIfInBounds_toArray, List.set_cons_zero, List.set_cons_succ]
    refine wpAnyH_take (i := 3) (oi := ⟨some 31, _, _, _, _, _⟩) (v := ?_) rfl (by kernel_rfl) (by kernel_rfl) (by kernel_rfl) (fun _ _ _ h => h) (Or.inl ⟨by rfl, ?_⟩) (by assumption) ?_; (rotate_left 1); (focus (intro wz hSw; (try dsimp only at hSw); go_simp; try (with_reducible rfl))); simp only [Act.put, List.setIfInBounds_toArray, List.set_cons_zero, List.set_cons_succ]
    refine wpAnyH_take (i := 4) (oi := ⟨some 32, _, _, _, _, _⟩) (v := ?_) rfl (by kernel_rfl) (by kernel_rfl) (by kernel_rfl) (fun _ _ _ h => h) (Or.inl ⟨by rfl, ?_⟩) (by assumption) ?_; (rotate_left 1); (focus (intro wz hSw; (try dsimp only at hSw); go_simp; try (with_reducible rfl))); simp only [Act.put, List.setIfInBounds_toArray, List.set_cons_zero, List.set_cons_succ]
    refine wpAnyH_take (i := 5) (oi := ⟨some 33, _, _, _, _, _⟩) (v := ?_) rfl (by kernel_rfl) (by kernel_rfl) (by kernel_rfl) (fun _ _ _ h => h) (Or.inl ⟨by rfl, ?_⟩) (by assumption) ?_; (rotate_left 1); (focus (intro wz hSw; (try dsimp only at hSw); go_simp; try (with_reducible rfl))); simp only [Act.put, List.setIfInBounds_toArray, List.set_cons_zero, List.set_cons_succ]
    refine wpAnyH_take (i := 6) (oi := ⟨some 34, _, _, _, _, _⟩) (v := ?_) rfl (by kernel_rfl) (by kernel_rfl) (by kernel_rfl) (fun _ _ _ h => h) (Or.inl ⟨by rfl, ?_⟩) (by assumption) ?_; (rotate_left 1); (focus (intro wz hSw; (try dsimp only at hSw); go_simp; try (with_reducible rfl))); simp only [Act.put, List.setIfInBounds_toArray, List.set_cons_zero, List.set_cons_succ]
    refine wpAnyH_take (i := 7) (oi := ⟨some 35, _, _, _, _, _⟩) (v := ?_) rfl (by kernel_rfl) (by kernel_rfl) (by kernel_rfl) (fun _ _ _ h => h) (Or.inl ⟨by rfl, ?_⟩) (by assumption) ?_; (rotate_left 1); (focus (intro wz hSw; (try dsimp only at hSw); go_simp; try (with_reducible rfl))); simp only [Act.put, List.setIfInBounds_toArray, List.set_cons_zero, List.set_cons_succ]
    refine wpAnyH_take (i := 8) (oi := ⟨some 36, _, _, _, _, _⟩) (v := ?_) rfl (by kernel_rfl) (by kernel_rfl) (by kernel_rfl) (fun _ _ _ h => h) (Or.inl ⟨by rfl, ?_⟩) (by assumption) ?_; (rotate_left 1); (focus (intro wz hSw; (try dsimp only at hSw); go_simp; try (with_reducible rfl))); simp only [Act.put, List.setIfInBounds_toArray, List.set_cons_zero, List.set_cons_succ]
    refine wpAnyH_take (i := 9) (oi := ⟨some 37, _, _, _, _, _⟩) (v := ?_) rfl (by kernel_rfl) (by kernel_rfl) (by kernel_rfl) (fun _ _ _ h => h) (Or.inl ⟨by rfl, ?_⟩) (by assumption) ?_; (rotate_left 1); (focus (intro wz hSw; (try dsimp only at hSw); go_simp; try (with_reducible rfl))); simp only [Act.put, List.setIfInBounds_toArray, List.set_cons_zero, List.set_cons_succ]
    refine wpAnyH_take (i := 10) (oi := ⟨some 38, _, _, _, _, _⟩) (v := ?_) rfl (by kernel_rfl) (by kernel_rfl) (by kernel_rfl) (fun _ _ _ h => h) (Or.inl ⟨by rfl, ?_⟩) (by assumption) ?_; (rotate_left 1); (focus (intro wz hSw; (try dsimp only at hSw); go_simp; try (with_reducible rfl))); simp only [Act.put, List.setIfInBounds_toArray, List.set_cons_zero, List.set_cons_succ]
    refine wpAnyH_take (i := 11) (oi := ⟨some 39, _, _, _, _, _⟩) (v := ?_) rfl (by kernel_rfl) (by kernel_rfl) (by kernel_rfl) (fun _ _ _ h => h) (Or.inl ⟨by rfl, ?_⟩) (by assumption) ?_; (rotate_left 1); (focus (intro wz hSw; (try dsimp only at hSw); go_simp; try (with_reducible rfl))); simp only [Act.put, List.setIfInBounds_toArray, List.set_cons_zero, List.set_cons_succ]
    refine wpAnyH_take (i := 12) (oi := ⟨some 40, _, _, _, _, _⟩) (v := ?_) rfl (by kernel_rfl) (by kernel_rfl) (by kernel_rfl) (fun _ _ _ h => h) (Or.inl ⟨by rfl, ?_⟩) (by assumption) ?_; (rotate_left 1); (focus (intro wz hSw; (try dsimp only at hSw); go_simp; try (with_reducible rfl))); simp only [Act.put, List.setIfInBounds_toArray, List.set_cons_zero, List.set_cons_succ]
    refine wpAnyH_take (i := 13) (oi := ⟨some 41, _, _, _, _, _⟩) (v := ?_) rfl (by kernel_rfl) (by kernel_rfl) (by kernel_rfl) (fun _ _ _ h => h) (Or.inl ⟨by rfl, ?_⟩) (by assumption) ?_; (rotate_left 1); (focus (intro wz hSw; (try dsimp only at hSw); go_simp; try (with_reducible rfl))); simp only [Act.put, List.setIfInBounds_toArray, List.set_cons_zero, List.set_cons_succ]
    refine wpAnyH_take (i := 14) (oi := ⟨some 42, _, _, _, _, _⟩) (v := ?_) rfl (by kernel_rfl) (by kernel_rfl) (by kernel_rfl) (fun _ _ _ h => h) (Or.inl ⟨by rfl, ?_⟩) (by assumption) ?_; (rotate_left 1); (focus (intro wz hSw; (try dsimp only at hSw); go_simp; try (with_reducible rfl))); simp only [Act.put, List.setIfInBounds_toArray, List.set_cons_zero, List.set_cons_succ]
    refine wpAnyH_take (i := 15) (oi := ⟨some 43, _, _, _, _, _⟩) (v := ?_) rfl (by kernel_rfl) (by kernel_rfl) (by kernel_rfl) (fun _ _ _ h => h) (Or.inl ⟨by rfl, ?_⟩) (by assumption) ?_; (rotate_left 1); (focus (intro wz hSw; (try dsimp only at hSw); go_simp; try (with_reducible rfl))); simp only [Act.put, List.setIfInBounds_toArray, List.set_cons_zero, List.set_cons_succ]
    refine wpAnyH_take (i := 16) (oi := ⟨some 44, _, _, _, _, _⟩) (v := ?_) rfl (by kernel_rfl) (by kernel_rfl) (by kernel_rfl) (fun _ _ _ h => h) (Or.inl ⟨by rfl, ?_⟩) (by assumption) ?_; (rotate_left 1); (focus (intro wz hSw; (try dsimp only at hSw); go_simp; try (with_reducible rfl))); simp only [Act.put, List.setIfInBounds_toArray, List.set_cons_zero, List.set_cons_succ]
    refine wpAnyH_ready (rs := [0]) (by kernel_rfl) (by simp) ?_; refine AllReadyH.cons rfl (fun K hK => ?_) AllReadyH.nil; go_simp; (try clear hHeld); refine hK.out _ _ ?_ (fun hHeld => ?_); focus (exact (show ∀ X, _ → _ from HSX) _ hBX)
    refine wpAnyH_ready (rs := [17]) (by kernel_rfl) (by simp) ?_; refine AllReadyH.cons (o := ⟨some 45, _, _, _, _, _⟩) rfl (fun K hK => ?_) AllReadyH.nil; refine stepApp rfl _ _ 22 rfl rfl rfl (hr2 _ _) ?_; (try clear hHeld); refine hK.out _ _ ?_ (fun hHeld => ?_); focus (exact (show ∀ X, _ → _ from HSX) _ hB1)
    simp only [Act.put, List.setIfInBounds_toArray, List.set_cons_zero, List.set_cons_succ]
    refine wpAnyH_take (i := 18) (oi := ⟨some 5, _, _, _, _, _⟩) (v := ?_) rfl (by kernel_rfl) (by kernel_rfl) (by kernel_rfl) (fun _ _ _ h => h) (Or.inl ⟨by rfl, ?_⟩) (by assumption) ?_; (rotate_left 1); (focus (intro wz hSw; (try dsimp only at hSw); go_simp; try (with_reducible rfl))); simp only [Act.put, List.setIfInBounds_toArray, List.set_cons_zero, List.set_cons_succ]
    refine wpAnyH_done (by kernel_rfl) ?_ _
    have hx1 := hx.bw hB1
    have y1 := hx1.c 1 _ rfl; have y1f := hx1.f 1 (by simp)
    have hrb := hx.lt
    have HO1 : Hid (Own8 w w1 (.slice (some ⟨w.heap.size, 0, none⟩) 0 0) []) := hO1
    clear x0 x1 x2 hr2 hO1
    go_wp2_with fail
    go_returns
    refine ⟨_, rfl, (show Own8 _ _ _ _ from HO1).away hrb 1 _, ?_, ((Bq.refl rb w).bw hB1).set 1 _⟩
    exact hx1.set 1 (by simp) (.int .i64 (0 : Int))
  · obtain rfl : a = 0 := by simpa using ha
    rw [List.length_nil] at *
    have x0 := hx.c 0 _ rfl; have x1 := hx.c 1 _ rfl; have x2 := hx.c 2 _ rfl
    have m1 : IntKind.i64.wrap ((0 : Int) - 0) = (0 : Int) - 0 := by rw [IntKind.wrap_i64]; omega
    have m3 : IntKind.i64.wrap ((0 : Int) + 0) = (0 : Int) := by rw [IntKind.wrap_i64]; omega
    have m0 : IntKind.i64.wrap 0 = 0 := by decide
    have d1 : (0 : Int) ≤ (0 : Int) - 0 := by omega
    have i2 : (0 : Int) ≤ (cap : Int) := by omega
    have i3 : (0 : Int) ≤ (0 : Int) := by omega
    go_enter Try.func20, Try.ntmps20
    go_wp2_with fail
    go_region
    go_wp2_with fail
    have hBX : Bw w ((w.alloc (.cells #[] 5)).drew.drew) := (((Bw.refl w).alloc _).drew).drew
    have hO0 := (Own8.new0 w w (Nat.le_refl _)).bw (((Bw.refl (w.alloc (.cells #[] 5))).drew).drew)
    have hr1 := fun q' c' => run_app8_none hO0 q' c'
    obtain ⟨w1, hw1⟩ : ∃ w1, (w.alloc (.cells #[] 5)).drew.drew = w1 := ⟨_, rfl⟩
    have hr2 : ∀ (q' : Option Addr) (c' : Nat), (Builtin.append_ #[22, 22] 22 #[.slice (some ⟨w.heap.size, 0, none⟩) 0 0, .slice q' 0 c']).run Try.prog ((w.alloc (.cells #[] 5)).drew.drew) = .ok (.slice (some ⟨w.heap.size, 0, none⟩) 0 0) w1 := fun q' c' => by rw [← hw1]; exact hr1 q' c'
    have hB1 : Bw w w1 := by rw [← hw1]; exact hBX
    have hO1 : Own8 w w1 (.slice (some ⟨w.heap.size, 0, none⟩) 0 0) [] := by rw [← hw1]; exact hO0
    clear hr1 hO0 hw1
    have HSX : Hid (∀ X, Bw w X → (X.cell? ⟨rb, 0, none⟩ = some (.slice (some ⟨b, o, p⟩) 0 cap) ∧ X.cell? ⟨rb, 1, none⟩ = some (.int .i64 0))) := fun X g => ⟨g.keep x0, g.keep x1⟩
    refine wp_region_held_drew (S := fun X => X.cell? ⟨rb, 0, none⟩ = some (.slice (some ⟨b, o, p⟩) 0 cap) ∧ X.cell? ⟨rb, 1, none⟩ = some (.int .i64 0)) (by kernel_rfl) ((show ∀ X, _ → _ from HSX) _ (((Bw.refl w).drew).drew)) (fun hHeld => ?_)
    refine wpAnyH_take (i := 1) (oi := ⟨some 29, _, _, _, _, _⟩) (v := ?_) rfl (by kernel_rfl) (by kernel_rfl) (by kernel_rfl) (fun _ _ _ h => h) (Or.inl ⟨by rfl, ?_⟩) (by assumption) ?_; (rotate_left 1); (focus (intro wz hSw; (try dsimp only at hSw); go_simp; try (with_reducible rfl))); simp only [Act.put, List.setIfInBounds_toArray, List.set_cons_zero, List.set_cons_succ]
    refine wpAnyH_take (i := 2) (oi := ⟨some 30, _, _, _, _, _⟩) (v := ?_) rfl (by kernel_rfl) (by kernel_rfl) (by kernel_rfl) (fun _ _ _ h => h) (Or.inl ⟨by rfl, ?_⟩) (by assumption) ?_; (rotate_left 1); (focus (intro wz hSw; (try dsimp only at hSw); go_simp; try (with_reducible rfl))); simp only [Act.put, List.setIfInBounds_toArray, List.set_cons_zero, List.set_cons_succ]
    refine wpAnyH_take (i := 3) (oi := ⟨some 31, _, _, _, _, _⟩) (v := ?_) rfl (by kernel_rfl) (by kernel_rfl) (by kernel_rfl) (fun _ _ _ h => h) (Or.inl ⟨by rfl, ?_⟩) (by assumption) ?_; (rotate_left 1); (focus (intro wz hSw; (try dsimp only at hSw); go_simp; try (with_reducible rfl))); simp only [Act.put, List.setIfInBounds_toArray, List.set_cons_zero, List.set_cons_succ]
    refine wpAnyH_take (i := 4) (oi := ⟨some 32, _, _, _, _, _⟩) (v := ?_) rfl (by kernel_rfl) (by kernel_rfl) (by kernel_rfl) (fun _ _ _ h => h) (Or.inl ⟨by rfl, ?_⟩) (by assumption) ?_; (rotate_left 1); (focus (intro wz hSw; (try dsimp only at hSw); go_simp; try (with_reducible rfl))); simp only [Act.put, List.setIfInBounds_toArray, List.set_cons_zero, List.set_cons_succ]
    refine wpAnyH_take (i := 5) (oi := ⟨some 33, _, _, _, _, _⟩) (v := ?_) rfl (by kernel_rfl) (by kernel_rfl) (by kernel_rfl) (fun _ _ _ h => h) (Or.inl ⟨by rfl, ?_⟩) (by assumption) ?_; (rotate_left 1); (focus (intro wz hSw; (try dsimp only at hSw); go_simp; try (with_reducible rfl))); simp only [Act.put, List.setIfInBounds_toArray, List.set_cons_zero, List.set_cons_succ]
    refine wpAnyH_take (i := 6) (oi := ⟨some 34, _, _, _, _, _⟩) (v := ?_) rfl (by kernel_rfl) (by kernel_rfl) (by kernel_rfl) (fun _ _ _ h => h) (Or.inl ⟨by rfl, ?_⟩) (by assumption) ?_; (rotate_left 1); (focus (intro wz hSw; (try dsimp only at hSw); go_simp; try (with_reducible rfl))); simp only [Act.put, List.setIfInBounds_toArray, List.set_cons_zero, List.set_cons_succ]
    refine wpAnyH_take (i := 7) (oi := ⟨some 35, _, _, _, _, _⟩) (v := ?_) rfl (by kernel_rfl) (by kernel_rfl) (by kernel_rfl) (fun _ _ _ h => h) (Or.inl ⟨by rfl, ?_⟩) (by assumption) ?_; (rotate_left 1); (focus (intro wz hSw; (try dsimp only at hSw); go_simp; try (with_reducible rfl))); simp only [Act.put, List.setIfInBounds_toArray, List.set_cons_zero, List.set_cons_succ]
    refine wpAnyH_take (i := 8) (oi := ⟨some 36, _, _, _, _, _⟩) (v := ?_) rfl (by kernel_rfl) (by kernel_rfl) (by kernel_rfl) (fun _ _ _ h => h) (Or.inl ⟨by rfl, ?_⟩) (by assumption) ?_; (rotate_left 1); (focus (intro wz hSw; (try dsimp only at hSw); go_simp; try (with_reducible rfl))); simp only [Act.put, List.setIfInBounds_toArray, List.set_cons_zero, List.set_cons_succ]
    refine wpAnyH_take (i := 9) (oi := ⟨some 37, _, _, _, _, _⟩) (v := ?_) rfl (by kernel_rfl) (by kernel_rfl) (by kernel_rfl) (fun _ _ _ h => h) (Or.inl ⟨by rfl, ?_⟩) (by assumption) ?_; (rotate_left 1); (focus (intro wz hSw; (try dsimp only at hSw); go_simp; try (with_reducible rfl))); simp only [Act.put, List.setIfInBounds_toArray, List.set_cons_zero, List.set_cons_succ]
    refine wpAnyH_take (i := 10) (oi := ⟨some 38, _, _, _, _, _⟩) (v := ?_) rfl (by kernel_rfl) (by kernel_rfl) (by kernel_rfl) (fun _ _ _ h => h) (Or.inl ⟨by rfl, ?_⟩) (by assumption) ?_; (rotate_left 1); (focus (intro wz hSw; (try dsimp only at hSw); go_simp; try (with_reducible rfl))); simp only [Act.put, List.setIfInBounds_toArray, List.set_cons_zero, List.set_cons_succ]
    refine wpAnyH_take (i := 11) (oi := ⟨some 39, _, _, _, _, _⟩) (v := ?_) rfl (by kernel_rfl) (by kernel_rfl) (by kernel_rfl) (fun _ _ _ h => h) (Or.inl ⟨by rfl, ?_⟩) (by assumption) ?_; (rotate_left 1); (focus (intro wz hSw; (try dsimp only at hSw); go_simp; try (with_reducible rfl))); simp only [Act.put, List.setIfInBounds_toArray, List.set_cons_zero, List.set_cons_succ]
    refine wpAnyH_take (i := 12) (oi := ⟨some 40, _, _, _, _, _⟩) (v := ?_) rfl (by kernel_rfl) (by kernel_rfl) (by kernel_rfl) (fun _ _ _ h => h) (Or.inl ⟨by rfl, ?_⟩) (by assumption) ?_; (rotate_left 1); (focus (intro wz hSw; (try dsimp only at hSw); go_simp; try (with_reducible rfl))); simp only [Act.put, List.setIfInBounds_toArray, List.set_cons_zero, List.set_cons_succ]
    refine wpAnyH_take (i := 13) (oi := ⟨some 41, _, _, _, _, _⟩) (v := ?_) rfl (by kernel_rfl) (by kernel_rfl) (by kernel_rfl) (fun _ _ _ h => h) (Or.inl ⟨by rfl, ?_⟩) (by assumption) ?_; (rotate_left 1); (focus (intro wz hSw; (try dsimp only at hSw); go_simp; try (with_reducible rfl))); simp only [Act.put, List.setIfInBounds_toArray, List.set_cons_zero, List.set_cons_succ]
    refine wpAnyH_take (i := 14) (oi := ⟨some 42, _, _, _, _, _⟩) (v := ?_) rfl (by kernel_rfl) (by kernel_rfl) (by kernel_rfl) (fun _ _ _ h => h) (Or.inl ⟨by rfl, ?_⟩) (by assumption) ?_; (rotate_left 1); (focus (intro wz hSw; (try dsimp only at hSw); go_simp; try (with_reducible rfl))); simp only [Act.put, List.setIfInBounds_toArray, List.set_cons_zero, List.set_cons_succ]
    refine wpAnyH_take (i := 15) (oi := ⟨some 43, _, _, _, _, _⟩) (v := ?_) rfl (by kernel_rfl) (by kernel_rfl) (by kernel_rfl) (fun _ _ _ h => h) (Or.inl ⟨by rfl, ?_⟩) (by assumption) ?_; (rotate_left 1); (focus (intro wz hSw; (try dsimp only at hSw); go_simp; try (with_reducible rfl))); simp only [Act.put, List.setIfInBounds_toArray, List.set_cons_zero, List.set_cons_succ]
    refine wpAnyH_take (i := 16) (oi := ⟨some 44, _, _, _, _, _⟩) (v := ?_) rfl (by kernel_rfl) (by kernel_rfl) (by kernel_rfl) (fun _ _ _ h => h) (Or.inl ⟨by rfl, ?_⟩) (by assumption) ?_; (rotate_left 1); (focus (intro wz hSw; (try dsimp only at hSw); go_simp; try (with_reducible rfl))); simp only [Act.put, List.setIfInBounds_toArray, List.set_cons_zero, List.set_cons_succ]
    refine wpAnyH_ready (rs := [0]) (by kernel_rfl) (by simp) ?_; refine AllReadyH.cons rfl (fun K hK => ?_) AllReadyH.nil; go_simp; (try clear hHeld); refine hK.out _ _ ?_ (fun hHeld => ?_); focus (exact (show ∀ X, _ → _ from HSX) _ hBX)
    refine wpAnyH_ready (rs := [17]) (by kernel_rfl) (by simp) ?_; refine AllReadyH.cons (o := ⟨some 45, _, _, _, _, _⟩) rfl (fun K hK => ?_) AllReadyH.nil; refine stepApp rfl _ _ 22 rfl rfl rfl (hr2 _ _) ?_; (try clear hHeld); refine hK.out _ _ ?_ (fun hHeld => ?_); focus (exact (show ∀ X, _ → _ from HSX) _ hB1)
    simp only [Act.put, List.setIfInBounds_toArray, List.set_cons_zero, List.set_cons_succ]
    refine wpAnyH_take (i := 18) (oi := ⟨some 5, _, _, _, _, _⟩) (v := ?_) rfl (by kernel_rfl) (by kernel_rfl) (by kernel_rfl) (fun _ _ _ h => h) (Or.inl ⟨by rfl, ?_⟩) (by assumption) ?_; (rotate_left 1); (focus (intro wz hSw; (try dsimp only at hSw); go_simp; try (with_reducible rfl))); simp only [Act.put, List.setIfInBounds_toArray, List.set_cons_zero, List.set_cons_succ]
    refine wpAnyH_done (by kernel_rfl) ?_ _
    have hx1 := hx.bw hB1
    have y1 := hx1.c 1 _ rfl; have y1f := hx1.f 1 (by simp)
    have hrb := hx.lt
    have HO1 : Hid (Own8 w w1 (.slice (some ⟨w.heap.size, 0, none⟩) 0 0) []) := hO1
    clear x0 x1 x2 hr2 hO1
    go_wp2_with fail
    go_returns
    refine ⟨_, rfl, (show Own8 _ _ _ _ from HO1).away hrb 1 _, ?_, ((Bq.refl rb w).bw hB1).set 1 _⟩
    exact hx1.set 1 (by simp) (.int .i64 (0 : Int))
/-- What a number, bytes give: they, what is left, whether something was not there. -/
def Ref.num (L : List Int) (bd : Bool) : Int × List Int × Bool := if bd = true ∨ L.length < 4 then (0, L, true) else ((Fee.rw L false).1, L.drop 4, false)
def Ref.bytes (n : Int) (L : List Int) (bd : Bool) : List Int × List Int × Bool := if bd = true ∨ L.length < n.toNat then ([], L, true) else (L.take n.toNat, L.drop n.toNat, false)
/-- The reference's reader: its bytes L0, what is left of them. -/
def RdT (P : Nat → Prop) (w : World) (rb : Nat) (L0 L : List Int) (bd : Bool) : Prop :=
  ∃ q cap, ∃ a : Nat, Box w rb [.slice q L0.length cap, .int .i64 a, .bool bd] ∧ a ≤ L0.length ∧ L = L0.drop a ∧ Rd8 w (.slice q L0.length cap) L0 ∧ ∀ b, q = some b → 0 < L0.length → ¬ P b.block
theorem RdT.q {P : Nat → Prop} {w w' : World} {rb cap : Nat} {q : Option Addr} {L0 : List Int} (h : Rd8 w (.slice q L0.length cap) L0) (hP : P rb) (hq : ∀ b, q = some b → 0 < L0.length → ¬ P b.block) (g : Bq rb w w') : Rd8 w' (.slice q L0.length cap) L0 :=
  RdR.q h g (fun b k c e hk x => by
    simp at e
    obtain ⟨e1, e2, -⟩ := e
    exact hq b e1 (by omega) (x ▸ hP))
theorem Ref.num_ok {L0 : List Int} {a : Nat} (h : a + 4 ≤ L0.length) : Img.num L0 a 4 = (Fee.rw (L0.drop a) false).1 := by
  rw [Img.num4]
  obtain ⟨x0, h0⟩ : ∃ x, L0[a]? = some x := ⟨_, List.getElem?_eq_getElem (by omega)⟩
  obtain ⟨x1, h1⟩ : ∃ x, L0[a + 1]? = some x := ⟨_, List.getElem?_eq_getElem (by omega)⟩
  obtain ⟨x2, h2⟩ : ∃ x, L0[a + 2]? = some x := ⟨_, List.getElem?_eq_getElem (by omega)⟩
  obtain ⟨x3, h3⟩ : ∃ x, L0[a + 3]? = some x := ⟨_, List.getElem?_eq_getElem (by omega)⟩
  have d0 : L0.drop a = x0 :: L0.drop (a + 1) := by rw [List.drop_eq_getElem_cons (by omega)]; congr 1; rw [List.getElem?_eq_getElem (by omega)] at h0; simpa using h0
  have d1 : L0.drop (a + 1) = x1 :: L0.drop (a + 2) := by rw [List.drop_eq_getElem_cons (by omega)]; congr 1; rw [List.getElem?_eq_getElem (by omega)] at h1; simpa using h1
  have d2 : L0.drop (a + 2) = x2 :: L0.drop (a + 3) := by rw [List.drop_eq_getElem_cons (by omega)]; congr 1; rw [List.getElem?_eq_getElem (by omega)] at h2; simpa using h2
  have d3 : L0.drop (a + 3) = x3 :: L0.drop (a + 4) := by rw [List.drop_eq_getElem_cons (by omega)]; congr 1; rw [List.getElem?_eq_getElem (by omega)] at h3; simpa using h3
  rw [d0, d1, d2, d3]
  show _ = x0 + x1 * 256 + x2 * 65536 + x3 * 16777216
  have g : ∀ i x, L0[i]? = some x → Img.g L0 i = x := fun i x hx => by unfold Img.g; rw [List.getD_eq_getElem?_getD, hx]; rfl
  unfold Img.word Img.half
  rw [show a + 2 + 1 = a + 3 from rfl, g _ _ h0, g _ _ h1, g _ _ h2, g _ _ h3]
  omega
theorem numT_c (P : Nat → Prop) (w : World) (rb : Nat) (L0 L : List Int) (bd : Bool) (hP : P rb) (h : RdT P w rb L0 L bd) (h8 : B8s L0) (hl : L0.length ≤ 900000) :
    Calls Try.prog 19 #[.pointer (some ⟨rb, 0, none⟩), .int .i64 4] w fun e w' => e = .returned (.int .u32 (Ref.num L bd).1) ∧ RdT P w' rb L0 (Ref.num L bd).2.1 (Ref.num L bd).2.2 ∧ Bq rb w w' := by
  obtain ⟨q, cap, a, hb, ha, rfl, hR, hq⟩ := h
  have hk := fun w' (g : Bq rb w w') => RdT.q hR hP hq g
  have hln : (L0.drop a).length = L0.length - a := List.length_drop
  cases bd with
  | true =>
    rw [show Ref.num (L0.drop a) true = (0, L0.drop a, true) from if_pos (Or.inl rfl)]
    refine (rNum_bad (a : Int) rb 4 w hb).mono ?_
    rintro e w' ⟨rfl, hb', g⟩
    exact ⟨rfl, ⟨q, cap, a, hb', ha, rfl, hk _ g, hq⟩, g⟩
  | false =>
    by_cases h4 : L0.length < a + 4
    · rw [show Ref.num (L0.drop a) false = (0, L0.drop a, true) from if_pos (Or.inr (by omega))]
      refine (rNum_far a rb 4 w hb ha (by omega) h4).mono ?_
      rintro e w' ⟨rfl, hb', g⟩
      exact ⟨rfl, ⟨q, cap, a, hb', ha, rfl, hk _ g, hq⟩, g⟩
    · rw [show Ref.num (L0.drop a) false = ((Fee.rw (L0.drop a) false).1, (L0.drop a).drop 4, false) from if_neg (by simp; omega), ← Ref.num_ok (by omega)]
      obtain ⟨q', cap', e, hc1, hc2, hcell⟩ := hR.open
      simp at e
      obtain ⟨rfl, rfl⟩ := e
      obtain ⟨b, o, rfl, hbl, hc⟩ := hcell (by omega)
      refine (rNum_ok a rb 4 w hb h8 hc (by omega) (by omega) (by omega)).mono ?_
      rintro e w' ⟨rfl, hb', g⟩
      exact ⟨rfl, ⟨_, cap, a + 4, hb', by omega, by rw [List.drop_drop], hk _ g, hq⟩, g⟩
theorem bytesT_c (P : Nat → Prop) (w : World) (rb : Nat) (n : Int) (L0 L : List Int) (bd : Bool) (hP : P rb) (h : RdT P w rb L0 L bd) (hl : L0.length ≤ 900000) (hn0 : 0 ≤ n) (hn1 : n < 4294967296) :
    Calls Try.prog 20 #[.pointer (some ⟨rb, 0, none⟩), .int .u32 n] w fun e w' => ∃ v, e = .returned v ∧ Own8 w w' v (Ref.bytes n L bd).1 ∧ RdT P w' rb L0 (Ref.bytes n L bd).2.1 (Ref.bytes n L bd).2.2 ∧ Bq rb w w' := by
  obtain ⟨q, cap, a, hb, ha, rfl, hR, hq⟩ := h
  have hk := fun w' (g : Bq rb w w') => RdT.q hR hP hq g
  have hln : (L0.drop a).length = L0.length - a := List.length_drop
  cases bd with
  | true =>
    rw [show Ref.bytes n (L0.drop a) true = ([], L0.drop a, true) from if_pos (Or.inl rfl)]
    refine (rBytes_bad (a : Int) rb n w hb).mono ?_
    rintro e w' ⟨rfl, hb', g⟩
    exact ⟨_, rfl, Own8.nil _ _, ⟨q, cap, a, hb', ha, rfl, hk _ g, hq⟩, g⟩
  | false =>
    by_cases h4 : (L0.length : Int) < a + n
    · rw [show Ref.bytes n (L0.drop a) false = ([], L0.drop a, true) from if_pos (Or.inr (by omega))]
      refine (rBytes_far a rb n w hb ha hn0 hn1 h4).mono ?_
      rintro e w' ⟨rfl, hb', g⟩
      exact ⟨_, rfl, Own8.nil _ _, ⟨q, cap, a, hb', ha, rfl, hk _ g, hq⟩, g⟩
    · rw [show Ref.bytes n (L0.drop a) false = ((L0.drop a).take n.toNat, (L0.drop a).drop n.toNat, false) from if_neg (by simp; omega)]
      obtain ⟨m, rfl⟩ : ∃ m : Nat, n = m := ⟨n.toNat, by omega⟩
      rw [Int.toNat_natCast]
      obtain ⟨q', cap', e, hc1, hc2, hcell⟩ := hR.open
      simp at e
      obtain ⟨rfl, rfl⟩ := e
      by_cases hca : (∃ b o, q = some ⟨b, o, none⟩ ∧ b < w.heap.size ∧ ∀ (i : Nat) x, L0[i]? = some x → w.cell? ⟨b, o + i, none⟩ = some (.int .u8 x)) ∧ a < cap
      · obtain ⟨⟨b, o, rfl, hbl, hc⟩, hca⟩ := hca
        refine (rBytes_ok a m rb w hb hbl hc hc1 hc2 (by omega) (by omega) hca).mono ?_
        rintro e w' ⟨v, rfl, ho, hb', g⟩
        exact ⟨v, rfl, ho, ⟨_, cap, a + m, hb', by omega, by rw [List.drop_drop], hk _ g, hq⟩, g⟩
      · have hz : (∃ ad, q = some ad ∧ a = cap) ∨ (q = none ∧ L0 = []) ∨ (∃ ad, q = some ad ∧ L0 = [] ∧ 0 < cap) := by
          by_cases h0 : 0 < L0.length
          · obtain ⟨b, o, e1, e2, e3⟩ := hcell h0
            refine Or.inl ⟨_, e1, ?_⟩
            apply Decidable.byContradiction
            intro hne
            exact hca ⟨⟨b, o, e1, e2, e3⟩, by omega⟩
          · have hL : L0 = [] := List.eq_nil_of_length_eq_zero (by omega)
            cases q with
            | none => exact Or.inr (Or.inl ⟨rfl, hL⟩)
            | some ad =>
              by_cases hc0 : 0 < cap
              · exact Or.inr (Or.inr ⟨ad, rfl, hL, hc0⟩)
              · exact Or.inl ⟨ad, rfl, by omega⟩
        obtain rfl : m = 0 := by
          rcases hz with ⟨b, e1, e2⟩ | ⟨e1, e2⟩ | ⟨b, e1, e2, e3⟩
          · omega
          · rw [e2] at h4 ha; simp at h4 ha; omega
          · rw [e2] at h4 ha; simp at h4 ha; omega
        refine (rBytes_zero a rb w hb ha hc1 hc2 hz).mono ?_
        rintro e w' ⟨v, rfl, ho, hb', g⟩
        exact ⟨v, rfl, by simpa using ho, ⟨_, cap, a, hb', ha, by simp, hk _ g, hq⟩, g⟩
end Go.Proofs.Ytmecompcffphcaa
