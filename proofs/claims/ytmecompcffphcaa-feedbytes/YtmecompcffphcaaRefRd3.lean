/- The reference of chapters 7 to 11: Reader.Bytes. -/
import Derived.Test.YtmecompcffphcaaRefRd2
import Derived.Lib.EndianBits
namespace Go.Proofs.Ytmecompcffphcaa
open Go.ChangeShapes Go.WideShapes Go.ChangeAt Go.RowKit
set_option linter.unusedSimpArgs false

theorem Rd8.cutR {w : World} {b o cap : Nat} {l : List Int} (hbl : b < w.heap.size) (hc : ∀ i x, l[i]? = some x → w.cell? ⟨b, o + i, none⟩ = some (.int .u8 x)) (hcap : l.length ≤ cap) (hc2 : cap ≤ 9223372036854775807) (i m : Nat) (him : i + m ≤ l.length) :
    Rd8 w (.slice (if cap = i then some ⟨b, o, none⟩ else some ⟨b, o + i, none⟩) m (cap - i)) (Img.cut l i m) := by
  by_cases h : cap = i
  · obtain rfl : m = 0 := by omega
    rw [if_pos h]
    have : Img.cut l i 0 = [] := by simp [Img.cut]
    rw [this]
    exact ⟨_, cap - i, rfl, by simp, by omega, by simp [ints8], fun h => by simp at h⟩
  · rw [if_neg h]
    exact Rd8.part hbl hc i m him (by omega) (by omega)
theorem Own8.new0 (w0 w : World) (h : w0.heap.size ≤ w.heap.size) : Own8 w0 (w.alloc (.cells #[] 5)) (.slice (some ⟨w.heap.size, 0, none⟩) 0 0) [] :=
  Or.inr ⟨w.heap.size, 0, rfl, h, by simp, Nat.le_refl _, by unfold maxLen; omega, by simp, fun j hj => by omega⟩
theorem Own8.away {w0 w : World} {v : Value} {l : List Int} (h : Own8 w0 w v l) {b : Nat} (hb : b < w0.heap.size) (j : Nat) (x : Value) : Own8 w0 (w.setCell ⟨b, j, none⟩ x) v l := by
  rcases h with h | ⟨g, cap, rfl, h1, h2, h3, h4, h5, h6⟩
  · exact Or.inl h
  · have hk : (w.setCell ⟨b, j, none⟩ x).heap[g]? = w.heap[g]? := Below.heap_setCell _ _ _ _ (by show g ≠ b; omega)
    refine Or.inr ⟨g, cap, rfl, h1, by simpa [World.setCell] using h2, h3, h4, fun i y hy => ?_, fun i hi => ?_⟩
    · rw [cell_block (p := ⟨g, i, none⟩) hk]; exact h5 i y hy
    · rw [cell_block (p := ⟨g, i, none⟩) hk, frozen_block (p := ⟨g, i, none⟩) hk]; exact h6 i hi
set_option maxHeartbeats 2000000 in
set_option maxRecDepth 100000 in
theorem rBytes_bad {vb : Value} (at' : Int) (rb : Nat) (n : Int) (w : World) (hx : Box w rb [vb, .int .i64 at', .bool true]) : Calls Try.prog 20 #[.pointer (some ⟨rb, 0, none⟩), .int .u32 n] w fun e w' => e = .returned (.slice none 0 0) ∧ Box w' rb [vb, .int .i64 at', .bool true] ∧ Bq rb w w' := by
  have x0 := hx.c 0 _ rfl; have x1 := hx.c 1 _ rfl; have x2 := hx.c 2 _ rfl
  have f2 := hx.f 2 (by simp)
  go_enter Try.func20, Try.ntmps20
  go_wp2_with fail
  go_region
  go_wp2_with fail
  go_returns
  exact ⟨rfl, (hx.bw ((Bw.refl w).drew)).set 2 (by simp) (.bool true), ((Bq.refl rb w).bw ((Bw.refl w).drew)).set 2 _⟩
set_option maxHeartbeats 2000000 in
set_option maxRecDepth 100000 in
theorem rBytes_far {vq : Option Addr} {cap : Nat} {L : List Int} (a rb : Nat) (n : Int) (w : World) (hx : Box w rb [.slice vq L.length cap, .int .i64 a, .bool false]) (ha : a ≤ L.length) (hn0 : 0 ≤ n) (hn1 : n < 4294967296) (hf : (L.length : Int) < a + n) : Calls Try.prog 20 #[.pointer (some ⟨rb, 0, none⟩), .int .u32 n] w fun e w' => e = .returned (.slice none 0 0) ∧ Box w' rb [.slice vq L.length cap, .int .i64 a, .bool true] ∧ Bq rb w w' := by
  have x0 := hx.c 0 _ rfl; have x1 := hx.c 1 _ rfl; have x2 := hx.c 2 _ rfl
  have f2 := hx.f 2 (by simp)
  have m1 : IntKind.i64.wrap ((L.length : Int) - a) = (L.length : Int) - a := by rw [IntKind.wrap_i64]; omega
  have m2 : IntKind.i64.wrap n = n := by rw [IntKind.wrap_i64]; omega
  have d1 : ((L.length : Int) - a) < n := by omega
  go_enter Try.func20, Try.ntmps20
  go_wp2_with fail
  go_region
  go_wp2_with fail
  go_returns
  exact ⟨rfl, (hx.bw ((Bw.refl w).drew)).set 2 (by simp) (.bool true), ((Bq.refl rb w).bw ((Bw.refl w).drew)).set 2 _⟩
set_option maxHeartbeats 2000000 in
set_option maxRecDepth 100000 in
theorem rBytes_ok {b o cap : Nat} {L : List Int} (a n rb : Nat) (w : World) (hx : Box w rb [.slice (some ⟨b, o, none⟩) L.length cap, .int .i64 a, .bool false]) (hbl : b < w.heap.size) (hc : ∀ (j : Nat) x, L[j]? = some x → w.cell? ⟨b, o + j, none⟩ = some (.int .u8 x)) (hcap : L.length ≤ cap) (hc2 : cap ≤ 9223372036854775807) (hl : L.length ≤ 1000000) (hf : a + n ≤ L.length) (hca : a < cap) : Calls Try.prog 20 #[.pointer (some ⟨rb, 0, none⟩), .int .u32 n] w fun e w' => ∃ v', e = .returned v' ∧ Own8 w w' v' (Img.cut L a n) ∧ Box w' rb [.slice (some ⟨b, o, none⟩) L.length cap, .int .i64 ((a + n : Nat) : Int), .bool false] ∧ Bq rb w w' := by
  have x0 := hx.c 0 _ rfl; have x1 := hx.c 1 _ rfl; have x2 := hx.c 2 _ rfl
  have m1 : IntKind.i64.wrap ((L.length : Int) - a) = (L.length : Int) - a := by rw [IntKind.wrap_i64]; omega
  have m2 : IntKind.i64.wrap (n : Int) = n := by rw [IntKind.wrap_i64]; omega
  have m3 : IntKind.i64.wrap ((a : Int) + n) = (a : Int) + n := by rw [IntKind.wrap_i64]; omega
  have d1 : (n : Int) ≤ (L.length : Int) - a := by omega
  have i1 : (a : Int) ≤ (a : Int) + n := by omega
  have i2 : (a : Int) + n ≤ cap := by omega
  go_enter Try.func20, Try.ntmps20
  go_wp2_with fail
  go_region
  go_wp2_with fail
  have hD := (Bw.refl w).drew
  have hBX : Bw w ((w.alloc (.cells #[] 5)).drew.drew) := (((Bw.refl w).alloc _).drew).drew
  have hO0 := (Own8.new0 w w (Nat.le_refl _)).bw (((Bw.refl _).drew).drew)
  have hne : cap ≠ a := by omega
  have hm : ((a : Int) + (n : Int)).toNat - a = n := by omega
  have hR8 := (Rd8.cutR hbl hc hcap hc2 a n hf).bw hBX
  rw [if_neg hne] at hR8
  obtain ⟨v1, w1, hr1, hO1, hB1, -⟩ := app8S hO0 hBX hR8 (by rw [Img.cut_len hf]; simp; omega)
  rw [List.nil_append] at hO1
  have hr2 : (Builtin.append_ #[22, 22] 22 #[.slice (some ⟨w.heap.size, 0, none⟩) 0 0, .slice (some ⟨b, o + a, none⟩) n (cap - a)]).run Try.prog ((w.alloc (.cells #[] 5)).drew.drew) = .ok v1 w1 := hr1
  clear hr1
  have HSX : Hid (∀ X, Bw w X → (X.cell? ⟨rb, 0, none⟩ = some (.slice (some ⟨b, o, none⟩) L.length cap) ∧ X.cell? ⟨rb, 1, none⟩ = some (.int .i64 a))) := fun X g => ⟨g.keep x0, g.keep x1⟩
  refine wp_region_held_drew (S := fun X => X.cell? ⟨rb, 0, none⟩ = some (.slice (some ⟨b, o, none⟩) L.length cap) ∧ X.cell? ⟨rb, 1, none⟩ = some (.int .i64 a)) (by kernel_rfl) ((show ∀ X, _ → _ from HSX) _ (((Bw.refl w).drew).drew)) (fun hHeld => ?_)
  refine wpAnyH_take (i := 1) (oi := ⟨some 29, _, _, _, _, _⟩) (v := ?_) rfl (by kernel_rfl) (by kernel_rfl) (by kernel_rfl) (fun _ _ _ h => h) (Or.inl ⟨by rfl, ?_⟩) (by assumption) ?_; (rotate_left 1); (focus (intro wz hSw; (try dsimp only at hSw); go_simp; try (with_reducible rfl))); simp only [Act.put, List.setIfInBounds_toArray, List.set_cons_zero, List.set_cons_succ]
  refine wpAnyH_take (i := 2) (oi := ⟨some 30, _, _, _, _, _⟩) (v := ?_) rfl (by kernel_rfl) (by kernel_rfl) (by kernel_rfl) (fun _ _ _ h => h) (Or.inl ⟨by rfl, ?_⟩) (by assumption) ?_; (rotate_left 1); (focus (intro wz hSw; (try dsimp only at hSw); go_simp; try (with_reducible rfl))); simp only [Act.put, List.setIfInBounds_toArray, List.set_cons_zero, List.set_cons_succ]
  refine wpAnyH_take (i := 3) (oi := ⟨some 31, _, _, _, _, _⟩) (v := ?_) rfl (by kernel_rfl) (by kernel_rfl) (by kernel_rfl) (fun _ _ _ h => h) (Or.inl ⟨by rfl, ?_⟩) (by assumption) ?_; (rotate_left 1); (focus (intro wz hSw; (try dsimp only at hSw); go_simp; try (with_reducible rfl))); simp only [Act.put, List.setIfInBounds_toArray, List.set_cons_zero, List.set_cons_succ]
  refine wpAnyH_take (i := 4) (oi := ⟨some 32, _, _, _, _, _⟩) (v := ?_) rfl (by kernel_rfl) (by kernel_rfl) (by kernel_rfl) (fun _ _ _ h => h) (Or.inl ⟨by rfl, ?_⟩) (by assumption) ?_; (rotate_left 1); (focus (intro wz hSw; (try dsimp only at hSw); go_simp; try (with_reducible rfl))); simp only [Act.put, List.setIfInBounds_toArray, List.set_cons_zero, List.set_cons_succ]
  refine wpAnyH_take (i := 5) (oi := ⟨some 33, _, _, _, _, _⟩) (v := ?_) rfl (by kernel_rfl) (by kernel_rfl) (by kernel_rfl) (fun _ _ _ h => h) (Or.inl ⟨by rfl, ?_⟩) (by assumption) ?_; (rotate_left 1); (focus (intro wz hSw; (try dsimp only at hSw); go_simp; try (with_reducible rfl))); simp only [Act.put, List.setIfInBounds_toArray, List.set_cons_zero, List.set_cons_succ]
  refine wpAnyH_take (i := 6) (oi := ⟨some 34, _, _, _, _, _⟩) (v := ?_) rfl (by kernel_rfl) (by kernel_rfl) (by kernel_rfl) (fun _ _ _ h => h) (Or.inl ⟨by rfl, ?_⟩) (by assumption) ?_; (rotate_left 1); (focus (intro wz hSw; (try dsimp only at hSw); go_simp; try (with_reducible rfl))); simp only [Act.put, List.setIfInBounds_toArray, List.set_cons_zero, List.set_cons_succ]
  refine wpAnyH_take (i := 7) (oi := ⟨some 35, _, _, _, _, _⟩) (v := ?_) rfl (by kernel_rfl) (by kernel_rfl) (by kernel_rfl) (fun _ _ _ h => h) (Or.inl ⟨by rfl, ?_⟩) (by assumption) ?_; (rotate_left 1); (focus (intro wz hSw; (try dsimp only at hSw); go_simp; try (with_reducible rfl))); simp only [Act.put, List.setIfInBounds_toArray, List.set_cons_zero, List.set_cons_succ]
  refine wpAnyH_take (i := 8) (oi := ⟨some 36, _, _, _, _, _⟩) (v := ?_) rfl (by kernel_rfl) (by kernel_rfl) (by kernel_rfl) (fun _ _ _ h => h) (Or.inl ⟨by rfl, ?_⟩) (by assumption) ?_; (rotate_left 1); (focus (intro wz hSw; (try dsimp only at hSw); go_simp; try (with_reducible rfl))); simp only [Act.put, List.setIfInBounds_toArray, List.set_cons_zero, List.set_cons_succ]
  refine wpAnyH_take (i := 9) (oi := ⟨some 37, _, _, _, _, _⟩) (v := ?_) rfl (by kernel_rfl) (by kernel_rfl) (by kernel_rfl) (fun _ _ _ h => h) (Or.inl ⟨by rfl, ?_⟩) (by assumption) ?_; (rotate_left 1); (focus (intro wz hSw; (try dsimp only at hSw); go_simp; try (with_reducible rfl))); simp only [Act.put, List.setIfInBounds_toArray, List.set_cons_zero, List.set_cons_succ]
  refine wpAnyH_take (i := 10) (oi := ⟨some 38, _, _, _, _, _⟩) (v := ?_) rfl (by kernel_rfl) (by kernel_rfl) (by kernel_rfl) (fun _ _ _ h => h) (Or.inl ⟨by rfl, ?_⟩) (by assumption) ?_; (rotate_left 1); (focus (intro wz hSw; (try dsimp only at hSw); go_simp; try (with_reducible rfl))); simp only [Act.put, List.setIfInBounds_toArray, List.set_cons_zero, List.set_cons_succ]
  refine wpAnyH_take (i := 11) (oi := ⟨some 39, _, _, _, _, _⟩) (v := ?_) rfl (by kernel_rfl) (by kernel_rfl) (by kernel_rfl) (fun _ _ _ h => h) (Or.inl ⟨by rfl, ?_⟩) (by assumption) ?_; (rotate_left 1); (focus (intro wz hSw; (try dsimp only at hSw); go_simp; try (with_reducible rfl))); simp only [Act.put, List.setIfInBounds_toArray, List.set_cons_zero, List.set_cons_succ]
  refine wpAnyH_take (i := 12) (oi := ⟨some 40, _, _, _, _, _⟩) (v := ?_) rfl (by kernel_rfl) (by kernel_rfl) (by kernel_rfl) (fun _ _ _ h => h) (Or.inl ⟨by rfl, ?_⟩) (by assumption) ?_; (rotate_left 1); (focus (intro wz hSw; (try dsimp only at hSw); go_simp; try (with_reducible rfl))); simp only [Act.put, List.setIfInBounds_toArray, List.set_cons_zero, List.set_cons_succ]
  refine wpAnyH_take (i := 13) (oi := ⟨some 41, _, _, _, _, _⟩) (v := ?_) rfl (by kernel_rfl) (by kernel_rfl) (by kernel_rfl) (fun _ _ _ h => h) (Or.inl ⟨by rfl, ?_⟩) (by assumption) ?_; (rotate_left 1); (focus (intro wz hSw; (try dsimp only at hSw); go_simp; try (with_reducible rfl))); simp only [Act.put, List.setIfInBounds_toArray, List.set_cons_zero, List.set_cons_succ]
  refine wpAnyH_take (i := 14) (oi := ⟨some 42, _, _, _, _, _⟩) (v := ?_) rfl (by kernel_rfl) (by kernel_rfl) (by kernel_rfl) (fun _ _ _ h => h) (Or.inl ⟨by rfl, ?_⟩) (by assumption) ?_; (rotate_left 1); (focus (intro wz hSw; (try dsimp only at hSw); go_simp; try (with_reducible rfl))); simp only [Act.put, List.setIfInBounds_toArray, List.set_cons_zero, List.set_cons_succ]
  refine wpAnyH_take (i := 15) (oi := ⟨some 43, _, _, _, _, _⟩) (v := ?_) rfl (by kernel_rfl) (by kernel_rfl) (by kernel_rfl) (fun _ _ _ h => h) (Or.inl ⟨by rfl, ?_⟩) (by assumption) ?_; (rotate_left 1); (focus (intro wz hSw; (try dsimp only at hSw); go_simp; try (with_reducible rfl))); simp only [Act.put, List.setIfInBounds_toArray, List.set_cons_zero, List.set_cons_succ]
  refine wpAnyH_take (i := 16) (oi := ⟨some 44, _, _, _, _, _⟩) (v := ?_) rfl (by kernel_rfl) (by kernel_rfl) (by kernel_rfl) (fun _ _ _ h => h) (Or.inl ⟨by rfl, ?_⟩) (by assumption) ?_; (rotate_left 1); (focus (intro wz hSw; (try dsimp only at hSw); go_simp; try (with_reducible rfl))); simp only [Act.put, List.setIfInBounds_toArray, List.set_cons_zero, List.set_cons_succ]
  refine wpAnyH_ready (rs := [0]) (by kernel_rfl) (by simp) ?_; refine AllReadyH.cons rfl (fun K hK => ?_) AllReadyH.nil; go_simp; (try clear hHeld); refine hK.out _ _ ?_ (fun hHeld => ?_); focus (exact (show ∀ X, _ → _ from HSX) _ hBX)
  refine wpAnyH_ready (rs := [17]) (by kernel_rfl) (by simp) ?_; refine AllReadyH.cons (o := ⟨some 45, _, _, _, _, _⟩) rfl (fun K hK => ?_) AllReadyH.nil; refine stepApp rfl _ _ 22 rfl rfl rfl hr2 ?_; (try clear hHeld); refine hK.out _ _ ?_ (fun hHeld => ?_); focus (exact (show ∀ X, _ → _ from HSX) _ hB1)
  simp only [Act.put, List.setIfInBounds_toArray, List.set_cons_zero, List.set_cons_succ]
  refine wpAnyH_take (i := 18) (oi := ⟨some 5, _, _, _, _, _⟩) (v := ?_) rfl (by kernel_rfl) (by kernel_rfl) (by kernel_rfl) (fun _ _ _ h => h) (Or.inl ⟨by rfl, ?_⟩) (by assumption) ?_; (rotate_left 1); (focus (intro wz hSw; (try dsimp only at hSw); go_simp; try (with_reducible rfl))); simp only [Act.put, List.setIfInBounds_toArray, List.set_cons_zero, List.set_cons_succ]
  refine wpAnyH_done (by kernel_rfl) ?_ _
  have hx1 := hx.bw hB1
  have y1 := hx1.c 1 _ rfl; have y1f := hx1.f 1 (by simp)
  have hrb := hx.lt
  have HO1 : Hid _ := hO1
  clear x0 x1 x2 hr2 hO1
  go_wp2_with fail
  go_returns
  refine ⟨v1, rfl, (show Own8 _ _ _ _ from HO1).away hrb 1 _, ?_, ((Bq.refl rb w).bw hB1).set 1 _⟩
  have := hx1.set 1 (by simp) (.int .i64 ((a : Int) + n))
  rw [show (((a + n : Nat)) : Int) = (a : Int) + n by omega]
  exact this
end Go.Proofs.Ytmecompcffphcaa
