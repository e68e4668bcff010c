/- LAYER 4's LAWS: ShadowNumbers. -/
import Derived.Test.YtgebmedkhakhfaaShLaws
import Derived.Test.YtgebmedkhakhfaaShTag
namespace Go.Proofs.Ytgebmedkhakhfaa
open Go.ChangeShapes Go.WideShapes Go.ChangeAt Go.RowKit Go.Shelf
set_option linter.unusedSimpArgs false
set_option linter.unusedVariables false

theorem Put_h {w0 w : World} {sb N : Nat} {S : SS} {ks : List Int} (h : HasS w0 w sb N S ks) (A n : Int) (hA : U4 A) (t : Nat → Int) (ht : ∀ i, 0 ≤ t i ∧ t i < 256) (m : Nat) (hm : (m : Int) = max 0 (min ((tsz n : Nat) : Int) (4294967296 - A))) (hN : N ≤ 1000000000) :
    Calls Try.prog 44 #[.pointer (some ⟨sb, 0, none⟩), .int .u32 A, .int .i64 n, .agg (tagv t)] w (SetH w0 w sb (N + rowN A m) S (S.put A t m)) := by
  obtain ⟨b, hk, L, hS, rfl⟩ := h
  have h4 := tsz_le n
  have hr := rowN_small (A := A) (m := m) (by unfold U4 at hA; omega)
  exact (Put_c hS A n hA t ht m hm hk (by unfold maxLen; omega)).mono fun e w' hp => SetPost.has b rfl hp
theorem Tag_h {w0 w : World} {sb N : Nat} {S : SS} {ks : List Int} (h : HasS w0 w sb N S ks) (A n : Int) (hA : U4 A) (m : Nat) (hm : (m : Int) = max 0 (min ((tsz n : Nat) : Int) (4294967296 - A))) :
    Calls Try.prog 40 #[.pointer (some ⟨sb, 0, none⟩), .int .u32 A, .int .i64 n] w fun e w' => e = .returned (.agg (tagv (fun j => if j < m then S.lab (A + j) else 0))) ∧ Below w.heap.size w w' := by
  obtain ⟨b, hk, L, hS, rfl⟩ := h
  exact Tag_c hS A n hA m hm
theorem numLab {S : SS} {x : Int} {t : Nat → Int} {sz : Nat} (h1 : ∀ i : Nat, i < sz → S.lab (x + i) = t i) (h2 : ∀ i : Nat, sz ≤ i → i < 5 → S.lab (x + i) = 9) {i : Nat} (hi : i < 5) : S.lab (x + i) = if i < sz then t i else 9 := by
  by_cases h : i < sz
  · rw [if_pos h]; exact h1 i h
  · rw [if_neg h]; exact h2 i (by omega) hi
theorem numCells {W : World} {B : Nat} {ty : TypeId} {t : Nat → Int} (h : BoxN W B ty (tagv t)) : W.cell? ⟨B, 0, none⟩ = some (.int .u8 (t 0)) ∧ W.cell? ⟨B, 1, none⟩ = some (.int .u8 (t 1)) ∧ W.cell? ⟨B, 2, none⟩ = some (.int .u8 (t 2)) ∧ W.cell? ⟨B, 3, none⟩ = some (.int .u8 (t 3)) :=
  ⟨h.at (by omega), h.at (by omega), h.at (by omega), h.at (by omega)⟩
set_option maxRecDepth 100000 in
set_option maxHeartbeats 4000000 in
theorem ShadowNumbers_w (x n : Int) (hx : U4 x) (t : Nat → Int) (ht : ∀ i, 0 ≤ t i ∧ t i < 256) (W : World) :
    Calls Try.prog 9 #[.int .u32 x, .agg (tagv t), .int .i64 n] W fun e w' => e = .returned (.bool true) ∧ Below W.heap.size W w' := by
  unfold tagv
  by_cases hn : n = 1 ∨ n = 2 ∨ n = 4
  · by_cases h5 : 4294967290 < x
    · rcases hn with rfl | rfl | rfl
      all_goals
        go_enter Try.func9, Try.ntmps9
        go_wp2_with fail
        refine (awake4_c _).mono ?_
        rintro e w1 ⟨rfl, b1⟩
        go_wp2_with fail
        go_returns
        exact ⟨rfl, bl_trans (bl_alloc (Below.refl _ _) _) b1⟩
    · have ux := hx
      obtain ⟨x0, x1⟩ := hx
      obtain ⟨sz, hz, hz1, hz4, hts⟩ : ∃ sz : Nat, (sz : Int) = n ∧ 1 ≤ sz ∧ sz ≤ 4 ∧ tsz n = sz := ⟨n.toNat, by omega, by omega, by omega, by unfold tsz; rw [if_neg (by omega)]⟩
      have g0 : Below W.heap.size W (W.alloc (.cells #[.int .u8 (t 0), .int .u8 (t 1), .int .u8 (t 2), .int .u8 (t 3)] 57)) := bl_alloc (Below.refl _ _) _
      have bT : BoxN (W.alloc (.cells #[.int .u8 (t 0), .int .u8 (t 1), .int .u8 (t 2), .int .u8 (t 3)] 57)) W.heap.size 57 (tagv t) := BoxN.new _ _ _
      have cT := fun (w : World) (hw : Below (W.alloc (.cells #[.int .u8 (t 0), .int .u8 (t 1), .int .u8 (t 2), .int .u8 (t 3)] 57)).heap.size (W.alloc (.cells #[.int .u8 (t 0), .int .u8 (t 1), .int .u8 (t 2), .int .u8 (t 3)] 57)) w) => numCells (bT.bl hw)
      have hE1 : ∀ ks, Enum ((⟨3, fun _ => 0⟩ : SS).put x (fun _ => 9) 5) ks → ks.length ≤ 2 := fun ks he => by
        have := he.le (ps := [x / 256, x / 256 + 1]) (fun k k0 k1 hk => nz_zero.2 (fun i hi => by
          simp only [List.mem_cons, List.not_mem_nil, or_false, not_or] at hk
          simp only [SS.pg, SS.put]
          rw [if_neg (by omega)]))
        simpa using this
      have hE2 : ∀ ks, Enum (((⟨3, fun _ => 0⟩ : SS).put x (fun _ => 9) 5).put x t sz) ks → ks.length ≤ 2 := fun ks he => by
        have := he.le (ps := [x / 256, x / 256 + 1]) (fun k k0 k1 hk => nz_zero.2 (fun i hi => by
          simp only [List.mem_cons, List.not_mem_nil, or_false, not_or] at hk
          simp only [SS.pg, SS.put]
          rw [if_neg (by omega), if_neg (by omega)]))
        simpa using this
      have hL1 : ∀ i : Nat, i < sz → (((⟨3, fun _ => 0⟩ : SS).put x (fun _ => 9) 5).put x t sz).lab (x + i) = t i := fun i hi => by
        simp only [SS.put]; rw [if_pos (by omega)]; congr 1; omega
      have hL2 : ∀ i : Nat, sz ≤ i → i < 5 → (((⟨3, fun _ => 0⟩ : SS).put x (fun _ => 9) 5).put x t sz).lab (x + i) = 9 := fun i hi h5 => by
        simp only [SS.put]; rw [if_neg (by omega), if_pos (by omega)]
      have hnz : (n = 1 ∧ sz = 1) ∨ (n = 2 ∧ sz = 2) ∨ (n = 4 ∧ sz = 4) := by omega
      clear hz hz1 hz4 hn
      rcases hnz with ⟨rfl, hq⟩ | ⟨rfl, hq⟩ | ⟨rfl, hq⟩
      all_goals
        have hz4 : sz ≤ 4 := by omega
        have HQ : Hid _ := hq
        clear hq
        go_enter Try.func9, Try.ntmps9
        go_wp2_with fail
        refine (awake4_c _).mono ?_
        rintro e w1 ⟨rfl, b1⟩
        go_wp2_with fail
        refine (SNew_h 3 (by omega) (by omega) (W.alloc (.cells #[.int .u8 (t 0), .int .u8 (t 1), .int .u8 (t 2), .int .u8 (t 3)] 57)) w1 b1).mono ?_
        rintro e w2 ⟨sb, rfl, b2, hs⟩
        go_wp2_with fail
        refine (Fill_h hs x 5 9 ux (by omega) (by omega) 5 (by omega) (by omega) (by omega)).mono ?_
        rintro e w3 (⟨ks1, he1, hf1, rfl, b3⟩ | ⟨ks1, rfl, h3, b3⟩)
        · have := hE1 _ he1
          simp at hf1
          omega
        obtain ⟨c0, c1, c2, c3⟩ := cT w3 h3.bl
        have hr5 := rowN_600 (A := x) (m := 5) (by omega)
        have P3 := Put_h h3 x _ ux t ht sz (by rw [hts]; omega) (by omega)
        unfold tagv at P3
        go_wp2_with fail
        refine P3.mono ?_
        rintro e w4 (⟨ks2, he2, hf2, rfl, b4⟩ | ⟨ks2, rfl, h4, b4⟩)
        · have := hE2 _ he2
          simp [SS.put] at hf2
          omega
        clear hE1 hE2 P3 h3 hs b1 b2 b3 b4
        have T4 := Tag_h h4 x _ ux sz (by rw [hts]; omega)
        obtain ⟨S2, hS2⟩ : ∃ S2, ((⟨3, fun _ => 0⟩ : SS).put x (fun _ => 9) 5).put x t sz = S2 := ⟨_, rfl⟩
        rw [hS2] at hL1 hL2 h4 T4
        clear hS2
        rw [tagv_congr (f := fun j => if j < sz then S2.lab (x + j) else 0) (g := fun j => if j < sz then t j else 0) (fun j _ => by split; exact hL1 j ‹_›; rfl)] at T4
        obtain ⟨u, hu⟩ : ∃ u : Nat → Int, (fun j => if j < sz then t j else 0) = u := ⟨_, rfl⟩
        have HU : Hid (∀ j, u j = if j < sz then t j else 0) := (fun j => by rw [← hu] : ∀ j, u j = if j < sz then t j else 0)
        rw [hu] at T4
        clear hu
        unfold tagv at T4
        go_wp2_with fail
        refine T4.mono ?_
        rintro e w5 ⟨rfl, b5⟩
        have h5' := h4.on b5
        go_wp2_with fail
        have h6 := h5'.on (bl_alloc (Below.refl _ _) (.cells #[.int .u8 (u 0), .int .u8 (u 1), .int .u8 (u 2), .int .u8 (u 3)] 57))
        have c6 := BoxN.new w5 57 #[.int .u8 (u 0), .int .u8 (u 1), .int .u8 (u 2), .int .u8 (u 3)]
        have t6 := bT.bl h6.bl
        obtain ⟨w6, hw6⟩ : ∃ w6, w5.alloc (.cells #[.int .u8 (u 0), .int .u8 (u 1), .int .u8 (u 2), .int .u8 (u 3)] 57) = w6 := ⟨_, rfl⟩
        rw [hw6] at h6 c6 t6 ⊢
        clear hw6 h5' h4 T4 cT c0 c1 c2 c3 bT b5 hr5
        have e0 : S2.lab x = if 0 < sz then t 0 else 9 := by have := numLab hL1 hL2 (i := 0) (by omega); rwa [show x + ((0 : Nat) : Int) = x by omega] at this
        have e1 : S2.lab (x + 1) = if 1 < sz then t 1 else 9 := numLab hL1 hL2 (i := 1) (by omega)
        have e2 : S2.lab (x + 2) = if 2 < sz then t 2 else 9 := numLab hL1 hL2 (i := 2) (by omega)
        have e3 : S2.lab (x + 3) = if 3 < sz then t 3 else 9 := numLab hL1 hL2 (i := 3) (by omega)
        have e4 : S2.lab (x + 4) = if 4 < sz then t 4 else 9 := numLab hL1 hL2 (i := 4) (by omega)
        have hq := HQ.out
        subst hq
        clear HQ hL1 hL2
        have hu' := HU.out
        have v0 := hu' 0
        have v1 := hu' 1
        have v2 := hu' 2
        have v3 := hu' 3
        clear hu' HU
        simp only [Nat.reduceLT, ↓reduceIte, Nat.lt_irrefl] at e0 e1 e2 e3 e4 v0 v1 v2 v3
        go_loopw [10] (fun v wr => ∃ (i : Nat), i ≤ 4 ∧ v = .int .i64 i ∧ Below w6.heap.size w6 wr) (fun v _ => 4 - (intOf v).toNat)
        case atStart => exact ⟨0, Nat.zero_le _, rfl, Below.refl _ _⟩
        case round =>
          obtain ⟨i, hi, rfl, b6⟩ := hrel
          have h7 := h6.on b6
          obtain ⟨p0, p1, p2, p3⟩ := numCells (c6.bl b6)
          obtain ⟨q0, q1, q2, q3⟩ := numCells (t6.bl b6)
          rw [v0] at p0
          rw [v1] at p1
          rw [v2] at p2
          rw [v3] at p3
          have AT : ∀ (wx : World), Below wr.heap.size wr wx → ∀ a, U4 a → Calls Try.prog 43 #[.pointer (some ⟨sb, 0, none⟩), .int .u32 a] wx fun e w' => e = .returned (.int .u8 (S2.lab a)) ∧ w' = wx := fun wx hx a ua => SAt_h (h7.on hx) a ua
          have h6b := h6.bl
          clear h6 h7 c6 t6 v0 v1 v2 v3
          have hi' : i = 0 ∨ i = 1 ∨ i = 2 ∨ i = 3 ∨ i = 4 := by omega
          rcases hi' with rfl | rfl | rfl | rfl | rfl
          iterate 4
            · go_wp2_with fail
              go_quiet (first | (go_at_call 43; refine Calls.quiet_of_same (AT _ (by (repeat' (first | (with_reducible assumption) | (with_reducible exact Below.refl _ _) | (with_reducible refine Below.drew ?_) | (with_reducible refine blN ?_ _) | (with_reducible refine bl_alloc ?_ _) | (with_reducible refine bl_trans ?_ (by assumption))))) _ (by unfold U4; omega))))
              go_wp2_with fail
              first | exact ⟨⟨1, by decide, rfl, blN b6 nq⟩, by decide⟩ | exact ⟨⟨2, by decide, rfl, blN b6 nq⟩, by decide⟩ | exact ⟨⟨3, by decide, rfl, blN b6 nq⟩, by decide⟩ | exact ⟨⟨4, by decide, rfl, blN b6 nq⟩, by decide⟩
          · go_wp2_with fail
            refine (AT _ (Below.refl _ _) _ (by unfold U4; omega)).mono ?_
            rintro e w8 ⟨rfl, rfl⟩
            first
              | (go_wp2_with fail
                 go_returns
                 exact ⟨rfl, bl_trans g0 (bl_trans h6b b6)⟩)
              | (go_wp2_with fail
                 refine (AT _ (Below.refl _ _) _ (by unfold U4; omega)).mono ?_
                 rintro e w9 ⟨rfl, rfl⟩
                 go_wp2_with fail
                 go_returns
                 exact ⟨rfl, bl_trans g0 (bl_trans h6b b6)⟩)
  · have n1 : ¬ n = 1 := by omega
    have n2 : ¬ n = 2 := by omega
    have n4 : ¬ n = 4 := by omega
    go_enter Try.func9, Try.ntmps9
    go_wp2_with fail
    refine (awake4_c _).mono ?_
    rintro e w1 ⟨rfl, b1⟩
    go_wp2_with fail
    go_returns
    exact ⟨rfl, bl_trans (bl_alloc (Below.refl _ _) _) b1⟩
end Go.Proofs.Ytgebmedkhakhfaa
