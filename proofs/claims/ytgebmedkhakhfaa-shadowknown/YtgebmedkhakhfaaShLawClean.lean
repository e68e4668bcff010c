/- LAYER 4's LAWS: ShadowClean. -/
import Derived.Test.YtgebmedkhakhfaaShLawAny
import Derived.Test.YtgebmedkhakhfaaShClear
import Derived.Test.YtgebmedkhakhfaaShArgsA
namespace Go.Proofs.Ytgebmedkhakhfaa
open Go.ChangeShapes Go.WideShapes Go.ChangeAt Go.RowKit Go.Shelf
set_option linter.unusedSimpArgs false
set_option linter.unusedVariables false

theorem Clear_h {w0 w : World} {sb N : Nat} {S : SS} {ks : List Int} (h : HasS w0 w sb N S ks) (A c : Int) (hA : U4 A) (hc0 : -9223372036854775808 ≤ c) (hc1 : c ≤ 9223372036854775807) (m : Nat) (hm : (m : Int) = max 0 (min c (4294967296 - A))) (hN : N ≤ 1000000000) :
    Calls Try.prog 42 #[.pointer (some ⟨sb, 0, none⟩), .int .u32 A, .int .i64 c] w fun e w' => ∃ ks', e = .returned (.tuple #[]) ∧ HasS w0 w' sb (N + 4096) (S.put A (fun _ => 0) m) ks' ∧ Below w0.heap.size w w' := by
  obtain ⟨b, hk, L, hS, rfl⟩ := h
  have hb := hS.bud
  refine (Clear_c hS A c hA hc0 hc1 m hm (by omega) (by unfold maxLen; omega)).mono ?_
  rintro e w' ⟨rfl, hF, L', G, hS', hG, hl⟩
  have z := b.size
  have b1 : Below w0.heap.size w w' := hF.bl z (fun i hi x => x.1)
  refine ⟨L'.ks, rfl, ⟨b.trans b1, by show (L'.ks.length : Int) ≤ S.budget; omega, L', hS'.mono (fun i hi => ⟨?_, hS'.lt i hi⟩) (fun i hi => hi.2) (by omega), rfl⟩, b1⟩
  rcases hG.2 i hi with x | ⟨x, _⟩
  · exact x.1
  · omega
/-- A Set, whatever it answers. -/
theorem Set_any {w0 w : World} {sb N : Nat} {S : SS} {ks : List Int} (h : HasS w0 w sb N S ks) (A : Int) (hA : U4 A) {v : Value} {bn : Nat} {bs : Nat → Int} (hb : BArg w0 v bn bs) (hl : bn ≤ 300) (hN : N ≤ 1000000000) :
    Calls Try.prog 39 #[.pointer (some ⟨sb, 0, none⟩), .int .u32 A, v] w fun e w' => ∃ (x : Int) (T : SS) (ks' : List Int) (M : Nat), e = .returned (.int .i64 x) ∧ HasS w0 w' sb M T ks' ∧ M ≤ N + 4 ∧ T.budget = S.budget ∧ ∀ a, T.lab a ≠ 0 → S.lab a ≠ 0 ∨ (A ≤ a ∧ a < A + bn ∧ a < 4294967296) := by
  obtain ⟨g, o, cap, sa, hg⟩ := hb.sarg h.bl
  obtain ⟨a0, a1⟩ := hA
  obtain ⟨m, hm⟩ : ∃ m : Nat, (m : Int) = max 0 (min (bn : Int) (4294967296 - A)) := ⟨(max 0 (min (bn : Int) (4294967296 - A))).toNat, by omega⟩
  have hr := rowN_600 (A := A) (m := m) (by omega)
  refine (Set_h h A ⟨a0, a1⟩ sa m hm (by omega) hN hg).mono ?_
  rintro e w' (⟨ks', he, hf, rfl, b⟩ | ⟨ks', rfl, hT, b⟩)
  · exact ⟨6, S, ks, N, rfl, h.on b, by omega, rfl, fun a x => .inl x⟩
  · refine ⟨0, _, ks', _, rfl, hT, by omega, rfl, fun a x => ?_⟩
    unfold SS.put at x
    dsimp only at x
    by_cases e : A ≤ a ∧ a < A + m
    · exact .inr (by omega)
    · rw [if_neg e] at x; exact .inl x
/-- Behind the acts' first i. -/
def ClnA (f : Nat → Act4) (i n : Nat) (S : SS) : Prop := ∀ a, S.lab a ≠ 0 → a < 4294967296 ∧ ∃ j, i ≤ j ∧ j < n ∧ (f j).a ≤ a ∧ a < (f j).a + (f j).bn
set_option maxRecDepth 100000 in
set_option maxHeartbeats 4000000 in
theorem ShadowClean_w {W : World} {v : Value} {n : Nat} {f : Nat → Act4} (ha : AArg W v n f) :
    Calls Try.prog 8 #[v] W fun e w' => e = .returned (.bool true) ∧ Below W.heap.size W w' := by
  obtain ⟨q, cap, rfl, hnc, hact, hcell⟩ := ha
  by_cases h1 : 20 < (n : Int)
  · (go_enter Try.func8, Try.ntmps8; go_wp2_with fail; refine (awake4_c _).mono ?_; rintro e w1 ⟨rfl, b1⟩; go_wp2_with fail; go_returns; exact ⟨rfl, b1⟩)
  go_enter Try.func8, Try.ntmps8
  go_wp2_with fail
  refine (awake4_c _).mono ?_
  rintro e w1 ⟨rfl, b1⟩
  go_wp2_with fail
  refine (SNew_h 100 (by omega) (by omega) W w1 b1).mono ?_
  rintro e w2 ⟨sb, rfl, b2, hs⟩
  go_wp2_with fail
  go_loopw [5] (fun x wr => ∃ (i N : Nat) (S : SS) (ks : List Int), i ≤ n ∧ x = .int .i64 i ∧ HasS W wr sb N S ks ∧ S.budget = 100 ∧ N ≤ 5000 * i ∧ ClnA f 0 i S ∧ ∀ j, j < i → (f j).bn ≤ 300) (fun x _ => n - (intOf x).toNat)
  case atStart => exact ⟨0, 0, _, _, Nat.zero_le _, rfl, hs, rfl, by omega, fun a x => absurd rfl x, fun j hj => by omega⟩
  case round =>
    clear hs
    obtain ⟨i, N, S, ks, hi, rfl, hs, hSb, hN, hcl, h300⟩ := hrel
    by_cases hlt : (i : Int) < n
    · have hin : i < n := by omega
      obtain ⟨gb, go, rfl, hgb, hc⟩ := hcell (by omega)
      obtain ⟨_, _, D2, _, D4⟩ := hc i hin
      obtain ⟨uA, hB⟩ := hact i hin
      have hB' := hB
      obtain ⟨qb, cb, hbv, _, _, _, _⟩ := hB'
      rw [hbv] at D4 hB
      obtain ⟨A, hA⟩ : ∃ A, (f i).a = A := ⟨_, rfl⟩
      obtain ⟨bn, hbn⟩ : ∃ bn, (f i).bn = bn := ⟨_, rfl⟩
      obtain ⟨bs, hbs⟩ : ∃ bs, (f i).bs = bs := ⟨_, rfl⟩
      rw [hA] at D2 uA
      rw [hbn] at D4
      rw [hbn, hbs] at hB
      have HA : Hid ((f i).a = A) := hA
      have HB : Hid ((f i).bn = bn) := hbn
      have HD2 : Hid _ := D2
      have HD4 : Hid _ := D4
      clear hbv hA hbn hbs D2 D4 hc
      have c2 := bl_keep hs.bl HD2.out
      have c4 := bl_keep hs.bl HD4.out
      by_cases hbig : 300 < (bn : Int)
      · go_wp2_with fail
        go_returns
        exact ⟨rfl, hs.bl⟩
      · have hsd := hs.on (Below.drew (Below.refl _ _))
        have hcall := Set_any hsd A uA hB (by omega) (by omega)
        go_wp2_with fail
        go_region_held3 (fun wx => wx.cell? ⟨gb, go + i * 9 + 2, none⟩ = some (.int .u32 A) ∧ wx.cell? ⟨gb, go + i * 9 + 4, none⟩ = some (.slice qb bn cb)) (first | exact ⟨bl_keep h3.bl HD2.out, bl_keep h3.bl HD4.out⟩ | exact ⟨c2, c4⟩)
          (first | (go_at_call 39; refine hcall.mono ?_; rintro e w3 ⟨x3, T3, ks3, M3, rfl, h3, hM3, hb3, hl3⟩))
        obtain ⟨m, hm⟩ : ∃ m : Nat, (m : Int) = max 0 (min (bn : Int) (4294967296 - A)) := ⟨(max 0 (min (bn : Int) (4294967296 - A))).toNat, by omega⟩
        have hcall2 := Clear_h (h3.on (Below.drew (Below.refl _ _))) A bn uA (by omega) (by omega) m hm (by omega)
        have HM : Hid _ := hm
        clear hm hcall c2 c4 hsd hs
        have c2 := bl_keep h3.bl HD2.out
        have c4 := bl_keep h3.bl HD4.out
        go_wp2_with fail
        go_region_held3 (fun wx => wx.cell? ⟨gb, go + i * 9 + 2, none⟩ = some (.int .u32 A) ∧ wx.cell? ⟨gb, go + i * 9 + 4, none⟩ = some (.slice qb bn cb)) (first | exact ⟨bl_keep h4.bl HD2.out, bl_keep h4.bl HD4.out⟩ | exact ⟨c2, c4⟩)
          (first | (go_at_call 42; refine hcall2.mono ?_; rintro e w4 ⟨ks4, rfl, h4, b4⟩))
        have hcall3 := Any_h (h4.on (Below.drew (Below.refl _ _))) A bn uA (by omega) (by omega) m HM.out
        clear hcall2 c2 c4
        have c2 := bl_keep h4.bl HD2.out
        have c4 := bl_keep h4.bl HD4.out
        have hz : ∀ r, OrP (T3.put A (fun _ => 0) m).lab (fun a => A ≤ a ∧ a < A + m) r → r = 0 := fun r hr => hr.eq (OrP.none _ _ (fun a ha => by show (if _ then _ else _) = _; rw [if_pos ha]))
        go_wp2_with fail
        go_region_held3 (fun wx => wx.cell? ⟨gb, go + i * 9 + 2, none⟩ = some (.int .u32 A) ∧ wx.cell? ⟨gb, go + i * 9 + 4, none⟩ = some (.slice qb bn cb)) (first | exact ⟨bl_keep h5.bl HD2.out, bl_keep h5.bl HD4.out⟩ | exact ⟨c2, c4⟩)
          (first | (go_at_call 41; refine hcall3.mono ?_; rintro e w5 ⟨r5, rfl, o5, b5⟩; obtain rfl := hz _ o5; have h5 := h4.on ((Below.drew (Below.refl _ _)).trans (b5.mono (Nat.le_refl _)))))
        have hcall4 := Set_any (h5.on (Below.drew (Below.refl _ _))) A uA hB (by omega) (by omega)
        clear hcall3 c2 c4 hz
        have c2 := bl_keep h5.bl HD2.out
        have c4 := bl_keep h5.bl HD4.out
        go_wp2_with fail
        go_region_held3 (fun wx => wx.cell? ⟨gb, go + i * 9 + 2, none⟩ = some (.int .u32 A) ∧ wx.cell? ⟨gb, go + i * 9 + 4, none⟩ = some (.slice qb bn cb)) (first | exact ⟨bl_keep h6.bl HD2.out, bl_keep h6.bl HD4.out⟩ | exact ⟨c2, c4⟩)
          (first | (go_at_call 39; refine hcall4.mono ?_; rintro e w6 ⟨x6, T6, ks6, M6, rfl, h6, hM6, hb6, hl6⟩))
        clear hcall4 c2 c4
        have hfin : ClnA f 0 (i + 1) T6 := fun a ha => by
          have hT : T3.lab a ≠ 0 ∨ (A ≤ a ∧ a < A + bn ∧ a < 4294967296) := by
            rcases hl6 a ha with x | x
            · left
              unfold SS.put at x
              dsimp only at x
              split at x
              · exact absurd rfl x
              · exact x
            · exact .inr x
          have hT2 : S.lab a ≠ 0 ∨ (A ≤ a ∧ a < A + bn ∧ a < 4294967296) := by
            rcases hT with x | x
            · exact hl3 a x
            · exact .inr x
          rcases hT2 with x | x
          · obtain ⟨hr, j, j0, j1, j2⟩ := hcl a x
            exact ⟨hr, j, j0, by omega, j2⟩
          · exact ⟨x.2.2, i, by omega, by omega, by rw [HA.out]; omega, by rw [HA.out, HB.out]; omega⟩
        have h300' : ∀ j, j < i + 1 → (f j).bn ≤ 300 := fun j hj => by
          by_cases e : j = i
          · rw [e, HB.out]; omega
          · exact h300 j (by omega)
        have hb6' : T6.budget = 100 := by rw [hb6]; show T3.budget = 100; rw [hb3, hSb]
        clear h3 h4 h5 hcl h300 hl3 hl6 hb6 hb3 hSb HA HB HD2 HD4 HM
        go_wp2_with fail
        exact ⟨⟨i + 1, M6, T6, ks6, by omega, by simp, h6, hb6', by omega, hfin, h300'⟩, by simp only [intOf]; omega⟩
    · obtain rfl : i = n := by omega
      go_wp2_with fail
      go_loopw [6] (fun x wr => ∃ (j N : Nat) (S : SS) (ks : List Int), j ≤ i ∧ x = .int .i64 j ∧ HasS W wr sb N S ks ∧ S.budget = 100 ∧ N ≤ 5000 * i + 4096 * j ∧ ClnA f j i S) (fun x _ => i - (intOf x).toNat)
      case atStart => exact ⟨0, N, S, ks, Nat.zero_le _, rfl, hs, hSb, by omega, hcl⟩
      case round =>
        clear hs hSb hN hcl
        obtain ⟨j, N, S, ks, hj, rfl, hs, hSb, hN, hcl⟩ := hrel
        by_cases hlj : (j : Int) < i
        · have hji : j < i := by omega
          obtain ⟨gb, go, rfl, hgb, hc⟩ := hcell (by omega)
          obtain ⟨_, _, D2, _, _⟩ := hc j hji
          obtain ⟨uA, hB⟩ := hact j hji
          have h3 := h300 j hji
          obtain ⟨A, hA⟩ : ∃ A, (f j).a = A := ⟨_, rfl⟩
          rw [hA] at D2 uA
          have HA : Hid ((f j).a = A) := hA
          clear hA hc
          have c2 := bl_keep hs.bl D2
          clear D2
          obtain ⟨m, hm⟩ : ∃ m : Nat, (m : Int) = max 0 (min 300 (4294967296 - A)) := ⟨(max 0 (min 300 (4294967296 - A))).toNat, by omega⟩
          have hcall := Clear_h hs A 300 uA (by omega) (by omega) m hm (by omega)
          have HM : Hid _ := hm
          clear hm
          go_wp2_with fail
          refine hcall.mono ?_
          rintro e w4 ⟨ks4, rfl, h4, b4⟩
          have hfin : ClnA f (j + 1) i (S.put A (fun _ => 0) m) := fun a ha => by
            unfold SS.put at ha
            dsimp only at ha
            split at ha
            · exact absurd rfl ha
            · rename_i hn
              obtain ⟨hr, k, k0, k1, k2, k3⟩ := hcl a ha
              refine ⟨hr, k, ?_, k1, k2, k3⟩
              apply Decidable.byContradiction
              intro hk
              have : k = j := by omega
              subst this
              rw [HA.out] at k2 k3
              have hm := HM.out
              omega
          go_wp2_with fail
          exact ⟨⟨j + 1, _, _, ks4, by omega, by simp, h4, hSb, by omega, hfin⟩, by simp only [intOf]; omega⟩
        · obtain rfl : j = i := by omega
          have hk0 : ks = [] := List.eq_nil_iff_forall_not_mem.2 (fun k hk => by
            obtain ⟨_, _, kp⟩ := (hs.enum.2 k).1 hk
            obtain ⟨t, _, hx⟩ := nz_pos kp
            obtain ⟨_, l, l0, l1, _⟩ := hcl _ hx
            omega)
          subst hk0
          have D := Dirty_h hs (by simp)
          go_wp2_with fail
          refine D.mono ?_
          rintro e w5 ⟨q5, cap5, rfl, b5⟩
          go_wp2_with fail
          go_returns
          exact ⟨rfl, (hs.on b5).bl⟩
end Go.Proofs.Ytgebmedkhakhfaa
