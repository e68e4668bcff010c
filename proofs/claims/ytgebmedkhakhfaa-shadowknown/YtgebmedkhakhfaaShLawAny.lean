/- LAYER 4's LAWS: ShadowAny. -/
import Derived.Test.YtgebmedkhakhfaaShLaws
import Derived.Test.YtgebmedkhakhfaaShAny
namespace Go.Proofs.Ytgebmedkhakhfaa
open Go.ChangeShapes Go.WideShapes Go.ChangeAt Go.RowKit Go.Shelf
set_option linter.unusedSimpArgs false
set_option linter.unusedVariables false

theorem Any_h {w0 w : World} {sb N : Nat} {S : SS} {ks : List Int} (h : HasS w0 w sb N S ks) (A c : Int) (hA : U4 A) (hc0 : -9223372036854775808 ≤ c) (hc1 : c ≤ 9223372036854775807) (m : Nat) (hm : (m : Int) = max 0 (min c (4294967296 - A))) :
    Calls Try.prog 41 #[.pointer (some ⟨sb, 0, none⟩), .int .u32 A, .int .i64 c] w fun e w' => ∃ r, e = .returned (.int .u8 r) ∧ OrP S.lab (fun a => A ≤ a ∧ a < A + m) r ∧ Below w.heap.size w w' := by
  obtain ⟨b, hk, L, hS, rfl⟩ := h
  have := hS.bud
  exact Any_c hS A c hA hc0 hc1 m hm (by omega)
set_option maxRecDepth 100000 in
set_option maxHeartbeats 4000000 in
theorem ShadowAny_w {W : World} {va : Value} {na : Nat} {cs : Nat → Int} (ha : BArg W va na cs) (x n c : Int) (hx : U4 x) :
    Calls Try.prog 10 #[va, .int .u32 x, .int .i64 n, .int .i64 c] W fun e w' => e = .returned (.bool true) ∧ Below W.heap.size W w' := by
  have SA := fun (w : World) (b : Below W.heap.size W w) => ha.sarg b
  obtain ⟨qa, ca, rfl, _⟩ := ha
  by_cases h1 : 300 < (na : Int)
  · (go_enter Try.func10, Try.ntmps10; go_wp2_with fail; refine (awake4_c _).mono ?_; rintro e w1 ⟨rfl, b1⟩; go_wp2_with fail; go_returns; exact ⟨rfl, b1⟩)
  by_cases h2 : 1073741824 < x
  · (go_enter Try.func10, Try.ntmps10; go_wp2_with fail; refine (awake4_c _).mono ?_; rintro e w1 ⟨rfl, b1⟩; go_wp2_with fail; go_returns; exact ⟨rfl, b1⟩)
  by_cases h3 : n < 0
  · (go_enter Try.func10, Try.ntmps10; go_wp2_with fail; refine (awake4_c _).mono ?_; rintro e w1 ⟨rfl, b1⟩; go_wp2_with fail; go_returns; exact ⟨rfl, b1⟩)
  by_cases h4 : 600 < n
  · (go_enter Try.func10, Try.ntmps10; go_wp2_with fail; refine (awake4_c _).mono ?_; rintro e w1 ⟨rfl, b1⟩; go_wp2_with fail; go_returns; exact ⟨rfl, b1⟩)
  by_cases h5 : c < 0
  · (go_enter Try.func10, Try.ntmps10; go_wp2_with fail; refine (awake4_c _).mono ?_; rintro e w1 ⟨rfl, b1⟩; go_wp2_with fail; go_returns; exact ⟨rfl, b1⟩)
  by_cases h6 : n < c
  · (go_enter Try.func10, Try.ntmps10; go_wp2_with fail; refine (awake4_c _).mono ?_; rintro e w1 ⟨rfl, b1⟩; go_wp2_with fail; go_returns; exact ⟨rfl, b1⟩)
  have ux := hx
  obtain ⟨x0, x1⟩ := hx
  go_enter Try.func10, Try.ntmps10
  go_wp2_with fail
  refine (awake4_c _).mono ?_
  rintro e w1 ⟨rfl, b1⟩
  go_wp2_with fail
  refine (SNew_h 5 (by omega) (by omega) W w1 b1).mono ?_
  rintro e w2 ⟨sb, rfl, b2, hs⟩
  obtain ⟨g1, o1, c1, sa1, hg1⟩ := SA w2 hs.bl
  go_wp2_with fail
  refine (Set_h hs x ux sa1 na (by omega) (by omega) (by omega) hg1).mono ?_
  have hr1 := rowN_600 (A := x) (m := na) (by omega)
  rintro e w3 (⟨ks1, he1, hf1, rfl, b3⟩ | ⟨ks1, rfl, h3', b3⟩)
  · have := hs.enum.put_le he1
    simp at this hf1
    omega
  obtain ⟨S2, hS2⟩ : ∃ S2, (⟨5, fun _ => 0⟩ : SS).put x cs na = S2 := ⟨_, rfl⟩
  rw [hS2] at h3'
  clear hS2 hs sa1 b1 b2 b3
  obtain ⟨N, hN⟩ : ∃ N, 0 + rowN x na = N := ⟨_, rfl⟩
  rw [hN] at h3'
  clear hN hr1
  go_wp2_with fail
  go_loopw [11, 12] (fun y v wr => ∃ (i : Nat) (r : Int), (i : Int) ≤ n ∧ v = .int .i64 i ∧ y = .int .u8 r ∧ OrP S2.lab (fun a => x ≤ a ∧ a < x + i) r ∧ HasS W wr sb N S2 ks1) (fun _ v _ => (n - intOf v).toNat)
  case atStart => exact ⟨0, 0, by omega, rfl, rfl, OrP.none _ _ (fun a ha => by omega), h3'⟩
  case round =>
    clear h3'
    obtain ⟨i, r, hi, rfl, rfl, ho, h7⟩ := hrel
    by_cases hlt : (i : Int) < n
    · have A7 := SAt_h h7 (x + i) ⟨by omega, by omega⟩
      go_wp2_with fail
      refine A7.mono ?_
      rintro e w8 ⟨rfl, rfl⟩
      go_wp2_with fail
      refine ⟨⟨i + 1, _, by omega, by simp, rfl, (ho.join (OrP.one (h7.rng (x + i)))).congr (fun a => ?_), h7⟩, by simp only [intOf]; omega⟩
      constructor
      · rintro (z | z) <;> omega
      · intro z
        by_cases e : a = x + i
        · exact .inr e
        · exact .inl (by omega)
    · obtain rfl : (i : Int) = n := by omega
      have A7 := Any_h h7 x i ux (by omega) (by omega) i (by omega)
      go_wp2_with fail
      refine A7.mono ?_
      rintro e w8 ⟨r8, rfl, o8, b8⟩
      obtain rfl := o8.eq ho
      obtain ⟨cn, rfl⟩ : ∃ cn : Nat, (cn : Int) = c := ⟨c.toNat, by omega⟩
      have h8 := h7.on b8
      have A8 := Any_h h8 x cn ux (by omega) (by omega) cn (by omega)
      go_wp2_with fail
      refine A8.mono ?_
      rintro e w9 ⟨r9, rfl, o9, b9⟩
      have h9 := h8.on b9
      have A9 := Any_h h9 (x + cn) (i - cn) ⟨by omega, by omega⟩ (by omega) (by omega) (i - cn) (by omega)
      go_wp2_with fail
      refine A9.mono ?_
      rintro e w10 ⟨r10, rfl, o10, b10⟩
      have e9 : bits .or .u8 r9 r10 = r8 := ((o9.join o10).congr (fun a => by constructor; rintro (z | z) <;> omega; intro z; omega)).eq ho
      go_wp2_with fail
      go_returns
      exact ⟨rfl, (h9.on b10).bl⟩
end Go.Proofs.Ytgebmedkhakhfaa
