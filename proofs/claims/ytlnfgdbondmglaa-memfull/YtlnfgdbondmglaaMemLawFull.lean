/- THE LAWS OF LAYER 3: MemFull. -/
import Derived.Test.YtlnfgdbondmglaaMemLaws3
import Derived.Test.YtlnfgdbondmglaaMemIns
import Derived.ChangeSlices
import Derived.Carry
namespace Go.Proofs.Ytlnfgdbondmglaa
open Go.ChangeShapes Go.WideShapes Go.ChangeAt Go.RowKit
open Go.ChangeMaps
set_option linter.unusedSimpArgs false
set_option linter.unusedVariables false

/-- A slice of words that came in. -/
def WArg (W : World) (v : Value) (n : Nat) (xs : Nat → Int) : Prop :=
  ∃ q cap, v = .slice q n cap ∧ n ≤ cap ∧ (∀ i, U4 (xs i)) ∧ (0 < n → ∃ b o, q = some ⟨b, o, none⟩ ∧ b < W.heap.size ∧ ∀ i, i < n → W.cell? ⟨b, o + i, none⟩ = some (.int .u32 (xs i)))
theorem open_words {H : Type} {enc : TypeId × Value → H} {P : Program} {W : World} {base : Nat} {t e : TypeId} {v : Value} {d : DataW H} {p : List MemPlace}
    (ht : P.underlying t = some (.slice e)) (he : P.underlying e = some (.int .u32)) (hc : P.cellsOf e = 1) (hv : Value.okWide P W .any base t v) (h : DataW.Trod enc P W 0 (fun _ => true) true t v d p)
    (hlt : ∀ x ∈ p, x.block < W.heap.size) : ∃ n xs, WArg W v n xs := by
  obtain ⟨a, len, cap, rfl⟩ := okWide_slice ht hv
  obtain ⟨fuel, hf⟩ := h
  rcases open_ints ht he hc hf with ⟨hcs, hx⟩ | ⟨a', len', cap', zs, hcs, _, hl, hm, hz, hx, hcell, hwz⟩
  · simp [Value.cells] at hcs
    obtain ⟨rfl, rfl, rfl⟩ := hcs
    exact ⟨0, fun _ => 0, none, 0, rfl, Nat.le_refl _, fun _ => by unfold U4; simp, fun h => by omega⟩
  · simp [Value.cells] at hcs
    obtain ⟨rfl, rfl, rfl⟩ := hcs
    simp only [Prod.mk.injEq] at hx
    obtain ⟨rfl, rfl⟩ := hx
    simp only [if_true] at hz
    refine ⟨len, fun i => zs.getD i 0, some a', cap, rfl, hl, fun i => ?_, fun h0 => ?_⟩
    · show U4 (zs.getD i 0)
      by_cases hi : i < zs.length
      · have hm : zs.getD i 0 ∈ zs := by simp [List.getD, List.getElem?_eq_getElem hi]
        exact u4_is (hwz _ hm)
      · unfold U4; simp [List.getD, List.getElem?_eq_none (Nat.le_of_not_lt hi)]
    · obtain ⟨b, off, spot⟩ := a'
      have hspot : spot = none := by simpa [Addr.add] using World.cell?_spot (hcell 0 (by omega))
      subst hspot
      refine ⟨b, off, rfl, hlt (.cell b off) (MemPlace.mem_row.2 ⟨0, by omega, by simp⟩), fun i hi => ?_⟩
      have := hcell i (by omega)
      rwa [Addr.add_lit] at this

theorem and7 {b : Int} (h : U4 b) : bits .and .u32 b 7 = b % 8 := by
  obtain ⟨h0, h1⟩ := h
  rw [u32_and b 7 h0 h1 (by omega) (by omega)]
  have : b.toNat &&& (7 : Int).toNat = b.toNat % 2 ^ 3 := Nat.and_two_pow_sub_one_eq_mod _ 3
  rw [this]; omega
theorem adr_facts {x : Int} (h : U4 x) : ∃ A : Int, bits .and .u32 (bits .andNot .u32 x 255) 268435455 = A ∧ 0 ≤ A ∧ A < 268435456 ∧ A % 256 = 0 := by
  obtain ⟨h0, h1⟩ := h
  refine ⟨_, rfl, ?_⟩
  rw [u32_andNot x 255 h0 h1 (by omega) (by omega)]
  have hle : x.toNat &&& (4294967295 - (255 : Int).toNat) ≤ x.toNat := Nat.and_le_left
  rw [u32_and _ 268435455 (by omega) (by omega) (by omega) (by omega)]
  have e : (((x.toNat &&& (4294967295 - (255 : Int).toNat) : Nat) : Int)).toNat = x.toNat &&& (4294967295 - (255 : Int).toNat) := by omega
  rw [e]
  have hr : x.toNat &&& (4294967295 - (255 : Int).toNat) &&& (268435455 : Int).toNat ≤ (268435455 : Int).toNat := Nat.and_le_right
  have hm : (x.toNat &&& (4294967295 - (255 : Int).toNat) &&& (268435455 : Int).toNat) % 2 ^ 8 = 0 := by
    rw [← Nat.and_two_pow_sub_one_eq_mod, Nat.and_assoc, Nat.and_assoc]
    have : (4294967295 - (255 : Int).toNat) &&& ((268435455 : Int).toNat &&& (2 ^ 8 - 1)) = 0 := by decide
    rw [this, Nat.and_zero]
  generalize x.toNat &&& (4294967295 - (255 : Int).toNat) &&& (268435455 : Int).toNat = z at hr hm ⊢
  have : (268435455 : Int).toNat = 268435455 := rfl
  omega
theorem mapS_budget {S : MS} {a n perm : Int} : (S.mapS a n perm).budget = S.budget := by
  unfold MS.mapS; split <;> rfl
theorem map_len {S : MS} (h : S.Ok) {a n perm : Int} (h0 : S.mapE a n perm = 0) (hn : 0 ≤ n) : ((S.mapS a n perm).th.length : Int) = S.th.length + (n + 255) / 256 := by
  unfold MS.mapS
  rw [if_pos h0]
  simp only [MS.map, List.length_append, news_length, List.length_take, List.length_drop]
  have := lb_le h.rise (a / 256)
  omega
theorem mapE_cases {S : MS} {a n perm : Int} (hs : n ≠ 0 ∧ a % 256 = 0 ∧ a / 256 + (n + 255) / 256 ≤ 16777216) (hp : 0 ≤ perm ∧ perm ≤ 7) : S.mapE a n perm = 0 ∨ S.mapE a n perm = 5 ∨ S.mapE a n perm = 6 := by
  unfold MS.mapE
  rw [if_pos ⟨hs, hp⟩]
  split
  · split
    · exact .inr (.inr rfl)
    · exact .inl rfl
  · exact .inr (.inl rfl)

set_option maxRecDepth 100000 in
set_option maxHeartbeats 4000000 in
theorem MemFull_yes (bud : Int) (b o n cap : Nat) (xs : Nat → Int) (q : Option Addr) (hb : 1 ≤ bud ∧ bud ≤ 20) (hn : n ≤ 30) (w : World) (hx4 : ∀ i, U4 (xs i))
    (hq : 0 < n → q = some ⟨b, o, none⟩) (hbs : ∀ i, i < n → w.cell? ⟨b, o + i, none⟩ = some (.int .u32 (xs i))) :
    Calls Try.prog 9 #[.int .i64 bud, .slice q n cap] w fun e w' => e = .returned (.bool true) ∧ Gr w w' := by
  obtain ⟨hb1, hb2⟩ := hb
  have k1 : ¬ bud < 1 := by omega
  have k2 : ¬ 20 < bud := by omega
  have k3 : ¬ (30 : Int) < n := by omega
  have HBS : Hid _ := hbs
  have HQ : Hid _ := hq
  have HX4 : Hid _ := hx4
  clear hbs hq hx4
  go_enter Try.func9, Try.ntmps9
  go_wp2_with fail
  refine (awake_c _).mono ?_
  rintro e w1 ⟨rfl, g1⟩
  go_wp2_with fail
  refine (New_h g1 bud ⟨by omega, by omega⟩).mono ?_
  rintro e w2 ⟨mb, rfl, h0⟩
  go_wp2_with fail
  go_loopw [7] (fun x wr => ∃ (j : Nat) (S : MS), j ≤ n ∧ x = .int .i64 j ∧ Has w wr mb (4096 * j) S ∧ S.budget = bud) (fun x _ => n - (intOf x).toNat)
  case atStart => exact ⟨0, _, Nat.zero_le _, rfl, h0, rfl⟩
  case round =>
    obtain ⟨j, S, hj, rfl, hS, hbud⟩ := hrel
    by_cases hjn : j = n
    · subst hjn
      go_wp2_with fail
      go_returns
      exact ⟨rfl, hS.gr⟩
    · have hlt : (j : Int) < (n : Int) := by omega
      have hltn : j < n := by omega
      obtain rfl := HQ.out (by omega)
      obtain ⟨x, hx⟩ : ∃ x, x = xs j := ⟨_, rfl⟩
      have hx4 : U4 x := by rw [hx]; exact HX4.out j
      have hcell := HBS.out j hltn
      rw [← hx] at hcell
      have HC : Hid _ := hcell
      have h7 := and7 hx4
      obtain ⟨A, hA, A0, A1, A2⟩ := adr_facts hx4
      obtain ⟨r, hr⟩ : ∃ r, r = x % 8 := ⟨_, rfl⟩
      have hr1 : 0 ≤ r := by unfold U4 at hx4; omega
      have hr2 : r < 8 := by omega
      rw [← hr] at h7
      have cw := hS.gr.keep HC.out
      have hlen : S.th.length ≤ 20 := by have := hS.ok.len; omega
      clear hx hr hcell hjn
      go_wp2_with fail
      refine (Pages_h hS).mono ?_
      rintro e w3 ⟨rfl, hS1⟩
      have cw3 := hS1.gr.keep HC.out
      go_wp2_with fail
      refine (Map_h hS1 A (256 * r + 1) 3 ⟨by omega, by omega⟩ ⟨by omega, by omega⟩ (by unfold maxLen; omega) (fun _ => Insert_any _ _ (lb_le hS.ok.rise _))).mono ?_
      rintro e w4 ⟨rfl, hS2⟩
      have cw4 := hS2.gr.keep HC.out
      have hle2 : ((S.mapS A (256 * r + 1) 3).th.length : Int) ≤ bud := by
        have := hS2.ok.len; rw [mapS_budget, hbud] at this; exact this
      have hmc := mapE_cases (S := S) (a := A) (n := 256 * r + 1) (perm := 3) (by omega) (by omega)
      have hml : S.mapE A (256 * r + 1) 3 = 0 → ((S.mapS A (256 * r + 1) 3).th.length : Int) = S.th.length + r + 1 := fun e => by
        rw [map_len hS.ok e (by omega)]; omega
      have hmn : S.mapE A (256 * r + 1) 3 ≠ 0 → (S.mapS A (256 * r + 1) 3).th.length = S.th.length := fun e => by rw [mapS_no e]
      have hbud2 : (S.mapS A (256 * r + 1) 3).budget = bud := mapS_budget.trans hbud
      generalize S.mapS A (256 * r + 1) 3 = S2 at *
      generalize S.mapE A (256 * r + 1) 3 = E at *
      obtain ⟨l1, hl1⟩ : ∃ l1, l1 = S.th.length := ⟨_, rfl⟩
      obtain ⟨l2, hl2⟩ : ∃ l2, l2 = S2.th.length := ⟨_, rfl⟩
      rw [← hl1] at hml hmn hlen
      rw [← hl2] at hml hmn hle2
      rw [← hl1]
      have HP2 := Pages_h hS2
      rw [← hl2] at HP2
      clear hl1 hl2
      rcases hmc with rfl | rfl | rfl
      · have hm := hml rfl
        have hm2 : ((l2 : Int) != (l1 : Int) + r + 1) = false := by simp; omega
        have hm4 : decide (bud < (l2 : Int)) = false := by simp; omega
        clear hml hmn hm
        go_wp2_with fail
        refine HP2.mono ?_
        rintro e w5 ⟨rfl, hS3⟩
        have cw5 := hS3.gr.keep HC.out
        clear HP2
        go_wp2_with fail
        go_roundw
        case rel => exact ⟨j + 1, _, by omega, by simp, hS3, hbud2⟩
        case measure => simp [intOf]; omega
      all_goals
        have hm := hmn (by omega)
        have hm2 : ((l2 : Int) != (l1 : Int)) = false := by simp; omega
        have hm4 : decide (bud < (l2 : Int)) = false := by simp; omega
        clear hml hmn hm
        go_wp2_with fail
        refine HP2.mono ?_
        rintro e w5 ⟨rfl, hS3⟩
        have cw5 := hS3.gr.keep HC.out
        clear HP2
        go_wp2_with fail
        go_roundw
        case rel => exact ⟨j + 1, _, by omega, by simp, hS3, hbud2⟩
        case measure => simp [intOf]; omega

set_option maxRecDepth 100000 in
set_option maxHeartbeats 4000000 in
theorem MemFull_no (bud : Int) (q : Option Addr) (n cap : Nat) (hno : ¬ (1 ≤ bud ∧ bud ≤ 20 ∧ n ≤ 30)) (w : World) :
    Calls Try.prog 9 #[.int .i64 bud, .slice q n cap] w fun e w' => e = .returned (.bool true) ∧ Gr w w' := by
  by_cases h1 : bud < 1
  · go_enter Try.func9, Try.ntmps9
    go_wp2_with fail
    refine (awake_c _).mono ?_
    rintro e w1 ⟨rfl, g1⟩
    go_wp2_with fail
    go_returns
    exact ⟨rfl, g1⟩
  · by_cases h2 : 20 < bud
    · go_enter Try.func9, Try.ntmps9
      go_wp2_with fail
      refine (awake_c _).mono ?_
      rintro e w1 ⟨rfl, g1⟩
      go_wp2_with fail
      go_returns
      exact ⟨rfl, g1⟩
    · have h3 : (30 : Int) < n := by omega
      have d1 : decide (bud < 1) = false := by simpa using h1
      have d2 : decide (20 < bud) = false := by simpa using h2
      clear h1 h2 hno
      go_enter Try.func9, Try.ntmps9
      go_wp2_with fail
      refine (awake_c _).mono ?_
      rintro e w1 ⟨rfl, g1⟩
      go_wp2_with fail
      go_returns
      exact ⟨rfl, g1⟩
theorem MemFull_w {v : Value} {n : Nat} {xs : Nat → Int} {w : World} (hB : WArg w v n xs) (bud : Int) :
    Calls Try.prog 9 #[.int .i64 bud, v] w fun e w' => e = .returned (.bool true) ∧ Gr w w' := by
  obtain ⟨q, cap, rfl, hcap, hx4, hq⟩ := hB
  by_cases h : 1 ≤ bud ∧ bud ≤ 20 ∧ n ≤ 30
  · by_cases hn0 : 0 < n
    · obtain ⟨b, o, rfl, hbw, hbs⟩ := hq hn0
      exact MemFull_yes bud b o n cap xs _ ⟨h.1, h.2.1⟩ h.2.2 w hx4 (fun _ => rfl) hbs
    · exact MemFull_yes bud 0 0 n cap xs _ ⟨h.1, h.2.1⟩ h.2.2 w hx4 (fun x => absurd x hn0) (fun i hi => by omega)
  · exact MemFull_no bud q n cap h w
end Go.Proofs.Ytlnfgdbondmglaa
