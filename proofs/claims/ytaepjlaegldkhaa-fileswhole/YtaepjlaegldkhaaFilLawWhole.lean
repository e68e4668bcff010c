/- LAYER 11's law FilesWhole. -/
import Derived.Test.YtaepjlaegldkhaaFilOne
namespace Go.Proofs.Ytaepjlaegldkhaa
open Go.ChangeShapes Go.WideShapes Go.ChangeAt Go.RowKit

def Fil.nf : ByteArray := ⟨#[102]⟩
theorem Fil.nf_ok : Fil.nf.size ≠ 0 ∧ Fil.nf.size ≤ 40 ∧ Fee.nul Fil.nf = false := by decide +kernel
theorem strOf_app (a b : List Int) : strOfNums a ++ strOfNums b = strOfNums (a ++ b) := by
  apply ByteArray.ext
  rw [ByteArray.data_append]
  simp [strOfNums, List.map_append]
/-- What one more read does. -/
theorem Fil.whole_step {data sh : List Int} {p a k n : Nat} (hx : ∀ x ∈ sh, 0 ≤ x) (hp : p ≤ data.length) (ha : a ≤ sh.length) (hk : p = data.length ∨ k ≤ a + p) (hn : 1 ≤ n) (hn2 : n ≤ 4096) :
    (Fil.part data sh p a n).length ≤ n ∧ p + (Fil.part data sh p a n).length ≤ data.length ∧ data.take (p + (Fil.part data sh p a n).length) = data.take p ++ Fil.part data sh p a n ∧ (Fee.take sh a (min (max (n : Int) 0) 4096)).2 ≤ sh.length ∧
    (p + (Fil.part data sh p a n).length = data.length ∨ k + 1 ≤ (Fee.take sh a (min (max (n : Int) 0) 4096)).2 + (p + (Fil.part data sh p a n).length)) := by
  have hm : min (max (n : Int) 0) 4096 = n := by omega
  unfold Fil.part
  rw [hm]
  have hr := Fee.take_range hx a (n := (n : Int)) (by omega)
  obtain ⟨m, hmm⟩ : ∃ m : Nat, (Fee.take sh a n).1 = m := ⟨(Fee.take sh a n).1.toNat, by omega⟩
  rw [hmm] at hr ⊢
  rw [Int.toNat_natCast]
  have hl : ((data.drop p).take m).length = min m (data.length - p) := by rw [List.length_take, List.length_drop]
  refine ⟨by omega, by omega, ?_, ?_, ?_⟩
  · rw [hl]
    have := List.take_add (l := data) (i := p) (j := min m (data.length - p))
    rw [this]
    congr 1
    rw [← List.length_drop, List.take_eq_take_iff]; omega
  · unfold Fee.take
    rw [if_neg (by omega)]
    cases h : sh[a]? with
    | none => exact ha
    | some y => have := (List.getElem?_eq_some_iff.1 h).1; dsimp only; omega
  · rw [hl]
    unfold Fee.take at hmm ⊢
    rw [if_neg (by omega)] at hmm ⊢
    cases h : sh[a]? with
    | none => rw [h] at hmm; dsimp only at hmm ⊢; omega
    | some y => dsimp only; omega
set_option maxHeartbeats 8000000 in
set_option maxRecDepth 100000 in
theorem FilesWhole_w (v0 v1 : Value) (n : Int) (W : World) (h0 : ∃ l, Rd8 W v0 l ∧ B8s l) (h1 : ∃ l, NsS W v1 l ∧ ∀ n ∈ l, -9223372036854775808 ≤ n ∧ n ≤ 9223372036854775807) : Calls Try.prog 5 #[v0, v1, .int .i64 n] W fun e w' => e = .returned (.bool true) ∧ Bw W w' := by
  obtain ⟨data, hR, h8⟩ := h0
  obtain ⟨sh, hS, hw⟩ := h1
  have HR : Hid _ := hR
  have H8 : Hid _ := h8
  have HS : Hid _ := hS
  have HW : Hid _ := hw
  obtain ⟨q, cap, rfl, hc1, hc2, -⟩ := Rd8.open hR
  obtain ⟨qs, cs, rfl, hs1, hs2, hcell⟩ := RdR.at1 hS
  have HCell : Hid _ := hcell
  clear hR h8 hS hw hcell
  by_cases hb : 300 < data.length ∨ 20 < sh.length ∨ n < 1 ∨ 50 < n
  · go_enter Try.func5, Try.ntmps5
    go_wp2_with fail
    refine (awake11_c _).mono ?_
    rintro e w0 ⟨rfl, hb0⟩
    go_wp2_with fail
    all_goals (go_returns; exact ⟨rfl, hb0⟩)
  have b1 : (data.length : Int) ≤ 300 := by omega
  have b2 : (sh.length : Int) ≤ 20 := by omega
  have b3 : 1 ≤ n := by omega
  have b4 : n ≤ 50 := by omega
  clear hb
  obtain ⟨m, rfl⟩ : ∃ m : Nat, n = m := ⟨n.toNat, by omega⟩
  go_enter Try.func5, Try.ntmps5
  go_wp2_with fail
  refine (awake11_c _).mono ?_
  rintro e w0 ⟨rfl, hb0⟩
  go_wp2_with fail
  go_loopg [7] sh.length (fun g j wr => ∃ k : Nat, k + g = sh.length ∧ j = .int .i64 k ∧ wr = w0 ∧ Hid (∀ (i : Nat) x, i < k → sh[i]? = some x → 0 ≤ x ∧ x ≤ 4096))
  case atStart => exact ⟨0, by omega, rfl, rfl, fun i x h => by omega⟩
  case round =>
    obtain ⟨k, hkg, rfl, rfl, HOk⟩ := hrel
    by_cases hk : k = sh.length
    rotate_left
    · have hkl : k < sh.length := by omega
      have hki : (k : Int) < (sh.length : Int) := by omega
      obtain ⟨x, hx, -⟩ := dropAt hkl
      obtain ⟨b, o, rfl, hbl, c0⟩ := (show ∀ (i : Nat) s, sh[i]? = some s → _ from HCell) k x hx
      have e0 := hb0.keep c0
      by_cases hbad : x < 0 ∨ 4096 < x
      · rcases hbad with hbad | hbad
        · go_wp2_with fail
          go_returns
          exact ⟨rfl, hb0⟩
        · have hx0 : 0 ≤ x := by omega
          go_wp2_with fail
          go_returns
          exact ⟨rfl, hb0⟩
      · have x0 : 0 ≤ x := by omega
        have x1 : x ≤ 4096 := by omega
        have HOk2 : Hid (∀ (i : Nat) x, i < k + 1 → sh[i]? = some x → 0 ≤ x ∧ x ≤ 4096) := fun i x' hi hx' => by
          by_cases e : i = k
          · subst e; rw [hx] at hx'; obtain rfl := Option.some.inj hx'; exact ⟨x0, x1⟩
          · exact (show ∀ (i : Nat) x, i < k → sh[i]? = some x → 0 ≤ x ∧ x ≤ 4096 from HOk) i x' (by omega) hx'
        clear hbad
        go_wp2_with fail
        go_roundg (sh.length - (k + 1))
        case measure => omega
        case rel => exact ⟨k + 1, by omega, by simp, rfl, HOk2⟩
    · subst hk
      have hsh : ∀ x ∈ sh, 0 ≤ x ∧ x ≤ 4096 := fun x hx => by
        obtain ⟨i, hi, rfl⟩ := List.getElem_of_mem hx
        exact (show ∀ (i : Nat) x, i < sh.length → sh[i]? = some x → 0 ≤ x ∧ x ≤ 4096 from HOk) i _ hi (List.getElem?_eq_getElem hi)
      have hIs := Fil.oneS_is (name := Fil.nf) ((show Rd8 W _ data from HR).bw hb0) H8 (RdR.bw (show NsS W _ sh from HS) hb0) HW
      have gA : Bw W (wr.alloc (.cells #[.string Fil.nf, .slice q data.length cap] 27)) := hb0.alloc _
      have hN := lNew gA _ _ hIs
      rw [Fil.new_one (Fil.good_one Fil.nf_ok (by omega) (by omega) hsh)] at hN
      have HSh : Hid _ := hsh
      clear hIs gA hsh HOk HCell
      go_wp2_with fail
      refine hN.mono ?_
      rintro e w1 ⟨fb, A, rfl, h1, -, -, -⟩
      clear hN
      go_wp2_with fail
      refine (lOpen h1 Fil.nf).mono ?_
      rw [Fil.open_p]
      rintro e w2 ⟨rfl, h2, -⟩
      have g2 : LF W w2 fb A (Fil.q Fil.nf data sh 0 0) := h2
      clear h1 h2 hb0
      go_wp2_with fail
      go_loopg [10, 11] 400 (fun g sv j wr => ∃ k p a : Nat, k + g = 400 ∧ j = .int .i64 k ∧ sv = .string (strOfNums (data.take p)) ∧ LF W wr fb A (Fil.q Fil.nf data sh p a) ∧ Hid (p ≤ data.length ∧ a ≤ sh.length ∧ (p = data.length ∨ k ≤ a + p)))
      case atStart => exact ⟨0, 0, 0, by omega, rfl, rfl, g2, ⟨by omega, by omega, Or.inr (by omega)⟩⟩
      case round =>
        obtain ⟨k, p, a, hkg, rfl, rfl, hF, hI⟩ := hrel
        clear g2
        obtain ⟨i1, i2, i3⟩ := (show p ≤ data.length ∧ a ≤ sh.length ∧ (p = data.length ∨ k ≤ a + p) from hI)
        by_cases hk : k = 400
        · subst hk
          obtain rfl : p = data.length := by omega
          have cvd := Rd8.conv ((show Rd8 W _ data from HR).bw hF.b)
          have hb9 := hF.b
          rw [List.take_length]
          clear hF hI i1 i2 i3
          go_wp2_with fail
          go_returns
          exact ⟨rfl, hb9⟩
        · have hki : (k : Int) < 400 := by omega
          obtain ⟨s1, s2, s3, s4, s5⟩ := Fil.whole_step (k := k) (n := m) (fun x hx => ((show ∀ x ∈ sh, 0 ≤ x ∧ x ≤ 4096 from HSh) x hx).1) i1 i2 i3 (by omega) (by omega)
          have hRd := lRead hF 3 m (Fil.q_pos _ _ _ _ _ (by omega))
          rw [Fil.read_q] at hRd
          generalize Fil.part data sh p a m = G at *
          generalize (Fee.take sh a (min (max (m : Int) 0) 4096)).2 = a' at *
          have hRd2 : Calls Try.prog 13 #[.pointer (some ⟨fb, 0, none⟩), .int .i64 3, .int .i64 m] wr fun e w' => ∃ v, e = .returned (.tuple #[v, .int .i64 (G.length : Nat)]) ∧ Own8 wr w' v G ∧ LF W w' fb A (Fil.q Fil.nf data sh (p + G.length) a') ∧ Fz A wr w' := hRd
          have hGm : ¬ ((m : Int) < (G.length : Int)) := by omega
          have hz1 : (strOfNums (data.take p)).size ≤ 300 := by rw [strOfNums_size, List.length_take]; omega
          have hz2 : (strOfNums G).size ≤ 50 := by rw [strOfNums_size]; omega
          have hap : strOfNums (data.take p) ++ strOfNums G = strOfNums (data.take (p + G.length)) := by rw [strOf_app, s3]
          have HI2 : Hid (p + G.length ≤ data.length ∧ a' ≤ sh.length ∧ (p + G.length = data.length ∨ k + 1 ≤ a' + (p + G.length))) := ⟨s2, s4, s5⟩
          clear hRd hF hI i1 i2 i3 s3
          go_wp2_with fail
          refine hRd2.mono ?_
          rintro e w4 ⟨v4, rfl, ho4, g4, -⟩
          obtain ⟨q4, c4, rfl⟩ := ho4.sl
          have cv4 := conv8 ho4
          go_wp2_with fail
          go_roundg (400 - (k + 1))
          case measure => omega
          case rel => exact ⟨k + 1, p + G.length, a', by omega, by simp, by rw [← hap], g4, HI2⟩
end Go.Proofs.Ytaepjlaegldkhaa
