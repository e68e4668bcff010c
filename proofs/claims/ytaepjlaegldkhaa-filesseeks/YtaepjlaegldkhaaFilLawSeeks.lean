/- LAYER 11's law FilesSeeks. -/
import Derived.Test.YtaepjlaegldkhaaFilOne
namespace Go.Proofs.Ytaepjlaegldkhaa
open Go.ChangeShapes Go.WideShapes Go.ChangeAt Go.RowKit

set_option maxHeartbeats 2000000 in
theorem slice_from32 (q : Option Addr) (n cap b : Nat) (hb : b ≤ n) (hn : n ≤ cap) : ∃ q', (∀ w, (Instr.slice 25 (.slice q n cap) (some (.int .i32 (b : Int))) none none).run Try.prog w = .ok (.slice q' (n - b) (cap - b)) w) ∧ ∀ b' o, q = some ⟨b', o, none⟩ → b < n → q' = some ⟨b', o + b, none⟩ := by
  have hu := run_underlying (P := Try.prog) Try.underlying25
  obtain ⟨i, hi, he⟩ := Option.map_eq_some_iff.1 info8
  have hs8 : i.size = 1 := by simp only [Prod.mk.injEq] at he; exact he.2.1
  cases q with
  | none =>
    refine ⟨none, fun w => ?_, fun b' o h => by simp at h⟩
    simp [Instr.slice, go_sem, hu, sizeOf, typeInfo, hi]
    intro h; omega
  | some a0 =>
    by_cases hcap : cap = b
    · subst hcap
      refine ⟨some a0, fun w => ?_, fun b' o h h2 => by omega⟩
      simp [Instr.slice, go_sem, hu, sizeOf, typeInfo, hi, hs8]
      omega
    · refine ⟨some (a0.add b), fun w => ?_, fun b' o h _ => by simp at h; rw [h, Addr.add_lit]⟩
      simp [Instr.slice, go_sem, hu, sizeOf, typeInfo, hi, hs8, hcap]
      omega
theorem strOf_take (D : List Int) (m : Nat) : (strOfNums D).extract 0 m = strOfNums (D.take m) := by
  apply ByteArray.ext
  rw [ByteArray.data_extract]
  simp [strOfNums, List.map_take]
theorem rd_from {w : World} {data : List Int} {q q' : Option Addr} {cap p : Nat} (hR : Rd8 w (.slice q data.length cap) data) (hp : p ≤ data.length) (hq : ∀ b' o, q = some ⟨b', o, none⟩ → p < data.length → q' = some ⟨b', o + p, none⟩) : Rd8 w (.slice q' (data.length - p) (cap - p)) (data.drop p) := by
  obtain ⟨q1, cap1, e1, hc1, hc2, hcell⟩ := hR.open
  simp at e1
  obtain ⟨rfl, rfl⟩ := e1
  have hl : (data.drop p).length = data.length - p := List.length_drop
  refine ⟨q', cap - p, by rw [hl], by omega, by omega, by simp [ints8], fun h0 => ?_⟩
  obtain ⟨b, o, rfl, h7, h8⟩ := hcell (by omega)
  refine ⟨b, o + p, hq _ _ rfl (by omega), h7, fun j u hu => ?_⟩
  simp only [ints8, List.getElem?_map, Option.map_eq_some_iff] at hu
  obtain ⟨y, hy, rfl⟩ := hu
  rw [List.getElem?_drop] at hy
  rw [Nat.add_assoc]; exact h8 _ y hy
set_option maxHeartbeats 8000000 in
set_option maxRecDepth 100000 in
theorem FilesSeeks_w (v0 : Value) (at_ n : Int) (W : World) (h0 : ∃ l, Rd8 W v0 l ∧ B8s l) (w1 : -2147483648 ≤ at_ ∧ at_ ≤ 2147483647) : Calls Try.prog 8 #[v0, .int .i32 at_, .int .i64 n] W fun e w' => e = .returned (.bool true) ∧ Bw W w' := by
  obtain ⟨data, hR, h8⟩ := h0
  have HR : Hid _ := hR
  have H8 : Hid _ := h8
  obtain ⟨q, cap, rfl, hc1, hc2, -⟩ := Rd8.open hR
  clear hR h8
  by_cases hb : 100 < data.length ∨ at_ < 0 ∨ n < 0 ∨ 200 < n
  · have hbd : (decide (100 < (data.length : Int)) || decide (at_ < 0) || decide (n < 0) || decide (200 < n)) = true := by
      rcases hb with h | h | h | h
      · rw [decide_eq_true (show 100 < (data.length : Int) by omega)]; rfl
      · rw [decide_eq_true h]; simp
      · rw [decide_eq_true h]; simp
      · rw [decide_eq_true h]; simp
    go_enter Try.func8, Try.ntmps8
    go_wp2_with fail
    refine (awake11_c _).mono ?_
    rintro e w0 ⟨rfl, hb0⟩
    go_wp2_with fail
    all_goals (go_returns; exact ⟨rfl, hb0⟩)
  · have b1 : (data.length : Int) ≤ 100 := by omega
    have b2 : 0 ≤ at_ := by omega
    have b3 : 0 ≤ n := by omega
    have b4 : n ≤ 200 := by omega
    clear hb
    obtain ⟨p, rfl⟩ : ∃ p : Nat, at_ = p := ⟨at_.toNat, by omega⟩
    obtain ⟨m, rfl⟩ : ∃ m : Nat, n = m := ⟨n.toNat, by omega⟩
    go_enter Try.func8, Try.ntmps8
    go_wp2_with fail
    refine (awake11_c _).mono ?_
    rintro e w0 ⟨rfl, hb0⟩
    have hIs := Fil.oneS_is (name := Fil.na) (sh := []) ((show Rd8 W _ data from HR).bw hb0) H8 (show NsS w0 (.slice none 0 0) [] from RdR.nil _ _) (by simp)
    have gA : Bw W (w0.alloc (.cells #[.string Fil.na, .slice q data.length cap] 27)) := hb0.alloc _
    have hN := lNew gA _ _ hIs
    rw [Fil.new_one (Fil.good_one Fil.na_ok (by omega) (by simp) (by simp))] at hN
    clear hIs gA
    go_wp2_with fail
    refine hN.mono ?_
    rintro e w1' ⟨fb, A, rfl, h1, -, -, -⟩
    clear hN
    go_wp2_with fail
    refine (lOpen h1 Fil.na).mono ?_
    rw [Fil.open_p]
    rintro e w2 ⟨rfl, h2, -⟩
    have g2 : LF W w2 fb A (Fil.q Fil.na data [] 0 0) := h2
    clear h1 h2
    go_wp2_with fail
    refine (lSeek g2 3 p 0 (by omega) (by omega) (Fil.q_pos _ _ _ _ _ (by omega))).mono ?_
    rw [Fil.seek_q0 _ _ _ _ _ _ (by omega), Int.toNat_natCast]
    rintro e w3 ⟨rfl, h3, -⟩
    have g3 : LF W w3 fb A (Fil.q Fil.na data [] p 0) := h3
    clear g2 h3
    go_wp2_with fail
    have hT : Fee.take [] 0 (min (max (m : Int) 0) 4096) = ((m : Int), 0) := by unfold Fee.take; rw [if_neg (by omega), show min (max (m : Int) 0) 4096 = (m : Int) by omega]; rfl
    have hpt : Fil.part data [] p 0 (m : Int) = (data.drop p).take m := by unfold Fil.part; rw [hT, Int.toNat_natCast]
    have hRd := lRead g3 3 m (Fil.q_pos _ _ _ _ _ (by omega))
    rw [Fil.read_q, hT, hpt] at hRd
    obtain ⟨G, hG⟩ : ∃ G, (data.drop p).take m = G := ⟨_, rfl⟩
    have hGl : G.length = min m (data.length - p) := by rw [← hG, List.length_take, List.length_drop]
    rw [hG] at hRd
    have hRd2 : Calls Try.prog 13 #[.pointer (some ⟨fb, 0, none⟩), .int .i64 3, .int .i64 m] w3 fun e w' => ∃ v, e = .returned (.tuple #[v, .int .i64 (G.length : Nat)]) ∧ Own8 w3 w' v G ∧ LF W w' fb A (Fil.q Fil.na data [] (p + G.length) 0) ∧ Fz A w3 w' := hRd
    refine hRd2.mono ?_
    rintro e w4 ⟨v4, rfl, ho4, g4, -⟩
    obtain ⟨q4, c4, rfl⟩ := ho4.sl
    have cv4 := conv8 ho4
    have hpos : p + G.length ≤ 4611686018427387904 := by omega
    have hRD := (show Rd8 W _ data from HR).bw g4.b
    have hsz := strOfNums_size G
    clear g3 hT hpt hRd hRd2 ho4
    by_cases hA : data.length ≤ p
    · have hAi : ¬ ((p : Int) < (data.length : Int)) := by omega
      have hG0 : G = [] := by rw [← hG, List.drop_eq_nil_of_le hA, List.take_nil]
      subst hG0
      have cv4' : (convert 25 9 (.slice q4 0 c4)).run Try.prog w4 = .ok (.string ⟨#[]⟩) w4 := cv4
      clear cv4
      go_wp2_with fail
      refine (lSeek g4 3 0 1 (by omega) (by omega) (Fil.q_pos _ _ _ _ _ hpos)).mono ?_
      rw [Fil.seek_q1]
      rintro e w5 ⟨rfl, h5, -⟩
      have g5 : LF W w5 fb A (Fil.q Fil.na data [] (p + 0) 0) := h5
      go_wp2_with fail
      refine (lSeek g5 3 0 2 (by omega) (by omega) (Fil.q_pos _ _ _ _ _ hpos)).mono ?_
      rw [Fil.seek_q2]
      rintro e w6 ⟨rfl, h6, -⟩
      go_wp2_with fail
      go_returns
      exact ⟨rfl, h6.b⟩
    · have hAi : (p : Int) < (data.length : Int) := by omega
      obtain ⟨q', hsl, hq'⟩ := slice_from32 q data.length cap p (by omega) hc1
      have hD := rd_from hRD (by omega) hq'
      have cvD : (convert 25 9 (.slice q' (data.length - p) (cap - p))).run Try.prog w4 = .ok (.string (strOfNums (data.drop p))) w4 := Rd8.conv (by have := hD; exact this)
      have hDs := strOfNums_size (data.drop p)
      by_cases hB : m < data.length - p
      · have hBi : (m : Int) < ((data.drop p).length : Int) := by rw [List.length_drop]; omega
        clear hGl hD hRD
        generalize data.drop p = D at *
        have hX : (strOfNums D).extract 0 m = strOfNums G := by rw [strOf_take, hG]
        clear hG
        go_wp2_with fail
        refine (lSeek g4 3 0 1 (by omega) (by omega) (Fil.q_pos _ _ _ _ _ hpos)).mono ?_
        rw [Fil.seek_q1]
        rintro e w5 ⟨rfl, h5, -⟩
        have g5 : LF W w5 fb A (Fil.q Fil.na data [] (p + G.length) 0) := h5
        go_wp2_with fail
        refine (lSeek g5 3 0 2 (by omega) (by omega) (Fil.q_pos _ _ _ _ _ hpos)).mono ?_
        rw [Fil.seek_q2]
        rintro e w6 ⟨rfl, h6, -⟩
        go_wp2_with fail
        go_returns
        exact ⟨rfl, h6.b⟩
      · have hGD : G = data.drop p := by rw [← hG, List.take_of_length_le (by rw [List.length_drop]; omega)]
        rw [← hGD] at cvD
        have hBi : ¬ ((m : Int) < (G.length : Int)) := by rw [hGD, List.length_drop]; omega
        clear hGl hD hRD hDs hGD hG
        go_wp2_with fail
        refine (lSeek g4 3 0 1 (by omega) (by omega) (Fil.q_pos _ _ _ _ _ hpos)).mono ?_
        rw [Fil.seek_q1]
        rintro e w5 ⟨rfl, h5, -⟩
        have g5 : LF W w5 fb A (Fil.q Fil.na data [] (p + G.length) 0) := h5
        go_wp2_with fail
        refine (lSeek g5 3 0 2 (by omega) (by omega) (Fil.q_pos _ _ _ _ _ hpos)).mono ?_
        rw [Fil.seek_q2]
        rintro e w6 ⟨rfl, h6, -⟩
        go_wp2_with fail
        go_returns
        exact ⟨rfl, h6.b⟩
end Go.Proofs.Ytaepjlaegldkhaa
