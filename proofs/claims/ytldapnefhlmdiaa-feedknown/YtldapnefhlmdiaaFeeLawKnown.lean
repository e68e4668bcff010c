/- LAYER 9's law FeedKnown. -/
import Derived.Test.YtldapnefhlmdiaaFeeA
import Derived.Test.YtldapnefhlmdiaaFeeW7
import Derived.Test.YtldapnefhlmdiaaFeeP2
import Derived.Test.YtldapnefhlmdiaaFeeD
namespace Go.Proofs.Ytldapnefhlmdiaa
open Go.ChangeShapes Go.WideShapes Go.ChangeAt Go.RowKit
set_option linter.unusedSimpArgs false

set_option maxHeartbeats 1000000 in
set_option maxRecDepth 100000 in
theorem Bytes_no (w : World) (p : Value) (n : Int) (hn : n < 0 ∨ 4096 < n) : Calls Try.prog 13 #[p, .int .i64 n] w fun e w' => e = .returned (.slice none 0 0) ∧ w' = w := by
  by_cases h : n < 0
  · go_enter Try.func13, Try.ntmps13
    go_wp2_with fail
    go_returns
    exact ⟨rfl, rfl⟩
  · have h2 : 4096 < n := by omega
    go_enter Try.func13, Try.ntmps13
    go_wp2_with fail
    go_returns
    exact ⟨rfl, rfl⟩
def Fee.k1 : Fee.Fd := ⟨[⟨#[97, 0]⟩], [], [], [], [], []⟩
def Fee.k2 : Fee.Fd := ⟨[], [], [], [], [], [⟨⟨#[97]⟩, []⟩, ⟨⟨#[97]⟩, []⟩]⟩
def Fee.k3 : Fee.Fd := ⟨[], [], [4097], [], [], []⟩
def Fee.k4 : Fee.Fd := ⟨[], [], [], [9], [], []⟩
def Fee.k5 : Fee.Fd := ⟨[], [], [-1], [], [], []⟩
theorem Fee.k_good : Fee.good Fee.k1 = false ∧ Fee.good Fee.k2 = false ∧ Fee.good Fee.k3 = false ∧ Fee.good Fee.k4 = true ∧ Fee.good Fee.k5 = false := by decide +kernel
theorem Fee.wf_of {f : Fee.Fd} (a : f.input = []) (b : f.clock = []) (c : ∀ n ∈ f.short, -9223372036854775808 ≤ n ∧ n ≤ 9223372036854775807) (d : B8s f.random) : Fee.Wf f := ⟨by rw [a]; simp [B8s], c, d, by rw [b]; simp⟩
theorem Fee.k1_is {w : World} {b : Nat} (h : Box w b [.string ⟨#[97, 0]⟩]) : IsFd w (.agg #[.slice (some ⟨b, 0, none⟩) 1 1, .slice none 0 0, .slice none 0 0, .slice none 0 0, .slice none 0 0, .slice none 0 0]) Fee.k1 :=
  ⟨_, _, _, _, _, _, rfl, Box.rd1 h 1 1 rfl (Nat.le_refl _) (by omega), RdR.nil _ _, RdR.nil _ _, RdR.nil _ _, RdR.nil _ _, FlS.nil _, Fee.wf_of rfl rfl (by simp [Fee.k1]) (by simp [Fee.k1, B8s])⟩
theorem Fee.k2_is {w : World} {b : Nat} (h : Box w b [.string ⟨#[97]⟩, .slice none 0 0, .string ⟨#[97]⟩, .slice none 0 0]) : IsFd w (.agg #[.slice none 0 0, .slice none 0 0, .slice none 0 0, .slice none 0 0, .slice none 0 0, .slice (some ⟨b, 0, none⟩) 2 2]) Fee.k2 := by
  refine ⟨_, _, _, _, _, _, rfl, RdR.nil _ _, RdR.nil _ _, RdR.nil _ _, RdR.nil _ _, RdR.nil _ _, ⟨[.slice none 0 0, .slice none 0 0], rfl, ⟨_, 2, rfl, Nat.le_refl _, by omega, rfl, fun _ => ⟨b, 0, rfl, h.lt, fun j u hu => by rw [Nat.zero_add]; exact h.c j u hu⟩⟩, fun i f u a c => ?_, fun f hf => ?_⟩, Fee.wf_of rfl rfl (by simp [Fee.k2]) (by simp [Fee.k2, B8s])⟩
  · have hi2 : i < 2 := (List.getElem?_eq_some_iff.1 a).1
    obtain rfl | rfl : i = 0 ∨ i = 1 := by omega
    all_goals
      simp [Fee.k2] at a c
      subst a c
      exact RdR.nil _ _
  · simp [Fee.k2] at hf
    subst hf
    simp [B8s]
theorem Fee.k3_is {w : World} {b : Nat} (h : Box w b [.int .i64 4097]) : IsFd w (.agg #[.slice none 0 0, .slice none 0 0, .slice (some ⟨b, 0, none⟩) 1 1, .slice none 0 0, .slice none 0 0, .slice none 0 0]) Fee.k3 :=
  ⟨_, _, _, _, _, _, rfl, RdR.nil _ _, RdR.nil _ _, Box.rd1 h 1 1 rfl (Nat.le_refl _) (by omega), RdR.nil _ _, RdR.nil _ _, FlS.nil _, Fee.wf_of rfl rfl (by simp [Fee.k3]) (by simp [Fee.k3, B8s])⟩
theorem Fee.k4_is {w : World} {b : Nat} (h : Box w b [.int .u8 9]) : IsFd w (.agg #[.slice none 0 0, .slice none 0 0, .slice none 0 0, .slice (some ⟨b, 0, none⟩) 1 1, .slice none 0 0, .slice none 0 0]) Fee.k4 :=
  ⟨_, _, _, _, _, _, rfl, RdR.nil _ _, RdR.nil _ _, RdR.nil _ _, Box.rd1 h 1 1 rfl (Nat.le_refl _) (by omega), RdR.nil _ _, FlS.nil _, Fee.wf_of rfl rfl (by simp [Fee.k4]) (by simp [Fee.k4, B8s, B8])⟩
theorem Fee.k5_is {w : World} {b : Nat} (h : Box w b [.int .i64 (-1)]) : IsFd w (.agg #[.slice none 0 0, .slice none 0 0, .slice (some ⟨b, 0, none⟩) 1 1, .slice none 0 0, .slice none 0 0, .slice none 0 0]) Fee.k5 :=
  ⟨_, _, _, _, _, _, rfl, RdR.nil _ _, RdR.nil _ _, Box.rd1 h 1 1 rfl (Nat.le_refl _) (by omega), RdR.nil _ _, RdR.nil _ _, FlS.nil _, Fee.wf_of rfl rfl (by simp [Fee.k5]) (by simp [Fee.k5, B8s])⟩
/-- Put of one that may not be. -/
theorem Put_bad (v : Value) (f : Fee.Fd) (w : World) (hv : IsFd w v f) (hg : Fee.good f = false) : Calls Try.prog 11 #[v] w fun e w' => ∃ q n c, e = .returned (.tuple #[.slice q n c, .int .i64 1]) ∧ Bw w w' := by
  refine (Put_c v f w hv).mono ?_
  rintro e w' ⟨u, rfl, h1, h2⟩
  rw [hg] at h1 ⊢
  obtain ⟨q, c, rfl, -⟩ := Rd8.open (Own8.rd h1.own)
  exact ⟨q, _, c, rfl, h2⟩
theorem Put_none (w : World) : Calls Try.prog 11 #[.agg #[.slice none 0 0, .slice none 0 0, .slice none 0 0, .slice none 0 0, .slice none 0 0, .slice none 0 0]] w fun e w' => ∃ q c, e = .returned (.tuple #[.slice q 24 c, .int .i64 0]) ∧ Bw w w' := by
  refine (Put_c _ Fee.noFd w (Fee.no_is w)).mono ?_
  rintro e w' ⟨u, rfl, h1, h2⟩
  rw [Fee.no_good] at h1 ⊢
  obtain ⟨q, c, rfl, -⟩ := Rd8.open (Own8.rd h1.own)
  exact ⟨q, c, rfl, h2⟩
set_option maxHeartbeats 8000000 in
set_option maxRecDepth 100000 in
theorem FeedKnown_w (W : World) : Calls Try.prog 3 #[] W fun e w' => e = .returned (.bool true) ∧ Bw W w' := by
  obtain ⟨g1, g2, g3, g4, g5⟩ := Fee.k_good
  go_enter Try.func3, Try.ntmps3
  go_wp2_with fail
  refine (awake9_c _).mono ?_
  rintro e w1 ⟨rfl, hb1⟩
  go_wp2_with fail
  refine (getD_c _).mono ?_
  rintro e w2 ⟨rfl, hb2⟩
  replace hb1 := hb1.trans hb2
  clear hb2
  go_wp2_with fail
  refine (Put_none _).mono ?_
  rintro e w3 ⟨qb, cb, rfl, hb3⟩
  replace hb1 := (hb1.alloc _).trans hb3
  clear hb3
  go_wp2_with fail
  refine (Put_bad _ Fee.k1 _ (Fee.k1_is (Box.new w3 [.string ⟨#[97, 0]⟩] 9)) g1).mono ?_
  rintro e w4 ⟨_, _, _, rfl, hb4⟩
  replace hb1 := (hb1.alloc _).trans hb4
  clear hb4
  go_wp2_with fail
  refine (Put_bad _ Fee.k2 _ (Fee.k2_is (Box.new w4 [.string ⟨#[97]⟩, .slice none 0 0, .string ⟨#[97]⟩, .slice none 0 0] 36)) g2).mono ?_
  rintro e w5 ⟨_, _, _, rfl, hb5⟩
  replace hb1 := (hb1.alloc _).trans hb5
  clear hb5
  go_wp2_with fail
  refine (Put_bad _ Fee.k3 _ (Fee.k3_is (Box.new w5 [.int .i64 4097] 3)) g3).mono ?_
  rintro e w6 ⟨_, _, _, rfl, hb6⟩
  replace hb1 := (hb1.alloc _).trans hb6
  clear hb6
  have hBg := Begin_c _ Fee.k4 _ (Fee.k4_is (Box.new w6 [.int .u8 9] 5))
  rw [show Fee.beg Fee.k4 = Fee.k4 by unfold Fee.beg; rw [g4]; rfl] at hBg
  go_wp2_with fail
  refine hBg.mono ?_
  rintro e w7 ⟨ub, rfl, hub, hb7, hU, -⟩
  have hule : W.heap.size ≤ ub := Nat.le_trans (hb1.alloc _).size hub
  replace hb1 := (hb1.alloc _).trans hb7
  clear hb7 hBg hub
  go_wp2_with fail
  refine (Bytes_c _ _ _ _ _ _ _ _ hU 3 (by omega)).mono ?_
  rintro e w8 ⟨vg, rfl, hO, hU8, q8, -⟩
  replace hb1 := q8.toBw hb1 hule
  rw [show Fee.bytes Fee.k4.random 0 3 = [9, 0, 0] from by decide +kernel] at hO
  clear hU q8
  go_wp2_with fail
  refine (Bytes_no _ _ 4097 (by omega)).mono ?_
  rintro e w9 ⟨rfl, rfl⟩
  have hBg := Begin_c _ Fee.k5 _ (Fee.k5_is (Box.new w9 [.int .i64 (-1)] 3))
  rw [show Fee.beg Fee.k5 = Fee.noFd by unfold Fee.beg; rw [g5]; rfl] at hBg
  go_wp2_with fail
  refine hBg.mono ?_
  rintro e w10 ⟨vb, rfl, hvb, hb10, hV, hFV⟩
  have hvle : W.heap.size ≤ vb := Nat.le_trans (hb1.alloc _).size hvb
  have hult := hU8.lt
  have hB9 : Bw w9 w10 := ((Bw.refl w9).alloc _).trans hb10
  replace hU8 := hU8.bw hB9
  have hne : vb ≠ ub := by have := Nat.le_trans ((Bw.refl w9).alloc (.cells #[.int .i64 (-1)] 3)).size hvb; omega
  have hult2 : ub < (w9.alloc (.cells #[.int .i64 (-1)] 3)).heap.size := Nat.lt_of_lt_of_le hult ((Bw.refl w9).alloc _).size
  replace hb1 := hb1.trans hB9
  have hcv := conv8 (hO.bw hB9)
  rw [show strOfNums [9, 0, 0] = ⟨#[9, 0, 0]⟩ from by decide +kernel] at hcv
  obtain ⟨qg, cg, rfl, -⟩ := Rd8.open (Own8.rd hO)
  have hcv3 : (convert 24 9 (.slice qg 3 cg)).run Try.prog w10 = .ok (.string ⟨#[9, 0, 0]⟩) w10 := hcv
  have hTm := Time_c _ _ _ _ _ _ _ _ hU8 (by decide)
  rw [show Fee.time Fee.k4.clock 0 = (0, 0) from by decide +kernel] at hTm
  clear hO hBg hb10 hvb hB9 hult hcv
  go_wp2_with fail
  refine hTm.mono ?_
  rintro e w11 ⟨rfl, -, q11, -⟩
  replace hV := (hV.far hFV hult2 q11 hne).1
  replace hb1 := q11.toBw hb1 hule
  clear hTm hU8 hFV hcv3 q11
  go_wp2_with fail
  refine (Take_c _ _ _ _ _ _ _ _ hV (by decide) (-1)).mono ?_
  rintro e w12 ⟨rfl, hV12, q12, -⟩
  rw [show Fee.take Fee.noFd.short 0 (-1) = (0, 0) from by decide +kernel] at hV12 ⊢
  replace hb1 := q12.toBw hb1 hvle
  go_wp2_with fail
  refine (Take_c _ _ _ _ _ _ _ _ hV12 (by decide) 9).mono ?_
  rintro e w13 ⟨rfl, -, q13, -⟩
  rw [show Fee.take Fee.noFd.short 0 9 = (9, 0) from by decide +kernel]
  replace hb1 := q13.toBw hb1 hvle
  go_wp2_with fail
  go_returns
  exact ⟨rfl, hb1⟩
end Go.Proofs.Ytldapnefhlmdiaa
