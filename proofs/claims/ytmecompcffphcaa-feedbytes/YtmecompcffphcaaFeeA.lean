/- LAYER 9's laws: awake. -/
import Derived.Test.YtmecompcffphcaaFeeW6
namespace Go.Proofs.Ytmecompcffphcaa
open Go.ChangeShapes Go.WideShapes Go.ChangeAt Go.RowKit

theorem UseS.q {w w' : World} {pb ub : Nat} {sh rd ck : List Int} {a b c : Nat} (h : UseS w ub sh rd ck a b c) (g : Bq pb w w') (hn : ub ≠ pb) (hv : ∀ vs vr vc, Box w ub [vs, vr, vc, .int .i64 a, .int .i64 b, .int .i64 c] → Far pb vs ∧ Far pb vr ∧ Far pb vc) : UseS w' ub sh rd ck a b c := by
  obtain ⟨⟨vs, vr, vc, h1, h2, h3, h4, h5, h6, h7⟩, la, lb, lc⟩ := h
  obtain ⟨k1, k2, k3⟩ := hv _ _ _ h1
  exact ⟨⟨vs, vr, vc, h1.q g hn, RdR.q h2 g k1, RdR.q h3 g k2, RdR.q h4 g k3, h5, h6, h7⟩, la, lb, lc⟩
def Fee.aw : Fee.Fd := ⟨[], [], [3], [], [7], []⟩
theorem Fee.aw_good : Fee.good Fee.aw = true := by decide +kernel
theorem Fee.no_good : Fee.good Fee.noFd = true := by decide +kernel
theorem Fee.no_wf : Fee.Wf Fee.noFd := ⟨by simp [Fee.noFd, B8s], by simp [Fee.noFd], by simp [Fee.noFd, B8s], by simp [Fee.noFd]⟩
theorem Fee.no_is (w : World) : IsFd w (.agg #[.slice none 0 0, .slice none 0 0, .slice none 0 0, .slice none 0 0, .slice none 0 0, .slice none 0 0]) Fee.noFd :=
  ⟨_, _, _, _, _, _, rfl, RdR.nil _ _, RdR.nil _ _, RdR.nil _ _, RdR.nil _ _, RdR.nil _ _, FlS.nil _, Fee.no_wf⟩
theorem Box.rd1 {w : World} {b : Nat} {v : Value} {vs : List Value} (h : Box w b (v :: vs)) : ∀ n c, n = (v :: vs).length → n ≤ c → c ≤ 9223372036854775807 → RdR 1 w (.slice (some ⟨b, 0, none⟩) n c) n (v :: vs) :=
  fun n c hn hc hc2 => ⟨_, c, rfl, hc, hc2, by rw [Nat.mul_one]; exact hn.symm, fun _ => ⟨b, 0, rfl, h.lt, fun j u hu => by rw [Nat.zero_add]; exact h.c j u hu⟩⟩
set_option maxHeartbeats 4000000 in
set_option maxRecDepth 100000 in
theorem awake9_c (w : World) : Calls Try.prog 5 #[] w fun e w' => e = .returned (.bool true) ∧ Bw w w' := by
  have h3 := (Box.new w [.int .i64 3] 3).bw ((Bw.refl _).alloc (.cells #[.int .u32 7] 49))
  have h7 := Box.new (w.alloc (.cells #[.int .i64 3] 3)) [.int .u32 7] 49
  rw [World.size_alloc] at h7
  have hI : IsFd ((w.alloc (.cells #[.int .i64 3] 3)).alloc (.cells #[.int .u32 7] 49)) (.agg #[.slice none 0 0, .slice none 0 0, .slice (some ⟨w.heap.size, 0, none⟩) 1 1, .slice none 0 0, .slice (some ⟨w.heap.size + 1, 0, none⟩) 1 1, .slice none 0 0]) Fee.aw :=
    ⟨_, _, _, _, _, _, rfl, RdR.nil _ _, RdR.nil _ _, Box.rd1 h3 1 1 rfl (Nat.le_refl _) (by omega), RdR.nil _ _, Box.rd1 h7 1 1 rfl (Nat.le_refl _) (by omega), FlS.nil _, ⟨by simp [Fee.aw, B8s], by simp [Fee.aw], by simp [Fee.aw, B8s], by simp [Fee.aw]⟩⟩
  have hBg := Begin_c _ _ _ hI
  have hbeg : Fee.beg Fee.aw = Fee.aw := by unfold Fee.beg; rw [Fee.aw_good]; rfl
  rw [hbeg] at hBg
  have hb0 : Bw w ((w.alloc (.cells #[.int .i64 3] 3)).alloc (.cells #[.int .u32 7] 49)) := ((Bw.refl w).alloc _).alloc _
  clear h3 h7 hI
  go_enter Try.func5, Try.ntmps5
  go_wp2_with fail
  refine hBg.mono ?_
  rintro e w1 ⟨ub, rfl, hub, hb1, hU, -⟩
  have hle : w.heap.size ≤ ub := Nat.le_trans hb0.size hub
  replace hb1 := hb0.trans hb1
  clear hBg hub hb0
  go_wp2_with fail
  refine (Take_c _ _ _ _ _ _ _ _ hU (by decide) 5).mono ?_
  rintro e w2 ⟨rfl, hU2, q2, -⟩
  replace hb1 := q2.toBw hb1 hle
  go_wp2_with fail
  refine (Take_c _ _ _ _ _ _ _ _ hU2 (by decide) 5).mono ?_
  rintro e w3 ⟨rfl, hU3, q3, -⟩
  replace hb1 := q3.toBw hb1 hle
  go_wp2_with fail
  refine (Time_c _ _ _ _ _ _ _ _ hU3 (by decide)).mono ?_
  rintro e w4 ⟨rfl, hU4, q4, -⟩
  replace hb1 := q4.toBw hb1 hle
  go_wp2_with fail
  refine (Time_c _ _ _ _ _ _ _ _ hU4 (by decide)).mono ?_
  rintro e w5 ⟨rfl, hU5, q5, -⟩
  replace hb1 := q5.toBw hb1 hle
  go_wp2_with fail
  refine (Used_c _ _ _ _ _ _ _ _ hU5).mono ?_
  rintro e w6 ⟨rfl, q6⟩
  replace hb1 := hb1.trans q6
  have hG := Good_c _ _ w6 (Fee.no_is w6)
  rw [Fee.no_good] at hG
  simp only [show (Fee.take Fee.aw.short 0 5) = (3, 1) from by decide +kernel, show (Fee.take Fee.aw.short 1 5) = (5, 1) from by decide +kernel, show (Fee.time Fee.aw.clock 0) = (7, 1) from by decide +kernel, show (Fee.time Fee.aw.clock 1) = (7, 1) from by decide +kernel]
  clear hU hU2 hU3 hU4 hU5 q2 q3 q4 q5 q6
  go_wp2_with fail
  refine hG.mono ?_
  rintro e w7 ⟨rfl, q7⟩
  go_wp2_with fail
  go_returns
  exact ⟨rfl, hb1.trans q7⟩
end Go.Proofs.Ytmecompcffphcaa
