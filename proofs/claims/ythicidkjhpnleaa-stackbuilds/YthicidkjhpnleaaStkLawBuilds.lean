/- LAYER 10's law StackBuilds. -/
import Derived.Test.YthicidkjhpnleaaStkRef
namespace Go.Proofs.Ythicidkjhpnleaa
open Go.ChangeShapes Go.WideShapes Go.ChangeAt Go.RowKit
set_option linter.unusedSimpArgs false

theorem Stk.room_le {l : List ByteArray} {m : Nat} (h : ∀ s ∈ l, s.size ≤ m) : Stk.room l ≤ (m + 1) * l.length := by
  have := Stk.sum_le h
  rw [Stk.room_sum, Nat.add_mul]
  omega
theorem Stk.m20 : (MS.new 20).mapE 2147475456 4096 3 = 0 := by decide +kernel
theorem Stk.mem_all {S : MS} {l : List ByteArray} (hm : S.mapE 2147475456 4096 3 = 0) (hE : Stk.err l = 0) : (Stk.mem S l).bs 2147475456 4096 = Stk.bytes l := by
  have hl := Stk.bytes_len hE
  apply List.ext_getElem?
  intro i
  unfold MS.bs
  rw [List.getElem?_map]
  by_cases hi : i < 4096
  · obtain ⟨x, hx⟩ : ∃ x, (Stk.bytes l)[i]? = some x := ⟨_, List.getElem?_eq_getElem (by omega)⟩
    rw [List.getElem?_range hi, hx]
    simp only [Option.map_some, Option.some.injEq]
    exact Stk.mem_at hm hi hx
  · rw [List.getElem?_eq_none (by simp; omega), List.getElem?_eq_none (by omega)]
    rfl
theorem conv_none (w : World) : (convert 23 9 (.slice none 0 0)).run Try.prog w = .ok (.string ⟨#[]⟩) w := run_convert_bytes_nil w 23 5 Try.underlying23 Try.underlying5 0 0 _ Try.underlying9
theorem PlW.bw {w w' : World} {g n : Nat} {ps : List (Nat × Nat)} {k : Nat} (h : PlW w g n ps k) (b : Bw w w') : PlW w' g n ps k := h.blk (Below.block b g h.lt)
set_option maxHeartbeats 4000000 in
set_option maxRecDepth 100000 in
theorem StackBuilds_w (v : Value) (W : World) (h0 : ∃ l, TxS W v l) : Calls Try.prog 4 #[v] W fun e w' => e = .returned (.bool true) ∧ Bw W w' := by
  obtain ⟨l, hv⟩ := h0
  have hv2 := hv
  obtain ⟨q, cap, rfl, hc1, hc2, -⟩ := RdR.at1 hv
  go_enter Try.func4, Try.ntmps4
  go_wp2_with fail
  refine (awake10_c _).mono ?_
  rintro e w1 ⟨rfl, b1⟩
  go_wp2_with fail
  refine (great10_c _ l _ (RdR.bw hv2 b1)).mono ?_
  rintro e w2 ⟨b, rfl, b2, hgr⟩
  replace b2 := b1.trans b2
  cases b with
  | true =>
    clear hgr
    go_wp2_with fail
    go_returns
    exact ⟨rfl, b2⟩
  | false =>
    obtain ⟨hl20, hl4⟩ := hgr rfl
    have hroom := Stk.room_le hl4
    have hB := Build_c w2 _ l (RdR.bw hv2 b2) (by omega)
    have hRf := fun X (g : Bw W X) => rStack_c X _ l (RdR.bw hv2 g) hl20 hl4
    clear hgr hl4 b1
    by_cases hE : Stk.err l = 0
    · obtain ⟨hn16, hf, hsp, -, -⟩ := Stk.facts hE
      have hsp2 : Stk.sp l ≤ 4096 := by omega
      go_wp2_with fail
      refine hB.mono ?_
      rintro e w3 (⟨h, _⟩ | ⟨-, gb, pg, rfl, hO, hP, -, b3⟩)
      · exact absurd hE h
      replace b3 := b2.trans b3
      go_wp2_with fail
      refine (hRf _ b3).mono ?_
      rintro e w4 (⟨h, _⟩ | ⟨-, gc, vl, rfl, hO4, hvl, b4⟩)
      · exact absurd hE h
      have hOb := hO.bw b4
      replace hP := hP.bw b4
      replace b4 := b3.trans b4
      have hcv1 := conv8 hOb
      have hcv2 := conv8 hO4
      have hrb := hOb.rd
      obtain ⟨q2, cap2, rfl, h1, h2, h3, h4⟩ := hvl
      clear hO hO4 hOb hB
      go_wp2_with fail
      go_loopg [11] l.length (fun g j wr => ∃ k : Nat, k + g = l.length ∧ j = .int .i64 k ∧ Bw w4 wr)
      case atStart => exact ⟨0, by omega, rfl, by (repeat' (first | (with_reducible assumption) | (with_reducible exact Bw.refl _) | (with_reducible refine Bw.alloc ?_ _) | (with_reducible refine Bw.drew ?_) | (with_reducible refine Bw.drewN ?_ _) | (with_reducible refine Bw.setCell ?_ ?_ _) | exact Nat.le_refl _))⟩
      case round =>
        obtain ⟨k, hkg, rfl, hbr⟩ := hrel
        by_cases hk : k = l.length
        · subst hk
          clear hcv1 hcv2 hP h4
          have b5 := b4.trans hbr
          go_wp2_with fail
          refine (New_b b5 20 (by omega)).mono ?_
          rintro e w5 ⟨mb, rfl, hM, b6⟩
          have hL := Lay_c (hM.more (Q := fun _ => False) (fun _ h => h.elim)) (fun _ h => h.elim) _ l (RdR.bw hv2 (b5.trans b6)) (by omega) (by unfold maxLen; omega) (fun _ => new_ins _ _)
          have k6 : Kp (fun i => i < wr.heap.size) wr w5 := Kp.bw b6
          have hL2 := Lay_c hM (fun i h => Nat.lt_of_lt_of_le h b6.size) _ l (RdR.bw hv2 (b5.trans b6)) (by omega) (by unfold maxLen; omega) (fun _ => new_ins _ _)
          clear hL
          go_wp2_with fail
          refine hL2.mono ?_
          rintro e w6 ⟨⟨h, _⟩ | ⟨_, h, _⟩ | ⟨-, -, pg2, rfl, hM6⟩, k7⟩
          · exact absurd hE h
          · exact absurd Stk.m20 h
          have b7 : Bw wr w6 := Bw.of_kp b5 hM6.bw (k6.trans k7)
          have hR := Read_b hM6 2147475456 4096 ⟨by decide, by decide⟩ (by omega) (by
            have := Stk.mem_may (l := l) Stk.m20 (o := 0) (n := 4096) (by omega) (by omega)
            simpa using this)
          rw [Stk.mem_all Stk.m20 hE] at hR
          clear hL2 hM b6 k6 k7
          go_wp2_with fail
          refine hR.mono ?_
          rintro e w8 ⟨vx, rfl, b8, hM8, hrx⟩
          have hcx := hrx.conv
          have hcb := (Rd8.bw hrb (hbr.trans (b7.trans b8))).conv
          have b9 := hM8.bw
          clear hM8 hR hrx hM6
          go_wp2_with fail
          go_returns
          exact ⟨rfl, b9⟩
        · have hkl : k < l.length := by omega
          have hki : (k : Int) < (l.length : Int) := by omega
          obtain ⟨p, hp⟩ : ∃ p, (Stk.pls (Stk.first l) l)[k]? = some p := ⟨_, List.getElem?_eq_getElem (by rw [Stk.pls_len]; omega)⟩
          obtain ⟨c1, c2⟩ := (hP.bw hbr).c k p hkl hp
          obtain ⟨b2', o2, rfl, -, hc⟩ := h4 (by omega)
          have c3 := hbr.keep (hc (k * 2) _ (by rw [← Nat.add_zero (k * 2), chunk Stk.plC 2 (fun _ => rfl) _ k p 0 hp (by decide)]; rfl))
          have c4 := hbr.keep (hc (k * 2 + 1) _ (by rw [chunk Stk.plC 2 (fun _ => rfl) _ k p 1 hp (by decide)]; rfl))
          rw [← Nat.add_assoc] at c4
          clear hp hc h4 hP hcv1 hcv2
          go_wp2_with fail
          go_quiet (fail)
          go_wp2_with fail
          go_roundg (l.length - (k + 1))
          case measure => omega
          case rel => exact ⟨k + 1, by omega, by simp, by (repeat' (first | (with_reducible assumption) | (with_reducible exact Bw.refl _) | (with_reducible refine Bw.alloc ?_ _) | (with_reducible refine Bw.drew ?_) | (with_reducible refine Bw.drewN ?_ _) | (with_reducible refine Bw.setCell ?_ ?_ _) | exact Nat.le_refl _))⟩
    · have hE1 : (((Stk.err l : Nat) : Int) == 0) = false := by rw [beq_eq_false_iff_ne]; omega
      have hE2 : ¬ (Stk.err l = 0) := hE
      have hcz := conv_none
      go_wp2_with fail
      refine hB.mono ?_
      rintro e w3 (⟨-, rfl, b3⟩ | ⟨h, _⟩)
      rotate_left
      · exact absurd h hE
      replace b3 := b2.trans b3
      go_wp2_with fail
      refine (hRf _ b3).mono ?_
      rintro e w4 (⟨-, rfl, b4⟩ | ⟨h, _⟩)
      rotate_left
      · exact absurd h hE
      replace b4 := b3.trans b4
      clear hB b3 b2
      go_wp2_with fail
      refine wp_loop_rounds 1 ?_
      rw [rounds_succ]
      go_wp2_with fail
      refine (New_b b4 20 (by omega)).mono ?_
      rintro e w5 ⟨mb, rfl, hM, b5⟩
      have hL := Lay_c (hM.more (Q := fun _ => False) (fun _ h => h.elim)) (fun _ h => h.elim) _ l (RdR.bw hv2 (b4.trans b5)) (by omega) (by unfold maxLen; omega) (fun _ => new_ins _ _)
      go_wp2_with fail
      refine hL.mono ?_
      rintro e w6 ⟨⟨-, rfl, hM6⟩ | ⟨h, _⟩ | ⟨h, _⟩, -⟩
      rotate_left
      · exact absurd h hE
      · exact absurd h hE
      have hPg := Pages_b hM6
      rw [show (MS.new 20).th.length = 0 from rfl] at hPg
      clear hL hM b5
      go_wp2_with fail
      refine hPg.mono ?_
      rintro e w7 ⟨rfl, hM7, -⟩
      have b7 := hM7.bw
      clear hM7 hPg hM6
      go_wp2_with fail
      go_returns
      exact ⟨rfl, b7⟩
end Go.Proofs.Ythicidkjhpnleaa
