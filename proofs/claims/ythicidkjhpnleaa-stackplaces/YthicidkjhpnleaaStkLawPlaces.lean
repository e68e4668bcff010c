/- LAYER 10's law StackPlaces. -/
import Derived.Test.YthicidkjhpnleaaStkA
namespace Go.Proofs.Ythicidkjhpnleaa
open Go.ChangeShapes Go.WideShapes Go.ChangeAt Go.RowKit
set_option linter.unusedSimpArgs false

theorem Stk.room_le {l : List ByteArray} {m : Nat} (h : ∀ s ∈ l, s.size ≤ m) : Stk.room l ≤ (m + 1) * l.length := by
  have := Stk.sum_le h
  rw [Stk.room_sum, Nat.add_mul]
  omega
theorem Stk.room_snoc {l : List ByteArray} {k : Nat} {s : ByteArray} (h : l[k]? = some s) : Stk.room (l.take (k + 1)) = Stk.room (l.take k) + s.size + 1 := by
  have h1 := Stk.room_take l k
  have h2 := Stk.room_take l (k + 1)
  obtain ⟨s', h3, h4⟩ := dropAt (List.getElem?_eq_some_iff.1 h).1
  rw [h] at h3
  obtain rfl := Option.some.inj h3
  rw [h4, Stk.room_cons] at h1
  omega
theorem PlW.bw {w w' : World} {g n : Nat} {ps : List (Nat × Nat)} {k : Nat} (h : PlW w g n ps k) (b : Bw w w') : PlW w' g n ps k := h.blk (Below.block b g h.lt)
set_option maxHeartbeats 4000000 in
set_option maxRecDepth 100000 in
theorem StackPlaces_w (v : Value) (W : World) (h0 : ∃ l, TxS W v l) : Calls Try.prog 6 #[v] W fun e w' => e = .returned (.bool true) ∧ Bw W w' := by
  obtain ⟨l, hv⟩ := h0
  have hv2 := hv
  obtain ⟨q, cap, rfl, hc1, hc2, hcell⟩ := RdR.at1 hv
  go_enter Try.func6, Try.ntmps6
  go_wp2_with fail
  refine (awake10_c _).mono ?_
  rintro e w1 ⟨rfl, b1⟩
  go_wp2_with fail
  refine (great10_c _ l _ (RdR.bw hv2 b1)).mono ?_
  rintro e w2 ⟨b, rfl, b2, hgr⟩
  replace b2 := b1.trans b2
  cases b with
  | true =>
    clear hgr
    go_wp2_with fail
    go_returns
    exact ⟨rfl, b2⟩
  | false =>
    obtain ⟨hl20, hl4⟩ := hgr rfl
    have hroom := Stk.room_le hl4
    have hB := Build_c w2 _ l (RdR.bw hv2 b2) (by omega)
    clear hgr
    go_wp2_with fail
    refine hB.mono ?_
    rintro e w3 (⟨h, rfl, b3⟩ | ⟨hE, gb, pg, rfl, -, hP, -, b3⟩)
    · replace b3 := b2.trans b3
      have h1 : (((Stk.err l : Nat) : Int) == 0) = false := by rw [beq_eq_false_iff_ne]; omega
      have h1' : ¬ (Stk.err l = 0) := h
      clear hl4 hcell
      go_wp2_with fail
      go_returns
      exact ⟨rfl, b3⟩
    · replace b3 := b2.trans b3
      obtain ⟨hn16, -, hr⟩ := Stk.err_ok hE
      have hf : Stk.first l + Stk.room l = 4096 := by unfold Stk.first; omega
      have hsp : Stk.sp l + 4 * (l.length + 3) ≤ Stk.first l := by unfold Stk.sp; omega
      clear hB hl4 hE
      go_wp2_with fail
      go_loopg [7, 8] l.length (fun g x j wr => ∃ a : Nat, g ≤ l.length ∧ x = .int .u32 (2147475456 + (a : Int)) ∧ a = Stk.first l + Stk.room (l.take g) ∧ j = .int .i64 ((g : Int) - 1) ∧ Bw w3 wr)
      case atStart => exact ⟨4096, Nat.le_refl _, rfl, by rw [List.take_length]; exact hf.symm, rfl, Bw.refl _⟩
      case round =>
        obtain ⟨a, hgk, rfl, ha, rfl, hbr⟩ := hrel
        have hbW := b3.trans hbr
        cases gk with
        | zero =>
          have ha0 : a = Stk.first l := by rw [ha]; simp [Stk.room]
          subst ha0
          clear ha hcell hP
          have hd : decide (2147475456 + (Stk.sp l : Int) + 4 * (l.length : Int) + 12 ≤ 2147475456 + (Stk.first l : Int)) = true := decide_eq_true (by omega)
          go_wp2_with fail
          go_returns
          exact ⟨rfl, hbW⟩
        | succ k =>
          obtain ⟨s, hs, -⟩ := dropAt (l := l) (k := k) (by omega)
          obtain ⟨b, o, rfl, hb, c0⟩ := hcell k s hs
          replace c0 := hbW.keep c0
          have hp : (Stk.pls (Stk.first l) l)[k]? = some (Stk.first l + Stk.room (l.take k), s.size) := by
            obtain ⟨p, hp⟩ : ∃ p, (Stk.pls (Stk.first l) l)[k]? = some p := ⟨_, List.getElem?_eq_getElem (by rw [Stk.pls_len]; omega)⟩
            obtain ⟨s', h1, h2⟩ := Stk.pls_at l _ k p hp
            rw [hs] at h1
            obtain rfl := Option.some.inj h1
            rw [hp, h2]
          obtain ⟨c1, c2⟩ := (hP.bw hbr).c k _ (by omega) hp
          rw [Stk.room_snoc hs] at ha
          obtain ⟨a', ha'⟩ : ∃ a', Stk.first l + Stk.room (l.take k) = a' := ⟨_, rfl⟩
          dsimp only at c1 c2
          rw [ha'] at c1
          have hae : a = a' + s.size + 1 := by omega
          have hab : a ≤ 4096 := by have := Stk.room_take l (k + 1); have := Stk.room_snoc hs; omega
          have HA : Hid (a' = Stk.first l + Stk.room (l.take k)) := ha'.symm
          subst hae
          have hki : (k : Int) < (l.length : Int) := by omega
          have e1 : ((k + 1 : Nat) : Int) - 1 = (k : Int) := by omega
          rw [e1]
          have e2 : 2147475456 + ((a' : Int) + (s.size : Int) + 1) - (s.size : Int) - 1 = 2147475456 + (a' : Int) := by omega
          clear ha ha' hs hp hP hcell e1
          go_wp2_with fail
          go_quiet (fail)
          go_wp2_with fail
          go_roundg k
          case measure => omega
          case rel => exact ⟨a', by omega, by first | rfl | (congr 1; omega), HA, rfl, by (repeat' (first | (with_reducible assumption) | (with_reducible exact Bw.refl _) | (with_reducible refine Bw.alloc ?_ _) | (with_reducible refine Bw.drew ?_) | (with_reducible refine Bw.drewN ?_ _) | (with_reducible refine Bw.setCell ?_ ?_ _) | exact Nat.le_refl _))⟩
end Go.Proofs.Ythicidkjhpnleaa
