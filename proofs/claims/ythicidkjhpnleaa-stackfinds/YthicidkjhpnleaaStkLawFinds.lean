/- LAYER 10's law StackFinds. -/
import Derived.Test.YthicidkjhpnleaaStkMem
namespace Go.Proofs.Ythicidkjhpnleaa
open Go.ChangeShapes Go.WideShapes Go.ChangeAt Go.RowKit
set_option linter.unusedSimpArgs false

theorem Stk.room_le {l : List ByteArray} {m : Nat} (h : ∀ s ∈ l, s.size ≤ m) : Stk.room l ≤ (m + 1) * l.length := by
  have := Stk.sum_le h
  rw [Stk.room_sum, Nat.add_mul]
  omega
theorem Stk.m20 : (MS.new 20).mapE 2147475456 4096 3 = 0 := by decide +kernel
theorem strOf_text (s : ByteArray) : strOfNums (Fee.sb s ++ [0]) = s ++ ⟨#[0]⟩ := by
  have h : strOfNums (Fee.sb s ++ [0]) = strOfNums (Fee.sb s) ++ strOfNums [0] := by
    apply ByteArray.ext
    simp [strOfNums]
  rw [h, str_sb]
  rfl
structure FindsF (l : List ByteArray) (M : MS) : Prop where
  n : M.ask (2147475456 + (Stk.sp l : Int)) 4 1 = 0 ∧ M.load (2147475456 + (Stk.sp l : Int)) 4 1 = l.length
  w : ∀ (k : Nat) s, l[k]? = some s → M.ask (2147475456 + (Stk.sp l : Int) + (4 * (k : Int) + 4)) 4 1 = 0 ∧ M.load (2147475456 + (Stk.sp l : Int) + (4 * (k : Int) + 4)) 4 1 = 2147475456 + ((Stk.first l + Stk.room (l.take k) : Nat) : Int)
  z1 : M.ask (2147475456 + (Stk.sp l : Int) + (4 * (l.length : Int) + 4)) 4 1 = 0 ∧ M.load (2147475456 + (Stk.sp l : Int) + (4 * (l.length : Int) + 4)) 4 1 = 0
  z2 : M.ask (2147475456 + (Stk.sp l : Int) + (4 * (l.length : Int) + 8)) 4 1 = 0 ∧ M.load (2147475456 + (Stk.sp l : Int) + (4 * (l.length : Int) + 8)) 4 1 = 0
theorem FindsF.of {S : MS} {l : List ByteArray} (hm : S.mapE 2147475456 4096 3 = 0) (hE : Stk.err l = 0) : FindsF l (Stk.mem S l) := by
  obtain ⟨h1, h2, h3, h4, h5⟩ := Stk.facts hE
  have hz : ∀ j, Stk.sp l + 4 * (l.length + 1) ≤ j → j + 4 ≤ Stk.first l → j % 4 = 0 → (Stk.mem S l).ask (2147475456 + (j : Int)) 4 1 = 0 ∧ (Stk.mem S l).load (2147475456 + (j : Int)) 4 1 = 0 := fun j a b c =>
    Stk.mem_word hm hE (by omega) c (by omega) (by omega) (fun i hi => by
      rw [Stk.zero_at hE (by omega) (by omega)]
      have : i = 0 ∨ i = 1 ∨ i = 2 ∨ i = 3 := by omega
      rcases this with rfl | rfl | rfl | rfl <;> rfl)
  refine ⟨?_, fun k s hs => ?_, ?_, ?_⟩
  · exact Stk.mem_word hm hE (by omega) (by omega) (by omega) (by omega) (fun i hi => by
      have := Stk.word_at hE (j := 0) (x := l.length) rfl hi
      rw [← this]
      congr 1)
  · have hk := (List.getElem?_eq_some_iff.1 hs).1
    have hp : (Stk.pls (Stk.first l) l)[k]? = some (Stk.first l + Stk.room (l.take k), s.size) := by
      obtain ⟨p, hp⟩ : ∃ p, (Stk.pls (Stk.first l) l)[k]? = some p := ⟨_, List.getElem?_eq_getElem (by rw [Stk.pls_len]; omega)⟩
      obtain ⟨s', h1, h2⟩ := Stk.pls_at l _ k p hp
      rw [hs] at h1
      obtain rfl := Option.some.inj h1
      rw [hp, h2]
    have hrt := Stk.room_take l k
    have hx : (Stk.words l)[k + 1]? = some (2147475456 + ((Stk.first l + Stk.room (l.take k) : Nat) : Int)) := by
      unfold Stk.words
      rw [List.getElem?_cons_succ, List.getElem?_map, hp]
      rfl
    have := Stk.mem_word hm hE (o := Stk.sp l + 4 * (k + 1)) (x := 2147475456 + ((Stk.first l + Stk.room (l.take k) : Nat) : Int)) (by omega) (by omega) (by omega) (by omega) (fun i hi => Stk.word_at hE hx hi)
    rwa [show 2147475456 + ((Stk.sp l + 4 * (k + 1) : Nat) : Int) = 2147475456 + (Stk.sp l : Int) + (4 * (k : Int) + 4) by omega] at this
  · have := hz (Stk.sp l + 4 * (l.length + 1)) (by omega) (by omega) (by omega)
    rwa [show 2147475456 + ((Stk.sp l + 4 * (l.length + 1) : Nat) : Int) = 2147475456 + (Stk.sp l : Int) + (4 * (l.length : Int) + 4) by omega] at this
  · have := hz (Stk.sp l + 4 * (l.length + 2)) (by omega) (by omega) (by omega)
    rwa [show 2147475456 + ((Stk.sp l + 4 * (l.length + 2) : Nat) : Int) = 2147475456 + (Stk.sp l : Int) + (4 * (l.length : Int) + 8) by omega] at this
set_option maxHeartbeats 4000000 in
set_option maxRecDepth 100000 in
theorem StackFinds_w (v : Value) (W : World) (h0 : ∃ l, TxS W v l) : Calls Try.prog 5 #[v] W fun e w' => e = .returned (.bool true) ∧ Bw W w' := by
  obtain ⟨l, hv⟩ := h0
  have hv2 := hv
  obtain ⟨q, cap, rfl, hc1, hc2, hcell⟩ := RdR.at1 hv
  go_enter Try.func5, Try.ntmps5
  go_wp2_with fail
  refine (awake10_c _).mono ?_
  rintro e w1 ⟨rfl, b1⟩
  go_wp2_with fail
  refine (New_b b1 20 (by omega)).mono ?_
  rintro e w2 ⟨mb, rfl, hM, b2⟩
  replace b2 := b1.trans b2
  go_wp2_with fail
  refine (great10_c _ l _ (RdR.bw hv2 b2)).mono ?_
  rintro e w3 ⟨b, rfl, b3, hgr⟩
  replace hM := (hM.on b3).more (Q := fun _ => False) (fun i h => h.elim)
  replace b3 := b2.trans b3
  cases b with
  | true =>
    clear hgr
    go_wp2_with fail
    go_returns
    exact ⟨rfl, b3⟩
  | false =>
    obtain ⟨hl20, hl4⟩ := hgr rfl
    have hroom := Stk.room_le hl4
    have hL := Lay_c hM (fun i h => h.elim) _ l (RdR.bw hv2 b3) (by omega) (by unfold maxLen; omega) (fun _ => new_ins _ _)
    clear hgr hl4
    go_wp2_with fail
    refine hL.mono ?_
    rintro e w4 ⟨⟨h, rfl, hM4⟩ | ⟨_, h, _⟩ | ⟨hE, -, pg, rfl, hM4⟩, -⟩
    · have b4 := hM4.bw
      have h1 : (((Stk.err l : Nat) : Int) == 0) = false := by rw [beq_eq_false_iff_ne]; omega
      have h1' : ¬ (Stk.err l = 0) := h
      clear hcell
      go_wp2_with fail
      go_returns
      exact ⟨rfl, b4⟩
    · exact absurd Stk.m20 h
    · have FF := FindsF.of Stk.m20 hE
      have TX : ∀ (k : Nat) s, l[k]? = some s → Stk.first l + Stk.room (l.take k) + s.size + 1 ≤ 4096 ∧ (Stk.mem (MS.new 20) l).bs (2147475456 + ((Stk.first l + Stk.room (l.take k) : Nat) : Int)) (s.size + 1) = Fee.sb s ++ [0] := fun k s hs => Stk.mem_text Stk.m20 hE hs
      have MY : ∀ o n : Nat, 0 < n → o + n ≤ 4096 → May (Stk.mem (MS.new 20) l) (2147475456 + (o : Int)) n 1 := fun o n hn ho => Stk.mem_may Stk.m20 hn ho
      obtain ⟨hn16, hf, hsp, -, hs16⟩ := Stk.facts hE
      obtain ⟨M, hMM⟩ : ∃ M, Stk.mem (MS.new 20) l = M := ⟨_, rfl⟩
      rw [hMM] at hM4 FF TX MY
      obtain ⟨sp, hspv⟩ : ∃ sp, Stk.sp l = sp := ⟨_, rfl⟩
      obtain ⟨n1, n2, n3, n4⟩ := FF
      rw [hspv] at n1 n2 n3 n4 hsp hs16 ⊢
      clear hL hE hMM hM hspv
      have hmod : (2147475456 + (sp : Int)) % 16 = 0 := by omega
      have hLd := Load_b hM4 (2147475456 + (sp : Int)) 4 1 ⟨by omega, by omega⟩
      rw [n1.1, n1.2] at hLd
      go_wp2_with fail
      refine hLd.mono ?_
      rintro e w5 ⟨rfl, rfl⟩
      clear hLd
      go_wp2_with fail
      clear hmod
      go_loopg [10] l.length (fun g j wr => ∃ k : Nat, k + g = l.length ∧ j = .int .i64 k ∧ HasB W wr mb (0 + 4096) M (fun _ => False))
      case atStart => exact ⟨0, by omega, rfl, hM4⟩
      case round =>
        obtain ⟨k, hkg, rfl, hMr⟩ := hrel
        have hbr := hMr.bw
        by_cases hk : k = l.length
        · subst hk
          have hL1 := Load_b hMr (2147475456 + (sp : Int) + (4 * (l.length : Int) + 4)) 4 1 ⟨by omega, by omega⟩
          have hL2 := Load_b hMr (2147475456 + (sp : Int) + (4 * (l.length : Int) + 8)) 4 1 ⟨by omega, by omega⟩
          rw [n3.1, n3.2] at hL1
          rw [n4.1, n4.2] at hL2
          clear n1 n2 n3 n4 TX MY hcell
          go_wp2_with fail
          refine hL1.mono ?_
          rintro e w6 ⟨rfl, rfl⟩
          go_wp2_with fail
          refine hL2.mono ?_
          rintro e w7 ⟨rfl, rfl⟩
          go_wp2_with fail
          go_returns
          exact ⟨rfl, hbr⟩
        · have hkl : k < l.length := by omega
          have hki : (k : Int) < (l.length : Int) := by omega
          obtain ⟨s, hs, -⟩ := dropAt hkl
          obtain ⟨b, o, rfl, hb, c0⟩ := hcell k s hs
          obtain ⟨t1, t2⟩ := TX k s hs
          obtain ⟨m1, m2⟩ := n2 k s hs
          obtain ⟨p, hp⟩ : ∃ p, Stk.first l + Stk.room (l.take k) = p := ⟨_, rfl⟩
          rw [hp] at t1 t2 m2
          have hL1 := Load_b hMr (2147475456 + (sp : Int) + (4 * (k : Int) + 4)) 4 1 ⟨by omega, by omega⟩
          rw [m1, m2] at hL1
          have hR1 := Read_b hMr (2147475456 + (p : Int)) (s.size + 1) ⟨by omega, by omega⟩ (by omega) (MY p (s.size + 1) (by omega) (by omega))
          rw [t2] at hR1
          have hlen : (Fee.sb s ++ [0]).length = s.size + 1 := by rw [List.length_append, Fee.sb_len]; rfl
          have c1 := hbr.keep c0
          have est := strOf_text s
          clear n1 n2 n3 n4 TX MY hcell m1 m2 t2 hs hp
          go_wp2_with fail
          refine hL1.mono ?_
          rintro e w6 ⟨rfl, rfl⟩
          go_wp2_with fail
          refine hR1.mono ?_
          rintro e w7 ⟨vr, rfl, b7, hM7, hrd⟩
          have c2 := b7.keep c1
          have hcv : ∀ n, (convert 23 9 vr).run Try.prog (w7.drewN n) = .ok (.string (s ++ ⟨#[0]⟩)) (w7.drewN n) := fun n => by
            have := (Rd8.bw hrd ((Bw.refl w7).drewN n)).conv
            rwa [est] at this
          obtain ⟨qr, cr, rfl, -⟩ := Rd8.open hrd
          clear hrd hL1 hR1
          have hS0 : (convert 23 9 (.slice qr (Fee.sb s ++ [0]).length cr)).run Try.prog w7.drew = .ok (.string (s ++ ⟨#[0]⟩)) w7.drew ∧ w7.drew.cell? ⟨b, o + k, none⟩ = some (.string s) := ⟨hcv 1, c2⟩
          rw [hlen] at hS0
          have hlen2 : ((Fee.sb s ++ [0]).length : Int) = (s.size : Int) + 1 := by rw [hlen]; omega
          clear hcv
          have hbig : ¬ 9223372036854775807 < s.size + 1 := by omega
          go_wp2_with fail
          refine wp_region_held_drew (S := fun X => (convert 23 9 (.slice qr (s.size + 1) cr)).run Try.prog X = .ok (.string (s ++ ⟨#[0]⟩)) X ∧ X.cell? ⟨b, o + k, none⟩ = some (.string s)) (by kernel_rfl) hS0 (fun hHeld => ?_)
          refine wpAnyH_take (i := 0) (oi := ⟨some 85, _, _, _, _, _⟩) (v := ?_) rfl (by kernel_rfl) (by kernel_rfl) (by kernel_rfl) (fun _ _ _ h => h) (Or.inl ⟨by rfl, ?_⟩) (by assumption) ?_; (rotate_left 1); (focus (intro wz hSw; (try dsimp only at hSw); go_simp; try (with_reducible rfl))); simp only [Act.put, List.setIfInBounds_toArray, List.set_cons_zero, List.set_cons_succ]
          refine wpAnyH_take (i := 1) (oi := ⟨some 86, _, _, _, _, _⟩) (v := ?_) rfl (by kernel_rfl) (by kernel_rfl) (by kernel_rfl) (fun _ _ _ h => h) (Or.inl ⟨by rfl, ?_⟩) (by assumption) ?_; (rotate_left 1); (focus (intro wz hSw; (try dsimp only at hSw); go_simp; try (with_reducible rfl))); simp only [Act.put, List.setIfInBounds_toArray, List.set_cons_zero, List.set_cons_succ]
          refine wpAnyH_take (i := 2) (oi := ⟨some 87, _, _, _, _, _⟩) (v := ?_) rfl (by kernel_rfl) (by kernel_rfl) (by kernel_rfl) (fun _ _ _ h => h) (Or.inl ⟨by rfl, ?_⟩) (by assumption) ?_; (rotate_left 1); (focus (intro wz hSw; (try dsimp only at hSw); go_simp; try (with_reducible rfl))); simp only [Act.put, List.setIfInBounds_toArray, List.set_cons_zero, List.set_cons_succ]
          refine wpAnyH_take (i := 3) (oi := ⟨some 88, _, _, _, _, _⟩) (v := ?_) rfl (by kernel_rfl) (by kernel_rfl) (by kernel_rfl) (fun _ _ _ h => h) (Or.inl ⟨by rfl, ?_⟩) (by assumption) ?_; (rotate_left 1); (focus (intro wz hSw; (try dsimp only at hSw); go_simp; try (with_reducible rfl))); simp only [Act.put, List.setIfInBounds_toArray, List.set_cons_zero, List.set_cons_succ]
          refine wpAnyH_take (i := 4) (oi := ⟨some 89, _, _, _, _, _⟩) (v := ?_) rfl (by kernel_rfl) (by kernel_rfl) (by kernel_rfl) (fun _ _ _ h => h) (Or.inl ⟨by rfl, ?_⟩) (by assumption) ?_; (rotate_left 1); (focus (intro wz hSw; (try dsimp only at hSw); go_simp; try (with_reducible rfl))); simp only [Act.put, List.setIfInBounds_toArray, List.set_cons_zero, List.set_cons_succ]
          refine wpAnyH_take (i := 5) (oi := ⟨some 90, _, _, _, _, _⟩) (v := ?_) rfl (by kernel_rfl) (by kernel_rfl) (by kernel_rfl) (fun _ _ _ h => h) (Or.inl ⟨by rfl, ?_⟩) (by assumption) ?_; (rotate_left 1); (focus (intro wz hSw; (try dsimp only at hSw); go_simp; try (with_reducible rfl))); simp only [Act.put, List.setIfInBounds_toArray, List.set_cons_zero, List.set_cons_succ]
          refine wpAnyH_take (i := 6) (oi := ⟨some 91, _, _, _, _, _⟩) (v := ?_) rfl (by kernel_rfl) (by kernel_rfl) (by kernel_rfl) (fun _ _ _ h => h) (Or.inl ⟨by rfl, ?_⟩) (by assumption) ?_; (rotate_left 1); (focus (intro wz hSw; (try dsimp only at hSw); go_simp; try (with_reducible rfl))); simp only [Act.put, List.setIfInBounds_toArray, List.set_cons_zero, List.set_cons_succ]
          refine wpAnyH_take (i := 7) (oi := ⟨some 92, _, _, _, _, _⟩) (v := ?_) rfl (by kernel_rfl) (by kernel_rfl) (by kernel_rfl) (fun _ _ _ h => h) (Or.inl ⟨by rfl, ?_⟩) (by assumption) ?_; (rotate_left 1); (focus (intro wz hSw; (try dsimp only at hSw); go_simp; try (with_reducible rfl))); simp only [Act.put, List.setIfInBounds_toArray, List.set_cons_zero, List.set_cons_succ]
          refine wpAnyH_take (i := 8) (oi := ⟨some 93, _, _, _, _, _⟩) (v := ?_) rfl (by kernel_rfl) (by kernel_rfl) (by kernel_rfl) (fun _ _ _ h => h) (Or.inl ⟨by rfl, ?_⟩) (by assumption) ?_; (rotate_left 1); (focus (intro wz hSw; (try dsimp only at hSw); go_simp; try (with_reducible rfl))); simp only [Act.put, List.setIfInBounds_toArray, List.set_cons_zero, List.set_cons_succ]
          refine wpAnyH_take (i := 9) (oi := ⟨some 94, _, _, _, _, _⟩) (v := ?_) rfl (by kernel_rfl) (by kernel_rfl) (by kernel_rfl) (fun _ _ _ h => h) (Or.inl ⟨by rfl, ?_⟩) (by assumption) ?_; (rotate_left 1); (focus (intro wz hSw; (try dsimp only at hSw); go_simp; try (with_reducible rfl))); simp only [Act.put, List.setIfInBounds_toArray, List.set_cons_zero, List.set_cons_succ]
          refine wpAnyH_take (i := 10) (oi := ⟨some 95, _, _, _, _, _⟩) (v := ?_) rfl (by kernel_rfl) (by kernel_rfl) (by kernel_rfl) (fun _ _ _ h => h) (Or.inl ⟨by rfl, ?_⟩) (by assumption) ?_; (rotate_left 1); (focus (intro wz hSw; (try dsimp only at hSw); go_simp; try (with_reducible rfl))); simp only [Act.put, List.setIfInBounds_toArray, List.set_cons_zero, List.set_cons_succ]
          refine wpAnyH_take (i := 11) (oi := ⟨some 96, _, _, _, _, _⟩) (v := ?_) rfl (by kernel_rfl) (by kernel_rfl) (by kernel_rfl) (fun _ _ _ h => h) (Or.inl ⟨by rfl, ?_⟩) (by assumption) ?_; (rotate_left 1); (focus (intro wz hSw; (try dsimp only at hSw); go_simp; try (with_reducible rfl))); simp only [Act.put, List.setIfInBounds_toArray, List.set_cons_zero, List.set_cons_succ]
          refine wpAnyH_take (i := 12) (oi := ⟨some 97, _, _, _, _, _⟩) (v := ?_) rfl (by kernel_rfl) (by kernel_rfl) (by kernel_rfl) (fun _ _ _ h => h) (Or.inl ⟨by rfl, ?_⟩) (by assumption) ?_; (rotate_left 1); (focus (intro wz hSw; (try dsimp only at hSw); go_simp; try (with_reducible rfl))); simp only [Act.put, List.setIfInBounds_toArray, List.set_cons_zero, List.set_cons_succ]
          refine wpAnyH_take (i := 13) (oi := ⟨some 98, _, _, _, _, _⟩) (v := ?_) rfl (by kernel_rfl) (by kernel_rfl) (by kernel_rfl) (fun _ _ _ h => h) (Or.inl ⟨by rfl, ?_⟩) (by assumption) ?_; (rotate_left 1); (focus (intro wz hSw; (try dsimp only at hSw); go_simp; try (with_reducible rfl))); simp only [Act.put, List.setIfInBounds_toArray, List.set_cons_zero, List.set_cons_succ]
          refine wpAnyH_take (i := 14) (oi := ⟨some 99, _, _, _, _, _⟩) (v := ?_) rfl (by kernel_rfl) (by kernel_rfl) (by kernel_rfl) (fun _ _ _ h => h) (Or.inl ⟨by rfl, ?_⟩) (by assumption) ?_; (rotate_left 1); (focus (intro wz hSw; (try dsimp only at hSw); go_simp; try (with_reducible rfl))); simp only [Act.put, List.setIfInBounds_toArray, List.set_cons_zero, List.set_cons_succ]
          refine wpAnyH_take (i := 15) (oi := ⟨some 100, _, _, _, _, _⟩) (v := ?_) rfl (by kernel_rfl) (by kernel_rfl) (by kernel_rfl) (fun _ _ _ h => h) (Or.inl ⟨by rfl, ?_⟩) (by assumption) ?_; (rotate_left 1); (focus (intro wz hSw; (try dsimp only at hSw); go_simp; try (with_reducible rfl))); simp only [Act.put, List.setIfInBounds_toArray, List.set_cons_zero, List.set_cons_succ]
          refine wpAnyH_done (by kernel_rfl) ?_ _
          go_wp2_with fail
          go_roundg (l.length - (k + 1))
          case measure => omega
          case rel => exact ⟨k + 1, by omega, by simp, hM7.on (by (repeat' (first | (with_reducible assumption) | (with_reducible exact Bw.refl _) | (with_reducible refine Bw.alloc ?_ _) | (with_reducible refine Bw.drew ?_) | (with_reducible refine Bw.drewN ?_ _) | (with_reducible refine Bw.setCell ?_ ?_ _) | exact Nat.le_refl _)))⟩
end Go.Proofs.Ythicidkjhpnleaa
