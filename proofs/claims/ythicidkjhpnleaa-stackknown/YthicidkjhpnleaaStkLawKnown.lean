/- LAYER 10's law StackKnown. -/
import Derived.Test.YthicidkjhpnleaaStkLay
namespace Go.Proofs.Ythicidkjhpnleaa
open Go.ChangeShapes Go.WideShapes Go.ChangeAt Go.RowKit
set_option linter.unusedSimpArgs false

def Stk.xs (n : Nat) : ByteArray := strOfNums (List.replicate n 120)
theorem Stk.xs_size (n : Nat) : (Stk.xs n).size = n := by simp [Stk.xs, strOfNums, ByteArray.size]
theorem Stk.xs_nul (n : Nat) : Fee.nul (Stk.xs n) = false := by
  refine Fee.nul_false (fun k h => ?_)
  unfold Stk.xs strOfNums at h
  simp at h
  rw [List.getElem?_replicate] at h
  split at h <;> simp at h
set_option maxHeartbeats 1000000 in
set_option maxRecDepth 100000 in
theorem long_c (w : World) (n : Nat) (hn : n ≤ 5000) : Calls Try.prog 9 #[.int .i64 n] w fun e w' => e = .returned (.string (Stk.xs n)) ∧ Bw w w' := by
  obtain ⟨w1, hmk, hO, b1⟩ := mk8 w n (by omega)
  obtain ⟨gb, hgb⟩ : ∃ gb, w.heap.size = gb := ⟨_, rfl⟩
  have hge : w.heap.size ≤ gb := by omega
  rw [hgb] at hmk hO
  have hl0 : (List.replicate n (0 : Int)).length = n := List.length_replicate
  generalize List.replicate n (0 : Int) = L0 at hO hl0
  go_enter Try.func9, Try.ntmps9
  go_wp2_with fail
  go_loopg [4] n (fun g j wr => ∃ (k : Nat) (M : List Int), k + g = n ∧ j = .int .i64 k ∧ Bw w wr ∧ M.length = n ∧ Own8 w wr (.slice (some ⟨gb, 0, none⟩) n n) M ∧ ∀ i, i < k → M[i]? = some 120)
  case atStart => exact ⟨0, L0, by omega, rfl, b1, hl0, hO, fun i h => by omega⟩
  case round =>
    obtain ⟨k, M, hkg, rfl, hbw, hM, hOr, hno⟩ := hrel
    clear hO b1 hl0
    by_cases hk : k = n
    · subst hk
      have hMe : M = List.replicate k 120 := by
        apply List.ext_getElem?
        intro i
        by_cases hi : i < k
        · rw [hno i hi, List.getElem?_replicate, if_pos hi]
        · rw [List.getElem?_eq_none (by omega), List.getElem?_eq_none (by rw [List.length_replicate]; omega)]
      have hcv := conv8 hOr
      rw [hMe, show strOfNums (List.replicate k 120) = Stk.xs k from rfl] at hcv
      clear hno hMe
      go_wp2_with fail
      go_returns
      exact ⟨rfl, hbw⟩
    · have hkl : k < n := by omega
      have hki : (k : Int) < (n : Int) := by omega
      have hcl := (Own8.form hOr (by omega))
      obtain ⟨g', cap', e1, -, -, -, -, hc, hf⟩ := hcl
      simp at e1
      obtain ⟨rfl, -, rfl⟩ := e1
      have f0 := hf k (by omega)
      obtain ⟨u, hu⟩ : ∃ u, M[k]? = some u := ⟨_, List.getElem?_eq_getElem (by omega)⟩
      have c0 := hc k u hu
      have hOM : Own8 w wr (.slice (some ⟨gb, 0, none⟩) M.length n) M := by rw [hM]; exact hOr
      have hO2 := hOM.set k (by omega) 120
      rw [hM] at hO2
      have hb2 : Bw w (wr.setCell ⟨gb, k, none⟩ (.int .u8 120)) := hbw.setCell hge _
      have HNo : Hid (∀ i, i < k + 1 → (M.set k 120)[i]? = some 120) := fun i hi => by
        by_cases e : i = k
        · subst e; rw [List.getElem?_set_self (by omega)]
        · rw [List.getElem?_set_ne (by omega)]; exact hno i (by omega)
      clear hno hOr hOM hc hf hu
      go_wp2_with fail
      go_roundg (n - (k + 1))
      case measure => omega
      case rel => exact ⟨k + 1, M.set k 120, by omega, by simp, hb2, by rw [List.length_set]; exact hM, hO2, HNo⟩
theorem mkS17 (w : World) : ∃ w', (Instr.makeSlice 29 (.int .i64 17) (.int .i64 17)).run Try.prog w = .ok (.slice (some ⟨w.heap.size, 0, none⟩) 17 17) w' ∧ TxS w' (.slice (some ⟨w.heap.size, 0, none⟩) 17 17) (List.replicate 17 ⟨#[]⟩) ∧ Bw w w' := by
  have hinf : (Try.prog.info? 9).map (fun i => (i.zero, i.size, i.bytes)) = some (some (.string ⟨#[]⟩), 1, 16) := by kernel_rfl
  obtain ⟨i, hi, he⟩ := Option.map_eq_some_iff.1 hinf
  simp only [Prod.mk.injEq] at he
  obtain ⟨hz, hs, hb⟩ := he
  obtain ⟨w', hr, ho, hg⟩ := run_makeSlice_full (P := Try.prog) (w := w) w.heap.size 29 9 i (.string ⟨#[]⟩) 1 Try.underlying29 hi hz hs .i64 .i64 17 (by omega) (by rw [hb]; omega) (by unfold maxLen; omega) (Nat.le_refl _)
  refine ⟨w', hr, ?_, Below.grown (Bw.refl w) hg (Nat.le_refl _) (fun k hk => by simp at hk)⟩
  have := OwnR.rd (w0 := w) ho
  rw [show (Value.string ⟨#[]⟩).cells = #[.string ⟨#[]⟩] from rfl, Nat.mul_one, toList_madeCells_one] at this
  unfold TxS
  rw [List.length_replicate, List.map_replicate]
  exact this
def Stk.l0 : List ByteArray := [⟨#[97, 0, 98]⟩]
def Stk.l1 (n : Nat) : List ByteArray := [⟨#[]⟩, Stk.xs n]
theorem Stk.e17 : Stk.err (List.replicate 17 ⟨#[]⟩) = 1 := by decide +kernel
theorem Stk.e0 : Stk.err Stk.l0 = 1 := by decide +kernel
theorem Stk.r1 (n : Nat) : Stk.room (Stk.l1 n) = n + 2 := by
  unfold Stk.l1
  rw [Stk.room_cons, Stk.room_cons, Stk.xs_size, show Stk.room [] = 0 from rfl, show (⟨#[]⟩ : ByteArray).size = 0 from rfl]
  omega
theorem Stk.e1 (n : Nat) : Stk.err (Stk.l1 n) = if 3000 < n + 2 then 2 else 0 := by
  have h : (Stk.l1 n).any Fee.nul = false := by
    unfold Stk.l1
    rw [List.any_cons, List.any_cons, List.any_nil, Stk.xs_nul, show Fee.nul ⟨#[]⟩ = false by decide +kernel]
    rfl
  unfold Stk.err
  rw [if_neg (by rw [h]; unfold Stk.l1; simp), Stk.r1]
theorem Stk.k15 : (MS.new 15).mapE 2147475456 4096 3 = 6 := by decide +kernel
theorem Stk.k16 : (MS.new 16).mapE 2147475456 4096 3 = 0 := by decide +kernel
theorem Stk.k16b : (Stk.mem (MS.new 16) []).mapE 2147475456 4096 3 = 5 := by decide +kernel
theorem Stk.k16p : (Stk.mem (MS.new 16) []).permOf 2147475456 = 3 ∧ ((Stk.mem (MS.new 16) []).pg (2147475456 / 256)).isSome = true := by
  unfold Stk.mem MS.permOf MS.put MS.putJ
  dsimp only
  rw [if_pos (by decide), mapS_pg Stk.k16 (by omega) (k := 2147475456 / 256) (by omega)]
  exact ⟨rfl, rfl⟩
theorem conv_zero (q : Option Addr) (c : Nat) (w : World) : (convert 23 9 (.slice q 0 c)).run Try.prog w = .ok (.string ⟨#[]⟩) w := by
  cases q with
  | none => exact run_convert_bytes_nil w 23 5 Try.underlying23 Try.underlying5 0 c _ Try.underlying9
  | some a => simp [convert, run_underlying Try.underlying23, run_underlying Try.underlying9, run_underlying Try.underlying5, Conv.bytesToString, loadCells, loadCellsFrom]; rfl
set_option maxHeartbeats 4000000 in
set_option maxRecDepth 100000 in
theorem StackKnown_w (W : World) : Calls Try.prog 3 #[] W fun e w' => e = .returned (.bool true) ∧ Bw W w' := by
  have hBn : ∀ (X : World) (v : Value) (l : List ByteArray) (x : Nat), TxS X v l → Stk.room l ≤ 10000 → Stk.err l = x → x ≠ 0 → Calls Try.prog 8 #[v] X fun e w' => e = .returned (.tuple #[.slice none 0 0, .int .u32 0, .slice none 0 0, .int .i64 x]) ∧ Bw X w' := fun X v l x h1 h2 h3 h4 => (Build_c X v l h1 (by omega)).mono (fun e w' h => by
    rcases h with ⟨_, e1, b1⟩ | ⟨h5, _⟩
    · rw [h3] at e1; exact ⟨e1, b1⟩
    · omega)
  have hBy : ∀ (X : World) (v : Value) (l : List ByteArray), TxS X v l → Stk.room l ≤ 10000 → Stk.err l = 0 → Calls Try.prog 8 #[v] X fun e w' => ∃ a b c, e = .returned (.tuple #[a, b, c, .int .i64 0]) ∧ Bw X w' := fun X v l h1 h2 h3 => (Build_c X v l h1 (by omega)).mono (fun e w' h => by
    rcases h with ⟨h5, _⟩ | ⟨_, gb, pg, e1, -, -, -, b1⟩
    · omega
    · exact ⟨_, _, _, e1, b1⟩)
  go_enter Try.func3, Try.ntmps3
  go_wp2_with fail
  refine (awake10_c _).mono ?_
  rintro e w1 ⟨rfl, b1⟩
  obtain ⟨w2, hmk, hT, b2⟩ := mkS17 w1
  replace b2 := b1.trans b2
  have h17 := hBn w2 _ _ 1 hT (by decide) Stk.e17 (by decide)
  clear hT b1
  go_wp2_with fail
  refine h17.mono ?_
  rintro e w3 ⟨rfl, b3⟩
  replace b3 := b2.trans b3
  clear h17 hmk b2
  have hT0 := TxS.new w3 Stk.l0 (by decide) 9
  have h0 := hBn _ _ _ 1 hT0 (by decide) Stk.e0 (by decide)
  replace b3 := b3.alloc (.cells (Stk.l0.map Value.string).toArray 9)
  clear hT0
  go_wp2_with fail
  refine Calls.mono h0 ?_
  rintro e w4 ⟨rfl, b4⟩
  replace b4 := b3.trans b4
  clear h0 b3
  go_wp2_with fail
  have hmk0 := fun X => mk8 X 0 (by omega)
  have hLg := fun X => long_c X 2998 (by omega)
  have hLh := fun X => long_c X 2999 (by omega)
  have hd4 : Bw W w4.drew := b4.drew
  refine wp_region_held_drew (S := fun X => ∀ q c, (convert 23 9 (.slice q 0 c)).run Try.prog X = .ok (.string ⟨#[]⟩) X) (by kernel_rfl) (fun q c => conv_zero q c _) (fun hHeld => ?_)
  refine wpAnyH_ready (rs := [0, 2]) (by kernel_rfl) (by simp) ?_
  refine AllReadyH.cons rfl (fun K hK => ?_) (AllReadyH.cons rfl (fun K hK => ?_) AllReadyH.nil)
  · obtain ⟨w5, hmk5, -, b5⟩ := hmk0 w4.drew
    have hmk5' : (Instr.makeSlice 23 (.int .i64 0) (.int .i64 0)).run Try.prog w4.drew = .ok (.slice (some ⟨w4.drew.heap.size, 0, none⟩) 0 0) w5 := hmk5
    replace b5 := hd4.trans b5
    clear hmk5
    go_simp
    (try clear hHeld); refine hK.out _ _ ?_ (fun hHeld => ?_)
    · exact fun q c => conv_zero q c _
    refine wpAnyH_take (i := 1) (oi := ⟨some 50, _, _, _, _, _⟩) (v := ?_) rfl (by kernel_rfl) (by kernel_rfl) (by kernel_rfl) (fun _ _ _ h => h) (Or.inl ⟨by rfl, ?_⟩) (by assumption) ?_; (rotate_left 1); (focus (intro wz hSw; (try dsimp only at hSw); go_simp; try (with_reducible rfl))); simp only [Act.put, List.setIfInBounds_toArray, List.set_cons_zero, List.set_cons_succ]
    refine wpAnyH_ready (rs := [2]) (by kernel_rfl) (by simp) ?_; refine AllReadyH.cons rfl (fun K hK => ?_) AllReadyH.nil; go_simp
    refine (hLg _).mono ?_
    rintro e w6 ⟨rfl, b6⟩
    replace b6 := b5.trans b6
    (try clear hHeld); refine hK.out _ _ ?_ (fun hHeld => ?_)
    · exact fun q c => conv_zero q c _
    refine wpAnyH_ready (rs := [3]) (by kernel_rfl) (by simp) ?_; refine AllReadyH.cons rfl (fun K hK => ?_) AllReadyH.nil; go_simp
    (try clear hHeld); refine hK.out _ _ ?_ (fun hHeld => ?_)
    · exact fun q c => conv_zero q c _
    have hB6 := hBy _ _ _ (TxS.new w6 (Stk.l1 2998) (by decide) 9) (by rw [Stk.r1]; omega) (by rw [Stk.e1]; rfl)
    replace b6 := b6.alloc (.cells ((Stk.l1 2998).map Value.string).toArray 9)
    refine wpAnyH_ready (rs := [4]) (by kernel_rfl) (by simp) ?_; refine AllReadyH.cons rfl (fun K hK => ?_) AllReadyH.nil; go_simp
    refine Calls.mono hB6 ?_
    rintro e w7 ⟨va, vb, vc, rfl, b7⟩
    replace b7 := b6.trans b7
    clear hB6 b6 b5 b4 hd4
    (try clear hHeld); refine hK.out _ _ ?_ (fun hHeld => ?_)
    · exact fun q c => conv_zero q c _
    refine wpAnyH_take (i := 5) (oi := ⟨some 48, _, _, _, _, _⟩) (v := ?_) rfl (by kernel_rfl) (by kernel_rfl) (by kernel_rfl) (fun _ _ _ h => h) (Or.inl ⟨by rfl, ?_⟩) (by assumption) ?_; (rotate_left 1); (focus (intro wz hSw; (try dsimp only at hSw); go_simp; try (with_reducible rfl))); simp only [Act.put, List.setIfInBounds_toArray, List.set_cons_zero, List.set_cons_succ]
    refine wpAnyH_take (i := 6) (oi := ⟨some 54, _, _, _, _, _⟩) (v := ?_) rfl (by kernel_rfl) (by kernel_rfl) (by kernel_rfl) (fun _ _ _ h => h) (Or.inl ⟨by rfl, ?_⟩) (by assumption) ?_; (rotate_left 1); (focus (intro wz hSw; (try dsimp only at hSw); go_simp; try (with_reducible rfl))); simp only [Act.put, List.setIfInBounds_toArray, List.set_cons_zero, List.set_cons_succ]
    refine wpAnyH_take (i := 7) (oi := ⟨some 55, _, _, _, _, _⟩) (v := ?_) rfl (by kernel_rfl) (by kernel_rfl) (by kernel_rfl) (fun _ _ _ h => h) (Or.inl ⟨by rfl, ?_⟩) (by assumption) ?_; (rotate_left 1); (focus (intro wz hSw; (try dsimp only at hSw); go_simp; try (with_reducible rfl))); simp only [Act.put, List.setIfInBounds_toArray, List.set_cons_zero, List.set_cons_succ]
    refine wpAnyH_take (i := 8) (oi := ⟨some 56, _, _, _, _, _⟩) (v := ?_) rfl (by kernel_rfl) (by kernel_rfl) (by kernel_rfl) (fun _ _ _ h => h) (Or.inl ⟨by rfl, ?_⟩) (by assumption) ?_; (rotate_left 1); (focus (intro wz hSw; (try dsimp only at hSw); go_simp; try (with_reducible rfl))); simp only [Act.put, List.setIfInBounds_toArray, List.set_cons_zero, List.set_cons_succ]
    refine wpAnyH_take (i := 9) (oi := ⟨some 57, _, _, _, _, _⟩) (v := ?_) rfl (by kernel_rfl) (by kernel_rfl) (by kernel_rfl) (fun _ _ _ h => h) (Or.inl ⟨by rfl, ?_⟩) (by assumption) ?_; (rotate_left 1); (focus (intro wz hSw; (try dsimp only at hSw); go_simp; try (with_reducible rfl))); simp only [Act.put, List.setIfInBounds_toArray, List.set_cons_zero, List.set_cons_succ]
    refine wpAnyH_take (i := 10) (oi := ⟨some 9, _, _, _, _, _⟩) (v := ?_) rfl (by kernel_rfl) (by kernel_rfl) (by kernel_rfl) (fun _ _ _ h => h) (Or.inl ⟨by rfl, ?_⟩) (by assumption) ?_; (rotate_left 1); (focus (intro wz hSw; (try dsimp only at hSw); go_simp; try (with_reducible rfl))); simp only [Act.put, List.setIfInBounds_toArray, List.set_cons_zero, List.set_cons_succ]
    refine wpAnyH_take (i := 11) (oi := ⟨some 10, _, _, _, _, _⟩) (v := ?_) rfl (by kernel_rfl) (by kernel_rfl) (by kernel_rfl) (fun _ _ _ h => h) (Or.inl ⟨by rfl, ?_⟩) (by assumption) ?_; (rotate_left 1); (focus (intro wz hSw; (try dsimp only at hSw); go_simp; try (with_reducible rfl))); simp only [Act.put, List.setIfInBounds_toArray, List.set_cons_zero, List.set_cons_succ]
    refine wpAnyH_take (i := 12) (oi := ⟨some 11, _, _, _, _, _⟩) (v := ?_) rfl (by kernel_rfl) (by kernel_rfl) (by kernel_rfl) (fun _ _ _ h => h) (Or.inl ⟨by rfl, ?_⟩) (by assumption) ?_; (rotate_left 1); (focus (intro wz hSw; (try dsimp only at hSw); go_simp; try (with_reducible rfl))); simp only [Act.put, List.setIfInBounds_toArray, List.set_cons_zero, List.set_cons_succ]
    refine wpAnyH_take (i := 13) (oi := ⟨some 12, _, _, _, _, _⟩) (v := ?_) rfl (by kernel_rfl) (by kernel_rfl) (by kernel_rfl) (fun _ _ _ h => h) (Or.inl ⟨by rfl, ?_⟩) (by assumption) ?_; (rotate_left 1); (focus (intro wz hSw; (try dsimp only at hSw); go_simp; try (with_reducible rfl))); simp only [Act.put, List.setIfInBounds_toArray, List.set_cons_zero, List.set_cons_succ]
    refine wpAnyH_done (by kernel_rfl) ?_ _
    go_wp2_with fail
    refine (hLh _).mono ?_
    rintro e w8 ⟨rfl, b8⟩
    replace b8 := b7.trans b8
    have h8 := hBn _ _ _ 2 (TxS.new w8 (Stk.l1 2999) (by decide) 9) (by rw [Stk.r1]; omega) (by rw [Stk.e1]; rfl) (by decide)
    replace b8 := b8.alloc (.cells ((Stk.l1 2999).map Value.string).toArray 9)
    go_wp2_with fail
    refine Calls.mono h8 ?_
    rintro e w9 ⟨rfl, b9⟩
    replace b9 := b8.trans b9
    clear h8 b8 b7
    go_wp2_with fail
    refine (New_b b9 15 (by omega)).mono ?_
    rintro e w10 ⟨mb, rfl, hM, -⟩
    have hL := Lay_c (hM.more (Q := fun _ => False) (fun _ h => h.elim)) (fun _ h => h.elim) (.slice none 0 0) [] (RdR.nil _ _) (by decide) (by unfold maxLen; omega) (fun _ => new_ins _ _)
    clear b9
    go_wp2_with fail
    refine hL.mono ?_
    rintro e w11 ⟨⟨h, _⟩ | ⟨_, _, rfl, hM1⟩ | ⟨_, h, _⟩, -⟩
    · exact absurd Stk.e_nil h
    rotate_left
    · rw [Stk.k15] at h; omega
    rw [Stk.k15]
    clear hL hM
    go_wp2_with fail
    refine (New_b hM1.bw 16 (by omega)).mono ?_
    rintro e w12 ⟨nb, rfl, hN, b12⟩
    have hL2 := Lay_c hN (fun i h => Nat.lt_of_lt_of_le h b12.size) (.slice none 0 0) [] (RdR.nil _ _) (by decide) (by unfold maxLen; omega) (fun _ => new_ins _ _)
    go_wp2_with fail
    refine hL2.mono ?_
    rintro e w13 ⟨⟨h, _⟩ | ⟨_, h, _⟩ | ⟨_, _, pg, rfl, hN2⟩, k13⟩
    · exact absurd Stk.e_nil h
    · exact absurd Stk.k16 h
    rw [Stk.s_nil]
    have k12 := Kp.trans (Kp.bw b12) k13
    have hL3 := Lay_c hN2 (fun i h => Nat.lt_of_lt_of_le h k12.1) (.slice none 0 0) [] (RdR.nil _ _) (by decide) (by unfold maxLen; omega) (fun h => by rw [Stk.k16b] at h; omega)
    clear hL2 hN
    go_wp2_with fail
    refine hL3.mono ?_
    rintro e w14 ⟨⟨h, _⟩ | ⟨_, _, rfl, hN3⟩ | ⟨_, h, _⟩, k14⟩
    · exact absurd Stk.e_nil h
    rotate_left
    · rw [Stk.k16b] at h; omega
    rw [Stk.k16b]
    have hPm := Perm_b hN3 2147475456 ⟨by decide, by decide⟩
    rw [Stk.k16p.1, Stk.k16p.2] at hPm
    have b14 : Bw w11 w14 := Bw.of_kp hM1.bw hN3.bw (k12.trans k14)
    have hPg := Pages_b (hM1.on b14)
    rw [show (MS.new 15).th.length = 0 from rfl] at hPg
    clear hL3 hN2 hN3 hM1 b14 b12 k12 k13 k14
    go_wp2_with fail
    refine hPm.mono ?_
    rintro e w15 ⟨rfl, rfl⟩
    go_wp2_with fail
    refine hPg.mono ?_
    rintro e w16 ⟨rfl, hM3, -⟩
    have b16 := hM3.bw
    clear hM3 hPg hPm
    go_wp2_with fail
    go_returns
    exact ⟨rfl, b16⟩
  · go_simp
    refine (hLg _).mono ?_
    rintro e w5 ⟨rfl, b5⟩
    replace b5 := hd4.trans b5
    (try clear hHeld); refine hK.out _ _ ?_ (fun hHeld => ?_)
    · exact fun q c => conv_zero q c _
    obtain ⟨w6, hmk6, -, b6⟩ := hmk0 w5
    have hmk6' : (Instr.makeSlice 23 (.int .i64 0) (.int .i64 0)).run Try.prog w5 = .ok (.slice (some ⟨w5.heap.size, 0, none⟩) 0 0) w6 := hmk6
    replace b6 := b5.trans b6
    clear hmk6
    refine wpAnyH_ready (rs := [0]) (by kernel_rfl) (by simp) ?_; refine AllReadyH.cons rfl (fun K hK => ?_) AllReadyH.nil; go_simp
    (try clear hHeld); refine hK.out _ _ ?_ (fun hHeld => ?_)
    · exact fun q c => conv_zero q c _
    refine wpAnyH_take (i := 1) (oi := ⟨some 50, _, _, _, _, _⟩) (v := ?_) rfl (by kernel_rfl) (by kernel_rfl) (by kernel_rfl) (fun _ _ _ h => h) (Or.inl ⟨by rfl, ?_⟩) (by assumption) ?_; (rotate_left 1); (focus (intro wz hSw; (try dsimp only at hSw); go_simp; try (with_reducible rfl))); simp only [Act.put, List.setIfInBounds_toArray, List.set_cons_zero, List.set_cons_succ]
    refine wpAnyH_ready (rs := [3]) (by kernel_rfl) (by simp) ?_; refine AllReadyH.cons rfl (fun K hK => ?_) AllReadyH.nil; go_simp
    (try clear hHeld); refine hK.out _ _ ?_ (fun hHeld => ?_)
    · exact fun q c => conv_zero q c _
    have hB6 := hBy _ _ _ (TxS.new w6 (Stk.l1 2998) (by decide) 9) (by rw [Stk.r1]; omega) (by rw [Stk.e1]; rfl)
    replace b6 := b6.alloc (.cells ((Stk.l1 2998).map Value.string).toArray 9)
    refine wpAnyH_ready (rs := [4]) (by kernel_rfl) (by simp) ?_; refine AllReadyH.cons rfl (fun K hK => ?_) AllReadyH.nil; go_simp
    refine Calls.mono hB6 ?_
    rintro e w7 ⟨va, vb, vc, rfl, b7⟩
    replace b7 := b6.trans b7
    clear hB6 b6 b5 b4 hd4
    (try clear hHeld); refine hK.out _ _ ?_ (fun hHeld => ?_)
    · exact fun q c => conv_zero q c _
    refine wpAnyH_take (i := 5) (oi := ⟨some 48, _, _, _, _, _⟩) (v := ?_) rfl (by kernel_rfl) (by kernel_rfl) (by kernel_rfl) (fun _ _ _ h => h) (Or.inl ⟨by rfl, ?_⟩) (by assumption) ?_; (rotate_left 1); (focus (intro wz hSw; (try dsimp only at hSw); go_simp; try (with_reducible rfl))); simp only [Act.put, List.setIfInBounds_toArray, List.set_cons_zero, List.set_cons_succ]
    refine wpAnyH_take (i := 6) (oi := ⟨some 54, _, _, _, _, _⟩) (v := ?_) rfl (by kernel_rfl) (by kernel_rfl) (by kernel_rfl) (fun _ _ _ h => h) (Or.inl ⟨by rfl, ?_⟩) (by assumption) ?_; (rotate_left 1); (focus (intro wz hSw; (try dsimp only at hSw); go_simp; try (with_reducible rfl))); simp only [Act.put, List.setIfInBounds_toArray, List.set_cons_zero, List.set_cons_succ]
    refine wpAnyH_take (i := 7) (oi := ⟨some 55, _, _, _, _, _⟩) (v := ?_) rfl (by kernel_rfl) (by kernel_rfl) (by kernel_rfl) (fun _ _ _ h => h) (Or.inl ⟨by rfl, ?_⟩) (by assumption) ?_; (rotate_left 1); (focus (intro wz hSw; (try dsimp only at hSw); go_simp; try (with_reducible rfl))); simp only [Act.put, List.setIfInBounds_toArray, List.set_cons_zero, List.set_cons_succ]
    refine wpAnyH_take (i := 8) (oi := ⟨some 56, _, _, _, _, _⟩) (v := ?_) rfl (by kernel_rfl) (by kernel_rfl) (by kernel_rfl) (fun _ _ _ h => h) (Or.inl ⟨by rfl, ?_⟩) (by assumption) ?_; (rotate_left 1); (focus (intro wz hSw; (try dsimp only at hSw); go_simp; try (with_reducible rfl))); simp only [Act.put, List.setIfInBounds_toArray, List.set_cons_zero, List.set_cons_succ]
    refine wpAnyH_take (i := 9) (oi := ⟨some 57, _, _, _, _, _⟩) (v := ?_) rfl (by kernel_rfl) (by kernel_rfl) (by kernel_rfl) (fun _ _ _ h => h) (Or.inl ⟨by rfl, ?_⟩) (by assumption) ?_; (rotate_left 1); (focus (intro wz hSw; (try dsimp only at hSw); go_simp; try (with_reducible rfl))); simp only [Act.put, List.setIfInBounds_toArray, List.set_cons_zero, List.set_cons_succ]
    refine wpAnyH_take (i := 10) (oi := ⟨some 9, _, _, _, _, _⟩) (v := ?_) rfl (by kernel_rfl) (by kernel_rfl) (by kernel_rfl) (fun _ _ _ h => h) (Or.inl ⟨by rfl, ?_⟩) (by assumption) ?_; (rotate_left 1); (focus (intro wz hSw; (try dsimp only at hSw); go_simp; try (with_reducible rfl))); simp only [Act.put, List.setIfInBounds_toArray, List.set_cons_zero, List.set_cons_succ]
    refine wpAnyH_take (i := 11) (oi := ⟨some 10, _, _, _, _, _⟩) (v := ?_) rfl (by kernel_rfl) (by kernel_rfl) (by kernel_rfl) (fun _ _ _ h => h) (Or.inl ⟨by rfl, ?_⟩) (by assumption) ?_; (rotate_left 1); (focus (intro wz hSw; (try dsimp only at hSw); go_simp; try (with_reducible rfl))); simp only [Act.put, List.setIfInBounds_toArray, List.set_cons_zero, List.set_cons_succ]
    refine wpAnyH_take (i := 12) (oi := ⟨some 11, _, _, _, _, _⟩) (v := ?_) rfl (by kernel_rfl) (by kernel_rfl) (by kernel_rfl) (fun _ _ _ h => h) (Or.inl ⟨by rfl, ?_⟩) (by assumption) ?_; (rotate_left 1); (focus (intro wz hSw; (try dsimp only at hSw); go_simp; try (with_reducible rfl))); simp only [Act.put, List.setIfInBounds_toArray, List.set_cons_zero, List.set_cons_succ]
    refine wpAnyH_take (i := 13) (oi := ⟨some 12, _, _, _, _, _⟩) (v := ?_) rfl (by kernel_rfl) (by kernel_rfl) (by kernel_rfl) (fun _ _ _ h => h) (Or.inl ⟨by rfl, ?_⟩) (by assumption) ?_; (rotate_left 1); (focus (intro wz hSw; (try dsimp only at hSw); go_simp; try (with_reducible rfl))); simp only [Act.put, List.setIfInBounds_toArray, List.set_cons_zero, List.set_cons_succ]
    refine wpAnyH_done (by kernel_rfl) ?_ _
    go_wp2_with fail
    refine (hLh _).mono ?_
    rintro e w8 ⟨rfl, b8⟩
    replace b8 := b7.trans b8
    have h8 := hBn _ _ _ 2 (TxS.new w8 (Stk.l1 2999) (by decide) 9) (by rw [Stk.r1]; omega) (by rw [Stk.e1]; rfl) (by decide)
    replace b8 := b8.alloc (.cells ((Stk.l1 2999).map Value.string).toArray 9)
    go_wp2_with fail
    refine Calls.mono h8 ?_
    rintro e w9 ⟨rfl, b9⟩
    replace b9 := b8.trans b9
    clear h8 b8 b7
    go_wp2_with fail
    refine (New_b b9 15 (by omega)).mono ?_
    rintro e w10 ⟨mb, rfl, hM, -⟩
    have hL := Lay_c (hM.more (Q := fun _ => False) (fun _ h => h.elim)) (fun _ h => h.elim) (.slice none 0 0) [] (RdR.nil _ _) (by decide) (by unfold maxLen; omega) (fun _ => new_ins _ _)
    clear b9
    go_wp2_with fail
    refine hL.mono ?_
    rintro e w11 ⟨⟨h, _⟩ | ⟨_, _, rfl, hM1⟩ | ⟨_, h, _⟩, -⟩
    · exact absurd Stk.e_nil h
    rotate_left
    · rw [Stk.k15] at h; omega
    rw [Stk.k15]
    clear hL hM
    go_wp2_with fail
    refine (New_b hM1.bw 16 (by omega)).mono ?_
    rintro e w12 ⟨nb, rfl, hN, b12⟩
    have hL2 := Lay_c hN (fun i h => Nat.lt_of_lt_of_le h b12.size) (.slice none 0 0) [] (RdR.nil _ _) (by decide) (by unfold maxLen; omega) (fun _ => new_ins _ _)
    go_wp2_with fail
    refine hL2.mono ?_
    rintro e w13 ⟨⟨h, _⟩ | ⟨_, h, _⟩ | ⟨_, _, pg, rfl, hN2⟩, k13⟩
    · exact absurd Stk.e_nil h
    · exact absurd Stk.k16 h
    rw [Stk.s_nil]
    have k12 := Kp.trans (Kp.bw b12) k13
    have hL3 := Lay_c hN2 (fun i h => Nat.lt_of_lt_of_le h k12.1) (.slice none 0 0) [] (RdR.nil _ _) (by decide) (by unfold maxLen; omega) (fun h => by rw [Stk.k16b] at h; omega)
    clear hL2 hN
    go_wp2_with fail
    refine hL3.mono ?_
    rintro e w14 ⟨⟨h, _⟩ | ⟨_, _, rfl, hN3⟩ | ⟨_, h, _⟩, k14⟩
    · exact absurd Stk.e_nil h
    rotate_left
    · rw [Stk.k16b] at h; omega
    rw [Stk.k16b]
    have hPm := Perm_b hN3 2147475456 ⟨by decide, by decide⟩
    rw [Stk.k16p.1, Stk.k16p.2] at hPm
    have b14 : Bw w11 w14 := Bw.of_kp hM1.bw hN3.bw (k12.trans k14)
    have hPg := Pages_b (hM1.on b14)
    rw [show (MS.new 15).th.length = 0 from rfl] at hPg
    clear hL3 hN2 hN3 hM1 b14 b12 k12 k13 k14
    go_wp2_with fail
    refine hPm.mono ?_
    rintro e w15 ⟨rfl, rfl⟩
    go_wp2_with fail
    refine hPg.mono ?_
    rintro e w16 ⟨rfl, hM3, -⟩
    have b16 := hM3.bw
    clear hM3 hPg hPm
    go_wp2_with fail
    go_returns
    exact ⟨rfl, b16⟩
end Go.Proofs.Ythicidkjhpnleaa
