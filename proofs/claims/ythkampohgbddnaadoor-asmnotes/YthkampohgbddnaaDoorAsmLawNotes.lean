/- LAYER 6's law AsmNotes. -/
import Derived.Test.YthkampohgbddnaaDoorAsmNote
import Derived.Test.YthkampohgbddnaaDoorAsmArgI
namespace Go.Proofs.YthkampohgbddnaaDoor
open Go.ChangeShapes Go.WideShapes Go.ChangeAt Go.RowKit

theorem bs_line2 (T X : List UInt8) : bs T ++ bs X ++ ⟨#[10]⟩ = bs (T ++ (X ++ [10])) := by
  show bs T ++ bs X ++ bs [10] = _
  rw [bs_app, bs_app, List.append_assoc]
theorem bs_note (T X nt : List UInt8) : bs T ++ ⟨#[10]⟩ ++ bs X ++ ⟨#[35]⟩ ++ bs nt ++ ⟨#[10]⟩ = bs (T ++ 10 :: (X ++ 35 :: (nt ++ [10]))) := by
  show bs T ++ bs [10] ++ bs X ++ bs [35] ++ bs nt ++ bs [10] = _
  rw [bs_app, bs_app, bs_app, bs_app, bs_app]
  congr 1
  simp
theorem bs_what (T : List UInt8) : bs T ++ ⟨#[119, 104, 97, 116]⟩ = bs (T ++ Asm.what) := by
  show bs T ++ bs Asm.what = _
  rw [bs_app]
theorem Own8.len {w0 w : World} {v : Value} (h : Own8 w0 w v []) : ∃ q c, v = .slice q 0 c := by
  obtain ⟨_, h2⟩ := h
  rcases h2 with ⟨rfl, _⟩ | ⟨g, cap, cur, rfl, _⟩
  · exact ⟨_, _, rfl⟩
  · exact ⟨_, _, rfl⟩
set_option maxHeartbeats 8000000 in
set_option maxRecDepth 100000 in
theorem AsmNotes_w (v : Value) (nt : List UInt8) (bad : Bool) (w : World) (hv : IArgs w v) (hnt : nt.length ≤ maxLen) (ha : All6 w) :
    Calls Tryd.prog 8 #[v, .string (bs nt), .bool bad] w fun e w' => e = .returned (.bool true) ∧ Bw w w' := by
  obtain ⟨n, f, q, cap, rfl, hnc, hcap, hwf, hcell⟩ := hv
  unfold maxLen at hnt
  by_cases h30 : 30 < n
  · have h30i : (30 : Int) < n := by omega
    go_enter Tryd.func8, Tryd.ntmps8
    go_wp2_with fail
    refine (awake6_c _ ha).mono ?_
    rintro e w1 ⟨rfl, hb1⟩
    go_wp2_with fail
    go_ret
    exact ⟨rfl, hb1⟩
  have h30i : (n : Int) ≤ 30 := by omega
  by_cases h50 : 50 < nt.length
  · have h50i : (50 : Int) < nt.length := by omega
    go_enter Tryd.func8, Tryd.ntmps8
    go_wp2_with fail
    refine (awake6_c _ ha).mono ?_
    rintro e w1 ⟨rfl, hb1⟩
    go_wp2_with fail
    go_ret
    exact ⟨rfl, hb1⟩
  have h50i : (nt.length : Int) ≤ 50 := by omega
  go_enter Tryd.func8, Tryd.ntmps8
  go_wp2_with fail
  refine (awake6_c _ ha).mono ?_
  rintro e w1 ⟨rfl, hb1⟩
  go_wp2_with fail
  go_loopw [7] (fun s wr => wr = w1 ∧ ∃ j : Nat, s = .int .i64 j ∧ j ≤ nt.length ∧ ∀ b ∈ nt.take j, b ≠ 10) (fun s _ => nt.length - (intOf s).toNat)
  case atStart => exact ⟨rfl, 0, rfl, by omega, fun b hb => by simp at hb⟩
  case round =>
    obtain ⟨rfl, j, rfl, hj, hno⟩ := hrel
    have HNo : Hid _ := hno
    clear hno
    by_cases hje : j = nt.length
    · subst hje
      rw [List.take_length] at HNo
      have hend : ¬ ((nt.length : Int) < (nt.length : Int)) := by omega
      go_wp2_with fail
      clear hend
      rename World => wA
      go_loopg [8, 9, 10] n (fun g s t x wr2 => ∃ k : Nat, k + g = n ∧ s = .string (bs (Asm.texts f k)) ∧ t = .string (bs (Asm.notes f nt k)) ∧ x = .int .i64 k ∧ Bw wA wr2 ∧ ∀ i, i < k → Asm.okI (f i))
      case atStart => exact ⟨0, by omega, rfl, rfl, rfl, Bw.refl _, fun i hi => by omega⟩
      case round =>
        obtain ⟨k, hk, rfl, rfl, rfl, hbw, hok⟩ := hrel
        have HO : Hid _ := hok
        have hlen := Asm.texts_len f k hok
        have hlen2 := Asm.notes_len f nt (by omega) k hok
        cases gk with
        | zero =>
          obtain rfl : k = n := by omega
          have hbR := hb1.trans hbw
          have hA1 := fun w2 (hb : Bw w w2) => All_c (Asm.texts f k) w2 (by omega) (ha.t.bw hb) (ha.n.bw hb)
          rw [Asm.all_texts f k (by omega) hok] at hA1
          have hB0 := fun w2 (hb : Bw w w2) => All_c (Asm.notes f nt k) w2 (by omega) (ha.t.bw hb) (ha.n.bw hb)
          rw [Asm.all_notes f nt k (by omega) (by omega) HNo hok] at hB0
          have hB1 := fun w2 (hb : Bw w w2) => All_c (Asm.notes f nt k ++ Asm.what) w2 (by rw [List.length_append]; have : Asm.what.length = 4 := rfl; omega) (ha.t.bw hb) (ha.n.bw hb)
          rw [Asm.all_what f nt k (by omega) (by omega) HNo hok] at hB1
          generalize Asm.texts f k = T at *
          generalize Asm.notes f nt k = N at *
          generalize Asm.bytesL f k = B at *
          clear hok hcell hwf HO HNo
          cases bad
          · clear hB1
            go_wp2_with fail
            refine (hA1 _ hbR).mono ?_
            rintro e w2 ⟨v2, rfl, hown2, hbw2⟩
            go_wp2_with fail
            refine (hB0 _ (hbR.trans hbw2)).mono ?_
            rintro e w3 ⟨v3, rfl, hown3, hbw3⟩
            have c1 := conv8 (hown2.bw hbw3)
            have c2 := conv8 hown3
            generalize strOfNums B = S at *
            go_wp2_with fail
            go_ret
            exact ⟨rfl, (hbR.trans hbw2).trans hbw3⟩
          · clear hB0
            go_wp2_with fail
            refine (hA1 _ hbR).mono ?_
            rintro e w2 ⟨v2, rfl, hown2, hbw2⟩
            go_wp2_with fail
            rw [bs_what]
            refine (hB1 _ (hbR.trans hbw2)).mono ?_
            rintro e w3 ⟨v3, rfl, hown3, hbw3⟩
            obtain ⟨q3, c3, rfl⟩ := hown3.len
            have hq : ((1 : Int) + 2 * k == 2 * k + 1) = true := by simp; omega
            go_wp2_with fail
            go_ret
            exact ⟨rfl, (hbR.trans hbw2).trans hbw3⟩
        | succ g =>
          have hkn : k < n := by omega
          have hki : (k : Int) < (n : Int) := by omega
          obtain ⟨b, o, rfl, hbl, hcl⟩ := hcell (by omega)
          obtain ⟨c0, c1, c2, c3, c4⟩ := hcl k hkn
          have hbR := hb1.trans hbw
          have d0 := hbR.keep c0
          have d1 := hbR.keep c1
          have d2 := hbR.keep c2
          have d3 := hbR.keep c3
          have d4 := hbR.keep c4
          have hm := (hwf k hkn).immB
          have HT : Hid _ := Asm.texts_succ f k
          have HB : Hid (Asm.notes f nt (k + 1) = Asm.notes f nt k ++ 10 :: (Asm.gtext (f k) ++ 35 :: (nt ++ [10]))) := Asm.notes_succ f nt k
          by_cases hg : Rv.good (f k)
          · have hE := fun w h => Encode_good (f k) w (All6.t h) hm hg
            have hT := fun w h => Text_good (f k) w (All6.t h) h.n h.p hm hg
            have hgl := Asm.gtext_len hg hm
            have HOK : Hid (∀ i, i < k + 1 → Asm.okI (f i)) := fun i hi => by
              by_cases hik : i = k
              · subst hik; exact ⟨hg, hm⟩
              · exact HO i (by omega)
            unfold Rv.iv at hE hT
            generalize Asm.gtext (f k) = X at *
            generalize f k = I at *
            generalize Asm.texts f k = T at *
            generalize Asm.notes f nt k = N at *
            clear hok hcell hwf hcl c0 c1 c2 c3 c4 HO hg
            go_wp2_with fail
            refine (hE _ (ha.bw hbR)).mono ?_
            rintro e w2 ⟨rfl, g2⟩
            have hb2 := g2.bw
            have e0 := hb2.keep d0
            have e1 := hb2.keep d1
            have e2 := hb2.keep d2
            have e3 := hb2.keep d3
            have e4 := hb2.keep d4
            clear d0 d1 d2 d3 d4
            go_wp2_with fail
            refine (hT _ (ha.bw (hbR.trans hb2))).mono ?_
            rintro e w3 ⟨rfl, hb3⟩
            have d0 := hb3.keep e0
            have d1 := hb3.keep e1
            have d2 := hb3.keep e2
            have d3 := hb3.keep e3
            have d4 := hb3.keep e4
            clear e0 e1 e2 e3 e4
            go_wp2_with fail
            refine (hT _ (ha.bw ((hbR.trans hb2).trans hb3))).mono ?_
            rintro e w4 ⟨rfl, hb4⟩
            clear d0 d1 d2 d3 d4
            go_wp2_with fail
            go_roundg g
            case measure => omega
            case rel => exact ⟨k + 1, by omega, by rw [show _ = _ from HT]; exact congrArg Value.string (bs_line2 T X), by rw [show _ = _ from HB]; exact congrArg Value.string (bs_note N X nt), by simp, ((hbw.trans hb2).trans hb3).trans hb4, HOK⟩
          · have hE := fun w h => Encode_bad (f k) w (All6.t h) hm hg
            unfold Rv.iv at hE
            generalize f k = I at *
            clear hok hcell hwf hcl c0 c1 c2 c3 c4 HO hg HT HB
            go_wp2_with fail
            refine (hE _ (ha.bw hbR)).mono ?_
            rintro e w2 ⟨rfl, g2⟩
            go_wp2_with fail
            go_ret
            exact ⟨rfl, hbR.gr g2⟩
    · have hjl : j < nt.length := by omega
      have hji : (j : Int) < (nt.length : Int) := by omega
      obtain ⟨c, hc⟩ : ∃ c, nt[j]? = some c := ⟨nt[j], by simp⟩
      have hgc := bs_get nt j c hc
      have HC : Hid _ := hc
      clear hc
      by_cases h10 : c = 10
      · subst h10
        go_wp2_with fail
        go_ret
        exact ⟨rfl, hb1⟩
      · have hcb : ((c.toNat : Int) == 10) = false := by
          rw [beq_eq_false_iff_ne]; intro h
          exact h10 (UInt8.toNat_inj.1 (by show c.toNat = 10; omega))
        have HC10 : Hid _ := h10
        clear h10
        go_wp2_with fail
        refine ⟨⟨trivial, j + 1, by simp, by omega, fun b hb => ?_⟩, by simp [intOf]; omega⟩
        rw [Asm.all_take (show nt[j]? = some c from HC), List.mem_append] at hb
        rcases hb with hb | hb
        · exact HNo b hb
        · simp at hb; subst hb; exact HC10
end Go.Proofs.YthkampohgbddnaaDoor
