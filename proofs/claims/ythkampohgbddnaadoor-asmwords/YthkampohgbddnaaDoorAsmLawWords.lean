/- LAYER 6's law AsmWords. -/
import Derived.Test.YthkampohgbddnaaDoorAsmJoin
import Derived.Test.YthkampohgbddnaaDoorAsmArgI
namespace Go.Proofs.YthkampohgbddnaaDoor
open Go.ChangeShapes Go.WideShapes Go.ChangeAt Go.RowKit

theorem bs_line (T X : List UInt8) : bs T ++ bs X ++ ⟨#[10]⟩ = bs (T ++ (X ++ [10])) := by
  show bs T ++ bs X ++ bs [10] = _
  rw [bs_app, bs_app, List.append_assoc]
set_option maxHeartbeats 4000000 in
set_option maxRecDepth 100000 in
theorem AsmWords_w (v : Value) (w : World) (hv : IArgs w v) (ha : All6 w) :
    Calls Tryd.prog 6 #[v] w fun e w' => e = .returned (.bool true) ∧ Bw w w' := by
  obtain ⟨n, f, q, cap, rfl, hnc, hcap, hwf, hcell⟩ := hv
  by_cases h60 : 60 < n
  · have h60i : (60 : Int) < n := by omega
    go_enter Tryd.func6, Tryd.ntmps6
    go_wp2_with fail
    refine (awake6_c _ ha).mono ?_
    rintro e w1 ⟨rfl, hb1⟩
    go_wp2_with fail
    go_ret
    exact ⟨rfl, hb1⟩
  · have h60i : (n : Int) ≤ 60 := by omega
    go_enter Tryd.func6, Tryd.ntmps6
    go_wp2_with fail
    refine (awake6_c _ ha).mono ?_
    rintro e w1 ⟨rfl, hb1⟩
    go_wp2_with fail
    go_loopg [3, 4, 5] n (fun g s t x wr => ∃ k : Nat, k + g = n ∧ s = .string (bs (Asm.texts f k)) ∧ x = .int .i64 k ∧ Own8 w1 wr t (Asm.bytesL f k) ∧ Bw w1 wr ∧ ∀ i, i < k → Asm.okI (f i))
    case atStart => exact ⟨0, by omega, rfl, rfl, Own8.nil _ _, Bw.refl _, fun i hi => by omega⟩
    case round =>
      obtain ⟨k, hk, rfl, rfl, hown, hbw, hok⟩ := hrel
      have HO : Hid _ := hok
      have hlen := Asm.texts_len f k hok
      cases gk with
      | zero =>
        obtain rfl : k = n := by omega
        have hA := All_c (Asm.texts f k) wr (by omega) (ha.t.bw (hb1.trans hbw)) (ha.n.bw (hb1.trans hbw))
        rw [Asm.all_texts f k (by omega) hok] at hA
        generalize Asm.texts f k = T at *
        generalize Asm.bytesL f k = B at *
        clear hok hcell hwf
        go_wp2_with fail
        refine hA.mono ?_
        rintro e w2 ⟨v2, rfl, hown2, hbw2⟩
        have c1 := conv8 hown2
        have c2 := conv8 (hown.bw hbw2)
        generalize strOfNums B = S at *
        go_wp2_with fail
        go_ret
        exact ⟨rfl, (hb1.trans hbw).trans hbw2⟩
      | succ g =>
        have hkn : k < n := by omega
        have hki : (k : Int) < (n : Int) := by omega
        obtain ⟨b, o, rfl, hbl, hcl⟩ := hcell (by omega)
        obtain ⟨c0, c1, c2, c3, c4⟩ := hcl k hkn
        have hbR := hb1.trans hbw
        have d0 := hbR.keep c0
        have d1 := hbR.keep c1
        have d2 := hbR.keep c2
        have d3 := hbR.keep c3
        have d4 := hbR.keep c4
        have hm := (hwf k hkn).immB
        have HT : Hid _ := Asm.texts_succ f k
        have HB : Hid _ := Asm.bytesL_succ f k
        have hBl := Asm.bytesL_len f k
        by_cases hg : Rv.good (f k)
        · have hE := fun w h => Encode_good (f k) w (All6.t h) hm hg
          have hT := fun w h => Text_good (f k) w (All6.t h) h.n h.p hm hg
          have hgl := Asm.gtext_len hg hm
          have hu := Rv.enc_U32 hg.1
          have HOK : Hid (∀ i, i < k + 1 → Asm.okI (f i)) := fun i hi => by
            by_cases hik : i = k
            · subst hik; exact ⟨hg, hm⟩
            · exact HO i (by omega)
          unfold Rv.iv at hE hT
          generalize Asm.gtext (f k) = X at *
          generalize Rv.enc (f k) = W at *
          generalize f k = I at *
          generalize Asm.texts f k = T at *
          generalize Asm.bytesL f k = B at *
          obtain ⟨W0, W1⟩ := hu
          clear hok hcell hwf hcl c0 c1 c2 c3 c4 HO hg
          go_wp2_with fail
          refine (hE _ (ha.bw hbR)).mono ?_
          rintro e w2 ⟨rfl, g2⟩
          have hb2 := g2.bw
          have e0 := hb2.keep d0
          have e1 := hb2.keep d1
          have e2 := hb2.keep d2
          have e3 := hb2.keep d3
          have e4 := hb2.keep d4
          clear d0 d1 d2 d3 d4
          go_wp2_with fail
          refine (hT _ (ha.bw (hbR.trans hb2))).mono ?_
          rintro e w3 ⟨rfl, hb3⟩
          clear e0 e1 e2 e3 e4
          obtain ⟨v', w5, hrun, hown5, hbw5⟩ := app8 (hown.bw (hb2.trans hb3)) (hbw.trans (hb2.trans hb3)) (Asm.le4 W) (by simp [Asm.le4]; omega) 4
          have hrun2 : (Builtin.append_ #[30, 30] 30 #[u4, .slice (some ⟨w3.heap.size, 0, none⟩) 4 4]).run Tryd.prog (w3.alloc (.cells #[.int .u8 (W % 256), .int .u8 (W / 256 % 256), .int .u8 (W / 65536 % 256), .int .u8 (W / 16777216)] 5)) = .ok v' w5 := hrun
          clear hrun
          go_wp2_with (first | (at_builtin; refine wpApp rfl _ _ 30 rfl rfl rfl hrun2 ?_) | go_in)
          go_roundg g
          case measure => omega
          case rel => exact ⟨k + 1, by omega, by rw [show _ = _ from HT]; exact congrArg Value.string (bs_line T X), by simp, by rw [show _ = _ from HB]; exact hown5, hbw5, HOK⟩
        · have hE := fun w h => Encode_bad (f k) w (All6.t h) hm hg
          unfold Rv.iv at hE
          generalize f k = I at *
          clear hok hcell hwf hcl c0 c1 c2 c3 c4 HO hg HT HB
          go_wp2_with fail
          refine (hE _ (ha.bw hbR)).mono ?_
          rintro e w2 ⟨rfl, g2⟩
          go_wp2_with fail
          go_ret
          exact ⟨rfl, hbR.gr g2⟩
end Go.Proofs.YthkampohgbddnaaDoor
