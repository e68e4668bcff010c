/- LAYER 6's walks: All. -/
import Derived.Test.YthkampohgbddnaaDoorAsmLine
import Derived.Test.YthkampohgbddnaaDoorAsmApp
namespace Go.Proofs.YthkampohgbddnaaDoor
open Go.ChangeShapes Go.WideShapes Go.ChangeAt Go.RowKit

theorem Asm.runL_skip {n : Int} {t : List UInt8} {acc : List Int} (h : t ≠ []) (hs : Asm.tok (Asm.upto 35 (Asm.upto 10 t)) = []) : Asm.runL n (Asm.lines t) acc = Asm.runL (n + 1) (Asm.lines (Asm.past 10 t)) acc := by
  rw [Asm.lines_cut h, Asm.runL, if_pos hs]
theorem Asm.runL_bad {n : Int} {t : List UInt8} {acc : List Int} (h : t ≠ []) (hs : Asm.tok (Asm.upto 35 (Asm.upto 10 t)) ≠ []) (he : (Asm.lineW (Asm.tok (Asm.upto 35 (Asm.upto 10 t)))).2 ≠ 0) :
    Asm.runL n (Asm.lines t) acc = ([], n, (Asm.lineW (Asm.tok (Asm.upto 35 (Asm.upto 10 t)))).2) := by
  rw [Asm.lines_cut h, Asm.runL, if_neg hs, if_neg he]
theorem Asm.runL_good {n : Int} {t : List UInt8} {acc : List Int} (h : t ≠ []) (hs : Asm.tok (Asm.upto 35 (Asm.upto 10 t)) ≠ []) (he : (Asm.lineW (Asm.tok (Asm.upto 35 (Asm.upto 10 t)))).2 = 0) :
    Asm.runL n (Asm.lines t) acc = Asm.runL (n + 1) (Asm.lines (Asm.past 10 t)) (acc ++ Asm.le4 (Asm.lineW (Asm.tok (Asm.upto 35 (Asm.upto 10 t)))).1) := by
  rw [Asm.lines_cut h, Asm.runL, if_neg hs, if_pos he]
theorem Asm.ret_vii {v : Value} {a b c d : Int} (h : a = b) (h2 : c = d) : Ending.returned (.tuple #[v, .int .i64 a, .int .i64 c]) = .returned (.tuple #[v, .int .i64 b, .int .i64 d]) := by rw [h, h2]
set_option maxHeartbeats 2000000 in
set_option maxRecDepth 100000 in
theorem All_c (l : List UInt8) (w : World) (hl : l.length < 4294967281) (ht : Tabs w) (hn : NTab w) :
    Calls Tryd.prog 13 #[.string (bs l)] w fun e w' => ∃ v, e = .returned (.tuple #[v, .int .i64 (Asm.all l).2.1, .int .i64 (Asm.all l).2.2]) ∧ Own8 w w' v (Asm.all l).1 ∧ Bw w w' := by
  by_cases h1 : 16384 < l.length
  · have h1i : (16384 : Int) < l.length := by omega
    have e : Asm.all l = ([], 0, 2) := by unfold Asm.all; rw [if_pos (Or.inl h1)]
    rw [e]
    go_enter Tryd.func13, Tryd.ntmps13
    go_wp2
    go_returns
    exact ⟨_, rfl, Own8.nil _ _, Bw.refl _⟩
  have hK := countLines_c l w (by omega)
  have h1i : (l.length : Int) ≤ 16384 := by omega
  by_cases h2 : 400 < Asm.count l
  · have h2i : (400 : Int) < Asm.count l := by omega
    have e : Asm.all l = ([], 0, 2) := by unfold Asm.all; rw [if_pos (Or.inr h2)]
    rw [e]
    go_enter Tryd.func13, Tryd.ntmps13
    go_wp2_with (go_at_call 25; refine hK.mono ?_; rintro e w' ⟨rfl, rfl⟩)
    go_returns
    exact ⟨_, rfl, Own8.nil _ _, Bw.refl _⟩
  have h2i : (Asm.count l : Int) ≤ 400 := by omega
  have e : Asm.all l = Asm.runL 1 (Asm.lines l) [] := by unfold Asm.all; rw [if_neg (by omega)]
  rw [e]
  have HR : Hid (Asm.runL 1 (Asm.lines l) [] = Asm.runL 1 (Asm.lines l) []) := rfl
  generalize hRR : Asm.runL 1 (Asm.lines l) [] = R at *
  have HR2 : Hid (Asm.runL 1 (Asm.lines l) [] = R) := hRR
  clear HR hRR e h1 h2
  go_enter Tryd.func13, Tryd.ntmps13
  go_wp2_with (go_at_call 25; refine hK.mono ?_; rintro e w' ⟨rfl, rfl⟩)
  go_loopg [0, 5, 6] l.length (fun g t v n wr => ∃ tj : List UInt8, ∃ acc : List Int, ∃ k : Nat, tj.length = g ∧ t = .string (bs tj) ∧ n = .int .i64 k ∧ 1 ≤ k ∧ k + tj.length ≤ 16385 ∧ acc.length ≤ 4 * k ∧ Own8 w' wr v acc ∧ Bw w' wr ∧ Asm.runL k (Asm.lines tj) acc = R)
  case atStart => exact ⟨l, [], 1, rfl, rfl, rfl, by omega, by omega, by simp, Own8.nil _ _, Bw.refl _, HR2⟩
  case round =>
    obtain ⟨tj, acc, k, hg, rfl, rfl, k0, k1, ha, hown, hbw, hrun⟩ := hrel
    have HRun : Hid _ := hrun
    clear hrun HR2
    by_cases h0 : tj = []
    · subst h0
      have hRe : Hid (R = (acc, 0, 0)) := by show R = _; rw [← (show _ = R from HRun)]; rfl
      go_wp2
      go_returns
      refine ⟨_, Asm.ret_vii (by rw [show R = _ from hRe]) (by rw [show R = _ from hRe]), ?_, hbw⟩
      rw [show R = _ from hRe]; exact hown
    · have hem : tj.isEmpty = false := by simpa using h0
      have hC1 := Cut_c tj 10 wr (by omega)
      have hu1 := Asm.upto_le 10 tj
      have hu2 := Asm.upto_le 35 (Asm.upto 10 tj)
      have hC2 := fun w => Cut_c (Asm.upto 10 tj) 35 w (by omega)
      have hT := fun w => Trim_c (Asm.upto 35 (Asm.upto 10 tj)) w (by omega)
      have hpl := Asm.past_lt 10 h0
      have hLW := fun w2 (h : Bw w' w2) => lineWord_c (Asm.upto 35 (Asm.upto 10 tj)) w2 (by omega) (ht.bw h) (hn.bw h)
      have hLb := Asm.lineW_bd (Asm.tok (Asm.upto 35 (Asm.upto 10 tj)))
      have hS : Hid _ := fun hs => Asm.runL_skip (n := (k : Int)) (acc := acc) h0 hs
      have hB : Hid _ := fun hs he => Asm.runL_bad (n := (k : Int)) (acc := acc) h0 hs he
      have hG : Hid _ := fun hs he => Asm.runL_good (n := (k : Int)) (acc := acc) h0 hs he
      rw [show _ = R from HRun] at hS hB hG
      generalize Asm.upto 35 (Asm.upto 10 tj) = s at *
      generalize Asm.upto 10 tj = s1 at *
      generalize Asm.past 10 tj = t2 at *
      by_cases hte : Asm.tok s = []
      · have hskip : Hid _ := hS hte
        rw [hte] at hT
        clear hS hB hG hLW hLb hte h0
        go_wp2_with fail
        refine hC1.mono ?_
        rintro e w1 ⟨b1, rfl, hb1⟩
        go_wp2_with fail
        refine (hC2 _).mono ?_
        rintro e w2 ⟨b2, rfl, hb2⟩
        go_wp2_with fail
        refine (hT _).mono ?_
        rintro e w3 ⟨t3, rfl, ht3, hb3⟩
        have ht3' : t3.isEmpty = true := ht3
        have hb := (hb1.trans hb2).trans hb3
        go_wp2_with fail
        go_roundg t2.length
        case measure => omega
        case rel => exact ⟨t2, acc, k + 1, rfl, rfl, by simp, by omega, by omega, by omega, hown.bw hb, hbw.trans hb, (show R = _ from hskip).symm⟩
      · have hT' : ∀ w, Calls Tryd.prog 27 #[.string (bs s), .string ⟨#[32, 9]⟩] w fun e w' => ∃ t : List UInt8, e = .returned (.string (bs t)) ∧ t.isEmpty = false ∧ Bw w w' := fun w => (hT w).mono (by
          rintro e w' ⟨t, rfl, he, hb⟩
          exact ⟨t, rfl, by rw [he]; simpa using hte, hb⟩)
        by_cases hE : (Asm.lineW (Asm.tok s)).2 = 0
        · have hgood : Hid _ := hG hte hE
          rw [hE] at hLW
          generalize (Asm.lineW (Asm.tok s)).1 = W at *
          obtain ⟨W0, W1⟩ := hLb
          clear hS hB hG hT hte h0 hE
          go_wp2_with fail
          refine hC1.mono ?_
          rintro e w1 ⟨b1, rfl, hb1⟩
          go_wp2_with fail
          refine (hC2 _).mono ?_
          rintro e w2 ⟨b2, rfl, hb2⟩
          go_wp2_with fail
          refine (hT' _).mono ?_
          rintro e w3 ⟨t3, rfl, ht3, hb3⟩
          have hb := (hb1.trans hb2).trans hb3
          go_wp2_with fail
          refine (hLW _ (hbw.trans hb)).mono ?_
          rintro e w4 ⟨rfl, hb4⟩
          have hown4 := hown.bw (hb.trans hb4)
          obtain ⟨v', w5, hrun, hown5, hbw5⟩ := app8 hown4 ((hbw.trans hb).trans hb4) (Asm.le4 W) (by simp [Asm.le4]; omega) 4
          have hrun2 : (Builtin.append_ #[30, 30] 30 #[u5, .slice (some ⟨w4.heap.size, 0, none⟩) 4 4]).run Tryd.prog (w4.alloc (.cells #[.int .u8 (W % 256), .int .u8 (W / 256 % 256), .int .u8 (W / 65536 % 256), .int .u8 (W / 16777216)] 5)) = .ok v' w5 := hrun
          clear hrun
          go_wp2_with (first | (at_builtin; refine wpApp rfl _ _ 30 rfl rfl rfl hrun2 ?_) | go_in)
          go_roundg t2.length
          case measure => omega
          case rel => exact ⟨t2, acc ++ Asm.le4 W, k + 1, rfl, rfl, by simp, by omega, by omega, by simp [Asm.le4]; omega, hown5, hbw5, (show R = _ from hgood).symm⟩
        · have hbad : Hid _ := hB hte hE
          have hEb : ((Asm.lineW (Asm.tok s)).2 != 0) = true := by simpa using hE
          generalize (Asm.lineW (Asm.tok s)).2 = E at *
          clear hS hB hG hT hte h0 hE
          go_wp2_with fail
          refine hC1.mono ?_
          rintro e w1 ⟨b1, rfl, hb1⟩
          go_wp2_with fail
          refine (hC2 _).mono ?_
          rintro e w2 ⟨b2, rfl, hb2⟩
          go_wp2_with fail
          refine (hT' _).mono ?_
          rintro e w3 ⟨t3, rfl, ht3, hb3⟩
          have hb := (hb1.trans hb2).trans hb3
          go_wp2_with fail
          refine (hLW _ (hbw.trans hb)).mono ?_
          rintro e w4 ⟨rfl, hb4⟩
          go_wp2_with fail
          go_returns
          refine ⟨_, Asm.ret_vii (by rw [show R = _ from hbad]) (by rw [show R = _ from hbad]), ?_, (hbw.trans hb).trans hb4⟩
          rw [show R = _ from hbad]; exact Own8.nil _ _
end Go.Proofs.YthkampohgbddnaaDoor
