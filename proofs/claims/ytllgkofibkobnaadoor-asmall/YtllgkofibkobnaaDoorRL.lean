/- LAYER 6: the document's Parse (the reference's): Ops 11 to 15. -/
import Derived.Test.YtllgkofibkobnaaDoorR15
namespace Go.Proofs.YtllgkofibkobnaaDoor
open Go.ChangeShapes Go.WideShapes Go.ChangeAt Go.RowKit

set_option linter.unusedSimpArgs false
set_option linter.unusedVariables false
set_option maxHeartbeats 8000000 in
set_option maxRecDepth 100000 in
theorem rParse_L (s : List UInt8) (w : World) (hl : s.length ≤ 16384) (hd : List UInt8) (rest : List (List UInt8)) (hts : Asm.tok s = hd :: rest) (hg : 11 ≤ Asm.opOf hd ∧ Asm.opOf hd ≤ 15) :
    Calls Tryd.prog 17 #[.string (bs s)] w fun e w' => e = .returned (.tuple #[Rv.iv (Asm.parse (Asm.tok s)).1, .int .i64 (Asm.parse (Asm.tok s)).2]) ∧ Bw w w' := by
  have hb0 := (Bw.refl w).alloc (.cells #[.int .i64 0, .int .i64 0, .int .i64 0, .int .i64 0, .int .i32 0] 45)
  have hz0 : IW (w.alloc (.cells #[.int .i64 0, .int .i64 0, .int .i64 0, .int .i64 0, .int .i32 0] 45)) w.heap.size Asm.zero := IW.new w Asm.zero 45
  have hT := rtokens_c s (w.alloc (.cells #[.int .i64 0, .int .i64 0, .int .i64 0, .int .i64 0, .int .i32 0] 45)) (by omega)
  have hTe : Hid _ := Asm.tok_each s []
  rw [show Asm.tokA [] s = Asm.tok s from rfl] at hTe
  rw [hts] at hT hTe ⊢
  have HG : Hid _ := hg
  clear hg hts
  have hPar : Asm.parse (hd :: rest) = if Asm.opOf hd = 0 then (Asm.zero, 7) else Asm.behind (Asm.opOf hd) rest := rfl
  have HPar : Hid _ := hPar
  generalize Asm.parse (hd :: rest) = PR at *
  clear hPar
  go_enter Tryd.func17, Tryd.ntmps17
  go_wp2_with fail
  refine hT.mono ?_
  rintro e w2 ⟨v, rfl, hO, hB2⟩
  obtain ⟨q, cap, rfl, hcap, hcm, hcells⟩ := hO.at
  obtain ⟨b, rfl, hb1, hb2, hcc⟩ := hcells (by simp)
  have hx0 := (hcc 0 _ rfl).1
  clear hcells hT
  simp only [List.length_cons] at *
  go_wp2_with fail
  go_loopg [5, 6] 49 (fun g o x wr => ∃ k op : Nat, k + g = 50 ∧ o = .int .i64 op ∧ x = .int .i64 k ∧ 1 ≤ k ∧ Bw w2 wr ∧ op = if Asm.opOf hd < k then Asm.opOf hd else 0)
  case atStart => exact ⟨1, 0, by omega, rfl, rfl, by omega, Bw.refl _, by split <;> omega⟩
  case round =>
    obtain ⟨k, op, hkg, rfl, rfl, hk1, hbw, hop⟩ := hrel
    by_cases hk : k = 50
    · subst hk
      have hOp : op = Asm.opOf hd := by rw [hop, if_pos (Asm.opOf_bd hd)]
      have hOb := Asm.opOf_bd hd
      have hOg : 11 ≤ op ∧ op ≤ 15 := by rw [hOp]; exact HG
      rw [← hOp] at HPar hOb
      clear hop hOp hkg
      have hz := (hz0.bw hB2).bw hbw
      have r0 := hz.box.c0; have r1 := hz.box.c1; have r2 := hz.box.c2; have r3 := hz.box.c3; have r4 := hz.box.c4; have rz := hz.fz
      have hcw := fun (j : Nat) t (h : (hd :: rest)[j]? = some t) => hbw.keep (hcc j t h).1
      have hW := (hb0.trans hB2).trans hbw
      have hop0 : op ≠ 0 := by omega
      have HB : Hid (PR = Asm.behind op rest) := by show PR = _; rw [show PR = _ from HPar, if_neg hop0]
      have hop1 : ((op : Int) == 0) = false := by simp; omega
      have dl2 : decide ((op : Int) ≤ 2) = false := decide_eq_false (by omega)
      have dl3 : decide ((op : Int) ≤ 3) = false := decide_eq_false (by omega)
      have dl4 : decide ((op : Int) ≤ 4) = false := decide_eq_false (by omega)
      have dl10 : decide ((op : Int) ≤ 10) = false := decide_eq_false (by omega)
      have dl15 : decide ((op : Int) ≤ 15) = true := decide_eq_true (by omega)
      have dl18 : decide ((op : Int) ≤ 18) = true := decide_eq_true (by omega)
      have dl27 : decide ((op : Int) ≤ 27) = true := decide_eq_true (by omega)
      have dl45 : decide ((op : Int) ≤ 45) = true := decide_eq_true (by omega)
      have dg11 : decide ((11 : Int) ≤ op) = true := decide_eq_true (by omega)
      have dg19 : decide ((19 : Int) ≤ op) = false := decide_eq_false (by omega)
      have dg46 : decide ((46 : Int) ≤ op) = false := decide_eq_false (by omega)
      have dq4 : ((op : Int) == 4) = false := by simp; omega
      have dq3 : ((op : Int) == 3) = false := by simp; omega
      clear HPar hcc hx0
      obtain ⟨hu1, hu2⟩ : (1 : Int) ≤ op ∧ (op : Int) ≤ 49 := by omega
      obtain ⟨h, h2⟩ : (10 : Int) < op ∧ (op : Int) ≤ 15 := by omega
      have hs : Asm.shape (op : Int) = [100, 44, 105, 40, 115, 41] := by unfold Asm.shape; rw [if_neg (by omega), if_neg (by omega), if_neg (by omega), if_neg (by omega), if_pos (by omega)]
      obtain ⟨sh, hsh⟩ : ∃ sh : List UInt8, sh = [114, 44, 110, 40, 114, 41] := ⟨_, rfl⟩
      have HB2 : Hid (PR = Asm.aft ((Asm.rp sh rest [] 0).map fun x => ((⟨op, x.1.getD 0 0, x.1.getD 1 0, 0, Asm.w32 x.2⟩ : Rv.Ins), decide (Asm.w32 x.2 = x.2)))) := by
        show PR = _
        rw [show PR = _ from HB, Asm.behind_aft, hs, Asm.parts_l, hsh]
      have hlenN := Asm.rp_len sh rest [] 0
      have HRP0 : Hid (Asm.rp sh rest [] 0 = Asm.rp sh rest [] 0) := rfl
      obtain ⟨RP, hRP⟩ : ∃ RP, Asm.rp sh rest [] 0 = RP := ⟨_, rfl⟩
      rw [hRP] at HB2 hlenN
      have HRP : Hid _ := hRP
      have HNone : Hid (RP = none → PR = (Asm.zero, 7)) := by
        show RP = none → PR = _
        intro h; rw [show PR = _ from HB2, h]; rfl
      clear hRP HRP0 HB hs
      by_cases hln : sh.length = rest.length
      rotate_left
      · have HN2 : Hid (PR = (Asm.zero, 7)) := (show _ from HNone) (hlenN hln)
        have hl3 : sh.length = 6 := by rw [hsh]; rfl
        have hl3b : (((rest.length : Int) + 1) != 7) = true := by simp; omega
        clear hlenN HRP HNone hln hl3 hsh HB2
        go_wp2_with fail
        refine bodyPost_ret (by simp [results, Tryd.results17, go_sem, r0, r1, r2, r3, r4]; try rfl) rfl ?_
        exact ⟨by rw [show PR = _ from HN2]; rfl, hW.set5 _ _ _ _ _⟩
      clear hlenN
      have hl3 : rest.length = 6 := by rw [← hln, hsh]; rfl
      have hl3b : (((rest.length : Int) + 1) != 7) = false := by simp; omega
      have hshB : (⟨#[114, 44, 110, 40, 114, 41]⟩ : ByteArray) = bs sh := by rw [hsh]; rfl
      have hcl : ∀ c ∈ sh, c = 114 ∨ c = 110 ∨ ((c = 44 ∨ c = 40 ∨ c = 41) ∧ ((c.toNat : Int) == 114) = false ∧ ((c.toNat : Int) == 110) = false) := by rw [hsh]; decide
      have HCl : Hid _ := hcl
      clear hcl
      go_wp2_with fail
      have e1 : ((rest.length : Int) + 1 == 0) = false := by simp; omega
      simp only [hshB, e1, dl2, dl3, dl4, dl10, dl15, dl18, dl27, dl45, dg11, dg19, dg46, dq4, dq3, Int.cast_ofNat_Int, Bool.or_true, Bool.true_or, Bool.or_false, Bool.false_or, Bool.and_true, Bool.true_and, Bool.and_false, Bool.false_and]
      clear e1
      have HSh : Hid _ := hsh
      obtain ⟨hln1, hln2⟩ : sh.length ≤ rest.length ∧ rest.length ≤ sh.length := by omega
      have hs6 : sh.length ≤ 6 := by rw [hsh]; decide
      clear hsh hshB hl3 hl3b hln
      go_loopg [8, 9, 10] sh.length (fun g v nn x wx => ∃ k : Nat, ∃ rg : List Int, ∃ n : Int, k + g = sh.length ∧ x = .int .i64 k ∧ nn = .int .i64 n ∧ OwnI wr wx v rg ∧ Bw wr wx ∧ rg.length + (sh.drop k).count 114 = sh.count 114 ∧ rg.length ≤ k ∧ (∀ r ∈ rg, 0 ≤ r ∧ r < 32) ∧ (-10000000000 < n ∧ n < 10000000000) ∧ (110 ∈ sh ∨ n = 0) ∧ Asm.rp (sh.drop k) (rest.drop k) rg n = RP)
      case atStart => exact ⟨0, [], 0, by omega, rfl, rfl, OwnI.nil _ _, Bw.refl _, by simp, by simp, by simp, by omega, Or.inr rfl, HRP⟩
      case round =>
        obtain ⟨k, rg, n, hkg, rfl, rfl, hown, hbx, hct, hrl, hrb, ⟨n0, n1⟩, hnz, hrun⟩ := hrel
        have HNZ : Hid _ := hnz
        clear hnz
        have hzx := hz.bw hbx
        clear r0 r1 r2 r3 r4 rz
        have r0 := hzx.box.c0; have r1 := hzx.box.c1; have r2 := hzx.box.c2; have r3 := hzx.box.c3; have r4 := hzx.box.c4; have rz := hzx.fz
        have HRun : Hid _ := hrun
        have HCt : Hid _ := hct
        have HRb : Hid _ := hrb
        clear hrun HRP hct hrb
        by_cases hkL : k = sh.length
        · subst hkL
          have hRPe : RP = some (rg, n) := by
            rw [← (show _ = RP from HRun), List.drop_length, List.drop_of_length_le (by omega)]; rfl
          have hrg : rg.length = 2 := by
            have h9 : _ = List.count 114 sh := HCt
            rw [List.drop_length, show sh = _ from HSh] at h9
            simpa using h9
          obtain ⟨r, y2, rfl⟩ : ∃ r y2, rg = [r, y2] := by
            rcases rg with _ | ⟨a, _ | ⟨b, _ | ⟨c, t⟩⟩⟩
            · simp at hrg
            · simp at hrg
            · exact ⟨a, b, rfl⟩
            · simp at hrg
          obtain ⟨g0, g1⟩ := (show _ from HRb) r (by simp)
          obtain ⟨g2, g3⟩ := (show _ from HRb) y2 (by simp)
          have HF : Hid (PR = Asm.fine ⟨op, r, y2, 0, Asm.w32 n⟩ (decide (Asm.w32 n = n))) := by
            show PR = _
            rw [show PR = _ from HB2, hRPe]; rfl
          obtain ⟨q, cap2, rfl, hc2, hm2, hcl2⟩ := hown.at
          obtain ⟨b2, rfl, hb20, hb21, hcc2⟩ := hcl2 (by simp)
          have hr0 := hcc2 0 r rfl
          have hr1 := hcc2 1 y2 rfl
          have hlt : ¬ ((sh.length : Int) < (sh.length : Int)) := by omega
          clear hcl2 hcc2 HRun HCt HRb hRPe hrg HB2 HNone HCl hown hO r0 r1 r2 r3 r4 rz
          have q := fun o => hzx.bw ((Bw.refl _).alloc o)
          have r0 := fun o => (q o).box.c0; have r1 := fun o => (q o).box.c1; have r2 := fun o => (q o).box.c2; have r3 := fun o => (q o).box.c3; have r4 := fun o => (q o).box.c4; have rz := fun o => (q o).fz
          by_cases hn : -2000000 ≤ n ∧ n ≤ 2000000
          · obtain ⟨hn0, hn1⟩ := hn
            have hw32 : Asm.w32 n = n := Asm.w32_id (by omega) (by omega)
            rw [hw32, decide_eq_true rfl] at HF
            have hwr : wrap32 n = n := by unfold wrap32; omega
            have hEn := fun w => rEncode_c ⟨op, r, y2, 0, n⟩ (by dsimp only; omega) w
            have HF2 : Hid (PR = Asm.fine ⟨op, r, y2, 0, n⟩ true) := HF
            clear HF hw32
            unfold Rv.iv at hEn
            dsimp only at hEn
            go_wp2_with fail
            go_region
            go_wp2_with fail
            refine (hEn _).mono ?_
            rintro e w6 ⟨x, ok, rfl, g6, hbi, hv⟩
            have q6 := ((q _).bw ((Bw.refl _).drew)).bw g6.bw
            clear r0 r1 r2 r3 r4 rz
            have r0 := q6.box.c0; have r1 := q6.box.c1; have r2 := q6.box.c2; have r3 := q6.box.c3; have r4 := q6.box.c4; have rz := q6.fz
            have i6 := ((IW.new wr ⟨op, r, y2, 0, n⟩ 45).bw ((Bw.refl _).drew)).bw g6.bw
            have t0 := i6.box.c0; have t1 := i6.box.c1; have t2 := i6.box.c2; have t3 := i6.box.c3; have t4 := i6.box.c4
            dsimp only at t0 t1 t2 t3 t4
            have hW6 := (((hW.trans hbx).alloc _).drew).trans g6.bw
            by_cases hgd : Rv.good ⟨op, r, y2, 0, n⟩
            · obtain rfl : ok = true := hbi.2 hgd
              have HE : Hid (PR = (⟨op, r, y2, 0, n⟩, 0)) := by
                show PR = _
                rw [show PR = _ from HF2]
                unfold Asm.fine
                rw [(Asm.goodB_iff _).2 hgd]; rfl
              clear hgd hbi hv
              go_wp2_with fail
              refine bodyPost_ret (by simp [results, Tryd.results17, go_sem, r0, r1, r2, r3, r4]; try rfl) rfl ?_
              exact ⟨by rw [show PR = _ from HE]; rfl, hW6.set5 _ _ _ _ _⟩
            · obtain rfl : ok = false := Bool.eq_false_iff.2 (fun h => hgd (hbi.1 h))
              have HE : Hid (PR = (Asm.zero, 1)) := by
                show PR = _
                rw [show PR = _ from HF2]
                unfold Asm.fine
                rw [show Asm.goodB _ = false from Bool.eq_false_iff.2 (fun h => hgd ((Asm.goodB_iff _).1 h))]; rfl
              clear hgd hbi hv
              go_wp2_with fail
              refine bodyPost_ret (by simp [results, Tryd.results17, go_sem, r0, r1, r2, r3, r4]; try rfl) rfl ?_
              exact ⟨by rw [show PR = _ from HE]; rfl, hW6.set5 _ _ _ _ _⟩
          · have HE : Hid (PR = (Asm.zero, 1)) := by
              show PR = _
              rw [show PR = _ from HF]
              unfold Asm.fine
              by_cases hw : Asm.w32 n = n
              · have hng : ¬ Rv.good ⟨op, r, y2, 0, Asm.w32 n⟩ := Rv.far (by dsimp only; omega) (by dsimp only; rw [hw]; omega)
                rw [show Asm.goodB _ = false from Bool.eq_false_iff.2 (fun h => hng ((Asm.goodB_iff _).1 h)), Bool.false_and]; rfl
              · rw [decide_eq_false hw, Bool.and_false]; rfl
            obtain hn | hn : n < -2000000 ∨ 2000000 < n := by omega
            all_goals
              go_wp2_with fail
              go_region
              go_wp2_with fail
              refine bodyPost_ret (by simp [results, Tryd.results17, go_sem, r0, r1, r2, r3, r4]; try rfl) rfl ?_
              exact ⟨by rw [show PR = _ from HE]; rfl, (((hW.trans hbx).alloc _).drew).set5 _ _ _ _ _⟩
        · have hkl : k < sh.length := by omega
          have hlt : (k : Int) < (sh.length : Int) := by omega
          obtain ⟨c, hc⟩ : ∃ c, sh[k]? = some c := ⟨sh[k], by simp⟩
          obtain ⟨t, ht⟩ : ∃ t, rest[k]? = some t := ⟨rest[k]'(by omega), by simp⟩
          have htl : t.length ≤ s.length := by
            have := (show _ from hTe) t (List.mem_cons_of_mem _ (List.mem_of_getElem? ht))
            simpa using this
          have hgc := bs_get sh k c hc
          have htc := hbx.keep (hcw (k + 1) t (by simpa using ht))
          have hi1 : ((k + 1 : Nat) : Int) = (k : Int) + 1 := by omega
          have hi2 : (k : Int) + 1 < (rest.length : Int) + 1 := by omega
          have hk6 : (k : Int) < 6 := by omega
          have hdr : sh.drop k = c :: sh.drop (k + 1) := by
            rw [List.drop_eq_getElem_cons hkl]
            rw [List.getElem?_eq_getElem hkl] at hc
            rw [Option.some.inj hc]
          have hdr2 : rest.drop k = t :: rest.drop (k + 1) := by
            have hkr : k < rest.length := by omega
            rw [List.drop_eq_getElem_cons hkr]
            rw [List.getElem?_eq_getElem hkr] at ht
            rw [Option.some.inj ht]
          rw [hdr, hdr2, Asm.rp] at HRun
          rw [hdr, List.count_cons] at HCt
          have hcls := (show _ from HCl) c (List.mem_of_getElem? hc)
          have HMem : Hid (c ∈ sh) := List.mem_of_getElem? hc
          have hsl := fun w => run_slice_one (L := sh) (k := k) hc w
          clear hdr hdr2 ht hc hkL
          rcases hcls with rfl | rfl | ⟨hcv, c1, c2⟩
          · rw [if_pos rfl] at HRun
            have hR := fun w => rregister_c t w (by omega)
            unfold Asm.regN at hR
            by_cases hrk : Asm.regOk t = true
            · rw [if_pos hrk] at HRun
              simp only [if_pos hrk] at hR
              obtain ⟨g0, g1⟩ := Asm.reg_bd t
              generalize Asm.reg t = r at *
              obtain ⟨v1, w1, hr1, ho1, hb1'⟩ := appI hown hbx r (by omega)
              clear hrk
              go_wp2_with fail
              refine (hR _).mono ?_; rintro e w' ⟨rfl, rfl⟩
              go_wp2_with fail
              refine (hR _).mono ?_; rintro e w' ⟨rfl, rfl⟩
              go_wp2_with (first | (at_builtin; refine wpApp rfl _ _ 68 rfl rfl rfl hr1 ?_) | go_in)
              go_roundg (sh.length - (k + 1))
              case measure => omega
              case rel => exact ⟨k + 1, rg ++ [r], n, by omega, by simp, rfl, ho1, hb1', by have h9 : _ = List.count 114 sh := HCt; simp at h9 ⊢; omega, by simp; omega, fun x hx => by rcases List.mem_append.1 hx with h | h; exact HRb x h; simp at h; subst h; exact ⟨g0, g1⟩, ⟨n0, n1⟩, HNZ, HRun⟩
            · rw [if_neg hrk] at HRun
              simp only [if_neg hrk] at hR
              clear hrk
              go_wp2_with (go_at_call 38; refine (hR _).mono ?_; rintro e w' ⟨rfl, rfl⟩)
              refine bodyPost_ret (by simp [results, Tryd.results17, go_sem, r0, r1, r2, r3, r4]; try rfl) rfl ?_
              exact ⟨by rw [(show RP = none → PR = _ from HNone) (show _ = RP from HRun).symm]; rfl, (hW.trans hbx).set5 _ _ _ _ _⟩
          · rw [if_neg (by decide), if_pos rfl] at HRun
            have hR := fun w => rnumber_c t w (by omega)
            obtain ⟨g0, g1⟩ := Asm.num_bd t
            generalize Asm.num t = r at *
            by_cases hrk : Asm.numOk t = true
            · rw [if_pos hrk] at HRun
              rw [hrk] at hR
              clear hrk
              go_wp2_with fail
              refine (hR _).mono ?_; rintro e w' ⟨rfl, rfl⟩
              go_wp2_with fail
              go_roundg (sh.length - (k + 1))
              case measure => omega
              case rel => exact ⟨k + 1, rg, r, by omega, by simp, rfl, hown, hbx, by have h9 : _ = List.count 114 sh := HCt; simp at h9 ⊢; omega, by omega, HRb, ⟨g0, g1⟩, Or.inl HMem, HRun⟩
            · rw [if_neg hrk] at HRun
              rw [Bool.eq_false_iff.2 hrk] at hR
              clear hrk
              go_wp2_with fail
              refine (hR _).mono ?_; rintro e w' ⟨rfl, rfl⟩
              go_wp2_with fail
              refine bodyPost_ret (by simp [results, Tryd.results17, go_sem, r0, r1, r2, r3, r4]; try rfl) rfl ?_
              exact ⟨by rw [(show RP = none → PR = _ from HNone) (show _ = RP from HRun).symm]; rfl, (hW.trans hbx).set5 _ _ _ _ _⟩
          · have hn1 : c ≠ 114 := by rintro rfl; simp at c1
            have hn2 : c ≠ 110 := by rintro rfl; simp at c2
            rw [if_neg hn1, if_neg hn2] at HRun
            have hcf : (c == 114) = false := by simpa using hn1
            rw [hcf] at HCt
            clear hcf hcv
            by_cases hrk : t = [c]
            · rw [if_pos hrk] at HRun
              subst hrk
              clear hn1 hn2
              go_wp2_with fail
              go_roundg (sh.length - (k + 1))
              case measure => omega
              case rel => exact ⟨k + 1, rg, n, by omega, by simp, rfl, hown, hbx, by have h9 : _ = List.count 114 sh := HCt; simp at h9 ⊢; omega, by omega, HRb, ⟨n0, n1⟩, HNZ, HRun⟩
            · rw [if_neg hrk] at HRun
              have hrb : (t == [c]) = false := by simpa using hrk
              clear hrk hn1 hn2
              go_wp2_with fail
              refine bodyPost_ret (by simp [results, Tryd.results17, go_sem, r0, r1, r2, r3, r4]; try rfl) rfl ?_
              exact ⟨by rw [(show RP = none → PR = _ from HNone) (show _ = RP from HRun).symm]; rfl, (hW.trans hbx).set5 _ _ _ _ _⟩
    · have hkl : k < 50 := by omega
      have hle : (k : Int) ≤ 49 := by omega
      have hx := Rv.nmC_at (n := k) hkl
      have hN := rnames_c
      have hq := Asm.opOf_name (hd := hd) (k := k) (by omega) hkl
      unfold Rv.nmS at hx
      generalize Rv.nmT.getD k [] = nm at *
      generalize Rv.nmC = C at *
      have hxr := hbw.keep hx0
      have HOp : Hid _ := hop
      clear hop
      go_wp2_with fail
      have hbz : b < wr.heap.size := Nat.lt_of_lt_of_le hb2 hbw.size
      have hB3 : ∀ C, Bw w2 (wr.alloc (.cells C 9)).drew := fun C => (hbw.alloc _).drew
      by_cases hok : Asm.opOf hd = k
      · rw [decide_eq_true hok] at hq
        have HK : Hid _ := hok
        clear hok
        go_region_with (go_at_call 37; refine (hN _).mono ?_; rintro e w' ⟨rfl, rfl⟩)
        all_goals go_wp2_with fail
        all_goals
          go_roundg (50 - (k + 1))
          case measure => omega
          case rel => exact ⟨k + 1, k, by omega, rfl, by simp, by omega, hB3 _, by rw [show _ = k from HK, if_pos (by omega)]⟩
      · rw [decide_eq_false hok] at hq
        have HK : Hid _ := hok
        clear hok
        go_region_with (go_at_call 37; refine (hN _).mono ?_; rintro e w' ⟨rfl, rfl⟩)
        all_goals go_wp2_with fail
        all_goals
          go_roundg (50 - (k + 1))
          case measure => omega
          case rel =>
            refine ⟨k + 1, op, by omega, rfl, by simp, by omega, hB3 _, ?_⟩
            rw [show op = _ from HOp]
            have : Asm.opOf hd ≠ k := HK
            split <;> split <;> omega
end Go.Proofs.YtllgkofibkobnaaDoor
