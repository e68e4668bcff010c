/- LAYER 6's walks: digitsOf. -/
import Derived.Test.YthkampohgbddnaaDoorAsmW1
import Derived.Lib.ConvBytes
namespace Go.Proofs.YthkampohgbddnaaDoor
open Go.ChangeShapes Go.WideShapes Go.ChangeAt Go.RowKit

theorem Asm.ret_ib {a b : Int} {c d : Bool} (h : a = b) (h2 : c = d) : Ending.returned (.tuple #[.int .i64 a, .bool c]) = .returned (.tuple #[.int .i64 b, .bool d]) := by rw [h, h2]
theorem bw_bytes (w : World) (e : TypeId) (s : ByteArray) : Bw w (Lib.bytesWorld w e s) :=
  ⟨rfl, rfl, rfl, by rw [Lib.bytesWorld_size]; omega, fun k hk => Lib.bytesWorld_at_old w e s k hk⟩
theorem Asm.all_take {l : List UInt8} {i : Nat} {b : UInt8} (h : l[i]? = some b) : l.take (i + 1) = l.take i ++ [b] := by
  rw [List.take_add_one, h]; rfl
theorem Asm.not_all {l : List UInt8} {i : Nat} {b : UInt8} (h : l[i]? = some b) (hb : Asm.isD b = false) : Asm.digOk l = false := by
  have : l.all Asm.isD = false := by
    rw [List.all_eq_false]
    exact ⟨b, List.mem_of_getElem? h, by simp [hb]⟩
  simp [Asm.digOk, this]
set_option maxRecDepth 100000 in
theorem digitsOf_c (l : List UInt8) (w : World) (hl : l.length < 4294967281) :
    Calls Tryd.prog 78 #[.string (bs l)] w fun e w' => e = .returned (.tuple #[.int .i64 (Asm.dig l), .bool (Asm.digOk l)]) ∧ Bw w w' := by
  by_cases h0 : l = []
  · subst h0
    go_enter Tryd.func78, Tryd.ntmps78
    go_wp2
    go_returns
    exact ⟨rfl, Bw.refl _⟩
  have he : l.isEmpty = false := by simpa using h0
  by_cases h1 : 10 < l.length
  · have hk : Asm.digOk l = false := by simp [Asm.digOk]; omega
    have hd : Asm.dig l = 0 := by simp [Asm.dig, hk]
    rw [hk, hd]
    go_enter Tryd.func78, Tryd.ntmps78
    go_wp2
    go_returns
    exact ⟨rfl, Bw.refl _⟩
  have hz1 : 0 < l.length := by cases l with | nil => exact absurd rfl h0 | cons b t => simp
  have hz : (0 : Int) < (l.length : Int) := by omega
  have h10 : (l.length : Int) ≤ 10 := by omega
  obtain ⟨b, hb⟩ : ∃ b, l[0]? = some b := ⟨l[0], by simp⟩
  have hg := bs_get l 0 b hb
  by_cases h2 : b = 48 ∧ l ≠ [48]
  · have hd48 : l.head? = some 48 := by rw [List.head?_eq_getElem?, hb, h2.1]
    have hk : Asm.digOk l = false := by simp [Asm.digOk, hd48, h2.2]
    have hd : Asm.dig l = 0 := by simp [Asm.dig, hk]
    rw [hk, hd]
    obtain ⟨rfl, h3⟩ := h2
    have hn : (l == [48]) = false := by simpa using h3
    clear h1 hb hd48 hk hd
    go_enter Tryd.func78, Tryd.ntmps78
    go_wp2
    go_returns
    exact ⟨rfl, Bw.refl _⟩
  · have hcv := Lib.run_convert_string_bytes (P := Tryd.prog) w 9 30 5 (bs l) Tryd.underlying9 Tryd.underlying30 Tryd.underlying5
    have hcell := fun j (hj : j < l.length) => Lib.bytesWorld_cell w 5 (bs l) j (by rw [bs_size]; exact hj)
    rw [bs_data] at hcell
    have hbw := bw_bytes w 5 (bs l)
    generalize Lib.bytesWorld w 5 (bs l) = w1 at *
    generalize grownCap w (bs l).size 0 5 = cap at *
    have hok : Asm.digOk l = l.all Asm.isD := by
      have e1 : (l.head? != some 48 || l == [48]) = true := by
        rw [List.head?_eq_getElem?, hb]
        by_cases e : b = 48
        · have : l = [48] := Classical.byContradiction fun hn => h2 ⟨e, hn⟩
          simp [this]
        · simp [e]
      simp [Asm.digOk, e1]; omega
    have h3 : ((b.toNat : Int) == 48) = false ∨ (((b.toNat : Int) == 48) = true ∧ (l == [48]) = true) := by
      by_cases e : b = 48
      · have : l = [48] := Classical.byContradiction fun hn => h2 ⟨e, hn⟩
        right; simp [this, e]
      · left
        simp only [beq_eq_false_iff_ne]
        intro he
        apply e
        apply UInt8.toNat_inj.1
        have : (48 : UInt8).toNat = 48 := rfl
        omega
    have HO : Hid _ := hok
    clear hok h2 h1 hb
    rcases h3 with h3 | ⟨h3, h4⟩
    all_goals
      go_enter Tryd.func78, Tryd.ntmps78
      go_wp2
      go_loopw [4, 26] (fun a i wr => wr = w1 ∧ ∃ j : Nat, i = .int .i64 j ∧ j ≤ l.length ∧ a = .int .i64 (Asm.valA 0 (l.take j)) ∧ (l.take j).all Asm.isD = true) (fun _ i _ => l.length - (intOf i).toNat)
      case atStart => exact ⟨rfl, 0, rfl, by omega, rfl, rfl⟩
      case round =>
        obtain ⟨rfl, j, rfl, hj, rfl, hall⟩ := hrel
        have HA : Hid _ := hall
        clear hall
        by_cases hje : j = l.length
        · subst hje
          rw [List.take_length] at HA ⊢
          have hend : ¬ ((l.length : Int) < (l.length : Int)) := by omega
          go_wp2
          go_returns
          refine ⟨Asm.ret_ib ?_ ?_, hbw⟩
          · rw [Asm.dig, HO.out, HA.out, if_pos rfl]; rfl
          · rw [HO.out, HA.out]
        · have hjl : j < l.length := by omega
          have hji : (j : Int) < (l.length : Int) := by omega
          obtain ⟨x, hx⟩ : ∃ x, l[j]? = some x := ⟨l[j], by simp⟩
          have hc := hcell j hjl
          have hx2 : l.getD j 0 = x := by rw [List.getD_eq_getElem?_getD, hx]; rfl
          rw [hx2] at hc
          have HX : Hid _ := hx
          obtain ⟨vb1, vb2⟩ := Asm.val_bd10 HA.out (by rw [List.length_take]; omega)
          have HV : Hid _ := Asm.valA_snoc 0 (l.take j) x
          have HL : Hid _ := Asm.all_take HX.out
          generalize hV : Asm.valA 0 (l.take j) = V at *
          have HVV : Hid _ := hV
          clear hx hx2 hV hcell hcv
          have xb : x.toNat < 256 := x.toNat_lt
          by_cases hd : Asm.isD x = true
          · have HD : Hid _ := hd
            have hd2 := Asm.isD_bd hd
            have d0 : (48 : Int) ≤ x.toNat := by omega
            have d1 : (x.toNat : Int) ≤ 57 := by omega
            clear hd hd2
            go_wp2
            refine ⟨⟨trivial, j + 1, by simp, by omega, ?_, ?_⟩, by simp [intOf]; omega⟩
            · rw [HL.out, HV.out]
            · rw [HL.out, List.all_append, HA.out]; simp [HD.out]
          · have hd2 : Asm.isD x = false := by simpa using hd
            have hk := Asm.not_all HX.out hd2
            have hdig : Asm.dig l = 0 := by simp [Asm.dig, hk]
            have HK : Hid _ := hk
            have HDG : Hid _ := hdig
            have hx3 : (x.toNat : Int) < 48 ∨ ((48 : Int) ≤ x.toNat ∧ (57 : Int) < x.toNat) := by
              simp [Asm.isD] at hd2; omega
            clear hk hdig hd hd2
            rcases hx3 with hx3 | ⟨hx3, hx4⟩
            · go_wp2
              go_returns
              exact ⟨Asm.ret_ib HDG.out.symm HK.out.symm, hbw⟩
            · go_wp2
              go_returns
              exact ⟨Asm.ret_ib HDG.out.symm HK.out.symm, hbw⟩
end Go.Proofs.YthkampohgbddnaaDoor
