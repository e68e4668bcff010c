/- THE LAWS OF LAYER 3: MemGens. -/
import Derived.Test.YtlnfgdbondmglaaLiftA
import Derived.Deep.RegionWith
import Derived.Deep.RegionHeld3
namespace Go.Proofs.Ytlnfgdbondmglaa
open Go.ChangeShapes Go.WideShapes Go.ChangeAt Go.RowKit
set_option linter.unusedSimpArgs false
set_option linter.unusedVariables false

/-- Two pages; the first was changed n times. -/
structure GInv (S : MS) (n : Int) : Prop where
  th : S.th = [0, 1]
  p0 : ∃ p, S.pg 0 = some p ∧ p.perm = 3 ∧ p.gen = n
  p1 : ∃ p, S.pg 1 = some p ∧ p.perm = 3 ∧ p.gen = 1
  p2 : S.pg 2 = none
  g2 : S.gone 2 = 0
theorem GInv.start : GInv ((MS.new 8).mapS 0 512 3) 1 := by
  have e : (MS.new 8).mapE 0 512 3 = 0 := by decide +kernel
  exact ⟨by decide +kernel, ⟨_, new_pg e (by omega) (by omega), rfl, rfl⟩, ⟨_, new_pg e (by omega) (by omega), rfl, rfl⟩, by decide +kernel, by decide +kernel⟩
theorem GInv.gens {S : MS} {n : Int} (h : GInv S n) : S.gen 5 = n ∧ S.gen 256 = 1 ∧ S.gen 512 = 0 ∧ S.gen 0 = n := by
  obtain ⟨p, a1, a2, a3⟩ := h.p0
  obtain ⟨q, b1, b2, b3⟩ := h.p1
  refine ⟨?_, ?_, ?_, ?_⟩
  · unfold MS.gen; rw [show (5 : Int) / 256 = 0 by omega, a1]; exact a3
  · unfold MS.gen; rw [show (256 : Int) / 256 = 1 by omega, b1]; exact b3
  · unfold MS.gen; rw [show (512 : Int) / 256 = 2 by omega, h.p2]; exact h.g2
  · unfold MS.gen; rw [show (0 : Int) / 256 = 0 by omega, a1]; exact a3
theorem GInv.store {S : MS} {n a v : Int} (h : GInv S n) (ha : 0 ≤ a ∧ a < 256 ∧ a % 4 = 0) : S.ask a 4 2 = 0 ∧ GInv (S.store a 4 v) ((n + 1) % 4294967296) := by
  obtain ⟨p, a1, a2, a3⟩ := h.p0
  have e0 : a / 256 = 0 := by omega
  have hp : S.pg (a / 256) = some p := by rw [e0]; exact a1
  have h0 : S.ask a 4 2 = 0 := ask_pg hp (by omega) (by rw [a2]; exact b32)
  have hs : S.store a 4 v = { S with pg := upd S.pg 0 (some { p.wrt (a % 256).toNat v (4 : Int).toNat with gen := (p.gen + 1) % 4294967296 }) } := by
    unfold MS.store; rw [if_pos h0, hp, e0]
  refine ⟨h0, ?_⟩
  rw [hs]
  refine ⟨h.th, ⟨{ p.wrt (a % 256).toNat v (4 : Int).toNat with gen := (p.gen + 1) % 4294967296 }, by simp [upd], a2, by rw [a3]⟩, ?_, ?_, h.g2⟩
  · obtain ⟨q, b1, b2, b3⟩ := h.p1
    exact ⟨q, by simp [upd, b1], b2, b3⟩
  · simp [upd, h.p2]
theorem GInv.may {S : MS} {n a need : Int} {m : Nat} (h : GInv S n) (ha : 0 ≤ a ∧ a < 256) (hm : m ≤ 256) (hb : (bits .and .i64 3 need == need) = true) : May S a m need := by
  refine ⟨by omega, fun j hj => ?_⟩
  have hc : cnt a m ≤ 2 := by unfold cnt; split <;> omega
  obtain ⟨p, a1, a2, a3⟩ := h.p0
  obtain ⟨q, b1, b2, b3⟩ := h.p1
  have : j = 0 ∨ j = 1 := by omega
  rcases this with rfl | rfl
  · exact ⟨p, by rw [show a / 256 + ((0 : Nat) : Int) = 0 by omega]; exact a1, by rw [a2]; exact hb⟩
  · exact ⟨q, by rw [show a / 256 + ((1 : Nat) : Int) = 1 by omega]; exact b1, by rw [b2]; exact hb⟩
theorem GInv.put {S : MS} {n a : Int} {m : Nat} {bs : Nat → Int} (h : GInv S n) (ha : 0 ≤ a ∧ a < 32) (hm : 1 ≤ m ∧ m ≤ 200) : GInv (S.put a m bs) ((n + 1) % 4294967296) := by
  have hc : cnt a m = 1 := by unfold cnt; rw [if_neg (by omega)]; omega
  obtain ⟨p, a1, a2, a3⟩ := h.p0
  obtain ⟨q, b1, b2, b3⟩ := h.p1
  unfold MS.put MS.putJ
  rw [hc]
  refine ⟨h.th, ⟨putPg a m bs 0 p, ?_, a2, by simp only [putPg]; rw [a3]⟩, ⟨q, ?_, b2, b3⟩, ?_, h.g2⟩
  · simp only; rw [if_pos (by omega), a1]; rfl
  · simp only; rw [if_neg (by omega)]; exact b1
  · simp only; rw [if_neg (by omega)]; exact h.p2
theorem GInv.prot {S : MS} {n : Int} (h : GInv S n) : lb S.th (0 / 256 + ((1 : Nat) : Int)) = lb S.th (0 / 256) + 1 ∧ GInv (S.prot (stl S.th (0 / 256) 1) 3) ((n + 1) % 4294967296) := by
  obtain ⟨p, a1, a2, a3⟩ := h.p0
  obtain ⟨q, b1, b2, b3⟩ := h.p1
  have e : stl S.th (0 / 256) 1 = [0] := by rw [h.th]; decide
  refine ⟨by rw [h.th]; decide, ?_⟩
  rw [e]
  refine ⟨h.th, ⟨protPg 3 p, ?_, rfl, by simp only [protPg]; rw [a3]⟩, ⟨q, ?_, b2, b3⟩, ?_, h.g2⟩
  · simp [MS.prot, a1]
  · simp [MS.prot, b1]
  · simp [MS.prot, h.p2]
theorem and252 {b : Int} (h : U4 b) : ∃ A, bits .and .u32 b 252 = A ∧ 0 ≤ A ∧ A < 256 ∧ A % 4 = 0 := by
  obtain ⟨h0, h1⟩ := h
  refine ⟨_, rfl, ?_⟩
  rw [u32_and b 252 h0 h1 (by omega) (by omega)]
  have hr : b.toNat &&& (252 : Int).toNat ≤ (252 : Int).toNat := Nat.and_le_right
  have hm : (b.toNat &&& (252 : Int).toNat) % 2 ^ 2 = 0 := by
    rw [← Nat.and_two_pow_sub_one_eq_mod, Nat.and_assoc]
    have : (252 : Int).toNat &&& (2 ^ 2 - 1) = 0 := by decide
    rw [this, Nat.and_zero]
  generalize b.toNat &&& (252 : Int).toNat = z at hr hm ⊢
  have : (252 : Int).toNat = 252 := rfl
  omega
theorem and31' {b : Int} (h : U4 b) : bits .and .u32 b 31 = b % 32 := by
  obtain ⟨h0, h1⟩ := h
  rw [u32_and b 31 h0 h1 (by omega) (by omega)]
  have : b.toNat &&& (31 : Int).toNat = b.toNat % 2 ^ 5 := Nat.and_two_pow_sub_one_eq_mod _ 5
  rw [this]; omega
theorem and63 (n : Int) : bits .and .i64 n 63 = n % 64 := by
  have e : (BitVec.ofInt 64 n &&& BitVec.ofInt 64 63).toNat = (BitVec.ofInt 64 n).toNat % 2 ^ 6 := by
    rw [BitVec.toNat_and, show (BitVec.ofInt 64 63).toNat = 2 ^ 6 - 1 by decide]
    exact Nat.and_two_pow_sub_one_eq_mod _ 6
  have e2 : bits .and .i64 n 63 = IntKind.i64.wrap (((BitVec.ofInt 64 n &&& BitVec.ofInt 64 63).toNat : Nat) : Int) := rfl
  rw [e2, e, BitVec.toNat_ofInt, IntKind.wrap_i64]
  omega
theorem and255' {b : Int} (h : U4 b) : bits .and .u32 b 255 = b % 256 := by
  obtain ⟨h0, h1⟩ := h
  rw [u32_and b 255 h0 h1 (by omega) (by omega)]
  have : b.toNat &&& (255 : Int).toNat = b.toNat % 2 ^ 8 := Nat.and_two_pow_sub_one_eq_mod _ 8
  rw [this]; omega
theorem gmod (n : Int) : 0 ≤ (n + 1) % 4294967296 ∧ (n + 1) % 4294967296 < 4294967296 := by omega

set_option maxRecDepth 100000 in
set_option maxHeartbeats 4000000 in
theorem MemGens_yes (q : Option Addr) (b o n cap : Nat) (f : Nat → Act1) (hn : n ≤ 40) (w : World) (hfa : ∀ i, i < n → U4 (f i).a ∧ U4 (f i).n ∧ BArg w (f i).bv (f i).bn (f i).bs)
    (hq : 0 < n → q = some ⟨b, o, none⟩) (hbs : ∀ i, i < n → w.cell? ⟨b, o + i * 6, none⟩ = some (.int .i64 (f i).op) ∧ w.cell? ⟨b, o + i * 6 + 1, none⟩ = some (.int .u32 (f i).a) ∧ w.cell? ⟨b, o + i * 6 + 2, none⟩ = some (.int .u32 (f i).n) ∧
      w.cell? ⟨b, o + i * 6 + 3, none⟩ = some (.int .i64 (f i).p) ∧ w.cell? ⟨b, o + i * 6 + 4, none⟩ = some (.int .i64 (f i).size) ∧ w.cell? ⟨b, o + i * 6 + 5, none⟩ = some (f i).bv) :
    Calls Try.prog 7 #[.slice q n cap] w fun e w' => e = .returned (.bool true) ∧ Gr w w' := by
  have m0 : (MS.new 8).mapE 0 512 3 = 0 := by decide +kernel
  have G0 := GInv.start
  have gg := G0.gens.2.2.2
  have k3 : ¬ (40 : Int) < n := by omega
  have HFA : Hid _ := hfa
  have HQ : Hid _ := hq
  have HBS : Hid _ := hbs
  clear hfa hq hbs
  go_enter Try.func7, Try.ntmps7
  go_wp2_with fail
  refine (awake_c _).mono ?_
  rintro e w1 ⟨rfl, g1⟩
  go_wp2_with fail
  refine (New_h g1 8 (by omega)).mono ?_
  rintro e w2 ⟨mb, rfl, h0⟩
  go_wp2_with fail
  refine (Map_h h0 0 512 3 (by unfold U4; omega) (by unfold U4; omega) (by unfold maxLen; omega) (fun _ => new_ins _ _)).mono ?_
  rw [m0]
  rintro e w3 ⟨rfl, h1⟩
  go_wp2_with fail
  refine (Gen_h h1 0 (by unfold U4; omega)).mono ?_
  rw [gg]
  rintro e w4 ⟨rfl, rfl⟩
  go_wp2_with fail
  go_loopw [5, 6] (fun s5 s6 wr => ∃ (j : Nat) (S : MS) (g : Int), j ≤ n ∧ s5 = .int .u32 g ∧ s6 = .int .i64 j ∧ Has w wr mb 4096 S ∧ GInv S g ∧ U4 g) (fun _ s6 _ => n - (intOf s6).toNat)
  case atStart => exact ⟨0, _, 1, Nat.zero_le _, rfl, rfl, h1, G0, by unfold U4; omega⟩
  case round =>
    obtain ⟨j, S, g, hj, rfl, rfl, hS, hG, hg4⟩ := hrel
    by_cases hjn : j = n
    · subst hjn
      go_wp2_with fail
      go_returns
      exact ⟨rfl, hS.gr⟩
    · have hlt : (j : Int) < (n : Int) := by omega
      have hltn : j < n := by omega
      obtain rfl := HQ.out (by omega)
      obtain ⟨d0, d1, d2, d3, d4, d5⟩ := HBS.out j hltn
      obtain ⟨ha4, hn4, hB⟩ := HFA.out j hltn
      generalize f j = A at *
      obtain ⟨op, aa, nn, pp, sz, bv, bn, bs⟩ := A
      simp only at d0 d1 d2 d3 d4 d5 ha4 hn4 hB
      obtain ⟨qb, cb, rfl, hcb, hb8, hbq⟩ := hB
      have D1 : Hid _ := d1
      have D2 : Hid _ := d2
      have D4 : Hid _ := d4
      have D5 : Hid _ := d5
      have c0 := hS.gr.keep d0
      have c1 := hS.gr.keep d1
      have c2 := hS.gr.keep d2
      have c4 := hS.gr.keep d4
      have c5 := hS.gr.keep d5
      clear d0 d1 d2 d3 d4 d5 hjn
      obtain ⟨hg0, hg1⟩ := hg4
      by_cases o3 : op = 3
      · subst o3
        obtain ⟨A, hA, A0, A1, A2⟩ := and252 ha4
        obtain ⟨s0, G1⟩ := hG.store (v := nn) ⟨A0, A1, A2⟩
        obtain ⟨t1, t2, t3, _⟩ := G1.gens
        have hSd : Has w wr.drew mb 4096 S := hS.on (Gr.refl _).drew
        have hcall := Store_h hSd A 4 nn ⟨by omega, by omega⟩ hn4
        rw [s0] at hcall
        go_wp2_with fail
        go_region_with (first | (go_at_call 15; refine hcall.mono ?_; rintro e w5 ⟨rfl, hS5⟩))
        all_goals
          go_wp2_with fail
          refine (Gen_h hS5 5 (by unfold U4; omega)).mono ?_
          rw [t1]
          rintro e wa ⟨rfl, rfl⟩
          go_wp2_with fail
          refine (Gen_h hS5 256 (by unfold U4; omega)).mono ?_
          rw [t2]
          rintro e wb ⟨rfl, rfl⟩
          go_wp2_with fail
          refine (Gen_h hS5 512 (by unfold U4; omega)).mono ?_
          rw [t3]
          rintro e wc ⟨rfl, rfl⟩
          go_wp2_with fail
          go_roundw
          case rel => exact ⟨j + 1, _, _, by omega, rfl, by simp, hS5, G1, by unfold U4; omega⟩
          case measure => simp [intOf]; omega
      have q3 : (op == 3) = false := by simpa using o3
      clear o3
      by_cases o4 : op = 4
      · subst o4
        by_cases hb2 : (200 : Int) < bn
        · go_wp2_with fail
          go_returns
          exact ⟨rfl, hS.gr⟩
        have hb2' : bn ≤ 200 := by omega
        have hA := and31' ha4
        have hA1 : 0 ≤ aa % 32 := by omega
        have hA2 : aa % 32 < 32 := by omega
        generalize aa % 32 = A at *
        have hSd : Has w wr.drew mb 4096 S := hS.on (Gr.refl _).drew
        by_cases hb0 : bn = 0
        · subst hb0
          obtain ⟨t1, t2, t3, _⟩ := hG.gens
          have hcall := Write_h0 hSd A ⟨by omega, by omega⟩ qb cb
          go_wp2_with fail
          go_region_held3 (fun wx => wx.cell? ⟨b, o + j * 6 + 1, none⟩ = some (.int .u32 aa) ∧ wx.cell? ⟨b, o + j * 6 + 5, none⟩ = some (.slice qb 0 cb)) (first | exact ⟨hS5.gr.keep D1.out, hS5.gr.keep D5.out⟩ | exact ⟨c1, c5⟩)
            (first | (go_at_call 27; refine hcall.mono ?_; rintro e w5 ⟨rfl, hS5⟩))
          all_goals
            go_wp2_with fail
            refine (Gen_h hS5 5 (by unfold U4; omega)).mono ?_
            rw [t1]
            rintro e wa ⟨rfl, rfl⟩
            go_wp2_with fail
            refine (Gen_h hS5 256 (by unfold U4; omega)).mono ?_
            rw [t2]
            rintro e wb ⟨rfl, rfl⟩
            go_wp2_with fail
            refine (Gen_h hS5 512 (by unfold U4; omega)).mono ?_
            rw [t3]
            rintro e wc ⟨rfl, rfl⟩
            go_wp2_with fail
            go_roundw
            case rel => exact ⟨j + 1, _, _, by omega, rfl, by simp, hS5, hG, by unfold U4; omega⟩
            case measure => simp [intOf]; omega
        · obtain ⟨b2, o2, rfl, hbw, hbcell⟩ := hbq (by omega)
          have G1 := hG.put (a := A) (m := bn) (bs := bs) ⟨hA1, hA2⟩ ⟨by omega, hb2'⟩
          obtain ⟨t1, t2, t3, _⟩ := G1.gens
          have hcall := Write_hy (w1 := wr.drew) hSd (Gr.refl _) A bn ⟨by omega, by omega⟩ (by omega) (by omega) (hG.may ⟨hA1, by omega⟩ (by omega) b32) b2 o2 cb bs hcb (fun i hi => hSd.gr.keep (hbcell i hi)) hb8 (.inl hbw)
          have hbp : (0 : Int) < bn := by omega
          clear hbcell hbq hb0
          go_wp2_with fail
          go_region_held3 (fun wx => wx.cell? ⟨b, o + j * 6 + 1, none⟩ = some (.int .u32 aa) ∧ wx.cell? ⟨b, o + j * 6 + 5, none⟩ = some (.slice (some ⟨b2, o2, none⟩) bn cb)) (first | exact ⟨hS5.gr.keep D1.out, hS5.gr.keep D5.out⟩ | exact ⟨c1, c5⟩)
            (first | (go_at_call 27; refine hcall.mono ?_; rintro e w5 ⟨rfl, hS5⟩))
          all_goals
            go_wp2_with fail
            refine (Gen_h hS5 5 (by unfold U4; omega)).mono ?_
            rw [t1]
            rintro e wa ⟨rfl, rfl⟩
            go_wp2_with fail
            refine (Gen_h hS5 256 (by unfold U4; omega)).mono ?_
            rw [t2]
            rintro e wb ⟨rfl, rfl⟩
            go_wp2_with fail
            refine (Gen_h hS5 512 (by unfold U4; omega)).mono ?_
            rw [t3]
            rintro e wc ⟨rfl, rfl⟩
            go_wp2_with fail
            go_roundw
            case rel => exact ⟨j + 1, _, _, by omega, rfl, by simp, hS5, G1, by unfold U4; omega⟩
            case measure => simp [intOf]; omega
      have q4 : (op == 4) = false := by simpa using o4
      clear o4
      by_cases o6 : op = 6
      · subst o6
        have hA := and255' ha4
        have hA1 : 0 ≤ aa % 256 := by omega
        have hA2 : aa % 256 < 256 := by omega
        obtain ⟨t1, t2, t3, _⟩ := hG.gens
        generalize aa % 256 = A at *
        go_wp2_with fail
        refine (Load_h hS A 1 1 ⟨by omega, by omega⟩).mono ?_
        rintro e w5 ⟨rfl, rfl⟩
        go_wp2_with fail
        refine (Gen_h hS 5 (by unfold U4; omega)).mono ?_
        rw [t1]
        rintro e wa ⟨rfl, rfl⟩
        go_wp2_with fail
        refine (Gen_h hS 256 (by unfold U4; omega)).mono ?_
        rw [t2]
        rintro e wb ⟨rfl, rfl⟩
        go_wp2_with fail
        refine (Gen_h hS 512 (by unfold U4; omega)).mono ?_
        rw [t3]
        rintro e wc ⟨rfl, rfl⟩
        go_wp2_with fail
        go_roundw
        case rel => exact ⟨j + 1, _, _, by omega, rfl, by simp, hS, hG, by unfold U4; omega⟩
        case measure => simp [intOf]; omega
      have q6 : (op == 6) = false := by simpa using o6
      clear o6
      by_cases o7 : op = 7
      · subst o7
        have hA := and255' ha4
        have hA1 : 0 ≤ aa % 256 := by omega
        have hA2 : aa % 256 < 256 := by omega
        have hZ := and63 sz
        obtain ⟨z, hz⟩ : ∃ z : Nat, sz % 64 = z := ⟨(sz % 64).toNat, by omega⟩
        have hz2 : z ≤ 63 := by omega
        rw [hz] at hZ
        obtain ⟨t1, t2, t3, _⟩ := hG.gens
        generalize aa % 256 = A at *
        clear hz
        have hSd : Has w wr.drew mb 4096 S := hS.on (Gr.refl _).drew
        have hcall := Read_hy hSd A z ⟨by omega, by omega⟩ (by omega) (hG.may ⟨hA1, hA2⟩ (by omega) b31)
        go_wp2_with fail
        go_region_with (first | (go_at_call 16; refine hcall.mono ?_; rintro e w5 ⟨vv, rfl, _, hS5, _, _⟩))
        all_goals
          go_wp2_with fail
          refine (Gen_h hS5 5 (by unfold U4; omega)).mono ?_
          rw [t1]
          rintro e wa ⟨rfl, rfl⟩
          go_wp2_with fail
          refine (Gen_h hS5 256 (by unfold U4; omega)).mono ?_
          rw [t2]
          rintro e wb ⟨rfl, rfl⟩
          go_wp2_with fail
          refine (Gen_h hS5 512 (by unfold U4; omega)).mono ?_
          rw [t3]
          rintro e wc ⟨rfl, rfl⟩
          go_wp2_with fail
          go_roundw
          case rel => exact ⟨j + 1, _, _, by omega, rfl, by simp, hS5, hG, by unfold U4; omega⟩
          case measure => simp [intOf]; omega
      have q7 : (op == 7) = false := by simpa using o7
      clear o7
      obtain ⟨pe, G1⟩ := hG.prot
      obtain ⟨t1, t2, t3, _⟩ := G1.gens
      go_wp2_with fail
      refine (Protect_h0 hS 0 256 3 (by unfold U4; omega) (by unfold U4; omega) (by unfold StOk; omega) (by omega) 1 (by omega) pe).mono ?_
      rintro e w5 ⟨rfl, hS5⟩
      go_wp2_with fail
      refine (Gen_h hS5 5 (by unfold U4; omega)).mono ?_
      rw [t1]
      rintro e wa ⟨rfl, rfl⟩
      go_wp2_with fail
      refine (Gen_h hS5 256 (by unfold U4; omega)).mono ?_
      rw [t2]
      rintro e wb ⟨rfl, rfl⟩
      go_wp2_with fail
      refine (Gen_h hS5 512 (by unfold U4; omega)).mono ?_
      rw [t3]
      rintro e wc ⟨rfl, rfl⟩
      go_wp2_with fail
      go_roundw
      case rel => exact ⟨j + 1, _, _, by omega, rfl, by simp, hS5, G1, by unfold U4; omega⟩
      case measure => simp [intOf]; omega

set_option maxRecDepth 100000 in
theorem MemGens_no (q : Option Addr) (n cap : Nat) (hno : 40 < n) (w : World) : Calls Try.prog 7 #[.slice q n cap] w fun e w' => e = .returned (.bool true) ∧ Gr w w' := by
  have h1 : (40 : Int) < n := by omega
  go_enter Try.func7, Try.ntmps7
  go_wp2_with fail
  refine (awake_c _).mono ?_
  rintro e w1 ⟨rfl, g1⟩
  go_wp2_with fail
  go_returns
  exact ⟨rfl, g1⟩
theorem MemGens_w {v : Value} {n : Nat} {f : Nat → Act1} {w : World} (hB : AArg w v n f) : Calls Try.prog 7 #[v] w fun e w' => e = .returned (.bool true) ∧ Gr w w' := by
  obtain ⟨q, cap, rfl, hcap, hfa, hq⟩ := hB
  by_cases h : n ≤ 40
  · by_cases hn0 : 0 < n
    · obtain ⟨b, o, rfl, hbw, hbs⟩ := hq hn0
      exact MemGens_yes _ b o n cap f h w hfa (fun _ => rfl) hbs
    · exact MemGens_yes _ 0 0 n cap f h w hfa (fun x => absurd x hn0) (fun i hi => by omega)
  · exact MemGens_no q n cap (by omega) w
end Go.Proofs.Ytlnfgdbondmglaa
