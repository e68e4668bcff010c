/- LAYER 5's walks: the tables, a word's Op. -/
import Derived.Test.YthkampohgbddnaaDoorRvW1
namespace Go.Proofs.YthkampohgbddnaaDoor
open Go.ChangeShapes Go.WideShapes Go.ChangeAt Go.RowKit

/-- Package rv's tables hold what their text says. -/
structure Tabs (w : World) : Prop where
  wo : ∀ i : Nat, i < 50 → w.cell? ⟨0, i, none⟩ = some (.int .u32 ((Rv.woT.getD i 0 : Nat) : Int))
  br : ∀ i : Nat, i < 8 → w.cell? ⟨2, i, none⟩ = some (.int .i64 ((Rv.brT.getD i 0 : Nat) : Int))
  ld : ∀ i : Nat, i < 8 → w.cell? ⟨3, i, none⟩ = some (.int .i64 ((Rv.ldT.getD i 0 : Nat) : Int))
  st : ∀ i : Nat, i < 8 → w.cell? ⟨4, i, none⟩ = some (.int .i64 ((Rv.stT.getD i 0 : Nat) : Int))
  im : ∀ i : Nat, i < 8 → w.cell? ⟨6, i, none⟩ = some (.int .i64 ((Rv.imT.getD i 0 : Nat) : Int))
  rg : ∀ i : Nat, i < 8 → w.cell? ⟨7, i, none⟩ = some (.int .i64 ((Rv.rgT.getD i 0 : Nat) : Int))

theorem Tabs.gr {w w' : World} (h : Tabs w) (g : Gr w w') : Tabs w' :=
  ⟨fun i hi => g.keep (h.wo i hi), fun i hi => g.keep (h.br i hi), fun i hi => g.keep (h.ld i hi), fun i hi => g.keep (h.st i hi), fun i hi => g.keep (h.im i hi), fun i hi => g.keep (h.rg i hi)⟩

theorem Rv.imN_1 {f3 f7 : Nat} (h : f3 = 1) : Rv.imN f3 f7 = if f7 = 0 then 25 else 0 := by simp [Rv.imN, h]
theorem immediateOp_c (f3 f7 : Int) (a0 : 0 ≤ f3) (a1 : f3 < 8) (b0 : 0 ≤ f7) (w : World) (ht : Tabs w) :
    Calls Tryd.prog 81 #[.int .u32 f3, .int .u32 f7] w fun e w' => e = .returned (.int .i64 ((Rv.imN f3.toNat f7.toNat : Nat) : Int)) ∧ w' = w := by
  by_cases h1 : f3 = 1
  · subst h1
    by_cases h7 : f7 = 0
    · subst h7
      go_enter Tryd.func81, Tryd.ntmps81
      go_wp2_with (go_at_call 80; refine (onlyIf_c _ _ _).mono ?_; rintro e w' ⟨rfl, rfl⟩)
      go_ret
      exact ⟨rfl, rfl⟩
    · have e7 := Rv.beqF h7
      go_enter Tryd.func81, Tryd.ntmps81
      go_wp2_with (go_at_call 80; refine (onlyIf_c _ _ _).mono ?_; rintro e w' ⟨rfl, rfl⟩)
      go_ret
      exact ⟨Rv.ret_int (by rw [Rv.imN_1 (by decide), if_neg (by omega)]; rfl), rfl⟩
  by_cases h5 : f3 = 5
  · subst h5
    by_cases h7 : f7 = 32
    · subst h7
      go_enter Tryd.func81, Tryd.ntmps81
      go_wp2
      go_ret
      exact ⟨rfl, rfl⟩
    · have e7 := Rv.beqF h7
      by_cases h0 : f7 = 0
      · subst h0
        go_enter Tryd.func81, Tryd.ntmps81
        go_wp2_with (go_at_call 80; refine (onlyIf_c _ _ _).mono ?_; rintro e w' ⟨rfl, rfl⟩)
        go_ret
        exact ⟨rfl, rfl⟩
      · have e0 := Rv.beqF h0
        go_enter Tryd.func81, Tryd.ntmps81
        go_wp2_with (go_at_call 80; refine (onlyIf_c _ _ _).mono ?_; rintro e w' ⟨rfl, rfl⟩)
        go_ret
        exact ⟨Rv.ret_int (by unfold Rv.imN; rw [if_neg (by decide), if_pos (by decide), if_neg (by omega), if_neg (by omega)]; rfl), rfl⟩
  have e1 := Rv.beqF h1
  have e5 := Rv.beqF h5
  have hc := ht.im f3.toNat (by omega)
  have hv : Rv.imN f3.toNat f7.toNat = Rv.imT.getD f3.toNat 0 := by unfold Rv.imN; rw [if_neg (by omega), if_neg (by omega)]
  rw [hv]; clear hv ht
  generalize Rv.imT.getD f3.toNat 0 = x at hc
  go_enter Tryd.func81, Tryd.ntmps81
  go_wp2
  go_ret
  exact ⟨rfl, rfl⟩

theorem registerOp_c (f3 f7 : Int) (a0 : 0 ≤ f3) (a1 : f3 < 8) (b0 : 0 ≤ f7) (w : World) (ht : Tabs w) :
    Calls Tryd.prog 82 #[.int .u32 f3, .int .u32 f7] w fun e w' => e = .returned (.int .i64 ((Rv.rgN f3.toNat f7.toNat : Nat) : Int)) ∧ w' = w := by
  by_cases h0 : f7 = 0
  · subst h0
    have hc := ht.rg f3.toNat (by omega)
    have hv : Rv.rgN f3.toNat (0 : Int).toNat = Rv.rgT.getD f3.toNat 0 := rfl
    rw [hv]; clear hv ht
    generalize Rv.rgT.getD f3.toNat 0 = x at hc
    go_enter Tryd.func82, Tryd.ntmps82
    go_wp2
    go_ret
    exact ⟨rfl, rfl⟩
  have e0 := Rv.beqF h0
  by_cases h1 : f7 = 1
  · subst h1
    go_enter Tryd.func82, Tryd.ntmps82
    go_wp2
    go_ret
    refine ⟨Rv.ret_int ?_, rfl⟩
    have : Rv.rgN f3.toNat (1 : Int).toNat = 38 + f3.toNat := rfl
    rw [this]; omega
  have e1 := Rv.beqF h1
  by_cases h32 : f7 = 32
  · subst h32
    by_cases g0 : f3 = 0
    · subst g0
      go_enter Tryd.func82, Tryd.ntmps82
      go_wp2
      go_ret
      exact ⟨rfl, rfl⟩
    have k0 := Rv.beqF g0
    by_cases g5 : f3 = 5
    · subst g5
      go_enter Tryd.func82, Tryd.ntmps82
      go_wp2
      go_ret
      exact ⟨rfl, rfl⟩
    have k5 := Rv.beqF g5
    go_enter Tryd.func82, Tryd.ntmps82
    go_wp2
    go_ret
    refine ⟨Rv.ret_int ?_, rfl⟩
    unfold Rv.rgN; rw [if_neg (by decide), if_neg (by decide), if_pos (by decide), if_neg (by omega), if_neg (by omega)]; rfl
  have e32 := Rv.beqF h32
  go_enter Tryd.func82, Tryd.ntmps82
  go_wp2
  go_ret
  refine ⟨Rv.ret_int ?_, rfl⟩
  unfold Rv.rgN; rw [if_neg (by omega), if_neg (by omega), if_neg (by omega)]; rfl

theorem fenceOp_c (f3 : Int) (a0 : 0 ≤ f3) (w : World) :
    Calls Tryd.prog 83 #[.int .u32 f3] w fun e w' => e = .returned (.int .i64 ((Rv.feN f3.toNat : Nat) : Int)) ∧ w' = w := by
  by_cases h0 : f3 = 0
  · subst h0
    go_enter Tryd.func83, Tryd.ntmps83
    go_wp2
    go_ret
    exact ⟨rfl, rfl⟩
  have e0 := Rv.beqF h0
  by_cases h1 : f3 = 1
  · subst h1
    go_enter Tryd.func83, Tryd.ntmps83
    go_wp2
    go_ret
    exact ⟨rfl, rfl⟩
  have e1 := Rv.beqF h1
  go_enter Tryd.func83, Tryd.ntmps83
  go_wp2
  go_ret
  refine ⟨Rv.ret_int ?_, rfl⟩
  unfold Rv.feN; rw [if_neg (by omega), if_neg (by omega)]; rfl

def Rv.sysI (v : Int) : Int := if v = 115 then 48 else if v = 1048691 then 49 else 0
theorem systemOp_c (v : Int) (w : World) :
    Calls Tryd.prog 84 #[.int .u32 v] w fun e w' => e = .returned (.int .i64 (Rv.sysI v)) ∧ w' = w := by
  unfold Rv.sysI
  by_cases h0 : v = 115
  · subst h0
    go_enter Tryd.func84, Tryd.ntmps84
    go_wp2
    go_ret
    exact ⟨rfl, rfl⟩
  have e0 := Rv.beqF h0
  rw [if_neg h0]
  by_cases h1 : v = 1048691
  · subst h1
    go_enter Tryd.func84, Tryd.ntmps84
    go_wp2
    go_ret
    exact ⟨rfl, rfl⟩
  have e1 := Rv.beqF h1
  rw [if_neg h1]
  go_enter Tryd.func84, Tryd.ntmps84
  go_wp2
  go_ret
  exact ⟨rfl, rfl⟩

/-- The Op by the opcode, as the code asks it. -/
theorem Rv.opI_o {v : Int} (hv : Alu.U32 v) (h : v % 128 ≠ 115) : Rv.opI v = ((Rv.opN (v % 128).toNat (v / 4096 % 8).toNat (v / 33554432 % 128).toNat : Nat) : Int) := by
  obtain ⟨h0, h1⟩ := hv
  have a : v ≠ 115 := by intro e; subst e; exact h (by decide)
  have b : v ≠ 1048691 := by intro e; subst e; exact h (by decide)
  unfold Rv.opI; rw [if_neg a, if_neg b]
  have : v / 33554432 % 128 = v / 33554432 := by omega
  rw [this]
theorem Rv.opI_115 {v : Int} (h : v % 128 = 115) : Rv.opI v = Rv.sysI v := by
  unfold Rv.opI Rv.sysI; rw [h]; rfl

set_option maxHeartbeats 1600000 in
theorem opOf_c (v : Int) (h0 : 0 ≤ v) (h1 : v < 4294967296) (w : World) (ht : Tabs w) :
    Calls Tryd.prog 60 #[.int .u32 v] w fun e w' => e = .returned (.int .i64 (Rv.opI v)) ∧ w' = w := by
  have hb3 : 0 ≤ Rv.fb v 12 3 ∧ Rv.fb v 12 3 < 8 := by rw [Rv.fb_12_3]; omega
  have hb7 : 0 ≤ Rv.fb v 25 7 ∧ Rv.fb v 25 7 < 128 := by rw [Rv.fb_25_7]; omega
  by_cases h115 : v % 128 = 115
  · rw [Rv.opI_115 h115]
    have ho : Rv.fb v 0 7 = 115 := by rw [Rv.fb_0_7]; exact h115
    clear ht h115
    go_enter Tryd.func60, Tryd.ntmps60
    go_wp2_with (first | (go_at_call 58; refine (bits_c v _ _ h0 h1 (by decide) _).mono ?_; rintro e w' ⟨rfl, rfl⟩; try rw [ho]) | (go_at_call 84; refine (systemOp_c v _).mono ?_; rintro e w' ⟨rfl, rfl⟩))
    go_ret
    exact ⟨rfl, rfl⟩
  rw [Rv.opI_o ⟨h0, h1⟩ h115, ← Rv.fb_12_3, ← Rv.fb_25_7, ← Rv.fb_0_7]
  rw [← Rv.fb_0_7] at h115
  have e115 := Rv.beqF h115
  by_cases c55 : Rv.fb v 0 7 = 55
  · have ho := c55
    rw [ho]
    clear ht
    rw [show Rv.opN (55 : Int).toNat (Rv.fb v 12 3).toNat (Rv.fb v 25 7).toNat = 1 from rfl]
    go_enter Tryd.func60, Tryd.ntmps60
    go_wp2_with (go_at_call 58; refine (bits_c v _ _ h0 h1 (by decide) _).mono ?_; rintro e w' ⟨rfl, rfl⟩; try rw [ho])
    go_ret
    exact ⟨rfl, rfl⟩
  have e55 := Rv.beqF c55
  by_cases c23 : Rv.fb v 0 7 = 23
  · have ho := c23
    rw [ho]
    clear ht
    rw [show Rv.opN (23 : Int).toNat (Rv.fb v 12 3).toNat (Rv.fb v 25 7).toNat = 2 from rfl]
    go_enter Tryd.func60, Tryd.ntmps60
    go_wp2_with (go_at_call 58; refine (bits_c v _ _ h0 h1 (by decide) _).mono ?_; rintro e w' ⟨rfl, rfl⟩; try rw [ho])
    go_ret
    exact ⟨rfl, rfl⟩
  have e23 := Rv.beqF c23
  by_cases c111 : Rv.fb v 0 7 = 111
  · have ho := c111
    rw [ho]
    clear ht
    rw [show Rv.opN (111 : Int).toNat (Rv.fb v 12 3).toNat (Rv.fb v 25 7).toNat = 3 from rfl]
    go_enter Tryd.func60, Tryd.ntmps60
    go_wp2_with (go_at_call 58; refine (bits_c v _ _ h0 h1 (by decide) _).mono ?_; rintro e w' ⟨rfl, rfl⟩; try rw [ho])
    go_ret
    exact ⟨rfl, rfl⟩
  have e111 := Rv.beqF c111
  by_cases c103 : Rv.fb v 0 7 = 103
  · have ho := c103
    rw [ho]
    clear ht
    rw [show Rv.opN (103 : Int).toNat (Rv.fb v 12 3).toNat (Rv.fb v 25 7).toNat = if (Rv.fb v 12 3).toNat = 0 then 4 else 0 from rfl]
    by_cases z : Rv.fb v 12 3 = 0
    · rw [z]
      go_enter Tryd.func60, Tryd.ntmps60
      go_wp2_with (first | (go_at_call 58; refine (bits_c v _ _ h0 h1 (by decide) _).mono ?_; rintro e w' ⟨rfl, rfl⟩; (try rw [ho]); try rw [z]) | (go_at_call 80; refine (onlyIf_c _ _ _).mono ?_; rintro e w' ⟨rfl, rfl⟩))
      go_ret
      exact ⟨rfl, rfl⟩
    · have ez := Rv.beqF z
      rw [if_neg (show ¬ (Rv.fb v 12 3).toNat = 0 by omega)]
      go_enter Tryd.func60, Tryd.ntmps60
      go_wp2_with (first | (go_at_call 58; refine (bits_c v _ _ h0 h1 (by decide) _).mono ?_; rintro e w' ⟨rfl, rfl⟩; (try rw [ho])) | (go_at_call 80; refine (onlyIf_c _ _ _).mono ?_; rintro e w' ⟨rfl, rfl⟩))
      go_ret
      exact ⟨rfl, rfl⟩
  have e103 := Rv.beqF c103
  by_cases c99 : Rv.fb v 0 7 = 99
  · have ho := c99
    rw [ho]
    rw [show Rv.opN (99 : Int).toNat (Rv.fb v 12 3).toNat (Rv.fb v 25 7).toNat = Rv.brT.getD (Rv.fb v 12 3).toNat 0 from rfl]
    have hc := ht.br (Rv.fb v 12 3).toNat (by omega)
    clear ht
    generalize Rv.brT.getD (Rv.fb v 12 3).toNat 0 = x at hc
    obtain ⟨b30, b31⟩ := hb3
    go_enter Tryd.func60, Tryd.ntmps60
    go_wp2_with (go_at_call 58; refine (bits_c v _ _ h0 h1 (by decide) _).mono ?_; rintro e w' ⟨rfl, rfl⟩; try rw [ho])
    go_ret
    exact ⟨rfl, rfl⟩
  have e99 := Rv.beqF c99
  by_cases c3 : Rv.fb v 0 7 = 3
  · have ho := c3
    rw [ho]
    rw [show Rv.opN (3 : Int).toNat (Rv.fb v 12 3).toNat (Rv.fb v 25 7).toNat = Rv.ldT.getD (Rv.fb v 12 3).toNat 0 from rfl]
    have hc := ht.ld (Rv.fb v 12 3).toNat (by omega)
    clear ht
    generalize Rv.ldT.getD (Rv.fb v 12 3).toNat 0 = x at hc
    obtain ⟨b30, b31⟩ := hb3
    go_enter Tryd.func60, Tryd.ntmps60
    go_wp2_with (go_at_call 58; refine (bits_c v _ _ h0 h1 (by decide) _).mono ?_; rintro e w' ⟨rfl, rfl⟩; try rw [ho])
    go_ret
    exact ⟨rfl, rfl⟩
  have e3 := Rv.beqF c3
  by_cases c35 : Rv.fb v 0 7 = 35
  · have ho := c35
    rw [ho]
    rw [show Rv.opN (35 : Int).toNat (Rv.fb v 12 3).toNat (Rv.fb v 25 7).toNat = Rv.stT.getD (Rv.fb v 12 3).toNat 0 from rfl]
    have hc := ht.st (Rv.fb v 12 3).toNat (by omega)
    clear ht
    generalize Rv.stT.getD (Rv.fb v 12 3).toNat 0 = x at hc
    obtain ⟨b30, b31⟩ := hb3
    go_enter Tryd.func60, Tryd.ntmps60
    go_wp2_with (go_at_call 58; refine (bits_c v _ _ h0 h1 (by decide) _).mono ?_; rintro e w' ⟨rfl, rfl⟩; try rw [ho])
    go_ret
    exact ⟨rfl, rfl⟩
  have e35 := Rv.beqF c35
  by_cases c19 : Rv.fb v 0 7 = 19
  · have ho := c19
    rw [ho]
    rw [show Rv.opN (19 : Int).toNat (Rv.fb v 12 3).toNat (Rv.fb v 25 7).toNat = Rv.imN (Rv.fb v 12 3).toNat (Rv.fb v 25 7).toNat from rfl]
    go_enter Tryd.func60, Tryd.ntmps60
    go_wp2_with (first | (go_at_call 58; refine (bits_c v _ _ h0 h1 (by decide) _).mono ?_; rintro e w' ⟨rfl, rfl⟩; try rw [ho]) | (go_at_call 81; refine (immediateOp_c _ _ hb3.1 hb3.2 hb7.1 _ ht).mono ?_; rintro e w' ⟨rfl, rfl⟩))
    go_ret
    exact ⟨rfl, rfl⟩
  have e19 := Rv.beqF c19
  by_cases c51 : Rv.fb v 0 7 = 51
  · have ho := c51
    rw [ho]
    rw [show Rv.opN (51 : Int).toNat (Rv.fb v 12 3).toNat (Rv.fb v 25 7).toNat = Rv.rgN (Rv.fb v 12 3).toNat (Rv.fb v 25 7).toNat from rfl]
    go_enter Tryd.func60, Tryd.ntmps60
    go_wp2_with (first | (go_at_call 58; refine (bits_c v _ _ h0 h1 (by decide) _).mono ?_; rintro e w' ⟨rfl, rfl⟩; try rw [ho]) | (go_at_call 82; refine (registerOp_c _ _ hb3.1 hb3.2 hb7.1 _ ht).mono ?_; rintro e w' ⟨rfl, rfl⟩))
    go_ret
    exact ⟨rfl, rfl⟩
  have e51 := Rv.beqF c51
  by_cases c15 : Rv.fb v 0 7 = 15
  · have ho := c15
    rw [ho]
    clear ht
    rw [show Rv.opN (15 : Int).toNat (Rv.fb v 12 3).toNat (Rv.fb v 25 7).toNat = Rv.feN (Rv.fb v 12 3).toNat from rfl]
    go_enter Tryd.func60, Tryd.ntmps60
    go_wp2_with (first | (go_at_call 58; refine (bits_c v _ _ h0 h1 (by decide) _).mono ?_; rintro e w' ⟨rfl, rfl⟩; try rw [ho]) | (go_at_call 83; refine (fenceOp_c _ hb3.1 _).mono ?_; rintro e w' ⟨rfl, rfl⟩))
    go_ret
    exact ⟨rfl, rfl⟩
  have e15 := Rv.beqF c15
  have hn : (Rv.fb v 0 7).toNat ∉ Rv.opcodes := by
    have : 0 ≤ Rv.fb v 0 7 := by rw [Rv.fb_0_7]; omega
    simp only [Rv.opcodes, List.mem_cons, List.not_mem_nil, or_false]
    omega
  rw [Rv.opN_none hn]
  clear ht
  go_enter Tryd.func60, Tryd.ntmps60
  go_wp2_with (go_at_call 58; refine (bits_c v _ _ h0 h1 (by decide) _).mono ?_; rintro e w' ⟨rfl, rfl⟩)
  go_ret
  exact ⟨rfl, rfl⟩
end Go.Proofs.YthkampohgbddnaaDoor
