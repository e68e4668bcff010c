/- LAYER 6: the document's numbers in digits (the reference's Digits, Num, x). -/
import Derived.Test.YthkampohgbddnaaDoorAsmW5
import Derived.Laws.IdiomStrings
namespace Go.Proofs.YthkampohgbddnaaDoor
open Go.ChangeShapes Go.WideShapes Go.ChangeAt Go.RowKit

/-- A digit's byte. -/
def Asm.dgt (k : Nat) : UInt8 := UInt8.ofNat (48 + k)
theorem conv1 (w : World) (k : Nat) (hk : k < 10) :
    (convert 30 9 (.slice (some ⟨w.heap.size, 0, none⟩) 1 1)).run Tryd.prog (w.alloc (.cells #[.int .u8 (48 + (k : Int))] 5)) = .ok (.string (bs [Asm.dgt k])) (w.alloc (.cells #[.int .u8 (48 + (k : Int))] 5)) := by
  have h8 : (Asm.dgt k).toNat = 48 + k := Asm.d8 hk
  exact run_convert_bytes_back (P := Tryd.prog) (w.alloc (.cells #[.int .u8 (48 + (k : Int))] 5)) 30 9 5 ⟨w.heap.size, 0, none⟩ 1 [Asm.dgt k] Tryd.underlying30 Tryd.underlying5 Tryd.underlying9 (fun j hj => by
    have hj0 : j = 0 := by simp at hj; omega
    subst hj0
    have hadd : (⟨w.heap.size, 0, none⟩ : Addr).add 0 = ⟨w.heap.size, 0, none⟩ := by simp [Addr.add_lit]
    rw [hadd, World.cell?_alloc_at _ _ _ _ (by simp)]
    simp only [List.getElem_cons_zero, h8]
    simp)
theorem conv1B {w0 w2 : World} {k : Nat} (hk : k < 10) (h : Bw (w0.alloc (.cells #[.int .u8 (48 + (k : Int))] 5)).drew w2) :
    (convert 30 9 (.slice (some ⟨w0.heap.size, 0, none⟩) 1 1)).run Tryd.prog w2 = .ok (.string (bs [Asm.dgt k])) w2 := by
  have h8 : (Asm.dgt k).toNat = 48 + k := Asm.d8 hk
  have hc : w2.cell? ⟨w0.heap.size, 0, none⟩ = some (.int .u8 (48 + (k : Int))) := by
    refine h.keep ?_
    show (w0.alloc (.cells #[.int .u8 (48 + (k : Int))] 5)).cell? _ = _
    rw [World.cell?_alloc_at _ _ _ _ (by simp)]; rfl
  exact run_convert_bytes_back (P := Tryd.prog) w2 30 9 5 ⟨w0.heap.size, 0, none⟩ 1 [Asm.dgt k] Tryd.underlying30 Tryd.underlying5 Tryd.underlying9 (fun j hj => by
    have hj0 : j = 0 := by simp at hj; omega
    subst hj0
    have hadd : (⟨w0.heap.size, 0, none⟩ : Addr).add 0 = ⟨w0.heap.size, 0, none⟩ := by simp [Addr.add_lit]
    rw [hadd, hc]
    simp only [List.getElem_cons_zero, h8]
    simp)
theorem Asm.dec_len {u : Nat} (h : u < 100000000000000000000) : (Lib.decDigits u).length ≤ 20 :=
  (Asm.dec_facts 20 u (Nat.lt_of_lt_of_le h (by decide)) (by decide)).1
set_option maxRecDepth 100000 in
theorem rDigits_c : ∀ (n : Nat) (u : Nat), u ≤ n → u < 18446744073709551616 → ∀ w : World,
    Calls Tryd.prog 24 #[.int .u64 (u : Int)] w fun e w' => e = .returned (.string (bs (Lib.decDigits u))) ∧ Bw w w' := by
  intro n
  induction n with
  | zero =>
    intro u hu hb w
    have h10 : u < 10 := by omega
    have hc := conv1 w u h10
    have h10i : (u : Int) < 10 := by omega
    rw [show Lib.decDigits u = [Asm.dgt u] from Asm.dec_small h10]
    go_enter Tryd.func24, Tryd.ntmps24
    go_wp2
    go_ret
    exact ⟨rfl, (Bw.refl _).alloc _⟩
  | succ n ih =>
    intro u hu hb w
    by_cases h10 : u < 10
    · have hc := conv1 w u h10
      have h10i : (u : Int) < 10 := by omega
      rw [show Lib.decDigits u = [Asm.dgt u] from Asm.dec_small h10]
      go_enter Tryd.func24, Tryd.ntmps24
      go_wp2
      go_ret
      exact ⟨rfl, (Bw.refl _).alloc _⟩
    · have h10i : (10 : Int) ≤ u := by omega
      rw [show Lib.decDigits u = Lib.decDigits (u / 10) ++ [Asm.dgt (u % 10)] from Asm.dec_big h10]
      have hR := ih (u / 10) (by omega) (by omega)
      have hc := fun w => conv1 w (u % 10) (by omega)
      have hlen := Asm.dec_len (u := u / 10) (by omega)
      have e1 : ((u : Int) / 10) = ((u / 10 : Nat) : Int) := by omega
      have e2 : ((u : Int).tmod 10) = ((u % 10 : Nat) : Int) := by rw [Int.tmod_eq_emod_of_nonneg (by omega)]; omega
      have e3 : IntKind.u8.wrap (IntKind.u64.wrap (48 + ((u % 10 : Nat) : Int))) = 48 + ((u % 10 : Nat) : Int) := by rw [IntKind.wrap_u64, IntKind.wrap_u8]; omega
      generalize Lib.decDigits (u / 10) = D at *
      have hr10 : u % 10 < 10 := by omega
      have hq1 : ((u / 10 : Nat) : Int) ≤ 18446744073709551615 := by omega
      have hq2 : IntKind.u64.wrap ((u / 10 : Nat) : Int) = ((u / 10 : Nat) : Int) := by rw [IntKind.wrap_u64]; omega
      generalize u / 10 = q at *
      generalize u % 10 = r at *
      have hri : (r : Int) < 10 := by omega
      have hc3 := conv1B (w0 := w) (k := r) hr10 (Bw.refl _)
      go_enter Tryd.func24, Tryd.ntmps24
      go_wp2_with fail
      go_region_with (go_at_call 24; refine (hR _).mono ?_; rintro e w2 ⟨rfl, hb2⟩; try (have hcv := conv1B (k := r) hr10 hb2))
      all_goals
        go_wp2_with fail
        go_ret
        refine ⟨Asm.ret_s (bs_app D _), ?_⟩
        first | exact ((Bw.refl w).drew.trans hb2).alloc _ | exact (((Bw.refl w).alloc _).drew).trans hb2
theorem rNum_c (n : Int) (h0 : -2147483648 ≤ n) (h1 : n < 4294967296) (w : World) :
    Calls Tryd.prog 22 #[.int .i64 n] w fun e w' => e = .returned (.string (bs (Lib.itoa n))) ∧ Bw w w' := by
  by_cases h : n < 0
  · have hD := rDigits_c n.natAbs n.natAbs (Nat.le_refl _) (by omega) w
    have e : ((n.natAbs : Nat) : Int) = -n := by omega
    rw [e] at hD
    have hl := Asm.dec_len (u := n.natAbs) (by omega)
    rw [show Lib.itoa n = 45 :: Lib.decDigits n.natAbs by unfold Lib.itoa; rw [if_pos h]]
    generalize Lib.decDigits n.natAbs = D at *
    clear e
    go_enter Tryd.func22, Tryd.ntmps22
    go_wp2_with (go_at_call 24; refine hD.mono ?_; rintro e w2 ⟨rfl, hb2⟩)
    go_ret
    exact ⟨Asm.ret_s (bs_app [45] D), hb2⟩
  · have hD := rDigits_c n.toNat n.toNat (Nat.le_refl _) (by omega) w
    have e : ((n.toNat : Nat) : Int) = n := by omega
    rw [e] at hD
    have h' : 0 ≤ n := by omega
    rw [show Lib.itoa n = Lib.decDigits n.toNat by unfold Lib.itoa; rw [if_neg h]]
    generalize Lib.decDigits n.toNat = D at *
    clear e h
    go_enter Tryd.func22, Tryd.ntmps22
    go_wp2_with (go_at_call 24; refine hD.mono ?_; rintro e w2 ⟨rfl, hb2⟩)
    go_ret
    exact ⟨rfl, hb2⟩
theorem rx_c (n : Int) (h0 : 0 ≤ n) (h1 : n < 32) (w : World) :
    Calls Tryd.prog 23 #[.int .i64 n] w fun e w' => e = .returned (.string (bs (120 :: Lib.itoa n))) ∧ Bw w w' := by
  have hD := rDigits_c n.toNat n.toNat (Nat.le_refl _) (by omega) w
  have e : ((n.toNat : Nat) : Int) = n := by omega
  rw [e] at hD
  have hl := Asm.dec_len (u := n.toNat) (by omega)
  rw [show Lib.itoa n = Lib.decDigits n.toNat by unfold Lib.itoa; rw [if_neg (by omega)]]
  generalize Lib.decDigits n.toNat = D at *
  clear e
  go_enter Tryd.func23, Tryd.ntmps23
  go_wp2_with (go_at_call 24; refine hD.mono ?_; rintro e w2 ⟨rfl, hb2⟩)
  go_ret
  exact ⟨Asm.ret_s (bs_app [120] D), hb2⟩
end Go.Proofs.YthkampohgbddnaaDoor
