/- LAYER 5: the document's own answer: the forms. · LAYER 5: the document's own answer: numbers in pieces. -/
import Derived.Test.YtbackacbdfgdoaaDoorK3
import Derived.Deep.RegionHeld3
namespace Go.Proofs.YtbackacbdfgdoaaDoor
open Go.ChangeShapes Go.WideShapes Go.ChangeAt Go.RowKit

theorem Rv.ret_form {a b c x y z : Int} (h1 : a = x) (h2 : b = y) (h3 : c = z) : Ending.returned (.tuple #[.int .u32 a, .int .u32 b, .int .u32 c]) = .returned (.tuple #[.int .u32 x, .int .u32 y, .int .u32 z]) := by rw [h1, h2, h3]
theorem Rv.t5 {op : Int} (h0 : 5 ≤ op) (h1 : op ≤ 10) : [Value.int .u32 0, .int .u32 1, .int .u32 4, .int .u32 5, .int .u32 6, .int .u32 7][(op - 5).toNat]? = some (.int .u32 ((Rv.f3N op.toNat : Nat) : Int)) := by
  obtain h | h | h | h | h | h : op = 5 ∨ op = 6 ∨ op = 7 ∨ op = 8 ∨ op = 9 ∨ op = 10 := by omega
  all_goals (subst h; rfl)
theorem Rv.t11 {op : Int} (h0 : 11 ≤ op) (h1 : op ≤ 15) : [Value.int .u32 0, .int .u32 1, .int .u32 2, .int .u32 4, .int .u32 5][(op - 11).toNat]? = some (.int .u32 ((Rv.f3N op.toNat : Nat) : Int)) := by
  obtain h | h | h | h | h : op = 11 ∨ op = 12 ∨ op = 13 ∨ op = 14 ∨ op = 15 := by omega
  all_goals (subst h; rfl)
theorem Rv.t19 {op : Int} (h0 : 19 ≤ op) (h1 : op ≤ 27) : [Value.int .u32 0, .int .u32 2, .int .u32 3, .int .u32 4, .int .u32 6, .int .u32 7, .int .u32 1, .int .u32 5, .int .u32 5][(op - 19).toNat]? = some (.int .u32 ((Rv.f3N op.toNat : Nat) : Int)) := by
  obtain h | h | h | h | h | h | h | h | h : op = 19 ∨ op = 20 ∨ op = 21 ∨ op = 22 ∨ op = 23 ∨ op = 24 ∨ op = 25 ∨ op = 26 ∨ op = 27 := by omega
  all_goals (subst h; rfl)
theorem Rv.t19b {op : Int} (h0 : 19 ≤ op) (h1 : op ≤ 27) : [Value.int .u32 0, .int .u32 0, .int .u32 0, .int .u32 0, .int .u32 0, .int .u32 0, .int .u32 0, .int .u32 0, .int .u32 32][(op - 19).toNat]? = some (.int .u32 ((Rv.f7N op.toNat : Nat) : Int)) := by
  obtain h | h | h | h | h | h | h | h | h : op = 19 ∨ op = 20 ∨ op = 21 ∨ op = 22 ∨ op = 23 ∨ op = 24 ∨ op = 25 ∨ op = 26 ∨ op = 27 := by omega
  all_goals (subst h; rfl)
theorem Rv.t28 {op : Int} (h0 : 28 ≤ op) (h1 : op ≤ 37) : [Value.int .u32 0, .int .u32 0, .int .u32 1, .int .u32 2, .int .u32 3, .int .u32 4, .int .u32 5, .int .u32 5, .int .u32 6, .int .u32 7][(op - 28).toNat]? = some (.int .u32 ((Rv.f3N op.toNat : Nat) : Int)) := by
  obtain h | h | h | h | h | h | h | h | h | h : op = 28 ∨ op = 29 ∨ op = 30 ∨ op = 31 ∨ op = 32 ∨ op = 33 ∨ op = 34 ∨ op = 35 ∨ op = 36 ∨ op = 37 := by omega
  all_goals (subst h; rfl)
theorem Rv.t28b {op : Int} (h0 : 28 ≤ op) (h1 : op ≤ 37) : [Value.int .u32 0, .int .u32 32, .int .u32 0, .int .u32 0, .int .u32 0, .int .u32 0, .int .u32 0, .int .u32 32, .int .u32 0, .int .u32 0][(op - 28).toNat]? = some (.int .u32 ((Rv.f7N op.toNat : Nat) : Int)) := by
  obtain h | h | h | h | h | h | h | h | h | h : op = 28 ∨ op = 29 ∨ op = 30 ∨ op = 31 ∨ op = 32 ∨ op = 33 ∨ op = 34 ∨ op = 35 ∨ op = 36 ∨ op = 37 := by omega
  all_goals (subst h; rfl)
theorem Rv.f3_16 {op : Int} (h0 : 16 ≤ op) (h1 : op ≤ 18) : ((Rv.f3N op.toNat : Nat) : Int) = op - 16 := by
  obtain h | h | h : op = 16 ∨ op = 17 ∨ op = 18 := by omega
  all_goals (subst h; rfl)
theorem Rv.f3_38 {op : Int} (h0 : 38 ≤ op) (h1 : op ≤ 45) : ((Rv.f3N op.toNat : Nat) : Int) = op - 38 := by
  obtain h | h | h | h | h | h | h | h : op = 38 ∨ op = 39 ∨ op = 40 ∨ op = 41 ∨ op = 42 ∨ op = 43 ∨ op = 44 ∨ op = 45 := by omega
  all_goals (subst h; rfl)
theorem Rv.f7_0 {op : Int} (h0 : 1 ≤ op) (h1 : op < 19) : ((Rv.f7N op.toNat : Nat) : Int) = 0 := by
  unfold Rv.f7N
  rw [if_neg (by omega), if_neg (by omega), if_neg (by omega), if_neg (by omega)]; rfl
theorem Rv.f7_1 {op : Int} (h0 : 38 ≤ op) (h1 : op ≤ 45) : ((Rv.f7N op.toNat : Nat) : Int) = 1 := by
  unfold Rv.f7N
  rw [if_neg (by omega), if_neg (by omega), if_neg (by omega), if_pos (by omega)]; rfl
theorem Rv.fo_in {op : Int} (h0 : 5 ≤ op) : ((Rv.foN op.toNat : Nat) : Int) = if op ≤ 10 then 99 else if op ≤ 15 then 3 else if op ≤ 18 then 35 else if op ≤ 27 then 19 else if op ≤ 45 then 51 else 15 := by
  unfold Rv.foN
  rw [if_neg (by omega), if_neg (by omega), if_neg (by omega), if_neg (by omega)]
  by_cases c : op ≤ 10
  · rw [if_pos (show op.toNat ≤ 10 by omega), if_pos c]; rfl
  rw [if_neg (show ¬ op.toNat ≤ 10 by omega), if_neg c]; clear c
  by_cases c : op ≤ 15
  · rw [if_pos (show op.toNat ≤ 15 by omega), if_pos c]; rfl
  rw [if_neg (show ¬ op.toNat ≤ 15 by omega), if_neg c]; clear c
  by_cases c : op ≤ 18
  · rw [if_pos (show op.toNat ≤ 18 by omega), if_pos c]; rfl
  rw [if_neg (show ¬ op.toNat ≤ 18 by omega), if_neg c]; clear c
  by_cases c : op ≤ 27
  · rw [if_pos (show op.toNat ≤ 27 by omega), if_pos c]; rfl
  rw [if_neg (show ¬ op.toNat ≤ 27 by omega), if_neg c]; clear c
  by_cases c : op ≤ 45
  · rw [if_pos (show op.toNat ≤ 45 by omega), if_pos c]; rfl
  rw [if_neg (show ¬ op.toNat ≤ 45 by omega), if_neg c]; clear c
  rfl

theorem form_hi (op : Int) (w : World) (h0 : 46 ≤ op) (h1 : op ≤ 49) :
    Calls Tryd.prog 73 #[.int .i64 op] w fun e w' => e = .returned (.tuple #[.int .u32 15, .int .u32 (op - 46), .int .u32 0]) ∧ Gr w w' := by
  have e1 := Rv.beqF (show op ≠ 1 by omega); have e2 := Rv.beqF (show op ≠ 2 by omega); have e3 := Rv.beqF (show op ≠ 3 by omega); have e4 := Rv.beqF (show op ≠ 4 by omega)
  go_enter Tryd.func73, Tryd.ntmps73
  go_wp2_with fail
  go_returns
  exact ⟨Rv.ret_form rfl (by omega) rfl, by (repeat' (first | (with_reducible assumption) | (with_reducible exact Gr.refl _) | (with_reducible refine Gr.alloc ?_ _ _) | (with_reducible refine Gr.drew ?_) | (with_reducible refine Gr.drewN ?_ _) | (with_reducible refine Gr.setCell ?_ ?_ _) | (with_reducible refine Gr.trans ?_ (by assumption)) | omega | (dsimp only; omega) | (simp; done) | (simp; omega)))⟩

set_option maxHeartbeats 1600000 in
theorem form_c (op : Int) (w : World) (h0 : 1 ≤ op) (h1 : op ≤ 47) :
    Calls Tryd.prog 73 #[.int .i64 op] w fun e w' => e = .returned (.tuple #[.int .u32 ((Rv.foN op.toNat : Nat) : Int), .int .u32 ((Rv.f3N op.toNat : Nat) : Int), .int .u32 ((Rv.f7N op.toNat : Nat) : Int)]) ∧ Gr w w' := by
  obtain h | h | h | h | h | h | h | h | h | h | h : op = 1 ∨ op = 2 ∨ op = 3 ∨ op = 4 ∨ (5 ≤ op ∧ op ≤ 10) ∨ (11 ≤ op ∧ op ≤ 15) ∨ (16 ≤ op ∧ op ≤ 18) ∨ (19 ≤ op ∧ op ≤ 27) ∨ (28 ≤ op ∧ op ≤ 37) ∨ (38 ≤ op ∧ op ≤ 45) ∨ (46 ≤ op ∧ op ≤ 47) := by omega
  · subst h
    go_enter Tryd.func73, Tryd.ntmps73
    go_wp2_with fail
    go_returns
    exact ⟨rfl, by (repeat' (first | (with_reducible assumption) | (with_reducible exact Gr.refl _) | (with_reducible refine Gr.alloc ?_ _ _) | (with_reducible refine Gr.drew ?_) | (with_reducible refine Gr.drewN ?_ _) | (with_reducible refine Gr.setCell ?_ ?_ _) | (with_reducible refine Gr.trans ?_ (by assumption)) | omega | (dsimp only; omega) | (simp; done) | (simp; omega)))⟩
  · subst h
    go_enter Tryd.func73, Tryd.ntmps73
    go_wp2_with fail
    go_returns
    exact ⟨rfl, by (repeat' (first | (with_reducible assumption) | (with_reducible exact Gr.refl _) | (with_reducible refine Gr.alloc ?_ _ _) | (with_reducible refine Gr.drew ?_) | (with_reducible refine Gr.drewN ?_ _) | (with_reducible refine Gr.setCell ?_ ?_ _) | (with_reducible refine Gr.trans ?_ (by assumption)) | omega | (dsimp only; omega) | (simp; done) | (simp; omega)))⟩
  · subst h
    go_enter Tryd.func73, Tryd.ntmps73
    go_wp2_with fail
    go_returns
    exact ⟨rfl, by (repeat' (first | (with_reducible assumption) | (with_reducible exact Gr.refl _) | (with_reducible refine Gr.alloc ?_ _ _) | (with_reducible refine Gr.drew ?_) | (with_reducible refine Gr.drewN ?_ _) | (with_reducible refine Gr.setCell ?_ ?_ _) | (with_reducible refine Gr.trans ?_ (by assumption)) | omega | (dsimp only; omega) | (simp; done) | (simp; omega)))⟩
  · subst h
    go_enter Tryd.func73, Tryd.ntmps73
    go_wp2_with fail
    go_returns
    exact ⟨rfl, by (repeat' (first | (with_reducible assumption) | (with_reducible exact Gr.refl _) | (with_reducible refine Gr.alloc ?_ _ _) | (with_reducible refine Gr.drew ?_) | (with_reducible refine Gr.drewN ?_ _) | (with_reducible refine Gr.setCell ?_ ?_ _) | (with_reducible refine Gr.trans ?_ (by assumption)) | omega | (dsimp only; omega) | (simp; done) | (simp; omega)))⟩
  · obtain ⟨c0, c1⟩ := h
    have e1 := Rv.beqF (show op ≠ 1 by omega); have e2 := Rv.beqF (show op ≠ 2 by omega); have e3 := Rv.beqF (show op ≠ 3 by omega); have e4 := Rv.beqF (show op ≠ 4 by omega)
    have fo : ((Rv.foN op.toNat : Nat) : Int) = 99 := by rw [Rv.fo_in (by omega)]; repeat (first | rw [if_pos (by omega)] | rw [if_neg (by omega)])
    have hx := Rv.t5 c0 c1
    have f7 := Rv.f7_0 h0 (by omega)
    rw [fo, f7]
    generalize ((Rv.f3N op.toNat : Nat) : Int) = x at *
    clear fo f7
    go_enter Tryd.func73, Tryd.ntmps73
    go_wp2_with fail
    go_region
    all_goals go_wp2_with fail
    all_goals go_returns
    all_goals exact ⟨rfl, by (repeat' (first | (with_reducible assumption) | (with_reducible exact Gr.refl _) | (with_reducible refine Gr.alloc ?_ _ _) | (with_reducible refine Gr.drew ?_) | (with_reducible refine Gr.drewN ?_ _) | (with_reducible refine Gr.setCell ?_ ?_ _) | (with_reducible refine Gr.trans ?_ (by assumption)) | omega | (dsimp only; omega) | (simp; done) | (simp; omega)))⟩
  · obtain ⟨c0, c1⟩ := h
    have e1 := Rv.beqF (show op ≠ 1 by omega); have e2 := Rv.beqF (show op ≠ 2 by omega); have e3 := Rv.beqF (show op ≠ 3 by omega); have e4 := Rv.beqF (show op ≠ 4 by omega)
    have fo : ((Rv.foN op.toNat : Nat) : Int) = 3 := by rw [Rv.fo_in (by omega)]; repeat (first | rw [if_pos (by omega)] | rw [if_neg (by omega)])
    have hx := Rv.t11 c0 c1
    have f7 := Rv.f7_0 h0 (by omega)
    rw [fo, f7]
    generalize ((Rv.f3N op.toNat : Nat) : Int) = x at *
    clear fo f7
    go_enter Tryd.func73, Tryd.ntmps73
    go_wp2_with fail
    go_region
    all_goals go_wp2_with fail
    all_goals go_returns
    all_goals exact ⟨rfl, by (repeat' (first | (with_reducible assumption) | (with_reducible exact Gr.refl _) | (with_reducible refine Gr.alloc ?_ _ _) | (with_reducible refine Gr.drew ?_) | (with_reducible refine Gr.drewN ?_ _) | (with_reducible refine Gr.setCell ?_ ?_ _) | (with_reducible refine Gr.trans ?_ (by assumption)) | omega | (dsimp only; omega) | (simp; done) | (simp; omega)))⟩
  · obtain ⟨c0, c1⟩ := h
    have e1 := Rv.beqF (show op ≠ 1 by omega); have e2 := Rv.beqF (show op ≠ 2 by omega); have e3 := Rv.beqF (show op ≠ 3 by omega); have e4 := Rv.beqF (show op ≠ 4 by omega)
    have fo : ((Rv.foN op.toNat : Nat) : Int) = 35 := by rw [Rv.fo_in (by omega)]; repeat (first | rw [if_pos (by omega)] | rw [if_neg (by omega)])
    have f7 := Rv.f7_0 h0 (by omega)
    rw [fo, f7, Rv.f3_16 c0 c1]
    clear fo f7
    go_enter Tryd.func73, Tryd.ntmps73
    go_wp2_with fail
    go_returns
    exact ⟨Rv.ret_form rfl (by omega) rfl, by (repeat' (first | (with_reducible assumption) | (with_reducible exact Gr.refl _) | (with_reducible refine Gr.alloc ?_ _ _) | (with_reducible refine Gr.drew ?_) | (with_reducible refine Gr.drewN ?_ _) | (with_reducible refine Gr.setCell ?_ ?_ _) | (with_reducible refine Gr.trans ?_ (by assumption)) | omega | (dsimp only; omega) | (simp; done) | (simp; omega)))⟩
  · obtain ⟨c0, c1⟩ := h
    have e1 := Rv.beqF (show op ≠ 1 by omega); have e2 := Rv.beqF (show op ≠ 2 by omega); have e3 := Rv.beqF (show op ≠ 3 by omega); have e4 := Rv.beqF (show op ≠ 4 by omega)
    have fo : ((Rv.foN op.toNat : Nat) : Int) = 19 := by rw [Rv.fo_in (by omega)]; repeat (first | rw [if_pos (by omega)] | rw [if_neg (by omega)])
    have hx := Rv.t19 c0 c1
    have hy := Rv.t19b c0 c1
    rw [fo]
    generalize ((Rv.f3N op.toNat : Nat) : Int) = x at *
    generalize ((Rv.f7N op.toNat : Nat) : Int) = y at *
    clear fo
    go_enter Tryd.func73, Tryd.ntmps73
    go_wp2_with fail
    go_region
    all_goals go_wp2_with fail
    all_goals go_returns
    all_goals exact ⟨rfl, by (repeat' (first | (with_reducible assumption) | (with_reducible exact Gr.refl _) | (with_reducible refine Gr.alloc ?_ _ _) | (with_reducible refine Gr.drew ?_) | (with_reducible refine Gr.drewN ?_ _) | (with_reducible refine Gr.setCell ?_ ?_ _) | (with_reducible refine Gr.trans ?_ (by assumption)) | omega | (dsimp only; omega) | (simp; done) | (simp; omega)))⟩
  · obtain ⟨c0, c1⟩ := h
    have e1 := Rv.beqF (show op ≠ 1 by omega); have e2 := Rv.beqF (show op ≠ 2 by omega); have e3 := Rv.beqF (show op ≠ 3 by omega); have e4 := Rv.beqF (show op ≠ 4 by omega)
    have fo : ((Rv.foN op.toNat : Nat) : Int) = 51 := by rw [Rv.fo_in (by omega)]; repeat (first | rw [if_pos (by omega)] | rw [if_neg (by omega)])
    have hx := Rv.t28 c0 c1
    have hy := Rv.t28b c0 c1
    rw [fo]
    generalize ((Rv.f3N op.toNat : Nat) : Int) = x at *
    generalize ((Rv.f7N op.toNat : Nat) : Int) = y at *
    clear fo
    go_enter Tryd.func73, Tryd.ntmps73
    go_wp2_with fail
    go_region
    all_goals go_wp2_with fail
    all_goals go_returns
    all_goals exact ⟨rfl, by (repeat' (first | (with_reducible assumption) | (with_reducible exact Gr.refl _) | (with_reducible refine Gr.alloc ?_ _ _) | (with_reducible refine Gr.drew ?_) | (with_reducible refine Gr.drewN ?_ _) | (with_reducible refine Gr.setCell ?_ ?_ _) | (with_reducible refine Gr.trans ?_ (by assumption)) | omega | (dsimp only; omega) | (simp; done) | (simp; omega)))⟩
  · obtain ⟨c0, c1⟩ := h
    have e1 := Rv.beqF (show op ≠ 1 by omega); have e2 := Rv.beqF (show op ≠ 2 by omega); have e3 := Rv.beqF (show op ≠ 3 by omega); have e4 := Rv.beqF (show op ≠ 4 by omega)
    have fo : ((Rv.foN op.toNat : Nat) : Int) = 51 := by rw [Rv.fo_in (by omega)]; repeat (first | rw [if_pos (by omega)] | rw [if_neg (by omega)])
    have f7 := Rv.f7_1 c0 c1
    rw [fo, f7, Rv.f3_38 c0 c1]
    clear fo f7
    go_enter Tryd.func73, Tryd.ntmps73
    go_wp2_with fail
    go_returns
    exact ⟨Rv.ret_form rfl (by omega) rfl, by (repeat' (first | (with_reducible assumption) | (with_reducible exact Gr.refl _) | (with_reducible refine Gr.alloc ?_ _ _) | (with_reducible refine Gr.drew ?_) | (with_reducible refine Gr.drewN ?_ _) | (with_reducible refine Gr.setCell ?_ ?_ _) | (with_reducible refine Gr.trans ?_ (by assumption)) | omega | (dsimp only; omega) | (simp; done) | (simp; omega)))⟩
  · obtain h | h : op = 46 ∨ op = 47 := by omega
    all_goals (subst h; exact (form_hi _ w (by omega) (by omega)).mono fun _ _ h => ⟨h.1, h.2⟩)
end Go.Proofs.YtbackacbdfgdoaaDoor
namespace Go.Proofs.YtbackacbdfgdoaaDoor
open Go.ChangeShapes Go.WideShapes Go.ChangeAt Go.RowKit

theorem Rv.and_hi {v : Int} (h0 : 0 ≤ v) (h1 : v < 4294967296) : bits .and .u32 v 4294963200 = v - v % 4096 := by
  rw [u32_and v 4294963200 h0 h1 (by decide) (by decide)]
  obtain ⟨x, rfl⟩ := Int.eq_ofNat_of_zero_le h0
  rw [Int.toNat_natCast, show (4294963200 : Int).toNat = 4294963200 from rfl]
  have hx : x < 2 ^ 32 := by omega
  have p : x &&& 4095 = x % 4096 := Nat.and_two_pow_sub_one_eq_mod x 12
  have o : (x &&& 4095) ||| (x &&& 4294963200) = x := by
    rw [← Nat.and_or_distrib_left, show 4095 ||| 4294963200 = 2 ^ 32 - 1 by decide, Nat.and_two_pow_sub_one_eq_mod, Nat.mod_eq_of_lt hx]
  have hd : x &&& 4294963200 = 2 ^ 12 * ((x &&& 4294963200) / 2 ^ 12) := by
    have : (x &&& 4294963200) % 2 ^ 12 = 0 := by
      rw [← Nat.and_two_pow_sub_one_eq_mod, Nat.and_assoc, show 4294963200 &&& (2 ^ 12 - 1) = 0 by decide, Nat.and_zero]
    have := Nat.div_add_mod (x &&& 4294963200) (2 ^ 12)
    omega
  have s : (x &&& 4294963200) + x % 4096 = x := by
    have e := Nat.two_pow_add_eq_or_of_lt (i := 12) (b := x % 4096) (by omega) ((x &&& 4294963200) / 2 ^ 12)
    rw [← hd, ← p, Nat.or_comm, o] at e
    rw [← p]; exact e
  omega
theorem Rv.jor {v : Int} (h0 : 0 ≤ v) (h1 : v < 4294967296) : bits .or .u32 (bits .or .u32 (bits .or .u32 (v / 2147483648 * 1048576) (bits .and .u32 (v / 4096) 255 * 4096 % 4294967296)) (bits .and .u32 (v / 1048576) 1 * 2048 % 4294967296)) (bits .and .u32 (v / 2097152) 1023 * 2 % 4294967296) =
    1048576 * (v / 2147483648) + 4096 * (v / 4096 % 256) + 2048 * (v / 1048576 % 2) + 2 * (v / 2097152 % 1024) := by
  have c1 : bits .and .u32 (v / 4096) 255 = v / 4096 % 256 := Rv.andm (by omega) (by omega) 8 (by decide)
  have c2 : bits .and .u32 (v / 1048576) 1 = v / 1048576 % 2 := Rv.andm (by omega) (by omega) 1 (by decide)
  have c3 : bits .and .u32 (v / 2097152) 1023 = v / 2097152 % 1024 := Rv.andm (by omega) (by omega) 10 (by decide)
  rw [c1, c2, c3]
  have b1 : 0 ≤ v / 4096 % 256 ∧ v / 4096 % 256 < 256 := by omega
  have b2 : 0 ≤ v / 1048576 % 2 ∧ v / 1048576 % 2 < 2 := by omega
  have b3 : 0 ≤ v / 2097152 % 1024 ∧ v / 2097152 % 1024 < 1024 := by omega
  have b4 : 0 ≤ v / 2147483648 ∧ v / 2147483648 < 2 := by omega
  generalize v / 4096 % 256 = p1 at *; generalize v / 1048576 % 2 = p2 at *; generalize v / 2097152 % 1024 = p3 at *; generalize v / 2147483648 = p4 at *
  have a1 : p1 * 4096 % 4294967296 = 4096 * p1 := by omega
  have a2 : p2 * 2048 % 4294967296 = 2048 * p2 := by omega
  have a3 : p3 * 2 % 4294967296 = 2 * p3 := by omega
  rw [a1, a2, a3]
  rw [Rv.orhole (x := p4 * 1048576) (y := 4096 * p1) 12 20 (by decide) (by omega) (by omega) (by omega) (by omega) (by omega) (by omega) (by omega)]
  rw [Rv.orhole (x := p4 * 1048576 + 4096 * p1) (y := 2048 * p2) 11 12 (by decide) (by omega) (by omega) (by omega) (by omega) (by omega) (by omega) (by omega)]
  rw [Rv.orhole (y := 2 * p3) 1 11 (by decide) (by omega) (by omega) (by omega) (by omega) (by omega) (by omega) (by omega)]; omega
theorem Rv.bor {v : Int} (h0 : 0 ≤ v) (h1 : v < 4294967296) : bits .or .u32 (bits .or .u32 (bits .or .u32 (v / 2147483648 * 4096) (bits .and .u32 (v / 128) 1 * 2048 % 4294967296)) (bits .and .u32 (v / 33554432) 63 * 32 % 4294967296)) (bits .and .u32 (v / 256) 15 * 2 % 4294967296) =
    4096 * (v / 2147483648) + 2048 * (v / 128 % 2) + 32 * (v / 33554432 % 64) + 2 * (v / 256 % 16) := by
  have c1 : bits .and .u32 (v / 128) 1 = v / 128 % 2 := Rv.andm (by omega) (by omega) 1 (by decide)
  have c2 : bits .and .u32 (v / 33554432) 63 = v / 33554432 % 64 := Rv.andm (by omega) (by omega) 6 (by decide)
  have c3 : bits .and .u32 (v / 256) 15 = v / 256 % 16 := Rv.andm (by omega) (by omega) 4 (by decide)
  rw [c1, c2, c3]
  have b1 : 0 ≤ v / 128 % 2 ∧ v / 128 % 2 < 2 := by omega
  have b2 : 0 ≤ v / 33554432 % 64 ∧ v / 33554432 % 64 < 64 := by omega
  have b3 : 0 ≤ v / 256 % 16 ∧ v / 256 % 16 < 16 := by omega
  have b4 : 0 ≤ v / 2147483648 ∧ v / 2147483648 < 2 := by omega
  generalize v / 128 % 2 = p1 at *; generalize v / 33554432 % 64 = p2 at *; generalize v / 256 % 16 = p3 at *; generalize v / 2147483648 = p4 at *
  have a1 : p1 * 2048 % 4294967296 = 2048 * p1 := by omega
  have a2 : p2 * 32 % 4294967296 = 32 * p2 := by omega
  have a3 : p3 * 2 % 4294967296 = 2 * p3 := by omega
  rw [a1, a2, a3]
  rw [Rv.orhole (x := p4 * 4096) (y := 2048 * p1) 11 12 (by decide) (by omega) (by omega) (by omega) (by omega) (by omega) (by omega) (by omega)]
  rw [Rv.orhole (x := p4 * 4096 + 2048 * p1) (y := 32 * p2) 5 11 (by decide) (by omega) (by omega) (by omega) (by omega) (by omega) (by omega) (by omega)]
  rw [Rv.orhole (y := 2 * p3) 1 5 (by decide) (by omega) (by omega) (by omega) (by omega) (by omega) (by omega) (by omega)]; omega
theorem Rv.sor {v : Int} (h0 : 0 ≤ v) (h1 : v < 4294967296) : bits .or .u32 (v / 33554432 * 32) (v / 128 % 32) = 32 * (v / 33554432) + v / 128 % 32 := by
  have b1 : 0 ≤ v / 128 % 32 ∧ v / 128 % 32 < 32 := by omega
  have b2 : 0 ≤ v / 33554432 ∧ v / 33554432 < 128 := by omega
  generalize v / 128 % 32 = p1 at *; generalize v / 33554432 = p2 at *
  rw [Rv.orhole 0 5 (by decide) (by omega) (by omega) (by omega) (by omega) (by omega) (by omega) (by omega)]; omega
theorem Rv.jimm {v : Int} (h0 : 0 ≤ v) (h1 : v < 4294967296) : (1048576 * (v / 2147483648) + 4096 * (v / 4096 % 256) + 2048 * (v / 1048576 % 2) + 2 * (v / 2097152 % 1024)) - 2097152 * ((1048576 * (v / 2147483648) + 4096 * (v / 4096 % 256) + 2048 * (v / 1048576 % 2) + 2 * (v / 2097152 % 1024)) / 1048576) = Rv.immJ v := by
  unfold Rv.immJ
  have b1 : 0 ≤ v / 4096 % 256 ∧ v / 4096 % 256 < 256 := by omega
  have b2 : 0 ≤ v / 1048576 % 2 ∧ v / 1048576 % 2 < 2 := by omega
  have b3 : 0 ≤ v / 2097152 % 1024 ∧ v / 2097152 % 1024 < 1024 := by omega
  have b4 : 0 ≤ v / 2147483648 ∧ v / 2147483648 < 2 := by omega
  generalize v / 4096 % 256 = p1 at *; generalize v / 1048576 % 2 = p2 at *; generalize v / 2097152 % 1024 = p3 at *; generalize v / 2147483648 = p4 at *
  omega
theorem Rv.bimm {v : Int} (h0 : 0 ≤ v) (h1 : v < 4294967296) : (4096 * (v / 2147483648) + 2048 * (v / 128 % 2) + 32 * (v / 33554432 % 64) + 2 * (v / 256 % 16)) - 8192 * ((4096 * (v / 2147483648) + 2048 * (v / 128 % 2) + 32 * (v / 33554432 % 64) + 2 * (v / 256 % 16)) / 4096) = Rv.immB v := by
  unfold Rv.immB
  have b1 : 0 ≤ v / 128 % 2 ∧ v / 128 % 2 < 2 := by omega
  have b2 : 0 ≤ v / 33554432 % 64 ∧ v / 33554432 % 64 < 64 := by omega
  have b3 : 0 ≤ v / 256 % 16 ∧ v / 256 % 16 < 16 := by omega
  have b4 : 0 ≤ v / 2147483648 ∧ v / 2147483648 < 2 := by omega
  generalize v / 128 % 2 = p1 at *; generalize v / 33554432 % 64 = p2 at *; generalize v / 256 % 16 = p3 at *; generalize v / 2147483648 = p4 at *
  omega
theorem Rv.simm {v : Int} (h0 : 0 ≤ v) (h1 : v < 4294967296) : (32 * (v / 33554432) + v / 128 % 32) - 4096 * ((32 * (v / 33554432) + v / 128 % 32) / 2048) = Rv.immS v := by
  unfold Rv.immS
  have b1 : 0 ≤ v / 128 % 32 ∧ v / 128 % 32 < 32 := by omega
  have b2 : 0 ≤ v / 33554432 ∧ v / 33554432 < 128 := by omega
  have b3 : v / 2147483648 = v / 33554432 / 64 := by omega
  rw [b3]
  generalize v / 128 % 32 = p1 at *; generalize v / 33554432 = p2 at *
  omega
theorem Rv.iimm {v : Int} (_ : 0 ≤ v) (_ : v < 4294967296) : v / 1048576 - 4096 * (v / 1048576 / 2048) = Rv.immI v := by unfold Rv.immI; omega
theorem Rv.uimm {v : Int} (h0 : 0 ≤ v) (h1 : v < 4294967296) : wrap32 (bits .and .u32 v 4294963200) = Rv.immU v := by
  rw [Rv.and_hi h0 h1]; unfold Rv.immU wrap32; omega

end Go.Proofs.YtbackacbdfgdoaaDoor
