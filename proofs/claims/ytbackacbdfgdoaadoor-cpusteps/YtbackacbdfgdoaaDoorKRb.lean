/- LAYER 5: the document's own answer: Decode. -/
import Derived.Test.YtbackacbdfgdoaaDoorKRa
namespace Go.Proofs.YtbackacbdfgdoaaDoor
open Go.ChangeShapes Go.WideShapes Go.ChangeAt Go.RowKit

theorem rsigned_12 (v : Int) (h0 : 0 ≤ v) (h1 : v < 4096) (w : World) :
    Calls Tryd.prog 74 #[.int .u32 v, .int .u64 12] w fun e w' => e = .returned (.int .i32 (v - 4096 * (v / 2048))) ∧ w' = w := by
  go_enter Tryd.func74, Tryd.ntmps74
  go_wp2_with fail
  go_ret
  exact ⟨Rv.ret_int (by unfold wrap32; omega), rfl⟩
theorem rsigned_13 (v : Int) (h0 : 0 ≤ v) (h1 : v < 8192) (w : World) :
    Calls Tryd.prog 74 #[.int .u32 v, .int .u64 13] w fun e w' => e = .returned (.int .i32 (v - 8192 * (v / 4096))) ∧ w' = w := by
  go_enter Tryd.func74, Tryd.ntmps74
  go_wp2_with fail
  go_ret
  exact ⟨Rv.ret_int (by unfold wrap32; omega), rfl⟩
theorem rsigned_21 (v : Int) (h0 : 0 ≤ v) (h1 : v < 2097152) (w : World) :
    Calls Tryd.prog 74 #[.int .u32 v, .int .u64 21] w fun e w' => e = .returned (.int .i32 (v - 2097152 * (v / 1048576))) ∧ w' = w := by
  go_enter Tryd.func74, Tryd.ntmps74
  go_wp2_with fail
  go_ret
  exact ⟨Rv.ret_int (by unfold wrap32; omega), rfl⟩
theorem Rv.rbox {w w1 : World} {T : TypeId} (h : Gr (w.alloc (.cells #[.int .i64 0, .int .i64 0, .int .i64 0, .int .i64 0, .int .i32 0] T)) w1) :
    (w1.cell? ⟨w.heap.size, 0, none⟩ = some (.int .i64 0) ∧ w1.cell? ⟨w.heap.size, 1, none⟩ = some (.int .i64 0) ∧ w1.cell? ⟨w.heap.size, 2, none⟩ = some (.int .i64 0) ∧ w1.cell? ⟨w.heap.size, 3, none⟩ = some (.int .i64 0) ∧ w1.cell? ⟨w.heap.size, 4, none⟩ = some (.int .i32 0)) ∧
    (w1.frozen? ⟨w.heap.size, 0, none⟩ = false ∧ w1.frozen? ⟨w.heap.size, 1, none⟩ = false ∧ w1.frozen? ⟨w.heap.size, 2, none⟩ = false ∧ w1.frozen? ⟨w.heap.size, 3, none⟩ = false ∧ w1.frozen? ⟨w.heap.size, 4, none⟩ = false) := by
  refine ⟨?_, ?_⟩
  · refine ⟨?_, ?_, ?_, ?_, ?_⟩ <;> (apply h.keep; simp [go_sem])
  · refine ⟨?_, ?_, ?_, ?_, ?_⟩ <;> (rw [h.f]; exact World.frozen?_alloc_new w _ T _)
theorem Rv.set5 {w w1 : World} (g : Gr w w1) (a b c d e : Value) : Gr w (((((w1.setCell ⟨w.heap.size, 0, none⟩ a).setCell ⟨w.heap.size, 1, none⟩ b).setCell ⟨w.heap.size, 2, none⟩ c).setCell ⟨w.heap.size, 3, none⟩ d).setCell ⟨w.heap.size, 4, none⟩ e) :=
  ((((g.setCell (Nat.le_refl _) a).setCell (Nat.le_refl _) b).setCell (Nat.le_refl _) c).setCell (Nat.le_refl _) d).setCell (Nat.le_refl _) e
theorem Rv.nofit {j o f3 f7 N : Nat} (h : N = 0 ∨ j ≤ N) (hF : N ≠ 0 → Rv.fits N o f3 f7 = true) (hn : Rv.fits j o f3 f7 = false) : N = 0 ∨ j + 1 ≤ N := by
  rcases h with h | h
  · exact .inl h
  · by_cases e : N = 0
    · exact .inl e
    · right
      have : N ≠ j := fun e2 => by have := hF e; rw [e2, hn] at this; cases this
      omega

set_option maxHeartbeats 16000000 in
set_option maxRecDepth 100000 in
theorem rDecode_c (v : Int) (h0 : 0 ≤ v) (h1 : v < 4294967296) (w : World) :
    Calls Tryd.prog 34 #[.int .u32 v] w fun e w' => e = .returned (Rv.iv (Rv.dec v)) ∧ Gr w w' := by
  by_cases c1 : v = 115
  · subst c1
    go_enter Tryd.func34, Tryd.ntmps34
    go_wp2_with fail
    go_returns
    exact ⟨Rv.ret_iv (by rw [Rv.Ins.ext_iff]; decide +kernel), by (repeat' (first | (with_reducible assumption) | (with_reducible exact Gr.refl _) | (with_reducible refine Gr.alloc ?_ _ _) | (with_reducible refine Gr.drew ?_) | (with_reducible refine Gr.drewN ?_ _) | (with_reducible refine Gr.setCell ?_ ?_ _) | (with_reducible refine Gr.trans ?_ (by assumption)) | omega | (dsimp only; omega) | (simp; done) | (simp; omega)))⟩
  by_cases c2 : v = 1048691
  · subst c2
    go_enter Tryd.func34, Tryd.ntmps34
    go_wp2_with fail
    go_returns
    exact ⟨Rv.ret_iv (by rw [Rv.Ins.ext_iff]; decide +kernel), by (repeat' (first | (with_reducible assumption) | (with_reducible exact Gr.refl _) | (with_reducible refine Gr.alloc ?_ _ _) | (with_reducible refine Gr.drew ?_) | (with_reducible refine Gr.drewN ?_ _) | (with_reducible refine Gr.setCell ?_ ?_ _) | (with_reducible refine Gr.trans ?_ (by assumption)) | omega | (dsimp only; omega) | (simp; done) | (simp; omega)))⟩
  have e1 := Rv.beqF c1
  have e2 := Rv.beqF c2
  have hop : Rv.opI v = ((Rv.opN (v % 128).toNat (v / 4096 % 8).toNat (v / 33554432).toNat : Nat) : Int) := by
    unfold Rv.opI; rw [if_neg c1, if_neg c2]
  have aO : bits .and .u32 v 127 = v % 128 := Rv.andm h0 h1 7 (by decide)
  have a3 : bits .and .u32 (v / 4096) 7 = v / 4096 % 8 := Rv.andm (by omega) (by omega) 3 (by decide)
  have aD : bits .and .u32 (v / 128) 31 = v / 128 % 32 := Rv.andm (by omega) (by omega) 5 (by decide)
  have aS : bits .and .u32 (v / 32768) 31 = v / 32768 % 32 := Rv.andm (by omega) (by omega) 5 (by decide)
  have aT : bits .and .u32 (v / 1048576) 31 = v / 1048576 % 32 := Rv.andm (by omega) (by omega) 5 (by decide)
  have bN := Rv.opN_lt (v % 128).toNat (v / 4096 % 8).toNat (v / 33554432).toNat (by omega) (by omega)
  have hF := fun (hz : Rv.opN (v % 128).toNat (v / 4096 % 8).toNat (v / 33554432).toNat ≠ 0) => Rv.opN_fits (v % 128).toNat (v / 4096 % 8).toNat (v / 33554432).toNat (by omega) (by omega) hz
  have hG := fun (j : Nat) (h1 : j < 48) (h2 : 0 < j) (hf : Rv.fits j (v % 128).toNat (v / 4096 % 8).toNat (v / 33554432).toNat = true) => Rv.fits_opN h1 h2 (by omega) (by omega) hf
  generalize hN : Rv.opN (v % 128).toNat (v / 4096 % 8).toNat (v / 33554432).toNat = N at *
  have HN : Hid _ := hN
  clear hN c1 c2
  have g1 := Gr.refl (w.alloc (.cells #[.int .i64 0, .int .i64 0, .int .i64 0, .int .i64 0, .int .i32 0] 43))
  go_enter Tryd.func34, Tryd.ntmps34
  go_wp2_with fail
  go_loopw [9] (fun s wr => Gr (w.alloc (.cells #[.int .i64 0, .int .i64 0, .int .i64 0, .int .i64 0, .int .i32 0] 43)) wr ∧ ∃ j : Nat, s = .int .i64 j ∧ 1 ≤ j ∧ j ≤ 48 ∧ (N = 0 ∨ j ≤ N)) (fun s _ => 48 - (intOf s).toNat)
  case atStart => exact ⟨g1, 1, rfl, Nat.le_refl _, by omega, by omega⟩
  case round =>
    obtain ⟨g, j, rfl, j0, j1, hj⟩ := hrel
    clear g1
    by_cases e : j = 48
    · subst e
      have hz : N = 0 := by omega
      obtain ⟨⟨r0, r1, r2, r3, r4⟩, q0, q1, q2, q3, q4⟩ := Rv.rbox g
      have gs := Rv.dropGr g
      go_wp2_with fail
      (try simp only [Exit.inBlock, Exit.then]); refine bodyPost_ret (by simp [results, Tryd.results34, go_sem, r0, r1, r2, r3, r4]; try rfl) rfl ?_
      exact ⟨Rv.ret_iv (Rv.dec_none (by rw [hop, hz]; rfl)), Rv.set5 gs _ _ _ _ _⟩
    · have hlt : (j : Int) ≤ 47 := by omega
      by_cases f1 : ((Rv.foN j : Nat) : Int) = v % 128
      · by_cases f2 : j ≤ 3 ∨ ((Rv.f3N j : Nat) : Int) = v / 4096 % 8
        · by_cases f3 : (j < 25 ∨ 45 < j) ∨ ((Rv.f7N j : Nat) : Int) = v / 33554432
          · have hN : N = j := hG j (by omega) (by omega) (by
              unfold Rv.fits
              simp only [Bool.and_eq_true, Bool.or_eq_true, beq_iff_eq, decide_eq_true_eq]
              omega)
            have ho : Rv.opI v = (j : Int) := by rw [hop, hN]
            clear hF hG HN hop hN hj bN
            rcases Rv.lay_cases (j : Int) with ⟨l, c⟩ | ⟨l, c⟩ | ⟨l, c⟩ | ⟨l, c⟩ | ⟨l, c⟩ | ⟨l, c⟩ | ⟨l, c⟩ | ⟨l, c⟩
            · have HD : Hid _ := Rv.dec_1 (w := v) (by rw [ho]; exact l)
              rw [ho] at HD
              have j2 : (j : Int) ≤ 2 := by omega
              clear c l ho
              go_wp2_with fail
              refine (form_c j _ (by omega) (by omega)).mono ?_
              rintro e w2 ⟨rfl, g2⟩
              simp only [Int.toNat_natCast]
              rw [f1]
              obtain ⟨⟨r0, r1, r2, r3, r4⟩, q0, q1, q2, q3, q4⟩ := Rv.rbox (g.trans g2)
              have gs := (Rv.dropGr g).trans g2
              clear f1 f2 f3
              go_wp2_with fail
              (try simp only [Exit.inBlock, Exit.then]); refine bodyPost_ret (by simp [results, Tryd.results34, go_sem, r0, r1, r2, r3, r4]; try rfl) rfl ?_
              refine ⟨Rv.ret_iv ?_, Rv.set5 gs _ _ _ _ _⟩
              rw [HD.out, Rv.uimm h0 h1]
              first | done | rfl
            · have HD : Hid _ := Rv.dec_2 (w := v) (by rw [ho]; exact l)
              rw [ho] at HD
              have j3 : ((j : Int) == 3) = true := by simp; omega
              have c0 : 3 ≤ (j : Int) := by omega
              have c1 : (j : Int) ≤ 3 := by omega
              clear c l ho
              go_wp2_with fail
              refine (form_c j _ (by omega) (by omega)).mono ?_
              rintro e w2 ⟨rfl, g2⟩
              simp only [Int.toNat_natCast]
              rw [f1]
              obtain ⟨⟨r0, r1, r2, r3, r4⟩, q0, q1, q2, q3, q4⟩ := Rv.rbox (g.trans g2)
              have gs := (Rv.dropGr g).trans g2
              clear f1 f2 f3
              go_wp2_with fail
              rw [Rv.jor h0 h1]
              refine (rsigned_21 _ (by omega) (by omega) _).mono ?_
              rintro e w3 ⟨rfl, rfl⟩
              rw [Rv.jimm h0 h1]
              go_wp2_with fail
              (try simp only [Exit.inBlock, Exit.then]); refine bodyPost_ret (by simp [results, Tryd.results34, go_sem, r0, r1, r2, r3, r4]; try rfl) rfl ?_
              refine ⟨Rv.ret_iv ?_, Rv.set5 gs _ _ _ _ _⟩
              rw [HD.out]
              first | done | rfl
            · have HD : Hid _ := Rv.dec_3 (w := v) (by rw [ho]; exact l)
              rw [ho] at HD
              obtain ⟨c0, c1⟩ := c
              have k2 := f2.resolve_left (by omega)
              have x3 := Rv.beqF (show (j : Int) ≠ 3 by omega)
              have x4 := Rv.beqF (show (j : Int) ≠ 4 by omega)
              clear l ho
              go_wp2_with fail
              refine (form_c j _ (by omega) (by omega)).mono ?_
              rintro e w2 ⟨rfl, g2⟩
              simp only [Int.toNat_natCast]
              rw [f1, k2]
              obtain ⟨⟨r0, r1, r2, r3, r4⟩, q0, q1, q2, q3, q4⟩ := Rv.rbox (g.trans g2)
              have gs := (Rv.dropGr g).trans g2
              clear f1 f2 f3
              go_wp2_with fail
              rw [Rv.bor h0 h1]
              refine (rsigned_13 _ (by omega) (by omega) _).mono ?_
              rintro e w3 ⟨rfl, rfl⟩
              rw [Rv.bimm h0 h1]
              go_wp2_with fail
              (try simp only [Exit.inBlock, Exit.then]); refine bodyPost_ret (by simp [results, Tryd.results34, go_sem, r0, r1, r2, r3, r4]; try rfl) rfl ?_
              refine ⟨Rv.ret_iv ?_, Rv.set5 gs _ _ _ _ _⟩
              rw [HD.out]
              first | done | rfl
            · have HD : Hid _ := Rv.dec_4 (w := v) (by rw [ho]; exact l)
              rw [ho] at HD
              obtain ⟨c0, c1⟩ := c
              have k2 := f2.resolve_left (by omega)
              have x3 := Rv.beqF (show (j : Int) ≠ 3 by omega)
              have x4 := Rv.beqF (show (j : Int) ≠ 4 by omega)
              clear l ho
              go_wp2_with fail
              refine (form_c j _ (by omega) (by omega)).mono ?_
              rintro e w2 ⟨rfl, g2⟩
              simp only [Int.toNat_natCast]
              rw [f1, k2]
              obtain ⟨⟨r0, r1, r2, r3, r4⟩, q0, q1, q2, q3, q4⟩ := Rv.rbox (g.trans g2)
              have gs := (Rv.dropGr g).trans g2
              clear f1 f2 f3
              go_wp2_with fail
              rw [Rv.sor h0 h1]
              refine (rsigned_12 _ (by omega) (by omega) _).mono ?_
              rintro e w3 ⟨rfl, rfl⟩
              rw [Rv.simm h0 h1]
              go_wp2_with fail
              (try simp only [Exit.inBlock, Exit.then]); refine bodyPost_ret (by simp [results, Tryd.results34, go_sem, r0, r1, r2, r3, r4]; try rfl) rfl ?_
              refine ⟨Rv.ret_iv ?_, Rv.set5 gs _ _ _ _ _⟩
              rw [HD.out]
              first | done | rfl
            · have HD : Hid _ := Rv.dec_5 (w := v) (by rw [ho]; exact l)
              rw [ho] at HD
              have k2 := f2.resolve_left (by omega)
              have x3 := Rv.beqF (show (j : Int) ≠ 3 by omega)
              clear l ho
              rcases c with c | ⟨c0, c1⟩ | ⟨c0, c1⟩
              · have x4 : ((j : Int) == 4) = true := by simpa using c
                have c0 : 4 ≤ (j : Int) := by omega
                have c1 : (j : Int) ≤ 4 := by omega
                clear c
                go_wp2_with fail
                refine (form_c j _ (by omega) (by omega)).mono ?_
                rintro e w2 ⟨rfl, g2⟩
                simp only [Int.toNat_natCast]
                rw [f1, k2]
                obtain ⟨⟨r0, r1, r2, r3, r4⟩, q0, q1, q2, q3, q4⟩ := Rv.rbox (g.trans g2)
                have gs := (Rv.dropGr g).trans g2
                clear f1 f2 f3
                go_wp2_with fail
                refine (rsigned_12 _ (by omega) (by omega) _).mono ?_
                rintro e w3 ⟨rfl, rfl⟩
                rw [Rv.iimm h0 h1]
                go_wp2_with fail
                (try simp only [Exit.inBlock, Exit.then]); refine bodyPost_ret (by simp [results, Tryd.results34, go_sem, r0, r1, r2, r3, r4]; try rfl) rfl ?_
                refine ⟨Rv.ret_iv ?_, Rv.set5 gs _ _ _ _ _⟩
                rw [HD.out]
                first | done | rfl
              · have x4 := Rv.beqF (show (j : Int) ≠ 4 by omega)
                go_wp2_with fail
                refine (form_c j _ (by omega) (by omega)).mono ?_
                rintro e w2 ⟨rfl, g2⟩
                simp only [Int.toNat_natCast]
                rw [f1, k2]
                obtain ⟨⟨r0, r1, r2, r3, r4⟩, q0, q1, q2, q3, q4⟩ := Rv.rbox (g.trans g2)
                have gs := (Rv.dropGr g).trans g2
                clear f1 f2 f3
                go_wp2_with fail
                refine (rsigned_12 _ (by omega) (by omega) _).mono ?_
                rintro e w3 ⟨rfl, rfl⟩
                rw [Rv.iimm h0 h1]
                go_wp2_with fail
                (try simp only [Exit.inBlock, Exit.then]); refine bodyPost_ret (by simp [results, Tryd.results34, go_sem, r0, r1, r2, r3, r4]; try rfl) rfl ?_
                refine ⟨Rv.ret_iv ?_, Rv.set5 gs _ _ _ _ _⟩
                rw [HD.out]
                first | done | rfl
              · have x4 := Rv.beqF (show (j : Int) ≠ 4 by omega)
                go_wp2_with fail
                refine (form_c j _ (by omega) (by omega)).mono ?_
                rintro e w2 ⟨rfl, g2⟩
                simp only [Int.toNat_natCast]
                rw [f1, k2]
                obtain ⟨⟨r0, r1, r2, r3, r4⟩, q0, q1, q2, q3, q4⟩ := Rv.rbox (g.trans g2)
                have gs := (Rv.dropGr g).trans g2
                clear f1 f2 f3
                go_wp2_with fail
                refine (rsigned_12 _ (by omega) (by omega) _).mono ?_
                rintro e w3 ⟨rfl, rfl⟩
                rw [Rv.iimm h0 h1]
                go_wp2_with fail
                (try simp only [Exit.inBlock, Exit.then]); refine bodyPost_ret (by simp [results, Tryd.results34, go_sem, r0, r1, r2, r3, r4]; try rfl) rfl ?_
                refine ⟨Rv.ret_iv ?_, Rv.set5 gs _ _ _ _ _⟩
                rw [HD.out]
                first | done | rfl
            · have HD : Hid _ := Rv.dec_6 (w := v) (by rw [ho]; exact l)
              rw [ho] at HD
              obtain ⟨c0, c1⟩ := c
              have k2 := f2.resolve_left (by omega)
              have k3 := f3.resolve_left (by omega)
              have x3 := Rv.beqF (show (j : Int) ≠ 3 by omega)
              have x4 := Rv.beqF (show (j : Int) ≠ 4 by omega)
              clear l ho
              go_wp2_with fail
              refine (form_c j _ (by omega) (by omega)).mono ?_
              rintro e w2 ⟨rfl, g2⟩
              simp only [Int.toNat_natCast]
              rw [f1, k2, k3]
              obtain ⟨⟨r0, r1, r2, r3, r4⟩, q0, q1, q2, q3, q4⟩ := Rv.rbox (g.trans g2)
              have gs := (Rv.dropGr g).trans g2
              clear f1 f2 f3
              go_wp2_with fail
              (try simp only [Exit.inBlock, Exit.then]); refine bodyPost_ret (by simp [results, Tryd.results34, go_sem, r0, r1, r2, r3, r4]; try rfl) rfl ?_
              refine ⟨Rv.ret_iv ?_, Rv.set5 gs _ _ _ _ _⟩
              rw [HD.out]
              first | done | rfl
            · have HD : Hid _ := Rv.dec_7 (w := v) (by rw [ho]; exact l)
              rw [ho] at HD
              obtain ⟨c0, c1⟩ := c
              have k2 := f2.resolve_left (by omega)
              have k3 := f3.resolve_left (by omega)
              have x3 := Rv.beqF (show (j : Int) ≠ 3 by omega)
              have x4 := Rv.beqF (show (j : Int) ≠ 4 by omega)
              clear l ho
              go_wp2_with fail
              refine (form_c j _ (by omega) (by omega)).mono ?_
              rintro e w2 ⟨rfl, g2⟩
              simp only [Int.toNat_natCast]
              rw [f1, k2, k3]
              obtain ⟨⟨r0, r1, r2, r3, r4⟩, q0, q1, q2, q3, q4⟩ := Rv.rbox (g.trans g2)
              have gs := (Rv.dropGr g).trans g2
              clear f1 f2 f3
              go_wp2_with fail
              (try simp only [Exit.inBlock, Exit.then]); refine bodyPost_ret (by simp [results, Tryd.results34, go_sem, r0, r1, r2, r3, r4]; try rfl) rfl ?_
              refine ⟨Rv.ret_iv ?_, Rv.set5 gs _ _ _ _ _⟩
              rw [HD.out]
              first | done | rfl
            · have HD : Hid _ := Rv.dec_0 (w := v) (by rw [ho]; exact l)
              rw [ho] at HD
              have c0 : 45 < (j : Int) := by omega
              have k2 := f2.resolve_left (by omega)
              have x3 := Rv.beqF (show (j : Int) ≠ 3 by omega)
              have x4 := Rv.beqF (show (j : Int) ≠ 4 by omega)
              clear c l ho
              go_wp2_with fail
              refine (form_c j _ (by omega) (by omega)).mono ?_
              rintro e w2 ⟨rfl, g2⟩
              simp only [Int.toNat_natCast]
              rw [f1, k2]
              obtain ⟨⟨r0, r1, r2, r3, r4⟩, q0, q1, q2, q3, q4⟩ := Rv.rbox (g.trans g2)
              have gs := (Rv.dropGr g).trans g2
              clear f1 f2 f3
              go_wp2_with fail
              (try simp only [Exit.inBlock, Exit.then]); refine bodyPost_ret (by simp [results, Tryd.results34, go_sem, r0, r1, r2, r3, r4]; try rfl) rfl ?_
              refine ⟨Rv.ret_iv ?_, Rv.set5 gs _ _ _ _ _⟩
              rw [HD.out]
              first | done | rfl
          · have hn : Rv.fits j (v % 128).toNat (v / 4096 % 8).toNat (v / 33554432).toNat = false := by
              cases hh : Rv.fits j (v % 128).toNat (v / 4096 % 8).toNat (v / 33554432).toNat
              · rfl
              · unfold Rv.fits at hh
                simp only [Bool.and_eq_true, Bool.or_eq_true, beq_iff_eq, decide_eq_true_eq] at hh
                exact absurd hh.2 (by omega)
            have hne := Rv.nofit hj hF hn
            have k2 : ((Rv.f3N j : Nat) : Int) = v / 4096 % 8 := f2.resolve_left (by omega)
            have k3 := Rv.beqF (fun h => f3 (.inr h))
            have j25 : (25 : Int) ≤ j := by omega
            have j45 : (j : Int) ≤ 45 := by omega
            clear f2 f3 hn
            clear hF hG hop HN
            go_wp2_with fail
            refine (form_c j _ (by omega) (by omega)).mono ?_
            rintro e w2 ⟨rfl, g2⟩
            simp only [Int.toNat_natCast]
            rw [f1, k2]
            generalize ((Rv.f7N j : Nat) : Int) = c at k3 ⊢
            clear f1 k2
            go_wp2_with fail
            go_roundw
            case rel => exact ⟨g.trans g2, j + 1, by simp, by omega, by omega, hne⟩
            case measure => simp [intOf]; omega
        · have hn : Rv.fits j (v % 128).toNat (v / 4096 % 8).toNat (v / 33554432).toNat = false := by
            cases hh : Rv.fits j (v % 128).toNat (v / 4096 % 8).toNat (v / 33554432).toNat
            · rfl
            · unfold Rv.fits at hh
              simp only [Bool.and_eq_true, Bool.or_eq_true, beq_iff_eq, decide_eq_true_eq] at hh
              exact absurd hh.1.2 (by omega)
          have hne := Rv.nofit hj hF hn
          have k2 := Rv.beqF (fun h => f2 (.inr h))
          have j4 : (3 : Int) < j := by omega
          clear f2 hn
          clear hF hG hop HN
          go_wp2_with fail
          refine (form_c j _ (by omega) (by omega)).mono ?_
          rintro e w2 ⟨rfl, g2⟩
          simp only [Int.toNat_natCast]
          rw [f1]
          generalize ((Rv.f3N j : Nat) : Int) = b at k2 ⊢
          clear f1
          go_wp2_with fail
          go_roundw
          case rel => exact ⟨g.trans g2, j + 1, by simp, by omega, by omega, hne⟩
          case measure => simp [intOf]; omega
      · have hn : Rv.fits j (v % 128).toNat (v / 4096 % 8).toNat (v / 33554432).toNat = false := by
          cases hh : Rv.fits j (v % 128).toNat (v / 4096 % 8).toNat (v / 33554432).toNat
          · rfl
          · unfold Rv.fits at hh
            simp only [Bool.and_eq_true, Bool.or_eq_true, beq_iff_eq, decide_eq_true_eq] at hh
            exact absurd hh.1.1 (by omega)
        have hne := Rv.nofit hj hF hn
        clear hn
        clear hF hG hop HN
        go_wp2_with fail
        refine (form_c j _ (by omega) (by omega)).mono ?_
        rintro e w2 ⟨rfl, g2⟩
        simp only [Int.toNat_natCast]
        generalize ((Rv.foN j : Nat) : Int) = a at f1 ⊢
        go_wp2_with fail
        go_roundw
        case rel => exact ⟨g.trans g2, j + 1, by simp, by omega, by omega, hne⟩
        case measure => simp [intOf]; omega
end Go.Proofs.YtbackacbdfgdoaaDoor
