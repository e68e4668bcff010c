/- LAYER 6: the document's text of an instruction (the reference's Text). -/
import Derived.Test.YthkampohgbddnaaDoorAsmRef1
import Derived.Test.YthkampohgbddnaaDoorAsmLawBack
import Derived.Test.YthkampohgbddnaaDoorRvRef5
import Derived.Deep.RegionHeld3
namespace Go.Proofs.YthkampohgbddnaaDoor
open Go.ChangeShapes Go.WideShapes Go.ChangeAt Go.RowKit

theorem IBox.held {w0 w : World} {i : Rv.Ins} (h : IBox w w0.heap.size i) : w.cell? ⟨w0.heap.size, 0, none⟩ = some (.int .i64 i.op) ∧ w.cell? ⟨w0.heap.size, 1, none⟩ = some (.int .i64 i.rd) ∧ w.cell? ⟨w0.heap.size, 2, none⟩ = some (.int .i64 i.rs1) ∧ w.cell? ⟨w0.heap.size, 3, none⟩ = some (.int .i64 i.rs2) ∧ w.cell? ⟨w0.heap.size, 4, none⟩ = some (.int .i32 i.imm) := ⟨h.c0, h.c1, h.c2, h.c3, h.c4⟩

theorem IBox.drew {w : World} {b : Nat} {i : Rv.Ins} (h : IBox w b i) : IBox w.drew b i := h.bw (Bw.refl w).drew
set_option maxHeartbeats 4000000 in
set_option maxRecDepth 100000 in
theorem rText_good (i : Rv.Ins) (hm : -2147483648 ≤ i.imm ∧ i.imm < 2147483648) (hg : Rv.good i) (w : World) :
    Calls Tryd.prog 11 #[Rv.iv i] w fun e w' => e = .returned (.string (bs (Asm.gtext i))) ∧ Bw w w' := by
  have hE := fun w => rEncode_c i hm w
  have hN := fun w => rName_c i.op w
  rw [Asm.name_eq hg.1] at hN
  have hNum := fun w => rNum_c i.imm hm.1 (by omega) w
  have hnl := (Asm.nm_ne i.op.toNat (by have := hg.1; omega) (by have := hg.1; omega)).2
  have hil := Asm.itoa_len (n := i.imm) (by omega) (by omega)
  obtain ⟨hop, ⟨d0, d1⟩, ⟨s0, s1⟩, ⟨t0, t1⟩, -⟩ := id hg
  have hxd := fun w => rx_c i.rd d0 d1 w
  have hxs := fun w => rx_c i.rs1 s0 s1 w
  have hxt := fun w => rx_c i.rs2 t0 t1 w
  have hib := IBox.new w i 27
  have hb0 := (Bw.refl w).alloc (.cells #[.int .i64 i.op, .int .i64 i.rd, .int .i64 i.rs1, .int .i64 i.rs2, .int .i32 i.imm] 27)
  have hwi : IntKind.i64.wrap i.imm = i.imm := by rw [IntKind.wrap_i64]; omega
  unfold Rv.iv at hE ⊢
  have HG : Hid (Asm.gtext i = Rv.nmT.getD i.op.toNat [] ++ ((if Asm.shape i.op = [] then [] else [32]) ++ Asm.ptexts i (Asm.shape i.op))) := rfl
  generalize Asm.gtext i = G at *
  generalize Rv.nmT.getD i.op.toNat [] = nm at *
  go_enter Tryd.func11, Tryd.ntmps11
  go_wp2_with fail
  refine (hE _).mono ?_
  rintro e w1 ⟨x, b, rfl, g1, hbi, -⟩
  obtain rfl : b = true := hbi.2 hg
  have hB := hib.bw g1.bw
  have hW := hb0.gr g1
  clear hib hb0 hE hbi g1
  have hH := hB.held
  go_wp2_with fail
  go_region_held3 (fun wr => wr.cell? ⟨w.heap.size, 0, none⟩ = some (.int .i64 i.op) ∧ wr.cell? ⟨w.heap.size, 1, none⟩ = some (.int .i64 i.rd) ∧ wr.cell? ⟨w.heap.size, 2, none⟩ = some (.int .i64 i.rs1) ∧ wr.cell? ⟨w.heap.size, 3, none⟩ = some (.int .i64 i.rs2) ∧ wr.cell? ⟨w.heap.size, 4, none⟩ = some (.int .i32 i.imm))
    (first | exact hB.held | exact hB.drew.held)
    (first
      | (go_at_call 21; refine (hN _).mono ?_; rintro e w3 ⟨rfl, h2⟩; (first | (replace hB := hB.bw h2.bw; replace hW := hW.trans h2.bw) | (replace hB := hB.drew.bw h2.bw; replace hW := hW.drew.trans h2.bw)); clear h2)
      | (go_at_call 22; refine (hNum _).mono ?_; rintro e w3 ⟨rfl, h2⟩; (first | (replace hB := hB.bw h2; replace hW := hW.trans h2) | (replace hB := hB.drew.bw h2; replace hW := hW.drew.trans h2)); clear h2))
  obtain ⟨q0, q1, q2, q3, q4⟩ := hB.held
  have hl1 := Asm.itoa_len (n := i.rd) (by omega) (by omega)
  have hl2 := Asm.itoa_len (n := i.rs1) (by omega) (by omega)
  have hl3 := Asm.itoa_len (n := i.rs2) (by omega) (by omega)
  clear hN hNum hxd hxs hxt hg
  have hDg : ∀ w, Calls Tryd.prog 24 #[.int .u64 (i.imm % 4294967296 / 4096)] w fun e w' => e = .returned (.string (bs (Lib.itoa (i.imm % 4294967296 / 4096)))) ∧ Bw w w' := fun w => by
    have hD := rDigits_c (i.imm % 4294967296 / 4096).toNat (i.imm % 4294967296 / 4096).toNat (Nat.le_refl _) (by omega) w
    rw [show (((i.imm % 4294967296 / 4096).toNat : Nat) : Int) = i.imm % 4294967296 / 4096 by omega] at hD
    rw [show Lib.itoa (i.imm % 4294967296 / 4096) = Lib.decDigits (i.imm % 4294967296 / 4096).toNat by unfold Lib.itoa; rw [if_neg (by omega)]]
    exact hD
  have hl4 := Asm.itoa_len (n := i.imm % 4294967296 / 4096) (by omega) (by omega)
  have hu1 : IntKind.u32.wrap i.imm = i.imm % 4294967296 := by rw [IntKind.wrap_u32]
  have hu2 : IntKind.u64.wrap (i.imm % 4294967296 / 4096) = i.imm % 4294967296 / 4096 := by rw [IntKind.wrap_u64]; omega
  rcases Asm.shape_all i.op with ⟨h, hs⟩ | ⟨⟨h, h2⟩, hs⟩ | ⟨⟨h, h2⟩, hs⟩ | ⟨⟨h, h2⟩, hs⟩ | ⟨⟨h, h2⟩, hs⟩ | ⟨⟨h, h2⟩, hs⟩ | ⟨⟨h, h2⟩, hs⟩ | ⟨⟨h, h2⟩, hs⟩ | ⟨h, hs⟩
  · have HS : Hid _ := hs
    clear hs
    have k1 : ¬ 9223372036854775807 < nm.length + 1 := by omega
    have k2 : ¬ 9223372036854775807 < nm.length + 1 + ((Lib.itoa i.rd).length + 1) := by omega
    have k3 : ¬ 9223372036854775807 < nm.length + 1 + ((Lib.itoa i.rd).length + 1) + 2 := by omega
    have k4 : ¬ 9223372036854775807 < nm.length + 1 + ((Lib.itoa i.rd).length + 1) + 2 + (Lib.itoa (i.imm % 4294967296 / 4096)).length := by omega
    go_wp2_with fail
    go_region_held3 (fun wr => wr.cell? ⟨w.heap.size, 0, none⟩ = some (.int .i64 i.op) ∧ wr.cell? ⟨w.heap.size, 1, none⟩ = some (.int .i64 i.rd) ∧ wr.cell? ⟨w.heap.size, 2, none⟩ = some (.int .i64 i.rs1) ∧ wr.cell? ⟨w.heap.size, 3, none⟩ = some (.int .i64 i.rs2) ∧ wr.cell? ⟨w.heap.size, 4, none⟩ = some (.int .i32 i.imm))
      (first | exact hB.held | exact hB.drew.held)
      (first
        | (go_at_call 23; refine (rx_c _ (by assumption) (by assumption) _).mono ?_; rintro e w3 ⟨rfl, h2⟩; (first | (replace hB := hB.bw h2; replace hW := hW.trans h2) | (replace hB := hB.drew.bw h2; replace hW := hW.drew.trans h2)); clear h2)
        | (go_at_call 24; refine (hDg _).mono ?_; rintro e w3 ⟨rfl, h2⟩; (first | (replace hB := hB.bw h2; replace hW := hW.trans h2) | (replace hB := hB.drew.bw h2; replace hW := hW.drew.trans h2)); clear h2))
    go_wp2_with fail
    go_ret
    refine ⟨Asm.ret_s ?_, (by first | exact hW | exact hW.drew)⟩
    rw [show G = _ from HG, show _ = _ from HS]
    simp only [show (⟨#[32]⟩ : ByteArray) = bs [32] from rfl, show (⟨#[44, 32]⟩ : ByteArray) = bs [44, 32] from rfl, bs_app]
    congr 1
    simp [Asm.ptexts, Asm.ptext]
  · have HS : Hid _ := hs
    clear hs
    have e3 : (i.op == 3) = true := by simp; omega
    have e4 : (i.op == 4) = false := by simp; omega
    go_wp2_with (go_at_call 23; refine (rx_c _ (by assumption) (by assumption) _).mono ?_; rintro e w3 ⟨rfl, h2⟩; replace hW := hW.trans h2; clear h2)
    go_ret
    refine ⟨Asm.ret_s ?_, (by first | exact hW | exact hW.drew)⟩
    rw [show G = _ from HG, show _ = _ from HS]
    simp only [show (⟨#[32]⟩ : ByteArray) = bs [32] from rfl, show (⟨#[44, 32]⟩ : ByteArray) = bs [44, 32] from rfl, bs_app]
    congr 1
    simp [Asm.ptexts, Asm.ptext]
  · have HS : Hid _ := hs
    clear hs
    have e3 : (i.op == 3) = false := by simp; omega
    have e4 : (i.op == 4) = true := by simp; omega
    have k1 : ¬ 9223372036854775807 < nm.length + 1 := by omega
    have k2 : ¬ 9223372036854775807 < nm.length + 1 + ((Lib.itoa i.rd).length + 1) := by omega
    have k3 : ¬ 9223372036854775807 < nm.length + 1 + ((Lib.itoa i.rd).length + 1) + 2 := by omega
    have k4 : ¬ 9223372036854775807 < nm.length + 1 + ((Lib.itoa i.rd).length + 1) + 2 + (Lib.itoa i.imm).length := by omega
    have k5 : ¬ 9223372036854775807 < nm.length + 1 + ((Lib.itoa i.rd).length + 1) + 2 + (Lib.itoa i.imm).length + 1 := by omega
    have k6 : ¬ 9223372036854775807 < nm.length + 1 + ((Lib.itoa i.rd).length + 1) + 2 + (Lib.itoa i.imm).length + 1 + ((Lib.itoa i.rs1).length + 1) := by omega
    have k7 : ¬ 9223372036854775807 < nm.length + 1 + ((Lib.itoa i.rd).length + 1) + 2 + (Lib.itoa i.imm).length + 1 + ((Lib.itoa i.rs1).length + 1) + 1 := by omega
    go_wp2_with fail
    go_region_held3 (fun wr => wr.cell? ⟨w.heap.size, 0, none⟩ = some (.int .i64 i.op) ∧ wr.cell? ⟨w.heap.size, 1, none⟩ = some (.int .i64 i.rd) ∧ wr.cell? ⟨w.heap.size, 2, none⟩ = some (.int .i64 i.rs1) ∧ wr.cell? ⟨w.heap.size, 3, none⟩ = some (.int .i64 i.rs2) ∧ wr.cell? ⟨w.heap.size, 4, none⟩ = some (.int .i32 i.imm))
      (first | exact hB.held | exact hB.drew.held)
      (first
        | (go_at_call 23; refine (rx_c _ (by assumption) (by assumption) _).mono ?_; rintro e w3 ⟨rfl, h2⟩; (first | (replace hB := hB.bw h2; replace hW := hW.trans h2) | (replace hB := hB.drew.bw h2; replace hW := hW.drew.trans h2)); clear h2)
        | (go_at_call 24; refine (hDg _).mono ?_; rintro e w3 ⟨rfl, h2⟩; (first | (replace hB := hB.bw h2; replace hW := hW.trans h2) | (replace hB := hB.drew.bw h2; replace hW := hW.drew.trans h2)); clear h2))
    go_wp2_with fail
    go_ret
    refine ⟨Asm.ret_s ?_, (by first | exact hW | exact hW.drew)⟩
    rw [show G = _ from HG, show _ = _ from HS]
    simp only [show (⟨#[32]⟩ : ByteArray) = bs [32] from rfl, show (⟨#[44, 32]⟩ : ByteArray) = bs [44, 32] from rfl, show (⟨#[40]⟩ : ByteArray) = bs [40] from rfl, show (⟨#[41]⟩ : ByteArray) = bs [41] from rfl, bs_app]
    congr 1
    simp [Asm.ptexts, Asm.ptext]
  · have HS : Hid _ := hs
    clear hs
    have e3 : (i.op == 3) = false := by simp; omega
    have e4 : (i.op == 4) = false := by simp; omega
    have k1 : ¬ 9223372036854775807 < nm.length + 1 := by omega
    have k2 : ¬ 9223372036854775807 < nm.length + 1 + ((Lib.itoa i.rs1).length + 1) := by omega
    have k3 : ¬ 9223372036854775807 < nm.length + 1 + ((Lib.itoa i.rs1).length + 1) + 2 := by omega
    have k4 : ¬ 9223372036854775807 < nm.length + 1 + ((Lib.itoa i.rs1).length + 1) + 2 + ((Lib.itoa i.rs2).length + 1) := by omega
    have k5 : ¬ 9223372036854775807 < nm.length + 1 + ((Lib.itoa i.rs1).length + 1) + 2 + ((Lib.itoa i.rs2).length + 1) + 2 := by omega
    have k6 : ¬ 9223372036854775807 < nm.length + 1 + ((Lib.itoa i.rs1).length + 1) + 2 + ((Lib.itoa i.rs2).length + 1) + 2 + (Lib.itoa i.imm).length := by omega
    go_wp2_with fail
    go_region_held3 (fun wr => wr.cell? ⟨w.heap.size, 0, none⟩ = some (.int .i64 i.op) ∧ wr.cell? ⟨w.heap.size, 1, none⟩ = some (.int .i64 i.rd) ∧ wr.cell? ⟨w.heap.size, 2, none⟩ = some (.int .i64 i.rs1) ∧ wr.cell? ⟨w.heap.size, 3, none⟩ = some (.int .i64 i.rs2) ∧ wr.cell? ⟨w.heap.size, 4, none⟩ = some (.int .i32 i.imm))
      (first | exact hB.held | exact hB.drew.held)
      (first
        | (go_at_call 23; refine (rx_c _ (by assumption) (by assumption) _).mono ?_; rintro e w3 ⟨rfl, h2⟩; (first | (replace hB := hB.bw h2; replace hW := hW.trans h2) | (replace hB := hB.drew.bw h2; replace hW := hW.drew.trans h2)); clear h2)
        | (go_at_call 24; refine (hDg _).mono ?_; rintro e w3 ⟨rfl, h2⟩; (first | (replace hB := hB.bw h2; replace hW := hW.trans h2) | (replace hB := hB.drew.bw h2; replace hW := hW.drew.trans h2)); clear h2))
    go_wp2_with fail
    go_ret
    refine ⟨Asm.ret_s ?_, (by first | exact hW | exact hW.drew)⟩
    rw [show G = _ from HG, show _ = _ from HS]
    simp only [show (⟨#[32]⟩ : ByteArray) = bs [32] from rfl, show (⟨#[44, 32]⟩ : ByteArray) = bs [44, 32] from rfl, bs_app]
    congr 1
    simp [Asm.ptexts, Asm.ptext]
  · have HS : Hid _ := hs
    clear hs
    have e3 : (i.op == 3) = false := by simp; omega
    have e4 : (i.op == 4) = false := by simp; omega
    have k1 : ¬ 9223372036854775807 < nm.length + 1 := by omega
    have k2 : ¬ 9223372036854775807 < nm.length + 1 + ((Lib.itoa i.rd).length + 1) := by omega
    have k3 : ¬ 9223372036854775807 < nm.length + 1 + ((Lib.itoa i.rd).length + 1) + 2 := by omega
    have k4 : ¬ 9223372036854775807 < nm.length + 1 + ((Lib.itoa i.rd).length + 1) + 2 + (Lib.itoa i.imm).length := by omega
    have k5 : ¬ 9223372036854775807 < nm.length + 1 + ((Lib.itoa i.rd).length + 1) + 2 + (Lib.itoa i.imm).length + 1 := by omega
    have k6 : ¬ 9223372036854775807 < nm.length + 1 + ((Lib.itoa i.rd).length + 1) + 2 + (Lib.itoa i.imm).length + 1 + ((Lib.itoa i.rs1).length + 1) := by omega
    have k7 : ¬ 9223372036854775807 < nm.length + 1 + ((Lib.itoa i.rd).length + 1) + 2 + (Lib.itoa i.imm).length + 1 + ((Lib.itoa i.rs1).length + 1) + 1 := by omega
    go_wp2_with fail
    go_region_held3 (fun wr => wr.cell? ⟨w.heap.size, 0, none⟩ = some (.int .i64 i.op) ∧ wr.cell? ⟨w.heap.size, 1, none⟩ = some (.int .i64 i.rd) ∧ wr.cell? ⟨w.heap.size, 2, none⟩ = some (.int .i64 i.rs1) ∧ wr.cell? ⟨w.heap.size, 3, none⟩ = some (.int .i64 i.rs2) ∧ wr.cell? ⟨w.heap.size, 4, none⟩ = some (.int .i32 i.imm))
      (first | exact hB.held | exact hB.drew.held)
      (first
        | (go_at_call 23; refine (rx_c _ (by assumption) (by assumption) _).mono ?_; rintro e w3 ⟨rfl, h2⟩; (first | (replace hB := hB.bw h2; replace hW := hW.trans h2) | (replace hB := hB.drew.bw h2; replace hW := hW.drew.trans h2)); clear h2)
        | (go_at_call 24; refine (hDg _).mono ?_; rintro e w3 ⟨rfl, h2⟩; (first | (replace hB := hB.bw h2; replace hW := hW.trans h2) | (replace hB := hB.drew.bw h2; replace hW := hW.drew.trans h2)); clear h2))
    go_wp2_with fail
    go_ret
    refine ⟨Asm.ret_s ?_, (by first | exact hW | exact hW.drew)⟩
    rw [show G = _ from HG, show _ = _ from HS]
    simp only [show (⟨#[32]⟩ : ByteArray) = bs [32] from rfl, show (⟨#[44, 32]⟩ : ByteArray) = bs [44, 32] from rfl, show (⟨#[40]⟩ : ByteArray) = bs [40] from rfl, show (⟨#[41]⟩ : ByteArray) = bs [41] from rfl, bs_app]
    congr 1
    simp [Asm.ptexts, Asm.ptext]
  · have HS : Hid _ := hs
    clear hs
    have e3 : (i.op == 3) = false := by simp; omega
    have e4 : (i.op == 4) = false := by simp; omega
    have k1 : ¬ 9223372036854775807 < nm.length + 1 := by omega
    have k2 : ¬ 9223372036854775807 < nm.length + 1 + ((Lib.itoa i.rs2).length + 1) := by omega
    have k3 : ¬ 9223372036854775807 < nm.length + 1 + ((Lib.itoa i.rs2).length + 1) + 2 := by omega
    have k4 : ¬ 9223372036854775807 < nm.length + 1 + ((Lib.itoa i.rs2).length + 1) + 2 + (Lib.itoa i.imm).length := by omega
    have k5 : ¬ 9223372036854775807 < nm.length + 1 + ((Lib.itoa i.rs2).length + 1) + 2 + (Lib.itoa i.imm).length + 1 := by omega
    have k6 : ¬ 9223372036854775807 < nm.length + 1 + ((Lib.itoa i.rs2).length + 1) + 2 + (Lib.itoa i.imm).length + 1 + ((Lib.itoa i.rs1).length + 1) := by omega
    have k7 : ¬ 9223372036854775807 < nm.length + 1 + ((Lib.itoa i.rs2).length + 1) + 2 + (Lib.itoa i.imm).length + 1 + ((Lib.itoa i.rs1).length + 1) + 1 := by omega
    go_wp2_with fail
    go_region_held3 (fun wr => wr.cell? ⟨w.heap.size, 0, none⟩ = some (.int .i64 i.op) ∧ wr.cell? ⟨w.heap.size, 1, none⟩ = some (.int .i64 i.rd) ∧ wr.cell? ⟨w.heap.size, 2, none⟩ = some (.int .i64 i.rs1) ∧ wr.cell? ⟨w.heap.size, 3, none⟩ = some (.int .i64 i.rs2) ∧ wr.cell? ⟨w.heap.size, 4, none⟩ = some (.int .i32 i.imm))
      (first | exact hB.held | exact hB.drew.held)
      (first
        | (go_at_call 23; refine (rx_c _ (by assumption) (by assumption) _).mono ?_; rintro e w3 ⟨rfl, h2⟩; (first | (replace hB := hB.bw h2; replace hW := hW.trans h2) | (replace hB := hB.drew.bw h2; replace hW := hW.drew.trans h2)); clear h2)
        | (go_at_call 24; refine (hDg _).mono ?_; rintro e w3 ⟨rfl, h2⟩; (first | (replace hB := hB.bw h2; replace hW := hW.trans h2) | (replace hB := hB.drew.bw h2; replace hW := hW.drew.trans h2)); clear h2))
    go_wp2_with fail
    go_ret
    refine ⟨Asm.ret_s ?_, (by first | exact hW | exact hW.drew)⟩
    rw [show G = _ from HG, show _ = _ from HS]
    simp only [show (⟨#[32]⟩ : ByteArray) = bs [32] from rfl, show (⟨#[44, 32]⟩ : ByteArray) = bs [44, 32] from rfl, show (⟨#[40]⟩ : ByteArray) = bs [40] from rfl, show (⟨#[41]⟩ : ByteArray) = bs [41] from rfl, bs_app]
    congr 1
    simp [Asm.ptexts, Asm.ptext]
  · have HS : Hid _ := hs
    clear hs
    have e3 : (i.op == 3) = false := by simp; omega
    have e4 : (i.op == 4) = false := by simp; omega
    have k1 : ¬ 9223372036854775807 < nm.length + 1 := by omega
    have k2 : ¬ 9223372036854775807 < nm.length + 1 + ((Lib.itoa i.rd).length + 1) := by omega
    have k3 : ¬ 9223372036854775807 < nm.length + 1 + ((Lib.itoa i.rd).length + 1) + 2 := by omega
    have k4 : ¬ 9223372036854775807 < nm.length + 1 + ((Lib.itoa i.rd).length + 1) + 2 + ((Lib.itoa i.rs1).length + 1) := by omega
    have k5 : ¬ 9223372036854775807 < nm.length + 1 + ((Lib.itoa i.rd).length + 1) + 2 + ((Lib.itoa i.rs1).length + 1) + 2 := by omega
    have k6 : ¬ 9223372036854775807 < nm.length + 1 + ((Lib.itoa i.rd).length + 1) + 2 + ((Lib.itoa i.rs1).length + 1) + 2 + (Lib.itoa i.imm).length := by omega
    go_wp2_with fail
    go_region_held3 (fun wr => wr.cell? ⟨w.heap.size, 0, none⟩ = some (.int .i64 i.op) ∧ wr.cell? ⟨w.heap.size, 1, none⟩ = some (.int .i64 i.rd) ∧ wr.cell? ⟨w.heap.size, 2, none⟩ = some (.int .i64 i.rs1) ∧ wr.cell? ⟨w.heap.size, 3, none⟩ = some (.int .i64 i.rs2) ∧ wr.cell? ⟨w.heap.size, 4, none⟩ = some (.int .i32 i.imm))
      (first | exact hB.held | exact hB.drew.held)
      (first
        | (go_at_call 23; refine (rx_c _ (by assumption) (by assumption) _).mono ?_; rintro e w3 ⟨rfl, h2⟩; (first | (replace hB := hB.bw h2; replace hW := hW.trans h2) | (replace hB := hB.drew.bw h2; replace hW := hW.drew.trans h2)); clear h2)
        | (go_at_call 24; refine (hDg _).mono ?_; rintro e w3 ⟨rfl, h2⟩; (first | (replace hB := hB.bw h2; replace hW := hW.trans h2) | (replace hB := hB.drew.bw h2; replace hW := hW.drew.trans h2)); clear h2))
    go_wp2_with fail
    go_ret
    refine ⟨Asm.ret_s ?_, (by first | exact hW | exact hW.drew)⟩
    rw [show G = _ from HG, show _ = _ from HS]
    simp only [show (⟨#[32]⟩ : ByteArray) = bs [32] from rfl, show (⟨#[44, 32]⟩ : ByteArray) = bs [44, 32] from rfl, bs_app]
    congr 1
    simp [Asm.ptexts, Asm.ptext]
  · have HS : Hid _ := hs
    clear hs
    have e3 : (i.op == 3) = false := by simp; omega
    have e4 : (i.op == 4) = false := by simp; omega
    have k1 : ¬ 9223372036854775807 < nm.length + 1 := by omega
    have k2 : ¬ 9223372036854775807 < nm.length + 1 + ((Lib.itoa i.rd).length + 1) := by omega
    have k3 : ¬ 9223372036854775807 < nm.length + 1 + ((Lib.itoa i.rd).length + 1) + 2 := by omega
    have k4 : ¬ 9223372036854775807 < nm.length + 1 + ((Lib.itoa i.rd).length + 1) + 2 + ((Lib.itoa i.rs1).length + 1) := by omega
    have k5 : ¬ 9223372036854775807 < nm.length + 1 + ((Lib.itoa i.rd).length + 1) + 2 + ((Lib.itoa i.rs1).length + 1) + 2 := by omega
    have k6 : ¬ 9223372036854775807 < nm.length + 1 + ((Lib.itoa i.rd).length + 1) + 2 + ((Lib.itoa i.rs1).length + 1) + 2 + ((Lib.itoa i.rs2).length + 1) := by omega
    go_wp2_with fail
    go_region_held3 (fun wr => wr.cell? ⟨w.heap.size, 0, none⟩ = some (.int .i64 i.op) ∧ wr.cell? ⟨w.heap.size, 1, none⟩ = some (.int .i64 i.rd) ∧ wr.cell? ⟨w.heap.size, 2, none⟩ = some (.int .i64 i.rs1) ∧ wr.cell? ⟨w.heap.size, 3, none⟩ = some (.int .i64 i.rs2) ∧ wr.cell? ⟨w.heap.size, 4, none⟩ = some (.int .i32 i.imm))
      (first | exact hB.held | exact hB.drew.held)
      (first
        | (go_at_call 23; refine (rx_c _ (by assumption) (by assumption) _).mono ?_; rintro e w3 ⟨rfl, h2⟩; (first | (replace hB := hB.bw h2; replace hW := hW.trans h2) | (replace hB := hB.drew.bw h2; replace hW := hW.drew.trans h2)); clear h2)
        | (go_at_call 24; refine (hDg _).mono ?_; rintro e w3 ⟨rfl, h2⟩; (first | (replace hB := hB.bw h2; replace hW := hW.trans h2) | (replace hB := hB.drew.bw h2; replace hW := hW.drew.trans h2)); clear h2))
    go_wp2_with fail
    go_ret
    refine ⟨Asm.ret_s ?_, (by first | exact hW | exact hW.drew)⟩
    rw [show G = _ from HG, show _ = _ from HS]
    simp only [show (⟨#[32]⟩ : ByteArray) = bs [32] from rfl, show (⟨#[44, 32]⟩ : ByteArray) = bs [44, 32] from rfl, bs_app]
    congr 1
    simp [Asm.ptexts, Asm.ptext]
  · have HS : Hid _ := hs
    clear hs
    have e3 : (i.op == 3) = false := by simp; omega
    have e4 : (i.op == 4) = false := by simp; omega
    go_wp2_with fail
    go_ret
    refine ⟨Asm.ret_s ?_, (by first | exact hW | exact hW.drew)⟩
    rw [show G = _ from HG, show _ = _ from HS]
    simp [Asm.ptexts]
end Go.Proofs.YthkampohgbddnaaDoor
