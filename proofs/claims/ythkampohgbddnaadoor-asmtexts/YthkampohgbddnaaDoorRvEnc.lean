/- LAYER 5's walks: Encode. -/
import Derived.Test.YthkampohgbddnaaDoorRvCho
import Derived.Deep.RegionHeld3
namespace Go.Proofs.YthkampohgbddnaaDoor
open Go.ChangeShapes Go.WideShapes Go.ChangeAt Go.RowKit

theorem Rv.dropGr {w w1 : World} {c : Array Value} {t : TypeId} (h : Gr (w.alloc (.cells c t)) w1) : Gr w w1 := ((Gr.refl w).alloc c t).trans h
theorem Rv.ibox {w w1 : World} {T : TypeId} {i : Rv.Ins} (h : Gr (w.alloc (.cells #[.int .i64 i.op, .int .i64 i.rd, .int .i64 i.rs1, .int .i64 i.rs2, .int .i32 i.imm] T)) w1) :
    w1.cell? ⟨w.heap.size, 0, none⟩ = some (.int .i64 i.op) ∧ w1.cell? ⟨w.heap.size, 1, none⟩ = some (.int .i64 i.rd) ∧ w1.cell? ⟨w.heap.size, 2, none⟩ = some (.int .i64 i.rs1) ∧ w1.cell? ⟨w.heap.size, 3, none⟩ = some (.int .i64 i.rs2) ∧ w1.cell? ⟨w.heap.size, 4, none⟩ = some (.int .i32 i.imm) := by
  refine ⟨?_, ?_, ?_, ?_, ?_⟩ <;> (apply h.keep; simp [go_sem])

theorem Rv.or_two {X A B : Int} (m : Nat) (x0 : 0 ≤ X) (x1 : X < 4294967296) (a0 : 0 ≤ A) (b0 : 0 ≤ B) (ab : A + B < 4294967296) (ha : A < 2 ^ m) (hb : B % 2 ^ m = 0) :
    bits .or .u32 X (A + B) = bits .or .u32 (bits .or .u32 X A) B := by
  have e : A + B = bits .or .u32 B A := by rw [Rv.ormul m b0 hb (by omega) a0 ha (by omega)]; omega
  rw [e, u32_or B A b0 (by omega) a0 (by omega), u32_or X A x0 x1 a0 (by omega)]
  obtain ⟨x, rfl⟩ := Int.eq_ofNat_of_zero_le x0
  obtain ⟨y, rfl⟩ := Int.eq_ofNat_of_zero_le a0
  obtain ⟨z, rfl⟩ := Int.eq_ofNat_of_zero_le b0
  simp only [Int.toNat_natCast]
  have h1 : z ||| y < 2 ^ 32 := Nat.or_lt_two_pow (by omega) (by omega)
  have h2 : x ||| y < 2 ^ 32 := Nat.or_lt_two_pow (by omega) (by omega)
  rw [u32_or_nat x (z ||| y) (by omega) h1, u32_or_nat (x ||| y) z h2 (by omega), Nat.or_assoc, Nat.or_comm z y]
theorem Rv.or_enc {i : Rv.Ins} (h : 1 ≤ i.op ∧ i.op ≤ 49) : bits .or .u32 (Rv.wo i.op) (Rv.cho i) = Rv.enc i := by
  unfold Rv.enc
  rcases Rv.lay_cases i.op with ⟨l, c⟩ | ⟨l, c⟩ | ⟨l, c⟩ | ⟨l, c⟩ | ⟨l, c⟩ | ⟨l, c⟩ | ⟨l, c⟩ | ⟨l, c⟩
  · obtain ⟨n, o, f3, f7, _, _, _, _, _, _, _, e, bo, b3, b7, z3, z7⟩ := Rv.wo_parts h.1 (by omega)
    have z3' := z3 (by omega); have z7' := z7 (by omega)
    rw [Rv.cho_1 l, e]
    obtain ⟨A, hA⟩ : ∃ A, i.rd % 32 = A := ⟨_, rfl⟩
    obtain ⟨B, hB⟩ : ∃ B, i.imm / 4096 % 1048576 = B := ⟨_, rfl⟩
    rw [hA, hB, Rv.or_two 12 (by omega) (by omega) (by omega) (by omega) (by omega) (by omega) (by omega)]
    rw [Rv.orhole (y := 128 * A) 7 12 (by decide) (by omega) (by omega) (by omega) (by omega) (by omega) (by omega) (by omega)]
    rw [Rv.orhole 12 32 (by decide) (by omega) (by omega) (by omega) (by omega) (by omega) (by omega) (by omega)]; omega
  · obtain ⟨n, o, f3, f7, _, _, _, _, _, _, _, e, bo, b3, b7, z3, z7⟩ := Rv.wo_parts h.1 (by omega)
    have z3' := z3 (by omega); have z7' := z7 (by omega)
    rw [Rv.cho_2 l, e]
    obtain ⟨A, hA⟩ : ∃ A, i.rd % 32 = A := ⟨_, rfl⟩
    obtain ⟨B, hB⟩ : ∃ B, i.imm / 4096 % 256 + 256 * (i.imm / 2048 % 2) + 512 * (i.imm / 2 % 1024) + 524288 * (i.imm / 1048576 % 2) = B := ⟨_, rfl⟩
    have hb : 0 ≤ B ∧ B < 1048576 := by omega
    have e2 : 128 * (i.rd % 32) + 4096 * (i.imm / 4096 % 256) + 1048576 * (i.imm / 2048 % 2) + 2097152 * (i.imm / 2 % 1024) + 2147483648 * (i.imm / 1048576 % 2) = 128 * A + 4096 * B := by omega
    have ha : 0 ≤ A ∧ A < 32 := by omega
    rw [e2]; clear e2 hA hB
    rw [Rv.or_two 12 (by omega) (by omega) (by omega) (by omega) (by omega) (by omega) (by omega)]
    rw [Rv.orhole (y := 128 * A) 7 12 (by decide) (by omega) (by omega) (by omega) (by omega) (by omega) (by omega) (by omega)]
    rw [Rv.orhole 12 32 (by decide) (by omega) (by omega) (by omega) (by omega) (by omega) (by omega) (by omega)]; omega
  · obtain ⟨n, o, f3, f7, _, _, _, _, _, _, _, e, bo, b3, b7, z3, z7⟩ := Rv.wo_parts h.1 (by omega)
    have z7' := z7 (by omega)
    rw [Rv.cho_3 l, e]
    obtain ⟨A, hA⟩ : ∃ A, i.imm / 2048 % 2 + 2 * (i.imm / 2 % 16) = A := ⟨_, rfl⟩
    obtain ⟨B, hB⟩ : ∃ B, i.rs1 % 32 + 32 * (i.rs2 % 32) + 1024 * (i.imm / 32 % 64) + 65536 * (i.imm / 4096 % 2) = B := ⟨_, rfl⟩
    have hb : 0 ≤ B ∧ B < 131072 := by omega
    have e2 : 128 * (i.imm / 2048 % 2) + 256 * (i.imm / 2 % 16) + 32768 * (i.rs1 % 32) + 1048576 * (i.rs2 % 32) + 33554432 * (i.imm / 32 % 64) + 2147483648 * (i.imm / 4096 % 2) = 128 * A + 32768 * B := by omega
    have ha : 0 ≤ A ∧ A < 32 := by omega
    rw [e2]; clear e2 hA hB
    rw [Rv.or_two 15 (by omega) (by omega) (by omega) (by omega) (by omega) (by omega) (by omega)]
    rw [Rv.orhole (y := 128 * A) 7 12 (by decide) (by omega) (by omega) (by omega) (by omega) (by omega) (by omega) (by omega)]
    rw [Rv.orhole 15 32 (by decide) (by omega) (by omega) (by omega) (by omega) (by omega) (by omega) (by omega)]; omega
  · obtain ⟨n, o, f3, f7, _, _, _, _, _, _, _, e, bo, b3, b7, z3, z7⟩ := Rv.wo_parts h.1 (by omega)
    have z7' := z7 (by omega)
    rw [Rv.cho_4 l, e]
    obtain ⟨A, hA⟩ : ∃ A, i.imm % 32 = A := ⟨_, rfl⟩
    obtain ⟨B, hB⟩ : ∃ B, i.rs1 % 32 + 32 * (i.rs2 % 32) + 1024 * (i.imm / 32 % 128) = B := ⟨_, rfl⟩
    have hb : 0 ≤ B ∧ B < 131072 := by omega
    have e2 : 128 * (i.imm % 32) + 32768 * (i.rs1 % 32) + 1048576 * (i.rs2 % 32) + 33554432 * (i.imm / 32 % 128) = 128 * A + 32768 * B := by omega
    have ha : 0 ≤ A ∧ A < 32 := by omega
    rw [e2]; clear e2 hA hB
    rw [Rv.or_two 15 (by omega) (by omega) (by omega) (by omega) (by omega) (by omega) (by omega)]
    rw [Rv.orhole (y := 128 * A) 7 12 (by decide) (by omega) (by omega) (by omega) (by omega) (by omega) (by omega) (by omega)]
    rw [Rv.orhole 15 32 (by decide) (by omega) (by omega) (by omega) (by omega) (by omega) (by omega) (by omega)]; omega
  · obtain ⟨n, o, f3, f7, _, _, _, _, _, _, _, e, bo, b3, b7, z3, z7⟩ := Rv.wo_parts h.1 (by omega)
    have z7' := z7 (by omega)
    rw [Rv.cho_5 l, e]
    obtain ⟨A, hA⟩ : ∃ A, i.rd % 32 = A := ⟨_, rfl⟩
    obtain ⟨B, hB⟩ : ∃ B, i.rs1 % 32 + 32 * (i.imm % 4096) = B := ⟨_, rfl⟩
    have hb : 0 ≤ B ∧ B < 131072 := by omega
    have e2 : 128 * (i.rd % 32) + 32768 * (i.rs1 % 32) + 1048576 * (i.imm % 4096) = 128 * A + 32768 * B := by omega
    have ha : 0 ≤ A ∧ A < 32 := by omega
    rw [e2]; clear e2 hA hB
    rw [Rv.or_two 15 (by omega) (by omega) (by omega) (by omega) (by omega) (by omega) (by omega)]
    rw [Rv.orhole (y := 128 * A) 7 12 (by decide) (by omega) (by omega) (by omega) (by omega) (by omega) (by omega) (by omega)]
    rw [Rv.orhole 15 32 (by decide) (by omega) (by omega) (by omega) (by omega) (by omega) (by omega) (by omega)]; omega
  · obtain ⟨n, o, f3, f7, _, _, _, _, _, _, _, e, bo, b3, b7, z3, z7⟩ := Rv.wo_parts h.1 (by omega)
    rw [Rv.cho_6 l, e]
    obtain ⟨A, hA⟩ : ∃ A, i.rd % 32 = A := ⟨_, rfl⟩
    obtain ⟨B, hB⟩ : ∃ B, i.rs1 % 32 + 32 * (i.imm % 32) = B := ⟨_, rfl⟩
    have hb : 0 ≤ B ∧ B < 1024 := by omega
    have e2 : 128 * (i.rd % 32) + 32768 * (i.rs1 % 32) + 1048576 * (i.imm % 32) = 128 * A + 32768 * B := by omega
    have ha : 0 ≤ A ∧ A < 32 := by omega
    rw [e2]; clear e2 hA hB
    rw [Rv.or_two 15 (by omega) (by omega) (by omega) (by omega) (by omega) (by omega) (by omega)]
    rw [Rv.orhole (y := 128 * A) 7 12 (by decide) (by omega) (by omega) (by omega) (by omega) (by omega) (by omega) (by omega)]
    rw [Rv.orhole 15 25 (by decide) (by omega) (by omega) (by omega) (by omega) (by omega) (by omega) (by omega)]; omega
  · obtain ⟨n, o, f3, f7, _, _, _, _, _, _, _, e, bo, b3, b7, z3, z7⟩ := Rv.wo_parts h.1 (by omega)
    rw [Rv.cho_7 l, e]
    obtain ⟨A, hA⟩ : ∃ A, i.rd % 32 = A := ⟨_, rfl⟩
    obtain ⟨B, hB⟩ : ∃ B, i.rs1 % 32 + 32 * (i.rs2 % 32) = B := ⟨_, rfl⟩
    have hb : 0 ≤ B ∧ B < 1024 := by omega
    have e2 : 128 * (i.rd % 32) + 32768 * (i.rs1 % 32) + 1048576 * (i.rs2 % 32) = 128 * A + 32768 * B := by omega
    have ha : 0 ≤ A ∧ A < 32 := by omega
    rw [e2]; clear e2 hA hB
    rw [Rv.or_two 15 (by omega) (by omega) (by omega) (by omega) (by omega) (by omega) (by omega)]
    rw [Rv.orhole (y := 128 * A) 7 12 (by decide) (by omega) (by omega) (by omega) (by omega) (by omega) (by omega) (by omega)]
    rw [Rv.orhole 15 25 (by decide) (by omega) (by omega) (by omega) (by omega) (by omega) (by omega) (by omega)]; omega
  · rw [Rv.cho_0 l]
    obtain h | h | h | h : i.op = 46 ∨ i.op = 47 ∨ i.op = 48 ∨ i.op = 49 := by omega
    all_goals (rw [h]; decide +kernel)
theorem Rv.eqlIns (i k : Rv.Ins) (w : World) : (Op.equalIn 10000 23 (.agg #[.int .i64 i.op, .int .i64 i.rd, .int .i64 i.rs1, .int .i64 i.rs2, .int .i32 i.imm]) (.agg #[.int .i64 k.op, .int .i64 k.rd, .int .i64 k.rs1, .int .i64 k.rs2, .int .i32 k.imm])).run Tryd.prog w = .ok (i.op == k.op && i.rd == k.rd && i.rs1 == k.rs1 && i.rs2 == k.rs2 && i.imm == k.imm) w := by
  rw [show (10000 : Nat) = 9999 + 1 from rfl]
  go_simp
  by_cases h0 : i.op = k.op <;> by_cases h1 : i.rd = k.rd <;> by_cases h2 : i.rs1 = k.rs1 <;> by_cases h3 : i.rs2 = k.rs2 <;> by_cases h4 : i.imm = k.imm <;> simp [h0, h1, h2, h3, h4]
theorem Rv.eqF {i k : Rv.Ins} (h : ¬ i = k) : (i.op == k.op && i.rd == k.rd && i.rs1 == k.rs1 && i.rs2 == k.rs2 && i.imm == k.imm) = false := by
  rw [Rv.Ins.ext_iff] at h
  cases hx : (i.op == k.op && i.rd == k.rd && i.rs1 == k.rs1 && i.rs2 == k.rs2 && i.imm == k.imm)
  · rfl
  · simp at hx; exact absurd ⟨hx.1.1.1.1, hx.1.1.1.2, hx.1.1.2, hx.1.2, hx.2⟩ h
theorem Rv.neqIns {i k : Rv.Ins} (h : ¬ i = k) (w : World) : (binOp .neq 23 (.agg #[.int .i64 i.op, .int .i64 i.rd, .int .i64 i.rs1, .int .i64 i.rs2, .int .i32 i.imm]) (.agg #[.int .i64 k.op, .int .i64 k.rd, .int .i64 k.rs1, .int .i64 k.rs2, .int .i32 k.imm])).run Tryd.prog w = .ok (.bool true) w := by
  rw [run_neq_struct, Rv.eqlIns, Rv.eqF h]; rfl
theorem Rv.eqlInsF {i k : Rv.Ins} (h : ¬ i = k) (w : World) : (binOp .eql 23 (.agg #[.int .i64 i.op, .int .i64 i.rd, .int .i64 i.rs1, .int .i64 i.rs2, .int .i32 i.imm]) (.agg #[.int .i64 k.op, .int .i64 k.rd, .int .i64 k.rs1, .int .i64 k.rs2, .int .i32 k.imm])).run Tryd.prog w = .ok (.bool false) w := by
  rw [run_eql_struct, Rv.eqlIns, Rv.eqF h]; rfl
theorem Encode_unknown (i : Rv.Ins) (w : World) (h : ¬ (1 ≤ i.op ∧ i.op ≤ 49)) :
    Calls Tryd.prog 15 #[Rv.iv i] w fun e w' => e = .returned (.tuple #[.int .u32 0, .int .i64 1]) ∧ Gr w w' := by
  unfold Rv.iv
  have hk : decide (1 ≤ i.op ∧ i.op ≤ 49) = false := by simpa using h
  go_enter Tryd.func15, Tryd.ntmps15
  go_wp2_with (go_at_call 34; refine (known_c _ _).mono ?_; rintro e w' ⟨rfl, rfl⟩; rw [hk])
  go_returns
  exact ⟨rfl, by (repeat' (first | (with_reducible assumption) | (with_reducible exact Gr.refl _) | (with_reducible refine Gr.alloc ?_ _ _) | (with_reducible refine Gr.drew ?_) | (with_reducible refine Gr.drewN ?_ _) | (with_reducible refine Gr.setCell ?_ ?_ _) | (with_reducible refine Gr.trans ?_ (by assumption)) | omega | (dsimp only; omega) | (simp; done) | (simp; omega)))⟩

theorem Encode_good (i : Rv.Ins) (w : World) (ht : Tabs w) (hm : -2147483648 ≤ i.imm ∧ i.imm < 2147483648) (h : Rv.good i) :
    Calls Tryd.prog 15 #[Rv.iv i] w fun e w' => e = .returned (.tuple #[.int .u32 (Rv.enc i), .int .i64 0]) ∧ Gr w w' := by
  unfold Rv.iv
  have hk : decide (1 ≤ i.op ∧ i.op ≤ 49) = true := by simpa using h.1
  have o0 : 0 ≤ i.op := by have := h.1; omega
  have o1 : i.op < 50 := by have := h.1; omega
  have hu := Rv.enc_U32 h.1
  have hd := Rv.dec_enc h hm
  have hwo : w.cell? ⟨0, i.op.toNat, none⟩ = some (.int .u32 (Rv.wo i.op)) := ht.wo i.op.toNat (by omega)
  have hor : bits .or .u32 (Rv.wo i.op) (Rv.cho i) = Rv.enc i := Rv.or_enc h.1
  go_enter Tryd.func15, Tryd.ntmps15
  go_wp2_with (go_at_call 34; refine (known_c _ _).mono ?_; rintro e w' ⟨rfl, rfl⟩; rw [hk])
  have g1 := Gr.refl (w.alloc (.cells #[.int .i64 i.op, .int .i64 i.rd, .int .i64 i.rs1, .int .i64 i.rs2, .int .i32 i.imm] 23))
  go_region_held3 (fun wr => wr.cell? ⟨0, i.op.toNat, none⟩ = some (.int .u32 (Rv.wo i.op)) ∧ wr.cell? ⟨w.heap.size, 0, none⟩ = some (.int .i64 i.op) ∧ wr.cell? ⟨w.heap.size, 1, none⟩ = some (.int .i64 i.rd) ∧ wr.cell? ⟨w.heap.size, 2, none⟩ = some (.int .i64 i.rs1) ∧ wr.cell? ⟨w.heap.size, 3, none⟩ = some (.int .i64 i.rs2) ∧ wr.cell? ⟨w.heap.size, 4, none⟩ = some (.int .i32 i.imm))
    (first | exact ⟨(Rv.dropGr g1).keep hwo, Rv.ibox g1⟩ | exact ⟨(Rv.dropGr g1.drew).keep hwo, Rv.ibox g1.drew⟩)
    (first | (go_at_call 35; refine (chosen_c i _).mono ?_; rintro e w2 ⟨rfl, h2⟩; (first | replace g1 := g1.trans h2 | replace g1 := g1.drew.trans h2); clear h2))
  go_wp2_with fail
  go_region_held3 (fun wr => wr.cell? ⟨w.heap.size, 0, none⟩ = some (.int .i64 i.op) ∧ wr.cell? ⟨w.heap.size, 1, none⟩ = some (.int .i64 i.rd) ∧ wr.cell? ⟨w.heap.size, 2, none⟩ = some (.int .i64 i.rs1) ∧ wr.cell? ⟨w.heap.size, 3, none⟩ = some (.int .i64 i.rs2) ∧ wr.cell? ⟨w.heap.size, 4, none⟩ = some (.int .i32 i.imm))
    (first | exact Rv.ibox g1 | exact Rv.ibox g1.drew)
    (first | (go_at_call 36; refine (Decode_c _ hu.1 hu.2 _ (ht.gr (Rv.dropGr g1).drew)).mono ?_; rintro e w2 ⟨rfl, h2⟩; rw [hd]; unfold Rv.iv; (first | replace g1 := g1.trans h2 | replace g1 := g1.drew.trans h2); clear h2))
  go_wp2
  go_returns
  exact ⟨rfl, Rv.dropGr g1⟩
theorem Encode_known (i : Rv.Ins) (w : World) (ht : Tabs w) (hm : -2147483648 ≤ i.imm ∧ i.imm < 2147483648) (hop : 1 ≤ i.op ∧ i.op ≤ 49) (h : ¬ Rv.good i) :
    Calls Tryd.prog 15 #[Rv.iv i] w fun e w' => e = .returned (.tuple #[.int .u32 0, .int .i64 1]) ∧ Gr w w' := by
  unfold Rv.iv
  have hk : decide (1 ≤ i.op ∧ i.op ≤ 49) = true := by simpa using hop
  have o0 : 0 ≤ i.op := by have := hop; omega
  have o1 : i.op < 50 := by have := hop; omega
  have hu := Rv.enc_U32 hop
  have hne : ¬ Rv.dec (Rv.enc i) = i := fun e => h ((Rv.dec_enc_iff hop hm).1 e)
  obtain ⟨d, hd⟩ : ∃ d, Rv.dec (Rv.enc i) = d := ⟨_, rfl⟩
  rw [hd] at hne
  have hq := fun w => Rv.neqIns hne w
  clear hne
  have hwo : w.cell? ⟨0, i.op.toNat, none⟩ = some (.int .u32 (Rv.wo i.op)) := ht.wo i.op.toNat (by omega)
  have hor : bits .or .u32 (Rv.wo i.op) (Rv.cho i) = Rv.enc i := Rv.or_enc hop
  go_enter Tryd.func15, Tryd.ntmps15
  go_wp2_with (go_at_call 34; refine (known_c _ _).mono ?_; rintro e w' ⟨rfl, rfl⟩; rw [hk])
  have g1 := Gr.refl (w.alloc (.cells #[.int .i64 i.op, .int .i64 i.rd, .int .i64 i.rs1, .int .i64 i.rs2, .int .i32 i.imm] 23))
  go_region_held3 (fun wr => wr.cell? ⟨0, i.op.toNat, none⟩ = some (.int .u32 (Rv.wo i.op)) ∧ wr.cell? ⟨w.heap.size, 0, none⟩ = some (.int .i64 i.op) ∧ wr.cell? ⟨w.heap.size, 1, none⟩ = some (.int .i64 i.rd) ∧ wr.cell? ⟨w.heap.size, 2, none⟩ = some (.int .i64 i.rs1) ∧ wr.cell? ⟨w.heap.size, 3, none⟩ = some (.int .i64 i.rs2) ∧ wr.cell? ⟨w.heap.size, 4, none⟩ = some (.int .i32 i.imm))
    (first | exact ⟨(Rv.dropGr g1).keep hwo, Rv.ibox g1⟩ | exact ⟨(Rv.dropGr g1.drew).keep hwo, Rv.ibox g1.drew⟩)
    (first | (go_at_call 35; refine (chosen_c i _).mono ?_; rintro e w2 ⟨rfl, h2⟩; (first | replace g1 := g1.trans h2 | replace g1 := g1.drew.trans h2); clear h2))
  go_wp2_with fail
  go_region_held3 (fun wr => wr.cell? ⟨w.heap.size, 0, none⟩ = some (.int .i64 i.op) ∧ wr.cell? ⟨w.heap.size, 1, none⟩ = some (.int .i64 i.rd) ∧ wr.cell? ⟨w.heap.size, 2, none⟩ = some (.int .i64 i.rs1) ∧ wr.cell? ⟨w.heap.size, 3, none⟩ = some (.int .i64 i.rs2) ∧ wr.cell? ⟨w.heap.size, 4, none⟩ = some (.int .i32 i.imm))
    (first | exact Rv.ibox g1 | exact Rv.ibox g1.drew)
    (first | (go_at_call 36; refine (Decode_c _ hu.1 hu.2 _ (ht.gr (Rv.dropGr g1).drew)).mono ?_; rintro e w2 ⟨rfl, h2⟩; rw [hd]; unfold Rv.iv; (first | replace g1 := g1.trans h2 | replace g1 := g1.drew.trans h2); clear h2))
  go_wp2
  go_returns
  exact ⟨rfl, Rv.dropGr g1⟩

theorem Encode_bad (i : Rv.Ins) (w : World) (ht : Tabs w) (hm : -2147483648 ≤ i.imm ∧ i.imm < 2147483648) (h : ¬ Rv.good i) :
    Calls Tryd.prog 15 #[Rv.iv i] w fun e w' => e = .returned (.tuple #[.int .u32 0, .int .i64 1]) ∧ Gr w w' := by
  by_cases hop : 1 ≤ i.op ∧ i.op ≤ 49
  · exact Encode_known i w ht hm hop h
  · exact Encode_unknown i w hop
end Go.Proofs.YthkampohgbddnaaDoor
