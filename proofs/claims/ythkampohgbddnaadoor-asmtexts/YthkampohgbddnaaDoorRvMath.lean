/- PLAIN MATHEMATICS OF LAYER 5: words there and back. -/
import Derived.Test.YthkampohgbddnaaDoorRv
namespace Go.Proofs.YthkampohgbddnaaDoor.Rv
open Alu
theorem j_parts {E o r p1 p2 p3 p4 : Int} (ho : 0 ≤ o ∧ o < 128) (hr : 0 ≤ r ∧ r < 32) (h1 : 0 ≤ p1 ∧ p1 < 256) (h2 : 0 ≤ p2 ∧ p2 < 2) (h3 : 0 ≤ p3 ∧ p3 < 1024) (_ : 0 ≤ p4 ∧ p4 < 2)
    (e : E = o + 128 * r + 4096 * p1 + 1048576 * p2 + 2097152 * p3 + 2147483648 * p4) : E % 128 = o ∧ E / 128 % 32 = r ∧ E / 4096 % 256 = p1 ∧ E / 1048576 % 2 = p2 ∧ E / 2097152 % 1024 = p3 ∧ E / 2147483648 = p4 := by
  refine ⟨?_, ?_, ?_, ?_, ?_, ?_⟩ <;> omega
theorem j_imm {m : Int} (h0 : -1048576 ≤ m) (h1 : m ≤ 1048574) (h2 : m % 2 = 0) : 4096 * (m / 4096 % 256) + 2048 * (m / 2048 % 2) + 2 * (m / 2 % 1024) - 1048576 * (m / 1048576 % 2) = m := by
  have a1 : m / 2048 = 2 * (m / 4096) + m / 2048 % 2 := by omega
  have a2 : m / 2 = 1024 * (m / 2048) + m / 2 % 1024 := by omega
  have a3 : m / 4096 = 256 * (m / 1048576) + m / 4096 % 256 := by omega
  have a4 : m / 1048576 = - (m / 1048576 % 2) := by omega
  omega
theorem b_parts {E o f3 s t p1 p2 p3 p4 : Int} (ho : 0 ≤ o ∧ o < 128) (hf : 0 ≤ f3 ∧ f3 < 8) (hs : 0 ≤ s ∧ s < 32) (ht : 0 ≤ t ∧ t < 32) (h1 : 0 ≤ p1 ∧ p1 < 2) (h2 : 0 ≤ p2 ∧ p2 < 16) (h3 : 0 ≤ p3 ∧ p3 < 64) (_ : 0 ≤ p4 ∧ p4 < 2)
    (e : E = o + 4096 * f3 + 128 * p1 + 256 * p2 + 32768 * s + 1048576 * t + 33554432 * p3 + 2147483648 * p4) :
    E % 128 = o ∧ E / 4096 % 8 = f3 ∧ E / 128 % 2 = p1 ∧ E / 256 % 16 = p2 ∧ E / 32768 % 32 = s ∧ E / 1048576 % 32 = t ∧ E / 33554432 % 64 = p3 ∧ E / 2147483648 = p4 := by
  refine ⟨?_, ?_, ?_, ?_, ?_, ?_, ?_, ?_⟩ <;> omega
theorem b_imm {m : Int} (h0 : -4096 ≤ m) (h1 : m ≤ 4094) (h2 : m % 2 = 0) : 2048 * (m / 2048 % 2) + 32 * (m / 32 % 64) + 2 * (m / 2 % 16) - 4096 * (m / 4096 % 2) = m := by
  have a1 : m / 2 = 16 * (m / 32) + m / 2 % 16 := by omega
  have a2 : m / 32 = 64 * (m / 2048) + m / 32 % 64 := by omega
  have a3 : m / 2048 = 2 * (m / 4096) + m / 2048 % 2 := by omega
  have a4 : m / 4096 = - (m / 4096 % 2) := by omega
  omega
theorem s_parts {E o f3 d s t q : Int} (ho : 0 ≤ o ∧ o < 128) (hf : 0 ≤ f3 ∧ f3 < 8) (hs : 0 ≤ s ∧ s < 32) (ht : 0 ≤ t ∧ t < 32) (h1 : 0 ≤ d ∧ d < 32) (_ : 0 ≤ q ∧ q < 128)
    (e : E = o + 4096 * f3 + 128 * d + 32768 * s + 1048576 * t + 33554432 * q) :
    E % 128 = o ∧ E / 4096 % 8 = f3 ∧ E / 128 % 32 = d ∧ E / 32768 % 32 = s ∧ E / 1048576 % 32 = t ∧ E / 33554432 = q ∧ E / 2147483648 = q / 64 ∧ E / 1048576 = t + 32 * q := by
  refine ⟨?_, ?_, ?_, ?_, ?_, ?_, ?_, ?_⟩ <;> omega
theorem s_imm {m : Int} (h0 : -2048 ≤ m) (h1 : m ≤ 2047) : 32 * (m / 32 % 128 % 64) + m % 32 - 2048 * (m / 32 % 128 / 64) = m := by omega
theorem i_imm {m : Int} (h0 : -2048 ≤ m) (h1 : m ≤ 2047) : (m % 32 + 32 * (m / 32 % 128)) % 2048 - 2048 * (m / 32 % 128 / 64) = m := by omega
theorem s_back {d q : Int} (h1 : 0 ≤ d ∧ d < 32) (h2 : 0 ≤ q ∧ q < 128) : (32 * (q % 64) + d - 2048 * (q / 64)) % 32 = d ∧ (32 * (q % 64) + d - 2048 * (q / 64)) / 32 % 128 = q := by
  constructor <;> omega
theorem i_back {t q : Int} (h1 : 0 ≤ t ∧ t < 32) (h2 : 0 ≤ q ∧ q < 128) : ((t + 32 * q) % 2048 - 2048 * (q / 64)) % 4096 = t + 32 * q := by omega
theorem j_back {m p1 p2 p3 p4 : Int} (h1 : 0 ≤ p1 ∧ p1 < 256) (h2 : 0 ≤ p2 ∧ p2 < 2) (h3 : 0 ≤ p3 ∧ p3 < 1024) (h4 : 0 ≤ p4 ∧ p4 < 2) (e : m = 4096 * p1 + 2048 * p2 + 2 * p3 - 1048576 * p4) :
    m / 4096 % 256 = p1 ∧ m / 2048 % 2 = p2 ∧ m / 2 % 1024 = p3 ∧ m / 1048576 % 2 = p4 := by
  refine ⟨?_, ?_, ?_, ?_⟩ <;> omega
theorem b_back {m p1 p2 p3 p4 : Int} (h1 : 0 ≤ p1 ∧ p1 < 2) (h2 : 0 ≤ p2 ∧ p2 < 16) (h3 : 0 ≤ p3 ∧ p3 < 64) (h4 : 0 ≤ p4 ∧ p4 < 2) (e : m = 2048 * p1 + 32 * p3 + 2 * p2 - 4096 * p4) :
    m / 2048 % 2 = p1 ∧ m / 2 % 16 = p2 ∧ m / 32 % 64 = p3 ∧ m / 4096 % 2 = p4 := by
  refine ⟨?_, ?_, ?_, ?_⟩ <;> omega
/-- A word by its fields. -/
theorem w_fields {w : Int} (h : U32 w) : w = w % 128 + 4096 * (w / 4096 % 8) + 128 * (w / 128 % 32) + 32768 * (w / 32768 % 32) + 1048576 * (w / 1048576 % 32) + 33554432 * (w / 33554432) ∧ 0 ≤ w / 33554432 ∧ w / 33554432 < 128 := by
  obtain ⟨_, _⟩ := h; omega
theorem w_j {w : Int} (h : U32 w) : w = w % 128 + 128 * (w / 128 % 32) + 4096 * (w / 4096 % 256) + 1048576 * (w / 1048576 % 2) + 2097152 * (w / 2097152 % 1024) + 2147483648 * (w / 2147483648) ∧ 0 ≤ w / 2147483648 ∧ w / 2147483648 < 2 := by
  obtain ⟨_, _⟩ := h
  have a1 : w / 4096 = 256 * (w / 1048576) + w / 4096 % 256 := by omega
  have a2 : w / 1048576 = 2 * (w / 2097152) + w / 1048576 % 2 := by omega
  have a3 : w / 2097152 = 1024 * (w / 2147483648) + w / 2097152 % 1024 := by omega
  omega
theorem w_b {w : Int} (h : U32 w) : w = w % 128 + 4096 * (w / 4096 % 8) + 128 * (w / 128 % 2) + 256 * (w / 256 % 16) + 32768 * (w / 32768 % 32) + 1048576 * (w / 1048576 % 32) + 33554432 * (w / 33554432 % 64) + 2147483648 * (w / 2147483648) ∧ 0 ≤ w / 2147483648 ∧ w / 2147483648 < 2 := by
  obtain ⟨_, _⟩ := h
  have a1 : w / 128 = 2 * (w / 256) + w / 128 % 2 := by omega
  have a2 : w / 256 = 16 * (w / 4096) + w / 256 % 16 := by omega
  have a3 : w / 4096 = 8 * (w / 32768) + w / 4096 % 8 := by omega
  have a4 : w / 32768 = 32 * (w / 1048576) + w / 32768 % 32 := by omega
  have a5 : w / 1048576 = 32 * (w / 33554432) + w / 1048576 % 32 := by omega
  have a6 : w / 33554432 = 64 * (w / 2147483648) + w / 33554432 % 64 := by omega
  omega
/-- The word of an instruction is a number of 32 bits. -/
theorem enc_U32 {i : Ins} (h : 1 ≤ i.op ∧ i.op ≤ 49) : U32 (enc i) := by
  unfold U32 enc
  rcases lay_cases i.op with ⟨l, c⟩ | ⟨l, c⟩ | ⟨l, c⟩ | ⟨l, c⟩ | ⟨l, c⟩ | ⟨l, c⟩ | ⟨l, c⟩ | ⟨l, c⟩
  · rw [cho_1 l]; obtain ⟨n, o, f3, f7, _, _, _, _, _, _, _, e, _, _, _, _, _⟩ := wo_parts h.1 (by omega); omega
  · rw [cho_2 l]; obtain ⟨n, o, f3, f7, _, _, _, _, _, _, _, e, _, _, _, _, _⟩ := wo_parts h.1 (by omega); omega
  · rw [cho_3 l]; obtain ⟨n, o, f3, f7, _, _, _, _, _, _, _, e, _, _, _, _, _⟩ := wo_parts h.1 (by omega); omega
  · rw [cho_4 l]; obtain ⟨n, o, f3, f7, _, _, _, _, _, _, _, e, _, _, _, _, _⟩ := wo_parts h.1 (by omega); omega
  · rw [cho_5 l]; obtain ⟨n, o, f3, f7, _, _, _, _, _, _, _, e, _, _, _, _, _⟩ := wo_parts h.1 (by omega); omega
  · rw [cho_6 l]; obtain ⟨n, o, f3, f7, _, _, _, _, _, _, _, e, _, _, _, _, _⟩ := wo_parts h.1 (by omega); omega
  · rw [cho_7 l]; obtain ⟨n, o, f3, f7, _, _, _, _, _, _, _, e, _, _, _, _, _⟩ := wo_parts h.1 (by omega); omega
  · rw [cho_0 l]
    obtain h | h | h | h : i.op = 46 ∨ i.op = 47 ∨ i.op = 48 ∨ i.op = 49 := by omega
    all_goals (rw [h]; decide)

/-- A good instruction's word is read back as it. -/
theorem dec_enc {i : Ins} (h : good i) (hm : -2147483648 ≤ i.imm ∧ i.imm < 2147483648) : dec (enc i) = i := by
  have hop := h.1
  have hu := enc_U32 hop
  have hI : ∀ n : Nat, i.op = n → opI (enc i) = n → opI (enc i) = i.op := fun n h1 h2 => by rw [h2, h1]
  have ee : enc i = wo i.op + cho i := rfl
  rcases lay_cases i.op with ⟨l, c⟩ | ⟨l, c⟩ | ⟨l, c⟩ | ⟨l, c⟩ | ⟨l, c⟩ | ⟨l, c⟩ | ⟨l, c⟩ | ⟨l, c⟩
  · obtain ⟨n, o, f3, f7, en, _, n0, n1, eo, e3, e7, e, bo, b3, b7, z3, z7⟩ := wo_parts hop.1 (by omega)
    have g := (good_1 l).1 h; unfold reg at g
    rw [cho_1 l, e] at ee
    generalize enc i = E at *
    have z3' := z3 (by omega); have z7' := z7 (by omega)
    have q : E % 128 = o ∧ E / 128 % 32 = i.rd ∧ E / 4096 = i.imm / 4096 % 1048576 := by refine ⟨?_, ?_, ?_⟩ <;> omega
    have ho := hI n en (opI_at hu n0 n1 (by rw [eo]; exact q.1) (fun h => by omega) (fun h => by omega))
    rw [dec_1 (by rw [ho]; exact l), ho, Ins.ext_iff]; dsimp only [fd, fs, ft, immU]
    refine ⟨rfl, ?_, ?_, ?_, ?_⟩ <;> omega
  · obtain ⟨n, o, f3, f7, en, _, n0, n1, eo, e3, e7, e, bo, b3, b7, z3, z7⟩ := wo_parts hop.1 (by omega)
    have g := (good_2 l).1 h; unfold reg at g
    rw [cho_2 l, e] at ee
    generalize enc i = E at *
    have z3' := z3 (by omega); have z7' := z7 (by omega)
    have q := j_parts (E := E) (o := o) (r := i.rd) (p1 := i.imm / 4096 % 256) (p2 := i.imm / 2048 % 2) (p3 := i.imm / 2 % 1024) (p4 := i.imm / 1048576 % 2) (by omega) (by omega) (by omega) (by omega) (by omega) (by omega) (by omega)
    have m := j_imm g.2.2.2.2.1 g.2.2.2.2.2.1 g.2.2.2.2.2.2
    have ho := hI n en (opI_at hu n0 n1 (by rw [eo]; exact q.1) (fun h => by omega) (fun h => by omega))
    rw [dec_2 (by rw [ho]; exact l), ho, Ins.ext_iff]; dsimp only [fd, fs, ft, immJ]
    rw [q.2.1, q.2.2.1, q.2.2.2.1, q.2.2.2.2.1, q.2.2.2.2.2, m]; refine ⟨rfl, rfl, ?_, ?_, rfl⟩ <;> omega
  · obtain ⟨n, o, f3, f7, en, _, n0, n1, eo, e3, e7, e, bo, b3, b7, z3, z7⟩ := wo_parts hop.1 (by omega)
    have g := (good_3 l).1 h; unfold reg at g
    rw [cho_3 l, e] at ee
    generalize enc i = E at *
    have z7' := z7 (by omega)
    have q := b_parts (E := E) (o := o) (f3 := f3) (s := i.rs1) (t := i.rs2) (p1 := i.imm / 2048 % 2) (p2 := i.imm / 2 % 16) (p3 := i.imm / 32 % 64) (p4 := i.imm / 4096 % 2) (by omega) (by omega) (by omega) (by omega) (by omega) (by omega) (by omega) (by omega) (by omega)
    have m := b_imm g.2.2.2.2.1 g.2.2.2.2.2.1 g.2.2.2.2.2.2
    have ho := hI n en (opI_at hu n0 n1 (by rw [eo]; exact q.1) (fun h => by rw [e3]; exact q.2.1) (fun h => by omega))
    rw [dec_3 (by rw [ho]; exact l), ho, Ins.ext_iff]; dsimp only [fd, fs, ft, immB]
    rw [q.2.2.1, q.2.2.2.1, q.2.2.2.2.1, q.2.2.2.2.2.1, q.2.2.2.2.2.2.1, q.2.2.2.2.2.2.2, m]; refine ⟨rfl, ?_, rfl, rfl, rfl⟩; omega
  · obtain ⟨n, o, f3, f7, en, _, n0, n1, eo, e3, e7, e, bo, b3, b7, z3, z7⟩ := wo_parts hop.1 (by omega)
    have g := (good_4 l).1 h; unfold reg at g
    rw [cho_4 l, e] at ee
    generalize enc i = E at *
    have z7' := z7 (by omega)
    have q := s_parts (E := E) (o := o) (f3 := f3) (d := i.imm % 32) (s := i.rs1) (t := i.rs2) (q := i.imm / 32 % 128) (by omega) (by omega) (by omega) (by omega) (by omega) (by omega) (by omega)
    have ho := hI n en (opI_at hu n0 n1 (by rw [eo]; exact q.1) (fun h => by rw [e3]; exact q.2.1) (fun h => by omega))
    rw [dec_4 (by rw [ho]; exact l), ho, Ins.ext_iff]; dsimp only [fd, fs, ft, immS]
    rw [q.2.2.1, q.2.2.2.1, q.2.2.2.2.1, q.2.2.2.2.2.1, q.2.2.2.2.2.2.1, s_imm g.2.2.2.2.1 g.2.2.2.2.2]; refine ⟨rfl, ?_, rfl, rfl, rfl⟩; omega
  · obtain ⟨n, o, f3, f7, en, _, n0, n1, eo, e3, e7, e, bo, b3, b7, z3, z7⟩ := wo_parts hop.1 (by omega)
    have g := (good_5 l).1 h; unfold reg at g
    rw [cho_5 l, e] at ee
    generalize enc i = E at *
    have z7' := z7 (by omega)
    have q := s_parts (E := E) (o := o) (f3 := f3) (d := i.rd) (s := i.rs1) (t := i.imm % 32) (q := i.imm / 32 % 128) (by omega) (by omega) (by omega) (by omega) (by omega) (by omega) (by omega)
    have ho := hI n en (opI_at hu n0 n1 (by rw [eo]; exact q.1) (fun h => by rw [e3]; exact q.2.1) (fun h => by omega))
    rw [dec_5 (by rw [ho]; exact l), ho, Ins.ext_iff]; dsimp only [fd, fs, ft, immI]
    rw [q.2.2.1, q.2.2.2.1, q.2.2.2.2.2.2.1, q.2.2.2.2.2.2.2, i_imm g.2.2.2.2.1 g.2.2.2.2.2]; refine ⟨rfl, rfl, rfl, ?_, rfl⟩; omega
  · obtain ⟨n, o, f3, f7, en, _, n0, n1, eo, e3, e7, e, bo, b3, b7, z3, z7⟩ := wo_parts hop.1 (by omega)
    have g := (good_6 l).1 h; unfold reg at g
    rw [cho_6 l, e] at ee
    generalize enc i = E at *
    have q := s_parts (E := E) (o := o) (f3 := f3) (d := i.rd) (s := i.rs1) (t := i.imm) (q := f7) (by omega) (by omega) (by omega) (by omega) (by omega) (by omega) (by omega)
    have ho := hI n en (opI_at hu n0 n1 (by rw [eo]; exact q.1) (fun h => by rw [e3]; exact q.2.1) (fun h => by rw [e7]; exact q.2.2.2.2.2.1))
    rw [dec_6 (by rw [ho]; exact l), ho, Ins.ext_iff]; dsimp only [fd, fs, ft]
    rw [q.2.2.1, q.2.2.2.1, q.2.2.2.2.1]; refine ⟨rfl, rfl, rfl, ?_, ?_⟩ <;> omega
  · obtain ⟨n, o, f3, f7, en, _, n0, n1, eo, e3, e7, e, bo, b3, b7, z3, z7⟩ := wo_parts hop.1 (by omega)
    have g := (good_7 l).1 h; unfold reg at g
    rw [cho_7 l, e] at ee
    generalize enc i = E at *
    have q := s_parts (E := E) (o := o) (f3 := f3) (d := i.rd) (s := i.rs1) (t := i.rs2) (q := f7) (by omega) (by omega) (by omega) (by omega) (by omega) (by omega) (by omega)
    have ho := hI n en (opI_at hu n0 n1 (by rw [eo]; exact q.1) (fun h => by rw [e3]; exact q.2.1) (fun h => by rw [e7]; exact q.2.2.2.2.2.1))
    rw [dec_7 (by rw [ho]; exact l), ho, Ins.ext_iff]; dsimp only [fd, fs, ft]
    rw [q.2.2.1, q.2.2.2.1, q.2.2.2.2.1]; refine ⟨rfl, rfl, rfl, ?_, ?_⟩ <;> omega
  · have g := (good_0 l).1 h
    rw [cho_0 l] at ee
    have ho : opI (enc i) = i.op := by
      rw [ee]
      obtain h | h | h | h : i.op = 46 ∨ i.op = 47 ∨ i.op = 48 ∨ i.op = 49 := by omega
      all_goals (rw [h]; decide +kernel)
    rw [dec_0 (by rw [ho]; exact l), ho, Ins.ext_iff]; dsimp only
    refine ⟨rfl, ?_, ?_, ?_, ?_⟩ <;> omega

/-- What a word's Op says of its fields. -/
theorem opI_inv {w : Int} (hw : U32 w) {n : Nat} (h0 : 0 < n) (h1 : n < 46) (h : opI w = n) : w % 128 = foN n ∧ (3 < n → w / 4096 % 8 = f3N n) ∧ (25 ≤ n → w / 33554432 = f7N n) := by
  obtain ⟨u0, u1⟩ := hw
  unfold opI at h
  split at h
  · omega
  split at h
  · omega
  have hn : opN (w % 128).toNat (w / 4096 % 8).toNat (w / 33554432).toNat = n := by omega
  have hf := opN_fits (w % 128).toNat (w / 4096 % 8).toNat (w / 33554432).toNat (by omega) (by omega) (by omega)
  rw [hn] at hf
  unfold fits at hf
  simp only [Bool.and_eq_true, Bool.or_eq_true, beq_iff_eq, decide_eq_true_eq] at hf
  refine ⟨by omega, fun h => ?_, fun h => ?_⟩
  · have := hf.1.2.resolve_left (by omega); omega
  · have := hf.2.resolve_left (by omega); omega

/-- A word that is one is written back, but for what a fence leaves open. -/
theorem enc_dec {w : Int} (hw : U32 w) (h0 : opI w ≠ 0) (h46 : opI w ≠ 46) (h47 : opI w ≠ 47) : enc (dec w) = w := by
  have hb := opI_bd hw
  by_cases h48 : opI w = 48
  · have : w = 115 := by
      unfold opI at h48
      have := opN_lt (w % 128).toNat (w / 4096 % 8).toNat (w / 33554432).toNat (by omega) (by obtain ⟨_, _⟩ := hw; omega)
      split at h48
      · assumption
      · split at h48 <;> omega
    subst this; decide +kernel
  by_cases h49 : opI w = 49
  · have : w = 1048691 := by
      unfold opI at h49
      have := opN_lt (w % 128).toNat (w / 4096 % 8).toNat (w / 33554432).toNat (by omega) (by obtain ⟨_, _⟩ := hw; omega)
      split at h49
      · omega
      · split at h49
        · assumption
        · omega
    subst this; decide +kernel
  obtain ⟨n, o, f3, f7, en, _, n0, n1, eo, e3, e7, e, bo, b3, b7, z3, z7⟩ := wo_parts (op := opI w) (by omega) (by omega)
  have q := opI_inv hw n0 n1 en
  rw [eo, e3, e7] at q
  have wf := w_fields hw
  unfold enc
  obtain ⟨d, hd⟩ : ∃ d, w / 128 % 32 = d := ⟨_, rfl⟩
  obtain ⟨s, hs⟩ : ∃ s, w / 32768 % 32 = s := ⟨_, rfl⟩
  obtain ⟨t, ht⟩ : ∃ t, w / 1048576 % 32 = t := ⟨_, rfl⟩
  obtain ⟨g, hg⟩ : ∃ g, w / 33554432 = g := ⟨_, rfl⟩
  have bd : 0 ≤ d ∧ d < 32 := by omega
  have bs : 0 ≤ s ∧ s < 32 := by omega
  have bt : 0 ≤ t ∧ t < 32 := by omega
  have ed : d % 32 = d := by omega
  have es : s % 32 = s := by omega
  have et : t % 32 = t := by omega
  rcases lay_cases (opI w) with ⟨l, c⟩ | ⟨l, c⟩ | ⟨l, c⟩ | ⟨l, c⟩ | ⟨l, c⟩ | ⟨l, c⟩ | ⟨l, c⟩ | ⟨l, c⟩
  · rw [dec_1 l, cho_1 l]; dsimp only [fd, immU]; rw [e, hd, ed]
    have z3' := z3 (by omega); have z7' := z7 (by omega); have q1 := q.1
    clear z3 z7 q
    obtain ⟨_, _⟩ := hw
    have : (w / 4096 * 4096 - 4294967296 * (w / 2147483648)) / 4096 % 1048576 = w / 4096 := by omega
    rw [this]; clear wf; omega
  · rw [dec_2 l, cho_2 l]; dsimp only [fd, immJ]; rw [e, hd, ed]
    have z3' := z3 (by omega); have z7' := z7 (by omega); have q1 := q.1
    have wj := w_j hw
    rw [hd, q1] at wj
    have b := j_back (m := 4096 * (w / 4096 % 256) + 2048 * (w / 1048576 % 2) + 2 * (w / 2097152 % 1024) - 1048576 * (w / 2147483648)) (p1 := w / 4096 % 256) (p2 := w / 1048576 % 2) (p3 := w / 2097152 % 1024) (p4 := w / 2147483648) (by clear wf wj; omega) (by clear wf wj; omega) (by clear wf wj; omega) wj.2 rfl
    rw [b.1, b.2.1, b.2.2.1, b.2.2.2]
    have w1 := wj.1
    clear z3 z7 q wf b wj hs ht hg
    generalize w / 4096 % 256 = x1 at *; generalize w / 1048576 % 2 = x2 at *; generalize w / 2097152 % 1024 = x3 at *; generalize w / 2147483648 = x4 at *
    omega
  · rw [dec_3 l, cho_3 l]; dsimp only [fs, ft, immB]; rw [e, hs, ht, es, et]
    have z7' := z7 (by omega); have q1 := q.1; have q2 := q.2.1 (by omega)
    have wj := w_b hw
    rw [hs, ht, q1, q2] at wj
    have b := b_back (m := 2048 * (w / 128 % 2) + 32 * (w / 33554432 % 64) + 2 * (w / 256 % 16) - 4096 * (w / 2147483648)) (p1 := w / 128 % 2) (p2 := w / 256 % 16) (p3 := w / 33554432 % 64) (p4 := w / 2147483648) (by clear wf wj; omega) (by clear wf wj; omega) (by clear wf wj; omega) wj.2 rfl
    rw [b.1, b.2.1, b.2.2.1, b.2.2.2]
    have w1 := wj.1
    clear z3 z7 q wf b wj hd hg
    generalize w / 128 % 2 = x1 at *; generalize w / 256 % 16 = x2 at *; generalize w / 33554432 % 64 = x3 at *; generalize w / 2147483648 = x4 at *
    omega
  all_goals
    have q1 := q.1
    have q2 := q.2.1 (by omega)
    rw [q1, q2, hd, hs, ht, hg] at wf
    have w1 := wf.1
    have bg := wf.2
    have sp := s_parts (E := w) (o := o) (f3 := f3) (d := d) (s := s) (t := t) (q := g) (by clear wf; omega) (by clear wf; omega) bs bt bd bg w1
  · rw [dec_4 l, cho_4 l]; dsimp only [fs, ft, immS]; rw [e, hd, hs, ht, es, et, hg, sp.2.2.2.2.2.2.1, (s_back bd bg).1, (s_back bd bg).2]
    have z7' := z7 (by omega)
    clear sp hd hs ht hg wf q z3 z7
    omega
  · rw [dec_5 l, cho_5 l]; dsimp only [fd, fs, immI]; rw [e, hd, hs, ed, es, sp.2.2.2.2.2.2.1, sp.2.2.2.2.2.2.2, i_back bt bg]
    have z7' := z7 (by omega)
    clear sp hd hs ht hg wf q z3 z7
    omega
  · rw [dec_6 l, cho_6 l]; dsimp only [fd, fs, ft]; rw [e, hd, hs, ht, ed, es, et]
    have q3 := q.2.2 (by omega)
    rw [hg] at q3
    clear sp hd hs ht hg wf q z3 z7
    omega
  · rw [dec_7 l, cho_7 l]; dsimp only [fd, fs, ft]; rw [e, hd, hs, ht, ed, es, et]
    have q3 := q.2.2 (by omega)
    rw [hg] at q3
    clear sp hd hs ht hg wf q z3 z7
    omega
  · omega
theorem dec_fence {w : Int} (h : opI w = 46 ∨ opI w = 47) : dec w = ⟨opI w, 0, 0, 0, 0⟩ := by
  rcases lay_cases (opI w) with ⟨l, c⟩ | ⟨l, c⟩ | ⟨l, c⟩ | ⟨l, c⟩ | ⟨l, c⟩ | ⟨l, c⟩ | ⟨l, c⟩ | ⟨l, c⟩
  all_goals first | (exact dec_0 l) | omega
theorem dec_none {w : Int} (h : opI w = 0) : dec w = ⟨0, 0, 0, 0, 0⟩ := by
  rw [dec_0 (by rw [h]; decide), h]
/-- The bounds of what Decode tells. -/
theorem dec_bd {w : Int} (hw : U32 w) : (0 ≤ (dec w).op ∧ (dec w).op ≤ 49) ∧ reg (dec w).rd ∧ reg (dec w).rs1 ∧ reg (dec w).rs2 ∧ -2147483648 ≤ (dec w).imm ∧ (dec w).imm < 2147483648 := by
  have hb := opI_bd hw
  refine ⟨by rw [dec_op]; exact hb, ?_⟩
  obtain ⟨u0, u1⟩ := hw
  rcases lay_cases (opI w) with ⟨l, c⟩ | ⟨l, c⟩ | ⟨l, c⟩ | ⟨l, c⟩ | ⟨l, c⟩ | ⟨l, c⟩ | ⟨l, c⟩ | ⟨l, c⟩
  · rw [dec_1 l]; dsimp only [reg, fd, immU]; omega
  · rw [dec_2 l]; dsimp only [reg, fd, immJ]; omega
  · rw [dec_3 l]; dsimp only [reg, fs, ft, immB]; omega
  · rw [dec_4 l]; dsimp only [reg, fs, ft, immS]; omega
  · rw [dec_5 l]; dsimp only [reg, fd, fs, immI]; omega
  · rw [dec_6 l]; dsimp only [reg, fd, fs, ft]; omega
  · rw [dec_7 l]; dsimp only [reg, fd, fs, ft]; omega
  · rw [dec_0 l]; dsimp only [reg]; omega
/-- Encode's test comes to 'good'. -/
theorem dec_enc_iff {i : Ins} (hop : 1 ≤ i.op ∧ i.op ≤ 49) (hm : -2147483648 ≤ i.imm ∧ i.imm < 2147483648) : dec (enc i) = i ↔ good i := by
  refine ⟨fun h => ?_, fun h => dec_enc h hm⟩
  have hu := enc_U32 hop
  rw [← h]
  refine dec_good hu fun h0 => ?_
  have := dec_op (enc i)
  rw [h, h0] at this
  omega
end Go.Proofs.YthkampohgbddnaaDoor.Rv
