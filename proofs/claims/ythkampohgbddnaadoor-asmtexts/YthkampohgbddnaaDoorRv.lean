/- PLAIN MATHEMATICS OF LAYER 5 (words and instructions): what Decode and Encode come to, as integers; no Go in sight. -/
import Derived.Test.YthkampohgbddnaaDoorAlu
namespace Go.Proofs.YthkampohgbddnaaDoor.Rv
open Alu

/-- An instruction, plain. -/
structure Ins where
  op : Int
  rd : Int
  rs1 : Int
  rs2 : Int
  imm : Int

theorem Ins.ext_iff {a b : Ins} : a = b ↔ a.op = b.op ∧ a.rd = b.rd ∧ a.rs1 = b.rs1 ∧ a.rs2 = b.rs2 ∧ a.imm = b.imm := by
  obtain ⟨_, _, _, _, _⟩ := a; obtain ⟨_, _, _, _, _⟩ := b; simp

def brT : List Nat := [5, 6, 0, 0, 7, 8, 9, 10]
def ldT : List Nat := [11, 12, 13, 0, 14, 15, 0, 0]
def stT : List Nat := [16, 17, 18, 0, 0, 0, 0, 0]
def imT : List Nat := [19, 0, 20, 21, 22, 0, 23, 24]
def rgT : List Nat := [28, 30, 31, 32, 33, 34, 36, 37]
def kdT : List Nat := [0, 3, 4, 5, 8, 9, 2, 6, 7]
def woT : List Nat := [0, 55, 23, 111, 103, 99, 4195, 16483, 20579, 24675, 28771, 3, 4099, 8195, 16387, 20483, 35, 4131, 8227, 19, 8211, 12307, 16403, 24595, 28691, 4115, 20499, 1073762323, 51, 1073741875, 4147, 8243, 12339, 16435, 20531, 1073762355, 24627, 28723, 33554483, 33558579, 33562675, 33566771, 33570867, 33574963, 33579059, 33583155, 267386895, 4111, 115, 1048691]

/-- Package rv's Op by opcode, funct3, funct7 (the words 115 and 1048691 apart). -/
def imN (f3 f7 : Nat) : Nat := if f3 = 1 then (if f7 = 0 then 25 else 0) else if f3 = 5 then (if f7 = 32 then 27 else if f7 = 0 then 26 else 0) else imT.getD f3 0
def rgN (f3 f7 : Nat) : Nat := if f7 = 0 then rgT.getD f3 0 else if f7 = 1 then 38 + f3 else if f7 = 32 then (if f3 = 0 then 29 else if f3 = 5 then 35 else 0) else 0
def feN (f3 : Nat) : Nat := if f3 = 0 then 46 else if f3 = 1 then 47 else 0
def opN (o f3 f7 : Nat) : Nat :=
  if o = 55 then 1 else if o = 23 then 2 else if o = 111 then 3 else if o = 103 then (if f3 = 0 then 4 else 0)
  else if o = 99 then brT.getD f3 0 else if o = 3 then ldT.getD f3 0 else if o = 35 then stT.getD f3 0
  else if o = 19 then imN f3 f7 else if o = 51 then rgN f3 f7 else if o = 15 then feN f3 else 0

/-- The document's forms by Op. -/
def foN (op : Nat) : Nat :=
  if op = 1 then 55 else if op = 2 then 23 else if op = 3 then 111 else if op = 4 then 103 else if op ≤ 10 then 99 else if op ≤ 15 then 3 else if op ≤ 18 then 35
  else if op ≤ 27 then 19 else if op ≤ 45 then 51 else 15
def f3N (op : Nat) : Nat := [0, 0, 0, 0, 0, 0, 1, 4, 5, 6, 7, 0, 1, 2, 4, 5, 0, 1, 2, 0, 2, 3, 4, 6, 7, 1, 5, 5, 0, 0, 1, 2, 3, 4, 5, 5, 6, 7, 0, 1, 2, 3, 4, 5, 6, 7, 0, 1].getD op 0
def f7N (op : Nat) : Nat := if op = 27 then 32 else if op = 29 then 32 else if op = 35 then 32 else if 38 ≤ op ∧ op ≤ 45 then 1 else 0

/-- Does a word's opcode, funct3, funct7 fit an Op? -/
def fits (op o f3 f7 : Nat) : Bool := foN op == o && (op ≤ 3 || f3N op == f3) && (op < 25 || 45 < op || f7N op == f7)

def opcodes : List Nat := [55, 23, 111, 103, 99, 3, 35, 19, 51, 15]

theorem opN_none {o : Nat} (h : o ∉ opcodes) (f3 f7 : Nat) : opN o f3 f7 = 0 := by
  simp [opcodes] at h
  simp [opN, h]
theorem opN_fits_all : ∀ o ∈ opcodes, ∀ f3, f3 < 8 → ∀ f7, f7 < 128 → opN o f3 f7 < 48 ∧ (opN o f3 f7 = 0 ∨ fits (opN o f3 f7) o f3 f7 = true) := by
  decide +kernel
theorem opN_lt (o f3 f7 : Nat) (h3 : f3 < 8) (h7 : f7 < 128) : opN o f3 f7 < 48 := by
  by_cases h : o ∈ opcodes
  · exact (opN_fits_all o h f3 h3 f7 h7).1
  · rw [opN_none h]; omega
theorem opN_fits (o f3 f7 : Nat) (h3 : f3 < 8) (h7 : f7 < 128) (h0 : opN o f3 f7 ≠ 0) : fits (opN o f3 f7) o f3 f7 = true := by
  by_cases h : o ∈ opcodes
  · exact (opN_fits_all o h f3 h3 f7 h7).2.resolve_left h0
  · exact absurd (opN_none h f3 f7) h0
theorem fits_all : ∀ op, op < 48 → 0 < op → ∀ f3, f3 < 8 → ∀ f7, f7 < 128 → fits op (foN op) f3 f7 = true → opN (foN op) f3 f7 = op := by
  decide +kernel
theorem fits_opN {op o f3 f7 : Nat} (hop : op < 48) (h0 : 0 < op) (h3 : f3 < 8) (h7 : f7 < 128) (h : fits op o f3 f7 = true) : opN o f3 f7 = op := by
  have ho : foN op = o := by simp [fits] at h; exact h.1.1
  subst ho
  exact fits_all op hop h0 f3 h3 f7 h7 h
theorem wo_all : ∀ op, op < 46 → 0 < op → woT.getD op 0 = foN op + 4096 * f3N op + 33554432 * f7N op := by decide +kernel
theorem f_all : ∀ op, op < 46 → foN op < 128 ∧ f3N op < 8 ∧ f7N op < 128 ∧ (op ≤ 3 → f3N op = 0) ∧ (op < 25 → f7N op = 0) := by decide +kernel

/-- A word's Op. -/
def opI (w : Int) : Int := if w = 115 then 48 else if w = 1048691 then 49 else (opN (w % 128).toNat (w / 4096 % 8).toNat (w / 33554432).toNat : Int)

theorem opI_bd {w : Int} (h : U32 w) : 0 ≤ opI w ∧ opI w ≤ 49 := by
  obtain ⟨h0, h1⟩ := h
  unfold opI
  have := opN_lt (w % 128).toNat (w / 4096 % 8).toNat (w / 33554432).toNat (by omega) (by omega)
  split
  · omega
  · split <;> omega

/-- The layouts of a word. -/
def lay (op : Int) : Int :=
  if op = 1 ∨ op = 2 then 1 else if op = 3 then 2 else if 5 ≤ op ∧ op ≤ 10 then 3 else if 16 ≤ op ∧ op ≤ 18 then 4
  else if op = 4 ∨ (11 ≤ op ∧ op ≤ 15) ∨ (19 ≤ op ∧ op ≤ 24) then 5 else if 25 ≤ op ∧ op ≤ 27 then 6 else if 28 ≤ op ∧ op ≤ 45 then 7 else 0

theorem lay_cases (op : Int) :
    (lay op = 1 ∧ (op = 1 ∨ op = 2)) ∨ (lay op = 2 ∧ op = 3) ∨ (lay op = 3 ∧ 5 ≤ op ∧ op ≤ 10) ∨ (lay op = 4 ∧ 16 ≤ op ∧ op ≤ 18) ∨
    (lay op = 5 ∧ (op = 4 ∨ (11 ≤ op ∧ op ≤ 15) ∨ (19 ≤ op ∧ op ≤ 24))) ∨ (lay op = 6 ∧ 25 ≤ op ∧ op ≤ 27) ∨ (lay op = 7 ∧ 28 ≤ op ∧ op ≤ 45) ∨ (lay op = 0 ∧ (op < 1 ∨ 45 < op)) := by
  unfold lay
  split
  · simp; omega
  split
  · simp; omega
  split
  · simp; omega
  split
  · simp; omega
  split
  · simp; omega
  split
  · simp; omega
  split
  · simp; omega
  · simp; omega

def immU (w : Int) : Int := w / 4096 * 4096 - 4294967296 * (w / 2147483648)
def immJ (w : Int) : Int := 4096 * (w / 4096 % 256) + 2048 * (w / 1048576 % 2) + 2 * (w / 2097152 % 1024) - 1048576 * (w / 2147483648)
def immB (w : Int) : Int := 2048 * (w / 128 % 2) + 32 * (w / 33554432 % 64) + 2 * (w / 256 % 16) - 4096 * (w / 2147483648)
def immS (w : Int) : Int := 32 * (w / 33554432 % 64) + w / 128 % 32 - 2048 * (w / 2147483648)
def immI (w : Int) : Int := w / 1048576 % 2048 - 2048 * (w / 2147483648)
def fd (w : Int) : Int := w / 128 % 32
def fs (w : Int) : Int := w / 32768 % 32
def ft (w : Int) : Int := w / 1048576 % 32

/-- What Decode answers. -/
def dec (w : Int) : Ins :=
  if lay (opI w) = 1 then ⟨opI w, fd w, 0, 0, immU w⟩
  else if lay (opI w) = 2 then ⟨opI w, fd w, 0, 0, immJ w⟩
  else if lay (opI w) = 3 then ⟨opI w, 0, fs w, ft w, immB w⟩
  else if lay (opI w) = 4 then ⟨opI w, 0, fs w, ft w, immS w⟩
  else if lay (opI w) = 5 then ⟨opI w, fd w, fs w, 0, immI w⟩
  else if lay (opI w) = 6 then ⟨opI w, fd w, fs w, 0, ft w⟩
  else if lay (opI w) = 7 then ⟨opI w, fd w, fs w, ft w, 0⟩
  else ⟨opI w, 0, 0, 0, 0⟩

theorem dec_op (w : Int) : (dec w).op = opI w := by
  unfold dec
  repeat (first | (split; rfl) | rfl)
theorem dec_1 {w : Int} (h : lay (opI w) = 1) : dec w = ⟨opI w, fd w, 0, 0, immU w⟩ := by simp [dec, h]
theorem dec_2 {w : Int} (h : lay (opI w) = 2) : dec w = ⟨opI w, fd w, 0, 0, immJ w⟩ := by simp [dec, h]
theorem dec_3 {w : Int} (h : lay (opI w) = 3) : dec w = ⟨opI w, 0, fs w, ft w, immB w⟩ := by simp [dec, h]
theorem dec_4 {w : Int} (h : lay (opI w) = 4) : dec w = ⟨opI w, 0, fs w, ft w, immS w⟩ := by simp [dec, h]
theorem dec_5 {w : Int} (h : lay (opI w) = 5) : dec w = ⟨opI w, fd w, fs w, 0, immI w⟩ := by simp [dec, h]
theorem dec_6 {w : Int} (h : lay (opI w) = 6) : dec w = ⟨opI w, fd w, fs w, 0, ft w⟩ := by simp [dec, h]
theorem dec_7 {w : Int} (h : lay (opI w) = 7) : dec w = ⟨opI w, fd w, fs w, ft w, 0⟩ := by simp [dec, h]
theorem dec_0 {w : Int} (h : lay (opI w) = 0) : dec w = ⟨opI w, 0, 0, 0, 0⟩ := by simp [dec, h]

/-- What an instruction chooses of a word, cut to its places. -/
def cho (i : Ins) : Int :=
  if lay i.op = 1 then 128 * (i.rd % 32) + 4096 * (i.imm / 4096 % 1048576)
  else if lay i.op = 2 then 128 * (i.rd % 32) + 4096 * (i.imm / 4096 % 256) + 1048576 * (i.imm / 2048 % 2) + 2097152 * (i.imm / 2 % 1024) + 2147483648 * (i.imm / 1048576 % 2)
  else if lay i.op = 3 then 128 * (i.imm / 2048 % 2) + 256 * (i.imm / 2 % 16) + 32768 * (i.rs1 % 32) + 1048576 * (i.rs2 % 32) + 33554432 * (i.imm / 32 % 64) + 2147483648 * (i.imm / 4096 % 2)
  else if lay i.op = 4 then 128 * (i.imm % 32) + 32768 * (i.rs1 % 32) + 1048576 * (i.rs2 % 32) + 33554432 * (i.imm / 32 % 128)
  else if lay i.op = 5 then 128 * (i.rd % 32) + 32768 * (i.rs1 % 32) + 1048576 * (i.imm % 4096)
  else if lay i.op = 6 then 128 * (i.rd % 32) + 32768 * (i.rs1 % 32) + 1048576 * (i.imm % 32)
  else if lay i.op = 7 then 128 * (i.rd % 32) + 32768 * (i.rs1 % 32) + 1048576 * (i.rs2 % 32)
  else 0
def wo (op : Int) : Int := ((woT.getD op.toNat 0 : Nat) : Int)
/-- The word that Encode tries. -/
def enc (i : Ins) : Int := wo i.op + cho i

/-- Is it one of those that Decode tells? -/
def reg (r : Int) : Prop := 0 ≤ r ∧ r < 32
def good (i : Ins) : Prop :=
  (1 ≤ i.op ∧ i.op ≤ 49) ∧ reg i.rd ∧ reg i.rs1 ∧ reg i.rs2 ∧
  (lay i.op = 1 → i.rs1 = 0 ∧ i.rs2 = 0 ∧ i.imm % 4096 = 0) ∧
  (lay i.op = 2 → i.rs1 = 0 ∧ i.rs2 = 0 ∧ -1048576 ≤ i.imm ∧ i.imm ≤ 1048574 ∧ i.imm % 2 = 0) ∧
  (lay i.op = 3 → i.rd = 0 ∧ -4096 ≤ i.imm ∧ i.imm ≤ 4094 ∧ i.imm % 2 = 0) ∧
  (lay i.op = 4 → i.rd = 0 ∧ -2048 ≤ i.imm ∧ i.imm ≤ 2047) ∧
  (lay i.op = 5 → i.rs2 = 0 ∧ -2048 ≤ i.imm ∧ i.imm ≤ 2047) ∧
  (lay i.op = 6 → i.rs2 = 0 ∧ 0 ≤ i.imm ∧ i.imm ≤ 31) ∧
  (lay i.op = 7 → i.imm = 0) ∧
  (lay i.op = 0 → i.rd = 0 ∧ i.rs1 = 0 ∧ i.rs2 = 0 ∧ i.imm = 0)

theorem good_1 {i : Ins} (h : lay i.op = 1) : good i ↔ ((1 ≤ i.op ∧ i.op ≤ 49) ∧ reg i.rd ∧ i.rs1 = 0 ∧ i.rs2 = 0 ∧ i.imm % 4096 = 0) := by
  unfold good reg; rw [h]; constructor <;> intro H <;> (simp at H ⊢; omega)
theorem good_2 {i : Ins} (h : lay i.op = 2) : good i ↔ ((1 ≤ i.op ∧ i.op ≤ 49) ∧ reg i.rd ∧ i.rs1 = 0 ∧ i.rs2 = 0 ∧ -1048576 ≤ i.imm ∧ i.imm ≤ 1048574 ∧ i.imm % 2 = 0) := by
  unfold good reg; rw [h]; constructor <;> intro H <;> (simp at H ⊢; omega)
theorem good_3 {i : Ins} (h : lay i.op = 3) : good i ↔ ((1 ≤ i.op ∧ i.op ≤ 49) ∧ i.rd = 0 ∧ reg i.rs1 ∧ reg i.rs2 ∧ -4096 ≤ i.imm ∧ i.imm ≤ 4094 ∧ i.imm % 2 = 0) := by
  unfold good reg; rw [h]; constructor <;> intro H <;> (simp at H ⊢; omega)
theorem good_4 {i : Ins} (h : lay i.op = 4) : good i ↔ ((1 ≤ i.op ∧ i.op ≤ 49) ∧ i.rd = 0 ∧ reg i.rs1 ∧ reg i.rs2 ∧ -2048 ≤ i.imm ∧ i.imm ≤ 2047) := by
  unfold good reg; rw [h]; constructor <;> intro H <;> (simp at H ⊢; omega)
theorem good_5 {i : Ins} (h : lay i.op = 5) : good i ↔ ((1 ≤ i.op ∧ i.op ≤ 49) ∧ reg i.rd ∧ reg i.rs1 ∧ i.rs2 = 0 ∧ -2048 ≤ i.imm ∧ i.imm ≤ 2047) := by
  unfold good reg; rw [h]; constructor <;> intro H <;> (simp at H ⊢; omega)
theorem good_6 {i : Ins} (h : lay i.op = 6) : good i ↔ ((1 ≤ i.op ∧ i.op ≤ 49) ∧ reg i.rd ∧ reg i.rs1 ∧ i.rs2 = 0 ∧ 0 ≤ i.imm ∧ i.imm ≤ 31) := by
  unfold good reg; rw [h]; constructor <;> intro H <;> (simp at H ⊢; omega)
theorem good_7 {i : Ins} (h : lay i.op = 7) : good i ↔ ((1 ≤ i.op ∧ i.op ≤ 49) ∧ reg i.rd ∧ reg i.rs1 ∧ reg i.rs2 ∧ i.imm = 0) := by
  unfold good reg; rw [h]; constructor <;> intro H <;> (simp at H ⊢; omega)
theorem good_0 {i : Ins} (h : lay i.op = 0) : good i ↔ ((1 ≤ i.op ∧ i.op ≤ 49) ∧ i.rd = 0 ∧ i.rs1 = 0 ∧ i.rs2 = 0 ∧ i.imm = 0) := by
  unfold good reg; rw [h]; constructor <;> intro H <;> (simp at H ⊢; omega)

/-- Decode tells good ones alone. -/
theorem dec_good {w : Int} (h : U32 w) (h0 : opI w ≠ 0) : good (dec w) := by
  have hb := opI_bd h
  obtain ⟨u0, u1⟩ := h
  rcases lay_cases (opI w) with ⟨l, c⟩ | ⟨l, c⟩ | ⟨l, c⟩ | ⟨l, c⟩ | ⟨l, c⟩ | ⟨l, c⟩ | ⟨l, c⟩ | ⟨l, c⟩
  · rw [dec_1 l]; refine (good_1 l).2 ?_; simp only [reg, fd, immU]; (repeat' apply And.intro) <;> first | omega | trivial
  · rw [dec_2 l]; refine (good_2 l).2 ?_; simp only [reg, fd, immJ]; (repeat' apply And.intro) <;> first | omega | trivial
  · rw [dec_3 l]; refine (good_3 l).2 ?_; simp only [reg, fs, ft, immB]; (repeat' apply And.intro) <;> first | omega | trivial
  · rw [dec_4 l]; refine (good_4 l).2 ?_; simp only [reg, fs, ft, immS]; (repeat' apply And.intro) <;> first | omega | trivial
  · rw [dec_5 l]; refine (good_5 l).2 ?_; simp only [reg, fd, fs, immI]; (repeat' apply And.intro) <;> first | omega | trivial
  · rw [dec_6 l]; refine (good_6 l).2 ?_; simp only [reg, fd, fs, ft]; (repeat' apply And.intro) <;> first | omega | trivial
  · rw [dec_7 l]; refine (good_7 l).2 ?_; simp only [reg, fd, fs, ft]; (repeat' apply And.intro) <;> first | omega | trivial
  · rw [dec_0 l]; refine (good_0 l).2 ?_; dsimp only; omega

theorem cho_1 {i : Ins} (h : lay i.op = 1) : cho i = 128 * (i.rd % 32) + 4096 * (i.imm / 4096 % 1048576) := by simp [cho, h]
theorem cho_2 {i : Ins} (h : lay i.op = 2) : cho i = 128 * (i.rd % 32) + 4096 * (i.imm / 4096 % 256) + 1048576 * (i.imm / 2048 % 2) + 2097152 * (i.imm / 2 % 1024) + 2147483648 * (i.imm / 1048576 % 2) := by simp [cho, h]
theorem cho_3 {i : Ins} (h : lay i.op = 3) : cho i = 128 * (i.imm / 2048 % 2) + 256 * (i.imm / 2 % 16) + 32768 * (i.rs1 % 32) + 1048576 * (i.rs2 % 32) + 33554432 * (i.imm / 32 % 64) + 2147483648 * (i.imm / 4096 % 2) := by simp [cho, h]
theorem cho_4 {i : Ins} (h : lay i.op = 4) : cho i = 128 * (i.imm % 32) + 32768 * (i.rs1 % 32) + 1048576 * (i.rs2 % 32) + 33554432 * (i.imm / 32 % 128) := by simp [cho, h]
theorem cho_5 {i : Ins} (h : lay i.op = 5) : cho i = 128 * (i.rd % 32) + 32768 * (i.rs1 % 32) + 1048576 * (i.imm % 4096) := by simp [cho, h]
theorem cho_6 {i : Ins} (h : lay i.op = 6) : cho i = 128 * (i.rd % 32) + 32768 * (i.rs1 % 32) + 1048576 * (i.imm % 32) := by simp [cho, h]
theorem cho_7 {i : Ins} (h : lay i.op = 7) : cho i = 128 * (i.rd % 32) + 32768 * (i.rs1 % 32) + 1048576 * (i.rs2 % 32) := by simp [cho, h]
theorem cho_0 {i : Ins} (h : lay i.op = 0) : cho i = 0 := by simp [cho, h]


/-- A word's parts, and its Op's word. -/
theorem wo_parts {op : Int} (h0 : 1 ≤ op) (h1 : op ≤ 45) : ∃ n o f3 f7 : Nat, op = n ∧ n = op.toNat ∧ 0 < n ∧ n < 46 ∧ foN n = o ∧ f3N n = f3 ∧ f7N n = f7 ∧ wo op = o + 4096 * f3 + 33554432 * f7 ∧ o < 128 ∧ f3 < 8 ∧ f7 < 128 ∧ (op ≤ 3 → f3 = 0) ∧ (op < 25 → f7 = 0) := by
  obtain ⟨n, rfl⟩ := Int.eq_ofNat_of_zero_le (show 0 ≤ op by omega)
  have hf := f_all n (by omega)
  refine ⟨n, _, _, _, rfl, rfl, by omega, by omega, rfl, rfl, rfl, ?_, hf.1, hf.2.1, hf.2.2.1, fun h => hf.2.2.2.1 (by omega), fun h => hf.2.2.2.2 (by omega)⟩
  have := wo_all n (by omega) (by omega)
  unfold wo
  rw [Int.toNat_natCast, this]
  simp
theorem fo_not115 : ∀ n, n < 46 → 0 < n → foN n ≠ 115 := by decide +kernel
/-- A word with an Op's opcode, and its funct3 and funct7 where it has them, is of that Op. -/
theorem opI_at {w : Int} {n : Nat} (hw : U32 w) (h0 : 0 < n) (h1 : n < 46) (ho : w % 128 = foN n) (h3 : 3 < n → w / 4096 % 8 = f3N n) (h7 : 25 ≤ n → w / 33554432 = f7N n) : opI w = n := by
  have hn := fo_not115 n h1 h0
  obtain ⟨u0, u1⟩ := hw
  have h115 : w ≠ 115 := by intro h; subst h; omega
  have hbr : w ≠ 1048691 := by intro h; subst h; omega
  unfold opI
  rw [if_neg h115, if_neg hbr]
  rw [fits_opN (op := n) (by omega) h0 (by omega) (by omega)]
  unfold fits
  have e1 : (foN n == (w % 128).toNat) = true := by simp; omega
  have e2 : (decide (n ≤ 3) || f3N n == (w / 4096 % 8).toNat) = true := by
    by_cases h : n ≤ 3
    · simp [h]
    · have := h3 (by omega); simp; omega
  have e3 : (decide (n < 25) || decide (45 < n) || f7N n == (w / 33554432).toNat) = true := by
    by_cases h : n < 25
    · simp [h]
    · have := h7 (by omega); simp; omega
  rw [e1, e2, e3]; rfl

end Go.Proofs.YthkampohgbddnaaDoor.Rv
