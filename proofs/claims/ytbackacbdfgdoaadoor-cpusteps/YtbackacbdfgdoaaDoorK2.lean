/- PLAIN MATHEMATICS OF LAYER 5 (words and instructions): what Decode and Encode come to, as integers; no Go in sight. · PLAIN MATHEMATICS OF LAYER 5: words there and back. · LAYER 5's walks: the bits of a word. · LAYER 5's walks: the numbers that lie in pieces; layouts. · LAYER 5's walks: the tables, a word's Op. -/
import Derived.Test.YtbackacbdfgdoaaDoorK1
import Derived.Test.YtbackacbdfgdoaaDoorRows
import Derived.WalkKit
import Derived.ProofKit
import Derived.OpenShut
import Derived.WalkLawsBesides
namespace Go.Proofs.YtbackacbdfgdoaaDoor.Rv
open Alu

/-- An instruction, plain. -/
structure Ins where
  op : Int
  rd : Int
  rs1 : Int
  rs2 : Int
  imm : Int

theorem Ins.ext_iff {a b : Ins} : a = b ↔ a.op = b.op ∧ a.rd = b.rd ∧ a.rs1 = b.rs1 ∧ a.rs2 = b.rs2 ∧ a.imm = b.imm := by
  obtain ⟨_, _, _, _, _⟩ := a; obtain ⟨_, _, _, _, _⟩ := b; simp

def brT : List Nat := [5, 6, 0, 0, 7, 8, 9, 10]
def ldT : List Nat := [11, 12, 13, 0, 14, 15, 0, 0]
def stT : List Nat := [16, 17, 18, 0, 0, 0, 0, 0]
def imT : List Nat := [19, 0, 20, 21, 22, 0, 23, 24]
def rgT : List Nat := [28, 30, 31, 32, 33, 34, 36, 37]
def kdT : List Nat := [0, 3, 4, 5, 8, 9, 2, 6, 7]
def woT : List Nat := [0, 55, 23, 111, 103, 99, 4195, 16483, 20579, 24675, 28771, 3, 4099, 8195, 16387, 20483, 35, 4131, 8227, 19, 8211, 12307, 16403, 24595, 28691, 4115, 20499, 1073762323, 51, 1073741875, 4147, 8243, 12339, 16435, 20531, 1073762355, 24627, 28723, 33554483, 33558579, 33562675, 33566771, 33570867, 33574963, 33579059, 33583155, 267386895, 4111, 115, 1048691]

/-- Package rv's Op by opcode, funct3, funct7 (the words 115 and 1048691 apart). -/
def imN (f3 f7 : Nat) : Nat := if f3 = 1 then (if f7 = 0 then 25 else 0) else if f3 = 5 then (if f7 = 32 then 27 else if f7 = 0 then 26 else 0) else imT.getD f3 0
def rgN (f3 f7 : Nat) : Nat := if f7 = 0 then rgT.getD f3 0 else if f7 = 1 then 38 + f3 else if f7 = 32 then (if f3 = 0 then 29 else if f3 = 5 then 35 else 0) else 0
def feN (f3 : Nat) : Nat := if f3 = 0 then 46 else if f3 = 1 then 47 else 0
def opN (o f3 f7 : Nat) : Nat :=
  if o = 55 then 1 else if o = 23 then 2 else if o = 111 then 3 else if o = 103 then (if f3 = 0 then 4 else 0)
  else if o = 99 then brT.getD f3 0 else if o = 3 then ldT.getD f3 0 else if o = 35 then stT.getD f3 0
  else if o = 19 then imN f3 f7 else if o = 51 then rgN f3 f7 else if o = 15 then feN f3 else 0

/-- The document's forms by Op. -/
def foN (op : Nat) : Nat :=
  if op = 1 then 55 else if op = 2 then 23 else if op = 3 then 111 else if op = 4 then 103 else if op ≤ 10 then 99 else if op ≤ 15 then 3 else if op ≤ 18 then 35
  else if op ≤ 27 then 19 else if op ≤ 45 then 51 else 15
def f3N (op : Nat) : Nat := [0, 0, 0, 0, 0, 0, 1, 4, 5, 6, 7, 0, 1, 2, 4, 5, 0, 1, 2, 0, 2, 3, 4, 6, 7, 1, 5, 5, 0, 0, 1, 2, 3, 4, 5, 5, 6, 7, 0, 1, 2, 3, 4, 5, 6, 7, 0, 1].getD op 0
def f7N (op : Nat) : Nat := if op = 27 then 32 else if op = 29 then 32 else if op = 35 then 32 else if 38 ≤ op ∧ op ≤ 45 then 1 else 0

/-- Does a word's opcode, funct3, funct7 fit an Op? -/
def fits (op o f3 f7 : Nat) : Bool := foN op == o && (op ≤ 3 || f3N op == f3) && (op < 25 || 45 < op || f7N op == f7)

def opcodes : List Nat := [55, 23, 111, 103, 99, 3, 35, 19, 51, 15]

theorem opN_none {o : Nat} (h : o ∉ opcodes) (f3 f7 : Nat) : opN o f3 f7 = 0 := by
  simp [opcodes] at h
  simp [opN, h]
theorem opN_fits_all : ∀ o ∈ opcodes, ∀ f3, f3 < 8 → ∀ f7, f7 < 128 → opN o f3 f7 < 48 ∧ (opN o f3 f7 = 0 ∨ fits (opN o f3 f7) o f3 f7 = true) := by
  decide +kernel
theorem opN_lt (o f3 f7 : Nat) (h3 : f3 < 8) (h7 : f7 < 128) : opN o f3 f7 < 48 := by
  by_cases h : o ∈ opcodes
  · exact (opN_fits_all o h f3 h3 f7 h7).1
  · rw [opN_none h]; omega
theorem opN_fits (o f3 f7 : Nat) (h3 : f3 < 8) (h7 : f7 < 128) (h0 : opN o f3 f7 ≠ 0) : fits (opN o f3 f7) o f3 f7 = true := by
  by_cases h : o ∈ opcodes
  · exact (opN_fits_all o h f3 h3 f7 h7).2.resolve_left h0
  · exact absurd (opN_none h f3 f7) h0
theorem fits_all : ∀ op, op < 48 → 0 < op → ∀ f3, f3 < 8 → ∀ f7, f7 < 128 → fits op (foN op) f3 f7 = true → opN (foN op) f3 f7 = op := by
  decide +kernel
theorem fits_opN {op o f3 f7 : Nat} (hop : op < 48) (h0 : 0 < op) (h3 : f3 < 8) (h7 : f7 < 128) (h : fits op o f3 f7 = true) : opN o f3 f7 = op := by
  have ho : foN op = o := by simp [fits] at h; exact h.1.1
  subst ho
  exact fits_all op hop h0 f3 h3 f7 h7 h
theorem wo_all : ∀ op, op < 46 → 0 < op → woT.getD op 0 = foN op + 4096 * f3N op + 33554432 * f7N op := by decide +kernel
theorem f_all : ∀ op, op < 46 → foN op < 128 ∧ f3N op < 8 ∧ f7N op < 128 ∧ (op ≤ 3 → f3N op = 0) ∧ (op < 25 → f7N op = 0) := by decide +kernel

/-- A word's Op. -/
def opI (w : Int) : Int := if w = 115 then 48 else if w = 1048691 then 49 else (opN (w % 128).toNat (w / 4096 % 8).toNat (w / 33554432).toNat : Int)

theorem opI_bd {w : Int} (h : U32 w) : 0 ≤ opI w ∧ opI w ≤ 49 := by
  obtain ⟨h0, h1⟩ := h
  unfold opI
  have := opN_lt (w % 128).toNat (w / 4096 % 8).toNat (w / 33554432).toNat (by omega) (by omega)
  split
  · omega
  · split <;> omega

/-- The layouts of a word. -/
def lay (op : Int) : Int :=
  if op = 1 ∨ op = 2 then 1 else if op = 3 then 2 else if 5 ≤ op ∧ op ≤ 10 then 3 else if 16 ≤ op ∧ op ≤ 18 then 4
  else if op = 4 ∨ (11 ≤ op ∧ op ≤ 15) ∨ (19 ≤ op ∧ op ≤ 24) then 5 else if 25 ≤ op ∧ op ≤ 27 then 6 else if 28 ≤ op ∧ op ≤ 45 then 7 else 0

theorem lay_cases (op : Int) :
    (lay op = 1 ∧ (op = 1 ∨ op = 2)) ∨ (lay op = 2 ∧ op = 3) ∨ (lay op = 3 ∧ 5 ≤ op ∧ op ≤ 10) ∨ (lay op = 4 ∧ 16 ≤ op ∧ op ≤ 18) ∨
    (lay op = 5 ∧ (op = 4 ∨ (11 ≤ op ∧ op ≤ 15) ∨ (19 ≤ op ∧ op ≤ 24))) ∨ (lay op = 6 ∧ 25 ≤ op ∧ op ≤ 27) ∨ (lay op = 7 ∧ 28 ≤ op ∧ op ≤ 45) ∨ (lay op = 0 ∧ (op < 1 ∨ 45 < op)) := by
  unfold lay
  split
  · simp; omega
  split
  · simp; omega
  split
  · simp; omega
  split
  · simp; omega
  split
  · simp; omega
  split
  · simp; omega
  split
  · simp; omega
  · simp; omega

def immU (w : Int) : Int := w / 4096 * 4096 - 4294967296 * (w / 2147483648)
def immJ (w : Int) : Int := 4096 * (w / 4096 % 256) + 2048 * (w / 1048576 % 2) + 2 * (w / 2097152 % 1024) - 1048576 * (w / 2147483648)
def immB (w : Int) : Int := 2048 * (w / 128 % 2) + 32 * (w / 33554432 % 64) + 2 * (w / 256 % 16) - 4096 * (w / 2147483648)
def immS (w : Int) : Int := 32 * (w / 33554432 % 64) + w / 128 % 32 - 2048 * (w / 2147483648)
def immI (w : Int) : Int := w / 1048576 % 2048 - 2048 * (w / 2147483648)
def fd (w : Int) : Int := w / 128 % 32
def fs (w : Int) : Int := w / 32768 % 32
def ft (w : Int) : Int := w / 1048576 % 32

/-- What Decode answers. -/
def dec (w : Int) : Ins :=
  if lay (opI w) = 1 then ⟨opI w, fd w, 0, 0, immU w⟩
  else if lay (opI w) = 2 then ⟨opI w, fd w, 0, 0, immJ w⟩
  else if lay (opI w) = 3 then ⟨opI w, 0, fs w, ft w, immB w⟩
  else if lay (opI w) = 4 then ⟨opI w, 0, fs w, ft w, immS w⟩
  else if lay (opI w) = 5 then ⟨opI w, fd w, fs w, 0, immI w⟩
  else if lay (opI w) = 6 then ⟨opI w, fd w, fs w, 0, ft w⟩
  else if lay (opI w) = 7 then ⟨opI w, fd w, fs w, ft w, 0⟩
  else ⟨opI w, 0, 0, 0, 0⟩

theorem dec_op (w : Int) : (dec w).op = opI w := by
  unfold dec
  repeat (first | (split; rfl) | rfl)
theorem dec_1 {w : Int} (h : lay (opI w) = 1) : dec w = ⟨opI w, fd w, 0, 0, immU w⟩ := by simp [dec, h]
theorem dec_2 {w : Int} (h : lay (opI w) = 2) : dec w = ⟨opI w, fd w, 0, 0, immJ w⟩ := by simp [dec, h]
theorem dec_3 {w : Int} (h : lay (opI w) = 3) : dec w = ⟨opI w, 0, fs w, ft w, immB w⟩ := by simp [dec, h]
theorem dec_4 {w : Int} (h : lay (opI w) = 4) : dec w = ⟨opI w, 0, fs w, ft w, immS w⟩ := by simp [dec, h]
theorem dec_5 {w : Int} (h : lay (opI w) = 5) : dec w = ⟨opI w, fd w, fs w, 0, immI w⟩ := by simp [dec, h]
theorem dec_6 {w : Int} (h : lay (opI w) = 6) : dec w = ⟨opI w, fd w, fs w, 0, ft w⟩ := by simp [dec, h]
theorem dec_7 {w : Int} (h : lay (opI w) = 7) : dec w = ⟨opI w, fd w, fs w, ft w, 0⟩ := by simp [dec, h]
theorem dec_0 {w : Int} (h : lay (opI w) = 0) : dec w = ⟨opI w, 0, 0, 0, 0⟩ := by simp [dec, h]

/-- What an instruction chooses of a word, cut to its places. -/
def cho (i : Ins) : Int :=
  if lay i.op = 1 then 128 * (i.rd % 32) + 4096 * (i.imm / 4096 % 1048576)
  else if lay i.op = 2 then 128 * (i.rd % 32) + 4096 * (i.imm / 4096 % 256) + 1048576 * (i.imm / 2048 % 2) + 2097152 * (i.imm / 2 % 1024) + 2147483648 * (i.imm / 1048576 % 2)
  else if lay i.op = 3 then 128 * (i.imm / 2048 % 2) + 256 * (i.imm / 2 % 16) + 32768 * (i.rs1 % 32) + 1048576 * (i.rs2 % 32) + 33554432 * (i.imm / 32 % 64) + 2147483648 * (i.imm / 4096 % 2)
  else if lay i.op = 4 then 128 * (i.imm % 32) + 32768 * (i.rs1 % 32) + 1048576 * (i.rs2 % 32) + 33554432 * (i.imm / 32 % 128)
  else if lay i.op = 5 then 128 * (i.rd % 32) + 32768 * (i.rs1 % 32) + 1048576 * (i.imm % 4096)
  else if lay i.op = 6 then 128 * (i.rd % 32) + 32768 * (i.rs1 % 32) + 1048576 * (i.imm % 32)
  else if lay i.op = 7 then 128 * (i.rd % 32) + 32768 * (i.rs1 % 32) + 1048576 * (i.rs2 % 32)
  else 0
def wo (op : Int) : Int := ((woT.getD op.toNat 0 : Nat) : Int)
/-- The word that Encode tries. -/
def enc (i : Ins) : Int := wo i.op + cho i

/-- Is it one of those that Decode tells? -/
def reg (r : Int) : Prop := 0 ≤ r ∧ r < 32
def good (i : Ins) : Prop :=
  (1 ≤ i.op ∧ i.op ≤ 49) ∧ reg i.rd ∧ reg i.rs1 ∧ reg i.rs2 ∧
  (lay i.op = 1 → i.rs1 = 0 ∧ i.rs2 = 0 ∧ i.imm % 4096 = 0) ∧
  (lay i.op = 2 → i.rs1 = 0 ∧ i.rs2 = 0 ∧ -1048576 ≤ i.imm ∧ i.imm ≤ 1048574 ∧ i.imm % 2 = 0) ∧
  (lay i.op = 3 → i.rd = 0 ∧ -4096 ≤ i.imm ∧ i.imm ≤ 4094 ∧ i.imm % 2 = 0) ∧
  (lay i.op = 4 → i.rd = 0 ∧ -2048 ≤ i.imm ∧ i.imm ≤ 2047) ∧
  (lay i.op = 5 → i.rs2 = 0 ∧ -2048 ≤ i.imm ∧ i.imm ≤ 2047) ∧
  (lay i.op = 6 → i.rs2 = 0 ∧ 0 ≤ i.imm ∧ i.imm ≤ 31) ∧
  (lay i.op = 7 → i.imm = 0) ∧
  (lay i.op = 0 → i.rd = 0 ∧ i.rs1 = 0 ∧ i.rs2 = 0 ∧ i.imm = 0)

theorem good_1 {i : Ins} (h : lay i.op = 1) : good i ↔ ((1 ≤ i.op ∧ i.op ≤ 49) ∧ reg i.rd ∧ i.rs1 = 0 ∧ i.rs2 = 0 ∧ i.imm % 4096 = 0) := by
  unfold good reg; rw [h]; constructor <;> intro H <;> (simp at H ⊢; omega)
theorem good_2 {i : Ins} (h : lay i.op = 2) : good i ↔ ((1 ≤ i.op ∧ i.op ≤ 49) ∧ reg i.rd ∧ i.rs1 = 0 ∧ i.rs2 = 0 ∧ -1048576 ≤ i.imm ∧ i.imm ≤ 1048574 ∧ i.imm % 2 = 0) := by
  unfold good reg; rw [h]; constructor <;> intro H <;> (simp at H ⊢; omega)
theorem good_3 {i : Ins} (h : lay i.op = 3) : good i ↔ ((1 ≤ i.op ∧ i.op ≤ 49) ∧ i.rd = 0 ∧ reg i.rs1 ∧ reg i.rs2 ∧ -4096 ≤ i.imm ∧ i.imm ≤ 4094 ∧ i.imm % 2 = 0) := by
  unfold good reg; rw [h]; constructor <;> intro H <;> (simp at H ⊢; omega)
theorem good_4 {i : Ins} (h : lay i.op = 4) : good i ↔ ((1 ≤ i.op ∧ i.op ≤ 49) ∧ i.rd = 0 ∧ reg i.rs1 ∧ reg i.rs2 ∧ -2048 ≤ i.imm ∧ i.imm ≤ 2047) := by
  unfold good reg; rw [h]; constructor <;> intro H <;> (simp at H ⊢; omega)
theorem good_5 {i : Ins} (h : lay i.op = 5) : good i ↔ ((1 ≤ i.op ∧ i.op ≤ 49) ∧ reg i.rd ∧ reg i.rs1 ∧ i.rs2 = 0 ∧ -2048 ≤ i.imm ∧ i.imm ≤ 2047) := by
  unfold good reg; rw [h]; constructor <;> intro H <;> (simp at H ⊢; omega)
theorem good_6 {i : Ins} (h : lay i.op = 6) : good i ↔ ((1 ≤ i.op ∧ i.op ≤ 49) ∧ reg i.rd ∧ reg i.rs1 ∧ i.rs2 = 0 ∧ 0 ≤ i.imm ∧ i.imm ≤ 31) := by
  unfold good reg; rw [h]; constructor <;> intro H <;> (simp at H ⊢; omega)
theorem good_7 {i : Ins} (h : lay i.op = 7) : good i ↔ ((1 ≤ i.op ∧ i.op ≤ 49) ∧ reg i.rd ∧ reg i.rs1 ∧ reg i.rs2 ∧ i.imm = 0) := by
  unfold good reg; rw [h]; constructor <;> intro H <;> (simp at H ⊢; omega)
theorem good_0 {i : Ins} (h : lay i.op = 0) : good i ↔ ((1 ≤ i.op ∧ i.op ≤ 49) ∧ i.rd = 0 ∧ i.rs1 = 0 ∧ i.rs2 = 0 ∧ i.imm = 0) := by
  unfold good reg; rw [h]; constructor <;> intro H <;> (simp at H ⊢; omega)

/-- Decode tells good ones alone. -/
theorem dec_good {w : Int} (h : U32 w) (h0 : opI w ≠ 0) : good (dec w) := by
  have hb := opI_bd h
  obtain ⟨u0, u1⟩ := h
  rcases lay_cases (opI w) with ⟨l, c⟩ | ⟨l, c⟩ | ⟨l, c⟩ | ⟨l, c⟩ | ⟨l, c⟩ | ⟨l, c⟩ | ⟨l, c⟩ | ⟨l, c⟩
  · rw [dec_1 l]; refine (good_1 l).2 ?_; simp only [reg, fd, immU]; (repeat' apply And.intro) <;> first | omega | trivial
  · rw [dec_2 l]; refine (good_2 l).2 ?_; simp only [reg, fd, immJ]; (repeat' apply And.intro) <;> first | omega | trivial
  · rw [dec_3 l]; refine (good_3 l).2 ?_; simp only [reg, fs, ft, immB]; (repeat' apply And.intro) <;> first | omega | trivial
  · rw [dec_4 l]; refine (good_4 l).2 ?_; simp only [reg, fs, ft, immS]; (repeat' apply And.intro) <;> first | omega | trivial
  · rw [dec_5 l]; refine (good_5 l).2 ?_; simp only [reg, fd, fs, immI]; (repeat' apply And.intro) <;> first | omega | trivial
  · rw [dec_6 l]; refine (good_6 l).2 ?_; simp only [reg, fd, fs, ft]; (repeat' apply And.intro) <;> first | omega | trivial
  · rw [dec_7 l]; refine (good_7 l).2 ?_; simp only [reg, fd, fs, ft]; (repeat' apply And.intro) <;> first | omega | trivial
  · rw [dec_0 l]; refine (good_0 l).2 ?_; dsimp only; omega

theorem cho_1 {i : Ins} (h : lay i.op = 1) : cho i = 128 * (i.rd % 32) + 4096 * (i.imm / 4096 % 1048576) := by simp [cho, h]
theorem cho_2 {i : Ins} (h : lay i.op = 2) : cho i = 128 * (i.rd % 32) + 4096 * (i.imm / 4096 % 256) + 1048576 * (i.imm / 2048 % 2) + 2097152 * (i.imm / 2 % 1024) + 2147483648 * (i.imm / 1048576 % 2) := by simp [cho, h]
theorem cho_3 {i : Ins} (h : lay i.op = 3) : cho i = 128 * (i.imm / 2048 % 2) + 256 * (i.imm / 2 % 16) + 32768 * (i.rs1 % 32) + 1048576 * (i.rs2 % 32) + 33554432 * (i.imm / 32 % 64) + 2147483648 * (i.imm / 4096 % 2) := by simp [cho, h]
theorem cho_4 {i : Ins} (h : lay i.op = 4) : cho i = 128 * (i.imm % 32) + 32768 * (i.rs1 % 32) + 1048576 * (i.rs2 % 32) + 33554432 * (i.imm / 32 % 128) := by simp [cho, h]
theorem cho_5 {i : Ins} (h : lay i.op = 5) : cho i = 128 * (i.rd % 32) + 32768 * (i.rs1 % 32) + 1048576 * (i.imm % 4096) := by simp [cho, h]
theorem cho_6 {i : Ins} (h : lay i.op = 6) : cho i = 128 * (i.rd % 32) + 32768 * (i.rs1 % 32) + 1048576 * (i.imm % 32) := by simp [cho, h]
theorem cho_7 {i : Ins} (h : lay i.op = 7) : cho i = 128 * (i.rd % 32) + 32768 * (i.rs1 % 32) + 1048576 * (i.rs2 % 32) := by simp [cho, h]
theorem cho_0 {i : Ins} (h : lay i.op = 0) : cho i = 0 := by simp [cho, h]


/-- A word's parts, and its Op's word. -/
theorem wo_parts {op : Int} (h0 : 1 ≤ op) (h1 : op ≤ 45) : ∃ n o f3 f7 : Nat, op = n ∧ n = op.toNat ∧ 0 < n ∧ n < 46 ∧ foN n = o ∧ f3N n = f3 ∧ f7N n = f7 ∧ wo op = o + 4096 * f3 + 33554432 * f7 ∧ o < 128 ∧ f3 < 8 ∧ f7 < 128 ∧ (op ≤ 3 → f3 = 0) ∧ (op < 25 → f7 = 0) := by
  obtain ⟨n, rfl⟩ := Int.eq_ofNat_of_zero_le (show 0 ≤ op by omega)
  have hf := f_all n (by omega)
  refine ⟨n, _, _, _, rfl, rfl, by omega, by omega, rfl, rfl, rfl, ?_, hf.1, hf.2.1, hf.2.2.1, fun h => hf.2.2.2.1 (by omega), fun h => hf.2.2.2.2 (by omega)⟩
  have := wo_all n (by omega) (by omega)
  unfold wo
  rw [Int.toNat_natCast, this]
  simp
theorem fo_not115 : ∀ n, n < 46 → 0 < n → foN n ≠ 115 := by decide +kernel
/-- A word with an Op's opcode, and its funct3 and funct7 where it has them, is of that Op. -/
theorem opI_at {w : Int} {n : Nat} (hw : U32 w) (h0 : 0 < n) (h1 : n < 46) (ho : w % 128 = foN n) (h3 : 3 < n → w / 4096 % 8 = f3N n) (h7 : 25 ≤ n → w / 33554432 = f7N n) : opI w = n := by
  have hn := fo_not115 n h1 h0
  obtain ⟨u0, u1⟩ := hw
  have h115 : w ≠ 115 := by intro h; subst h; omega
  have hbr : w ≠ 1048691 := by intro h; subst h; omega
  unfold opI
  rw [if_neg h115, if_neg hbr]
  rw [fits_opN (op := n) (by omega) h0 (by omega) (by omega)]
  unfold fits
  have e1 : (foN n == (w % 128).toNat) = true := by simp; omega
  have e2 : (decide (n ≤ 3) || f3N n == (w / 4096 % 8).toNat) = true := by
    by_cases h : n ≤ 3
    · simp [h]
    · have := h3 (by omega); simp; omega
  have e3 : (decide (n < 25) || decide (45 < n) || f7N n == (w / 33554432).toNat) = true := by
    by_cases h : n < 25
    · simp [h]
    · have := h7 (by omega); simp; omega
  rw [e1, e2, e3]; rfl

end Go.Proofs.YtbackacbdfgdoaaDoor.Rv
namespace Go.Proofs.YtbackacbdfgdoaaDoor.Rv
open Alu
theorem j_parts {E o r p1 p2 p3 p4 : Int} (ho : 0 ≤ o ∧ o < 128) (hr : 0 ≤ r ∧ r < 32) (h1 : 0 ≤ p1 ∧ p1 < 256) (h2 : 0 ≤ p2 ∧ p2 < 2) (h3 : 0 ≤ p3 ∧ p3 < 1024) (_ : 0 ≤ p4 ∧ p4 < 2)
    (e : E = o + 128 * r + 4096 * p1 + 1048576 * p2 + 2097152 * p3 + 2147483648 * p4) : E % 128 = o ∧ E / 128 % 32 = r ∧ E / 4096 % 256 = p1 ∧ E / 1048576 % 2 = p2 ∧ E / 2097152 % 1024 = p3 ∧ E / 2147483648 = p4 := by
  refine ⟨?_, ?_, ?_, ?_, ?_, ?_⟩ <;> omega
theorem j_imm {m : Int} (h0 : -1048576 ≤ m) (h1 : m ≤ 1048574) (h2 : m % 2 = 0) : 4096 * (m / 4096 % 256) + 2048 * (m / 2048 % 2) + 2 * (m / 2 % 1024) - 1048576 * (m / 1048576 % 2) = m := by
  have a1 : m / 2048 = 2 * (m / 4096) + m / 2048 % 2 := by omega
  have a2 : m / 2 = 1024 * (m / 2048) + m / 2 % 1024 := by omega
  have a3 : m / 4096 = 256 * (m / 1048576) + m / 4096 % 256 := by omega
  have a4 : m / 1048576 = - (m / 1048576 % 2) := by omega
  omega
theorem b_parts {E o f3 s t p1 p2 p3 p4 : Int} (ho : 0 ≤ o ∧ o < 128) (hf : 0 ≤ f3 ∧ f3 < 8) (hs : 0 ≤ s ∧ s < 32) (ht : 0 ≤ t ∧ t < 32) (h1 : 0 ≤ p1 ∧ p1 < 2) (h2 : 0 ≤ p2 ∧ p2 < 16) (h3 : 0 ≤ p3 ∧ p3 < 64) (_ : 0 ≤ p4 ∧ p4 < 2)
    (e : E = o + 4096 * f3 + 128 * p1 + 256 * p2 + 32768 * s + 1048576 * t + 33554432 * p3 + 2147483648 * p4) :
    E % 128 = o ∧ E / 4096 % 8 = f3 ∧ E / 128 % 2 = p1 ∧ E / 256 % 16 = p2 ∧ E / 32768 % 32 = s ∧ E / 1048576 % 32 = t ∧ E / 33554432 % 64 = p3 ∧ E / 2147483648 = p4 := by
  refine ⟨?_, ?_, ?_, ?_, ?_, ?_, ?_, ?_⟩ <;> omega
theorem b_imm {m : Int} (h0 : -4096 ≤ m) (h1 : m ≤ 4094) (h2 : m % 2 = 0) : 2048 * (m / 2048 % 2) + 32 * (m / 32 % 64) + 2 * (m / 2 % 16) - 4096 * (m / 4096 % 2) = m := by
  have a1 : m / 2 = 16 * (m / 32) + m / 2 % 16 := by omega
  have a2 : m / 32 = 64 * (m / 2048) + m / 32 % 64 := by omega
  have a3 : m / 2048 = 2 * (m / 4096) + m / 2048 % 2 := by omega
  have a4 : m / 4096 = - (m / 4096 % 2) := by omega
  omega
theorem s_parts {E o f3 d s t q : Int} (ho : 0 ≤ o ∧ o < 128) (hf : 0 ≤ f3 ∧ f3 < 8) (hs : 0 ≤ s ∧ s < 32) (ht : 0 ≤ t ∧ t < 32) (h1 : 0 ≤ d ∧ d < 32) (_ : 0 ≤ q ∧ q < 128)
    (e : E = o + 4096 * f3 + 128 * d + 32768 * s + 1048576 * t + 33554432 * q) :
    E % 128 = o ∧ E / 4096 % 8 = f3 ∧ E / 128 % 32 = d ∧ E / 32768 % 32 = s ∧ E / 1048576 % 32 = t ∧ E / 33554432 = q ∧ E / 2147483648 = q / 64 ∧ E / 1048576 = t + 32 * q := by
  refine ⟨?_, ?_, ?_, ?_, ?_, ?_, ?_, ?_⟩ <;> omega
theorem s_imm {m : Int} (h0 : -2048 ≤ m) (h1 : m ≤ 2047) : 32 * (m / 32 % 128 % 64) + m % 32 - 2048 * (m / 32 % 128 / 64) = m := by omega
theorem i_imm {m : Int} (h0 : -2048 ≤ m) (h1 : m ≤ 2047) : (m % 32 + 32 * (m / 32 % 128)) % 2048 - 2048 * (m / 32 % 128 / 64) = m := by omega
theorem s_back {d q : Int} (h1 : 0 ≤ d ∧ d < 32) (h2 : 0 ≤ q ∧ q < 128) : (32 * (q % 64) + d - 2048 * (q / 64)) % 32 = d ∧ (32 * (q % 64) + d - 2048 * (q / 64)) / 32 % 128 = q := by
  constructor <;> omega
theorem i_back {t q : Int} (h1 : 0 ≤ t ∧ t < 32) (h2 : 0 ≤ q ∧ q < 128) : ((t + 32 * q) % 2048 - 2048 * (q / 64)) % 4096 = t + 32 * q := by omega
theorem j_back {m p1 p2 p3 p4 : Int} (h1 : 0 ≤ p1 ∧ p1 < 256) (h2 : 0 ≤ p2 ∧ p2 < 2) (h3 : 0 ≤ p3 ∧ p3 < 1024) (h4 : 0 ≤ p4 ∧ p4 < 2) (e : m = 4096 * p1 + 2048 * p2 + 2 * p3 - 1048576 * p4) :
    m / 4096 % 256 = p1 ∧ m / 2048 % 2 = p2 ∧ m / 2 % 1024 = p3 ∧ m / 1048576 % 2 = p4 := by
  refine ⟨?_, ?_, ?_, ?_⟩ <;> omega
theorem b_back {m p1 p2 p3 p4 : Int} (h1 : 0 ≤ p1 ∧ p1 < 2) (h2 : 0 ≤ p2 ∧ p2 < 16) (h3 : 0 ≤ p3 ∧ p3 < 64) (h4 : 0 ≤ p4 ∧ p4 < 2) (e : m = 2048 * p1 + 32 * p3 + 2 * p2 - 4096 * p4) :
    m / 2048 % 2 = p1 ∧ m / 2 % 16 = p2 ∧ m / 32 % 64 = p3 ∧ m / 4096 % 2 = p4 := by
  refine ⟨?_, ?_, ?_, ?_⟩ <;> omega
/-- A word by its fields. -/
theorem w_fields {w : Int} (h : U32 w) : w = w % 128 + 4096 * (w / 4096 % 8) + 128 * (w / 128 % 32) + 32768 * (w / 32768 % 32) + 1048576 * (w / 1048576 % 32) + 33554432 * (w / 33554432) ∧ 0 ≤ w / 33554432 ∧ w / 33554432 < 128 := by
  obtain ⟨_, _⟩ := h; omega
theorem w_j {w : Int} (h : U32 w) : w = w % 128 + 128 * (w / 128 % 32) + 4096 * (w / 4096 % 256) + 1048576 * (w / 1048576 % 2) + 2097152 * (w / 2097152 % 1024) + 2147483648 * (w / 2147483648) ∧ 0 ≤ w / 2147483648 ∧ w / 2147483648 < 2 := by
  obtain ⟨_, _⟩ := h
  have a1 : w / 4096 = 256 * (w / 1048576) + w / 4096 % 256 := by omega
  have a2 : w / 1048576 = 2 * (w / 2097152) + w / 1048576 % 2 := by omega
  have a3 : w / 2097152 = 1024 * (w / 2147483648) + w / 2097152 % 1024 := by omega
  omega
theorem w_b {w : Int} (h : U32 w) : w = w % 128 + 4096 * (w / 4096 % 8) + 128 * (w / 128 % 2) + 256 * (w / 256 % 16) + 32768 * (w / 32768 % 32) + 1048576 * (w / 1048576 % 32) + 33554432 * (w / 33554432 % 64) + 2147483648 * (w / 2147483648) ∧ 0 ≤ w / 2147483648 ∧ w / 2147483648 < 2 := by
  obtain ⟨_, _⟩ := h
  have a1 : w / 128 = 2 * (w / 256) + w / 128 % 2 := by omega
  have a2 : w / 256 = 16 * (w / 4096) + w / 256 % 16 := by omega
  have a3 : w / 4096 = 8 * (w / 32768) + w / 4096 % 8 := by omega
  have a4 : w / 32768 = 32 * (w / 1048576) + w / 32768 % 32 := by omega
  have a5 : w / 1048576 = 32 * (w / 33554432) + w / 1048576 % 32 := by omega
  have a6 : w / 33554432 = 64 * (w / 2147483648) + w / 33554432 % 64 := by omega
  omega
/-- The word of an instruction is a number of 32 bits. -/
theorem enc_U32 {i : Ins} (h : 1 ≤ i.op ∧ i.op ≤ 49) : U32 (enc i) := by
  unfold U32 enc
  rcases lay_cases i.op with ⟨l, c⟩ | ⟨l, c⟩ | ⟨l, c⟩ | ⟨l, c⟩ | ⟨l, c⟩ | ⟨l, c⟩ | ⟨l, c⟩ | ⟨l, c⟩
  · rw [cho_1 l]; obtain ⟨n, o, f3, f7, _, _, _, _, _, _, _, e, _, _, _, _, _⟩ := wo_parts h.1 (by omega); omega
  · rw [cho_2 l]; obtain ⟨n, o, f3, f7, _, _, _, _, _, _, _, e, _, _, _, _, _⟩ := wo_parts h.1 (by omega); omega
  · rw [cho_3 l]; obtain ⟨n, o, f3, f7, _, _, _, _, _, _, _, e, _, _, _, _, _⟩ := wo_parts h.1 (by omega); omega
  · rw [cho_4 l]; obtain ⟨n, o, f3, f7, _, _, _, _, _, _, _, e, _, _, _, _, _⟩ := wo_parts h.1 (by omega); omega
  · rw [cho_5 l]; obtain ⟨n, o, f3, f7, _, _, _, _, _, _, _, e, _, _, _, _, _⟩ := wo_parts h.1 (by omega); omega
  · rw [cho_6 l]; obtain ⟨n, o, f3, f7, _, _, _, _, _, _, _, e, _, _, _, _, _⟩ := wo_parts h.1 (by omega); omega
  · rw [cho_7 l]; obtain ⟨n, o, f3, f7, _, _, _, _, _, _, _, e, _, _, _, _, _⟩ := wo_parts h.1 (by omega); omega
  · rw [cho_0 l]
    obtain h | h | h | h : i.op = 46 ∨ i.op = 47 ∨ i.op = 48 ∨ i.op = 49 := by omega
    all_goals (rw [h]; decide)

/-- A good instruction's word is read back as it. -/
theorem dec_enc {i : Ins} (h : good i) (hm : -2147483648 ≤ i.imm ∧ i.imm < 2147483648) : dec (enc i) = i := by
  have hop := h.1
  have hu := enc_U32 hop
  have hI : ∀ n : Nat, i.op = n → opI (enc i) = n → opI (enc i) = i.op := fun n h1 h2 => by rw [h2, h1]
  have ee : enc i = wo i.op + cho i := rfl
  rcases lay_cases i.op with ⟨l, c⟩ | ⟨l, c⟩ | ⟨l, c⟩ | ⟨l, c⟩ | ⟨l, c⟩ | ⟨l, c⟩ | ⟨l, c⟩ | ⟨l, c⟩
  · obtain ⟨n, o, f3, f7, en, _, n0, n1, eo, e3, e7, e, bo, b3, b7, z3, z7⟩ := wo_parts hop.1 (by omega)
    have g := (good_1 l).1 h; unfold reg at g
    rw [cho_1 l, e] at ee
    generalize enc i = E at *
    have z3' := z3 (by omega); have z7' := z7 (by omega)
    have q : E % 128 = o ∧ E / 128 % 32 = i.rd ∧ E / 4096 = i.imm / 4096 % 1048576 := by refine ⟨?_, ?_, ?_⟩ <;> omega
    have ho := hI n en (opI_at hu n0 n1 (by rw [eo]; exact q.1) (fun h => by omega) (fun h => by omega))
    rw [dec_1 (by rw [ho]; exact l), ho, Ins.ext_iff]; dsimp only [fd, fs, ft, immU]
    refine ⟨rfl, ?_, ?_, ?_, ?_⟩ <;> omega
  · obtain ⟨n, o, f3, f7, en, _, n0, n1, eo, e3, e7, e, bo, b3, b7, z3, z7⟩ := wo_parts hop.1 (by omega)
    have g := (good_2 l).1 h; unfold reg at g
    rw [cho_2 l, e] at ee
    generalize enc i = E at *
    have z3' := z3 (by omega); have z7' := z7 (by omega)
    have q := j_parts (E := E) (o := o) (r := i.rd) (p1 := i.imm / 4096 % 256) (p2 := i.imm / 2048 % 2) (p3 := i.imm / 2 % 1024) (p4 := i.imm / 1048576 % 2) (by omega) (by omega) (by omega) (by omega) (by omega) (by omega) (by omega)
    have m := j_imm g.2.2.2.2.1 g.2.2.2.2.2.1 g.2.2.2.2.2.2
    have ho := hI n en (opI_at hu n0 n1 (by rw [eo]; exact q.1) (fun h => by omega) (fun h => by omega))
    rw [dec_2 (by rw [ho]; exact l), ho, Ins.ext_iff]; dsimp only [fd, fs, ft, immJ]
    rw [q.2.1, q.2.2.1, q.2.2.2.1, q.2.2.2.2.1, q.2.2.2.2.2, m]; refine ⟨rfl, rfl, ?_, ?_, rfl⟩ <;> omega
  · obtain ⟨n, o, f3, f7, en, _, n0, n1, eo, e3, e7, e, bo, b3, b7, z3, z7⟩ := wo_parts hop.1 (by omega)
    have g := (good_3 l).1 h; unfold reg at g
    rw [cho_3 l, e] at ee
    generalize enc i = E at *
    have z7' := z7 (by omega)
    have q := b_parts (E := E) (o := o) (f3 := f3) (s := i.rs1) (t := i.rs2) (p1 := i.imm / 2048 % 2) (p2 := i.imm / 2 % 16) (p3 := i.imm / 32 % 64) (p4 := i.imm / 4096 % 2) (by omega) (by omega) (by omega) (by omega) (by omega) (by omega) (by omega) (by omega) (by omega)
    have m := b_imm g.2.2.2.2.1 g.2.2.2.2.2.1 g.2.2.2.2.2.2
    have ho := hI n en (opI_at hu n0 n1 (by rw [eo]; exact q.1) (fun h => by rw [e3]; exact q.2.1) (fun h => by omega))
    rw [dec_3 (by rw [ho]; exact l), ho, Ins.ext_iff]; dsimp only [fd, fs, ft, immB]
    rw [q.2.2.1, q.2.2.2.1, q.2.2.2.2.1, q.2.2.2.2.2.1, q.2.2.2.2.2.2.1, q.2.2.2.2.2.2.2, m]; refine ⟨rfl, ?_, rfl, rfl, rfl⟩; omega
  · obtain ⟨n, o, f3, f7, en, _, n0, n1, eo, e3, e7, e, bo, b3, b7, z3, z7⟩ := wo_parts hop.1 (by omega)
    have g := (good_4 l).1 h; unfold reg at g
    rw [cho_4 l, e] at ee
    generalize enc i = E at *
    have z7' := z7 (by omega)
    have q := s_parts (E := E) (o := o) (f3 := f3) (d := i.imm % 32) (s := i.rs1) (t := i.rs2) (q := i.imm / 32 % 128) (by omega) (by omega) (by omega) (by omega) (by omega) (by omega) (by omega)
    have ho := hI n en (opI_at hu n0 n1 (by rw [eo]; exact q.1) (fun h => by rw [e3]; exact q.2.1) (fun h => by omega))
    rw [dec_4 (by rw [ho]; exact l), ho, Ins.ext_iff]; dsimp only [fd, fs, ft, immS]
    rw [q.2.2.1, q.2.2.2.1, q.2.2.2.2.1, q.2.2.2.2.2.1, q.2.2.2.2.2.2.1, s_imm g.2.2.2.2.1 g.2.2.2.2.2]; refine ⟨rfl, ?_, rfl, rfl, rfl⟩; omega
  · obtain ⟨n, o, f3, f7, en, _, n0, n1, eo, e3, e7, e, bo, b3, b7, z3, z7⟩ := wo_parts hop.1 (by omega)
    have g := (good_5 l).1 h; unfold reg at g
    rw [cho_5 l, e] at ee
    generalize enc i = E at *
    have z7' := z7 (by omega)
    have q := s_parts (E := E) (o := o) (f3 := f3) (d := i.rd) (s := i.rs1) (t := i.imm % 32) (q := i.imm / 32 % 128) (by omega) (by omega) (by omega) (by omega) (by omega) (by omega) (by omega)
    have ho := hI n en (opI_at hu n0 n1 (by rw [eo]; exact q.1) (fun h => by rw [e3]; exact q.2.1) (fun h => by omega))
    rw [dec_5 (by rw [ho]; exact l), ho, Ins.ext_iff]; dsimp only [fd, fs, ft, immI]
    rw [q.2.2.1, q.2.2.2.1, q.2.2.2.2.2.2.1, q.2.2.2.2.2.2.2, i_imm g.2.2.2.2.1 g.2.2.2.2.2]; refine ⟨rfl, rfl, rfl, ?_, rfl⟩; omega
  · obtain ⟨n, o, f3, f7, en, _, n0, n1, eo, e3, e7, e, bo, b3, b7, z3, z7⟩ := wo_parts hop.1 (by omega)
    have g := (good_6 l).1 h; unfold reg at g
    rw [cho_6 l, e] at ee
    generalize enc i = E at *
    have q := s_parts (E := E) (o := o) (f3 := f3) (d := i.rd) (s := i.rs1) (t := i.imm) (q := f7) (by omega) (by omega) (by omega) (by omega) (by omega) (by omega) (by omega)
    have ho := hI n en (opI_at hu n0 n1 (by rw [eo]; exact q.1) (fun h => by rw [e3]; exact q.2.1) (fun h => by rw [e7]; exact q.2.2.2.2.2.1))
    rw [dec_6 (by rw [ho]; exact l), ho, Ins.ext_iff]; dsimp only [fd, fs, ft]
    rw [q.2.2.1, q.2.2.2.1, q.2.2.2.2.1]; refine ⟨rfl, rfl, rfl, ?_, ?_⟩ <;> omega
  · obtain ⟨n, o, f3, f7, en, _, n0, n1, eo, e3, e7, e, bo, b3, b7, z3, z7⟩ := wo_parts hop.1 (by omega)
    have g := (good_7 l).1 h; unfold reg at g
    rw [cho_7 l, e] at ee
    generalize enc i = E at *
    have q := s_parts (E := E) (o := o) (f3 := f3) (d := i.rd) (s := i.rs1) (t := i.rs2) (q := f7) (by omega) (by omega) (by omega) (by omega) (by omega) (by omega) (by omega)
    have ho := hI n en (opI_at hu n0 n1 (by rw [eo]; exact q.1) (fun h => by rw [e3]; exact q.2.1) (fun h => by rw [e7]; exact q.2.2.2.2.2.1))
    rw [dec_7 (by rw [ho]; exact l), ho, Ins.ext_iff]; dsimp only [fd, fs, ft]
    rw [q.2.2.1, q.2.2.2.1, q.2.2.2.2.1]; refine ⟨rfl, rfl, rfl, ?_, ?_⟩ <;> omega
  · have g := (good_0 l).1 h
    rw [cho_0 l] at ee
    have ho : opI (enc i) = i.op := by
      rw [ee]
      obtain h | h | h | h : i.op = 46 ∨ i.op = 47 ∨ i.op = 48 ∨ i.op = 49 := by omega
      all_goals (rw [h]; decide +kernel)
    rw [dec_0 (by rw [ho]; exact l), ho, Ins.ext_iff]; dsimp only
    refine ⟨rfl, ?_, ?_, ?_, ?_⟩ <;> omega

/-- What a word's Op says of its fields. -/
theorem opI_inv {w : Int} (hw : U32 w) {n : Nat} (h0 : 0 < n) (h1 : n < 46) (h : opI w = n) : w % 128 = foN n ∧ (3 < n → w / 4096 % 8 = f3N n) ∧ (25 ≤ n → w / 33554432 = f7N n) := by
  obtain ⟨u0, u1⟩ := hw
  unfold opI at h
  split at h
  · omega
  split at h
  · omega
  have hn : opN (w % 128).toNat (w / 4096 % 8).toNat (w / 33554432).toNat = n := by omega
  have hf := opN_fits (w % 128).toNat (w / 4096 % 8).toNat (w / 33554432).toNat (by omega) (by omega) (by omega)
  rw [hn] at hf
  unfold fits at hf
  simp only [Bool.and_eq_true, Bool.or_eq_true, beq_iff_eq, decide_eq_true_eq] at hf
  refine ⟨by omega, fun h => ?_, fun h => ?_⟩
  · have := hf.1.2.resolve_left (by omega); omega
  · have := hf.2.resolve_left (by omega); omega

/-- A word that is one is written back, but for what a fence leaves open. -/
theorem enc_dec {w : Int} (hw : U32 w) (h0 : opI w ≠ 0) (h46 : opI w ≠ 46) (h47 : opI w ≠ 47) : enc (dec w) = w := by
  have hb := opI_bd hw
  by_cases h48 : opI w = 48
  · have : w = 115 := by
      unfold opI at h48
      have := opN_lt (w % 128).toNat (w / 4096 % 8).toNat (w / 33554432).toNat (by omega) (by obtain ⟨_, _⟩ := hw; omega)
      split at h48
      · assumption
      · split at h48 <;> omega
    subst this; decide +kernel
  by_cases h49 : opI w = 49
  · have : w = 1048691 := by
      unfold opI at h49
      have := opN_lt (w % 128).toNat (w / 4096 % 8).toNat (w / 33554432).toNat (by omega) (by obtain ⟨_, _⟩ := hw; omega)
      split at h49
      · omega
      · split at h49
        · assumption
        · omega
    subst this; decide +kernel
  obtain ⟨n, o, f3, f7, en, _, n0, n1, eo, e3, e7, e, bo, b3, b7, z3, z7⟩ := wo_parts (op := opI w) (by omega) (by omega)
  have q := opI_inv hw n0 n1 en
  rw [eo, e3, e7] at q
  have wf := w_fields hw
  unfold enc
  obtain ⟨d, hd⟩ : ∃ d, w / 128 % 32 = d := ⟨_, rfl⟩
  obtain ⟨s, hs⟩ : ∃ s, w / 32768 % 32 = s := ⟨_, rfl⟩
  obtain ⟨t, ht⟩ : ∃ t, w / 1048576 % 32 = t := ⟨_, rfl⟩
  obtain ⟨g, hg⟩ : ∃ g, w / 33554432 = g := ⟨_, rfl⟩
  have bd : 0 ≤ d ∧ d < 32 := by omega
  have bs : 0 ≤ s ∧ s < 32 := by omega
  have bt : 0 ≤ t ∧ t < 32 := by omega
  have ed : d % 32 = d := by omega
  have es : s % 32 = s := by omega
  have et : t % 32 = t := by omega
  rcases lay_cases (opI w) with ⟨l, c⟩ | ⟨l, c⟩ | ⟨l, c⟩ | ⟨l, c⟩ | ⟨l, c⟩ | ⟨l, c⟩ | ⟨l, c⟩ | ⟨l, c⟩
  · rw [dec_1 l, cho_1 l]; dsimp only [fd, immU]; rw [e, hd, ed]
    have z3' := z3 (by omega); have z7' := z7 (by omega); have q1 := q.1
    clear z3 z7 q
    obtain ⟨_, _⟩ := hw
    have : (w / 4096 * 4096 - 4294967296 * (w / 2147483648)) / 4096 % 1048576 = w / 4096 := by omega
    rw [this]; clear wf; omega
  · rw [dec_2 l, cho_2 l]; dsimp only [fd, immJ]; rw [e, hd, ed]
    have z3' := z3 (by omega); have z7' := z7 (by omega); have q1 := q.1
    have wj := w_j hw
    rw [hd, q1] at wj
    have b := j_back (m := 4096 * (w / 4096 % 256) + 2048 * (w / 1048576 % 2) + 2 * (w / 2097152 % 1024) - 1048576 * (w / 2147483648)) (p1 := w / 4096 % 256) (p2 := w / 1048576 % 2) (p3 := w / 2097152 % 1024) (p4 := w / 2147483648) (by clear wf wj; omega) (by clear wf wj; omega) (by clear wf wj; omega) wj.2 rfl
    rw [b.1, b.2.1, b.2.2.1, b.2.2.2]
    have w1 := wj.1
    clear z3 z7 q wf b wj hs ht hg
    generalize w / 4096 % 256 = x1 at *; generalize w / 1048576 % 2 = x2 at *; generalize w / 2097152 % 1024 = x3 at *; generalize w / 2147483648 = x4 at *
    omega
  · rw [dec_3 l, cho_3 l]; dsimp only [fs, ft, immB]; rw [e, hs, ht, es, et]
    have z7' := z7 (by omega); have q1 := q.1; have q2 := q.2.1 (by omega)
    have wj := w_b hw
    rw [hs, ht, q1, q2] at wj
    have b := b_back (m := 2048 * (w / 128 % 2) + 32 * (w / 33554432 % 64) + 2 * (w / 256 % 16) - 4096 * (w / 2147483648)) (p1 := w / 128 % 2) (p2 := w / 256 % 16) (p3 := w / 33554432 % 64) (p4 := w / 2147483648) (by clear wf wj; omega) (by clear wf wj; omega) (by clear wf wj; omega) wj.2 rfl
    rw [b.1, b.2.1, b.2.2.1, b.2.2.2]
    have w1 := wj.1
    clear z3 z7 q wf b wj hd hg
    generalize w / 128 % 2 = x1 at *; generalize w / 256 % 16 = x2 at *; generalize w / 33554432 % 64 = x3 at *; generalize w / 2147483648 = x4 at *
    omega
  all_goals
    have q1 := q.1
    have q2 := q.2.1 (by omega)
    rw [q1, q2, hd, hs, ht, hg] at wf
    have w1 := wf.1
    have bg := wf.2
    have sp := s_parts (E := w) (o := o) (f3 := f3) (d := d) (s := s) (t := t) (q := g) (by clear wf; omega) (by clear wf; omega) bs bt bd bg w1
  · rw [dec_4 l, cho_4 l]; dsimp only [fs, ft, immS]; rw [e, hd, hs, ht, es, et, hg, sp.2.2.2.2.2.2.1, (s_back bd bg).1, (s_back bd bg).2]
    have z7' := z7 (by omega)
    clear sp hd hs ht hg wf q z3 z7
    omega
  · rw [dec_5 l, cho_5 l]; dsimp only [fd, fs, immI]; rw [e, hd, hs, ed, es, sp.2.2.2.2.2.2.1, sp.2.2.2.2.2.2.2, i_back bt bg]
    have z7' := z7 (by omega)
    clear sp hd hs ht hg wf q z3 z7
    omega
  · rw [dec_6 l, cho_6 l]; dsimp only [fd, fs, ft]; rw [e, hd, hs, ht, ed, es, et]
    have q3 := q.2.2 (by omega)
    rw [hg] at q3
    clear sp hd hs ht hg wf q z3 z7
    omega
  · rw [dec_7 l, cho_7 l]; dsimp only [fd, fs, ft]; rw [e, hd, hs, ht, ed, es, et]
    have q3 := q.2.2 (by omega)
    rw [hg] at q3
    clear sp hd hs ht hg wf q z3 z7
    omega
  · omega
theorem dec_fence {w : Int} (h : opI w = 46 ∨ opI w = 47) : dec w = ⟨opI w, 0, 0, 0, 0⟩ := by
  rcases lay_cases (opI w) with ⟨l, c⟩ | ⟨l, c⟩ | ⟨l, c⟩ | ⟨l, c⟩ | ⟨l, c⟩ | ⟨l, c⟩ | ⟨l, c⟩ | ⟨l, c⟩
  all_goals first | (exact dec_0 l) | omega
theorem dec_none {w : Int} (h : opI w = 0) : dec w = ⟨0, 0, 0, 0, 0⟩ := by
  rw [dec_0 (by rw [h]; decide), h]
/-- The bounds of what Decode tells. -/
theorem dec_bd {w : Int} (hw : U32 w) : (0 ≤ (dec w).op ∧ (dec w).op ≤ 49) ∧ reg (dec w).rd ∧ reg (dec w).rs1 ∧ reg (dec w).rs2 ∧ -2147483648 ≤ (dec w).imm ∧ (dec w).imm < 2147483648 := by
  have hb := opI_bd hw
  refine ⟨by rw [dec_op]; exact hb, ?_⟩
  obtain ⟨u0, u1⟩ := hw
  rcases lay_cases (opI w) with ⟨l, c⟩ | ⟨l, c⟩ | ⟨l, c⟩ | ⟨l, c⟩ | ⟨l, c⟩ | ⟨l, c⟩ | ⟨l, c⟩ | ⟨l, c⟩
  · rw [dec_1 l]; dsimp only [reg, fd, immU]; omega
  · rw [dec_2 l]; dsimp only [reg, fd, immJ]; omega
  · rw [dec_3 l]; dsimp only [reg, fs, ft, immB]; omega
  · rw [dec_4 l]; dsimp only [reg, fs, ft, immS]; omega
  · rw [dec_5 l]; dsimp only [reg, fd, fs, immI]; omega
  · rw [dec_6 l]; dsimp only [reg, fd, fs, ft]; omega
  · rw [dec_7 l]; dsimp only [reg, fd, fs, ft]; omega
  · rw [dec_0 l]; dsimp only [reg]; omega
/-- Encode's test comes to 'good'. -/
theorem dec_enc_iff {i : Ins} (hop : 1 ≤ i.op ∧ i.op ≤ 49) (hm : -2147483648 ≤ i.imm ∧ i.imm < 2147483648) : dec (enc i) = i ↔ good i := by
  refine ⟨fun h => ?_, fun h => dec_enc h hm⟩
  have hu := enc_U32 hop
  rw [← h]
  refine dec_good hu fun h0 => ?_
  have := dec_op (enc i)
  rw [h, h0] at this
  omega
end Go.Proofs.YtbackacbdfgdoaaDoor.Rv
namespace Go.Proofs.YtbackacbdfgdoaaDoor
open Go.ChangeShapes Go.WideShapes Go.ChangeAt Go.RowKit

theorem Rv.ret_int {k : IntKind} {a b : Int} (h : a = b) : Ending.returned (.int k a) = .returned (.int k b) := by rw [h]
theorem Rv.ret_bool {a b : Bool} (h : a = b) : Ending.returned (.bool a) = .returned (.bool b) := by rw [h]
theorem Rv.andm {v : Int} (h0 : 0 ≤ v) (h1 : v < 4294967296) (i : Nat) (hi : i ≤ 32) : bits .and .u32 v (2 ^ i - 1) = v % 2 ^ i :=
  bits_mask .u32 32 (by decide) (fun n a b => by rw [IntKind.wrap_u32]; omega) i hi v h0 h1
theorem Rv.ormul {x y : Int} (i : Nat) (hx0 : 0 ≤ x) (hx : x % 2 ^ i = 0) (hx1 : x < 4294967296) (hy0 : 0 ≤ y) (hy : y < 2 ^ i) (hy1 : y < 4294967296) : bits .or .u32 x y = x + y :=
  bits_join .u32 32 (by decide) (fun n a b => by rw [IntKind.wrap_u32]; omega) i x y hx0 hx hx1 hy0 hy hy1
theorem Rv.orcomm {x y : Int} (hx0 : 0 ≤ x) (hx1 : x < 4294967296) (hy0 : 0 ≤ y) (hy1 : y < 4294967296) : bits .or .u32 x y = bits .or .u32 y x := by
  rw [u32_or x y hx0 hx1 hy0 hy1, u32_or y x hy0 hy1 hx0 hx1, Nat.or_comm]
theorem bits_7_5 (v : Int) (h0 : 0 ≤ v) (h1 : v < 4294967296) (w : World) :
    Calls Tryd.prog 67 #[.int .u32 v, .int .u32 7, .int .u32 5] w fun e w' => e = .returned (.int .u32 (v / 128 % 32)) ∧ w' = w := by
  go_enter Tryd.func67, Tryd.ntmps67
  go_wp2
  go_ret
  exact ⟨Rv.ret_int (Rv.andm (v := v / 128) (by omega) (by omega) 5 (by decide)), rfl⟩
theorem bits_15_5 (v : Int) (h0 : 0 ≤ v) (h1 : v < 4294967296) (w : World) :
    Calls Tryd.prog 67 #[.int .u32 v, .int .u32 15, .int .u32 5] w fun e w' => e = .returned (.int .u32 (v / 32768 % 32)) ∧ w' = w := by
  go_enter Tryd.func67, Tryd.ntmps67
  go_wp2
  go_ret
  exact ⟨Rv.ret_int (Rv.andm (v := v / 32768) (by omega) (by omega) 5 (by decide)), rfl⟩
theorem bits_20_5 (v : Int) (h0 : 0 ≤ v) (h1 : v < 4294967296) (w : World) :
    Calls Tryd.prog 67 #[.int .u32 v, .int .u32 20, .int .u32 5] w fun e w' => e = .returned (.int .u32 (v / 1048576 % 32)) ∧ w' = w := by
  go_enter Tryd.func67, Tryd.ntmps67
  go_wp2
  go_ret
  exact ⟨Rv.ret_int (Rv.andm (v := v / 1048576) (by omega) (by omega) 5 (by decide)), rfl⟩
theorem bits_12_20 (v : Int) (h0 : 0 ≤ v) (h1 : v < 4294967296) (w : World) :
    Calls Tryd.prog 67 #[.int .u32 v, .int .u32 12, .int .u32 20] w fun e w' => e = .returned (.int .u32 (v / 4096 % 1048576)) ∧ w' = w := by
  go_enter Tryd.func67, Tryd.ntmps67
  go_wp2
  go_ret
  exact ⟨Rv.ret_int (Rv.andm (v := v / 4096) (by omega) (by omega) 20 (by decide)), rfl⟩
theorem bits_12_3 (v : Int) (h0 : 0 ≤ v) (h1 : v < 4294967296) (w : World) :
    Calls Tryd.prog 67 #[.int .u32 v, .int .u32 12, .int .u32 3] w fun e w' => e = .returned (.int .u32 (v / 4096 % 8)) ∧ w' = w := by
  go_enter Tryd.func67, Tryd.ntmps67
  go_wp2
  go_ret
  exact ⟨Rv.ret_int (Rv.andm (v := v / 4096) (by omega) (by omega) 3 (by decide)), rfl⟩
theorem bits_25_7 (v : Int) (h0 : 0 ≤ v) (h1 : v < 4294967296) (w : World) :
    Calls Tryd.prog 67 #[.int .u32 v, .int .u32 25, .int .u32 7] w fun e w' => e = .returned (.int .u32 (v / 33554432 % 128)) ∧ w' = w := by
  go_enter Tryd.func67, Tryd.ntmps67
  go_wp2
  go_ret
  exact ⟨Rv.ret_int (Rv.andm (v := v / 33554432) (by omega) (by omega) 7 (by decide)), rfl⟩
theorem bits_0_7 (v : Int) (h0 : 0 ≤ v) (h1 : v < 4294967296) (w : World) :
    Calls Tryd.prog 67 #[.int .u32 v, .int .u32 0, .int .u32 7] w fun e w' => e = .returned (.int .u32 (v % 128)) ∧ w' = w := by
  go_enter Tryd.func67, Tryd.ntmps67
  go_wp2
  go_ret
  exact ⟨Rv.ret_int (Rv.andm (v := v) (by omega) (by omega) 7 (by decide)), rfl⟩
theorem bits_12_8 (v : Int) (h0 : 0 ≤ v) (h1 : v < 4294967296) (w : World) :
    Calls Tryd.prog 67 #[.int .u32 v, .int .u32 12, .int .u32 8] w fun e w' => e = .returned (.int .u32 (v / 4096 % 256)) ∧ w' = w := by
  go_enter Tryd.func67, Tryd.ntmps67
  go_wp2
  go_ret
  exact ⟨Rv.ret_int (Rv.andm (v := v / 4096) (by omega) (by omega) 8 (by decide)), rfl⟩
theorem bits_20_1 (v : Int) (h0 : 0 ≤ v) (h1 : v < 4294967296) (w : World) :
    Calls Tryd.prog 67 #[.int .u32 v, .int .u32 20, .int .u32 1] w fun e w' => e = .returned (.int .u32 (v / 1048576 % 2)) ∧ w' = w := by
  go_enter Tryd.func67, Tryd.ntmps67
  go_wp2
  go_ret
  exact ⟨Rv.ret_int (Rv.andm (v := v / 1048576) (by omega) (by omega) 1 (by decide)), rfl⟩
theorem bits_21_10 (v : Int) (h0 : 0 ≤ v) (h1 : v < 4294967296) (w : World) :
    Calls Tryd.prog 67 #[.int .u32 v, .int .u32 21, .int .u32 10] w fun e w' => e = .returned (.int .u32 (v / 2097152 % 1024)) ∧ w' = w := by
  go_enter Tryd.func67, Tryd.ntmps67
  go_wp2
  go_ret
  exact ⟨Rv.ret_int (Rv.andm (v := v / 2097152) (by omega) (by omega) 10 (by decide)), rfl⟩
theorem bits_7_1 (v : Int) (h0 : 0 ≤ v) (h1 : v < 4294967296) (w : World) :
    Calls Tryd.prog 67 #[.int .u32 v, .int .u32 7, .int .u32 1] w fun e w' => e = .returned (.int .u32 (v / 128 % 2)) ∧ w' = w := by
  go_enter Tryd.func67, Tryd.ntmps67
  go_wp2
  go_ret
  exact ⟨Rv.ret_int (Rv.andm (v := v / 128) (by omega) (by omega) 1 (by decide)), rfl⟩
theorem bits_25_6 (v : Int) (h0 : 0 ≤ v) (h1 : v < 4294967296) (w : World) :
    Calls Tryd.prog 67 #[.int .u32 v, .int .u32 25, .int .u32 6] w fun e w' => e = .returned (.int .u32 (v / 33554432 % 64)) ∧ w' = w := by
  go_enter Tryd.func67, Tryd.ntmps67
  go_wp2
  go_ret
  exact ⟨Rv.ret_int (Rv.andm (v := v / 33554432) (by omega) (by omega) 6 (by decide)), rfl⟩
theorem bits_8_4 (v : Int) (h0 : 0 ≤ v) (h1 : v < 4294967296) (w : World) :
    Calls Tryd.prog 67 #[.int .u32 v, .int .u32 8, .int .u32 4] w fun e w' => e = .returned (.int .u32 (v / 256 % 16)) ∧ w' = w := by
  go_enter Tryd.func67, Tryd.ntmps67
  go_wp2
  go_ret
  exact ⟨Rv.ret_int (Rv.andm (v := v / 256) (by omega) (by omega) 4 (by decide)), rfl⟩
theorem bits_0_5 (v : Int) (h0 : 0 ≤ v) (h1 : v < 4294967296) (w : World) :
    Calls Tryd.prog 67 #[.int .u32 v, .int .u32 0, .int .u32 5] w fun e w' => e = .returned (.int .u32 (v % 32)) ∧ w' = w := by
  go_enter Tryd.func67, Tryd.ntmps67
  go_wp2
  go_ret
  exact ⟨Rv.ret_int (Rv.andm (v := v) (by omega) (by omega) 5 (by decide)), rfl⟩
theorem bits_1_10 (v : Int) (h0 : 0 ≤ v) (h1 : v < 4294967296) (w : World) :
    Calls Tryd.prog 67 #[.int .u32 v, .int .u32 1, .int .u32 10] w fun e w' => e = .returned (.int .u32 (v / 2 % 1024)) ∧ w' = w := by
  go_enter Tryd.func67, Tryd.ntmps67
  go_wp2
  go_ret
  exact ⟨Rv.ret_int (Rv.andm (v := v / 2) (by omega) (by omega) 10 (by decide)), rfl⟩
theorem bits_11_1 (v : Int) (h0 : 0 ≤ v) (h1 : v < 4294967296) (w : World) :
    Calls Tryd.prog 67 #[.int .u32 v, .int .u32 11, .int .u32 1] w fun e w' => e = .returned (.int .u32 (v / 2048 % 2)) ∧ w' = w := by
  go_enter Tryd.func67, Tryd.ntmps67
  go_wp2
  go_ret
  exact ⟨Rv.ret_int (Rv.andm (v := v / 2048) (by omega) (by omega) 1 (by decide)), rfl⟩
theorem bits_12_1 (v : Int) (h0 : 0 ≤ v) (h1 : v < 4294967296) (w : World) :
    Calls Tryd.prog 67 #[.int .u32 v, .int .u32 12, .int .u32 1] w fun e w' => e = .returned (.int .u32 (v / 4096 % 2)) ∧ w' = w := by
  go_enter Tryd.func67, Tryd.ntmps67
  go_wp2
  go_ret
  exact ⟨Rv.ret_int (Rv.andm (v := v / 4096) (by omega) (by omega) 1 (by decide)), rfl⟩
theorem bits_5_6 (v : Int) (h0 : 0 ≤ v) (h1 : v < 4294967296) (w : World) :
    Calls Tryd.prog 67 #[.int .u32 v, .int .u32 5, .int .u32 6] w fun e w' => e = .returned (.int .u32 (v / 32 % 64)) ∧ w' = w := by
  go_enter Tryd.func67, Tryd.ntmps67
  go_wp2
  go_ret
  exact ⟨Rv.ret_int (Rv.andm (v := v / 32) (by omega) (by omega) 6 (by decide)), rfl⟩
theorem bits_1_4 (v : Int) (h0 : 0 ≤ v) (h1 : v < 4294967296) (w : World) :
    Calls Tryd.prog 67 #[.int .u32 v, .int .u32 1, .int .u32 4] w fun e w' => e = .returned (.int .u32 (v / 2 % 16)) ∧ w' = w := by
  go_enter Tryd.func67, Tryd.ntmps67
  go_wp2
  go_ret
  exact ⟨Rv.ret_int (Rv.andm (v := v / 2) (by omega) (by omega) 4 (by decide)), rfl⟩
theorem bits_5_7 (v : Int) (h0 : 0 ≤ v) (h1 : v < 4294967296) (w : World) :
    Calls Tryd.prog 67 #[.int .u32 v, .int .u32 5, .int .u32 7] w fun e w' => e = .returned (.int .u32 (v / 32 % 128)) ∧ w' = w := by
  go_enter Tryd.func67, Tryd.ntmps67
  go_wp2
  go_ret
  exact ⟨Rv.ret_int (Rv.andm (v := v / 32) (by omega) (by omega) 7 (by decide)), rfl⟩
theorem bits_0_12 (v : Int) (h0 : 0 ≤ v) (h1 : v < 4294967296) (w : World) :
    Calls Tryd.prog 67 #[.int .u32 v, .int .u32 0, .int .u32 12] w fun e w' => e = .returned (.int .u32 (v % 4096)) ∧ w' = w := by
  go_enter Tryd.func67, Tryd.ntmps67
  go_wp2
  go_ret
  exact ⟨Rv.ret_int (Rv.andm (v := v) (by omega) (by omega) 12 (by decide)), rfl⟩

/-- The bits of a number from 'lo' on. -/
def Rv.fb (v lo n : Int) : Int := v / 2 ^ lo.toNat % 2 ^ n.toNat
def Rv.pairs : List (Int × Int) := [(7, 5), (15, 5), (20, 5), (12, 20), (12, 3), (25, 7), (0, 7), (12, 8), (20, 1), (21, 10), (7, 1), (25, 6), (8, 4), (0, 5), (1, 10), (11, 1), (12, 1), (5, 6), (1, 4), (5, 7), (0, 12)]
theorem bits_c (v lo n : Int) (h0 : 0 ≤ v) (h1 : v < 4294967296) (h : (lo, n) ∈ Rv.pairs) (w : World) :
    Calls Tryd.prog 67 #[.int .u32 v, .int .u32 lo, .int .u32 n] w fun e w' => e = .returned (.int .u32 (Rv.fb v lo n)) ∧ w' = w := by
  simp only [Rv.pairs, List.mem_cons, List.not_mem_nil, or_false, Prod.mk.injEq] at h
  rcases h with ⟨rfl, rfl⟩ | ⟨rfl, rfl⟩ | ⟨rfl, rfl⟩ | ⟨rfl, rfl⟩ | ⟨rfl, rfl⟩ | ⟨rfl, rfl⟩ | ⟨rfl, rfl⟩ | ⟨rfl, rfl⟩ | ⟨rfl, rfl⟩ | ⟨rfl, rfl⟩ | ⟨rfl, rfl⟩ | ⟨rfl, rfl⟩ | ⟨rfl, rfl⟩ | ⟨rfl, rfl⟩ | ⟨rfl, rfl⟩ | ⟨rfl, rfl⟩ | ⟨rfl, rfl⟩ | ⟨rfl, rfl⟩ | ⟨rfl, rfl⟩ | ⟨rfl, rfl⟩ | ⟨rfl, rfl⟩
  · exact (bits_7_5 v h0 h1 w).mono fun _ _ h => ⟨h.1.trans (Rv.ret_int (by simp [Rv.fb])), h.2⟩
  · exact (bits_15_5 v h0 h1 w).mono fun _ _ h => ⟨h.1.trans (Rv.ret_int (by simp [Rv.fb])), h.2⟩
  · exact (bits_20_5 v h0 h1 w).mono fun _ _ h => ⟨h.1.trans (Rv.ret_int (by simp [Rv.fb])), h.2⟩
  · exact (bits_12_20 v h0 h1 w).mono fun _ _ h => ⟨h.1.trans (Rv.ret_int (by simp [Rv.fb])), h.2⟩
  · exact (bits_12_3 v h0 h1 w).mono fun _ _ h => ⟨h.1.trans (Rv.ret_int (by simp [Rv.fb])), h.2⟩
  · exact (bits_25_7 v h0 h1 w).mono fun _ _ h => ⟨h.1.trans (Rv.ret_int (by simp [Rv.fb])), h.2⟩
  · exact (bits_0_7 v h0 h1 w).mono fun _ _ h => ⟨h.1.trans (Rv.ret_int (by simp [Rv.fb])), h.2⟩
  · exact (bits_12_8 v h0 h1 w).mono fun _ _ h => ⟨h.1.trans (Rv.ret_int (by simp [Rv.fb])), h.2⟩
  · exact (bits_20_1 v h0 h1 w).mono fun _ _ h => ⟨h.1.trans (Rv.ret_int (by simp [Rv.fb])), h.2⟩
  · exact (bits_21_10 v h0 h1 w).mono fun _ _ h => ⟨h.1.trans (Rv.ret_int (by simp [Rv.fb])), h.2⟩
  · exact (bits_7_1 v h0 h1 w).mono fun _ _ h => ⟨h.1.trans (Rv.ret_int (by simp [Rv.fb])), h.2⟩
  · exact (bits_25_6 v h0 h1 w).mono fun _ _ h => ⟨h.1.trans (Rv.ret_int (by simp [Rv.fb])), h.2⟩
  · exact (bits_8_4 v h0 h1 w).mono fun _ _ h => ⟨h.1.trans (Rv.ret_int (by simp [Rv.fb])), h.2⟩
  · exact (bits_0_5 v h0 h1 w).mono fun _ _ h => ⟨h.1.trans (Rv.ret_int (by simp [Rv.fb])), h.2⟩
  · exact (bits_1_10 v h0 h1 w).mono fun _ _ h => ⟨h.1.trans (Rv.ret_int (by simp [Rv.fb])), h.2⟩
  · exact (bits_11_1 v h0 h1 w).mono fun _ _ h => ⟨h.1.trans (Rv.ret_int (by simp [Rv.fb])), h.2⟩
  · exact (bits_12_1 v h0 h1 w).mono fun _ _ h => ⟨h.1.trans (Rv.ret_int (by simp [Rv.fb])), h.2⟩
  · exact (bits_5_6 v h0 h1 w).mono fun _ _ h => ⟨h.1.trans (Rv.ret_int (by simp [Rv.fb])), h.2⟩
  · exact (bits_1_4 v h0 h1 w).mono fun _ _ h => ⟨h.1.trans (Rv.ret_int (by simp [Rv.fb])), h.2⟩
  · exact (bits_5_7 v h0 h1 w).mono fun _ _ h => ⟨h.1.trans (Rv.ret_int (by simp [Rv.fb])), h.2⟩
  · exact (bits_0_12 v h0 h1 w).mono fun _ _ h => ⟨h.1.trans (Rv.ret_int (by simp [Rv.fb])), h.2⟩
end Go.Proofs.YtbackacbdfgdoaaDoor
namespace Go.Proofs.YtbackacbdfgdoaaDoor
open Go.ChangeShapes Go.WideShapes Go.ChangeAt Go.RowKit

theorem Rv.fb_7_5 (v : Int) : Rv.fb v 7 5 = v / 128 % 32 := by simp [Rv.fb]
theorem Rv.fb_15_5 (v : Int) : Rv.fb v 15 5 = v / 32768 % 32 := by simp [Rv.fb]
theorem Rv.fb_20_5 (v : Int) : Rv.fb v 20 5 = v / 1048576 % 32 := by simp [Rv.fb]
theorem Rv.fb_12_20 (v : Int) : Rv.fb v 12 20 = v / 4096 % 1048576 := by simp [Rv.fb]
theorem Rv.fb_12_3 (v : Int) : Rv.fb v 12 3 = v / 4096 % 8 := by simp [Rv.fb]
theorem Rv.fb_25_7 (v : Int) : Rv.fb v 25 7 = v / 33554432 % 128 := by simp [Rv.fb]
theorem Rv.fb_0_7 (v : Int) : Rv.fb v 0 7 = v % 128 := by simp [Rv.fb]
theorem Rv.fb_12_8 (v : Int) : Rv.fb v 12 8 = v / 4096 % 256 := by simp [Rv.fb]
theorem Rv.fb_20_1 (v : Int) : Rv.fb v 20 1 = v / 1048576 % 2 := by simp [Rv.fb]
theorem Rv.fb_21_10 (v : Int) : Rv.fb v 21 10 = v / 2097152 % 1024 := by simp [Rv.fb]
theorem Rv.fb_7_1 (v : Int) : Rv.fb v 7 1 = v / 128 % 2 := by simp [Rv.fb]
theorem Rv.fb_25_6 (v : Int) : Rv.fb v 25 6 = v / 33554432 % 64 := by simp [Rv.fb]
theorem Rv.fb_8_4 (v : Int) : Rv.fb v 8 4 = v / 256 % 16 := by simp [Rv.fb]
theorem Rv.fb_0_5 (v : Int) : Rv.fb v 0 5 = v % 32 := by simp [Rv.fb]
theorem Rv.fb_1_10 (v : Int) : Rv.fb v 1 10 = v / 2 % 1024 := by simp [Rv.fb]
theorem Rv.fb_11_1 (v : Int) : Rv.fb v 11 1 = v / 2048 % 2 := by simp [Rv.fb]
theorem Rv.fb_12_1 (v : Int) : Rv.fb v 12 1 = v / 4096 % 2 := by simp [Rv.fb]
theorem Rv.fb_5_6 (v : Int) : Rv.fb v 5 6 = v / 32 % 64 := by simp [Rv.fb]
theorem Rv.fb_1_4 (v : Int) : Rv.fb v 1 4 = v / 2 % 16 := by simp [Rv.fb]
theorem Rv.fb_5_7 (v : Int) : Rv.fb v 5 7 = v / 32 % 128 := by simp [Rv.fb]
theorem Rv.fb_0_12 (v : Int) : Rv.fb v 0 12 = v % 4096 := by simp [Rv.fb]
theorem Rv.or32_20 {x y : Int} (hx0 : -2147483648 ≤ x) (hx1 : x < 2147483648) (hx : x % 1048576 = 0) (hy0 : 0 ≤ y) (hy : y < 1048576) : bits .or .i32 x y = x + y := by
  show IntKind.i32.wrap ((BitVec.ofInt 32 x ||| BitVec.ofInt 32 y).toNat : Int) = _
  obtain ⟨a, ha⟩ : ∃ a, (BitVec.ofInt 32 x).toNat = a := ⟨_, rfl⟩
  have ha2 : a = (x % 4294967296).toNat := by rw [← ha, BitVec.toNat_ofInt]; rfl
  have hb : (BitVec.ofInt 32 y).toNat = y.toNat := by rw [BitVec.toNat_ofInt]; show (y % 4294967296).toNat = y.toNat; omega
  have hq : a = 2 ^ 20 * (a / 1048576) := by omega
  have hb' : y.toNat < 2 ^ 20 := by omega
  rw [BitVec.toNat_or, ha, hb, hq, ← Nat.two_pow_add_eq_or_of_lt hb' (a / 1048576), ← hq, IntKind.wrap_i32]
  omega
theorem Rv.or32_12 {x y : Int} (hx0 : -2147483648 ≤ x) (hx1 : x < 2147483648) (hx : x % 4096 = 0) (hy0 : 0 ≤ y) (hy : y < 4096) : bits .or .i32 x y = x + y := by
  show IntKind.i32.wrap ((BitVec.ofInt 32 x ||| BitVec.ofInt 32 y).toNat : Int) = _
  obtain ⟨a, ha⟩ : ∃ a, (BitVec.ofInt 32 x).toNat = a := ⟨_, rfl⟩
  have ha2 : a = (x % 4294967296).toNat := by rw [← ha, BitVec.toNat_ofInt]; rfl
  have hb : (BitVec.ofInt 32 y).toNat = y.toNat := by rw [BitVec.toNat_ofInt]; show (y % 4294967296).toNat = y.toNat; omega
  have hq : a = 2 ^ 12 * (a / 4096) := by omega
  have hb' : y.toNat < 2 ^ 12 := by omega
  rw [BitVec.toNat_or, ha, hb, hq, ← Nat.two_pow_add_eq_or_of_lt hb' (a / 4096), ← hq, IntKind.wrap_i32]
  omega
theorem Rv.or32_5 {x y : Int} (hx0 : -2147483648 ≤ x) (hx1 : x < 2147483648) (hx : x % 32 = 0) (hy0 : 0 ≤ y) (hy : y < 32) : bits .or .i32 x y = x + y := by
  show IntKind.i32.wrap ((BitVec.ofInt 32 x ||| BitVec.ofInt 32 y).toNat : Int) = _
  obtain ⟨a, ha⟩ : ∃ a, (BitVec.ofInt 32 x).toNat = a := ⟨_, rfl⟩
  have ha2 : a = (x % 4294967296).toNat := by rw [← ha, BitVec.toNat_ofInt]; rfl
  have hb : (BitVec.ofInt 32 y).toNat = y.toNat := by rw [BitVec.toNat_ofInt]; show (y % 4294967296).toNat = y.toNat; omega
  have hq : a = 2 ^ 5 * (a / 32) := by omega
  have hb' : y.toNat < 2 ^ 5 := by omega
  rw [BitVec.toNat_or, ha, hb, hq, ← Nat.two_pow_add_eq_or_of_lt hb' (a / 32), ← hq, IntKind.wrap_i32]
  omega

theorem Rv.w32 {v : Int} (h0 : 0 ≤ v) (h1 : v < 4294967296) : wrap32 v = v - 4294967296 * (v / 2147483648) := by unfold wrap32; omega
theorem Rv.w32_id {v : Int} (h0 : -2147483648 ≤ v) (h1 : v < 2147483648) : wrap32 v = v := by unfold wrap32; omega

theorem jumpImm_c (v : Int) (h0 : 0 ≤ v) (h1 : v < 4294967296) (w : World) :
    Calls Tryd.prog 69 #[.int .u32 v] w fun e w' => e = .returned (.int .i32 (Rv.immJ v)) ∧ w' = w := by
  go_enter Tryd.func69, Tryd.ntmps69
  go_wp2_with (go_at_call 67; refine (bits_c v _ _ h0 h1 (by decide) _).mono ?_; rintro e w' ⟨rfl, rfl⟩)
  go_ret
  refine ⟨Rv.ret_int ?_, rfl⟩
  rw [Rv.fb_12_8, Rv.fb_20_1, Rv.fb_21_10]
  have a1 : v / 4096 % 256 * 4096 % 4294967296 = 4096 * (v / 4096 % 256) := by omega
  have a2 : v / 1048576 % 2 * 2048 % 4294967296 = 2048 * (v / 1048576 % 2) := by omega
  have a3 : v / 2097152 % 1024 * 2 % 4294967296 = 2 * (v / 2097152 % 1024) := by omega
  have a4 : wrap32 (wrap32 v / 2147483648 * 1048576) = - 1048576 * (v / 2147483648) := by
    rw [Rv.w32 h0 h1, Rv.w32_id (by omega) (by omega)]; omega
  have b1 : 0 ≤ v / 4096 % 256 ∧ v / 4096 % 256 < 256 := by omega
  have b2 : 0 ≤ v / 1048576 % 2 ∧ v / 1048576 % 2 < 2 := by omega
  have b3 : 0 ≤ v / 2097152 % 1024 ∧ v / 2097152 % 1024 < 1024 := by omega
  have b4 : 0 ≤ v / 2147483648 ∧ v / 2147483648 < 2 := by omega
  rw [a1, a2, a3, a4]; unfold Rv.immJ
  generalize v / 4096 % 256 = p1 at *; generalize v / 1048576 % 2 = p2 at *; generalize v / 2097152 % 1024 = p3 at *; generalize v / 2147483648 = p4 at *
  rw [Rv.ormul (x := 4096 * p1) (y := 2048 * p2) 12 (by omega) (by omega) (by omega) (by omega) (by omega) (by omega), Rv.ormul 11 (by omega) (by omega) (by omega) (by omega) (by omega) (by omega), Rv.w32_id (by omega) (by omega), Rv.or32_20 (by omega) (by omega) (by omega) (by omega) (by omega)]
  omega
theorem branchImm_c (v : Int) (h0 : 0 ≤ v) (h1 : v < 4294967296) (w : World) :
    Calls Tryd.prog 70 #[.int .u32 v] w fun e w' => e = .returned (.int .i32 (Rv.immB v)) ∧ w' = w := by
  go_enter Tryd.func70, Tryd.ntmps70
  go_wp2_with (go_at_call 67; refine (bits_c v _ _ h0 h1 (by decide) _).mono ?_; rintro e w' ⟨rfl, rfl⟩)
  go_ret
  refine ⟨Rv.ret_int ?_, rfl⟩
  rw [Rv.fb_7_1, Rv.fb_25_6, Rv.fb_8_4]
  have a1 : v / 128 % 2 * 2048 % 4294967296 = 2048 * (v / 128 % 2) := by omega
  have a2 : v / 33554432 % 64 * 32 % 4294967296 = 32 * (v / 33554432 % 64) := by omega
  have a3 : v / 256 % 16 * 2 % 4294967296 = 2 * (v / 256 % 16) := by omega
  have a4 : wrap32 (wrap32 v / 2147483648 * 4096) = - 4096 * (v / 2147483648) := by
    rw [Rv.w32 h0 h1, Rv.w32_id (by omega) (by omega)]; omega
  have b1 : 0 ≤ v / 128 % 2 ∧ v / 128 % 2 < 2 := by omega
  have b2 : 0 ≤ v / 33554432 % 64 ∧ v / 33554432 % 64 < 64 := by omega
  have b3 : 0 ≤ v / 256 % 16 ∧ v / 256 % 16 < 16 := by omega
  have b4 : 0 ≤ v / 2147483648 ∧ v / 2147483648 < 2 := by omega
  rw [a1, a2, a3, a4]; unfold Rv.immB
  generalize v / 128 % 2 = p1 at *; generalize v / 33554432 % 64 = p2 at *; generalize v / 256 % 16 = p3 at *; generalize v / 2147483648 = p4 at *
  rw [Rv.ormul (x := 2048 * p1) (y := 32 * p2) 11 (by omega) (by omega) (by omega) (by omega) (by omega) (by omega), Rv.ormul 5 (by omega) (by omega) (by omega) (by omega) (by omega) (by omega), Rv.w32_id (by omega) (by omega), Rv.or32_12 (by omega) (by omega) (by omega) (by omega) (by omega)]
  omega
theorem storeImm_c (v : Int) (h0 : 0 ≤ v) (h1 : v < 4294967296) (w : World) :
    Calls Tryd.prog 71 #[.int .u32 v] w fun e w' => e = .returned (.int .i32 (Rv.immS v)) ∧ w' = w := by
  go_enter Tryd.func71, Tryd.ntmps71
  go_wp2_with (go_at_call 67; refine (bits_c v _ _ h0 h1 (by decide) _).mono ?_; rintro e w' ⟨rfl, rfl⟩)
  go_ret
  refine ⟨Rv.ret_int ?_, rfl⟩
  rw [Rv.fb_7_5, Rv.w32 h0 h1, Rv.w32_id (v := v / 128 % 32) (by omega) (by omega)]
  have a1 : (v - 4294967296 * (v / 2147483648)) / 33554432 = v / 33554432 % 64 - 64 * (v / 2147483648) := by omega
  have b1 : 0 ≤ v / 128 % 32 ∧ v / 128 % 32 < 32 := by omega
  have b2 : 0 ≤ v / 33554432 % 64 ∧ v / 33554432 % 64 < 64 := by omega
  have b4 : 0 ≤ v / 2147483648 ∧ v / 2147483648 < 2 := by omega
  rw [a1]; unfold Rv.immS
  generalize v / 128 % 32 = p1 at *; generalize v / 33554432 % 64 = p2 at *; generalize v / 2147483648 = p4 at *
  rw [Rv.w32_id (by omega) (by omega), Rv.or32_5 (by omega) (by omega) (by omega) (by omega) (by omega)]
  omega

theorem Rv.beqF {a b : Int} (h : a ≠ b) : (a == b) = false := by simpa using h
set_option maxHeartbeats 800000 in
theorem layout_c (op : Int) (w : World) :
    Calls Tryd.prog 68 #[.int .i64 op] w fun e w' => e = .returned (.int .i64 (Rv.lay op)) ∧ w' = w := by
  rcases Rv.lay_cases op with ⟨l, c⟩ | ⟨l, c⟩ | ⟨l, c⟩ | ⟨l, c⟩ | ⟨l, c⟩ | ⟨l, c⟩ | ⟨l, c⟩ | ⟨l, c⟩
  · rw [l]; clear l
    rcases c with rfl | rfl
    all_goals
      go_enter Tryd.func68, Tryd.ntmps68
      go_wp2
      go_ret
      exact ⟨rfl, rfl⟩
  · rw [l]; clear l; subst c
    go_enter Tryd.func68, Tryd.ntmps68
    go_wp2
    go_ret
    exact ⟨rfl, rfl⟩
  · rw [l]; clear l; obtain ⟨c0, c1⟩ := c
    have e1 := Rv.beqF (show op ≠ 1 by omega); have e2 := Rv.beqF (show op ≠ 2 by omega); have e3 := Rv.beqF (show op ≠ 3 by omega)
    go_enter Tryd.func68, Tryd.ntmps68
    go_wp2
    go_ret
    exact ⟨rfl, rfl⟩
  · rw [l]; clear l; obtain ⟨c0, c1⟩ := c
    have e1 := Rv.beqF (show op ≠ 1 by omega); have e2 := Rv.beqF (show op ≠ 2 by omega); have e3 := Rv.beqF (show op ≠ 3 by omega)
    go_enter Tryd.func68, Tryd.ntmps68
    go_wp2
    go_ret
    exact ⟨rfl, rfl⟩
  · rw [l]; clear l
    rcases c with rfl | ⟨c0, c1⟩ | ⟨c0, c1⟩
    · go_enter Tryd.func68, Tryd.ntmps68
      go_wp2
      go_ret
      exact ⟨rfl, rfl⟩
    all_goals
      have e1 := Rv.beqF (show op ≠ 1 by omega); have e2 := Rv.beqF (show op ≠ 2 by omega); have e3 := Rv.beqF (show op ≠ 3 by omega); have e4 := Rv.beqF (show op ≠ 4 by omega)
      go_enter Tryd.func68, Tryd.ntmps68
      go_wp2
      go_ret
      exact ⟨rfl, rfl⟩
  · rw [l]; clear l; obtain ⟨c0, c1⟩ := c
    have e1 := Rv.beqF (show op ≠ 1 by omega); have e2 := Rv.beqF (show op ≠ 2 by omega); have e3 := Rv.beqF (show op ≠ 3 by omega); have e4 := Rv.beqF (show op ≠ 4 by omega)
    go_enter Tryd.func68, Tryd.ntmps68
    go_wp2
    go_ret
    exact ⟨rfl, rfl⟩
  · rw [l]; clear l; obtain ⟨c0, c1⟩ := c
    have e1 := Rv.beqF (show op ≠ 1 by omega); have e2 := Rv.beqF (show op ≠ 2 by omega); have e3 := Rv.beqF (show op ≠ 3 by omega); have e4 := Rv.beqF (show op ≠ 4 by omega)
    go_enter Tryd.func68, Tryd.ntmps68
    go_wp2
    go_ret
    exact ⟨rfl, rfl⟩
  · rw [l]; clear l
    have e1 := Rv.beqF (show op ≠ 1 by omega); have e2 := Rv.beqF (show op ≠ 2 by omega); have e3 := Rv.beqF (show op ≠ 3 by omega); have e4 := Rv.beqF (show op ≠ 4 by omega)
    rcases c with c | c
    all_goals
      go_enter Tryd.func68, Tryd.ntmps68
      go_wp2
      go_ret
      exact ⟨rfl, rfl⟩

theorem known_c (op : Int) (w : World) :
    Calls Tryd.prog 58 #[.int .i64 op] w fun e w' => e = .returned (.bool (decide (1 ≤ op ∧ op ≤ 49))) ∧ w' = w := by
  by_cases h1 : 1 ≤ op
  · by_cases h2 : op ≤ 49
    · go_enter Tryd.func58, Tryd.ntmps58
      go_wp2
      go_ret
      exact ⟨Rv.ret_bool (by simp; omega), rfl⟩
    · go_enter Tryd.func58, Tryd.ntmps58
      go_wp2
      go_ret
      exact ⟨Rv.ret_bool (by simp; omega), rfl⟩
  · go_enter Tryd.func58, Tryd.ntmps58
    go_wp2
    go_ret
    exact ⟨Rv.ret_bool (by simp; omega), rfl⟩
theorem onlyIf_c (b : Bool) (op : Int) (w : World) :
    Calls Tryd.prog 88 #[.bool b, .int .i64 op] w fun e w' => e = .returned (.int .i64 (if b then op else 0)) ∧ w' = w := by
  cases b
  all_goals
    go_enter Tryd.func88, Tryd.ntmps88
    go_wp2
    go_ret
    exact ⟨rfl, rfl⟩
end Go.Proofs.YtbackacbdfgdoaaDoor
namespace Go.Proofs.YtbackacbdfgdoaaDoor
open Go.ChangeShapes Go.WideShapes Go.ChangeAt Go.RowKit

/-- Package rv's tables hold what their text says. -/
structure Tabs (w : World) : Prop where
  wo : ∀ i : Nat, i < 50 → w.cell? ⟨1, i, none⟩ = some (.int .u32 ((Rv.woT.getD i 0 : Nat) : Int))
  br : ∀ i : Nat, i < 8 → w.cell? ⟨6, i, none⟩ = some (.int .i64 ((Rv.brT.getD i 0 : Nat) : Int))
  ld : ∀ i : Nat, i < 8 → w.cell? ⟨7, i, none⟩ = some (.int .i64 ((Rv.ldT.getD i 0 : Nat) : Int))
  st : ∀ i : Nat, i < 8 → w.cell? ⟨8, i, none⟩ = some (.int .i64 ((Rv.stT.getD i 0 : Nat) : Int))
  im : ∀ i : Nat, i < 8 → w.cell? ⟨9, i, none⟩ = some (.int .i64 ((Rv.imT.getD i 0 : Nat) : Int))
  rg : ∀ i : Nat, i < 8 → w.cell? ⟨10, i, none⟩ = some (.int .i64 ((Rv.rgT.getD i 0 : Nat) : Int))

theorem Tabs.gr {w w' : World} (h : Tabs w) (g : Gr w w') : Tabs w' :=
  ⟨fun i hi => g.keep (h.wo i hi), fun i hi => g.keep (h.br i hi), fun i hi => g.keep (h.ld i hi), fun i hi => g.keep (h.st i hi), fun i hi => g.keep (h.im i hi), fun i hi => g.keep (h.rg i hi)⟩

theorem Rv.imN_1 {f3 f7 : Nat} (h : f3 = 1) : Rv.imN f3 f7 = if f7 = 0 then 25 else 0 := by simp [Rv.imN, h]
theorem immediateOp_c (f3 f7 : Int) (a0 : 0 ≤ f3) (a1 : f3 < 8) (b0 : 0 ≤ f7) (w : World) (ht : Tabs w) :
    Calls Tryd.prog 89 #[.int .u32 f3, .int .u32 f7] w fun e w' => e = .returned (.int .i64 ((Rv.imN f3.toNat f7.toNat : Nat) : Int)) ∧ w' = w := by
  by_cases h1 : f3 = 1
  · subst h1
    by_cases h7 : f7 = 0
    · subst h7
      go_enter Tryd.func89, Tryd.ntmps89
      go_wp2_with (go_at_call 88; refine (onlyIf_c _ _ _).mono ?_; rintro e w' ⟨rfl, rfl⟩)
      go_ret
      exact ⟨rfl, rfl⟩
    · have e7 := Rv.beqF h7
      go_enter Tryd.func89, Tryd.ntmps89
      go_wp2_with (go_at_call 88; refine (onlyIf_c _ _ _).mono ?_; rintro e w' ⟨rfl, rfl⟩)
      go_ret
      exact ⟨Rv.ret_int (by rw [Rv.imN_1 (by decide), if_neg (by omega)]; rfl), rfl⟩
  by_cases h5 : f3 = 5
  · subst h5
    by_cases h7 : f7 = 32
    · subst h7
      go_enter Tryd.func89, Tryd.ntmps89
      go_wp2
      go_ret
      exact ⟨rfl, rfl⟩
    · have e7 := Rv.beqF h7
      by_cases h0 : f7 = 0
      · subst h0
        go_enter Tryd.func89, Tryd.ntmps89
        go_wp2_with (go_at_call 88; refine (onlyIf_c _ _ _).mono ?_; rintro e w' ⟨rfl, rfl⟩)
        go_ret
        exact ⟨rfl, rfl⟩
      · have e0 := Rv.beqF h0
        go_enter Tryd.func89, Tryd.ntmps89
        go_wp2_with (go_at_call 88; refine (onlyIf_c _ _ _).mono ?_; rintro e w' ⟨rfl, rfl⟩)
        go_ret
        exact ⟨Rv.ret_int (by unfold Rv.imN; rw [if_neg (by decide), if_pos (by decide), if_neg (by omega), if_neg (by omega)]; rfl), rfl⟩
  have e1 := Rv.beqF h1
  have e5 := Rv.beqF h5
  have hc := ht.im f3.toNat (by omega)
  have hv : Rv.imN f3.toNat f7.toNat = Rv.imT.getD f3.toNat 0 := by unfold Rv.imN; rw [if_neg (by omega), if_neg (by omega)]
  rw [hv]; clear hv ht
  generalize Rv.imT.getD f3.toNat 0 = x at hc
  go_enter Tryd.func89, Tryd.ntmps89
  go_wp2
  go_ret
  exact ⟨rfl, rfl⟩

theorem registerOp_c (f3 f7 : Int) (a0 : 0 ≤ f3) (a1 : f3 < 8) (b0 : 0 ≤ f7) (w : World) (ht : Tabs w) :
    Calls Tryd.prog 90 #[.int .u32 f3, .int .u32 f7] w fun e w' => e = .returned (.int .i64 ((Rv.rgN f3.toNat f7.toNat : Nat) : Int)) ∧ w' = w := by
  by_cases h0 : f7 = 0
  · subst h0
    have hc := ht.rg f3.toNat (by omega)
    have hv : Rv.rgN f3.toNat (0 : Int).toNat = Rv.rgT.getD f3.toNat 0 := rfl
    rw [hv]; clear hv ht
    generalize Rv.rgT.getD f3.toNat 0 = x at hc
    go_enter Tryd.func90, Tryd.ntmps90
    go_wp2
    go_ret
    exact ⟨rfl, rfl⟩
  have e0 := Rv.beqF h0
  by_cases h1 : f7 = 1
  · subst h1
    go_enter Tryd.func90, Tryd.ntmps90
    go_wp2
    go_ret
    refine ⟨Rv.ret_int ?_, rfl⟩
    have : Rv.rgN f3.toNat (1 : Int).toNat = 38 + f3.toNat := rfl
    rw [this]; omega
  have e1 := Rv.beqF h1
  by_cases h32 : f7 = 32
  · subst h32
    by_cases g0 : f3 = 0
    · subst g0
      go_enter Tryd.func90, Tryd.ntmps90
      go_wp2
      go_ret
      exact ⟨rfl, rfl⟩
    have k0 := Rv.beqF g0
    by_cases g5 : f3 = 5
    · subst g5
      go_enter Tryd.func90, Tryd.ntmps90
      go_wp2
      go_ret
      exact ⟨rfl, rfl⟩
    have k5 := Rv.beqF g5
    go_enter Tryd.func90, Tryd.ntmps90
    go_wp2
    go_ret
    refine ⟨Rv.ret_int ?_, rfl⟩
    unfold Rv.rgN; rw [if_neg (by decide), if_neg (by decide), if_pos (by decide), if_neg (by omega), if_neg (by omega)]; rfl
  have e32 := Rv.beqF h32
  go_enter Tryd.func90, Tryd.ntmps90
  go_wp2
  go_ret
  refine ⟨Rv.ret_int ?_, rfl⟩
  unfold Rv.rgN; rw [if_neg (by omega), if_neg (by omega), if_neg (by omega)]; rfl

theorem fenceOp_c (f3 : Int) (a0 : 0 ≤ f3) (w : World) :
    Calls Tryd.prog 91 #[.int .u32 f3] w fun e w' => e = .returned (.int .i64 ((Rv.feN f3.toNat : Nat) : Int)) ∧ w' = w := by
  by_cases h0 : f3 = 0
  · subst h0
    go_enter Tryd.func91, Tryd.ntmps91
    go_wp2
    go_ret
    exact ⟨rfl, rfl⟩
  have e0 := Rv.beqF h0
  by_cases h1 : f3 = 1
  · subst h1
    go_enter Tryd.func91, Tryd.ntmps91
    go_wp2
    go_ret
    exact ⟨rfl, rfl⟩
  have e1 := Rv.beqF h1
  go_enter Tryd.func91, Tryd.ntmps91
  go_wp2
  go_ret
  refine ⟨Rv.ret_int ?_, rfl⟩
  unfold Rv.feN; rw [if_neg (by omega), if_neg (by omega)]; rfl

def Rv.sysI (v : Int) : Int := if v = 115 then 48 else if v = 1048691 then 49 else 0
theorem systemOp_c (v : Int) (w : World) :
    Calls Tryd.prog 92 #[.int .u32 v] w fun e w' => e = .returned (.int .i64 (Rv.sysI v)) ∧ w' = w := by
  unfold Rv.sysI
  by_cases h0 : v = 115
  · subst h0
    go_enter Tryd.func92, Tryd.ntmps92
    go_wp2
    go_ret
    exact ⟨rfl, rfl⟩
  have e0 := Rv.beqF h0
  rw [if_neg h0]
  by_cases h1 : v = 1048691
  · subst h1
    go_enter Tryd.func92, Tryd.ntmps92
    go_wp2
    go_ret
    exact ⟨rfl, rfl⟩
  have e1 := Rv.beqF h1
  rw [if_neg h1]
  go_enter Tryd.func92, Tryd.ntmps92
  go_wp2
  go_ret
  exact ⟨rfl, rfl⟩

/-- The Op by the opcode, as the code asks it. -/
theorem Rv.opI_o {v : Int} (hv : Alu.U32 v) (h : v % 128 ≠ 115) : Rv.opI v = ((Rv.opN (v % 128).toNat (v / 4096 % 8).toNat (v / 33554432 % 128).toNat : Nat) : Int) := by
  obtain ⟨h0, h1⟩ := hv
  have a : v ≠ 115 := by intro e; subst e; exact h (by decide)
  have b : v ≠ 1048691 := by intro e; subst e; exact h (by decide)
  unfold Rv.opI; rw [if_neg a, if_neg b]
  have : v / 33554432 % 128 = v / 33554432 := by omega
  rw [this]
theorem Rv.opI_115 {v : Int} (h : v % 128 = 115) : Rv.opI v = Rv.sysI v := by
  unfold Rv.opI Rv.sysI; rw [h]; rfl

set_option maxHeartbeats 1600000 in
theorem opOf_c (v : Int) (h0 : 0 ≤ v) (h1 : v < 4294967296) (w : World) (ht : Tabs w) :
    Calls Tryd.prog 66 #[.int .u32 v] w fun e w' => e = .returned (.int .i64 (Rv.opI v)) ∧ w' = w := by
  have hb3 : 0 ≤ Rv.fb v 12 3 ∧ Rv.fb v 12 3 < 8 := by rw [Rv.fb_12_3]; omega
  have hb7 : 0 ≤ Rv.fb v 25 7 ∧ Rv.fb v 25 7 < 128 := by rw [Rv.fb_25_7]; omega
  by_cases h115 : v % 128 = 115
  · rw [Rv.opI_115 h115]
    have ho : Rv.fb v 0 7 = 115 := by rw [Rv.fb_0_7]; exact h115
    clear ht h115
    go_enter Tryd.func66, Tryd.ntmps66
    go_wp2_with (first | (go_at_call 67; refine (bits_c v _ _ h0 h1 (by decide) _).mono ?_; rintro e w' ⟨rfl, rfl⟩; try rw [ho]) | (go_at_call 92; refine (systemOp_c v _).mono ?_; rintro e w' ⟨rfl, rfl⟩))
    go_ret
    exact ⟨rfl, rfl⟩
  rw [Rv.opI_o ⟨h0, h1⟩ h115, ← Rv.fb_12_3, ← Rv.fb_25_7, ← Rv.fb_0_7]
  rw [← Rv.fb_0_7] at h115
  have e115 := Rv.beqF h115
  by_cases c55 : Rv.fb v 0 7 = 55
  · have ho := c55
    rw [ho]
    clear ht
    rw [show Rv.opN (55 : Int).toNat (Rv.fb v 12 3).toNat (Rv.fb v 25 7).toNat = 1 from rfl]
    go_enter Tryd.func66, Tryd.ntmps66
    go_wp2_with (go_at_call 67; refine (bits_c v _ _ h0 h1 (by decide) _).mono ?_; rintro e w' ⟨rfl, rfl⟩; try rw [ho])
    go_ret
    exact ⟨rfl, rfl⟩
  have e55 := Rv.beqF c55
  by_cases c23 : Rv.fb v 0 7 = 23
  · have ho := c23
    rw [ho]
    clear ht
    rw [show Rv.opN (23 : Int).toNat (Rv.fb v 12 3).toNat (Rv.fb v 25 7).toNat = 2 from rfl]
    go_enter Tryd.func66, Tryd.ntmps66
    go_wp2_with (go_at_call 67; refine (bits_c v _ _ h0 h1 (by decide) _).mono ?_; rintro e w' ⟨rfl, rfl⟩; try rw [ho])
    go_ret
    exact ⟨rfl, rfl⟩
  have e23 := Rv.beqF c23
  by_cases c111 : Rv.fb v 0 7 = 111
  · have ho := c111
    rw [ho]
    clear ht
    rw [show Rv.opN (111 : Int).toNat (Rv.fb v 12 3).toNat (Rv.fb v 25 7).toNat = 3 from rfl]
    go_enter Tryd.func66, Tryd.ntmps66
    go_wp2_with (go_at_call 67; refine (bits_c v _ _ h0 h1 (by decide) _).mono ?_; rintro e w' ⟨rfl, rfl⟩; try rw [ho])
    go_ret
    exact ⟨rfl, rfl⟩
  have e111 := Rv.beqF c111
  by_cases c103 : Rv.fb v 0 7 = 103
  · have ho := c103
    rw [ho]
    clear ht
    rw [show Rv.opN (103 : Int).toNat (Rv.fb v 12 3).toNat (Rv.fb v 25 7).toNat = if (Rv.fb v 12 3).toNat = 0 then 4 else 0 from rfl]
    by_cases z : Rv.fb v 12 3 = 0
    · rw [z]
      go_enter Tryd.func66, Tryd.ntmps66
      go_wp2_with (first | (go_at_call 67; refine (bits_c v _ _ h0 h1 (by decide) _).mono ?_; rintro e w' ⟨rfl, rfl⟩; (try rw [ho]); try rw [z]) | (go_at_call 88; refine (onlyIf_c _ _ _).mono ?_; rintro e w' ⟨rfl, rfl⟩))
      go_ret
      exact ⟨rfl, rfl⟩
    · have ez := Rv.beqF z
      rw [if_neg (show ¬ (Rv.fb v 12 3).toNat = 0 by omega)]
      go_enter Tryd.func66, Tryd.ntmps66
      go_wp2_with (first | (go_at_call 67; refine (bits_c v _ _ h0 h1 (by decide) _).mono ?_; rintro e w' ⟨rfl, rfl⟩; (try rw [ho])) | (go_at_call 88; refine (onlyIf_c _ _ _).mono ?_; rintro e w' ⟨rfl, rfl⟩))
      go_ret
      exact ⟨rfl, rfl⟩
  have e103 := Rv.beqF c103
  by_cases c99 : Rv.fb v 0 7 = 99
  · have ho := c99
    rw [ho]
    rw [show Rv.opN (99 : Int).toNat (Rv.fb v 12 3).toNat (Rv.fb v 25 7).toNat = Rv.brT.getD (Rv.fb v 12 3).toNat 0 from rfl]
    have hc := ht.br (Rv.fb v 12 3).toNat (by omega)
    clear ht
    generalize Rv.brT.getD (Rv.fb v 12 3).toNat 0 = x at hc
    obtain ⟨b30, b31⟩ := hb3
    go_enter Tryd.func66, Tryd.ntmps66
    go_wp2_with (go_at_call 67; refine (bits_c v _ _ h0 h1 (by decide) _).mono ?_; rintro e w' ⟨rfl, rfl⟩; try rw [ho])
    go_ret
    exact ⟨rfl, rfl⟩
  have e99 := Rv.beqF c99
  by_cases c3 : Rv.fb v 0 7 = 3
  · have ho := c3
    rw [ho]
    rw [show Rv.opN (3 : Int).toNat (Rv.fb v 12 3).toNat (Rv.fb v 25 7).toNat = Rv.ldT.getD (Rv.fb v 12 3).toNat 0 from rfl]
    have hc := ht.ld (Rv.fb v 12 3).toNat (by omega)
    clear ht
    generalize Rv.ldT.getD (Rv.fb v 12 3).toNat 0 = x at hc
    obtain ⟨b30, b31⟩ := hb3
    go_enter Tryd.func66, Tryd.ntmps66
    go_wp2_with (go_at_call 67; refine (bits_c v _ _ h0 h1 (by decide) _).mono ?_; rintro e w' ⟨rfl, rfl⟩; try rw [ho])
    go_ret
    exact ⟨rfl, rfl⟩
  have e3 := Rv.beqF c3
  by_cases c35 : Rv.fb v 0 7 = 35
  · have ho := c35
    rw [ho]
    rw [show Rv.opN (35 : Int).toNat (Rv.fb v 12 3).toNat (Rv.fb v 25 7).toNat = Rv.stT.getD (Rv.fb v 12 3).toNat 0 from rfl]
    have hc := ht.st (Rv.fb v 12 3).toNat (by omega)
    clear ht
    generalize Rv.stT.getD (Rv.fb v 12 3).toNat 0 = x at hc
    obtain ⟨b30, b31⟩ := hb3
    go_enter Tryd.func66, Tryd.ntmps66
    go_wp2_with (go_at_call 67; refine (bits_c v _ _ h0 h1 (by decide) _).mono ?_; rintro e w' ⟨rfl, rfl⟩; try rw [ho])
    go_ret
    exact ⟨rfl, rfl⟩
  have e35 := Rv.beqF c35
  by_cases c19 : Rv.fb v 0 7 = 19
  · have ho := c19
    rw [ho]
    rw [show Rv.opN (19 : Int).toNat (Rv.fb v 12 3).toNat (Rv.fb v 25 7).toNat = Rv.imN (Rv.fb v 12 3).toNat (Rv.fb v 25 7).toNat from rfl]
    go_enter Tryd.func66, Tryd.ntmps66
    go_wp2_with (first | (go_at_call 67; refine (bits_c v _ _ h0 h1 (by decide) _).mono ?_; rintro e w' ⟨rfl, rfl⟩; try rw [ho]) | (go_at_call 89; refine (immediateOp_c _ _ hb3.1 hb3.2 hb7.1 _ ht).mono ?_; rintro e w' ⟨rfl, rfl⟩))
    go_ret
    exact ⟨rfl, rfl⟩
  have e19 := Rv.beqF c19
  by_cases c51 : Rv.fb v 0 7 = 51
  · have ho := c51
    rw [ho]
    rw [show Rv.opN (51 : Int).toNat (Rv.fb v 12 3).toNat (Rv.fb v 25 7).toNat = Rv.rgN (Rv.fb v 12 3).toNat (Rv.fb v 25 7).toNat from rfl]
    go_enter Tryd.func66, Tryd.ntmps66
    go_wp2_with (first | (go_at_call 67; refine (bits_c v _ _ h0 h1 (by decide) _).mono ?_; rintro e w' ⟨rfl, rfl⟩; try rw [ho]) | (go_at_call 90; refine (registerOp_c _ _ hb3.1 hb3.2 hb7.1 _ ht).mono ?_; rintro e w' ⟨rfl, rfl⟩))
    go_ret
    exact ⟨rfl, rfl⟩
  have e51 := Rv.beqF c51
  by_cases c15 : Rv.fb v 0 7 = 15
  · have ho := c15
    rw [ho]
    clear ht
    rw [show Rv.opN (15 : Int).toNat (Rv.fb v 12 3).toNat (Rv.fb v 25 7).toNat = Rv.feN (Rv.fb v 12 3).toNat from rfl]
    go_enter Tryd.func66, Tryd.ntmps66
    go_wp2_with (first | (go_at_call 67; refine (bits_c v _ _ h0 h1 (by decide) _).mono ?_; rintro e w' ⟨rfl, rfl⟩; try rw [ho]) | (go_at_call 91; refine (fenceOp_c _ hb3.1 _).mono ?_; rintro e w' ⟨rfl, rfl⟩))
    go_ret
    exact ⟨rfl, rfl⟩
  have e15 := Rv.beqF c15
  have hn : (Rv.fb v 0 7).toNat ∉ Rv.opcodes := by
    have : 0 ≤ Rv.fb v 0 7 := by rw [Rv.fb_0_7]; omega
    simp only [Rv.opcodes, List.mem_cons, List.not_mem_nil, or_false]
    omega
  rw [Rv.opN_none hn]
  clear ht
  go_enter Tryd.func66, Tryd.ntmps66
  go_wp2_with (go_at_call 67; refine (bits_c v _ _ h0 h1 (by decide) _).mono ?_; rintro e w' ⟨rfl, rfl⟩)
  go_ret
  exact ⟨rfl, rfl⟩
end Go.Proofs.YtbackacbdfgdoaaDoor
