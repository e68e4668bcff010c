/- LAYER 6's walks: opOf; readPart. -/
import Derived.Test.YthkampohgbddnaaDoorAsmW5
namespace Go.Proofs.YthkampohgbddnaaDoor
open Go.ChangeShapes Go.WideShapes Go.ChangeAt Go.RowKit

theorem Asm.name_at {j : Nat} (h0 : 0 < j) (h1 : j < 50) : Rv.name (j : Int) = bs (Rv.nmT.getD j []) := by unfold Rv.name; rw [if_pos (by omega), Int.toNat_natCast]; rfl
theorem Asm.ret_i {a b : Int} (h : a = b) : Ending.returned (.int .i64 a) = .returned (.int .i64 b) := by rw [h]
theorem nameOp_c (l : List UInt8) (w : World) (hn : NTab w) :
    Calls Tryd.prog 64 #[.string (bs l)] w fun e w' => e = .returned (.int .i64 (Asm.opOf l)) ∧ w' = w := by
  go_enter Tryd.func64, Tryd.ntmps64
  go_wp2_with fail
  go_loopw [3] (fun s wr => wr = w ∧ ∃ j : Nat, s = .int .i64 j ∧ 1 ≤ j ∧ j ≤ 50 ∧ ∀ k, 0 < k → k < j → Rv.nmT.getD k [] ≠ l) (fun s _ => 50 - (intOf s).toNat)
  case atStart => exact ⟨rfl, 1, rfl, by omega, by omega, fun k h0 h1 => by omega⟩
  case round =>
    obtain ⟨rfl, j, rfl, j0, j1, hno⟩ := hrel
    have HN : Hid _ := hno
    clear hno
    by_cases e : j = 50
    · subst e
      have hnm : Rv.name ((50 : Nat) : Int) = ⟨#[]⟩ := rfl
      have hN := Name_c ((50 : Nat) : Int) wr hn
      rw [hnm] at hN
      clear hnm
      go_wp2_with (go_at_call 17; refine hN.mono ?_; rintro e w' ⟨rfl, rfl⟩)
      go_ret
      exact ⟨Asm.ret_i (by rw [Asm.opOf_none (fun k h0 h1 => HN k h0 h1)]; rfl), rfl⟩
    · have hN := Name_c (j : Int) wr hn
      rw [Asm.name_at (by omega) (by omega)] at hN
      have hne := (Asm.nm_ne j (by omega) (by omega)).1
      have hemp : (Rv.nmT.getD j []).isEmpty = false := by simpa using hne
      have HA : Hid _ := Asm.opOf_at (k := j) (n := l) (by omega) (by omega)
      generalize hE : Rv.nmT.getD j [] = nm at *
      have HE : Hid _ := hE
      clear hE
      clear hne
      have j2 : (j : Int) < 50 := by omega
      by_cases hq : nm = l
      · subst hq
        have HA2 : Hid (Asm.opOf nm = j) := HA rfl
        clear HA
        have hb : (nm == nm) = true := by simp
        go_wp2_with (go_at_call 17; refine hN.mono ?_; rintro e w' ⟨rfl, rfl⟩)
        go_ret
        exact ⟨Asm.ret_i (by rw [show _ = _ from HA2]), rfl⟩
      · have hb : (nm == l) = false := by simpa using hq
        have HQ : Hid _ := hq
        clear hq
        go_wp2_with (go_at_call 17; refine hN.mono ?_; rintro e w' ⟨rfl, rfl⟩)
        refine ⟨⟨trivial, j + 1, by simp, by omega, by omega, fun k h0 h1 => ?_⟩, by simp [intOf]; omega⟩
        by_cases hkj : k = j
        · subst hkj; rw [show _ = _ from HE]; exact HQ
        · exact HN k h0 (by omega)

/-- Behind a call that may write block b alone. -/
structure Bx (b : Nat) (w w' : World) : Prop where
  os : w'.os = w.os
  tape : w'.tape = w.tape
  output : w'.output = w.output
  size : w.heap.size ≤ w'.heap.size
  block : ∀ k, k < w.heap.size → k ≠ b → w'.heap[k]? = w.heap[k]?
theorem Bw.bx {w w' : World} (h : Bw w w') (b : Nat) : Bx b w w' := ⟨h.os, h.tape, h.output, h.size, fun k hk _ => h.block k hk⟩
theorem Bx.trans {b : Nat} {u v w : World} (h : Bx b u v) (k : Bx b v w) : Bx b u w :=
  ⟨k.os.trans h.os, k.tape.trans h.tape, k.output.trans h.output, Nat.le_trans h.size k.size, fun i hi hb => (k.block i (Nat.lt_of_lt_of_le hi h.size) hb).trans (h.block i hi hb)⟩
theorem Bx.drew {b : Nat} {u v : World} (h : Bx b u v) : Bx b u v.drew := ⟨h.os, h.tape, h.output, h.size, h.block⟩
theorem Bx.set {b : Nat} {u v : World} (h : Bx b u v) (o : Nat) (x : Value) : Bx b u (v.setCell ⟨b, o, none⟩ x) :=
  ⟨h.os, h.tape, h.output, by simpa using h.size, fun k hk hb => by
    have := h.block k hk hb
    rw [← this]
    exact Below.heap_setCell v ⟨b, o, none⟩ x k hb⟩
/-- From a world whose end lies below b on, all that was there stands. -/
theorem Bx.bw {a u v : World} {b : Nat} (h0 : Bw a u) (h : Bx b u v) (hb : a.heap.size ≤ b) : Bw a v :=
  ⟨h.os.trans h0.os, h.tape.trans h0.tape, h.output.trans h0.output, Nat.le_trans h0.size h.size, fun k hk => (h.block k (Nat.lt_of_lt_of_le hk h0.size) (by omega)).trans (h0.block k hk)⟩
theorem Bx.it {b : Nat} {w w' : World} (h : Bx b w w') {k : Nat} {s : ByteArray} {pos : Nat} (hkb : k ≠ b) (hk : w.heap[k]? = some (.stringIter s pos)) : w'.heap[k]? = some (.stringIter s pos) := by
  have hlt : k < w.heap.size := (Array.getElem?_eq_some_iff.1 hk).1
  rw [h.block k hlt hkb]; exact hk
/-- An instruction's block, which may be written. -/
structure IW (w : World) (b : Nat) (i : Rv.Ins) : Prop where
  box : IBox w b i
  fz : ∀ o : Nat, w.frozen? ⟨b, o, none⟩ = false
theorem IW.bw {w w' : World} {b : Nat} {i : Rv.Ins} (h : IW w b i) (g : Bw w w') : IW w' b i := by
  refine ⟨h.box.bw g, fun o => ?_⟩
  have hb : b < w.heap.size := by
    apply Decidable.byContradiction
    intro hn
    have : w.heap[b]? = none := by simp; omega
    have h0 := h.box.c0
    simp [World.cell?, this] at h0
  rw [Below.frozen g (p := ⟨b, o, none⟩) hb]; exact h.fz o
theorem IW.drew {w : World} {b : Nat} {i : Rv.Ins} (h : IW w b i) : IW w.drew b i := h.bw (Bw.refl w).drew
theorem IW.rd {w : World} {b : Nat} {i : Rv.Ins} (h : IW w b i) (r : Int) : IW (w.setCell ⟨b, 1, none⟩ (.int .i64 r)) b ⟨i.op, r, i.rs1, i.rs2, i.imm⟩ := by
  obtain ⟨⟨c0, c1, c2, c3, c4⟩, fz⟩ := h
  refine ⟨⟨?_, ?_, ?_, ?_, ?_⟩, fun o => by simp [fz]⟩ <;> simp [go_sem, c0, c1, c2, c3, c4]
theorem IW.rs1 {w : World} {b : Nat} {i : Rv.Ins} (h : IW w b i) (r : Int) : IW (w.setCell ⟨b, 2, none⟩ (.int .i64 r)) b ⟨i.op, i.rd, r, i.rs2, i.imm⟩ := by
  obtain ⟨⟨c0, c1, c2, c3, c4⟩, fz⟩ := h
  refine ⟨⟨?_, ?_, ?_, ?_, ?_⟩, fun o => by simp [fz]⟩ <;> simp [go_sem, c0, c1, c2, c3, c4]
theorem IW.rs2 {w : World} {b : Nat} {i : Rv.Ins} (h : IW w b i) (r : Int) : IW (w.setCell ⟨b, 3, none⟩ (.int .i64 r)) b ⟨i.op, i.rd, i.rs1, r, i.imm⟩ := by
  obtain ⟨⟨c0, c1, c2, c3, c4⟩, fz⟩ := h
  refine ⟨⟨?_, ?_, ?_, ?_, ?_⟩, fun o => by simp [fz]⟩ <;> simp [go_sem, c0, c1, c2, c3, c4]
theorem IW.imm {w : World} {b : Nat} {i : Rv.Ins} (h : IW w b i) (r : Int) : IW (w.setCell ⟨b, 4, none⟩ (.int .i32 r)) b ⟨i.op, i.rd, i.rs1, i.rs2, r⟩ := by
  obtain ⟨⟨c0, c1, c2, c3, c4⟩, fz⟩ := h
  refine ⟨⟨?_, ?_, ?_, ?_, ?_⟩, fun o => by simp [fz]⟩ <;> simp [go_sem, c0, c1, c2, c3, c4]
end Go.Proofs.YthkampohgbddnaaDoor
