/- OPENING AND SHUTTING ARGUMENTS that are instructions. -/
import Derived.Test.YthkampohgbddnaaDoorRvDec
namespace Go.Proofs.YthkampohgbddnaaDoor
open Go.ChangeShapes Go.WideShapes Go.ChangeAt Go.RowKit

theorem list5 {α : Type} (l : List α) (h : l.length = 5) : ∃ a b c d e, l = [a, b, c, d, e] := by
  match l, h with
  | [a, b, c, d, e], _ => exact ⟨a, b, c, d, e, rfl⟩
theorem cellsI : Tryd.prog.cellsOf 23 = 5 := by kernel_rfl
theorem cells64 : Tryd.prog.cellsOf 3 = 1 := by kernel_rfl
theorem cells32 : Tryd.prog.cellsOf 21 = 1 := by kernel_rfl
def Rv.id {H : Type} (i : Rv.Ins) : DataW H := .agg [.lit (.int .i64 i.op), .lit (.int .i64 i.rd), .lit (.int .i64 i.rs1), .lit (.int .i64 i.rs2), .lit (.int .i32 i.imm)]
structure Rv.IWf (i : Rv.Ins) : Prop where
  op : (Lit.int .i64 i.op).wf = true
  rd : (Lit.int .i64 i.rd).wf = true
  rs1 : (Lit.int .i64 i.rs1).wf = true
  rs2 : (Lit.int .i64 i.rs2).wf = true
  imm : (Lit.int .i32 i.imm).wf = true
set_option maxRecDepth 100000 in
theorem open_ins {H : Type} {enc : TypeId × Value → H} {W : World} {base b0 : Nat} {sp : Nat → Bool} {held : Bool} {v : Value} {d : DataW H} {p : List MemPlace}
    (hv : Value.okWide Tryd.prog W .any base 23 v) (h : DataW.Trod enc Tryd.prog W b0 sp held 23 v d p) :
    ∃ i : Rv.Ins, v = Rv.iv i ∧ d = Rv.id i ∧ p = [] ∧ Rv.IWf i := by
  obtain ⟨cs, rfl, hsz, _⟩ : ∃ cs, v = .agg cs ∧ cs.size = Tryd.prog.cellsOf 23 ∧ Row.okWide Tryd.prog W .any base 23 cs := by
    simpa [Value.okWide, Tryd.underlying23] using hv
  rw [cellsI] at hsz
  obtain ⟨l⟩ := cs
  obtain ⟨c0, c1, c2, c3, c4, rfl⟩ := list5 l hsz
  obtain ⟨fuel, hf⟩ := h
  obtain ⟨xs, n, rfl, hx, hl, hxl, hall⟩ := DataW.trod_struct Tryd.underlying23 hf
  obtain ⟨y0, y1, y2, y3, y4, rfl⟩ := list5 xs hxl
  have a0 := hall 0 _ rfl; have a1 := hall 1 _ rfl; have a2 := hall 2 _ rfl; have a3 := hall 3 _ rfl; have a4 := hall 4 _ rfl
  obtain ⟨x0, e0, q0, w0⟩ := DataW.trod_int Tryd.underlying3 a0
  obtain ⟨x1, e1, q1, w1⟩ := DataW.trod_int Tryd.underlying3 a1
  obtain ⟨x2, e2, q2, w2⟩ := DataW.trod_int Tryd.underlying3 a2
  obtain ⟨x3, e3, q3, w3⟩ := DataW.trod_int Tryd.underlying3 a3
  obtain ⟨x4, e4, q4, w4⟩ := DataW.trod_int Tryd.underlying21 a4
  simp [Value.cells, cells64, cells32] at e0 e1 e2 e3 e4
  subst e0 e1 e2 e3 e4 q0 q1 q2 q3 q4
  simp only [Prod.mk.injEq] at hx
  obtain ⟨rfl, rfl⟩ := hx
  exact ⟨⟨x0, x1, x2, x3, x4⟩, rfl, rfl, rfl, ⟨w0, w1, w2, w3, w4⟩⟩
set_option maxRecDepth 100000 in
theorem shut_ins {H : Type} {enc : TypeId × Value → H} {W : World} {b0 : Nat} {sp : Nat → Bool} {held : Bool} {i : Rv.Ins} (h : Rv.IWf i) :
    DataW.Trod enc Tryd.prog W b0 sp held 23 (Rv.iv i) (Rv.id i) [] :=
  ⟨2, by
    obtain ⟨h0, h1, h2, h3, h4⟩ := h
    simp [DataW.trod, Value.cells, Rv.iv, Rv.id, Tryd.underlying23, Tryd.underlying3, Tryd.underlying21, cellsI, cells64, cells32, h0, h1, h2, h3, h4]⟩
theorem Rv.IWf.immB {i : Rv.Ins} (h : Rv.IWf i) : -2147483648 ≤ i.imm ∧ i.imm < 2147483648 := by
  have := bounds_i32 h.imm; omega
theorem Rv.IWf.opB {i : Rv.Ins} (h : Rv.IWf i) : -9223372036854775808 ≤ i.op ∧ i.op ≤ 9223372036854775807 := by
  have := bounds_i64 h.op; omega
end Go.Proofs.YthkampohgbddnaaDoor
