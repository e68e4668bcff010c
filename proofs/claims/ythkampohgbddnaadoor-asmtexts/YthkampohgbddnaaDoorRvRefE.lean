/- LAYER 5: the document's own answer: the words of Encode. -/
import Derived.Test.YthkampohgbddnaaDoorRvRefM
namespace Go.Proofs.YthkampohgbddnaaDoor
open Go.ChangeShapes Go.WideShapes Go.ChangeAt Go.RowKit

theorem Rv.e1 {o rd imm : Int} (o0 : 0 ≤ o) (o1 : o < 128) (d0 : 0 ≤ rd) (d1 : rd < 32) (hm : imm % 4096 = 0) : bits .or .u32 (bits .or .u32 o (rd * 128)) (imm % 4294967296) = o + 128 * rd + 4096 * (imm / 4096 % 1048576) := by
  have e : imm % 4294967296 = 4096 * (imm / 4096 % 1048576) := by omega
  have b : 0 ≤ imm / 4096 % 1048576 ∧ imm / 4096 % 1048576 < 1048576 := by omega
  rw [e]
  clear e
  generalize imm / 4096 % 1048576 = p at *
  rw [Rv.orhole (x := o) (y := rd * 128) 7 32 (by decide) (by omega) (by omega) (by omega) (by omega) (by omega) (by omega) (by omega)]
  rw [Rv.orhole (x := o + rd * 128) (y := 4096 * p) 12 32 (by decide) (by omega) (by omega) (by omega) (by omega) (by omega) (by omega) (by omega)]
  omega
theorem Rv.e2 {o rd imm : Int} (o0 : 0 ≤ o) (o1 : o < 128) (d0 : 0 ≤ rd) (d1 : rd < 32) : bits .or .u32 (bits .or .u32 (bits .or .u32 (bits .or .u32 (bits .or .u32 (o) (rd * 128)) (bits .and .u32 (imm % 4294967296 / 1048576) 1 * 2147483648 % 4294967296)) (bits .and .u32 (imm % 4294967296 / 2) 1023 * 2097152 % 4294967296)) (bits .and .u32 (imm % 4294967296 / 2048) 1 * 1048576 % 4294967296)) (bits .and .u32 (imm % 4294967296 / 4096) 255 * 4096 % 4294967296) = o + 128 * rd + 4096 * (imm / 4096 % 256) + 1048576 * (imm / 2048 % 2) + 2097152 * (imm / 2 % 1024) + 2147483648 * (imm / 1048576 % 2) := by
  have c1 : bits .and .u32 (imm % 4294967296 / 1048576) 1 = imm / 1048576 % 2 := by rw [show (1 : Int) = 2 ^ 1 - 1 from rfl, Rv.andm (by omega) (by omega) 1 (by decide)]; omega
  have c2 : bits .and .u32 (imm % 4294967296 / 2) 1023 = imm / 2 % 1024 := by rw [show (1023 : Int) = 2 ^ 10 - 1 from rfl, Rv.andm (by omega) (by omega) 10 (by decide)]; omega
  have c3 : bits .and .u32 (imm % 4294967296 / 2048) 1 = imm / 2048 % 2 := by rw [show (1 : Int) = 2 ^ 1 - 1 from rfl, Rv.andm (by omega) (by omega) 1 (by decide)]; omega
  have c4 : bits .and .u32 (imm % 4294967296 / 4096) 255 = imm / 4096 % 256 := by rw [show (255 : Int) = 2 ^ 8 - 1 from rfl, Rv.andm (by omega) (by omega) 8 (by decide)]; omega
  rw [c1, c2, c3, c4]
  have b1 : 0 ≤ imm / 1048576 % 2 ∧ imm / 1048576 % 2 < 2 := by omega
  have b2 : 0 ≤ imm / 2 % 1024 ∧ imm / 2 % 1024 < 1024 := by omega
  have b3 : 0 ≤ imm / 2048 % 2 ∧ imm / 2048 % 2 < 2 := by omega
  have b4 : 0 ≤ imm / 4096 % 256 ∧ imm / 4096 % 256 < 256 := by omega
  clear c1 c2 c3 c4
  generalize imm / 1048576 % 2 = p1 at *
  generalize imm / 2 % 1024 = p2 at *
  generalize imm / 2048 % 2 = p3 at *
  generalize imm / 4096 % 256 = p4 at *
  have a1 : p1 * 2147483648 % 4294967296 = 2147483648 * p1 := by omega
  have a2 : p2 * 2097152 % 4294967296 = 2097152 * p2 := by omega
  have a3 : p3 * 1048576 % 4294967296 = 1048576 * p3 := by omega
  have a4 : p4 * 4096 % 4294967296 = 4096 * p4 := by omega
  rw [a1, a2, a3, a4]
  rw [Rv.orhole (x := o) (y := rd * 128) 7 32 (by decide) (by omega) (by omega) (by omega) (by omega) (by omega) (by omega) (by omega)]
  rw [Rv.orhole (x := o + rd * 128) (y := 2147483648 * p1) 31 32 (by decide) (by omega) (by omega) (by omega) (by omega) (by omega) (by omega) (by omega)]
  rw [Rv.orhole (x := o + rd * 128 + 2147483648 * p1) (y := 2097152 * p2) 21 31 (by decide) (by omega) (by omega) (by omega) (by omega) (by omega) (by omega) (by omega)]
  rw [Rv.orhole (x := o + rd * 128 + 2147483648 * p1 + 2097152 * p2) (y := 1048576 * p3) 20 21 (by decide) (by omega) (by omega) (by omega) (by omega) (by omega) (by omega) (by omega)]
  rw [Rv.orhole (x := o + rd * 128 + 2147483648 * p1 + 2097152 * p2 + 1048576 * p3) (y := 4096 * p4) 12 20 (by decide) (by omega) (by omega) (by omega) (by omega) (by omega) (by omega) (by omega)]
  omega
theorem Rv.e3 {o f3 rs1 rs2 imm : Int} (o0 : 0 ≤ o) (o1 : o < 128) (a0 : 0 ≤ f3) (a1 : f3 < 8) (s0 : 0 ≤ rs1) (s1 : rs1 < 32) (t0 : 0 ≤ rs2) (t1 : rs2 < 32) : bits .or .u32 (bits .or .u32 (bits .or .u32 (bits .or .u32 (bits .or .u32 (bits .or .u32 (bits .or .u32 (o) (f3 * 4096)) (rs1 * 32768)) (rs2 * 1048576)) (bits .and .u32 (imm % 4294967296 / 4096) 1 * 2147483648 % 4294967296)) (bits .and .u32 (imm % 4294967296 / 32) 63 * 33554432 % 4294967296)) (bits .and .u32 (imm % 4294967296 / 2) 15 * 256 % 4294967296)) (bits .and .u32 (imm % 4294967296 / 2048) 1 * 128 % 4294967296) = o + 4096 * f3 + 128 * (imm / 2048 % 2) + 256 * (imm / 2 % 16) + 32768 * rs1 + 1048576 * rs2 + 33554432 * (imm / 32 % 64) + 2147483648 * (imm / 4096 % 2) := by
  have c1 : bits .and .u32 (imm % 4294967296 / 4096) 1 = imm / 4096 % 2 := by rw [show (1 : Int) = 2 ^ 1 - 1 from rfl, Rv.andm (by omega) (by omega) 1 (by decide)]; omega
  have c2 : bits .and .u32 (imm % 4294967296 / 32) 63 = imm / 32 % 64 := by rw [show (63 : Int) = 2 ^ 6 - 1 from rfl, Rv.andm (by omega) (by omega) 6 (by decide)]; omega
  have c3 : bits .and .u32 (imm % 4294967296 / 2) 15 = imm / 2 % 16 := by rw [show (15 : Int) = 2 ^ 4 - 1 from rfl, Rv.andm (by omega) (by omega) 4 (by decide)]; omega
  have c4 : bits .and .u32 (imm % 4294967296 / 2048) 1 = imm / 2048 % 2 := by rw [show (1 : Int) = 2 ^ 1 - 1 from rfl, Rv.andm (by omega) (by omega) 1 (by decide)]; omega
  rw [c1, c2, c3, c4]
  have b1 : 0 ≤ imm / 4096 % 2 ∧ imm / 4096 % 2 < 2 := by omega
  have b2 : 0 ≤ imm / 32 % 64 ∧ imm / 32 % 64 < 64 := by omega
  have b3 : 0 ≤ imm / 2 % 16 ∧ imm / 2 % 16 < 16 := by omega
  have b4 : 0 ≤ imm / 2048 % 2 ∧ imm / 2048 % 2 < 2 := by omega
  clear c1 c2 c3 c4
  generalize imm / 4096 % 2 = p1 at *
  generalize imm / 32 % 64 = p2 at *
  generalize imm / 2 % 16 = p3 at *
  generalize imm / 2048 % 2 = p4 at *
  have a1 : p1 * 2147483648 % 4294967296 = 2147483648 * p1 := by omega
  have a2 : p2 * 33554432 % 4294967296 = 33554432 * p2 := by omega
  have a3 : p3 * 256 % 4294967296 = 256 * p3 := by omega
  have a4 : p4 * 128 % 4294967296 = 128 * p4 := by omega
  rw [a1, a2, a3, a4]
  rw [Rv.orhole (x := o) (y := f3 * 4096) 12 32 (by decide) (by omega) (by omega) (by omega) (by omega) (by omega) (by omega) (by omega)]
  rw [Rv.orhole (x := o + f3 * 4096) (y := rs1 * 32768) 15 32 (by decide) (by omega) (by omega) (by omega) (by omega) (by omega) (by omega) (by omega)]
  rw [Rv.orhole (x := o + f3 * 4096 + rs1 * 32768) (y := rs2 * 1048576) 20 32 (by decide) (by omega) (by omega) (by omega) (by omega) (by omega) (by omega) (by omega)]
  rw [Rv.orhole (x := o + f3 * 4096 + rs1 * 32768 + rs2 * 1048576) (y := 2147483648 * p1) 31 32 (by decide) (by omega) (by omega) (by omega) (by omega) (by omega) (by omega) (by omega)]
  rw [Rv.orhole (x := o + f3 * 4096 + rs1 * 32768 + rs2 * 1048576 + 2147483648 * p1) (y := 33554432 * p2) 25 31 (by decide) (by omega) (by omega) (by omega) (by omega) (by omega) (by omega) (by omega)]
  rw [Rv.orhole (x := o + f3 * 4096 + rs1 * 32768 + rs2 * 1048576 + 2147483648 * p1 + 33554432 * p2) (y := 256 * p3) 8 12 (by decide) (by omega) (by omega) (by omega) (by omega) (by omega) (by omega) (by omega)]
  rw [Rv.orhole (x := o + f3 * 4096 + rs1 * 32768 + rs2 * 1048576 + 2147483648 * p1 + 33554432 * p2 + 256 * p3) (y := 128 * p4) 7 8 (by decide) (by omega) (by omega) (by omega) (by omega) (by omega) (by omega) (by omega)]
  omega
theorem Rv.e4 {o f3 rs1 rs2 imm : Int} (o0 : 0 ≤ o) (o1 : o < 128) (a0 : 0 ≤ f3) (a1 : f3 < 8) (s0 : 0 ≤ rs1) (s1 : rs1 < 32) (t0 : 0 ≤ rs2) (t1 : rs2 < 32) : bits .or .u32 (bits .or .u32 (bits .or .u32 (bits .or .u32 (bits .or .u32 (o) (f3 * 4096)) (rs1 * 32768)) (rs2 * 1048576)) (bits .and .u32 (imm % 4294967296 / 32) 127 * 33554432 % 4294967296)) (bits .and .u32 (imm % 4294967296) 31 * 128 % 4294967296) = o + 4096 * f3 + 128 * (imm % 32) + 32768 * rs1 + 1048576 * rs2 + 33554432 * (imm / 32 % 128) := by
  have c1 : bits .and .u32 (imm % 4294967296 / 32) 127 = imm / 32 % 128 := by rw [show (127 : Int) = 2 ^ 7 - 1 from rfl, Rv.andm (by omega) (by omega) 7 (by decide)]; omega
  have c2 : bits .and .u32 (imm % 4294967296) 31 = imm % 32 := by rw [show (31 : Int) = 2 ^ 5 - 1 from rfl, Rv.andm (by omega) (by omega) 5 (by decide)]; omega
  rw [c1, c2]
  have b1 : 0 ≤ imm / 32 % 128 ∧ imm / 32 % 128 < 128 := by omega
  have b2 : 0 ≤ imm % 32 ∧ imm % 32 < 32 := by omega
  clear c1 c2
  generalize imm / 32 % 128 = p1 at *
  generalize imm % 32 = p2 at *
  have a1 : p1 * 33554432 % 4294967296 = 33554432 * p1 := by omega
  have a2 : p2 * 128 % 4294967296 = 128 * p2 := by omega
  rw [a1, a2]
  rw [Rv.orhole (x := o) (y := f3 * 4096) 12 32 (by decide) (by omega) (by omega) (by omega) (by omega) (by omega) (by omega) (by omega)]
  rw [Rv.orhole (x := o + f3 * 4096) (y := rs1 * 32768) 15 32 (by decide) (by omega) (by omega) (by omega) (by omega) (by omega) (by omega) (by omega)]
  rw [Rv.orhole (x := o + f3 * 4096 + rs1 * 32768) (y := rs2 * 1048576) 20 32 (by decide) (by omega) (by omega) (by omega) (by omega) (by omega) (by omega) (by omega)]
  rw [Rv.orhole (x := o + f3 * 4096 + rs1 * 32768 + rs2 * 1048576) (y := 33554432 * p1) 25 32 (by decide) (by omega) (by omega) (by omega) (by omega) (by omega) (by omega) (by omega)]
  rw [Rv.orhole (x := o + f3 * 4096 + rs1 * 32768 + rs2 * 1048576 + 33554432 * p1) (y := 128 * p2) 7 12 (by decide) (by omega) (by omega) (by omega) (by omega) (by omega) (by omega) (by omega)]
  omega
theorem Rv.e5 {o f3 rd rs1 imm : Int} (o0 : 0 ≤ o) (o1 : o < 128) (a0 : 0 ≤ f3) (a1 : f3 < 8) (d0 : 0 ≤ rd) (d1 : rd < 32) (s0 : 0 ≤ rs1) (s1 : rs1 < 32) : bits .or .u32 (bits .or .u32 (bits .or .u32 (bits .or .u32 (o) (f3 * 4096)) (rd * 128)) (rs1 * 32768)) (bits .and .u32 (imm % 4294967296) 4095 * 1048576 % 4294967296) = o + 4096 * f3 + 128 * rd + 32768 * rs1 + 1048576 * (imm % 4096) := by
  have c1 : bits .and .u32 (imm % 4294967296) 4095 = imm % 4096 := by rw [show (4095 : Int) = 2 ^ 12 - 1 from rfl, Rv.andm (by omega) (by omega) 12 (by decide)]; omega
  rw [c1]
  have b1 : 0 ≤ imm % 4096 ∧ imm % 4096 < 4096 := by omega
  clear c1
  generalize imm % 4096 = p1 at *
  have a1 : p1 * 1048576 % 4294967296 = 1048576 * p1 := by omega
  rw [a1]
  rw [Rv.orhole (x := o) (y := f3 * 4096) 12 32 (by decide) (by omega) (by omega) (by omega) (by omega) (by omega) (by omega) (by omega)]
  rw [Rv.orhole (x := o + f3 * 4096) (y := rd * 128) 7 12 (by decide) (by omega) (by omega) (by omega) (by omega) (by omega) (by omega) (by omega)]
  rw [Rv.orhole (x := o + f3 * 4096 + rd * 128) (y := rs1 * 32768) 15 32 (by decide) (by omega) (by omega) (by omega) (by omega) (by omega) (by omega) (by omega)]
  rw [Rv.orhole (x := o + f3 * 4096 + rd * 128 + rs1 * 32768) (y := 1048576 * p1) 20 32 (by decide) (by omega) (by omega) (by omega) (by omega) (by omega) (by omega) (by omega)]
  omega
theorem Rv.e6 {o f3 rd rs1 f7 imm : Int} (o0 : 0 ≤ o) (o1 : o < 128) (a0 : 0 ≤ f3) (a1 : f3 < 8) (d0 : 0 ≤ rd) (d1 : rd < 32) (s0 : 0 ≤ rs1) (s1 : rs1 < 32) (a2 : 0 ≤ f7) (a3 : f7 < 128) : bits .or .u32 (bits .or .u32 (bits .or .u32 (bits .or .u32 (bits .or .u32 (o) (f3 * 4096)) (rd * 128)) (rs1 * 32768)) (bits .and .u32 (imm % 4294967296) 31 * 1048576 % 4294967296)) (f7 * 33554432) = o + 4096 * f3 + 128 * rd + 32768 * rs1 + 1048576 * (imm % 32) + 33554432 * f7 := by
  have c1 : bits .and .u32 (imm % 4294967296) 31 = imm % 32 := by rw [show (31 : Int) = 2 ^ 5 - 1 from rfl, Rv.andm (by omega) (by omega) 5 (by decide)]; omega
  rw [c1]
  have b1 : 0 ≤ imm % 32 ∧ imm % 32 < 32 := by omega
  clear c1
  generalize imm % 32 = p1 at *
  have a1 : p1 * 1048576 % 4294967296 = 1048576 * p1 := by omega
  rw [a1]
  rw [Rv.orhole (x := o) (y := f3 * 4096) 12 32 (by decide) (by omega) (by omega) (by omega) (by omega) (by omega) (by omega) (by omega)]
  rw [Rv.orhole (x := o + f3 * 4096) (y := rd * 128) 7 12 (by decide) (by omega) (by omega) (by omega) (by omega) (by omega) (by omega) (by omega)]
  rw [Rv.orhole (x := o + f3 * 4096 + rd * 128) (y := rs1 * 32768) 15 32 (by decide) (by omega) (by omega) (by omega) (by omega) (by omega) (by omega) (by omega)]
  rw [Rv.orhole (x := o + f3 * 4096 + rd * 128 + rs1 * 32768) (y := 1048576 * p1) 20 32 (by decide) (by omega) (by omega) (by omega) (by omega) (by omega) (by omega) (by omega)]
  rw [Rv.orhole (x := o + f3 * 4096 + rd * 128 + rs1 * 32768 + 1048576 * p1) (y := f7 * 33554432) 25 32 (by decide) (by omega) (by omega) (by omega) (by omega) (by omega) (by omega) (by omega)]
  omega
theorem Rv.e7 {o f3 rd rs1 rs2 f7 : Int} (o0 : 0 ≤ o) (o1 : o < 128) (a0 : 0 ≤ f3) (a1 : f3 < 8) (d0 : 0 ≤ rd) (d1 : rd < 32) (s0 : 0 ≤ rs1) (s1 : rs1 < 32) (t0 : 0 ≤ rs2) (t1 : rs2 < 32) (a2 : 0 ≤ f7) (a3 : f7 < 128) : bits .or .u32 (bits .or .u32 (bits .or .u32 (bits .or .u32 (bits .or .u32 (o) (f3 * 4096)) (rd * 128)) (rs1 * 32768)) (rs2 * 1048576)) (f7 * 33554432) = o + 4096 * f3 + 128 * rd + 32768 * rs1 + 1048576 * rs2 + 33554432 * f7 := by
  rw [Rv.orhole (x := o) (y := f3 * 4096) 12 32 (by decide) (by omega) (by omega) (by omega) (by omega) (by omega) (by omega) (by omega)]
  rw [Rv.orhole (x := o + f3 * 4096) (y := rd * 128) 7 12 (by decide) (by omega) (by omega) (by omega) (by omega) (by omega) (by omega) (by omega)]
  rw [Rv.orhole (x := o + f3 * 4096 + rd * 128) (y := rs1 * 32768) 15 32 (by decide) (by omega) (by omega) (by omega) (by omega) (by omega) (by omega) (by omega)]
  rw [Rv.orhole (x := o + f3 * 4096 + rd * 128 + rs1 * 32768) (y := rs2 * 1048576) 20 32 (by decide) (by omega) (by omega) (by omega) (by omega) (by omega) (by omega) (by omega)]
  rw [Rv.orhole (x := o + f3 * 4096 + rd * 128 + rs1 * 32768 + rs2 * 1048576) (y := f7 * 33554432) 25 32 (by decide) (by omega) (by omega) (by omega) (by omega) (by omega) (by omega) (by omega)]
  omega
/-- What the document's Encode answers: false where the tests say no; else the word. -/
def Rv.EncPost (C : Prop) (V : Int) (w : World) (e : Ending) (w' : World) : Prop := ∃ x b, e = .returned (.tuple #[.int .u32 x, .bool b]) ∧ Gr w w' ∧ (b = true ↔ C) ∧ (C → x = V)
theorem Rv.and12 (imm : Int) : bits .and .u32 (imm % 4294967296) 4095 = imm % 4096 := by
  rw [show (4095 : Int) = 2 ^ 12 - 1 from rfl, Rv.andm (by omega) (by omega) 12 (by decide)]; omega
end Go.Proofs.YthkampohgbddnaaDoor
