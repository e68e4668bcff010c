/- LAYER 6's walks: partText, Text. -/
import Derived.Test.YthkampohgbddnaaDoorAsmW3
namespace Go.Proofs.YthkampohgbddnaaDoor
open Go.ChangeShapes Go.WideShapes Go.ChangeAt Go.RowKit

/-- The library's table of powers of ten. -/
def PTab (w : World) : Prop := Lib.TabIs Tryd.prog w "internal/strconv.uint64pow10" .u64 Lib.pow10Tab
theorem PTab.bw {w w' : World} (h : PTab w) (g : Bw w w') : PTab w' := by
  unfold PTab Lib.TabIs World.var? at h ⊢
  cases hg : Tryd.prog.globalNamed "internal/strconv.uint64pow10" with
  | none => simp [hg] at h
  | some x =>
    simp only [hg, Option.bind_some] at h ⊢
    have hlt : x < w.heap.size := by
      rcases Nat.lt_or_ge x w.heap.size with h' | h'
      · exact h'
      · simp [Array.getElem?_eq_none h'] at h
    rw [Below.block g x hlt]
    exact h
theorem Itoa_c (n : Int) (h0 : -9223372036854775808 ≤ n) (h1 : n ≤ 9223372036854775807) (w : World) (hp : PTab w) :
    Calls Tryd.prog 38 #[.int .i64 n] w fun e w' => e = .returned (.string (bs (Lib.itoa n))) ∧ Bw w w' := by
  refine (Any.strconv_Itoa Tryd.laysM171 n h0 h1 w hp).mono ?_
  rintro e w' ⟨rfl, k, os, rfl⟩
  refine ⟨rfl, rfl, rfl, rfl, ?_, ?_⟩
  · show w.heap.size ≤ (w.heap ++ os).size
    simp
  · intro j hj
    show (w.heap ++ os)[j]? = w.heap[j]?
    rw [Array.getElem?_append_left hj]
theorem Asm.ret_s {a b : ByteArray} (h : a = b) : Ending.returned (.string a) = .returned (.string b) := by rw [h]
theorem Asm.x_app (l : List UInt8) : (⟨#[120]⟩ : ByteArray) ++ bs l = bs (120 :: l) := by
  apply ByteArray.ext
  simp [bs]
theorem partText_c (i : Rv.Ins) (p : UInt8) (w : World) (hp : PTab w) (hr : Rv.reg i.rd ∧ Rv.reg i.rs1 ∧ Rv.reg i.rs2) (hm : -2147483648 ≤ i.imm ∧ i.imm < 2147483648) (hpp : p ∈ ([100, 115, 116, 105, 117, 44, 40, 41] : List UInt8)) :
    Calls Tryd.prog 19 #[Rv.iv i, .int .i32 p.toNat] w fun e w' => e = .returned (.string (bs (Asm.ptext i p))) ∧ Bw w w' := by
  obtain ⟨⟨d0, d1⟩, ⟨s0, s1⟩, ⟨t0, t1⟩⟩ := hr
  obtain ⟨m0, m1⟩ := hm
  have hp2 : ∀ o, PTab (w.alloc o) := fun o => hp.bw ((Bw.refl w).alloc o)
  have hbx : ∀ o, Bw w (w.alloc o) := fun o => (Bw.refl w).alloc o
  unfold Rv.iv
  simp only [List.mem_cons, List.not_mem_nil, or_false] at hpp
  rcases hpp with rfl | rfl | rfl | rfl | rfl | rfl | rfl | rfl
  · have hln := Asm.itoa_len (n := i.rd) (by omega) (by omega)
    have hc := fun o => Itoa_c i.rd (by omega) (by omega) (w.alloc o) (hp2 o)
    go_enter Tryd.func19, Tryd.ntmps19
    go_wp2_with (go_at_call 38; refine (hc _).mono ?_; rintro e w' ⟨rfl, hb⟩)
    go_returns
    exact ⟨Asm.ret_s (Asm.x_app _), (hbx _).trans hb⟩
  · have hln := Asm.itoa_len (n := i.rs1) (by omega) (by omega)
    have hc := fun o => Itoa_c i.rs1 (by omega) (by omega) (w.alloc o) (hp2 o)
    go_enter Tryd.func19, Tryd.ntmps19
    go_wp2_with (go_at_call 38; refine (hc _).mono ?_; rintro e w' ⟨rfl, hb⟩)
    go_returns
    exact ⟨Asm.ret_s (Asm.x_app _), (hbx _).trans hb⟩
  · have hln := Asm.itoa_len (n := i.rs2) (by omega) (by omega)
    have hc := fun o => Itoa_c i.rs2 (by omega) (by omega) (w.alloc o) (hp2 o)
    go_enter Tryd.func19, Tryd.ntmps19
    go_wp2_with (go_at_call 38; refine (hc _).mono ?_; rintro e w' ⟨rfl, hb⟩)
    go_returns
    exact ⟨Asm.ret_s (Asm.x_app _), (hbx _).trans hb⟩
  · have hc := fun o => Itoa_c i.imm (by omega) (by omega) (w.alloc o) (hp2 o)
    go_enter Tryd.func19, Tryd.ntmps19
    go_wp2_with (go_at_call 38; refine (hc _).mono ?_; rintro e w' ⟨rfl, hb⟩)
    go_returns
    exact ⟨rfl, (hbx _).trans hb⟩
  · have hc := fun o => Itoa_c (i.imm % 4294967296 / 4096) (by omega) (by omega) (w.alloc o) (hp2 o)
    go_enter Tryd.func19, Tryd.ntmps19
    go_wp2_with (go_at_call 38; refine (hc _).mono ?_; rintro e w' ⟨rfl, hb⟩)
    go_returns
    exact ⟨rfl, (hbx _).trans hb⟩
  · go_enter Tryd.func19, Tryd.ntmps19
    go_wp2
    go_returns
    exact ⟨rfl, hbx _⟩
  · go_enter Tryd.func19, Tryd.ntmps19
    go_wp2
    go_returns
    exact ⟨rfl, hbx _⟩
  · go_enter Tryd.func19, Tryd.ntmps19
    go_wp2
    go_returns
    exact ⟨rfl, hbx _⟩
end Go.Proofs.YthkampohgbddnaaDoor
