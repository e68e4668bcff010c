/- LAYER 6's walks: Parse. -/
import Derived.Test.YthkampohgbddnaaDoorAsmW8
namespace Go.Proofs.YthkampohgbddnaaDoor
open Go.ChangeShapes Go.WideShapes Go.ChangeAt Go.RowKit

theorem Asm.ret_ie {i j : Rv.Ins} {c d : Int} (h : i = j) (h3 : c = d) : Ending.returned (.tuple #[Rv.iv i, .int .i64 c]) = .returned (.tuple #[Rv.iv j, .int .i64 d]) := by rw [h, h3]
theorem Parse_c (l : List UInt8) (w : World) (hl : l.length < 4294967281) (ht : Tabs w) (hn : NTab w) :
    Calls Tryd.prog 16 #[.string (bs l)] w fun e w' => e = .returned (.tuple #[Rv.iv (Asm.parse (Asm.tok l)).1, .int .i64 (Asm.parse (Asm.tok l)).2]) ∧ Bw w w' := by
  have hb0 := (Bw.refl w).alloc (.cells #[.int .i64 0, .int .i64 0, .int .i64 0, .int .i64 0, .int .i32 0] 23)
  have hz0 : IW (w.alloc (.cells #[.int .i64 0, .int .i64 0, .int .i64 0, .int .i64 0, .int .i32 0] 23)) w.heap.size Asm.zero := IW.new w Asm.zero 23
  have hP := parse_c l (w.alloc (.cells #[.int .i64 0, .int .i64 0, .int .i64 0, .int .i64 0, .int .i32 0] 23)) hl (ht.bw hb0) (hn.bw hb0)
  generalize Asm.parse (Asm.tok l) = R at *
  obtain ⟨i, x⟩ := R
  dsimp only at *
  unfold Rv.iv at *
  go_enter Tryd.func16, Tryd.ntmps16
  go_wp2_with (go_at_call 37; refine hP.mono ?_; rintro e w1 ⟨rfl, hb1⟩; have q := fun o => (hz0.bw hb1).bw ((Bw.refl w1).alloc o); have r0 := fun o => (q o).box.c0; have r1 := fun o => (q o).box.c1; have r2 := fun o => (q o).box.c2; have r3 := fun o => (q o).box.c3; have r4 := fun o => (q o).box.c4; have rz := fun o => (q o).fz)
  refine bodyPost_ret (by simp [results, Tryd.results16, go_sem, r0, r1, r2, r3, r4]; try rfl) rfl ?_
  exact ⟨rfl, ((hb0.trans hb1).alloc _).set5 _ _ _ _ _⟩
end Go.Proofs.YthkampohgbddnaaDoor
