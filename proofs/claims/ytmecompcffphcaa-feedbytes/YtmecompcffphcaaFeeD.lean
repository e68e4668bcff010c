/- LAYER 9's walks: a reader that has failed; Get of nothing. -/
import Derived.Test.YtmecompcffphcaaFeeW4
namespace Go.Proofs.Ytmecompcffphcaa
open Go.ChangeShapes Go.WideShapes Go.ChangeAt Go.RowKit
set_option linter.unusedSimpArgs false

set_option maxHeartbeats 1000000 in
set_option maxRecDepth 100000 in
theorem failD_c (w : World) (rb : Nat) (x y : Value) (h : Box w rb [x, y]) : Calls Try.prog 40 #[.pointer (some ⟨rb, 0, none⟩)] w fun e w' => e = .returned (.tuple #[]) ∧ Box w' rb [.slice none 0 0, .bool true] ∧ Bq rb w w' := by
  have b0 := h.c 0 _ rfl; have b1 := h.c 1 _ rfl; have f0 := h.f 0 (by simp); have f1 := h.f 1 (by simp)
  have HFin : Hid (Box ((w.setCell ⟨rb, 0, none⟩ (.slice none 0 0)).setCell ⟨rb, 1, none⟩ (.bool true)) rb [.slice none 0 0, .bool true] ∧ Bq rb w ((w.setCell ⟨rb, 0, none⟩ (.slice none 0 0)).setCell ⟨rb, 1, none⟩ (.bool true))) :=
    ⟨(h.set 0 (by simp) (.slice none 0 0)).set 1 (by simp) (.bool true), ((Bq.refl _ _).set 0 _).set 1 _⟩
  clear h
  go_enter Try.func40, Try.ntmps40
  go_wp2_with fail
  go_returns
  exact ⟨rfl, HFin⟩
set_option maxHeartbeats 1000000 in
set_option maxRecDepth 100000 in
theorem wordD_c (w : World) (rb : Nat) (b : Bool) (h : Box w rb [.slice none 0 0, .bool b]) : Calls Try.prog 35 #[.pointer (some ⟨rb, 0, none⟩)] w fun e w' => e = .returned (.int .u32 0) ∧ Box w' rb [.slice none 0 0, .bool true] ∧ Bq rb w w' := by
  have b0 := h.c 0 _ rfl
  have hF := failD_c w rb _ _ h
  clear h
  go_enter Try.func35, Try.ntmps35
  go_wp2_with (go_at_call 40; refine hF.mono ?_; rintro e w2 ⟨rfl, x2, q2⟩)
  go_returns
  exact ⟨rfl, x2, q2⟩
set_option maxHeartbeats 1000000 in
set_option maxRecDepth 100000 in
theorem numD_c (w : World) (rb : Nat) (b : Bool) (m : Int) (hm : 0 ≤ m) (h : Box w rb [.slice none 0 0, .bool b]) : Calls Try.prog 33 #[.pointer (some ⟨rb, 0, none⟩), .int .u32 m] w fun e w' => e = .returned (.int .i64 0) ∧ Box w' rb [.slice none 0 0, .bool true] ∧ Bq rb w w' := by
  have hF := wordD_c w rb _ h
  have hm2 : ¬ m < 0 := by omega
  clear h
  go_enter Try.func33, Try.ntmps33
  go_wp2_with (go_at_call 35; refine hF.mono ?_; rintro e w2 ⟨rfl, x2, q2⟩)
  go_returns
  exact ⟨rfl, x2, q2⟩
set_option maxHeartbeats 1000000 in
set_option maxRecDepth 100000 in
theorem textD_c (w : World) (rb : Nat) (b : Bool) (m : Int) (hm : 0 ≤ m) (h : Box w rb [.slice none 0 0, .bool b]) : Calls Try.prog 34 #[.pointer (some ⟨rb, 0, none⟩), .int .u32 m] w fun e w' => e = .returned (.slice none 0 0) ∧ Box w' rb [.slice none 0 0, .bool true] ∧ Bq rb w w' := by
  have hF := numD_c w rb _ m hm h
  clear h
  go_enter Try.func34, Try.ntmps34
  go_wp2_with fail
  refine hF.mono ?_
  rintro e w2 ⟨rfl, x2, q2⟩
  have b0 := x2.c 0 _ rfl; have f0 := x2.f 0 (by simp)
  have hap := run_app8_none (Own8.nil w w2) none 0
  have HFin : Hid (Box (w2.setCell ⟨rb, 0, none⟩ (.slice none 0 0)) rb [.slice none 0 0, .bool true] ∧ Bq rb w (w2.setCell ⟨rb, 0, none⟩ (.slice none 0 0))) := ⟨x2.set 0 (by simp) _, q2.set 0 _⟩
  clear x2 q2 hF
  go_wp2_with (first | (at_builtin; refine wpApp rfl _ _ 22 rfl rfl rfl hap ?_) | go_in)
  go_returns
  exact ⟨rfl, HFin⟩
/-- From a to b: block pb may be another, and what lies from N on. -/
structure Bq2 (N pb : Nat) (a b : World) : Prop where
  b0 : Below 0 a b
  block : ∀ i, i < N → i ≠ pb → b.heap[i]? = a.heap[i]?
theorem Bq.b2 {pb : Nat} {a b : World} (h : Bq pb a b) : Bq2 a.heap.size pb a b := ⟨h.b0, h.block⟩
theorem Bq2.trans {N pb : Nat} {a b c : World} (h : Bq2 N pb a b) (k : Bq pb b c) (hN : N ≤ a.heap.size) : Bq2 N pb a c :=
  ⟨h.b0.trans k.b0, fun i hi hn => (k.block i (Nat.lt_of_lt_of_le (Nat.lt_of_lt_of_le hi hN) h.b0.size) hn).trans (h.block i hi hn)⟩
theorem Bq2.bx {N pb : Nat} {a b : World} (h : Bq2 N pb a b) {c : Nat} (hc : N ≤ c) (j : Nat) (v : Value) : Bq2 N pb a (b.setCell ⟨c, j, none⟩ v) :=
  ⟨h.b0.setCell (Nat.zero_le _) v, fun i hi hn => (Below.heap_setCell _ _ _ _ (by show i ≠ c; omega)).trans (h.block i hi hn)⟩
theorem Bq2.toBq {pb : Nat} {a b : World} (h : Bq2 a.heap.size pb a b) : Bq pb a b := ⟨h.b0, h.block⟩
set_option maxHeartbeats 2000000 in
set_option maxRecDepth 100000 in
theorem readD_c (w : World) (rb : Nat) (b : Bool) (h : Box w rb [.slice none 0 0, .bool b]) : Calls Try.prog 18 #[.pointer (some ⟨rb, 0, none⟩)] w fun e w' => e = .returned (.agg #[.slice none 0 0, .slice none 0 0, .slice none 0 0, .slice none 0 0, .slice none 0 0, .slice none 0 0]) ∧ Box w' rb [.slice none 0 0, .bool true] ∧ Bq rb w w' := by
  have hlt := h.lt
  have hA := Box.new w [.slice none 0 0, .slice none 0 0, .slice none 0 0, .slice none 0 0, .slice none 0 0, .slice none 0 0] 28
  have hBn := Box.new (w.alloc (.cells #[.slice none 0 0, .slice none 0 0, .slice none 0 0, .slice none 0 0, .slice none 0 0, .slice none 0 0] 28)) [.slice none 0 0, .slice none 0 0, .slice none 0 0, .slice none 0 0, .slice none 0 0, .slice none 0 0] 28
  have g2 : Bw w ((w.alloc (.cells #[.slice none 0 0, .slice none 0 0, .slice none 0 0, .slice none 0 0, .slice none 0 0, .slice none 0 0] 28)).alloc (.cells #[.slice none 0 0, .slice none 0 0, .slice none 0 0, .slice none 0 0, .slice none 0 0, .slice none 0 0] 28)) := ((Bw.refl w).alloc _).alloc _
  have hA2 := hA.bw ((Bw.refl _).alloc (.cells #[.slice none 0 0, .slice none 0 0, .slice none 0 0, .slice none 0 0, .slice none 0 0, .slice none 0 0] 28))
  have hX := h.bw g2
  have hq0 : Bq rb w _ := (Bq.refl rb w).bw g2
  rw [World.size_alloc] at hBn
  go_enter Try.func18, Try.ntmps18
  go_wp2_with fail
  refine (numD_c _ rb _ 16 (by omega) hX).mono ?_
  rintro e w1 ⟨rfl, x1, q1⟩
  have a1 := hA2.q q1 (by omega)
  have b1 := hBn.q q1 (by omega)
  replace hq0 := hq0.trans q1
  clear hA hBn hA2 hX h q1 g2
  obtain ⟨fa, hfa⟩ : ∃ fa, w.heap.size = fa := ⟨_, rfl⟩
  rw [hfa] at a1 b1 ⊢
  have na : fa ≠ rb := by omega
  have nb : fa + 1 ≠ rb := by omega
  go_wp2_with fail
  have nab : fa ≠ fa + 1 := by omega
  have hq1 : Bq2 w.heap.size rb w w1 := hq0.b2
  go_loopg [7] 0 (fun g j wr => j = .int .i64 0 ∧ wr = w1)
  case atStart => exact ⟨rfl, rfl⟩
  case round =>
    obtain ⟨rfl, hwr⟩ := hrel
    subst hwr
    go_wp2_with fail
    refine (textD_c _ rb _ 4096 (by omega) x1).mono ?_
    rintro e w2 ⟨rfl, x2, q2⟩
    have a2 := a1.q q2 na
    have b2 := b1.q q2 nb
    have t0 := b2.c 1 _ rfl; have t1 := b2.f 1 (by simp)
    have x2s := x2.ne (Ne.symm nb) 1 (.slice none 0 0)
    have a2s := a2.ne nab 1 (.slice none 0 0)
    have b2s := b2.set 1 (by simp) (.slice none 0 0)
    have hq2 := (hq1.trans q2 (Nat.le_refl _)).bx (c := fa + 1) (by omega) 1 (.slice none 0 0)
    clear x1 a1 b1 q2 x2 a2 b2
    go_wp2_with fail
    clear t0 t1
    refine (numD_c _ rb _ 64 (by omega) x2s).mono ?_
    rintro e w3 ⟨rfl, x3, q3⟩
    have a3 := a2s.q q3 na
    have b3 := b2s.q q3 nb
    have hq3 := hq2.trans q3 (Nat.le_refl _)
    clear x2s a2s b2s q3
    go_wp2_with fail
    go_loopg [23] 0 (fun g j wr => j = .int .i64 0 ∧ wr = w3)
    case atStart => exact ⟨rfl, rfl⟩
    case round =>
      obtain ⟨rfl, hwr⟩ := hrel
      subst hwr
      go_wp2_with fail
      refine (textD_c _ rb _ 4096 (by omega) x3).mono ?_
      rintro e w4 ⟨rfl, x4, q4⟩
      have a4 := a3.q q4 na
      have b4 := b3.q q4 nb
      have t0 := b4.c 3 _ rfl; have t1 := b4.f 3 (by simp)
      have x4s := x4.ne (Ne.symm nb) 3 (.slice none 0 0)
      have a4s := a4.ne nab 3 (.slice none 0 0)
      have b4s := b4.set 3 (by simp) (.slice none 0 0)
      have hq4 := (hq3.trans q4 (Nat.le_refl _)).bx (c := fa + 1) (by omega) 3 (.slice none 0 0)
      clear x3 a3 b3 q4 x4 a4 b4
      go_wp2_with fail
      clear t0 t1
      refine (numD_c _ rb _ 64 (by omega) x4s).mono ?_
      rintro e w5 ⟨rfl, x5, q5⟩
      have a5 := a4s.q q5 na
      have b5 := b4s.q q5 nb
      have hq5 := hq4.trans q5 (Nat.le_refl _)
      clear x4s a4s b4s q5
      go_wp2_with fail
      go_loopg [38] 0 (fun g j wr => j = .int .i64 0 ∧ wr = w5)
      case atStart => exact ⟨rfl, rfl⟩
      case round =>
        obtain ⟨rfl, hwr⟩ := hrel
        subst hwr
        go_wp2_with fail
        refine (numD_c _ rb _ 8 (by omega) x5).mono ?_
        rintro e w6 ⟨rfl, x6, q6⟩
        have a6 := a5.q q6 na
        have b6 := b5.q q6 nb
        have hq6 := hq5.trans q6 (Nat.le_refl _)
        clear x5 a5 b5 q6
        go_wp2_with fail
        have z0 := a6.c 0 _ rfl; have z1 := a6.c 1 _ rfl; have z2 := a6.c 2 _ rfl; have z3 := a6.c 3 _ rfl; have z4 := a6.c 4 _ rfl; have z5 := a6.c 5 _ rfl
        have y0 := a6.f 0 (by simp); have y1 := a6.f 1 (by simp); have y2 := a6.f 2 (by simp); have y3 := a6.f 3 (by simp); have y4 := a6.f 4 (by simp); have y5 := a6.f 5 (by simp)
        have v0 := b6.c 0 _ rfl; have v1 := b6.c 1 _ rfl; have v2 := b6.c 2 _ rfl; have v3 := b6.c 3 _ rfl; have v4 := b6.c 4 _ rfl; have v5 := b6.c 5 _ rfl
        go_loopg [50] 0 (fun g j wr => j = .int .i64 0 ∧ wr = w6)
        case atStart => exact ⟨rfl, rfl⟩
        case round =>
          obtain ⟨rfl, hwr⟩ := hrel
          subst hwr
          go_wp2_with fail
          (try simp only [Exit.inBlock, Exit.then]); refine bodyPost_ret (by simp [results, Try.results18, go_sem, z0, z1, z2, z3, z4, z5]; try rfl) rfl ?_
          refine ⟨rfl, (((((x6.ne (Ne.symm na) 0 _).ne (Ne.symm na) 1 _).ne (Ne.symm na) 2 _).ne (Ne.symm na) 3 _).ne (Ne.symm na) 4 _).ne (Ne.symm na) 5 _, ?_⟩
          exact ((((((hq6.bx (c := fa) (by omega) 0 _).bx (c := fa) (by omega) 1 _).bx (c := fa) (by omega) 2 _).bx (c := fa) (by omega) 3 _).bx (c := fa) (by omega) 4 _).bx (c := fa) (by omega) 5 _).toBq
set_option maxHeartbeats 2000000 in
set_option maxRecDepth 100000 in
theorem getD_c (w : World) : Calls Try.prog 7 #[.slice none 0 0] w fun e w' => e = .returned (.tuple #[.agg #[.slice none 0 0, .slice none 0 0, .slice none 0 0, .slice none 0 0, .slice none 0 0, .slice none 0 0], .int .i64 3]) ∧ Bw w w' := by
  have hA := Box.new w [.slice none 0 0, .slice none 0 0, .slice none 0 0, .slice none 0 0, .slice none 0 0, .slice none 0 0] 28
  have hR := Box.new (w.alloc (.cells #[.slice none 0 0, .slice none 0 0, .slice none 0 0, .slice none 0 0, .slice none 0 0, .slice none 0 0] 28)) [.slice none 0 0, .bool false] 57
  have g2 : Bw w ((w.alloc (.cells #[.slice none 0 0, .slice none 0 0, .slice none 0 0, .slice none 0 0, .slice none 0 0, .slice none 0 0] 28)).alloc (.cells #[.slice none 0 0, .bool false] 57)) := ((Bw.refl w).alloc _).alloc _
  have hA2 := hA.bw ((Bw.refl _).alloc (.cells #[.slice none 0 0, .bool false] 57))
  rw [World.size_alloc] at hR
  go_enter Try.func7, Try.ntmps7
  go_wp2_with fail
  refine (readD_c _ _ _ hR).mono ?_
  rintro e w2 ⟨rfl, x2, q2⟩
  have a2 := hA2.q q2 (by omega)
  have hb2 := q2.toBw g2 (by omega)
  clear hA hR hA2 g2 q2
  obtain ⟨fa, hfa⟩ : ∃ fa, w.heap.size = fa := ⟨_, rfl⟩
  rw [hfa] at a2 x2 ⊢
  have hlt := x2.lt
  have x2b := x2.bw ((Bw.refl w2).alloc (.cells #[.slice none 0 0, .slice none 0 0, .slice none 0 0, .slice none 0 0, .slice none 0 0, .slice none 0 0] 28))
  have a2b := a2.bw ((Bw.refl w2).alloc (.cells #[.slice none 0 0, .slice none 0 0, .slice none 0 0, .slice none 0 0, .slice none 0 0, .slice none 0 0] 28))
  have hb3 : Bw w (w2.alloc (.cells #[.slice none 0 0, .slice none 0 0, .slice none 0 0, .slice none 0 0, .slice none 0 0, .slice none 0 0] 28)) := hb2.alloc _
  have r1 := x2b.c 1 _ rfl
  have z0 := a2b.c 0 _ rfl; have z1 := a2b.c 1 _ rfl; have z2 := a2b.c 2 _ rfl; have z3 := a2b.c 3 _ rfl; have z4 := a2b.c 4 _ rfl; have z5 := a2b.c 5 _ rfl
  have y0 := a2b.f 0 (by simp); have y1 := a2b.f 1 (by simp); have y2 := a2b.f 2 (by simp); have y3 := a2b.f 3 (by simp); have y4 := a2b.f 4 (by simp); have y5 := a2b.f 5 (by simp)
  have hle : w.heap.size ≤ fa := Nat.le_of_eq hfa
  have HB : Hid _ := (((((hb3.setCell (p := ⟨fa, 0, none⟩) hle (.slice none 0 0)).setCell (p := ⟨fa, 1, none⟩) hle (.slice none 0 0)).setCell (p := ⟨fa, 2, none⟩) hle (.slice none 0 0)).setCell (p := ⟨fa, 3, none⟩) hle (.slice none 0 0)).setCell (p := ⟨fa, 4, none⟩) hle (.slice none 0 0)).setCell (p := ⟨fa, 5, none⟩) hle (.slice none 0 0)
  clear x2 x2b a2 a2b hb2 hb3
  go_wp2_with fail
  (try simp only [Exit.inBlock, Exit.then]); refine bodyPost_ret (by simp [results, Try.results7, go_sem, z0, z1, z2, z3, z4, z5]; try rfl) rfl ?_
  exact ⟨rfl, HB⟩
end Go.Proofs.Ytmecompcffphcaa
