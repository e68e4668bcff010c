/- LAYER 5's law RvApart. -/
import Derived.Test.YtfemillfcnhohaaDoorRvLaws
import Derived.Deep.RegionHeld3
namespace Go.Proofs.YtfemillfcnhohaaDoor
open Go.ChangeShapes Go.WideShapes Go.ChangeAt Go.RowKit

theorem Rv.ibox2 {w w1 : World} {T U : TypeId} {i k : Rv.Ins} (h : Gr ((w.alloc (.cells #[.int .i64 i.op, .int .i64 i.rd, .int .i64 i.rs1, .int .i64 i.rs2, .int .i32 i.imm] T)).alloc (.cells #[.int .i64 k.op, .int .i64 k.rd, .int .i64 k.rs1, .int .i64 k.rs2, .int .i32 k.imm] U)) w1) :
    (w1.cell? ⟨w.heap.size, 0, none⟩ = some (.int .i64 i.op) ∧ w1.cell? ⟨w.heap.size, 1, none⟩ = some (.int .i64 i.rd) ∧ w1.cell? ⟨w.heap.size, 2, none⟩ = some (.int .i64 i.rs1) ∧ w1.cell? ⟨w.heap.size, 3, none⟩ = some (.int .i64 i.rs2) ∧ w1.cell? ⟨w.heap.size, 4, none⟩ = some (.int .i32 i.imm)) ∧ (w1.cell? ⟨w.heap.size + 1, 0, none⟩ = some (.int .i64 k.op) ∧ w1.cell? ⟨w.heap.size + 1, 1, none⟩ = some (.int .i64 k.rd) ∧ w1.cell? ⟨w.heap.size + 1, 2, none⟩ = some (.int .i64 k.rs1) ∧ w1.cell? ⟨w.heap.size + 1, 3, none⟩ = some (.int .i64 k.rs2) ∧ w1.cell? ⟨w.heap.size + 1, 4, none⟩ = some (.int .i32 k.imm)) := by
  have a := Rv.ibox (Rv.dropGr h)
  have b := Rv.ibox h
  simp only [World.size_alloc] at b
  exact ⟨a, b⟩
theorem Rv.drop2 {w w1 : World} {c d : Array Value} {t u : TypeId} (h : Gr ((w.alloc (.cells c t)).alloc (.cells d u)) w1) : Gr w w1 := Rv.dropGr (Rv.dropGr h)

set_option maxHeartbeats 1600000 in
theorem RvApart_w (i k : Rv.Ins) (hi : -2147483648 ≤ i.imm ∧ i.imm < 2147483648) (hk : -2147483648 ≤ k.imm ∧ k.imm < 2147483648) (w : World) (ht : Tabs w) (hn : NTab w) :
    Calls Tryd.prog 7 #[Rv.iv i, Rv.iv k] w fun e w' => e = .returned (.bool true) ∧ Gr w w' := by
  unfold Rv.iv
  have g1 := Gr.refl ((w.alloc (.cells #[.int .i64 i.op, .int .i64 i.rd, .int .i64 i.rs1, .int .i64 i.rs2, .int .i32 i.imm] 28)).alloc (.cells #[.int .i64 k.op, .int .i64 k.rd, .int .i64 k.rs1, .int .i64 k.rs2, .int .i32 k.imm] 28))
  by_cases gi : Rv.good i
  · have hE := fun w ht => Encode_good i w ht hi gi
    by_cases gk : Rv.good k
    · have hF := fun w ht => Encode_good k w ht hk gk
      by_cases hik : i = k
      · subst hik
        generalize Rv.enc i = E at *
        go_enter Tryd.func7, Tryd.ntmps7
        go_wp2_with fail
        refine (awake5_c _ (ht.gr (Rv.drop2 g1)) (hn.gr (Rv.drop2 g1))).mono ?_
        rintro e w1 ⟨rfl, h2⟩
        replace g1 := g1.trans h2; clear h2
        have hb := Rv.ibox2 g1
        go_wp2_with fail
        refine (hE _ (ht.gr (Rv.drop2 g1))).mono ?_
        rintro e w2 ⟨rfl, h2⟩
        replace g1 := g1.trans h2; clear h2 hb
        have hb := Rv.ibox2 g1
        go_wp2_with fail
        refine (hF _ (ht.gr (Rv.drop2 g1))).mono ?_
        rintro e w3 ⟨rfl, h2⟩
        replace g1 := g1.trans h2; clear h2 hb
        have hb := Rv.ibox2 g1
        go_wp2_with fail
        try (go_region; go_wp2_with fail)
        go_ret
        exact ⟨rfl, by first | exact Rv.drop2 g1 | exact (Rv.drop2 g1).drew⟩
      · have hne : Rv.enc i ≠ Rv.enc k := fun e => hik (by rw [← Rv.dec_enc gi hi, ← Rv.dec_enc gk hk, e])
        have hb0 := Rv.beqF hne
        have hq := fun w => Rv.eqlInsF hik w
        clear hne hik
        generalize Rv.enc i = E at *; generalize Rv.enc k = D at *
        go_enter Tryd.func7, Tryd.ntmps7
        go_wp2_with fail
        refine (awake5_c _ (ht.gr (Rv.drop2 g1)) (hn.gr (Rv.drop2 g1))).mono ?_
        rintro e w1 ⟨rfl, h2⟩
        replace g1 := g1.trans h2; clear h2
        have hb := Rv.ibox2 g1
        go_wp2_with fail
        refine (hE _ (ht.gr (Rv.drop2 g1))).mono ?_
        rintro e w2 ⟨rfl, h2⟩
        replace g1 := g1.trans h2; clear h2 hb
        have hb := Rv.ibox2 g1
        go_wp2_with fail
        refine (hF _ (ht.gr (Rv.drop2 g1))).mono ?_
        rintro e w3 ⟨rfl, h2⟩
        replace g1 := g1.trans h2; clear h2 hb
        have hb := Rv.ibox2 g1
        go_wp2_with fail
        try (go_region; go_wp2_with fail)
        go_ret
        exact ⟨rfl, by first | exact Rv.drop2 g1 | exact (Rv.drop2 g1).drew⟩
    · have hF := fun w ht => Encode_bad k w ht hk gk
      generalize Rv.enc i = E at *
      go_enter Tryd.func7, Tryd.ntmps7
      go_wp2_with fail
      refine (awake5_c _ (ht.gr (Rv.drop2 g1)) (hn.gr (Rv.drop2 g1))).mono ?_
      rintro e w1 ⟨rfl, h2⟩
      replace g1 := g1.trans h2; clear h2
      have hb := Rv.ibox2 g1
      go_wp2_with fail
      refine (hE _ (ht.gr (Rv.drop2 g1))).mono ?_
      rintro e w2 ⟨rfl, h2⟩
      replace g1 := g1.trans h2; clear h2 hb
      have hb := Rv.ibox2 g1
      go_wp2_with fail
      refine (hF _ (ht.gr (Rv.drop2 g1))).mono ?_
      rintro e w3 ⟨rfl, h2⟩
      replace g1 := g1.trans h2; clear h2 hb
      have hb := Rv.ibox2 g1
      go_wp2_with fail
      try (go_region; go_wp2_with fail)
      go_ret
      exact ⟨rfl, by first | exact Rv.drop2 g1 | exact (Rv.drop2 g1).drew⟩
  · have hE := fun w ht => Encode_bad i w ht hi gi
    by_cases gk : Rv.good k
    · have hF := fun w ht => Encode_good k w ht hk gk
      generalize Rv.enc k = E at *
      go_enter Tryd.func7, Tryd.ntmps7
      go_wp2_with fail
      refine (awake5_c _ (ht.gr (Rv.drop2 g1)) (hn.gr (Rv.drop2 g1))).mono ?_
      rintro e w1 ⟨rfl, h2⟩
      replace g1 := g1.trans h2; clear h2
      have hb := Rv.ibox2 g1
      go_wp2_with fail
      refine (hE _ (ht.gr (Rv.drop2 g1))).mono ?_
      rintro e w2 ⟨rfl, h2⟩
      replace g1 := g1.trans h2; clear h2 hb
      have hb := Rv.ibox2 g1
      go_wp2_with fail
      refine (hF _ (ht.gr (Rv.drop2 g1))).mono ?_
      rintro e w3 ⟨rfl, h2⟩
      replace g1 := g1.trans h2; clear h2 hb
      have hb := Rv.ibox2 g1
      go_wp2_with fail
      try (go_region; go_wp2_with fail)
      go_ret
      exact ⟨rfl, by first | exact Rv.drop2 g1 | exact (Rv.drop2 g1).drew⟩
    · have hF := fun w ht => Encode_bad k w ht hk gk
      go_enter Tryd.func7, Tryd.ntmps7
      go_wp2_with fail
      refine (awake5_c _ (ht.gr (Rv.drop2 g1)) (hn.gr (Rv.drop2 g1))).mono ?_
      rintro e w1 ⟨rfl, h2⟩
      replace g1 := g1.trans h2; clear h2
      have hb := Rv.ibox2 g1
      go_wp2_with fail
      refine (hE _ (ht.gr (Rv.drop2 g1))).mono ?_
      rintro e w2 ⟨rfl, h2⟩
      replace g1 := g1.trans h2; clear h2 hb
      have hb := Rv.ibox2 g1
      go_wp2_with fail
      refine (hF _ (ht.gr (Rv.drop2 g1))).mono ?_
      rintro e w3 ⟨rfl, h2⟩
      replace g1 := g1.trans h2; clear h2 hb
      have hb := Rv.ibox2 g1
      go_wp2_with fail
      try (go_region; go_wp2_with fail)
      go_ret
      exact ⟨rfl, by first | exact Rv.drop2 g1 | exact (Rv.drop2 g1).drew⟩
  end Go.Proofs.YtfemillfcnhohaaDoor
