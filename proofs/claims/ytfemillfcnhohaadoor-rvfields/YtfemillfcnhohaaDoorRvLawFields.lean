/- LAYER 5's law RvFields. -/
import Derived.Test.YtfemillfcnhohaaDoorRvLaws
import Derived.Deep.RegionHeld3
namespace Go.Proofs.YtfemillfcnhohaaDoor
open Go.ChangeShapes Go.WideShapes Go.ChangeAt Go.RowKit

theorem Rv.fo3 : ∀ n, n < 46 → 0 < n → Rv.foN n % 4 = 3 := by decide +kernel
/-- The fields of a good instruction's word. -/
theorem Rv.enc_low {i : Rv.Ins} (g : Rv.good i) (hm : -2147483648 ≤ i.imm ∧ i.imm < 2147483648) (h46 : i.op < 46) : bits .and .u32 (Rv.enc i) 3 = 3 := by
  have hu := Rv.enc_U32 g.1
  have hd := Rv.dec_enc g hm
  have ho := Rv.dec_op (Rv.enc i)
  rw [hd] at ho
  have hop := g.1
  obtain ⟨n, hn⟩ := Int.eq_ofNat_of_zero_le (show 0 ≤ i.op by omega)
  have q := (Rv.opI_inv hu (n := n) (by omega) (by omega) (by rw [← ho]; exact hn)).1
  have := Rv.fo3 n (by omega) (by omega)
  rw [show (3 : Int) = 2 ^ 2 - 1 from rfl, Rv.andm hu.1 hu.2 2 (by decide)]
  omega
theorem Rv.enc_rd {i : Rv.Ins} (g : Rv.good i) (hm : -2147483648 ≤ i.imm ∧ i.imm < 2147483648) (h : Rv.lay i.op = 1 ∨ Rv.lay i.op = 2 ∨ Rv.lay i.op = 5 ∨ Rv.lay i.op = 6 ∨ Rv.lay i.op = 7) : bits .and .u32 (Rv.enc i / 128) 31 = i.rd := by
  have hu := Rv.enc_U32 g.1
  obtain ⟨u0, u1⟩ := hu
  have hd := Rv.dec_enc g hm
  have ho := Rv.dec_op (Rv.enc i)
  rw [hd] at ho
  rw [show (31 : Int) = 2 ^ 5 - 1 from rfl, Rv.andm (by omega) (by omega) 5 (by decide)]
  show Rv.fd (Rv.enc i) = i.rd
  rw [ho] at h
  conv => rhs; rw [← hd]
  rcases h with l | l | l | l | l
  · rw [Rv.dec_1 l]
  · rw [Rv.dec_2 l]
  · rw [Rv.dec_5 l]
  · rw [Rv.dec_6 l]
  · rw [Rv.dec_7 l]
theorem Rv.enc_rs1 {i : Rv.Ins} (g : Rv.good i) (hm : -2147483648 ≤ i.imm ∧ i.imm < 2147483648) (h : Rv.lay i.op = 3 ∨ Rv.lay i.op = 4 ∨ Rv.lay i.op = 5 ∨ Rv.lay i.op = 6 ∨ Rv.lay i.op = 7) : bits .and .u32 (Rv.enc i / 32768) 31 = i.rs1 := by
  have hu := Rv.enc_U32 g.1
  obtain ⟨u0, u1⟩ := hu
  have hd := Rv.dec_enc g hm
  have ho := Rv.dec_op (Rv.enc i)
  rw [hd] at ho
  rw [show (31 : Int) = 2 ^ 5 - 1 from rfl, Rv.andm (by omega) (by omega) 5 (by decide)]
  show Rv.fs (Rv.enc i) = i.rs1
  rw [ho] at h
  conv => rhs; rw [← hd]
  rcases h with l | l | l | l | l
  · rw [Rv.dec_3 l]
  · rw [Rv.dec_4 l]
  · rw [Rv.dec_5 l]
  · rw [Rv.dec_6 l]
  · rw [Rv.dec_7 l]
theorem Rv.enc_rs2 {i : Rv.Ins} (g : Rv.good i) (hm : -2147483648 ≤ i.imm ∧ i.imm < 2147483648) (h : Rv.lay i.op = 3 ∨ Rv.lay i.op = 4 ∨ Rv.lay i.op = 7) : bits .and .u32 (Rv.enc i / 1048576) 31 = i.rs2 := by
  have hu := Rv.enc_U32 g.1
  obtain ⟨u0, u1⟩ := hu
  have hd := Rv.dec_enc g hm
  have ho := Rv.dec_op (Rv.enc i)
  rw [hd] at ho
  rw [show (31 : Int) = 2 ^ 5 - 1 from rfl, Rv.andm (by omega) (by omega) 5 (by decide)]
  show Rv.ft (Rv.enc i) = i.rs2
  rw [ho] at h
  conv => rhs; rw [← hd]
  rcases h with l | l | l
  · rw [Rv.dec_3 l]
  · rw [Rv.dec_4 l]
  · rw [Rv.dec_7 l]

set_option maxHeartbeats 1600000 in
theorem RvFields_w (i : Rv.Ins) (hm : -2147483648 ≤ i.imm ∧ i.imm < 2147483648) (w : World) (ht : Tabs w) (hn : NTab w) :
    Calls Tryd.prog 10 #[Rv.iv i] w fun e w' => e = .returned (.bool true) ∧ Gr w w' := by
  by_cases g : Rv.good i
  · have hE := fun w ht => Encode_good i w ht hm g
    have l3 := Rv.enc_low g hm
    have ed := Rv.enc_rd g hm
    have es := Rv.enc_rs1 g hm
    have et := Rv.enc_rs2 g hm
    have hu := Rv.enc_U32 g.1
    have hop := g.1
    have hreg : Rv.reg i.rd ∧ Rv.reg i.rs1 ∧ Rv.reg i.rs2 := ⟨g.2.1, g.2.2.1, g.2.2.2.1⟩
    generalize Rv.enc i = E at *
    obtain ⟨op, rd, rs1, rs2, imm⟩ := i
    unfold Rv.reg at hreg
    dsimp only at *
    have g1 := Gr.refl (w.alloc (.cells #[.int .i64 op, .int .i64 rd, .int .i64 rs1, .int .i64 rs2, .int .i32 imm] 28))
    clear g hm
    have r0 : 0 ≤ rd := hreg.1.1
    have r1 : rd < 32 := hreg.1.2
    have s0 : 0 ≤ rs1 := hreg.2.1.1
    have s1 : rs1 < 32 := hreg.2.1.2
    have t0 : 0 ≤ rs2 := hreg.2.2.1
    have t1 : rs2 < 32 := hreg.2.2.2
    obtain ⟨u0, u1⟩ := hu
    clear hreg
    rcases Rv.lay_cases op with ⟨l, c⟩ | ⟨l, c⟩ | ⟨l, c⟩ | ⟨l, c⟩ | ⟨l, c⟩ | ⟨l, c⟩ | ⟨l, c⟩ | ⟨l, c⟩
    · replace l3 := l3 (by omega)
      replace ed := ed (by omega)
      clear es
      clear et
      clear l hop
      rcases c with rfl | rfl
      all_goals
        unfold Rv.iv; dsimp only
        go_enter Tryd.func10, Tryd.ntmps10
        go_wp2_with fail
        refine (awake5_c _ (ht.gr (Rv.dropGr g1)) (hn.gr (Rv.dropGr g1))).mono ?_
        rintro e w1 ⟨rfl, h2⟩
        replace g1 := g1.trans h2; clear h2
        have hb := Rv.ibox (i := ⟨_, rd, rs1, rs2, imm⟩) g1
        go_wp2_with fail
        refine (hE _ (ht.gr (Rv.dropGr g1))).mono ?_
        rintro e w2 ⟨rfl, h2⟩
        replace g1 := g1.trans h2; clear h2 hb
        have hb := Rv.ibox (i := ⟨_, rd, rs1, rs2, imm⟩) g1
        go_wp2_with fail
        try (go_region; go_wp2_with fail)
        try (go_region; go_wp2_with fail)
        try (go_region; go_wp2_with fail)
        go_ret
        exact ⟨rfl, by first | exact Rv.dropGr g1 | exact (Rv.dropGr g1).drew | exact (Rv.dropGr g1).drew.drew | exact (Rv.dropGr g1).drew.drew.drew⟩
    · replace l3 := l3 (by omega)
      replace ed := ed (by omega)
      clear es
      clear et
      clear l hop
      subst c
      unfold Rv.iv; dsimp only
      go_enter Tryd.func10, Tryd.ntmps10
      go_wp2_with fail
      refine (awake5_c _ (ht.gr (Rv.dropGr g1)) (hn.gr (Rv.dropGr g1))).mono ?_
      rintro e w1 ⟨rfl, h2⟩
      replace g1 := g1.trans h2; clear h2
      have hb := Rv.ibox (i := ⟨_, rd, rs1, rs2, imm⟩) g1
      go_wp2_with fail
      refine (hE _ (ht.gr (Rv.dropGr g1))).mono ?_
      rintro e w2 ⟨rfl, h2⟩
      replace g1 := g1.trans h2; clear h2 hb
      have hb := Rv.ibox (i := ⟨_, rd, rs1, rs2, imm⟩) g1
      go_wp2_with fail
      try (go_region; go_wp2_with fail)
      try (go_region; go_wp2_with fail)
      try (go_region; go_wp2_with fail)
      go_ret
      exact ⟨rfl, by first | exact Rv.dropGr g1 | exact (Rv.dropGr g1).drew | exact (Rv.dropGr g1).drew.drew | exact (Rv.dropGr g1).drew.drew.drew⟩
    · replace l3 := l3 (by omega)
      clear ed
      replace es := es (by omega)
      replace et := et (by omega)
      clear l hop
      obtain ⟨c0, c1⟩ := c
      unfold Rv.iv; dsimp only
      go_enter Tryd.func10, Tryd.ntmps10
      go_wp2_with fail
      refine (awake5_c _ (ht.gr (Rv.dropGr g1)) (hn.gr (Rv.dropGr g1))).mono ?_
      rintro e w1 ⟨rfl, h2⟩
      replace g1 := g1.trans h2; clear h2
      have hb := Rv.ibox (i := ⟨_, rd, rs1, rs2, imm⟩) g1
      go_wp2_with fail
      refine (hE _ (ht.gr (Rv.dropGr g1))).mono ?_
      rintro e w2 ⟨rfl, h2⟩
      replace g1 := g1.trans h2; clear h2 hb
      have hb := Rv.ibox (i := ⟨_, rd, rs1, rs2, imm⟩) g1
      go_wp2_with fail
      try (go_region; go_wp2_with fail)
      try (go_region; go_wp2_with fail)
      try (go_region; go_wp2_with fail)
      go_ret
      exact ⟨rfl, by first | exact Rv.dropGr g1 | exact (Rv.dropGr g1).drew | exact (Rv.dropGr g1).drew.drew | exact (Rv.dropGr g1).drew.drew.drew⟩
    · replace l3 := l3 (by omega)
      clear ed
      replace es := es (by omega)
      replace et := et (by omega)
      clear l hop
      obtain ⟨c0, c1⟩ := c
      unfold Rv.iv; dsimp only
      go_enter Tryd.func10, Tryd.ntmps10
      go_wp2_with fail
      refine (awake5_c _ (ht.gr (Rv.dropGr g1)) (hn.gr (Rv.dropGr g1))).mono ?_
      rintro e w1 ⟨rfl, h2⟩
      replace g1 := g1.trans h2; clear h2
      have hb := Rv.ibox (i := ⟨_, rd, rs1, rs2, imm⟩) g1
      go_wp2_with fail
      refine (hE _ (ht.gr (Rv.dropGr g1))).mono ?_
      rintro e w2 ⟨rfl, h2⟩
      replace g1 := g1.trans h2; clear h2 hb
      have hb := Rv.ibox (i := ⟨_, rd, rs1, rs2, imm⟩) g1
      go_wp2_with fail
      try (go_region; go_wp2_with fail)
      try (go_region; go_wp2_with fail)
      try (go_region; go_wp2_with fail)
      go_ret
      exact ⟨rfl, by first | exact Rv.dropGr g1 | exact (Rv.dropGr g1).drew | exact (Rv.dropGr g1).drew.drew | exact (Rv.dropGr g1).drew.drew.drew⟩
    · replace l3 := l3 (by omega)
      replace ed := ed (by omega)
      replace es := es (by omega)
      clear et
      clear l hop
      rcases c with rfl | ⟨c0, c1⟩ | ⟨c0, c1⟩
      all_goals
        unfold Rv.iv; dsimp only
        go_enter Tryd.func10, Tryd.ntmps10
        go_wp2_with fail
        refine (awake5_c _ (ht.gr (Rv.dropGr g1)) (hn.gr (Rv.dropGr g1))).mono ?_
        rintro e w1 ⟨rfl, h2⟩
        replace g1 := g1.trans h2; clear h2
        have hb := Rv.ibox (i := ⟨_, rd, rs1, rs2, imm⟩) g1
        go_wp2_with fail
        refine (hE _ (ht.gr (Rv.dropGr g1))).mono ?_
        rintro e w2 ⟨rfl, h2⟩
        replace g1 := g1.trans h2; clear h2 hb
        have hb := Rv.ibox (i := ⟨_, rd, rs1, rs2, imm⟩) g1
        go_wp2_with fail
        try (go_region; go_wp2_with fail)
        try (go_region; go_wp2_with fail)
        try (go_region; go_wp2_with fail)
        go_ret
        exact ⟨rfl, by first | exact Rv.dropGr g1 | exact (Rv.dropGr g1).drew | exact (Rv.dropGr g1).drew.drew | exact (Rv.dropGr g1).drew.drew.drew⟩
    · replace l3 := l3 (by omega)
      replace ed := ed (by omega)
      replace es := es (by omega)
      clear et
      clear l hop
      obtain ⟨c0, c1⟩ := c
      unfold Rv.iv; dsimp only
      go_enter Tryd.func10, Tryd.ntmps10
      go_wp2_with fail
      refine (awake5_c _ (ht.gr (Rv.dropGr g1)) (hn.gr (Rv.dropGr g1))).mono ?_
      rintro e w1 ⟨rfl, h2⟩
      replace g1 := g1.trans h2; clear h2
      have hb := Rv.ibox (i := ⟨_, rd, rs1, rs2, imm⟩) g1
      go_wp2_with fail
      refine (hE _ (ht.gr (Rv.dropGr g1))).mono ?_
      rintro e w2 ⟨rfl, h2⟩
      replace g1 := g1.trans h2; clear h2 hb
      have hb := Rv.ibox (i := ⟨_, rd, rs1, rs2, imm⟩) g1
      go_wp2_with fail
      try (go_region; go_wp2_with fail)
      try (go_region; go_wp2_with fail)
      try (go_region; go_wp2_with fail)
      go_ret
      exact ⟨rfl, by first | exact Rv.dropGr g1 | exact (Rv.dropGr g1).drew | exact (Rv.dropGr g1).drew.drew | exact (Rv.dropGr g1).drew.drew.drew⟩
    · replace l3 := l3 (by omega)
      replace ed := ed (by omega)
      replace es := es (by omega)
      replace et := et (by omega)
      clear l hop
      obtain ⟨c0, c1⟩ := c
      unfold Rv.iv; dsimp only
      go_enter Tryd.func10, Tryd.ntmps10
      go_wp2_with fail
      refine (awake5_c _ (ht.gr (Rv.dropGr g1)) (hn.gr (Rv.dropGr g1))).mono ?_
      rintro e w1 ⟨rfl, h2⟩
      replace g1 := g1.trans h2; clear h2
      have hb := Rv.ibox (i := ⟨_, rd, rs1, rs2, imm⟩) g1
      go_wp2_with fail
      refine (hE _ (ht.gr (Rv.dropGr g1))).mono ?_
      rintro e w2 ⟨rfl, h2⟩
      replace g1 := g1.trans h2; clear h2 hb
      have hb := Rv.ibox (i := ⟨_, rd, rs1, rs2, imm⟩) g1
      go_wp2_with fail
      try (go_region; go_wp2_with fail)
      try (go_region; go_wp2_with fail)
      try (go_region; go_wp2_with fail)
      go_ret
      exact ⟨rfl, by first | exact Rv.dropGr g1 | exact (Rv.dropGr g1).drew | exact (Rv.dropGr g1).drew.drew | exact (Rv.dropGr g1).drew.drew.drew⟩
    · have c0 : 46 ≤ op := by omega
      clear l3 ed es et l c hop
      unfold Rv.iv; dsimp only
      go_enter Tryd.func10, Tryd.ntmps10
      go_wp2_with fail
      refine (awake5_c _ (ht.gr (Rv.dropGr g1)) (hn.gr (Rv.dropGr g1))).mono ?_
      rintro e w1 ⟨rfl, h2⟩
      replace g1 := g1.trans h2; clear h2
      have hb := Rv.ibox (i := ⟨_, rd, rs1, rs2, imm⟩) g1
      go_wp2_with fail
      refine (hE _ (ht.gr (Rv.dropGr g1))).mono ?_
      rintro e w2 ⟨rfl, h2⟩
      replace g1 := g1.trans h2; clear h2 hb
      have hb := Rv.ibox (i := ⟨_, rd, rs1, rs2, imm⟩) g1
      go_wp2_with fail
      try (go_region; go_wp2_with fail)
      try (go_region; go_wp2_with fail)
      try (go_region; go_wp2_with fail)
      go_ret
      exact ⟨rfl, by first | exact Rv.dropGr g1 | exact (Rv.dropGr g1).drew | exact (Rv.dropGr g1).drew.drew | exact (Rv.dropGr g1).drew.drew.drew⟩
  · have hE := fun w ht => Encode_bad i w ht hm g
    obtain ⟨op, rd, rs1, rs2, imm⟩ := i
    have g1 := Gr.refl (w.alloc (.cells #[.int .i64 op, .int .i64 rd, .int .i64 rs1, .int .i64 rs2, .int .i32 imm] 28))
    clear g
    unfold Rv.iv; dsimp only
    go_enter Tryd.func10, Tryd.ntmps10
    go_wp2_with fail
    refine (awake5_c _ (ht.gr (Rv.dropGr g1)) (hn.gr (Rv.dropGr g1))).mono ?_
    rintro e w1 ⟨rfl, h2⟩
    replace g1 := g1.trans h2; clear h2
    have hb := Rv.ibox (i := ⟨_, rd, rs1, rs2, imm⟩) g1
    go_wp2_with fail
    refine (hE _ (ht.gr (Rv.dropGr g1))).mono ?_
    rintro e w2 ⟨rfl, h2⟩
    replace g1 := g1.trans h2; clear h2 hb
    have hb := Rv.ibox (i := ⟨_, rd, rs1, rs2, imm⟩) g1
    go_wp2_with fail
    try (go_region; go_wp2_with fail)
    try (go_region; go_wp2_with fail)
    try (go_region; go_wp2_with fail)
    go_ret
    exact ⟨rfl, by first | exact Rv.dropGr g1 | exact (Rv.dropGr g1).drew | exact (Rv.dropGr g1).drew.drew | exact (Rv.dropGr g1).drew.drew.drew⟩
end Go.Proofs.YtfemillfcnhohaaDoor
