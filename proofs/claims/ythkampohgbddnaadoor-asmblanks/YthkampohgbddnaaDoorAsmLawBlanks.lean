/- LAYER 6's law AsmBlanks. -/
import Derived.Test.YthkampohgbddnaaDoorAsmLawBack
import Derived.Test.YthkampohgbddnaaDoorAsmArgs
import Derived.Test.YthkampohgbddnaaDoorAsmSl
namespace Go.Proofs.YthkampohgbddnaaDoor
open Go.ChangeShapes Go.WideShapes Go.ChangeAt Go.RowKit

/-- What the law lays for a byte: its gap on both sides where it is a blank (32), a comma, a bracket. -/
def Asm.gapped (c : UInt8) : Bool := c == 32 || c == 44 || c == 40 || c == 41
def Asm.piece (g : List UInt8) (c : UInt8) : List UInt8 := if Asm.gapped c then g ++ c :: g else [c]
def Asm.sprd (g : Nat → List UInt8) : Nat → List UInt8 → List UInt8
  | _, [] => []
  | k, c :: l => Asm.piece (g k) c ++ Asm.sprd g (k + 1) l
theorem Asm.gapped_st {c : UInt8} (h : Asm.gapped c = true) : Asm.st c = true := by
  simp [Asm.gapped] at h
  rcases h with ((rfl | rfl) | rfl) | rfl <;> decide
theorem Asm.tokA_sprd (g : Nat → List UInt8) (hg : ∀ k, ∀ b ∈ g k, Asm.bl b = true) (l : List UInt8) : ∀ k cur, Asm.tokA cur (Asm.sprd g k l) = Asm.tokA cur l := by
  induction l with
  | nil => intro k cur; rfl
  | cons c l ih =>
    intro k cur
    cases hc : Asm.gapped c
    · simp only [Asm.sprd, Asm.piece, hc, Bool.false_eq_true, if_false, List.cons_append, List.nil_append, Asm.tokA]
      rw [ih, ih]
    · simp only [Asm.sprd, Asm.piece, hc, if_true, List.append_assoc, List.cons_append]
      exact Asm.tokA_gap c (Asm.gapped_st hc) (g k) (g k) l cur (hg k) (hg k) _ (ih _ _)
theorem Asm.sprd_snoc (g : Nat → List UInt8) (l : List UInt8) (c : UInt8) : ∀ k, Asm.sprd g k (l ++ [c]) = Asm.sprd g k l ++ Asm.piece (g (k + l.length)) c := by
  induction l with
  | nil => intro k; simp [Asm.sprd]
  | cons b l ih => intro k; simp only [List.cons_append, Asm.sprd, ih, List.append_assoc, List.length_cons]; rw [show k + 1 + l.length = k + (l.length + 1) by omega]
theorem Asm.sprd_len (g : Nat → List UInt8) (hg : ∀ k, (g k).length ≤ 3) (l : List UInt8) : ∀ k, (Asm.sprd g k l).length ≤ 7 * l.length := by
  induction l with
  | nil => intro k; simp [Asm.sprd]
  | cons c l ih =>
    intro k
    have h1 := ih (k + 1)
    have h2 := hg k
    simp only [Asm.sprd, List.length_append, List.length_cons, Asm.piece]
    split
    · simp; omega
    · simp; omega
/-- How many blanks the law lays about byte k. -/
def Asm.cnt (n : Nat) (xs : Nat → Int) (k : Nat) : Nat := if k < n ∧ 0 ≤ xs k then (xs k % 4).toNat else 0
def Asm.gap (n : Nat) (xs : Nat → Int) (k : Nat) : List UInt8 := ([32, 32, 32] : List UInt8).take (Asm.cnt n xs k)
theorem Asm.cnt_lt (n : Nat) (xs : Nat → Int) (k : Nat) : Asm.cnt n xs k ≤ 3 := by unfold Asm.cnt; split <;> omega
theorem Asm.gap_bl (n : Nat) (xs : Nat → Int) (k : Nat) : ∀ b ∈ Asm.gap n xs k, Asm.bl b = true := by
  intro b hb
  have := List.mem_of_mem_take hb
  simp at this; subst this; rfl
theorem Asm.parse_sprd {i : Rv.Ins} (h : Rv.good i) (hm : -2147483648 ≤ i.imm ∧ i.imm < 2147483648) (g : Nat → List UInt8) (hg : ∀ k, ∀ b ∈ g k, Asm.bl b = true) :
    Asm.parse (Asm.tok (9 :: 32 :: (Asm.sprd g 0 (Asm.gtext i) ++ [32]))) = (i, 0) := by
  have e : Asm.tok (9 :: 32 :: (Asm.sprd g 0 (Asm.gtext i) ++ [32])) = Asm.tok (Asm.gtext i) := by
    rw [Asm.tok_bl _ (by decide), Asm.tok_bl _ (by decide)]
    have h1 : Asm.sprd g 0 (Asm.gtext i) ++ [32] = Asm.sprd (fun k => if k = (Asm.gtext i).length then [] else g k) 0 (Asm.gtext i ++ [32]) := by
      rw [Asm.sprd_snoc]
      have h2 : ∀ (l : List UInt8) (k m : Nat), k + l.length ≤ m → Asm.sprd (fun k => if k = m then [] else g k) k l = Asm.sprd g k l := by
        intro l
        induction l with
        | nil => intro k m _; rfl
        | cons c l ih => intro k m hk; simp at hk; simp only [Asm.sprd]; rw [ih (k + 1) m (by omega), if_neg (by omega)]
      rw [h2 _ _ _ (by omega)]
      simp [Asm.piece]
    rw [h1]
    show Asm.tokA [] _ = _
    rw [Asm.tokA_sprd _ (fun k b hb => by split at hb; simp at hb; exact hg k b hb)]
    have h3 : ∀ (l cur : List UInt8), Asm.tokA cur (l ++ [32]) = Asm.tokA cur l := by
      intro l
      induction l with
      | nil => intro cur; simp [Asm.tokA, Asm.bl, Asm.fin_nil]
      | cons c l ih => intro cur; simp only [List.cons_append, Asm.tokA, ih]
    exact h3 _ _
  rw [e, Asm.parse_gtext h hm]
theorem Asm.about (X : List UInt8) : (⟨#[9, 32]⟩ : ByteArray) ++ bs X ++ ⟨#[32]⟩ = bs (9 :: 32 :: (X ++ [32])) := by
  show bs [9, 32] ++ bs X ++ bs [32] = _
  rw [bs_app, bs_app]; rfl
theorem Asm.and3 (n : Int) : bits .and .i64 n 3 = n % 4 := by
  have h3 : (BitVec.ofInt 64 3).toNat = 2 ^ 2 - 1 := by decide
  have key : (BitVec.ofInt 64 n &&& BitVec.ofInt 64 3).toNat = (n % ((2 ^ 64 : Nat) : Int)).toNat % 2 ^ 2 := by
    rw [BitVec.toNat_and, BitVec.toNat_ofInt, h3, Nat.and_two_pow_sub_one_eq_mod]
  show IntKind.i64.wrap ((BitVec.ofInt 64 n &&& BitVec.ofInt 64 3).toNat : Nat) = n % 4
  rw [key, IntKind.wrap_i64]
  omega
theorem Asm.u8_beq (c k : UInt8) : ((c.toNat : Int) == k.toNat) = (c == k) := by
  rw [Bool.eq_iff_iff]; simp
  constructor
  · intro h; exact UInt8.toNat_inj.1 (by omega)
  · rintro rfl; rfl
theorem Asm.gapped_cases (c : UInt8) : (Asm.gapped c = true ∧ (c = 32 ∨ c = 44 ∨ c = 40 ∨ c = 41)) ∨ (Asm.gapped c = false ∧ ((c.toNat : Int) == 32) = false ∧ ((c.toNat : Int) == 44) = false ∧ ((c.toNat : Int) == 40) = false ∧ ((c.toNat : Int) == 41) = false) := by
  have e1 := Asm.u8_beq c 32
  have e2 := Asm.u8_beq c 44
  have e3 := Asm.u8_beq c 40
  have e4 := Asm.u8_beq c 41
  cases h : Asm.gapped c
  · right
    simp only [Asm.gapped, Bool.or_eq_false_iff] at h
    exact ⟨rfl, e1.trans h.1.1.1, e2.trans h.1.1.2, e3.trans h.1.2, e4.trans h.2⟩
  · left
    simp [Asm.gapped] at h
    exact ⟨rfl, by rcases h with ((h | h) | h) | h <;> simp [h]⟩
set_option maxHeartbeats 4000000 in
set_option maxRecDepth 100000 in
theorem AsmBlanks_w (i : Rv.Ins) (hm : -2147483648 ≤ i.imm ∧ i.imm < 2147483648) (v : Value) (w : World) (hv : NArgs w v) (ha : All6 w) :
    Calls Tryd.prog 7 #[Rv.iv i, v] w fun e w' => e = .returned (.bool true) ∧ Bw w w' := by
  obtain ⟨n, xs, q, cap, rfl, hnc, hcap, hxb, hcell⟩ := hv
  have hib := IBox.new w i 23
  have hb0 := (Bw.refl w).alloc (.cells #[.int .i64 i.op, .int .i64 i.rd, .int .i64 i.rs1, .int .i64 i.rs2, .int .i32 i.imm] 23)
  by_cases hg : Rv.good i
  · have hE := fun w h => Encode_good i w (All6.t h) hm hg
    have hT := fun w h => Text_good i w (All6.t h) h.n h.p hm hg
    have hL := Asm.gtext_len hg hm
    have hR := Asm.parse_sprd hg hm (Asm.gap n xs) (Asm.gap_bl n xs)
    have hsl := Asm.sprd_len (Asm.gap n xs) (fun k => by unfold Asm.gap; rw [List.length_take]; simp; have := Asm.cnt_lt n xs k; omega)
    have hP := fun w h => Parse_c (9 :: 32 :: (Asm.sprd (Asm.gap n xs) 0 (Asm.gtext i) ++ [32])) w (by have := hsl (Asm.gtext i) 0; simp; omega) (All6.t h) h.n
    rw [hR] at hP
    have hq := Rv.eqlInsT i
    generalize Asm.gtext i = L at *
    clear hR
    unfold Rv.iv at *
    by_cases h40 : 40 < n
    · have h40i : (40 : Int) < n := by omega
      go_enter Tryd.func7, Tryd.ntmps7
      go_wp2_with fail
      refine (awake6_c _ (ha.bw hb0)).mono ?_
      rintro e w1 ⟨rfl, hb1⟩
      obtain ⟨i0, i1, i2, i3, i4⟩ := hib.bw hb1
      replace hb1 := hb0.trans hb1
      go_wp2_with fail
      refine (hE _ (ha.bw hb1)).mono ?_
      rintro e w2 ⟨rfl, g2⟩
      go_wp2_with fail
      go_ret
      exact ⟨rfl, hb1.gr g2⟩
    · have h40i : (n : Int) ≤ 40 := by omega
      go_enter Tryd.func7, Tryd.ntmps7
      go_wp2_with fail
      refine (awake6_c _ (ha.bw hb0)).mono ?_
      rintro e w1 ⟨rfl, hb1⟩
      obtain ⟨i0, i1, i2, i3, i4⟩ := hib.bw hb1
      replace hb1 := hb0.trans hb1
      go_wp2_with fail
      refine (hE _ (ha.bw hb1)).mono ?_
      rintro e w2 ⟨rfl, g2⟩
      have hb2 := hb1.gr g2
      obtain ⟨j0, j1, j2, j3, j4⟩ := (show IBox w1 w.heap.size i from ⟨i0, i1, i2, i3, i4⟩).bw g2.bw
      clear i0 i1 i2 i3 i4
      go_wp2_with fail
      refine (hT _ (ha.bw hb2)).mono ?_
      rintro e w3 ⟨rfl, hb3⟩
      have hib3 := (show IBox w2 w.heap.size i from ⟨j0, j1, j2, j3, j4⟩).bw hb3
      clear j0 j1 j2 j3 j4
      replace hb3 := hb2.trans hb3
      clear hE hT
      go_wp2_with fail
      go_loopw [8, 9] (fun t s wr => wr = w3 ∧ ∃ k : Nat, s = .int .i64 k ∧ k ≤ L.length ∧ t = .string (bs (Asm.sprd (Asm.gap n xs) 0 (L.take k)))) (fun _ s _ => L.length - (intOf s).toNat)
      case atStart => exact ⟨rfl, 0, rfl, by omega, rfl⟩
      case round =>
        obtain ⟨rfl, k, rfl, hk, rfl⟩ := hrel
        by_cases hke : k = L.length
        · subst hke
          rw [List.take_length]
          have hlen := hsl L 0
          go_wp2_with fail
          rw [Asm.about]
          refine (hP _ (ha.bw hb3)).mono ?_
          rintro e w4 ⟨rfl, hb4⟩
          have qq := fun o => hib3.bw (hb4.alloc o)
          have r0 := fun o => (qq o).c0
          have r1 := fun o => (qq o).c1
          have r2 := fun o => (qq o).c2
          have r3 := fun o => (qq o).c3
          have r4 := fun o => (qq o).c4
          clear qq
          go_wp2_with fail
          go_ret
          exact ⟨rfl, (hb3.trans hb4).alloc _⟩
        · have hkl : k < L.length := by omega
          have hki : (k : Int) < (L.length : Int) := by omega
          obtain ⟨c, hc⟩ : ∃ c, L[k]? = some c := ⟨L[k], by simp⟩
          have hgb := bs_get L k c hc
          have HC : Hid _ := hc
          have hl1 := hsl (L.take k) 0
          rw [List.length_take] at hl1
          have hl2 : (Asm.sprd (Asm.gap n xs) 0 (L.take k)).length ≤ 560 := by omega
          have HS : Hid (Asm.sprd (Asm.gap n xs) 0 (L.take (k + 1)) = Asm.sprd (Asm.gap n xs) 0 (L.take k) ++ Asm.piece (Asm.gap n xs k) c) := by
            show _ = _
            rw [Asm.all_take hc, Asm.sprd_snoc, List.length_take, Nat.min_eq_left (by omega), Nat.zero_add]
          generalize Asm.sprd (Asm.gap n xs) 0 (L.take k) = T at *
          clear hc hl1 hsl hP hq hib3
          have hcn := Asm.cnt_lt n xs k
          have HG : Hid (Asm.gap n xs k = ([32, 32, 32] : List UInt8).take (Asm.cnt n xs k)) := rfl
          have hcc : (k < n ∧ 0 ≤ xs k ∧ Asm.cnt n xs k = (xs k % 4).toNat) ∨ (k < n ∧ xs k < 0 ∧ Asm.cnt n xs k = 0) ∨ (n ≤ k ∧ Asm.cnt n xs k = 0) := by
            unfold Asm.cnt; split <;> omega
          have hpc := Asm.gapped_cases c
          generalize Asm.cnt n xs k = m at *
          generalize Asm.gap n xs k = g at *
          have hmi : (m : Int) ≤ 3 := by omega
          have hge : (⟨#[32, 32, 32]⟩ : ByteArray).extract 0 m = bs g := by rw [show g = _ from HG]; exact bs_take [32, 32, 32] m
          have hgl : g.length ≤ 3 := by rw [show g = _ from HG, List.length_take]; omega
          have hsl2 := fun w => run_slice_one (show L[k]? = some c from HC) w
          have HP1 : Hid (Asm.gapped c = true → bs T ++ bs g ++ bs [c] ++ bs g = bs (T ++ Asm.piece g c)) := fun h => by rw [bs_app, bs_app, bs_app, Asm.piece, if_pos h]; simp
          have HP2 : Hid (Asm.gapped c = false → bs T ++ bs [c] = bs (T ++ Asm.piece g c)) := fun h => by rw [bs_app, Asm.piece, if_neg (by simp [h])]
          clear HG
          rcases hcc with ⟨hkn, hx0, he⟩ | ⟨hkn, hx0, he⟩ | ⟨hkn, he⟩
          · obtain ⟨b, o, rfl, hbl, hcl⟩ := hcell (by omega)
            have hck := hb3.keep (hcl k hkn)
            have hxk := hxb k
            generalize xs k = X at *
            have hand : bits .and .i64 X 3 = (m : Int) := by rw [Asm.and3]; omega
            have hkni : (k : Int) < (n : Int) := by omega
            clear hcl hcell hxb he
            rcases hpc with ⟨hg1, rfl | rfl | rfl | rfl⟩ | ⟨hg1, t1, t2, t3, t4⟩
            all_goals
              have HG1 : Hid _ := hg1
              clear hg1
              go_wp2_with fail
              refine ⟨⟨trivial, k + 1, by simp, by omega, ?_⟩, by simp [intOf]; omega⟩
              rw [show _ = _ from HS]
              exact congrArg Value.string (by first | exact HP1 HG1 | exact HP2 HG1)
          · obtain ⟨b, o, rfl, hbl, hcl⟩ := hcell (by omega)
            have hck := hb3.keep (hcl k hkn)
            have hxk := hxb k
            generalize xs k = X at *
            subst he
            have HE : Hid (bs g = ByteArray.empty) := hge.symm.trans rfl
            have hkni : (k : Int) < (n : Int) := by omega
            clear hcl hcell hxb
            rcases hpc with ⟨hg1, rfl | rfl | rfl | rfl⟩ | ⟨hg1, t1, t2, t3, t4⟩
            all_goals
              have HG1 : Hid _ := hg1
              clear hg1
              go_wp2_with fail
              refine ⟨⟨trivial, k + 1, by simp, by omega, ?_⟩, by simp [intOf]; omega⟩
              rw [show _ = _ from HS]
              exact congrArg Value.string (by first | exact HP2 HG1 | (have h := HP1 HG1; rw [show bs g = _ from HE, ByteArray.append_empty, ByteArray.append_empty] at h; exact h))
          · subst he
            have HE : Hid (bs g = ByteArray.empty) := hge.symm.trans rfl
            have hkni : (n : Int) ≤ (k : Int) := by omega
            clear hcell hxb
            rcases hpc with ⟨hg1, rfl | rfl | rfl | rfl⟩ | ⟨hg1, t1, t2, t3, t4⟩
            all_goals
              have HG1 : Hid _ := hg1
              clear hg1
              go_wp2_with fail
              refine ⟨⟨trivial, k + 1, by simp, by omega, ?_⟩, by simp [intOf]; omega⟩
              rw [show _ = _ from HS]
              exact congrArg Value.string (by first | exact HP2 HG1 | (have h := HP1 HG1; rw [show bs g = _ from HE, ByteArray.append_empty, ByteArray.append_empty] at h; exact h))
  · have hE := fun w h => Encode_bad i w (All6.t h) hm hg
    unfold Rv.iv at *
    go_enter Tryd.func7, Tryd.ntmps7
    go_wp2_with fail
    refine (awake6_c _ (ha.bw hb0)).mono ?_
    rintro e w1 ⟨rfl, hb1⟩
    obtain ⟨i0, i1, i2, i3, i4⟩ := hib.bw hb1
    replace hb1 := hb0.trans hb1
    go_wp2_with fail
    refine (hE _ (ha.bw hb1)).mono ?_
    rintro e w2 ⟨rfl, g2⟩
    go_wp2_with fail
    go_ret
    exact ⟨rfl, hb1.gr g2⟩
end Go.Proofs.YthkampohgbddnaaDoor
