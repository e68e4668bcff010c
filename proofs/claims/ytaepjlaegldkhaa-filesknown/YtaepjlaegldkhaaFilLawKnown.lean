/- LAYER 11's law FilesKnown. -/
import Derived.Test.YtaepjlaegldkhaaFilOne
namespace Go.Proofs.Ytaepjlaegldkhaa
open Go.ChangeShapes Go.WideShapes Go.ChangeAt Go.RowKit

/-- A feed of one file. -/
def Fil.one (name : ByteArray) (data : List Int) : Fee.Fd := ⟨[], [], [], [], [], [⟨name, data⟩]⟩
theorem Fil.one_is {w : World} {name : ByteArray} {data : List Int} {u : Value} (hu : Rd8 w u data) (h8 : B8s data) : IsFd (w.alloc (.cells #[.string name, u] 27)) (.agg #[.slice none 0 0, .slice none 0 0, .slice none 0 0, .slice none 0 0, .slice none 0 0, .slice (some ⟨w.heap.size, 0, none⟩) 1 1]) (Fil.one name data) :=
  ⟨_, _, _, _, _, _, rfl, RdR.nil _ _, RdR.nil _ _, RdR.nil _ _, RdR.nil _ _, RdR.nil _ _, ⟨[u], rfl, RdR.new (sz := 2) (n := 1) w [.string name, u] 27 rfl (by omega), fun i f v a b => by
    cases i with
    | zero => simp [Fil.one] at a b; subst a; subst b; exact hu.bw ((Bw.refl w).alloc _)
    | succ i => simp [Fil.one] at a, fun f hf => by simp [Fil.one] at hf; subst hf; exact h8⟩, ⟨by intro x hx; simp [Fil.one] at hx, by simp [Fil.one], by intro x hx; simp [Fil.one] at hx, by simp [Fil.one]⟩⟩
def Fil.k0 : Fil.St := Fil.new (Fil.one Fil.na [49, 50, 51, 52, 53])
def Fil.k1 : Fil.St := (Fil.open Fil.k0 Fil.na).2
def Fil.k2 : Fil.St := (Fil.seek Fil.k1 3 (-2) 2).2
def Fil.k3 : Fil.St := (Fil.read Fil.k2 3 9).2.2
def Fil.k4 : Fil.St := (Fil.close Fil.k3 1).2
def Fil.k5 : Fil.St := (Fil.open Fil.k4 Fil.na).2
def Fil.k6 : Fil.St := (Fil.read Fil.k5 1 3).2.2
def Fil.k7 : Fil.St := (Fil.seek Fil.k6 3 100 0).2
def Fil.k8 : Fil.St := (Fil.read Fil.k7 3 5).2.2
def Fil.opens (s : Fil.St) : Nat → Fil.St
  | 0 => s
  | k + 1 => (Fil.open (Fil.opens s k) Fil.na).2
def Fil.k9 : Fil.St := Fil.opens Fil.k8 20
def Fil.posOk (s : Fil.St) : Bool := s.op.all fun x => decide (x.pos ≤ 4611686018427387904)
theorem Fil.posOk_at {s : Fil.St} (h : Fil.posOk s = true) : ∀ (i : Nat) x, s.op[i]? = some x → x.pos ≤ 4611686018427387904 := fun i x hx => by
  have := List.all_eq_true.1 h x (List.mem_of_getElem? hx)
  simpa using this
theorem Fil.k_pos : Fil.posOk Fil.k1 = true ∧ Fil.posOk Fil.k2 = true ∧ Fil.posOk Fil.k5 = true ∧ Fil.posOk Fil.k6 = true ∧ Fil.posOk Fil.k7 = true := by decide +kernel
theorem Fil.k_ans : (Fil.open Fil.k0 ⟨#[98]⟩).1 = -2 ∧ (Fil.open Fil.k0 Fil.na).1 = 3 ∧ (Fil.seek Fil.k1 3 (-2) 2).1 = 3 ∧ (Fil.read Fil.k2 3 9).1 = [52, 53] ∧ (Fil.read Fil.k2 3 9).2.1 = 2 ∧ (Fil.close Fil.k3 1).1 = 0 ∧ (Fil.open Fil.k4 Fil.na).1 = 1 ∧
    (Fil.read Fil.k5 1 3).1 = [49, 50, 51] ∧ (Fil.read Fil.k5 1 3).2.1 = 3 ∧ (Fil.seek Fil.k6 3 100 0).1 = 100 ∧ (Fil.read Fil.k7 3 5).2.1 = 0 ∧ (Fil.open Fil.k9 Fil.na).1 = -24 := by decide +kernel
theorem Fil.k_no : Fil.find Fil.k0.srcs ⟨#[98]⟩ = 0 ∧ (Fil.hd Fil.k5 1).kind = 1 ∧ (Fil.hd Fil.k6 3).kind = 1 ∧ (Fil.hd Fil.k6 3).pos = 5 ∧ (Fil.hd Fil.k6 2).kind = 2 ∧ (Fil.hd Fil.k6 9).kind = 0 ∧ (Fil.hd Fil.k9 2).kind = 2 ∧ Fil.free Fil.k9.op = none ∧ Fil.find Fil.k9.srcs Fil.na = 1 ∧ Fil.k9.o2.length = 0 := by decide +kernel
theorem Fil.k_st : Fil.open Fil.k0 ⟨#[98]⟩ = (-2, Fil.k0) ∧ Fil.write Fil.k5 1 [122] = (-9, Fil.k5) ∧ Fil.seek Fil.k6 3 (-9) 1 = (-22, Fil.k6) ∧ Fil.seek Fil.k6 3 1 3 = (-22, Fil.k6) ∧ Fil.seek Fil.k6 2 0 0 = (-29, Fil.k6) ∧ Fil.read Fil.k6 2 1 = ([], -9, Fil.k6) ∧ Fil.close Fil.k6 9 = (-9, Fil.k6) ∧ Fil.open Fil.k9 Fil.na = (-24, Fil.k9) ∧ ∀ bs : List Int, bs.length = 65537 → Fil.write Fil.k9 2 bs = (-28, Fil.k9) := by
  obtain ⟨n1, n2, n3, n4, n5, n6, n7, n8, n9, n10⟩ := Fil.k_no
  refine ⟨?_, ?_, ?_, ?_, ?_, ?_, ?_, ?_, fun bs hb => ?_⟩
  · unfold Fil.open; rw [if_pos n1]
  · unfold Fil.write; rw [if_pos (by rw [n2]; decide)]
  · unfold Fil.seek; rw [if_neg (by rw [n3]; decide), if_neg (by rw [n3]; decide), if_neg (by decide), if_pos (by unfold Fil.place; rw [if_neg (by decide), if_pos rfl, n4]; decide)]
  · unfold Fil.seek; rw [if_neg (by rw [n3]; decide), if_neg (by rw [n3]; decide), if_pos (by decide)]
  · unfold Fil.seek; rw [if_neg (by rw [n5]; decide), if_pos n5]
  · unfold Fil.read; rw [if_pos (by rw [n5]; decide)]
  · unfold Fil.close; rw [if_pos n6]
  · unfold Fil.open; rw [if_neg (by rw [n9]; decide), n8]; rfl
  · unfold Fil.write; rw [if_neg (by rw [n7]; decide), if_pos (by rw [show Fil.outAt Fil.k9 2 = Fil.k9.o2 from rfl, n10, hb]; omega)]
set_option maxHeartbeats 8000000 in
set_option maxRecDepth 100000 in
theorem FilesKnown_w (W : World) : Calls Try.prog 3 #[] W fun e w' => e = .returned (.bool true) ∧ Bw W w' := by
  obtain ⟨t1, t2, t3, t4, t5, t6, t7, t8, t9, t10, t11, -⟩ := Fil.k_ans
  obtain ⟨p1, p2, p5, p6, p7⟩ := Fil.k_pos
  obtain ⟨u1, u2, u3, u4, u5, u6, u7, u8, u9⟩ := Fil.k_st
  go_enter Try.func3, Try.ntmps3
  go_wp2_with fail
  refine (awake11_c _).mono ?_
  rintro e w0 ⟨rfl, hb0⟩
  have kc := kcB w0 #[.int .u8 49, .int .u8 50, .int .u8 51, .int .u8 52, .int .u8 53] 5 rfl
  have hIs := Fil.one_is (name := Fil.na) (litB (w := w0) [49, 50, 51, 52, 53] (by simp)) (by intro x hx; simp at hx; unfold B8; omega)
  have gA : Bw W ((w0.alloc (.cells #[.int .u8 49, .int .u8 50, .int .u8 51, .int .u8 52, .int .u8 53] 5 (5, 6))).alloc (.cells #[.string Fil.na, .slice (some ⟨w0.heap.size, 0, none⟩) 5 5] 27)) := (hb0.alloc _).alloc _
  have hN := lNew gA _ _ hIs
  rw [World.size_alloc] at hN
  clear hIs gA
  go_wp2_with fail
  refine hN.mono ?_
  rintro e w1 ⟨fb, A, rfl, h1, -, -, -⟩
  have g1 : LF W w1 fb A Fil.k0 := h1
  clear h1 hN kc
  go_wp2_with fail
  refine (lOpen g1 ⟨#[98]⟩).mono ?_
  rw [u1]
  rintro e w2 ⟨rfl, h2, z2⟩
  have g2 : LF W w2 fb A Fil.k0 := h2
  clear h2 z2 g1
  go_wp2_with fail
  refine (lOpen g2 Fil.na).mono ?_
  rw [t2]
  rintro e w3 ⟨rfl, h3, z3⟩
  have g3 : LF W w3 fb A Fil.k1 := h3
  clear h3 z3 g2
  go_wp2_with fail
  refine (lSeek g3 3 (-2) 2 (by decide) (by decide) (Fil.posOk_at p1)).mono ?_
  rw [t3]
  rintro e w4 ⟨rfl, h4, z4⟩
  have g4 : LF W w4 fb A Fil.k2 := h4
  clear h4 z4 g3
  go_wp2_with fail
  refine (lRead g4 3 9 (Fil.posOk_at p2)).mono ?_
  rw [t4, t5]
  rintro e w5 ⟨v5, rfl, oX, h5, z5⟩
  have g5 : LF W w5 fb A Fil.k3 := h5
  have nX := LF.out g4 g5 oX
  obtain ⟨q5, c5, rfl⟩ := oX.sl
  clear h5 z5 g4
  go_wp2_with fail
  refine (lClose g5 1).mono ?_
  rw [t6]
  rintro e w6 ⟨rfl, h6, z6⟩
  have g6 : LF W w6 fb A Fil.k4 := h6
  obtain ⟨oX', nX'⟩ := oX.stp nX z6.stp
  clear oX nX
  have oX := oX'; have nX := nX'; clear oX' nX'
  clear h6 z6 g5
  go_wp2_with fail
  refine (lOpen g6 Fil.na).mono ?_
  rw [t7]
  rintro e w7 ⟨rfl, h7, z7⟩
  have g7 : LF W w7 fb A Fil.k5 := h7
  obtain ⟨oX', nX'⟩ := oX.stp nX z7.stp
  clear oX nX
  have oX := oX'; have nX := nX'; clear oX' nX'
  clear h7 z7 g6
  have kc := kcB w7 #[.int .u8 122] 1 rfl
  have gA : Bw w7 (w7.alloc (.cells #[.int .u8 122] 5 (1, 2))) := (Bw.refl _).alloc _
  replace oX := oX.bw gA
  go_wp2_with fail
  refine (lWrite (g7.bw gA) 1 (litB [122] (by simp)) (by intro x hx; simp at hx; unfold B8; omega) (by simp)).mono ?_
  rw [u2]
  rintro e w8 ⟨rfl, A8, h8, z8⟩
  have g8 : LF W w8 fb A8 Fil.k5 := h8
  obtain ⟨oX', nX'⟩ := oX.stp nX z8
  clear oX nX
  have oX := oX'; have nX := nX'; clear oX' nX'
  clear h8 z8 g7
  clear kc gA
  go_wp2_with fail
  refine (lRead g8 1 3 (Fil.posOk_at p5)).mono ?_
  rw [t8, t9]
  rintro e w9 ⟨v9, rfl, oY, h9, z9⟩
  have g9 : LF W w9 fb A8 Fil.k6 := h9
  have nY := LF.out g8 g9 oY
  obtain ⟨oX', nX'⟩ := oX.stp nX z9.stp
  clear oX nX
  have oX := oX'; have nX := nX'; clear oX' nX'
  obtain ⟨q9, c9, rfl⟩ := oY.sl
  clear h9 z9 g8
  go_wp2_with fail
  refine (lSeek g9 3 (-9) 1 (by decide) (by decide) (Fil.posOk_at p6)).mono ?_
  rw [u3]
  rintro e w10 ⟨rfl, h10, z10⟩
  have g10 : LF W w10 fb A8 Fil.k6 := h10
  obtain ⟨oX', nX'⟩ := oX.stp nX z10.stp
  clear oX nX
  have oX := oX'; have nX := nX'; clear oX' nX'
  obtain ⟨oY', nY'⟩ := oY.stp nY z10.stp
  clear oY nY
  have oY := oY'; have nY := nY'; clear oY' nY'
  clear h10 z10 g9
  go_wp2_with fail
  refine (lSeek g10 3 1 3 (by decide) (by decide) (Fil.posOk_at p6)).mono ?_
  rw [u4]
  rintro e w11 ⟨rfl, h11, z11⟩
  have g11 : LF W w11 fb A8 Fil.k6 := h11
  obtain ⟨oX', nX'⟩ := oX.stp nX z11.stp
  clear oX nX
  have oX := oX'; have nX := nX'; clear oX' nX'
  obtain ⟨oY', nY'⟩ := oY.stp nY z11.stp
  clear oY nY
  have oY := oY'; have nY := nY'; clear oY' nY'
  clear h11 z11 g10
  go_wp2_with fail
  refine (lSeek g11 2 0 0 (by decide) (by decide) (Fil.posOk_at p6)).mono ?_
  rw [u5]
  rintro e w12 ⟨rfl, h12, z12⟩
  have g12 : LF W w12 fb A8 Fil.k6 := h12
  obtain ⟨oX', nX'⟩ := oX.stp nX z12.stp
  clear oX nX
  have oX := oX'; have nX := nX'; clear oX' nX'
  obtain ⟨oY', nY'⟩ := oY.stp nY z12.stp
  clear oY nY
  have oY := oY'; have nY := nY'; clear oY' nY'
  clear h12 z12 g11
  go_wp2_with fail
  refine (lRead g12 2 1 (Fil.posOk_at p6)).mono ?_
  rw [u6]
  rintro e w13 ⟨v13, rfl, oq, h13, z13⟩
  have g13 : LF W w13 fb A8 Fil.k6 := h13
  obtain ⟨oX', nX'⟩ := oX.stp nX z13.stp
  clear oX nX
  have oX := oX'; have nX := nX'; clear oX' nX'
  obtain ⟨oY', nY'⟩ := oY.stp nY z13.stp
  clear oY nY
  have oY := oY'; have nY := nY'; clear oY' nY'
  obtain ⟨q13, c13, rfl⟩ := oq.sl
  clear h13 z13 g12 oq
  go_wp2_with fail
  refine (lClose g13 9).mono ?_
  rw [u7]
  rintro e w14 ⟨rfl, h14, z14⟩
  have g14 : LF W w14 fb A8 Fil.k6 := h14
  obtain ⟨oX', nX'⟩ := oX.stp nX z14.stp
  clear oX nX
  have oX := oX'; have nX := nX'; clear oX' nX'
  obtain ⟨oY', nY'⟩ := oY.stp nY z14.stp
  clear oY nY
  have oY := oY'; have nY := nY'; clear oY' nY'
  clear h14 z14 g13
  go_wp2_with fail
  refine (lSeek g14 3 100 0 (by decide) (by decide) (Fil.posOk_at p6)).mono ?_
  rw [t10]
  rintro e w15 ⟨rfl, h15, z15⟩
  have g15 : LF W w15 fb A8 Fil.k7 := h15
  obtain ⟨oX', nX'⟩ := oX.stp nX z15.stp
  clear oX nX
  have oX := oX'; have nX := nX'; clear oX' nX'
  obtain ⟨oY', nY'⟩ := oY.stp nY z15.stp
  clear oY nY
  have oY := oY'; have nY := nY'; clear oY' nY'
  clear h15 z15 g14
  go_wp2_with fail
  refine (lRead g15 3 5 (Fil.posOk_at p7)).mono ?_
  rw [t11]
  rintro e w16 ⟨v16, rfl, oq, h16, z16⟩
  have g16 : LF W w16 fb A8 Fil.k8 := h16
  obtain ⟨oX', nX'⟩ := oX.stp nX z16.stp
  clear oX nX
  have oX := oX'; have nX := nX'; clear oX' nX'
  obtain ⟨oY', nY'⟩ := oY.stp nY z16.stp
  clear oY nY
  have oY := oY'; have nY := nY'; clear oY' nY'
  obtain ⟨q16, c16, rfl⟩ := oq.sl
  clear h16 z16 g15 oq
  clear t1 t2 t3 t4 t5 t6 t7 t8 t9 t10 t11 p1 p2 p5 p6 p7 u1 u2 u3 u4 u5 u6 u7 hb0
  go_wp2_with fail
  go_loopg [21] 20 (fun g j wr => ∃ k : Nat, k + g = 20 ∧ j = .int .i64 k ∧ LF W wr fb A8 (Fil.opens Fil.k8 k) ∧ Own8 w4 wr (.slice q5 2 c5) [52, 53] ∧ Own8 w8 wr (.slice q9 3 c9) [49, 50, 51])
  case atStart => exact ⟨0, by omega, rfl, g16, oX, oY⟩
  case round =>
    obtain ⟨k, hkg, rfl, hF, rX, rY⟩ := hrel
    clear oX oY
    by_cases hk : k = 20
    · subst hk
      have g9 : LF W wr fb A8 Fil.k9 := hF
      have cvX : (convert 25 9 (.slice q5 2 c5)).run Try.prog wr = .ok (.string (strOfNums [52, 53])) wr := conv8 rX
      have cvY : (convert 25 9 (.slice q9 3 c9)).run Try.prog wr = .ok (.string (strOfNums [49, 50, 51])) wr := conv8 rY
      rw [show strOfNums [52, 53] = ⟨#[52, 53]⟩ from by decide +kernel] at cvX
      rw [show strOfNums [49, 50, 51] = ⟨#[49, 50, 51]⟩ from by decide +kernel] at cvY
      clear rX rY
      go_wp2_with fail
      refine (lOpen g9 Fil.na).mono ?_
      rw [u8]
      rintro e x1 ⟨rfl, hx1, -⟩
      have gx1 : LF W x1 fb A8 Fil.k9 := hx1
      obtain ⟨x2, hmk, hO2, hb2⟩ := mk8 x1 65537 (by omega)
      have hmk' : (Instr.makeSlice 25 (.int .i64 65537) (.int .i64 65537)).run Try.prog x1 = .ok (.slice (some ⟨x1.heap.size, 0, none⟩) 65537 65537) x2 := hmk
      clear hx1 g9 cvX cvY hmk
      go_wp2_with fail
      refine (lWrite (gx1.bw hb2) 2 hO2.rd (by intro x hx; rw [List.eq_of_mem_replicate hx]; unfold B8; omega) (by rw [List.length_replicate]; omega)).mono ?_
      rw [u9 _ (by rw [List.length_replicate])]
      rintro e x3 ⟨rfl, A3, hx3, -⟩
      have gx3 : LF W x3 fb A3 Fil.k9 := hx3
      clear hx3 gx1 hmk' hO2 hb2
      go_wp2_with fail
      refine (lOut gx3 3).mono ?_
      rintro e x4 ⟨v4, rfl, ho4, h4, -⟩
      rw [show Fil.outAt Fil.k9 3 = [] from rfl] at ho4
      obtain ⟨qf, cf, rfl⟩ := ho4.sl
      go_wp2_with fail
      go_returns
      exact ⟨rfl, h4.b⟩
    · have hki : (k : Int) < 20 := by omega
      go_wp2_with fail
      refine (lOpen hF Fil.na).mono ?_
      rintro e wn ⟨rfl, hn, zn⟩
      have rX' := (rX.stp nX zn.stp).1
      have rY' := (rY.stp nY zn.stp).1
      go_wp2_with fail
      go_roundg (20 - (k + 1))
      case measure => omega
      case rel => exact ⟨k + 1, by omega, by simp, hn, rX', rY'⟩
end Go.Proofs.Ytaepjlaegldkhaa
