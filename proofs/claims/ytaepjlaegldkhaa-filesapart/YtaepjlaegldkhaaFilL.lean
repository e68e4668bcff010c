/- LAYER 11's laws: open files in a law; awake. -/
import Derived.Test.YtaepjlaegldkhaaFilW12
namespace Go.Proofs.Ytaepjlaegldkhaa
open Go.ChangeShapes Go.WideShapes Go.ChangeAt Go.RowKit

/-- A law that began in W holds open files. -/
structure LF (W w : World) (fb : Nat) (A : Nat → Prop) (s : Fil.St) : Prop where
  f : FS W w fb A s
  b : Bw W w
theorem LF.bw {W w w' : World} {fb : Nat} {A : Nat → Prop} {s : Fil.St} (h : LF W w fb A s) (g : Bw w w') : LF W w' fb A s := ⟨h.f.bw g, h.b.trans g⟩
theorem LF.fz {W w w' : World} {fb : Nat} {A B : Nat → Prop} {s : Fil.St} (h : LF W w fb A s) (g : Fz B w w') (hd : ∀ i, A i → ¬ B i) (hB : ∀ i, B i → W.heap.size ≤ i) : LF W w' fb A s := ⟨h.f.fz g hd, g.toBw h.b hB⟩
theorem lNew {W w : World} (hb : Bw W w) (v : Value) (f : Fee.Fd) (hv : IsFd w v f) : Calls Try.prog 10 #[v] w fun e w' => ∃ fb A, e = .returned (.pointer (some ⟨fb, 0, none⟩)) ∧ LF W w' fb A (Fil.new f) ∧ Bw w w' ∧ (∀ i, A i → w.heap.size ≤ i) ∧ fb < w'.heap.size := by
  refine (fNew_c v f w hv).mono ?_
  rintro e w' ⟨fb, A, rfl, h1, h2⟩
  exact ⟨fb, A, rfl, ⟨h1.le hb.size, hb.trans h2⟩, h2, fun i hi => (h1.in_ i hi).1, (h1.in_ _ h1.af).2⟩
theorem lOpen {W w : World} {fb : Nat} {A : Nat → Prop} {s : Fil.St} (h : LF W w fb A s) (name : ByteArray) : Calls Try.prog 11 #[.pointer (some ⟨fb, 0, none⟩), .string name] w fun e w' => e = .returned (.int .i64 (Fil.open s name).1) ∧ LF W w' fb A (Fil.open s name).2 ∧ Fz A w w' := by
  refine (fOpen_c h.f name).mono ?_
  rintro e w' ⟨rfl, h1, h2⟩
  exact ⟨rfl, ⟨h1, h2.toBw h.b (fun i hi => (h.f.in_ i hi).1)⟩, h2⟩
theorem lClose {W w : World} {fb : Nat} {A : Nat → Prop} {s : Fil.St} (h : LF W w fb A s) (fd : Int) : Calls Try.prog 14 #[.pointer (some ⟨fb, 0, none⟩), .int .i64 fd] w fun e w' => e = .returned (.int .i64 (Fil.close s fd).1) ∧ LF W w' fb A (Fil.close s fd).2 ∧ Fz A w w' := by
  refine (fClose_c h.f fd).mono ?_
  rintro e w' ⟨rfl, h1, h2⟩
  exact ⟨rfl, ⟨h1, h2.toBw h.b (fun i hi => (h.f.in_ i hi).1)⟩, h2⟩
theorem lSeek {W w : World} {fb : Nat} {A : Nat → Prop} {s : Fil.St} (h : LF W w fb A s) (fd off wh : Int) (ho1 : -2147483648 ≤ off) (ho2 : off ≤ 2147483647) (hp : ∀ (i : Nat) x, s.op[i]? = some x → x.pos ≤ 4611686018427387904) : Calls Try.prog 12 #[.pointer (some ⟨fb, 0, none⟩), .int .i64 fd, .int .i32 off, .int .i64 wh] w fun e w' => e = .returned (.int .i64 (Fil.seek s fd off wh).1) ∧ LF W w' fb A (Fil.seek s fd off wh).2 ∧ Fz A w w' := by
  refine (fSeek_c h.f fd off wh ho1 ho2 hp).mono ?_
  rintro e w' ⟨rfl, h1, h2⟩
  exact ⟨rfl, ⟨h1, h2.toBw h.b (fun i hi => (h.f.in_ i hi).1)⟩, h2⟩
theorem lRead {W w : World} {fb : Nat} {A : Nat → Prop} {s : Fil.St} (h : LF W w fb A s) (fd n : Int) (hp : ∀ (i : Nat) x, s.op[i]? = some x → x.pos ≤ 4611686018427387904) : Calls Try.prog 13 #[.pointer (some ⟨fb, 0, none⟩), .int .i64 fd, .int .i64 n] w fun e w' => ∃ v, e = .returned (.tuple #[v, .int .i64 (Fil.read s fd n).2.1]) ∧ Own8 w w' v (Fil.read s fd n).1 ∧ LF W w' fb A (Fil.read s fd n).2.2 ∧ Fz A w w' := by
  refine (fRead_c h.f fd n hp).mono ?_
  rintro e w' ⟨v, rfl, h0, h1, h2⟩
  exact ⟨v, rfl, h0, ⟨h1, h2.toBw h.b (fun i hi => (h.f.in_ i hi).1)⟩, h2⟩
theorem lWrite {W w : World} {fb : Nat} {A : Nat → Prop} {s : Fil.St} (h : LF W w fb A s) (fd : Int) {v : Value} {bs : List Int} (hv : Rd8 w v bs) (h8 : B8s bs) (hbl : bs.length ≤ 1000000) : Calls Try.prog 15 #[.pointer (some ⟨fb, 0, none⟩), .int .i64 fd, v] w fun e w' => e = .returned (.int .i64 (Fil.write s fd bs).1) ∧ ∃ A', LF W w' fb A' (Fil.write s fd bs).2 ∧ Stp A A' w w' := by
  refine (fWrite_c h.f h.b fd hv h8 hbl).mono ?_
  rintro e w' ⟨rfl, A', h1, h2⟩
  exact ⟨rfl, A', ⟨h1, h2.fz.toBw h.b (fun i hi => (h.f.in_ i hi).1)⟩, h2⟩
theorem lOut {W w : World} {fb : Nat} {A : Nat → Prop} {s : Fil.St} (h : LF W w fb A s) (fd : Int) : Calls Try.prog 16 #[.pointer (some ⟨fb, 0, none⟩), .int .i64 fd] w fun e w' => ∃ v, e = .returned v ∧ Own8 w w' v (Fil.outAt s fd) ∧ LF W w' fb A s ∧ Bw w w' := by
  refine (fOut_c h.f fd).mono ?_
  rintro e w' ⟨v, rfl, h1, h2⟩
  exact ⟨v, rfl, h1, h.bw h2, h2⟩
theorem lUse {W w : World} {fb : Nat} {A : Nat → Prop} {s : Fil.St} (h : LF W w fb A s) : Calls Try.prog 26 #[.pointer (some ⟨fb, 0, none⟩)] w fun e w' => ∃ ub, e = .returned (.pointer (some ⟨ub, 0, none⟩)) ∧ UseS w' ub s.sh s.rd s.ck s.a s.b s.c ∧ LF W w' fb A s ∧ Bw w w' := by
  refine (fUse_c h.f).mono ?_
  rintro e w' ⟨ub, rfl, h1, h2⟩
  exact ⟨ub, rfl, h1.bw h2, h.bw h2, h2⟩
theorem lCopy {W w : World} {fb : Nat} {A : Nat → Prop} {s : Fil.St} (h : LF W w fb A s) : Calls Try.prog 25 #[.pointer (some ⟨fb, 0, none⟩)] w fun e w' => ∃ ob A', e = .returned (.pointer (some ⟨ob, 0, none⟩)) ∧ LF W w' ob A' s ∧ LF W w' fb A s ∧ Bw w w' ∧ (∀ i, A' i → w.heap.size ≤ i) := by
  refine (fCopy_c h.f).mono ?_
  rintro e w' ⟨ob, A', rfl, h1, h2⟩
  exact ⟨ob, A', rfl, ⟨h1.le h.b.size, h.b.trans h2⟩, h.bw h2, h2, fun i hi => (h1.in_ i hi).1⟩
/-- Bytes that lie elsewhere stand. -/
theorem Own8.fz {w0 w w' : World} {v : Value} {l : List Int} {A : Nat → Prop} (h : Own8 w0 w v l) (g : Fz A w w') (hn : ∀ j, v.ownBlock = some j → ¬ A j) : Own8 w0 w' v l := h.heap (fun j hj => g.block j (h.blk j hj).2 (hn j hj))
/-- What a read gave is no part of the files. -/
theorem LF.out {W w w' : World} {fb : Nat} {A : Nat → Prop} {s s' : Fil.St} {v : Value} {l : List Int} (h : LF W w fb A s) (_ : LF W w' fb A s') (ho : Own8 w w' v l) : ∀ j, v.ownBlock = some j → ¬ A j := fun j hj hA => by
  have := (h.f.in_ j hA).2; have := (ho.blk j hj).1; omega
def Fil.aw : Fee.Fd := ⟨[], [120, 121, 122], [], [], [], []⟩
/-- Bytes of a constant text. -/
theorem litB {w : World} (l : List Int) (hl : l.length ≤ 1000) : Rd8 (w.alloc (.cells (ints8 l).toArray 5 (l.length, l.length + 1))) (.slice (some ⟨w.heap.size, 0, none⟩) l.length l.length) l := (Own8.marked (w0 := w) (Nat.le_refl _) l hl _ (Or.inr rfl)).rd
theorem kcB (w : World) (cs : Array Value) (n : Nat) (hn : cs.size = n) : (convert 25 25 (.slice (some ⟨w.heap.size, 0, none⟩) n n)).run Try.prog (w.alloc (.cells cs 5)) = .ok (.slice (some ⟨w.heap.size, 0, none⟩) n n) (w.alloc (.cells cs 5 (n, n + 1))) := by subst hn; exact Lib.run_convert_bytes_const (P := Try.prog) w 25 5 cs _ _ Try.underlying25 Try.underlying5
theorem Fil.aw_is (w : World) : IsFd (w.alloc (.cells #[.int .u8 120, .int .u8 121, .int .u8 122] 5 (3, 4))) (.agg #[.slice none 0 0, .slice (some ⟨w.heap.size, 0, none⟩) 3 3, .slice none 0 0, .slice none 0 0, .slice none 0 0, .slice none 0 0]) Fil.aw :=
  ⟨_, _, _, _, _, _, rfl, RdR.nil _ _, litB [120, 121, 122] (by simp), RdR.nil _ _, RdR.nil _ _, RdR.nil _ _, FlS.nil _, ⟨by intro x hx; simp [Fil.aw] at hx; unfold B8; omega, by simp [Fil.aw], by simp [Fil.aw, B8s], by simp [Fil.aw]⟩⟩
def Fil.aw1 : Fil.St := (Fil.write (Fil.new Fil.aw) 1 [97, 98]).2
theorem Fil.aw_w : (Fil.write (Fil.new Fil.aw) 1 [97, 98]).1 = 2 := by decide +kernel
theorem Fil.aw_r : (Fil.read Fil.aw1 0 2).1 = [120, 121] ∧ (Fil.read Fil.aw1 0 2).2.1 = 2 ∧ Fil.outAt (Fil.read Fil.aw1 0 2).2.2 1 = [97, 98] := by decide +kernel
theorem Fil.aw_p : ∀ x ∈ Fil.aw1.op, x.pos ≤ 4611686018427387904 := by decide +kernel
set_option maxHeartbeats 4000000 in
set_option maxRecDepth 100000 in
theorem awake11_c (w : World) : Calls Try.prog 9 #[] w fun e w' => e = .returned (.bool true) ∧ Bw w w' := by
  have hb0 : Bw w (w.alloc (.cells #[.int .u8 120, .int .u8 121, .int .u8 122] 5 (3, 4))) := (Bw.refl w).alloc _
  have kc := kcB w #[.int .u8 120, .int .u8 121, .int .u8 122] 3 rfl
  go_enter Try.func9, Try.ntmps9
  go_wp2_with fail
  refine (lNew hb0 _ _ (Fil.aw_is w)).mono ?_
  rintro e w1 ⟨fb, A, rfl, h1, -, -, -⟩
  clear hb0 kc
  have kc := kcB w1 #[.int .u8 97, .int .u8 98] 2 rfl
  have gA : Bw w1 (w1.alloc (.cells #[.int .u8 97, .int .u8 98] 5 (2, 3))) := (Bw.refl _).alloc _
  go_wp2_with fail
  refine (lWrite (h1.bw gA) 1 (litB [97, 98] (by simp)) (by intro x hx; simp at hx; unfold B8; omega) (by simp)).mono ?_
  rw [Fil.aw_w]
  rintro e w2 ⟨rfl, A2, h2, -⟩
  have h2' : LF w w2 fb A2 Fil.aw1 := h2
  clear h1 h2 kc gA
  go_wp2_with fail
  refine (lRead h2' 0 2 (fun i x hx => Fil.aw_p x (List.mem_of_getElem? hx))).mono ?_
  obtain ⟨r1, r2, r3⟩ := Fil.aw_r
  rw [r1, r2]
  rintro e w3 ⟨v3, rfl, ho3, h3, -⟩
  have hn3 := LF.out h2' h3 ho3
  clear h2'
  generalize (Fil.read Fil.aw1 0 2).2.2 = s3 at *
  obtain ⟨q3, c3, rfl⟩ := ho3.sl
  go_wp2_with fail
  refine (lOut h3 1).mono ?_
  rw [r3]
  rintro e w4 ⟨v4, rfl, ho4, h4, hb4⟩
  have cv4 := conv8 ho4
  have cv3 : (convert 25 9 (.slice q3 2 c3)).run Try.prog w4 = .ok (.string (strOfNums [120, 121])) w4 := conv8 (ho3.bw hb4)
  rw [show strOfNums [97, 98] = ⟨#[97, 98]⟩ from by decide +kernel] at cv4
  rw [show strOfNums [120, 121] = ⟨#[120, 121]⟩ from by decide +kernel] at cv3
  go_wp2_with fail
  refine (lUse h4).mono ?_
  rintro e w5 ⟨ub, rfl, -, h5, -⟩
  go_wp2_with fail
  go_returns
  exact ⟨rfl, h5.b⟩
end Go.Proofs.Ytaepjlaegldkhaa
