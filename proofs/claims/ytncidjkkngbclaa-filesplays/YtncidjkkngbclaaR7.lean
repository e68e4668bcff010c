/- LAYER 11's laws: open files in a law; awake. · LAYER 11's laws over one file: its states, plain. · LAYER 11's law FilesNumbers: which numbers are open, as a table. · Noughts in texts, by bytes; the reference's noughts. -/
import Derived.Test.YtncidjkkngbclaaR6
import Derived.Test.YtncidjkkngbclaaR2
import Derived.Lib.IndexLaws
namespace Go.Proofs.Ytncidjkkngbclaa
open Go.ChangeShapes Go.WideShapes Go.ChangeAt Go.RowKit

/-- A law that began in W holds open files. -/
structure LF (W w : World) (fb : Nat) (A : Nat → Prop) (s : Fil.St) : Prop where
  f : FS W w fb A s
  b : Bw W w
theorem LF.bw {W w w' : World} {fb : Nat} {A : Nat → Prop} {s : Fil.St} (h : LF W w fb A s) (g : Bw w w') : LF W w' fb A s := ⟨h.f.bw g, h.b.trans g⟩
theorem LF.fz {W w w' : World} {fb : Nat} {A B : Nat → Prop} {s : Fil.St} (h : LF W w fb A s) (g : Fz B w w') (hd : ∀ i, A i → ¬ B i) (hB : ∀ i, B i → W.heap.size ≤ i) : LF W w' fb A s := ⟨h.f.fz g hd, g.toBw h.b hB⟩
theorem lNew {W w : World} (hb : Bw W w) (v : Value) (f : Fee.Fd) (hv : IsFd w v f) : Calls Try.prog 6 #[v] w fun e w' => ∃ fb A, e = .returned (.pointer (some ⟨fb, 0, none⟩)) ∧ LF W w' fb A (Fil.new f) ∧ Bw w w' ∧ (∀ i, A i → w.heap.size ≤ i) ∧ fb < w'.heap.size := by
  refine (fNew_c v f w hv).mono ?_
  rintro e w' ⟨fb, A, rfl, h1, h2⟩
  exact ⟨fb, A, rfl, ⟨h1.le hb.size, hb.trans h2⟩, h2, fun i hi => (h1.in_ i hi).1, (h1.in_ _ h1.af).2⟩
theorem lOpen {W w : World} {fb : Nat} {A : Nat → Prop} {s : Fil.St} (h : LF W w fb A s) (name : ByteArray) : Calls Try.prog 9 #[.pointer (some ⟨fb, 0, none⟩), .string name] w fun e w' => e = .returned (.int .i64 (Fil.open s name).1) ∧ LF W w' fb A (Fil.open s name).2 ∧ Fz A w w' := by
  refine (fOpen_c h.f name).mono ?_
  rintro e w' ⟨rfl, h1, h2⟩
  exact ⟨rfl, ⟨h1, h2.toBw h.b (fun i hi => (h.f.in_ i hi).1)⟩, h2⟩
theorem lClose {W w : World} {fb : Nat} {A : Nat → Prop} {s : Fil.St} (h : LF W w fb A s) (fd : Int) : Calls Try.prog 11 #[.pointer (some ⟨fb, 0, none⟩), .int .i64 fd] w fun e w' => e = .returned (.int .i64 (Fil.close s fd).1) ∧ LF W w' fb A (Fil.close s fd).2 ∧ Fz A w w' := by
  refine (fClose_c h.f fd).mono ?_
  rintro e w' ⟨rfl, h1, h2⟩
  exact ⟨rfl, ⟨h1, h2.toBw h.b (fun i hi => (h.f.in_ i hi).1)⟩, h2⟩
theorem lSeek {W w : World} {fb : Nat} {A : Nat → Prop} {s : Fil.St} (h : LF W w fb A s) (fd off wh : Int) (ho1 : -2147483648 ≤ off) (ho2 : off ≤ 2147483647) (hp : ∀ (i : Nat) x, s.op[i]? = some x → x.pos ≤ 4611686018427387904) : Calls Try.prog 17 #[.pointer (some ⟨fb, 0, none⟩), .int .i64 fd, .int .i32 off, .int .i64 wh] w fun e w' => e = .returned (.int .i64 (Fil.seek s fd off wh).1) ∧ LF W w' fb A (Fil.seek s fd off wh).2 ∧ Fz A w w' := by
  refine (fSeek_c h.f fd off wh ho1 ho2 hp).mono ?_
  rintro e w' ⟨rfl, h1, h2⟩
  exact ⟨rfl, ⟨h1, h2.toBw h.b (fun i hi => (h.f.in_ i hi).1)⟩, h2⟩
theorem lRead {W w : World} {fb : Nat} {A : Nat → Prop} {s : Fil.St} (h : LF W w fb A s) (fd n : Int) (hp : ∀ (i : Nat) x, s.op[i]? = some x → x.pos ≤ 4611686018427387904) : Calls Try.prog 13 #[.pointer (some ⟨fb, 0, none⟩), .int .i64 fd, .int .i64 n] w fun e w' => ∃ v, e = .returned (.tuple #[v, .int .i64 (Fil.read s fd n).2.1]) ∧ Own8 w w' v (Fil.read s fd n).1 ∧ LF W w' fb A (Fil.read s fd n).2.2 ∧ Fz A w w' := by
  refine (fRead_c h.f fd n hp).mono ?_
  rintro e w' ⟨v, rfl, h0, h1, h2⟩
  exact ⟨v, rfl, h0, ⟨h1, h2.toBw h.b (fun i hi => (h.f.in_ i hi).1)⟩, h2⟩
theorem lWrite {W w : World} {fb : Nat} {A : Nat → Prop} {s : Fil.St} (h : LF W w fb A s) (fd : Int) {v : Value} {bs : List Int} (hv : Rd8 w v bs) (h8 : B8s bs) (hbl : bs.length ≤ 1000000) : Calls Try.prog 15 #[.pointer (some ⟨fb, 0, none⟩), .int .i64 fd, v] w fun e w' => e = .returned (.int .i64 (Fil.write s fd bs).1) ∧ ∃ A', LF W w' fb A' (Fil.write s fd bs).2 ∧ Stp A A' w w' := by
  refine (fWrite_c h.f h.b fd hv h8 hbl).mono ?_
  rintro e w' ⟨rfl, A', h1, h2⟩
  exact ⟨rfl, A', ⟨h1, h2.fz.toBw h.b (fun i hi => (h.f.in_ i hi).1)⟩, h2⟩
theorem lOut {W w : World} {fb : Nat} {A : Nat → Prop} {s : Fil.St} (h : LF W w fb A s) (fd : Int) : Calls Try.prog 22 #[.pointer (some ⟨fb, 0, none⟩), .int .i64 fd] w fun e w' => ∃ v, e = .returned v ∧ Own8 w w' v (Fil.outAt s fd) ∧ LF W w' fb A s ∧ Bw w w' := by
  refine (fOut_c h.f fd).mono ?_
  rintro e w' ⟨v, rfl, h1, h2⟩
  exact ⟨v, rfl, h1, h.bw h2, h2⟩
theorem lUse {W w : World} {fb : Nat} {A : Nat → Prop} {s : Fil.St} (h : LF W w fb A s) : Calls Try.prog 20 #[.pointer (some ⟨fb, 0, none⟩)] w fun e w' => ∃ ub, e = .returned (.pointer (some ⟨ub, 0, none⟩)) ∧ UseS w' ub s.sh s.rd s.ck s.a s.b s.c ∧ LF W w' fb A s ∧ Bw w w' := by
  refine (fUse_c h.f).mono ?_
  rintro e w' ⟨ub, rfl, h1, h2⟩
  exact ⟨ub, rfl, h1.bw h2, h.bw h2, h2⟩
theorem lCopy {W w : World} {fb : Nat} {A : Nat → Prop} {s : Fil.St} (h : LF W w fb A s) : Calls Try.prog 19 #[.pointer (some ⟨fb, 0, none⟩)] w fun e w' => ∃ ob A', e = .returned (.pointer (some ⟨ob, 0, none⟩)) ∧ LF W w' ob A' s ∧ LF W w' fb A s ∧ Bw w w' ∧ (∀ i, A' i → w.heap.size ≤ i) := by
  refine (fCopy_c h.f).mono ?_
  rintro e w' ⟨ob, A', rfl, h1, h2⟩
  exact ⟨ob, A', rfl, ⟨h1.le h.b.size, h.b.trans h2⟩, h.bw h2, h2, fun i hi => (h1.in_ i hi).1⟩
/-- Bytes that lie elsewhere stand. -/
theorem Own8.fz {w0 w w' : World} {v : Value} {l : List Int} {A : Nat → Prop} (h : Own8 w0 w v l) (g : Fz A w w') (hn : ∀ j, v.ownBlock = some j → ¬ A j) : Own8 w0 w' v l := h.heap (fun j hj => g.block j (h.blk j hj).2 (hn j hj))
/-- What a read gave is no part of the files. -/
theorem LF.out {W w w' : World} {fb : Nat} {A : Nat → Prop} {s s' : Fil.St} {v : Value} {l : List Int} (h : LF W w fb A s) (_ : LF W w' fb A s') (ho : Own8 w w' v l) : ∀ j, v.ownBlock = some j → ¬ A j := fun j hj hA => by
  have := (h.f.in_ j hA).2; have := (ho.blk j hj).1; omega
def Fil.aw : Fee.Fd := ⟨[], [120, 121, 122], [], [], [], []⟩
/-- Bytes of a constant text. -/
theorem litB {w : World} (l : List Int) (hl : l.length ≤ 1000) : Rd8 (w.alloc (.cells (ints8 l).toArray 5 (l.length, l.length + 1))) (.slice (some ⟨w.heap.size, 0, none⟩) l.length l.length) l := (Own8.marked (w0 := w) (Nat.le_refl _) l hl _ (Or.inr rfl)).rd
theorem kcB (w : World) (cs : Array Value) (n : Nat) (hn : cs.size = n) : (convert 23 23 (.slice (some ⟨w.heap.size, 0, none⟩) n n)).run Try.prog (w.alloc (.cells cs 5)) = .ok (.slice (some ⟨w.heap.size, 0, none⟩) n n) (w.alloc (.cells cs 5 (n, n + 1))) := by subst hn; exact Lib.run_convert_bytes_const (P := Try.prog) w 23 5 cs _ _ Try.underlying23 Try.underlying5
theorem Fil.aw_is (w : World) : IsFd (w.alloc (.cells #[.int .u8 120, .int .u8 121, .int .u8 122] 5 (3, 4))) (.agg #[.slice none 0 0, .slice (some ⟨w.heap.size, 0, none⟩) 3 3, .slice none 0 0, .slice none 0 0, .slice none 0 0, .slice none 0 0]) Fil.aw :=
  ⟨_, _, _, _, _, _, rfl, RdR.nil _ _, litB [120, 121, 122] (by simp), RdR.nil _ _, RdR.nil _ _, RdR.nil _ _, FlS.nil _, ⟨by intro x hx; simp [Fil.aw] at hx; unfold B8; omega, by simp [Fil.aw], by simp [Fil.aw, B8s], by simp [Fil.aw]⟩⟩
def Fil.aw1 : Fil.St := (Fil.write (Fil.new Fil.aw) 1 [97, 98]).2
theorem Fil.aw_w : (Fil.write (Fil.new Fil.aw) 1 [97, 98]).1 = 2 := by decide +kernel
theorem Fil.aw_r : (Fil.read Fil.aw1 0 2).1 = [120, 121] ∧ (Fil.read Fil.aw1 0 2).2.1 = 2 ∧ Fil.outAt (Fil.read Fil.aw1 0 2).2.2 1 = [97, 98] := by decide +kernel
theorem Fil.aw_p : ∀ x ∈ Fil.aw1.op, x.pos ≤ 4611686018427387904 := by decide +kernel
set_option maxHeartbeats 4000000 in
set_option maxRecDepth 100000 in
theorem awake11_c (w : World) : Calls Try.prog 4 #[] w fun e w' => e = .returned (.bool true) ∧ Bw w w' := by
  have hb0 : Bw w (w.alloc (.cells #[.int .u8 120, .int .u8 121, .int .u8 122] 5 (3, 4))) := (Bw.refl w).alloc _
  have kc := kcB w #[.int .u8 120, .int .u8 121, .int .u8 122] 3 rfl
  go_enter Try.func4, Try.ntmps4
  go_wp2_with fail
  refine (lNew hb0 _ _ (Fil.aw_is w)).mono ?_
  rintro e w1 ⟨fb, A, rfl, h1, -, -, -⟩
  clear hb0 kc
  have kc := kcB w1 #[.int .u8 97, .int .u8 98] 2 rfl
  have gA : Bw w1 (w1.alloc (.cells #[.int .u8 97, .int .u8 98] 5 (2, 3))) := (Bw.refl _).alloc _
  go_wp2_with fail
  refine (lWrite (h1.bw gA) 1 (litB [97, 98] (by simp)) (by intro x hx; simp at hx; unfold B8; omega) (by simp)).mono ?_
  rw [Fil.aw_w]
  rintro e w2 ⟨rfl, A2, h2, -⟩
  have h2' : LF w w2 fb A2 Fil.aw1 := h2
  clear h1 h2 kc gA
  go_wp2_with fail
  refine (lRead h2' 0 2 (fun i x hx => Fil.aw_p x (List.mem_of_getElem? hx))).mono ?_
  obtain ⟨r1, r2, r3⟩ := Fil.aw_r
  rw [r1, r2]
  rintro e w3 ⟨v3, rfl, ho3, h3, -⟩
  have hn3 := LF.out h2' h3 ho3
  clear h2'
  generalize (Fil.read Fil.aw1 0 2).2.2 = s3 at *
  obtain ⟨q3, c3, rfl⟩ := ho3.sl
  go_wp2_with fail
  refine (lOut h3 1).mono ?_
  rw [r3]
  rintro e w4 ⟨v4, rfl, ho4, h4, hb4⟩
  have cv4 := conv8 ho4
  have cv3 : (convert 23 9 (.slice q3 2 c3)).run Try.prog w4 = .ok (.string (strOfNums [120, 121])) w4 := conv8 (ho3.bw hb4)
  rw [show strOfNums [97, 98] = ⟨#[97, 98]⟩ from by decide +kernel] at cv4
  rw [show strOfNums [120, 121] = ⟨#[120, 121]⟩ from by decide +kernel] at cv3
  go_wp2_with fail
  refine (lUse h4).mono ?_
  rintro e w5 ⟨ub, rfl, -, h5, -⟩
  go_wp2_with fail
  go_returns
  exact ⟨rfl, h5.b⟩
end Go.Proofs.Ytncidjkkngbclaa
namespace Go.Proofs.Ytncidjkkngbclaa
open Go.ChangeShapes Go.WideShapes Go.ChangeAt Go.RowKit

theorem Own8.stp {w0 w w' : World} {v : Value} {l : List Int} {A A' : Nat → Prop} (h : Own8 w0 w v l) (hn : ∀ j, v.ownBlock = some j → ¬ A j) (g : Stp A A' w w') : Own8 w0 w' v l ∧ ∀ j, v.ownBlock = some j → ¬ A' j :=
  ⟨h.heap (fun j hj => g.fz.block j (h.blk j hj).2 (hn j hj)), fun j hj e => hn j hj (g.le j (h.blk j hj).2 e)⟩
def Fil.na : ByteArray := ⟨#[97]⟩
/-- A feed of one file, and of short reads. -/
def Fil.oneS (name : ByteArray) (data sh : List Int) : Fee.Fd := ⟨[], [], sh, [], [], [⟨name, data⟩]⟩
def Fil.p (name : ByteArray) (data sh : List Int) : Fil.St := ⟨[⟨⟨#[]⟩, []⟩, ⟨name, data⟩], [⟨1, 0, 0⟩, ⟨2, 0, 0⟩, ⟨2, 0, 0⟩] ++ List.replicate 13 Fil.no, [], [], sh, [], [], 0, 0, 0⟩
def Fil.q (name : ByteArray) (data sh : List Int) (p a : Nat) : Fil.St := ⟨[⟨⟨#[]⟩, []⟩, ⟨name, data⟩], [⟨1, 0, 0⟩, ⟨2, 0, 0⟩, ⟨2, 0, 0⟩, ⟨1, 1, p⟩] ++ List.replicate 12 Fil.no, [], [], sh, [], [], a, 0, 0⟩
theorem Fil.good_one {name : ByteArray} {data sh : List Int} (hn : name.size ≠ 0 ∧ name.size ≤ 40 ∧ Fee.nul name = false) (hd : data.length ≤ 4096) (hs : sh.length ≤ 64) (hx : ∀ x ∈ sh, 0 ≤ x ∧ x ≤ 4096) : Fee.good (Fil.oneS name data sh) = true := by
  have h1 : Fee.shortOk sh = true := by
    unfold Fee.shortOk
    rw [Bool.and_eq_true, decide_eq_true_eq, List.all_eq_true]
    exact ⟨hs, fun x h => by unfold Fee.shOk; rw [Bool.and_eq_true, decide_eq_true_eq, decide_eq_true_eq]; exact hx x h⟩
  have h2 : Fee.filesOk [⟨name, data⟩] = true := by
    unfold Fee.filesOk
    rw [Bool.and_eq_true, decide_eq_true_eq]
    refine ⟨by simp, ?_⟩
    unfold Fee.filesFrom Fee.fileOk
    rw [decide_eq_true hn.1, decide_eq_true hn.2.1, hn.2.2, decide_eq_true hd]
    rfl
  unfold Fee.good Fil.oneS
  rw [h1, h2]
  rfl
theorem Fil.new_one {name : ByteArray} {data sh : List Int} (h : Fee.good (Fil.oneS name data sh) = true) : Fil.new (Fil.oneS name data sh) = Fil.p name data sh := by
  unfold Fil.new Fee.beg
  rw [if_pos h]
  rfl
theorem Fil.open_p (name : ByteArray) (data sh : List Int) : Fil.open (Fil.p name data sh) name = (3, Fil.q name data sh 0 0) := by
  have h1 : Fil.find (Fil.p name data sh).srcs name = 1 := by
    unfold Fil.find Fil.p
    simp [List.findIdx?_cons]
  unfold Fil.open
  rw [h1]
  rfl
theorem Fil.seek_q0 (name : ByteArray) (data sh : List Int) (p a : Nat) (at_ : Int) (h : 0 ≤ at_) : Fil.seek (Fil.q name data sh p a) 3 at_ 0 = (at_, Fil.q name data sh at_.toNat a) := by
  have hp : Fil.place (Fil.q name data sh p a) ⟨1, 1, p⟩ at_ 0 = at_ := rfl
  have hd : Fil.hd (Fil.q name data sh p a) 3 = ⟨1, 1, p⟩ := rfl
  unfold Fil.seek
  rw [hd, if_neg (show ¬ (1 : Int) = 0 by decide), if_neg (show ¬ (1 : Int) = 2 by decide), if_neg (by decide), hp, if_neg (by omega)]
  rfl
theorem Fil.seek_q1 (name : ByteArray) (data sh : List Int) (p a : Nat) : Fil.seek (Fil.q name data sh p a) 3 0 1 = ((p : Int), Fil.q name data sh p a) := by
  have hp : Fil.place (Fil.q name data sh p a) ⟨1, 1, p⟩ 0 1 = (p : Int) := by show (0 : Int) + p = p; omega
  have hd : Fil.hd (Fil.q name data sh p a) 3 = ⟨1, 1, p⟩ := rfl
  unfold Fil.seek
  rw [hd, if_neg (show ¬ (1 : Int) = 0 by decide), if_neg (show ¬ (1 : Int) = 2 by decide), if_neg (by decide), hp, if_neg (by omega), Int.toNat_natCast]
  rfl
theorem Fil.seek_q2 (name : ByteArray) (data sh : List Int) (p a : Nat) : Fil.seek (Fil.q name data sh p a) 3 0 2 = ((data.length : Int), Fil.q name data sh data.length a) := by
  have hp : Fil.place (Fil.q name data sh p a) ⟨1, 1, p⟩ 0 2 = (data.length : Int) := by show (0 : Int) + data.length = data.length; omega
  have hd : Fil.hd (Fil.q name data sh p a) 3 = ⟨1, 1, p⟩ := rfl
  unfold Fil.seek
  rw [hd, if_neg (show ¬ (1 : Int) = 0 by decide), if_neg (show ¬ (1 : Int) = 2 by decide), if_neg (by decide), hp, if_neg (by omega), Int.toNat_natCast]
  rfl
def Fil.part (data sh : List Int) (p a : Nat) (n : Int) : List Int := (data.drop p).take (Fee.take sh a (min (max n 0) 4096)).1.toNat
theorem Fil.read_q (name : ByteArray) (data sh : List Int) (p a : Nat) (n : Int) : Fil.read (Fil.q name data sh p a) 3 n = (Fil.part data sh p a n, ((Fil.part data sh p a n).length : Int), Fil.q name data sh (p + (Fil.part data sh p a n).length) (Fee.take sh a (min (max n 0) 4096)).2) := by
  have hd : Fil.hd (Fil.q name data sh p a) 3 = ⟨1, 1, p⟩ := rfl
  unfold Fil.read
  rw [hd, if_neg (show ¬ (1 : Int) ≠ 1 by decide)]
  rfl
theorem Fil.q_pos (name : ByteArray) (data sh : List Int) (p a : Nat) (h : p ≤ 4611686018427387904) : ∀ (i : Nat) x, (Fil.q name data sh p a).op[i]? = some x → x.pos ≤ 4611686018427387904 := fun i x hx => by
  have hm : x ∈ ([⟨1, 0, 0⟩, ⟨2, 0, 0⟩, ⟨2, 0, 0⟩, ⟨1, 1, p⟩] ++ List.replicate 12 Fil.no) := List.mem_of_getElem? hx
  rcases List.mem_append.1 hm with hm | hm
  · simp at hm
    rcases hm with rfl | rfl | rfl <;> simp
    exact h
  · rw [List.eq_of_mem_replicate hm]; simp [Fil.no]
theorem Fil.oneS_is {w : World} {name : ByteArray} {data sh : List Int} {u vs : Value} (hu : Rd8 w u data) (h8 : B8s data) (hs : NsS w vs sh) (hw : ∀ n ∈ sh, -9223372036854775808 ≤ n ∧ n ≤ 9223372036854775807) : IsFd (w.alloc (.cells #[.string name, u] 63)) (.agg #[.slice none 0 0, .slice none 0 0, vs, .slice none 0 0, .slice none 0 0, .slice (some ⟨w.heap.size, 0, none⟩) 1 1]) (Fil.oneS name data sh) :=
  ⟨_, _, _, _, _, _, rfl, RdR.nil _ _, RdR.nil _ _, RdR.bw hs ((Bw.refl w).alloc _), RdR.nil _ _, RdR.nil _ _, ⟨[u], rfl, RdR.new (sz := 2) (n := 1) w [.string name, u] 63 rfl (by omega), fun i f v a b => by
    cases i with
    | zero => simp [Fil.oneS] at a b; subst a; subst b; exact hu.bw ((Bw.refl w).alloc _)
    | succ i => simp [Fil.oneS] at a, fun f hf => by simp [Fil.oneS] at hf; subst hf; exact h8⟩, ⟨by intro x hx; simp [Fil.oneS] at hx, hw, by intro x hx; simp [Fil.oneS] at hx, by simp [Fil.oneS]⟩⟩
theorem Fil.na_ok : Fil.na.size ≠ 0 ∧ Fil.na.size ≤ 40 ∧ Fee.nul Fil.na = false := by decide +kernel
end Go.Proofs.Ytncidjkkngbclaa
namespace Go.Proofs.Ytncidjkkngbclaa
open Go.ChangeShapes Go.WideShapes Go.ChangeAt Go.RowKit

def Fil.isO (h : Fil.H) : Bool := h.kind != 0
def Fil.tab (op : List Fil.H) : List Value := op.map (fun h => Value.bool (Fil.isO h)) ++ List.replicate 48 (Value.bool false)
def Fil.cnt (op : List Fil.H) : Nat := op.countP Fil.isO
def Fil.sN (op : List Fil.H) : Fil.St := ⟨[⟨⟨#[]⟩, []⟩, ⟨Fil.na, [49]⟩], op, [], [], [], [], [], 0, 0, 0⟩
theorem Fil.tab_len {op : List Fil.H} (h : op.length = 16) : (Fil.tab op).length = 64 := by unfold Fil.tab; simp [h]
theorem Fil.tab_lo {op : List Fil.H} {i : Nat} {h : Fil.H} (hi : op[i]? = some h) : (Fil.tab op)[i]? = some (.bool (Fil.isO h)) := by
  have hl := (List.getElem?_eq_some_iff.1 hi).1
  unfold Fil.tab
  rw [List.getElem?_append_left (by simpa using hl), List.getElem?_map, hi]; rfl
theorem Fil.tab_hi {op : List Fil.H} (h : op.length = 16) {i : Nat} (h1 : 16 ≤ i) (h2 : i < 64) : (Fil.tab op)[i]? = some (.bool false) := by
  unfold Fil.tab
  rw [List.getElem?_append_right (by simp; omega), List.getElem?_replicate, if_pos (by simp; omega)]
theorem Fil.tab_set {op : List Fil.H} {i : Nat} (hi : i < op.length) (x : Fil.H) : (Fil.tab op).set i (.bool (Fil.isO x)) = Fil.tab (op.set i x) := by
  unfold Fil.tab
  rw [List.set_append_left _ _ (by simpa using hi), List.map_set]
theorem Fil.cnt_set {op : List Fil.H} {i : Nat} {h : Fil.H} (hi : op[i]? = some h) (x : Fil.H) : Fil.cnt (op.set i x) = Fil.cnt op - (if Fil.isO h then 1 else 0) + (if Fil.isO x then 1 else 0) := by
  obtain ⟨hl, rfl⟩ := List.getElem?_eq_some_iff.1 hi
  unfold Fil.cnt
  rw [List.countP_set hl]
theorem Fil.cnt_pos {op : List Fil.H} {i : Nat} {h : Fil.H} (hi : op[i]? = some h) (ho : Fil.isO h = true) : 1 ≤ Fil.cnt op := by
  unfold Fil.cnt
  exact List.countP_pos_iff.2 ⟨h, List.mem_of_getElem? hi, ho⟩
theorem Fil.cnt_le (op : List Fil.H) : Fil.cnt op ≤ op.length := List.countP_le_length
theorem Fil.cnt_all {op : List Fil.H} (h : ∀ (i : Nat) x, i < op.length → op[i]? = some x → Fil.isO x = true) : Fil.cnt op = op.length := by
  unfold Fil.cnt
  rw [List.countP_eq_length]
  intro x hx
  obtain ⟨i, hi, rfl⟩ := List.getElem_of_mem hx
  exact h i _ hi (List.getElem?_eq_getElem hi)
theorem Fil.cnt_lt {op : List Fil.H} {i : Nat} {h : Fil.H} (hi : op[i]? = some h) (ho : Fil.isO h = false) : Fil.cnt op < op.length := by
  apply Decidable.byContradiction
  intro hn
  have he : Fil.cnt op = op.length := by have := Fil.cnt_le op; omega
  unfold Fil.cnt at he
  rw [List.countP_eq_length] at he
  have := he h (List.mem_of_getElem? hi)
  rw [ho] at this; simp at this
theorem Fil.find_sN (op : List Fil.H) : Fil.find (Fil.sN op).srcs Fil.na = 1 := by
  unfold Fil.find Fil.sN
  simp [List.findIdx?_cons]
theorem Fil.open_sN {op : List Fil.H} {k : Nat} (h : Fil.free op = some k) : Fil.open (Fil.sN op) Fil.na = ((k : Int), Fil.sN (op.set k ⟨1, 1, 0⟩)) := by
  unfold Fil.open
  rw [Fil.find_sN, if_neg (by decide), show (Fil.sN op).op = op from rfl, h]; rfl
theorem Fil.open_full {op : List Fil.H} (h : Fil.free op = none) : Fil.open (Fil.sN op) Fil.na = (-24, Fil.sN op) := by
  unfold Fil.open
  rw [Fil.find_sN, if_neg (by decide), show (Fil.sN op).op = op from rfl, h]; rfl
theorem Fil.isO_iff (h : Fil.H) : Fil.isO h = true ↔ h.kind ≠ 0 := by unfold Fil.isO; simp
theorem Fil.isO_no (h : Fil.H) : Fil.isO h = false ↔ h.kind = 0 := by unfold Fil.isO; simp
theorem Fil.free_tab {op : List Fil.H} {k : Nat} {x : Fil.H} (hx : op[k]? = some x) (h0 : Fil.isO x = false) (hno : ∀ (i : Nat) y, i < k → op[i]? = some y → Fil.isO y = true) : Fil.free op = some k :=
  idx_hit hx (by have := (Fil.isO_no x).1 h0; simp [this]) (fun i y hi hy => by have := (Fil.isO_iff y).1 (hno i y hi hy); simpa using this)
theorem Fil.free_full {op : List Fil.H} (hno : ∀ (i : Nat) y, i < op.length → op[i]? = some y → Fil.isO y = true) : Fil.free op = none :=
  idx_none (fun i y hi hy => by have := (Fil.isO_iff y).1 (hno i y hi hy); simpa using this)
theorem Fil.close_sN {op : List Fil.H} (hl : op.length = 16) {k : Nat} {x : Fil.H} (hx : op[k]? = some x) (ho : Fil.isO x = true) : Fil.close (Fil.sN op) k = (0, Fil.sN (op.set k Fil.no)) := by
  have hk : k < 16 := by rw [← hl]; exact (List.getElem?_eq_some_iff.1 hx).1
  have hd : Fil.hd (Fil.sN op) (k : Int) = x := by
    unfold Fil.hd
    rw [if_pos (by omega), Int.toNat_natCast, show (Fil.sN op).op = op from rfl, hx]; rfl
  unfold Fil.close
  rw [hd, if_neg ((Fil.isO_iff x).1 ho), Int.toNat_natCast]; rfl
theorem Fil.close_no {op : List Fil.H} (hl : op.length = 16) {k : Nat} (h : ∀ x, op[k]? = some x → Fil.isO x = false) : Fil.close (Fil.sN op) k = (-9, Fil.sN op) := by
  have hd : (Fil.hd (Fil.sN op) (k : Int)).kind = 0 := by
    unfold Fil.hd
    by_cases hk : k < 16
    · rw [if_pos (by omega), Int.toNat_natCast, show (Fil.sN op).op = op from rfl, List.getElem?_eq_getElem (by omega)]
      exact (Fil.isO_no _).1 (h _ (List.getElem?_eq_getElem (by omega)))
    · rw [if_neg (by omega)]; rfl
  unfold Fil.close
  rw [if_pos hd]
/-- A table's box beside open files. -/
structure TabS (W w : World) (fb ob : Nat) (A : Nat → Prop) (op : List Fil.H) : Prop where
  l : LF W w fb A (Fil.sN op)
  t : Box w ob (Fil.tab op)
  n : ¬ A ob
  o : W.heap.size ≤ ob
theorem TabS.step {W w w' : World} {fb ob : Nat} {A : Nat → Prop} {op op' : List Fil.H} (h : TabS W w fb ob A op) (hl : LF W w' fb A (Fil.sN op')) (g : Fz A w w') (hlt : ob < w.heap.size) : LF W w' fb A (Fil.sN op') ∧ Box w' ob (Fil.tab op) := ⟨hl, h.t.blk (g.block ob hlt h.n)⟩
theorem TabS.lt {W w : World} {fb ob : Nat} {A : Nat → Prop} {op : List Fil.H} (h : TabS W w fb ob A op) : ob < w.heap.size := by
  have hl := h.l.f.ok.ln
  have ht := h.t
  have h0 := ht.c 63 _ (Fil.tab_hi (show op.length = 16 from hl) (by omega) (by omega))
  apply Decidable.byContradiction
  intro hn
  have : w.heap[ob]? = none := by simp; omega
  simp [World.cell?, this] at h0
end Go.Proofs.Ytncidjkkngbclaa
namespace Go.Proofs.Ytncidjkkngbclaa
open Go.ChangeShapes Go.WideShapes Go.ChangeAt Go.RowKit

theorem Fee.nul_true {s : ByteArray} {k : Nat} (h : s.data.toList[k]? = some 0) : Fee.nul s = true := by
  unfold Fee.nul
  rw [decide_eq_true_eq]
  have h1 := Lib.indexByte_ge s.data.toList 0
  apply Decidable.byContradiction
  intro hn
  exact Lib.indexByte_none (by omega) k h
theorem Fee.nul_false {s : ByteArray} (h : ∀ k : Nat, s.data.toList[k]? ≠ some 0) : Fee.nul s = false := by
  unfold Fee.nul
  rw [decide_eq_false_iff_not]
  intro hn
  obtain ⟨o, ho⟩ : ∃ o : Nat, Lib.indexByte s.data.toList 0 = o := ⟨(Lib.indexByte s.data.toList 0).toNat, by omega⟩
  exact h o (Lib.indexByte_some ho).1
theorem size_list (s : ByteArray) : s.data.toList.length = s.size := Array.length_toList
theorem byte_at {s : ByteArray} {i : Nat} {x : UInt8} (h : s.data.toList[i]? = some x) : ∀ hi, s[i]'hi = x := by
  intro hi
  have hl : i < s.data.toList.length := (List.getElem?_eq_some_iff.1 h).1
  rw [List.getElem?_eq_getElem hl] at h
  rw [← Option.some.inj h]
  simp [ByteArray.getElem_eq_getElem_data]
set_option maxHeartbeats 1000000 in
set_option maxRecDepth 100000 in
theorem noughts_c (s : ByteArray) (w : World) (hz : s.size ≤ 1000000) : Calls Try.prog 46 #[.string s] w fun e w' => e = .returned (.bool (Fee.nul s)) ∧ Bw w w' := by
  generalize hR : Fee.nul s = R
  have HR : Hid _ := hR
  clear hR
  go_enter Try.func46, Try.ntmps46
  go_wp2_with fail
  go_loopg [3] s.size (fun g j wr => ∃ k : Nat, k + g = s.size ∧ j = .int .i64 k ∧ Bw w wr ∧ ∀ i, i < k → s.data.toList[i]? ≠ some 0)
  case atStart => exact ⟨0, by omega, rfl, Bw.refl _, fun i h => by omega⟩
  case round =>
    obtain ⟨k, hkg, rfl, hbw, hno⟩ := hrel
    have HNo : Hid _ := hno
    clear hno
    by_cases hk : k = s.size
    · subst hk
      have hR : Hid (false = R) := ((show _ = R from HR).symm.trans (Fee.nul_false (fun i => by
        by_cases hi : i < s.size
        · exact (show ∀ i, i < s.size → s.data.toList[i]? ≠ some 0 from HNo) i hi
        · rw [List.getElem?_eq_none (by rw [size_list]; omega)]; simp))).symm
      go_wp2_with fail
      go_returns
      exact ret_bool hR hbw
    · have hkl : k < s.size := by omega
      have hki : (k : Int) < (s.size : Int) := by omega
      have hkn : ¬ (s.size ≤ k) := by omega
      obtain ⟨x, hx⟩ : ∃ x, s.data.toList[k]? = some x := ⟨_, List.getElem?_eq_getElem (by rw [size_list]; exact hkl)⟩
      have hgx := byte_at hx
      by_cases h0 : x = 0
      · subst h0
        have hR : Hid (true = R) := ((show _ = R from HR).symm.trans (Fee.nul_true hx)).symm
        clear hx HNo
        go_wp2_with fail
        go_returns
        exact ret_bool hR hbw
      · have hx0 : ((x.toNat : Int) == 0) = false := by
          rw [beq_eq_false_iff_ne]
          intro e
          apply h0
          rw [← UInt8.toNat_inj]
          simpa using e
        have hx1 : ¬ (x.toNat = 0) := by simpa using hx0
        have HNo2 : Hid (∀ i, i < k + 1 → s.data.toList[i]? ≠ some 0) := fun i hi => by
          by_cases e : i = k
          · subst e; rw [hx]; simpa using h0
          · exact (show ∀ i, i < k → s.data.toList[i]? ≠ some 0 from HNo) i (by omega)
        clear hx HNo
        go_wp2_with fail
        go_roundg (s.size - (k + 1))
        case measure => omega
        case rel => exact ⟨k + 1, by omega, by simp, hbw, HNo2⟩
end Go.Proofs.Ytncidjkkngbclaa
