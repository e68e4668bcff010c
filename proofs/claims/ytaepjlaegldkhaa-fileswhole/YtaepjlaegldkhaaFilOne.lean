/- LAYER 11's laws over one file: its states, plain. -/
import Derived.Test.YtaepjlaegldkhaaFilL
namespace Go.Proofs.Ytaepjlaegldkhaa
open Go.ChangeShapes Go.WideShapes Go.ChangeAt Go.RowKit

theorem Own8.stp {w0 w w' : World} {v : Value} {l : List Int} {A A' : Nat → Prop} (h : Own8 w0 w v l) (hn : ∀ j, v.ownBlock = some j → ¬ A j) (g : Stp A A' w w') : Own8 w0 w' v l ∧ ∀ j, v.ownBlock = some j → ¬ A' j :=
  ⟨h.heap (fun j hj => g.fz.block j (h.blk j hj).2 (hn j hj)), fun j hj e => hn j hj (g.le j (h.blk j hj).2 e)⟩
def Fil.na : ByteArray := ⟨#[97]⟩
/-- A feed of one file, and of short reads. -/
def Fil.oneS (name : ByteArray) (data sh : List Int) : Fee.Fd := ⟨[], [], sh, [], [], [⟨name, data⟩]⟩
def Fil.p (name : ByteArray) (data sh : List Int) : Fil.St := ⟨[⟨⟨#[]⟩, []⟩, ⟨name, data⟩], [⟨1, 0, 0⟩, ⟨2, 0, 0⟩, ⟨2, 0, 0⟩] ++ List.replicate 13 Fil.no, [], [], sh, [], [], 0, 0, 0⟩
def Fil.q (name : ByteArray) (data sh : List Int) (p a : Nat) : Fil.St := ⟨[⟨⟨#[]⟩, []⟩, ⟨name, data⟩], [⟨1, 0, 0⟩, ⟨2, 0, 0⟩, ⟨2, 0, 0⟩, ⟨1, 1, p⟩] ++ List.replicate 12 Fil.no, [], [], sh, [], [], a, 0, 0⟩
theorem Fil.good_one {name : ByteArray} {data sh : List Int} (hn : name.size ≠ 0 ∧ name.size ≤ 40 ∧ Fee.nul name = false) (hd : data.length ≤ 4096) (hs : sh.length ≤ 64) (hx : ∀ x ∈ sh, 0 ≤ x ∧ x ≤ 4096) : Fee.good (Fil.oneS name data sh) = true := by
  have h1 : Fee.shortOk sh = true := by
    unfold Fee.shortOk
    rw [Bool.and_eq_true, decide_eq_true_eq, List.all_eq_true]
    exact ⟨hs, fun x h => by unfold Fee.shOk; rw [Bool.and_eq_true, decide_eq_true_eq, decide_eq_true_eq]; exact hx x h⟩
  have h2 : Fee.filesOk [⟨name, data⟩] = true := by
    unfold Fee.filesOk
    rw [Bool.and_eq_true, decide_eq_true_eq]
    refine ⟨by simp, ?_⟩
    unfold Fee.filesFrom Fee.fileOk
    rw [decide_eq_true hn.1, decide_eq_true hn.2.1, hn.2.2, decide_eq_true hd]
    rfl
  unfold Fee.good Fil.oneS
  rw [h1, h2]
  rfl
theorem Fil.new_one {name : ByteArray} {data sh : List Int} (h : Fee.good (Fil.oneS name data sh) = true) : Fil.new (Fil.oneS name data sh) = Fil.p name data sh := by
  unfold Fil.new Fee.beg
  rw [if_pos h]
  rfl
theorem Fil.open_p (name : ByteArray) (data sh : List Int) : Fil.open (Fil.p name data sh) name = (3, Fil.q name data sh 0 0) := by
  have h1 : Fil.find (Fil.p name data sh).srcs name = 1 := by
    unfold Fil.find Fil.p
    simp [List.findIdx?_cons]
  unfold Fil.open
  rw [h1]
  rfl
theorem Fil.seek_q0 (name : ByteArray) (data sh : List Int) (p a : Nat) (at_ : Int) (h : 0 ≤ at_) : Fil.seek (Fil.q name data sh p a) 3 at_ 0 = (at_, Fil.q name data sh at_.toNat a) := by
  have hp : Fil.place (Fil.q name data sh p a) ⟨1, 1, p⟩ at_ 0 = at_ := rfl
  have hd : Fil.hd (Fil.q name data sh p a) 3 = ⟨1, 1, p⟩ := rfl
  unfold Fil.seek
  rw [hd, if_neg (show ¬ (1 : Int) = 0 by decide), if_neg (show ¬ (1 : Int) = 2 by decide), if_neg (by decide), hp, if_neg (by omega)]
  rfl
theorem Fil.seek_q1 (name : ByteArray) (data sh : List Int) (p a : Nat) : Fil.seek (Fil.q name data sh p a) 3 0 1 = ((p : Int), Fil.q name data sh p a) := by
  have hp : Fil.place (Fil.q name data sh p a) ⟨1, 1, p⟩ 0 1 = (p : Int) := by show (0 : Int) + p = p; omega
  have hd : Fil.hd (Fil.q name data sh p a) 3 = ⟨1, 1, p⟩ := rfl
  unfold Fil.seek
  rw [hd, if_neg (show ¬ (1 : Int) = 0 by decide), if_neg (show ¬ (1 : Int) = 2 by decide), if_neg (by decide), hp, if_neg (by omega), Int.toNat_natCast]
  rfl
theorem Fil.seek_q2 (name : ByteArray) (data sh : List Int) (p a : Nat) : Fil.seek (Fil.q name data sh p a) 3 0 2 = ((data.length : Int), Fil.q name data sh data.length a) := by
  have hp : Fil.place (Fil.q name data sh p a) ⟨1, 1, p⟩ 0 2 = (data.length : Int) := by show (0 : Int) + data.length = data.length; omega
  have hd : Fil.hd (Fil.q name data sh p a) 3 = ⟨1, 1, p⟩ := rfl
  unfold Fil.seek
  rw [hd, if_neg (show ¬ (1 : Int) = 0 by decide), if_neg (show ¬ (1 : Int) = 2 by decide), if_neg (by decide), hp, if_neg (by omega), Int.toNat_natCast]
  rfl
def Fil.part (data sh : List Int) (p a : Nat) (n : Int) : List Int := (data.drop p).take (Fee.take sh a (min (max n 0) 4096)).1.toNat
theorem Fil.read_q (name : ByteArray) (data sh : List Int) (p a : Nat) (n : Int) : Fil.read (Fil.q name data sh p a) 3 n = (Fil.part data sh p a n, ((Fil.part data sh p a n).length : Int), Fil.q name data sh (p + (Fil.part data sh p a n).length) (Fee.take sh a (min (max n 0) 4096)).2) := by
  have hd : Fil.hd (Fil.q name data sh p a) 3 = ⟨1, 1, p⟩ := rfl
  unfold Fil.read
  rw [hd, if_neg (show ¬ (1 : Int) ≠ 1 by decide)]
  rfl
theorem Fil.q_pos (name : ByteArray) (data sh : List Int) (p a : Nat) (h : p ≤ 4611686018427387904) : ∀ (i : Nat) x, (Fil.q name data sh p a).op[i]? = some x → x.pos ≤ 4611686018427387904 := fun i x hx => by
  have hm : x ∈ ([⟨1, 0, 0⟩, ⟨2, 0, 0⟩, ⟨2, 0, 0⟩, ⟨1, 1, p⟩] ++ List.replicate 12 Fil.no) := List.mem_of_getElem? hx
  rcases List.mem_append.1 hm with hm | hm
  · simp at hm
    rcases hm with rfl | rfl | rfl <;> simp
    exact h
  · rw [List.eq_of_mem_replicate hm]; simp [Fil.no]
theorem Fil.oneS_is {w : World} {name : ByteArray} {data sh : List Int} {u vs : Value} (hu : Rd8 w u data) (h8 : B8s data) (hs : NsS w vs sh) (hw : ∀ n ∈ sh, -9223372036854775808 ≤ n ∧ n ≤ 9223372036854775807) : IsFd (w.alloc (.cells #[.string name, u] 27)) (.agg #[.slice none 0 0, .slice none 0 0, vs, .slice none 0 0, .slice none 0 0, .slice (some ⟨w.heap.size, 0, none⟩) 1 1]) (Fil.oneS name data sh) :=
  ⟨_, _, _, _, _, _, rfl, RdR.nil _ _, RdR.nil _ _, RdR.bw hs ((Bw.refl w).alloc _), RdR.nil _ _, RdR.nil _ _, ⟨[u], rfl, RdR.new (sz := 2) (n := 1) w [.string name, u] 27 rfl (by omega), fun i f v a b => by
    cases i with
    | zero => simp [Fil.oneS] at a b; subst a; subst b; exact hu.bw ((Bw.refl w).alloc _)
    | succ i => simp [Fil.oneS] at a, fun f hf => by simp [Fil.oneS] at hf; subst hf; exact h8⟩, ⟨by intro x hx; simp [Fil.oneS] at hx, hw, by intro x hx; simp [Fil.oneS] at hx, by simp [Fil.oneS]⟩⟩
theorem Fil.na_ok : Fil.na.size ≠ 0 ∧ Fil.na.size ≤ 40 ∧ Fee.nul Fil.na = false := by decide +kernel
end Go.Proofs.Ytaepjlaegldkhaa
