/- LAYER 9, plain: a feed out of its bytes; Get of Put; with more behind it; cut off. -/
import Derived.Test.YtmecompcffphcaaFeeGt2
import Derived.Test.YtmecompcffphcaaFeeP2
namespace Go.Proofs.Ytmecompcffphcaa
open Go.ChangeShapes Go.WideShapes Go.ChangeAt Go.RowKit
set_option linter.unusedSimpArgs false
set_option linter.unusedVariables false

/-- So many, one behind the other. -/
def Fee.many {α : Type} (st : List Int → Bool → α × List Int × Bool) : Nat → List Int → Bool → List α × List Int × Bool
  | 0, L, fl => ([], L, fl)
  | n + 1, L, fl => ((st L fl).1 :: (Fee.many st n (st L fl).2.1 (st L fl).2.2).1, (Fee.many st n (st L fl).2.1 (st L fl).2.2).2)
def Fee.rArg (L : List Int) (fl : Bool) : ByteArray × List Int × Bool := (strOfNums (Fee.rt 200 L fl).1, (Fee.rt 200 L fl).2)
def Fee.rFile (L : List Int) (fl : Bool) : Fee.Fl × List Int × Bool :=
  (⟨strOfNums (Fee.rt 40 L fl).1, (Fee.rt 4096 (Fee.rt 40 L fl).2.1 (Fee.rt 40 L fl).2.2).1⟩, (Fee.rt 4096 (Fee.rt 40 L fl).2.1 (Fee.rt 40 L fl).2.2).2)
/-- A number, and so many. -/
def Fee.some {α : Type} (m : Int) (st : List Int → Bool → α × List Int × Bool) (L : List Int) (fl : Bool) : List α × List Int × Bool :=
  Fee.many st (Fee.rn m L fl).1.toNat (Fee.rn m L fl).2.1 (Fee.rn m L fl).2.2
def Fee.pair {α β : Type} (a : List Int → Bool → α × List Int × Bool) (b : List Int → Bool → β × List Int × Bool) (L : List Int) (fl : Bool) : (α × β) × List Int × Bool :=
  (((a L fl).1, (b (a L fl).2.1 (a L fl).2.2).1), (b (a L fl).2.1 (a L fl).2.2).2)
def Fee.parts : List Int → Bool → (List ByteArray × List Int × List Int × List Int × List Int × List Fee.Fl) × List Int × Bool :=
  Fee.pair (Fee.some 16 Fee.rArg) (Fee.pair (Fee.rt 4096) (Fee.pair (Fee.some 64 (Fee.rn 4096)) (Fee.pair (Fee.rt 4096) (Fee.pair (Fee.some 64 Fee.rw) (Fee.some 8 Fee.rFile)))))
def Fee.fdOf (p : List ByteArray × List Int × List Int × List Int × List Int × List Fee.Fl) : Fee.Fd := ⟨p.1, p.2.1, p.2.2.1, p.2.2.2.1, p.2.2.2.2.1, p.2.2.2.2.2⟩
def Fee.get (L : List Int) : Fee.Fd × Int :=
  if (Fee.parts L false).2.2 = true ∨ 0 < (Fee.parts L false).2.1.length ∨ Fee.good (Fee.fdOf (Fee.parts L false).1) = false then (Fee.noFd, 3) else (Fee.fdOf (Fee.parts L false).1, 0)
/-- It reads what was written so. -/
def Rds {α : Type} (st : List Int → Bool → α × List Int × Bool) (enc : List Int) (x : α) : Prop := ∀ R, st (enc ++ R) false = (x, R, false)
/-- Once it has not failed, more behind it does not count. -/
def Stb {α : Type} (st : List Int → Bool → α × List Int × Bool) : Prop := ∀ L S fl, (st L fl).2.2 = false → fl = false ∧ st (L ++ S) fl = ((st L fl).1, (st L fl).2.1 ++ S, false)
theorem Fee.w4_val (x : Int) : x % 256 + x / 256 % 256 * 256 + x / 65536 % 256 * 65536 + x / 16777216 * 16777216 = x := by omega
theorem rds_rw (x : Int) : Rds Fee.rw (Fee.w4 x) x := fun R => by
  show (_, R, false) = _
  rw [Fee.w4_val x]
theorem rds_rn {m x : Int} (h0 : 0 ≤ x) (h1 : x < 4294967296) (hm : x ≤ m) : Rds (Fee.rn m) (Fee.w4 x) x := fun R => by
  unfold Fee.rn
  rw [rds_rw x R, if_neg (by dsimp only; omega)]
theorem rds_rt {m : Int} {l : List Int} (h1 : l.length ≤ 1000000) (hm : (l.length : Int) ≤ m) : Rds (Fee.rt m) (Fee.txt l) l := fun R => by
  unfold Fee.rt Fee.txt
  rw [List.append_assoc, rds_rn (by omega) (by omega) hm (l ++ R)]
  dsimp only
  rw [if_neg (by rw [List.length_append]; omega), Int.toNat_natCast, List.take_left, List.drop_left]
theorem rds_many {α : Type} {st : List Int → Bool → α × List Int × Bool} {enc : α → List Int} : ∀ l : List α, (∀ x ∈ l, Rds st (enc x) x) → ∀ R, Fee.many st l.length (l.flatMap enc ++ R) false = (l, R, false)
  | [], _, R => rfl
  | x :: r, h, R => by
    rw [List.flatMap_cons, List.append_assoc, List.length_cons, Fee.many, h x (by simp) (r.flatMap enc ++ R)]
    dsimp only
    rw [rds_many r (fun y hy => h y (by simp [hy])) R]
theorem rds_some {α : Type} {m : Int} {st : List Int → Bool → α × List Int × Bool} {enc : α → List Int} (l : List α) (h : ∀ x ∈ l, Rds st (enc x) x) (hl : l.length ≤ 1000000) (hm : (l.length : Int) ≤ m) : Rds (Fee.some m st) (Fee.w4 l.length ++ l.flatMap enc) l := fun R => by
  unfold Fee.some
  rw [List.append_assoc, rds_rn (by omega) (by omega) hm (l.flatMap enc ++ R)]
  dsimp only
  rw [Int.toNat_natCast, rds_many l h R]
theorem rds_pair {α β : Type} {a : List Int → Bool → α × List Int × Bool} {b : List Int → Bool → β × List Int × Bool} {e1 e2 : List Int} {x : α} {y : β} (h : Rds a e1 x) (k : Rds b e2 y) : Rds (Fee.pair a b) (e1 ++ e2) (x, y) := fun R => by
  unfold Fee.pair
  rw [List.append_assoc, h (e2 ++ R)]
  dsimp only
  rw [k R]
theorem rds_arg {s : ByteArray} (h : s.size ≤ 200) : Rds Fee.rArg (Fee.argB s) s := fun R => by
  unfold Fee.rArg Fee.argB
  rw [rds_rt (by rw [Fee.sb_len]; omega) (by rw [Fee.sb_len]; omega) R]
  dsimp only
  rw [str_sb]
theorem rds_file {x : Fee.Fl} (h : x.name.size ≤ 40) (k : x.data.length ≤ 4096) : Rds Fee.rFile (Fee.flB x) x := fun R => by
  unfold Fee.rFile Fee.flB
  rw [List.append_assoc, rds_rt (by rw [Fee.sb_len]; omega) (by rw [Fee.sb_len]; omega) (Fee.txt x.data ++ R)]
  dsimp only
  rw [rds_rt (by omega) (by omega) R]
  dsimp only
  rw [str_sb]
theorem Fee.parts_put {f : Fee.Fd} (hg : Fee.good f = true) (hw : Fee.Wf f) : Rds Fee.parts (Fee.put f) (f.args, f.input, f.short, f.random, f.clock, f.files) := by
  obtain ⟨p1, p2, p3⟩ := Fee.good_parts hg
  obtain ⟨l1, l2, l3, l4, l5, l6⟩ := Fee.good_len hg
  have h := rds_pair (rds_some (m := 16) f.args (fun x hx => rds_arg (p1 x hx)) (by omega) (by omega)) (rds_pair (rds_rt (m := 4096) (l := f.input) (by omega) (by omega)) (rds_pair (rds_some (m := 64) (st := Fee.rn 4096) (enc := Fee.w4) f.short (fun x hx => rds_rn (p2 x hx).1 (by have := (p2 x hx).2; omega) (p2 x hx).2) (by omega) (by omega)) (rds_pair (rds_rt (m := 4096) (l := f.random) (by omega) (by omega)) (rds_pair (rds_some (m := 64) (st := Fee.rw) (enc := Fee.w4) f.clock (fun x _ => rds_rw x) (by omega) (by omega)) (rds_some (m := 8) f.files (fun x hx => rds_file (p3 x hx).1 (p3 x hx).2) (by omega) (by omega))))))
  intro R
  have := h R
  unfold Fee.parts Fee.put
  simp only [List.append_assoc] at this ⊢
  exact this
theorem Fee.get_put {f : Fee.Fd} (hg : Fee.good f = true) (hw : Fee.Wf f) : Fee.get (Fee.put f) = (f, 0) := by
  have h := Fee.parts_put hg hw []
  rw [List.append_nil] at h
  unfold Fee.get
  rw [h]
  rw [if_neg (by simp [Fee.fdOf, hg])]
  rfl
theorem Fee.get_more {f : Fee.Fd} (hg : Fee.good f = true) (hw : Fee.Wf f) {R : List Int} (hR : 0 < R.length) : Fee.get (Fee.put f ++ R) = (Fee.noFd, 3) := by
  have h := Fee.parts_put hg hw R
  unfold Fee.get
  rw [h, if_pos (Or.inr (Or.inl hR))]
theorem stb_rw : Stb Fee.rw := fun L S fl h => by
  match L, h with
  | x0 :: x1 :: x2 :: x3 :: r, h => exact ⟨h, by simp only [Fee.rw] at h; subst h; rfl⟩
  | [], h => simp [Fee.rw] at h
  | [_], h => simp [Fee.rw] at h
  | [_, _], h => simp [Fee.rw] at h
  | [_, _, _], h => simp [Fee.rw] at h
theorem stb_rn (m : Int) : Stb (Fee.rn m) := fun L S fl h => by
  unfold Fee.rn at h ⊢
  by_cases hm : m < (Fee.rw L fl).1
  · rw [if_pos hm] at h; simp at h
  · rw [if_neg hm] at h
    obtain ⟨a, b⟩ := stb_rw L S fl h
    rw [b, if_neg hm, if_neg (by exact hm)]
    exact ⟨a, rfl⟩
theorem stb_rt (m : Int) : Stb (Fee.rt m) := fun L S fl h => by
  unfold Fee.rt at h ⊢
  by_cases hm : (Fee.rn m L fl).2.1.length < (Fee.rn m L fl).1.toNat
  · rw [if_pos hm] at h; simp at h
  · rw [if_neg hm] at h
    obtain ⟨a, b⟩ := stb_rn m L S fl h
    have hm2 : ¬ ((Fee.rn m L fl).2.1 ++ S).length < (Fee.rn m L fl).1.toNat := by rw [List.length_append]; omega
    rw [b, if_neg hm, if_neg (by exact hm2)]
    refine ⟨a, ?_⟩
    dsimp only
    rw [List.take_append_of_le_length (by omega), List.drop_append_of_le_length (by omega)]
theorem stb_many {α : Type} {st : List Int → Bool → α × List Int × Bool} (hs : Stb st) : ∀ n, Stb (Fee.many st n)
  | 0 => fun L S fl h => ⟨h, by simp only [Fee.many] at h ⊢; rw [h]⟩
  | n + 1 => fun L S fl h => by
    simp only [Fee.many] at h ⊢
    obtain ⟨a, b⟩ := stb_many hs n _ S _ h
    obtain ⟨c, d⟩ := hs L S fl a
    refine ⟨c, ?_⟩
    rw [d]
    dsimp only
    rw [a] at b
    rw [b, a]
theorem stb_some {α : Type} {m : Int} {st : List Int → Bool → α × List Int × Bool} (hs : Stb st) : Stb (Fee.some m st) := fun L S fl h => by
  unfold Fee.some at h ⊢
  obtain ⟨a, b⟩ := stb_many hs _ _ S _ h
  obtain ⟨c, d⟩ := stb_rn m L S fl a
  refine ⟨c, ?_⟩
  rw [d]
  dsimp only
  rw [a] at b
  rw [b, a]
theorem stb_pair {α β : Type} {a : List Int → Bool → α × List Int × Bool} {b : List Int → Bool → β × List Int × Bool} (ha : Stb a) (hb : Stb b) : Stb (Fee.pair a b) := fun L S fl h => by
  unfold Fee.pair at h ⊢
  obtain ⟨x, y⟩ := hb _ S _ h
  obtain ⟨c, d⟩ := ha L S fl x
  refine ⟨c, ?_⟩
  rw [d]
  dsimp only
  rw [x] at y
  rw [y, x]
theorem stb_arg : Stb Fee.rArg := fun L S fl h => by
  unfold Fee.rArg at h ⊢
  obtain ⟨a, b⟩ := stb_rt 200 L S fl h
  exact ⟨a, by rw [b]⟩
theorem stb_file : Stb Fee.rFile := fun L S fl h => by
  unfold Fee.rFile at h ⊢
  obtain ⟨x, y⟩ := stb_rt 4096 _ S _ h
  obtain ⟨c, d⟩ := stb_rt 40 L S fl x
  refine ⟨c, ?_⟩
  rw [d]
  dsimp only
  rw [x] at y
  rw [y, x]
theorem stb_parts : Stb Fee.parts := stb_pair (stb_some stb_arg) (stb_pair (stb_rt _) (stb_pair (stb_some (stb_rn _)) (stb_pair (stb_rt _) (stb_pair (stb_some stb_rw) (stb_some stb_file)))))
theorem Fee.get_cut {f : Fee.Fd} (hg : Fee.good f = true) (hw : Fee.Wf f) {n : Nat} (hn : n < (Fee.put f).length) : Fee.get ((Fee.put f).take n) = (Fee.noFd, 3) := by
  unfold Fee.get
  refine if_pos (Or.inl ?_)
  cases hf : (Fee.parts ((Fee.put f).take n) false).2.2 with
  | true => rfl
  | false =>
    have h := (stb_parts _ ((Fee.put f).drop n) false hf).2
    rw [List.take_append_drop] at h
    have h2 := Fee.parts_put hg hw []
    rw [List.append_nil, h] at h2
    have h3 := congrArg (fun p => p.2.1.length) h2
    simp only [List.length_append, List.length_drop, List.length_nil] at h3
    omega
end Go.Proofs.Ytmecompcffphcaa
