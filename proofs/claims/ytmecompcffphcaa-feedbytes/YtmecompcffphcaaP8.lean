/- BYTES of the call's own by rows (P8); words and texts as bytes; the reference's W32. -/
import Derived.Test.YtmecompcffphcaaAppS
import Derived.Lib.Strings
namespace Go.Proofs.Ytmecompcffphcaa
open Go.ChangeShapes Go.WideShapes Go.ChangeAt Go.RowKit
set_option linter.unusedSimpArgs false

def Fee.w4 (x : Int) : List Int := [x % 256, x / 256 % 256, x / 65536 % 256, x / 16777216]
def Fee.sb (s : ByteArray) : List Int := s.data.toList.map fun b => (b.toNat : Int)
def Fee.txt (l : List Int) : List Int := Fee.w4 l.length ++ l
def Fee.argB (s : ByteArray) : List Int := Fee.txt (Fee.sb s)
theorem Fee.w4_len (x : Int) : (Fee.w4 x).length = 4 := rfl
theorem Fee.sb_len (s : ByteArray) : (Fee.sb s).length = s.size := by unfold Fee.sb; rw [List.length_map]; exact Array.length_toList
theorem Fee.txt_len (l : List Int) : (Fee.txt l).length = 4 + l.length := by unfold Fee.txt; rw [List.length_append, Fee.w4_len]
theorem Fee.sb_of {l : List Int} (h : B8s l) : Fee.sb (strOfNums l) = l := by
  unfold Fee.sb strOfNums
  simp only [List.map_map]
  conv => rhs; rw [← List.map_id l]
  apply List.map_congr_left
  intro x hx
  obtain ⟨a, b⟩ := h x hx
  simp
  omega
theorem str_sb (s : ByteArray) : strOfNums (Fee.sb s) = s := by
  apply ByteArray.ext
  unfold strOfNums Fee.sb
  simp only [List.map_map]
  have : ((fun n : Int => UInt8.ofNat n.toNat) ∘ fun b : UInt8 => (b.toNat : Int)) = id := by
    funext b
    simp
  rw [this, List.map_id]
theorem take_flat {α β : Type} (F : α → List β) {l : List α} {k : Nat} {x : α} (h : l[k]? = some x) : (l.take (k + 1)).flatMap F = (l.take k).flatMap F ++ F x := by
  rw [List.take_add_one, h]; simp
/-- Bytes of the call's own. -/
def P8 (w0 w : World) (v : Value) (l : List Int) : Prop := OwnR 5 1 w0 w v l.length (ints8 l)
theorem P8.nil (w0 w : World) : P8 w0 w (.slice none 0 0) [] := OwnR.nil _ _ _ _
theorem P8.own {w0 w : World} {v : Value} {l : List Int} (h : P8 w0 w v l) : Own8 w0 w v l := Own8.of h
theorem P8.le {w0 w1 w : World} {v : Value} {l : List Int} (h : P8 w1 w v l) (k : w0.heap.size ≤ w1.heap.size) : P8 w0 w v l := by
  obtain ⟨h1, h2⟩ := h
  refine ⟨h1, ?_⟩
  rcases h2 with h2 | ⟨b, cap, cur, h3, h4, h5⟩
  · exact Or.inl h2
  · exact Or.inr ⟨b, cap, cur, h3, Nat.le_trans k h4, h5⟩
theorem ints8_app (a b : List Int) : ints8 (a ++ b) = ints8 a ++ ints8 b := by simp [ints8]
theorem P8.blk {w0 w : World} {v : Value} {l : List Int} (h : P8 w0 w v l) : ∀ j, v.ownBlock = some j → w0.heap.size ≤ j ∧ j < w.heap.size := fun j hj => by
  rcases h.2 with ⟨h2, _⟩ | ⟨b, cap, cur, h3, h4, h5, h6⟩
  · rw [h2] at hj; simp [Value.ownBlock] at hj
  · rw [h3] at hj; simp [Value.ownBlock] at hj; subst hj; exact ⟨h4, (Array.getElem?_eq_some_iff.1 h5).1⟩
theorem P8.row {w0 wr : World} {v : Value} {l : List Int} (hown : P8 w0 wr v l) (hbw : Bw w0 wr) (xs : List Int) (hn : l.length + xs.length ≤ 1000000) (c : Nat) :
    ∃ v' w', (Builtin.append_ #[22, 22] 22 #[v, .slice (some ⟨wr.heap.size, 0, none⟩) xs.length c]).run Try.prog (wr.alloc (.cells (ints8 xs).toArray 5)) = .ok v' w' ∧ P8 w0 w' v' (l ++ xs) ∧ Bw w0 w' ∧ Ap wr w' v v' := by
  obtain ⟨i, hi, he⟩ := Option.map_eq_some_iff.1 info8
  simp only [Prod.mk.injEq] at he
  obtain ⟨hz, hs, hb⟩ := he
  have hoA := OwnR.bw hown ((Bw.refl wr).alloc (.cells (ints8 xs).toArray 5))
  have hbA := hbw.alloc (.cells (ints8 xs).toArray 5)
  obtain ⟨v', w', hr, ho, hg, -, hloc⟩ := run_append_own_at (P := Try.prog) (w := wr.alloc (.cells (ints8 xs).toArray 5)) w0.heap.size 22 22 5 i (.int .u8 0) 1 1 Try.underlying22 hi hz hs hb rfl (by omega) v l.length (ints8 l) hoA ⟨wr.heap.size, 0, none⟩ xs.length c (ints8 xs) (by simp [ints8]) (cell_new wr (ints8 xs) 5) (fun u hu => by simp [ints8] at hu; obtain ⟨x, _, rfl⟩ := hu; rfl) (by unfold maxLen; omega) (by omega) hbA.size
  have hA : Ap wr w' v v' := (Ap.refl wr v).alloc (.cells (ints8 xs).toArray 5) |>.trans ⟨⟨hg.os, hg.tape, hg.output, hg.size, fun k hk => by omega⟩, fun k hk hkn => hg.block k hk (fun e => hkn e.symm), by
    rcases hloc with h | h
    · exact Or.inl h
    · exact Or.inr ⟨_, Nat.le_refl _, h⟩⟩
  exact ⟨v', w', hr, by unfold P8; rw [List.length_append, ints8_app]; exact ho, hA.toBw hbw (fun k hk => (hown.blk k hk).1), hA⟩
theorem P8.str {w0 wr : World} {v : Value} {l : List Int} (hown : P8 w0 wr v l) (hbw : Bw w0 wr) (s : ByteArray) (hn : l.length + s.size ≤ 1000000) :
    ∃ v' w', (Builtin.append_ #[22, 9] 22 #[v, .string s]).run Try.prog wr = .ok v' w' ∧ P8 w0 w' v' (l ++ Fee.sb s) ∧ Bw w0 w' ∧ ∀ k, k < wr.heap.size → v.ownBlock ≠ some k → w'.heap[k]? = wr.heap[k]? := by
  obtain ⟨i, hi, he⟩ := Option.map_eq_some_iff.1 info8
  simp only [Prod.mk.injEq] at he
  obtain ⟨hz, hs, hb⟩ := he
  obtain ⟨v', w', hr, ho, hg, _⟩ := Lib.run_append_own_string (P := Try.prog) (w := wr) w0.heap.size 22 9 22 5 i Try.underlying22 Try.underlying9 hi hz hs hb v l.length (ints8 l) hown s (by unfold maxLen; omega) (by omega) hbw.size
  refine ⟨v', w', hr, ?_, Below.grown hbw hg hbw.size (fun k hk => ?_), fun k hk hkn => hg.block k hk (fun e => hkn e.symm)⟩
  · unfold P8 OwnR
    rw [List.length_append, Fee.sb_len, ints8_app]
    have e : ints8 (Fee.sb s) = Lib.strCells s := by
      unfold ints8 Fee.sb Lib.strCells
      rw [List.map_map]
      rfl
    rw [e]
    exact ho
  · obtain ⟨h1, h2⟩ := hown
    rcases h2 with ⟨h2, _⟩ | ⟨b, cap, cur, h3, h4, h5, h6⟩
    · rw [h2] at hk; simp [Value.ownBlock] at hk
    · rw [h3] at hk; simp [Value.ownBlock] at hk; omega
theorem wpApp2 {P : Program} {w w' : World} {ops : Array Oper} {rest : List Oper} {o : Oper} {a : Act} {Q : Exit → Act → World → Prop} (hgd : o.guard = none) (s x : Operand) (t t2 : TypeId)
    (ho : o.op = .call { callee := .builtin .append, args := #[s, x], argTypes := #[t, t2] }) {v xv v' : Value} (hs : a.eval s = v) (hx : a.eval x = xv)
    (hr : (Builtin.append_ #[t, t2] o.type #[v, xv]).run P w = .ok v' w') (h : wpList P ops Q rest (a.put o.dst v') w') : wpList P ops Q (o :: rest) a w := by
  refine wpList_plain hgd fun K hK => ?_
  unfold Oper.wp execOp
  simp only [ho, resolve, invoke, builtin, Sem.run_bind, Sem.run_pure, Result.andThen_ok, List.map_toArray, List.map_cons, List.map_nil, hs, hx, hr]
  exact hK _ _ h
/-- append(x, y...), y whatever can be read. -/
theorem P8.all {w0 wr : World} {v x : Value} {l xs : List Int} (hown : P8 w0 wr v l) (hbw : Bw w0 wr) (hx : Rd8 wr x xs) (hn : l.length + xs.length ≤ 1000000) :
    ∃ v' w', (Builtin.append_ #[22, 22] 22 #[v, x]).run Try.prog wr = .ok v' w' ∧ P8 w0 w' v' (l ++ xs) ∧ Bw w0 w' := by
  obtain ⟨v', w', h1, h2, h3⟩ := appS (ty := 22) info8 Try.underlying22 rfl (by omega) (by omega) hown hbw hx (fun u hu => by simp [ints8] at hu; obtain ⟨y, _, rfl⟩ := hu; rfl) hn
  exact ⟨v', w', h1, by unfold P8; rw [List.length_append, ints8_app]; exact h2, h3⟩
set_option maxHeartbeats 1000000 in
set_option maxRecDepth 100000 in
theorem rW32_c (w : World) (v : Value) (L : List Int) (x : Int) (hv : Rd8 w v L) (x0 : 0 ≤ x) (x1 : x < 4294967296) (hn : L.length ≤ 900000) :
    Calls Try.prog 25 #[v, .int .u32 x] w fun e w' => ∃ v', e = .returned v' ∧ P8 w w' v' (L ++ Fee.w4 x) ∧ Bw w w' := by
  have hE := OwnR.empty 5 1 (w0 := w) (Nat.le_refl w.heap.size)
  obtain ⟨v1, w1, hr1, ho1, hb1⟩ := P8.all (l := []) hE ((Bw.refl w).alloc _) (hv.bw ((Bw.refl w).alloc _)) (by simp; omega)
  rw [List.nil_append] at ho1
  obtain ⟨v2, w2, hr2, ho2, hb2, -⟩ := ho1.row hb1 (Fee.w4 x) (by simp [Fee.w4]; omega) 4
  have hr3 : (Builtin.append_ #[22, 22] 22 #[v1, .slice (some ⟨w1.heap.size, 0, none⟩) 4 4]).run Try.prog (w1.alloc (.cells #[.int .u8 (x % 256), .int .u8 (x / 256 % 256), .int .u8 (x / 65536 % 256), .int .u8 (x / 16777216)] 5)) = .ok v2 w2 := hr2
  clear hr2 ho1 hE
  go_enter Try.func25, Try.ntmps25
  go_wp2_with (first | (at_builtin; refine wpApp rfl _ _ 22 rfl rfl rfl hr1 ?_) | (at_builtin; refine wpApp rfl _ _ 22 rfl rfl rfl hr3 ?_) | go_in)
  go_returns
  exact ⟨v2, rfl, ho2, hb2⟩
end Go.Proofs.Ytmecompcffphcaa
