/- LAYER 6: a word's four bytes appended to a slice of the call's own. -/
import Derived.Test.YthkampohgbddnaaDoorAsmB
import Derived.Maps.AppendAt
namespace Go.Proofs.YthkampohgbddnaaDoor
open Go.ChangeShapes Go.WideShapes Go.ChangeAt Go.RowKit

theorem wpApp {P : Program} {w w' : World} {ops : Array Oper} {rest : List Oper} {o : Oper} {a : Act} {Q : Exit → Act → World → Prop} (hgd : o.guard = none) (s x : Operand) (t : TypeId)
    (ho : o.op = .call { callee := .builtin .append, args := #[s, x], argTypes := #[t, t] }) {v xv v' : Value} (hs : a.eval s = v) (hx : a.eval x = xv)
    (hr : (Builtin.append_ #[t, t] o.type #[v, xv]).run P w = .ok v' w') (h : wpList P ops Q rest (a.put o.dst v') w') : wpList P ops Q (o :: rest) a w := by
  refine wpList_plain hgd fun K hK => ?_
  unfold Oper.wp execOp
  simp only [ho, resolve, invoke, builtin, Sem.run_bind, Sem.run_pure, Result.andThen_ok, List.map_toArray, List.map_cons, List.map_nil, hs, hx, hr]
  exact hK _ _ h
theorem info8 : ∃ i, Tryd.prog.info? 5 = some i ∧ i.zero = some (.int .u8 0) ∧ i.size = 1 ∧ i.bytes = 1 := by
  have h : (Tryd.prog.info? 5).map (fun i => (i.zero, i.size, i.bytes)) = some (some (.int .u8 0), 1, 1) := by kernel_rfl
  obtain ⟨i, hi, he⟩ := Option.map_eq_some_iff.1 h
  simp only [Prod.mk.injEq] at he
  exact ⟨i, hi, he.1, he.2.1, he.2.2⟩
def ints8 (l : List Int) : List Value := l.map fun x => Value.int .u8 x
/-- A slice of bytes that the call made: its cells. -/
def Own8 (w0 w : World) (v : Value) (l : List Int) : Prop := w.ownsRow w0.heap.size 5 1 v l.length (ints8 l)
theorem Own8.bw {w0 w w' : World} {v : Value} {l : List Int} (h : Own8 w0 w v l) (g : Bw w w') : Own8 w0 w' v l := by
  obtain ⟨h1, h2⟩ := h
  refine ⟨h1, ?_⟩
  rcases h2 with h2 | ⟨b, cap, cur, h3, h4, h5, h6⟩
  · exact Or.inl h2
  · exact Or.inr ⟨b, cap, cur, h3, h4, by rw [Below.block g b (Array.getElem?_eq_some_iff.1 h5).1]; exact h5, h6⟩
theorem Own8.nil (w0 w : World) : Own8 w0 w (.slice none 0 0) [] := ⟨rfl, Or.inl ⟨rfl, rfl⟩⟩
theorem app8 {w0 wr : World} {v : Value} {l : List Int} (hown : Own8 w0 wr v l) (hbw : Bw w0 wr) (xs : List Int) (hn : l.length + xs.length ≤ 1000000) (c : Nat) :
    ∃ v' w', (Builtin.append_ #[30, 30] 30 #[v, .slice (some ⟨wr.heap.size, 0, none⟩) xs.length c]).run Tryd.prog (wr.alloc (.cells (ints8 xs).toArray 5)) = .ok v' w' ∧ Own8 w0 w' v' (l ++ xs) ∧ Bw w0 w' := by
  obtain ⟨i, hi, hz, hs, hb⟩ := info8
  have hbA := hbw.alloc (.cells (ints8 xs).toArray 5)
  have hownA : Own8 w0 (wr.alloc (.cells (ints8 xs).toArray 5)) v l := hown.bw ((Bw.refl wr).alloc _)
  obtain ⟨v', w', hr, ho, hg, -, hloc⟩ := run_append_own_at (P := Tryd.prog) (w := wr.alloc (.cells (ints8 xs).toArray 5)) w0.heap.size 30 30 5 i (.int .u8 0) 1 1 Tryd.underlying30 hi hz hs hb rfl (by decide) v l.length (ints8 l) hownA ⟨wr.heap.size, 0, none⟩ xs.length c (ints8 xs) (by simp [ints8])
    (fun j u hu => by
      have hadd : (⟨wr.heap.size, 0, none⟩ : Addr).add j = ⟨wr.heap.size, j, none⟩ := by unfold Addr.add; split <;> simp_all
      rw [hadd, World.cell?_alloc_at _ _ _ _ (by simp)]
      simpa using hu)
    (fun u hu => by simp [ints8] at hu; obtain ⟨x, _, rfl⟩ := hu; rfl) (by unfold maxLen; omega) (by omega) (by have := hbw.size; simp; omega)
  refine ⟨v', w', hr, ?_, ?_⟩
  · unfold Own8
    rw [List.length_append]
    have : ints8 (l ++ xs) = ints8 l ++ ints8 xs := by simp [ints8]
    rw [this]; exact ho
  · refine Below.grown hbA hg (Nat.le_trans hbw.size (by simp)) (fun k hk => ?_)
    obtain ⟨h1, h2⟩ := hown
    rcases h2 with ⟨h2, _⟩ | ⟨b, cap, cur, h3, h4, h5, h6⟩
    · rw [h2] at hk; simp [Value.ownBlock] at hk
    · rw [h3] at hk; simp [Value.ownBlock] at hk; omega
end Go.Proofs.YthkampohgbddnaaDoor
