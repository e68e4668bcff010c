/- BYTES that the call makes: make([]byte, n), copy. -/
import Derived.Test.YtaepjlaegldkhaaBoxQ
import Derived.Laws.OwnMore
import Derived.Laws.IdiomCopy
namespace Go.Proofs.Ytaepjlaegldkhaa
open Go.ChangeShapes Go.WideShapes Go.ChangeAt Go.RowKit
set_option linter.unusedSimpArgs false

theorem step_copy_eq {P : Program} {ops : Array Oper} {o : Oper} {a : Act} {w w' : World} {K : Act → World → Prop} {Q : Exit → Act → World → Prop} {E : Prop}
    (hg : o.guard = none) (s x : Operand) (t : TypeId) (hop : o.op = Op.call { callee := Callee.builtin Builtin.copy, args := #[s, x], argTypes := #[t, t] })
    {v xv v' : Value} (hs : a.eval s = v) (hx : a.eval x = xv) (hr : (Builtin.copy_ #[t, t] o.type #[v, xv]).run P w = .ok v' w') (hK : K (a.put o.dst v') w') :
    if Region.wanted o (yielded ops a.tmps) = true then Oper.wp P o a w K Q else E := by
  have hw : Region.wanted o (yielded ops a.tmps) = true := by simp [Region.wanted, hg]
  rw [if_pos hw]
  unfold Oper.wp
  simp [execOp, hop, resolve, invoke, builtin, hs, hx, hr, Result.andThen]
  exact hK
theorem wpList_copy_eq {P : Program} {w w' : World} {ops : Array Oper} {rest : List Oper} {o : Oper} {a : Act} {Q : Exit → Act → World → Prop} (hgd : o.guard = none) (s x : Operand) (t : TypeId)
    (ho : o.op = .call { callee := .builtin .copy, args := #[s, x], argTypes := #[t, t] }) {v xv v' : Value} (hs : a.eval s = v) (hx : a.eval x = xv)
    (hr : (Builtin.copy_ #[t, t] o.type #[v, xv]).run P w = .ok v' w') (h : wpList P ops Q rest (a.put o.dst v') w') : wpList P ops Q (o :: rest) a w := by
  refine wpList_plain hgd fun K hK => ?_
  unfold Oper.wp execOp
  simp only [ho, resolve, invoke, builtin, Sem.run_bind, Sem.run_pure, Result.andThen_ok, List.map_toArray, List.map_cons, List.map_nil, hs, hx, hr]
  exact hK _ _ h
theorem sz8 : (Try.prog.info? 5).map (·.size) = some 1 := by kernel_rfl
theorem mk8 (w : World) (n : Nat) (hn : n ≤ 100000) : ∃ w', (Instr.makeSlice 25 (.int .i64 (n : Int)) (.int .i64 (n : Int))).run Try.prog w = .ok (.slice (some ⟨w.heap.size, 0, none⟩) n n) w' ∧ Own8 w w' (.slice (some ⟨w.heap.size, 0, none⟩) n n) (List.replicate n 0) ∧ Bw w w' := by
  obtain ⟨i, hi, he⟩ := Option.map_eq_some_iff.1 info8
  simp only [Prod.mk.injEq] at he
  obtain ⟨hz, hs, hb⟩ := he
  obtain ⟨w', hr, ho, hg⟩ := run_makeSlice_full (P := Try.prog) (w := w) w.heap.size 25 5 i (.int .u8 0) 1 Try.underlying25 hi hz hs .i64 .i64 n (by omega) (by rw [hb]; omega) (by unfold maxLen; omega) (Nat.le_refl _)
  refine ⟨w', hr, ?_, Below.grown (Bw.refl w) hg (Nat.le_refl _) (fun k hk => by simp at hk)⟩
  rw [show (Value.int .u8 0).cells = #[.int .u8 0] from rfl, Nat.mul_one, toList_madeCells_one] at ho
  refine Own8.of ?_
  rw [List.length_replicate, show ints8 (List.replicate n 0) = List.replicate n (.int .u8 0) by simp [ints8]]
  exact ho
theorem ints8_one (l : List Int) : ∀ u ∈ ints8 l, u.oneCell' = true := fun u hu => by simp [ints8] at hu; obtain ⟨x, _, rfl⟩ := hu; rfl
theorem ints8_len (l : List Int) : (ints8 l).length = l.length := by simp [ints8]
theorem ints8_at {l : List Int} {j : Nat} {x : Int} (h : l[j]? = some x) : (ints8 l)[j]? = some (.int .u8 x) := by simp [ints8, h]
/-- copy onto the front of bytes of the call's own. -/
theorem cp8 {w0 w : World} {g cap : Nat} {l : List Int} (h : Own8 w0 w (.slice (some ⟨g, 0, none⟩) l.length cap) l) (a : Addr) (m c : Nat) (cs : List Int) (hm : cs.length = min m l.length) (hsrc : ∀ j x, cs[j]? = some x → w.cell? (a.add j) = some (.int .u8 x)) (ty : TypeId) :
    (Builtin.copy_ #[25, 25] ty #[.slice (some ⟨g, 0, none⟩) l.length cap, .slice (some a) m c]).run Try.prog w = .ok (goInt cs.length) (w.setCells g 0 (ints8 cs)) ∧
    Own8 w0 (w.setCells g 0 (ints8 cs)) (.slice (some ⟨g, 0, none⟩) l.length cap) (cs ++ l.drop cs.length) ∧ (w0.heap.size ≤ g → Bw w0 w → Bw w0 (w.setCells g 0 (ints8 cs))) := by
  rcases h with ⟨h, _⟩ | ⟨g', cap', h0, g1, g2, g3, g4, g5, g6⟩
  · simp at h
  · simp at h0
    obtain ⟨rfl, rfl⟩ := h0
    have hcl : cs.length ≤ l.length := by omega
    have hc : ∀ j, j < (ints8 cs).length → (w.cell? ⟨g, 0 + j, none⟩).isSome = true := fun j hj => by rw [ints8_len] at hj; rw [Nat.zero_add]; exact (g6 j (by omega)).1
    refine ⟨?_, Or.inr ⟨g, cap, ?_, g1, Nat.lt_of_lt_of_le g2 (below0_setCells g (ints8 cs) 0 w).size, ?_, g4, fun j x hx => ?_, fun j hj => ⟨isSome_setCells g _ _ w hc j (g6 j hj).1, by rw [World.frozen?_setCells]; exact (g6 j hj).2⟩⟩, fun hb hw => ?_⟩
    · have := run_copy_cells (P := Try.prog) w 25 25 ty 5 g 0 l.length cap a m c (ints8 cs) Try.underlying25 sz8 (by rw [ints8_len]; exact hm) (fun j v hv => by
        simp only [ints8, List.getElem?_map, Option.map_eq_some_iff] at hv
        obtain ⟨x, hx, rfl⟩ := hv
        exact hsrc j x hx) hc (fun j hj => by rw [ints8_len] at hj; rw [Nat.zero_add]; exact (g6 j (by omega)).2) (ints8_one cs)
      rw [ints8_len] at this
      exact this
    · rw [List.length_append, List.length_drop]; congr 1; omega
    · rw [List.length_append, List.length_drop]; omega
    · by_cases hj : j < cs.length
      · rw [List.getElem?_append_left hj] at hx
        have := World.cell?_setCells_in g (ints8 cs) 0 w hc j (by rw [ints8_len]; exact hj)
        rw [Nat.zero_add] at this
        rw [this]
        have h8 := ints8_at hx
        rw [List.getElem?_eq_getElem (by rw [ints8_len]; exact hj)] at h8
        exact h8
      · rw [List.getElem?_append_right (by omega), List.getElem?_drop, show cs.length + (j - cs.length) = j by omega] at hx
        rw [World.cell?_setCells_out g _ _ w _ (fun _ _ => Or.inr (by dsimp only; rw [ints8_len]; omega))]
        exact g5 j x hx
    · exact Below.trans hw ⟨(below0_setCells g _ 0 w).os, (below0_setCells g _ 0 w).tape, (below0_setCells g _ 0 w).output, (below0_setCells g _ 0 w).size, fun i hi => heap_setCells_ne g i (by omega) _ _ _⟩
end Go.Proofs.Ytaepjlaegldkhaa
