/- append(x, y...) onto a slice of the call's own, y whatever can be read. -/
import Derived.Test.YtaepjlaegldkhaaBoxQ
namespace Go.Proofs.Ytaepjlaegldkhaa
open Go.ChangeShapes Go.WideShapes Go.ChangeAt Go.RowKit

theorem run_append_none {e sz bytes : Nat} {z : Value} {t ty : TypeId} (hinf : (Try.prog.info? e).map (fun i => (i.zero, i.size, i.bytes)) = some (some z, sz, bytes)) (ht : Try.prog.underlying t = some (.slice e))
    {w0 wr : World} {v : Value} {n : Nat} {cs : List Value} (hown : OwnR e sz w0 wr v n cs) (c : Nat) : (Builtin.append_ #[t, t] ty #[v, .slice none 0 c]).run Try.prog wr = .ok v wr := by
  obtain ⟨i, hi, he⟩ := Option.map_eq_some_iff.1 hinf
  rcases hown.2 with ⟨rfl, rfl⟩ | ⟨g, cap, cur, rfl, hbg, hg, hnc, hcm, hcs, htake⟩
  · simp [Builtin.append_, run_underlying ht, sizeOf, typeInfo, hi, Builtin.lenOf, Builtin.firstCells]
  · simp [Builtin.append_, run_underlying ht, sizeOf, typeInfo, hi, Builtin.lenOf, hnc, Builtin.firstCells, storeCells]
theorem appS {e sz bytes : Nat} {z : Value} {t ty : TypeId} (hinf : (Try.prog.info? e).map (fun i => (i.zero, i.size, i.bytes)) = some (some z, sz, bytes)) (ht : Try.prog.underlying t = some (.slice e)) (hzs : z.cells.size = sz) (hsz : 0 < sz) (hby : bytes ≤ 100)
    {w0 wr : World} {v : Value} {n : Nat} {cs : List Value} (hown : OwnR e sz w0 wr v n cs) (hbw : Bw w0 wr) {x : Value} {m : Nat} {ds : List Value} (hx : RdR sz wr x m ds) (h1 : ∀ u ∈ ds, u.oneCell' = true) (hn : n + m ≤ 1000000) :
    ∃ v' w', (Builtin.append_ #[t, t] ty #[v, x]).run Try.prog wr = .ok v' w' ∧ OwnR e sz w0 w' v' (n + m) (cs ++ ds) ∧ Bw w0 w' := by
  obtain ⟨q, cap, rfl, h2, h3, h4, h5⟩ := hx
  cases q with
  | none =>
    have hm : m = 0 := Nat.eq_zero_of_not_pos (fun h => by obtain ⟨b, o, h6, _⟩ := h5 h; simp at h6)
    subst hm
    have hd : ds = [] := List.eq_nil_of_length_eq_zero (by simpa using h4)
    subst hd
    exact ⟨v, wr, run_append_none hinf ht hown cap, by simpa using hown, hbw⟩
  | some a =>
    refine appR hinf ht hzs hsz hby hown hbw a m cap ds h4 (fun j u hu => ?_) h1 hn
    have hm : 0 < m := Nat.pos_of_ne_zero (fun h => by rw [h, Nat.zero_mul] at h4; rw [List.eq_nil_of_length_eq_zero h4] at hu; simp at hu)
    obtain ⟨b, o, h6, _, h8⟩ := h5 hm
    simp at h6
    subst h6
    rw [Addr.add_lit]; exact h8 j u hu
/-- An empty slice that the call makes. -/
theorem OwnR.empty (e sz : Nat) {w0 w : World} (h : w0.heap.size ≤ w.heap.size) : OwnR e sz w0 (w.alloc (.cells #[] e)) (.slice (some ⟨w.heap.size, 0, none⟩) 0 0) 0 [] :=
  ⟨by simp, Or.inr ⟨w.heap.size, 0, #[], rfl, h, heap_alloc_new w _, Nat.le_refl _, by decide, by simp, by simp⟩⟩
end Go.Proofs.Ytaepjlaegldkhaa
