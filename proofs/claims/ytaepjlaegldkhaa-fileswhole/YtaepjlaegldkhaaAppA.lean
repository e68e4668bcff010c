/- append of one element onto a slice of the call's own; what it leaves. -/
import Derived.Test.YtaepjlaegldkhaaBoxQ
namespace Go.Proofs.Ytaepjlaegldkhaa
open Go.ChangeShapes Go.WideShapes Go.ChangeAt Go.RowKit

theorem Bq.ap {pb : Nat} {a w w' : World} {v v' : Value} (h : Bq pb a w) (k : Ap w w' v v') (ho : ∀ j, v.ownBlock = some j → a.heap.size ≤ j) : Bq pb a w' :=
  ⟨h.b0.trans k.b, fun i hi hn => (k.block i (Nat.lt_of_lt_of_le hi h.b0.size) (fun e => by have := ho i e; omega)).trans (h.block i hi hn)⟩
theorem OwnR.own {e sz n : Nat} {cs : List Value} {a w : World} {v : Value} (h : OwnR e sz a w v n cs) : ∀ j, v.ownBlock = some j → a.heap.size ≤ j ∧ j < w.heap.size := fun j hj => by
  rcases h.2 with ⟨h2, _⟩ | ⟨b, cap, cur, h3, h4, h5, h6⟩
  · rw [h2] at hj; simp [Value.ownBlock] at hj
  · rw [h3] at hj; simp [Value.ownBlock] at hj; subst hj; exact ⟨h4, (Array.getElem?_eq_some_iff.1 h5).1⟩
/-- append of one element onto a slice of the call's own: that slice's block alone was written. -/
theorem appA {e sz bytes : Nat} {z : Value} {t ty : TypeId} (hinf : (Try.prog.info? e).map (fun i => (i.zero, i.size, i.bytes)) = some (some z, sz, bytes)) (ht : Try.prog.underlying t = some (.slice e)) (hzs : z.cells.size = sz) (hsz : 0 < sz) (hby : bytes ≤ 100)
    {a wr : World} {v : Value} {n : Nat} {cs : List Value} (hown : OwnR e sz a wr v n cs) (hle : a.heap.size ≤ wr.heap.size) (c : Nat) (news : List Value) (hl : news.length = sz) (h1 : ∀ u ∈ news, u.oneCell' = true) (hn : n ≤ 10000) :
    ∃ v' w', (Builtin.append_ #[t, t] ty #[v, .slice (some ⟨wr.heap.size, 0, none⟩) 1 c]).run Try.prog (wr.alloc (.cells news.toArray e)) = .ok v' w' ∧ OwnR e sz a w' v' (n + 1) (cs ++ news) ∧ Ap wr w' v v' := by
  obtain ⟨i, hi, he⟩ := Option.map_eq_some_iff.1 hinf
  simp only [Prod.mk.injEq] at he
  obtain ⟨hz, hs, hb⟩ := he
  have hmul : (n + 1) * bytes ≤ 10001 * 100 := Nat.mul_le_mul (by omega) hby
  have hoA := OwnR.bw hown ((Bw.refl wr).alloc (.cells news.toArray e))
  obtain ⟨v', w', hr, ho, hg, -, hloc⟩ := run_append_own_at (P := Try.prog) (w := wr.alloc (.cells news.toArray e)) a.heap.size t ty e i z sz bytes ht hi hz hs hb hzs hsz v n cs hoA ⟨wr.heap.size, 0, none⟩ 1 c news (by omega) (cell_new wr news e) h1 (by unfold maxLen; omega) (by omega) (by simp; omega)
  refine ⟨v', w', hr, ho, (Ap.refl wr v).alloc (.cells news.toArray e) |>.trans ⟨⟨hg.os, hg.tape, hg.output, hg.size, fun k hk => by omega⟩, fun k hk hkn => hg.block k hk (fun e => hkn e.symm), ?_⟩⟩
  rcases hloc with h | h
  · exact Or.inl h
  · exact Or.inr ⟨_, Nat.le_refl _, h⟩
theorem Rd8.ap {w w' : World} {v v' u : Value} {l : List Int} (h : Rd8 w u l) (k : Ap w w' v v') (hn : ∀ b n c, u = .slice (some b) n c → 0 < n → v.ownBlock ≠ some b.block) : Rd8 w' u l := by
  obtain ⟨q, cap, h1, h2, h3, h4, h5⟩ := h
  refine ⟨q, cap, h1, h2, h3, h4, fun h0 => ?_⟩
  obtain ⟨b', o, rfl, h7, h8⟩ := h5 h0
  have hb := hn _ _ _ h1 h0
  exact ⟨b', o, rfl, Nat.lt_of_lt_of_le h7 k.b.size, fun j x hj => (k.cell (p := ⟨b', o + j, none⟩) h7 hb).trans (h8 j x hj)⟩
theorem Rd8.lt {w : World} {u : Value} {l : List Int} (h : Rd8 w u l) : ∀ b n c, u = .slice (some b) n c → 0 < n → b.block < w.heap.size := fun b n c e hn => by
  obtain ⟨q, cap, h1, h2, h3, h4, h5⟩ := h
  rw [h1] at e
  simp at e
  obtain ⟨rfl, rfl, rfl⟩ := e
  obtain ⟨b', o, h6, h7, h8⟩ := h5 hn
  simp at h6
  subst h6
  exact h7
theorem OwnR.heap {e sz n : Nat} {cs : List Value} {a w w' : World} {v : Value} (h : OwnR e sz a w v n cs) (he : ∀ j, v.ownBlock = some j → w'.heap[j]? = w.heap[j]?) : OwnR e sz a w' v n cs := by
  obtain ⟨h1, h2⟩ := h
  refine ⟨h1, ?_⟩
  rcases h2 with h2 | ⟨b, cap, cur, rfl, h4, h5, h6⟩
  · exact Or.inl h2
  · exact Or.inr ⟨b, cap, cur, rfl, h4, (he b rfl).trans h5, h6⟩
theorem Own8.heap {w0 w w' : World} {v : Value} {l : List Int} (h : Own8 w0 w v l) (he : ∀ j, v.ownBlock = some j → w'.heap[j]? = w.heap[j]?) : Own8 w0 w' v l := by
  rcases h with h | ⟨g, cap, rfl, h1, h2, h3, h4, h5, h6⟩
  · exact Or.inl h
  · have hb := he g rfl
    have hlt : g < w'.heap.size := by
      apply Decidable.byContradiction
      intro hn
      have h1 : w'.heap[g]? = none := by simp; omega
      rw [h1] at hb
      simp at hb
      omega
    refine Or.inr ⟨g, cap, rfl, h1, hlt, h3, h4, fun j x hx => ?_, fun j hj => ?_⟩
    · rw [cell_block (p := ⟨g, j, none⟩) hb]; exact h5 j x hx
    · rw [cell_block (p := ⟨g, j, none⟩) hb, frozen_block (p := ⟨g, j, none⟩) hb]; exact h6 j hj
end Go.Proofs.Ytaepjlaegldkhaa
