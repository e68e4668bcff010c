/- BYTES of the call's own, written cell by cell; append of whatever can be read; what append leaves of the other blocks. -/
import Derived.Test.YtaepjlaegldkhaaPolBase
import Derived.Lib.AppendStr
import Derived.Lib.EndianBits
import Derived.Lib.Strings
import Derived.Deep.RegionLaw
import Derived.ArgAppend
import Derived.Lib.SlBytesConst
set_option linter.unusedSimpArgs false
namespace Go.Proofs.Ytaepjlaegldkhaa
open Go.ChangeShapes Go.WideShapes Go.ChangeAt Go.RowKit

theorem heap_setCells_ne (b i : Nat) (h : i ≠ b) : ∀ (vs : List Value) (o : Nat) (w : World), (w.setCells b o vs).heap[i]? = w.heap[i]?
  | [], _, _ => rfl
  | v :: r, o, w => by rw [World.setCells, heap_setCells_ne b i h r]; exact Below.heap_setCell _ _ _ _ h
theorem below0_setCells (b : Nat) : ∀ (vs : List Value) (o : Nat) (w : World), Below 0 w (w.setCells b o vs)
  | [], _, _ => Below.refl _ _
  | v :: r, o, w => ((Below.refl 0 w).setCell (p := ⟨b, o, none⟩) (Nat.zero_le _) v).trans (below0_setCells b r (o + 1) _)
theorem isSome_setCells (b : Nat) (vs : List Value) (o : Nat) (w : World) (h : ∀ j, j < vs.length → (w.cell? ⟨b, o + j, none⟩).isSome = true) (k : Nat) (hk : (w.cell? ⟨b, k, none⟩).isSome = true) : ((w.setCells b o vs).cell? ⟨b, k, none⟩).isSome = true := by
  by_cases hi : o ≤ k ∧ k < o + vs.length
  · obtain ⟨j, rfl⟩ : ∃ j, k = o + j := ⟨k - o, by omega⟩
    rw [World.cell?_setCells_in b vs o w h j (by omega)]; rfl
  · rw [World.cell?_setCells_out b vs o w _ (fun _ _ => by dsimp only; omega)]; exact hk
/-- From (w, v) to (w', v'): v's block alone was written of those that were there. -/
structure Ap (w w' : World) (v v' : Value) : Prop where
  b : Below 0 w w'
  block : ∀ i, i < w.heap.size → v.ownBlock ≠ some i → w'.heap[i]? = w.heap[i]?
  own : v'.ownBlock = v.ownBlock ∨ ∃ n, w.heap.size ≤ n ∧ v'.ownBlock = some n
theorem Ap.refl (w : World) (v : Value) : Ap w w v v := ⟨Below.refl _ _, fun _ _ _ => rfl, Or.inl rfl⟩
theorem Ap.bw {w w' : World} (v : Value) (h : Bw w w') : Ap w w' v v := ⟨Below.mono h (Nat.zero_le _), fun i hi _ => Below.block h i hi, Or.inl rfl⟩
theorem Ap.trans {a b c : World} {u v x : Value} (h : Ap a b u v) (k : Ap b c v x) : Ap a c u x := by
  refine ⟨h.b.trans k.b, fun i hi hn => ?_, ?_⟩
  · have hv : v.ownBlock ≠ some i := fun e => by
      rcases h.own with h1 | ⟨n, h1, h2⟩
      · exact hn (h1 ▸ e)
      · rw [e] at h2; have := Option.some.inj h2; omega
    rw [k.block i (Nat.lt_of_lt_of_le hi h.b.size) hv, h.block i hi hn]
  · rcases k.own with h1 | ⟨n, h1, h2⟩
    · rw [h1]; exact h.own
    · exact Or.inr ⟨n, Nat.le_trans h.b.size h1, h2⟩
theorem Ap.alloc {a w : World} {u v : Value} (h : Ap a w u v) (o : Obj) : Ap a (w.alloc o) u v := h.trans (Ap.bw v ((Bw.refl w).alloc o))
theorem Ap.cell {w w' : World} {v v' : Value} (h : Ap w w' v v') {p : Addr} (hp : p.block < w.heap.size) (hn : v.ownBlock ≠ some p.block) : w'.cell? p = w.cell? p := by
  simp only [World.cell?, h.block p.block hp hn]
theorem Ap.toBw {w0 w w' : World} {v v' : Value} (h : Ap w w' v v') (g : Bw w0 w) (ho : ∀ k, v.ownBlock = some k → w0.heap.size ≤ k) : Bw w0 w' :=
  Below.trans g ⟨h.b.os, h.b.tape, h.b.output, h.b.size, fun i hi => h.block i (Nat.lt_of_lt_of_le hi g.size) (fun e => by have := ho i e; omega)⟩
def ints8 (l : List Int) : List Value := l.map fun x => Value.int .u8 x
/-- A slice of bytes that the call made, its cells not frozen. -/
def Own8 (w0 w : World) (v : Value) (l : List Int) : Prop :=
  (v = .slice none 0 0 ∧ l = []) ∨ ∃ g cap, v = .slice (some ⟨g, 0, none⟩) l.length cap ∧ w0.heap.size ≤ g ∧ g < w.heap.size ∧ l.length ≤ cap ∧ cap ≤ maxLen ∧ (∀ j x, l[j]? = some x → w.cell? ⟨g, j, none⟩ = some (.int .u8 x)) ∧
    (∀ j, j < cap → (w.cell? ⟨g, j, none⟩).isSome = true ∧ w.frozen? ⟨g, j, none⟩ = false)
theorem Own8.nil (w0 w : World) : Own8 w0 w (.slice none 0 0) [] := Or.inl ⟨rfl, rfl⟩
theorem Own8.blk {w0 w : World} {v : Value} {l : List Int} (h : Own8 w0 w v l) : ∀ k, v.ownBlock = some k → w0.heap.size ≤ k ∧ k < w.heap.size := by
  intro k hk
  rcases h with ⟨rfl, _⟩ | ⟨g, cap, rfl, h1, h2, _⟩
  · simp [Value.ownBlock] at hk
  · simp [Value.ownBlock] at hk; subst hk; exact ⟨h1, h2⟩
theorem frozen_block {w w' : World} {p : Addr} (h : w'.heap[p.block]? = w.heap[p.block]?) : w'.frozen? p = w.frozen? p := by unfold World.frozen?; rw [h]
theorem cell_block {w w' : World} {p : Addr} (h : w'.heap[p.block]? = w.heap[p.block]?) : w'.cell? p = w.cell? p := by unfold World.cell?; rw [h]
theorem Own8.bw {w0 w w' : World} {v : Value} {l : List Int} (h : Own8 w0 w v l) (k : Bw w w') : Own8 w0 w' v l := by
  rcases h with h | ⟨g, cap, rfl, h1, h2, h3, h4, h5, h6⟩
  · exact Or.inl h
  · have hb := Below.block k g h2
    refine Or.inr ⟨g, cap, rfl, h1, Nat.lt_of_lt_of_le h2 k.size, h3, h4, fun j x hx => ?_, fun j hj => ?_⟩
    · rw [cell_block (p := ⟨g, j, none⟩) hb]; exact h5 j x hx
    · rw [cell_block (p := ⟨g, j, none⟩) hb, frozen_block (p := ⟨g, j, none⟩) hb]; exact h6 j hj
theorem Own8.of {w0 w : World} {v : Value} {l : List Int} (h : w.ownsRow w0.heap.size 5 1 v l.length (ints8 l)) : Own8 w0 w v l := by
  obtain ⟨h1, h2⟩ := h
  rcases h2 with ⟨rfl, h3⟩ | ⟨g, cap, cur, rfl, hb, hc, h4, h5, h6, h7⟩
  · exact Or.inl ⟨rfl, List.eq_nil_of_length_eq_zero h3⟩
  · refine Or.inr ⟨g, cap, rfl, hb, (Array.getElem?_eq_some_iff.1 hc).1, h4, h5, fun j x hx => ?_, fun j hj => ⟨?_, ?_⟩⟩
    · have hj : j < l.length := (List.getElem?_eq_some_iff.1 hx).1
      have h8 : (ints8 l)[j]? = some (.int .u8 x) := by simp [ints8, hx]
      rw [← h7, List.getElem?_take_of_lt (by omega)] at h8
      simp [World.cell?, hc] at h8 ⊢
      exact h8
    · have : j < cur.size := by omega
      simp [World.cell?, hc, this]
    · simp [World.frozen?, hc]
theorem info8 : (Try.prog.info? 5).map (fun i => (i.zero, i.size, i.bytes)) = some (some (.int .u8 0), 1, 1) := by kernel_rfl
theorem app8G {w0 wa : World} {v : Value} {l : List Int} (hown : Own8 w0 wa v l) (hbw : Bw w0 wa) (xs : List Int) (a : Addr) (hnew : ∀ j u, (ints8 xs)[j]? = some u → wa.cell? (a.add j) = some u) (hx0 : 0 < xs.length) (hn : l.length + xs.length ≤ 1000000) (c : Nat) :
    ∃ v' w', (Builtin.append_ #[25, 25] 25 #[v, .slice (some a) xs.length c]).run Try.prog wa = .ok v' w' ∧ Own8 w0 w' v' (l ++ xs) ∧ Bw w0 w' ∧ Ap wa w' v v' := by
  obtain ⟨i, hi, he⟩ := Option.map_eq_some_iff.1 info8
  simp only [Prod.mk.injEq] at he
  obtain ⟨hz, hs, hb⟩ := he
  have h1c : ∀ u ∈ ints8 xs, u.oneCell' = true := fun u hu => by simp [ints8] at hu; obtain ⟨x, _, rfl⟩ := hu; rfl
  have hlx : (ints8 xs).length = xs.length := by simp [ints8]
  have hblk := hown.blk
  have finish : ∀ v' w', (Builtin.append_ #[25, 25] 25 #[v, .slice (some a) xs.length c]).run Try.prog wa = .ok v' w' → Own8 w0 w' v' (l ++ xs) → Ap wa w' v v' →
      ∃ v' w', (Builtin.append_ #[25, 25] 25 #[v, .slice (some a) xs.length c]).run Try.prog wa = .ok v' w' ∧ Own8 w0 w' v' (l ++ xs) ∧ Bw w0 w' ∧ Ap wa w' v v' := fun v' w' hr ho ha =>
    ⟨v', w', hr, ho, ha.toBw hbw (fun k hk => (hblk k hk).1), ha⟩
  have hof : ∀ v' w', w'.ownsRow wa.heap.size 5 1 v' (l.length + xs.length) (ints8 l ++ ints8 xs) → Own8 w0 w' v' (l ++ xs) := fun v' w' h => by
    refine Own8.of (?_ : w'.ownsRow w0.heap.size 5 1 v' (l ++ xs).length (ints8 (l ++ xs)))
    rw [List.length_append, show ints8 (l ++ xs) = ints8 l ++ ints8 xs by simp [ints8]]
    obtain ⟨h1, h2⟩ := h
    refine ⟨h1, ?_⟩
    rcases h2 with h2 | ⟨g, cap, cur, h3, h4, h5⟩
    · exact Or.inl h2
    · exact Or.inr ⟨g, cap, cur, h3, Nat.le_trans hbw.size h4, h5⟩
  have hgr : ∀ v' w', w'.ownsRow wa.heap.size 5 1 v' (l.length + xs.length) (ints8 l ++ ints8 xs) → wa.grownBy w' none → Ap wa w' v v' := fun v' w' h g => by
    refine ⟨⟨g.os, g.tape, g.output, g.size, fun k hk => by omega⟩, fun k hk _ => g.block k hk (by simp), ?_⟩
    rcases h.2 with ⟨_, h2⟩ | ⟨g', cap, cur, rfl, h4, _⟩
    · omega
    · exact Or.inr ⟨g', h4, rfl⟩
  rcases hown with ⟨rfl, rfl⟩ | ⟨g, cap, rfl, g1, g2, g3, g4, g5, g6⟩
  · obtain ⟨v', w', hr, h2, h3, _, _⟩ := run_append_own_at (P := Try.prog) (w := wa) wa.heap.size 25 25 5 i (.int .u8 0) 1 1 Try.underlying25 hi hz hs hb rfl (by decide) (.slice none 0 0) 0 [] (World.ownsRow_nil _ _ _ _) a xs.length c (ints8 xs) (by omega) hnew h1c (by unfold maxLen; simp at hn ⊢; omega) (by simp at hn ⊢; omega) (Nat.le_refl _)
    exact finish v' w' hr (hof v' w' (by simpa [ints8] using h2)) (hgr v' w' (by simpa [ints8] using h2) (by simpa [Value.ownBlock] using h3))
  · by_cases hroom : l.length + xs.length ≤ cap
    · have hc : ∀ j, j < (ints8 xs).length → (wa.cell? ⟨g, 0 + l.length * i.size + j, none⟩).isSome = true := fun j hj => by
        rw [hs, show 0 + l.length * 1 + j = l.length + j by omega]; exact (g6 _ (by omega)).1
      have hf : ∀ j, j < (ints8 xs).length → wa.frozen? ⟨g, 0 + l.length * i.size + j, none⟩ = false := fun j hj => by
        rw [hs, show 0 + l.length * 1 + j = l.length + j by omega]; exact (g6 _ (by omega)).2
      have hr := run_append_room_cells (P := Try.prog) wa 25 25 5 i Try.underlying25 hi g 0 l.length cap a xs.length c (ints8 xs) (by rw [hs]; omega) hnew h1c hroom hc hf
      rw [hs, show 0 + l.length * 1 = l.length by omega] at hr
      simp only [hs, show 0 + l.length * 1 = l.length by omega] at hc
      refine finish _ _ hr (Or.inr ⟨g, cap, by rw [List.length_append], g1, ?_, by rw [List.length_append]; exact hroom, g4, fun j x hx => ?_, fun j hj => ⟨isSome_setCells g _ _ wa hc j (g6 j hj).1, by rw [World.frozen?_setCells]; exact (g6 j hj).2⟩⟩) ⟨below0_setCells _ _ _ _, fun k _ hk => heap_setCells_ne g k (fun e => hk (by rw [e]; rfl)) _ _ _, Or.inl rfl⟩
      · exact Nat.lt_of_lt_of_le g2 (below0_setCells g (ints8 xs) l.length wa).size
      · by_cases hj : j < l.length
        · rw [World.cell?_setCells_out g _ _ wa _ (fun _ _ => Or.inl hj)]
          rw [List.getElem?_append_left hj] at hx
          exact g5 j x hx
        · rw [List.getElem?_append_right (by omega)] at hx
          have hjx := (List.getElem?_eq_some_iff.1 hx).1
          have := World.cell?_setCells_in g (ints8 xs) l.length wa hc (j - l.length) (by omega)
          rw [show l.length + (j - l.length) = j by omega] at this
          rw [this]
          have h8 : (ints8 xs)[j - l.length]? = some (.int .u8 x) := by simp [ints8, hx]
          rw [List.getElem?_eq_getElem (by omega)] at h8
          exact h8
    · obtain ⟨v', w', hr, h2, h3⟩ := run_append_arg_grows (P := Try.prog) wa 25 25 5 i (.int .u8 0) 1 1 Try.underlying25 hi hz hs hb rfl (by decide) ⟨g, 0, none⟩ l.length cap (ints8 l) (by simp [ints8]) (fun j u hu => by
          have hadd : (⟨g, 0, none⟩ : Addr).add j = ⟨g, j, none⟩ := by unfold Addr.add; split <;> simp_all
          rw [hadd]
          simp only [ints8, List.getElem?_map, Option.map_eq_some_iff] at hu
          obtain ⟨x, hx, rfl⟩ := hu
          exact g5 j x hx) a xs.length c (ints8 xs) (by omega) hnew (by omega) (by unfold maxLen; omega) (by omega)
      exact finish v' w' hr (hof v' w' h2) (hgr v' w' h2 h3)
theorem app8 {w0 wr : World} {v : Value} {l : List Int} (hown : Own8 w0 wr v l) (hbw : Bw w0 wr) (xs : List Int) (hx0 : 0 < xs.length) (hn : l.length + xs.length ≤ 1000000) (c : Nat) :
    ∃ v' w', (Builtin.append_ #[25, 25] 25 #[v, .slice (some ⟨wr.heap.size, 0, none⟩) xs.length c]).run Try.prog (wr.alloc (.cells (ints8 xs).toArray 5)) = .ok v' w' ∧ Own8 w0 w' v' (l ++ xs) ∧ Bw w0 w' ∧ Ap wr w' v v' := by
  have hA : Ap wr (wr.alloc (.cells (ints8 xs).toArray 5)) v v := (Ap.refl wr v).alloc _
  obtain ⟨v', w', h1, h2, h3, h4⟩ := app8G (hown.bw ((Bw.refl wr).alloc _)) (hbw.alloc (.cells (ints8 xs).toArray 5)) xs ⟨wr.heap.size, 0, none⟩ (cell_new wr (ints8 xs) 5) hx0 hn c
  exact ⟨v', w', h1, h2, h3, hA.trans h4⟩
theorem Own8.le {w0 w1 w : World} {v : Value} {l : List Int} (h : Own8 w1 w v l) (k : w0.heap.size ≤ w1.heap.size) : Own8 w0 w v l := by
  rcases h with h | ⟨g, cap, h0, h1, h2⟩
  · exact Or.inl h
  · exact Or.inr ⟨g, cap, h0, Nat.le_trans k h1, h2⟩
theorem Own8.marked {w0 w : World} (h : w0.heap.size ≤ w.heap.size) (l : List Int) (hl : l.length ≤ 1000) (f : Nat × Nat) (hf : f = (0, 0) ∨ f = (l.length, l.length + 1)) : Own8 w0 (w.alloc (.cells (ints8 l).toArray 5 f)) (.slice (some ⟨w.heap.size, 0, none⟩) l.length l.length) l := by
  have hb : (w.alloc (.cells (ints8 l).toArray 5 f)).heap[w.heap.size]? = some (.cells (ints8 l).toArray 5 f) := heap_alloc_new w _
  refine Or.inr ⟨w.heap.size, l.length, rfl, h, by simp, Nat.le_refl _, by unfold maxLen; omega, fun j x hx => ?_, fun j hj => ⟨?_, ?_⟩⟩
  · have h8 : (ints8 l)[j]? = some (.int .u8 x) := by simp [ints8, hx]
    simp only [World.cell?, hb]
    simpa using h8
  · simp only [World.cell?, hb]
    simp [ints8, hj]
  · simp only [World.frozen?, hb]
    rcases hf with rfl | rfl
    · simp
    · simp; omega
theorem Own8.set {w0 w : World} {g cap : Nat} {l : List Int} (h : Own8 w0 w (.slice (some ⟨g, 0, none⟩) l.length cap) l) (i : Nat) (hi : i < l.length) (x : Int) : Own8 w0 (w.setCell ⟨g, i, none⟩ (.int .u8 x)) (.slice (some ⟨g, 0, none⟩) l.length cap) (l.set i x) := by
  rcases h with ⟨h, _⟩ | ⟨g', cap', h0, g1, g2, g3, g4, g5, g6⟩
  · simp at h
  · simp at h0
    obtain ⟨rfl, rfl⟩ := h0
    have hsz : (w.setCell ⟨g, i, none⟩ (.int .u8 x)).heap.size = w.heap.size := by simp [World.setCell]
    obtain ⟨u, hu⟩ := Option.isSome_iff_exists.1 (g6 i (by omega)).1
    refine Or.inr ⟨g, cap, by rw [List.length_set], g1, by omega, by rw [List.length_set]; exact g3, g4, fun j y hy => ?_, fun j hj => ⟨?_, by rw [World.frozen?_setCell]; exact (g6 j hj).2⟩⟩
    · by_cases e : j = i
      · subst e
        rw [List.getElem?_set_self hi] at hy
        rw [World.cell?_setCell_same _ _ _ hu, Option.some.inj hy]
      · rw [List.getElem?_set_ne (by omega)] at hy
        rw [World.cell?_setCell_other _ _ _ _ (fun h => e (by simpa using (congrArg Addr.off h).symm))]
        exact g5 j y hy
    · by_cases e : j = i
      · subst e
        rw [World.cell?_setCell_same _ _ _ hu]; rfl
      · rw [World.cell?_setCell_other _ _ _ _ (fun h => e (by simpa using (congrArg Addr.off h).symm))]
        exact (g6 j hj).1
theorem Own8.form {w0 w : World} {v : Value} {l : List Int} (h : Own8 w0 w v l) (hl : 0 < l.length) : ∃ g cap, v = .slice (some ⟨g, 0, none⟩) l.length cap ∧ w0.heap.size ≤ g ∧ g < w.heap.size ∧ l.length ≤ cap ∧ cap ≤ 9223372036854775807 ∧ (∀ j x, l[j]? = some x → w.cell? ⟨g, j, none⟩ = some (.int .u8 x)) ∧ ∀ j, j < l.length → w.frozen? ⟨g, j, none⟩ = false := by
  rcases h with ⟨_, h⟩ | ⟨g, cap, h0, g1, g2, g3, g4, g5, g6⟩
  · subst h; simp at hl
  · exact ⟨g, cap, h0, g1, g2, g3, by unfold maxLen at g4; omega, g5, fun j hj => (g6 j (by omega)).2⟩
/-- As something that can be read. -/
def Rd8 (w : World) (v : Value) (l : List Int) : Prop := RdR 1 w v l.length (ints8 l)
theorem Rd8.bw {w w' : World} {v : Value} {l : List Int} (h : Rd8 w v l) (g : Bw w w') : Rd8 w' v l := RdR.bw h g
theorem Own8.rd {w0 w : World} {v : Value} {l : List Int} (h : Own8 w0 w v l) : Rd8 w v l := by
  rcases h with ⟨rfl, rfl⟩ | ⟨g, cap, rfl, g1, g2, g3, g4, g5, g6⟩
  · exact RdR.nil _ _
  · refine ⟨_, cap, rfl, g3, by unfold maxLen at g4; omega, by simp [ints8], fun _ => ⟨g, 0, rfl, g2, fun j u hu => ?_⟩⟩
    simp only [ints8, List.getElem?_map, Option.map_eq_some_iff] at hu
    obtain ⟨x, hx, rfl⟩ := hu
    rw [Nat.zero_add]
    exact g5 j x hx
theorem Rd8.open {w : World} {v : Value} {l : List Int} (h : Rd8 w v l) : ∃ q cap, v = .slice q l.length cap ∧ l.length ≤ cap ∧ cap ≤ 9223372036854775807 ∧ (0 < l.length → ∃ b o, q = some ⟨b, o, none⟩ ∧ b < w.heap.size ∧ ∀ i x, l[i]? = some x → w.cell? ⟨b, o + i, none⟩ = some (.int .u8 x)) := by
  obtain ⟨q, cap, h1, h2, h3, h4, h5⟩ := h
  refine ⟨q, cap, h1, h2, h3, fun h0 => ?_⟩
  obtain ⟨b, o, h6, h7, h8⟩ := h5 h0
  exact ⟨b, o, h6, h7, fun i x hx => h8 i _ (by simp [ints8, hx])⟩
theorem conv8 {w0 w : World} {v : Value} {l : List Int} (h : Own8 w0 w v l) : (convert 25 9 v).run Try.prog w = .ok (.string (strOfNums l)) w := by
  rcases h with ⟨rfl, rfl⟩ | ⟨g, cap, rfl, g1, g2, g3, g4, g5, g6⟩
  · exact run_convert_bytes_nil w 25 5 Try.underlying25 Try.underlying5 0 0 _ Try.underlying9
  · refine run_convert_bytes_arg w 25 5 Try.underlying25 Try.underlying5 g 0 l.length cap l rfl (fun i hi => ?_) _ Try.underlying9
    rw [Nat.zero_add]
    exact g5 i _ (by simp [List.getD, List.getElem?_eq_getElem hi])
theorem conv8R {w : World} {b o n cap : Nat} {l : List Int} (hn : n = l.length) (hc : ∀ i x, l[i]? = some x → w.cell? ⟨b, o + i, none⟩ = some (.int .u8 x)) : (convert 25 9 (.slice (some ⟨b, o, none⟩) n cap)).run Try.prog w = .ok (.string (strOfNums l)) w := by
  subst hn
  refine run_convert_bytes_arg w 25 5 Try.underlying25 Try.underlying5 b o l.length cap l rfl (fun i hi => ?_) _ Try.underlying9
  exact hc i _ (by simp [List.getD, List.getElem?_eq_getElem hi])
theorem run_app8_none {w0 wr : World} {v : Value} {l : List Int} (hown : Own8 w0 wr v l) (q : Option Addr) (c : Nat) : (Builtin.append_ #[25, 25] 25 #[v, .slice q 0 c]).run Try.prog wr = .ok v wr := by
  obtain ⟨i, hi, he⟩ := Option.map_eq_some_iff.1 info8
  rcases hown with ⟨rfl, rfl⟩ | ⟨g, cap, rfl, g1, g2, g3, g4, g5, g6⟩
  · cases q <;> simp [Builtin.append_, run_underlying Try.underlying25, sizeOf, typeInfo, hi, Builtin.lenOf, Builtin.firstCells, loadCells, loadCellsFrom]
  · cases q <;> simp [Builtin.append_, run_underlying Try.underlying25, sizeOf, typeInfo, hi, Builtin.lenOf, g3, Builtin.firstCells, storeCells, loadCells, loadCellsFrom]
/-- append(x, y...), y whatever can be read. -/
theorem app8S {w0 wr : World} {v x : Value} {l xs : List Int} (hown : Own8 w0 wr v l) (hbw : Bw w0 wr) (hx : Rd8 wr x xs) (hn : l.length + xs.length ≤ 1000000) :
    ∃ v' w', (Builtin.append_ #[25, 25] 25 #[v, x]).run Try.prog wr = .ok v' w' ∧ Own8 w0 w' v' (l ++ xs) ∧ Bw w0 w' ∧ Ap wr w' v v' := by
  obtain ⟨q, cap, rfl, h2, h3, h4, h5⟩ := hx
  by_cases h0 : 0 < xs.length
  · obtain ⟨b, o, rfl, h7, h8⟩ := h5 h0
    exact app8G hown hbw xs ⟨b, o, none⟩ (fun j u hu => by rw [Addr.add_lit]; exact h8 j u hu) h0 hn cap
  · have he : xs = [] := List.eq_nil_of_length_eq_zero (by omega)
    subst he
    exact ⟨v, wr, run_app8_none hown q cap, by simpa using hown, hbw, Ap.refl _ _⟩
def B8 (x : Int) : Prop := 0 ≤ x ∧ x < 256
def B8s (l : List Int) : Prop := ∀ x ∈ l, B8 x
theorem B8s.app {a b : List Int} (h : B8s a) (k : B8s b) : B8s (a ++ b) := fun x hx => by rcases List.mem_append.1 hx with h1 | h1; exact h x h1; exact k x h1
theorem strOf_list (a : List Int) : (strOfNums a).toList = a.map fun n => UInt8.ofNat n.toNat := by
  rw [Lib.toList_data]; simp [strOfNums]
theorem u8_of {x y : Int} (hx : B8 x) (hy : B8 y) : UInt8.ofNat x.toNat = UInt8.ofNat y.toNat ↔ x = y := by
  obtain ⟨a, b⟩ := hx; obtain ⟨c, d⟩ := hy
  constructor
  · intro h
    have := congrArg UInt8.toNat h
    simp only [UInt8.toNat_ofNat'] at this
    omega
  · intro h; rw [h]
theorem strOf_map {a b : List Int} (ha : B8s a) (hb : B8s b) : (a.map fun n => UInt8.ofNat n.toNat) = (b.map fun n => UInt8.ofNat n.toNat) ↔ a = b := by
  constructor
  · intro h
    apply List.ext_getElem?
    intro i
    have := congrArg (·[i]?) h
    simp only [List.getElem?_map] at this
    cases hx : a[i]? with
    | none =>
      cases hy : b[i]? with
      | none => rfl
      | some y => rw [hx, hy] at this; simp at this
    | some x =>
      cases hy : b[i]? with
      | none => rw [hx, hy] at this; simp at this
      | some y =>
        rw [hx, hy] at this
        simp only [Option.map_some, Option.some.injEq] at this
        rw [(u8_of (ha x (List.mem_of_getElem? hx)) (hb y (List.mem_of_getElem? hy))).1 this]
  · intro h; rw [h]
theorem Rd8.conv {w : World} {v : Value} {l : List Int} (h : Rd8 w v l) : (convert 25 9 v).run Try.prog w = .ok (.string (strOfNums l)) w := by
  obtain ⟨q, cap, rfl, h2, h3, h4⟩ := h.open
  by_cases h0 : 0 < l.length
  · obtain ⟨b, o, rfl, h7, h8⟩ := h4 h0
    exact conv8R rfl h8
  · have he : l = [] := List.eq_nil_of_length_eq_zero (by omega)
    subst he
    cases q with
    | none => exact run_convert_bytes_nil w 25 5 Try.underlying25 Try.underlying5 0 cap _ Try.underlying9
    | some a => simp [convert, run_underlying Try.underlying25, run_underlying Try.underlying9, run_underlying Try.underlying5, Conv.bytesToString, loadCells, loadCellsFrom, strOfNums]; rfl
theorem RdR.new {sz n : Nat} (w : World) (cs : List Value) (t : TypeId) (h : cs.length = n * sz) (hn : n ≤ 100000) : RdR sz (w.alloc (.cells cs.toArray t)) (.slice (some ⟨w.heap.size, 0, none⟩) n n) n cs := by
  refine ⟨_, n, rfl, Nat.le_refl _, by omega, h, fun _ => ⟨w.heap.size, 0, rfl, by simp, fun j u hu => ?_⟩⟩
  have := cell_new w cs t j u hu
  rw [Nat.zero_add]
  have hadd : (⟨w.heap.size, 0, none⟩ : Addr).add j = ⟨w.heap.size, j, none⟩ := by unfold Addr.add; split <;> simp_all
  rwa [hadd] at this
theorem Rd8.new (w : World) (l : List Int) (hl : l.length ≤ 100000) : Rd8 (w.alloc (.cells (ints8 l).toArray 5)) (.slice (some ⟨w.heap.size, 0, none⟩) l.length l.length) l := RdR.new w _ _ (by simp [ints8]) hl
/-- A part of what can be read can be read. -/
theorem Rd8.part {w : World} {b o c2 : Nat} {l : List Int} (hbl : b < w.heap.size) (hc : ∀ i x, l[i]? = some x → w.cell? ⟨b, o + i, none⟩ = some (.int .u8 x)) (i m : Nat) (him : i + m ≤ l.length) (hm : m ≤ c2) (hc2 : c2 ≤ 9223372036854775807) :
    Rd8 w (.slice (some ⟨b, o + i, none⟩) m c2) ((l.drop i).take m) := by
  have hlen : ((l.drop i).take m).length = m := by rw [List.length_take, List.length_drop]; omega
  refine ⟨_, c2, by rw [hlen], by omega, hc2, by simp [ints8], fun _ => ⟨b, o + i, rfl, hbl, fun j u hu => ?_⟩⟩
  simp only [ints8, List.getElem?_map, Option.map_eq_some_iff] at hu
  obtain ⟨y, hy, rfl⟩ := hu
  rw [List.getElem?_take] at hy
  split at hy
  · rw [List.getElem?_drop] at hy
    rw [Nat.add_assoc]; exact hc _ y hy
  · simp at hy
end Go.Proofs.Ytaepjlaegldkhaa
