/- LAYER 6's walks, what they stand on: the world behind a call (its old blocks stand), strings as lists of bytes, the library's contracts at this cut. · LAYER 6: a word's four bytes appended to a slice of the call's own. · LAYER 6: slices of strings that a call made; one more appended. -/
import Derived.Test.YtllgkofibkobnaaDoorR7
import Derived.Test.YtllgkofibkobnaaDoorR1
import Derived.Test.YtllgkofibkobnaaDoorShelf
import Derived.Lib.OthersKept
import Derived.Maps.AppendAt
import Derived.Laws.IdiomStrings
namespace Go.Proofs.YtllgkofibkobnaaDoor
open Go.ChangeShapes Go.WideShapes Go.ChangeAt Go.RowKit

/-- Behind a call: every block that was there stands. -/
def Bw (w w' : World) : Prop := Below w.heap.size w w'
theorem Bw.refl (w : World) : Bw w w := Below.refl _ _
theorem Bw.trans {a b c : World} (h : Bw a b) (k : Bw b c) : Bw a c := Below.trans h (Below.mono k h.size)
theorem Bw.alloc {a w : World} (h : Bw a w) (o : Obj) : Bw a (w.alloc o) := Below.alloc h h.size o
theorem Bw.drew {a w : World} (h : Bw a w) : Bw a w.drew := Below.drew h
theorem Bw.drewN {a w : World} (h : Bw a w) (n : Nat) : Bw a (w.drewN n) := ⟨h.os, h.tape, h.output, h.size, h.block⟩
theorem Bw.setCell {a w : World} (h : Bw a w) {p : Addr} (hp : a.heap.size ≤ p.block) (v : Value) : Bw a (w.setCell p v) := Below.setCell h hp v
theorem Gr.bw {a w : World} (h : Gr a w) : Bw a w := h.b
theorem Bw.gr {a b c : World} (h : Bw a b) (k : Gr b c) : Bw a c := h.trans k.b
theorem Bw.keep {a w : World} (h : Bw a w) {p : Addr} {v : Value} (hv : a.cell? p = some v) : w.cell? p = some v := by
  have hb : p.block < a.heap.size := by
    apply Decidable.byContradiction
    intro hn
    have : a.heap[p.block]? = none := by simp; omega
    simp [World.cell?, this] at hv
  rw [Below.cell h hb]; exact hv
/-- A list of bytes as a Go string. -/
def bs (l : List UInt8) : ByteArray := ⟨l.toArray⟩
theorem bs_of (s : ByteArray) : bs s.data.toList = s := by cases s; simp [bs]
theorem bs_data (l : List UInt8) : (bs l).data.toList = l := by simp [bs]
@[go_sem] theorem bs_size (l : List UInt8) : (bs l).size = l.length := by simp [bs, ByteArray.size]
@[go_sem] theorem bs_toList (l : List UInt8) : (bs l).toList = l := by rw [Lib.toList_data, bs_data]
theorem bs_inj {a b : List UInt8} (h : bs a = bs b) : a = b := by rw [← bs_data a, ← bs_data b, h]
theorem bs_get (l : List UInt8) (i : Nat) (b : UInt8) (h : l[i]? = some b) : ∀ hi, (bs l)[i]'hi = b := by
  intro hi
  have hl : i < l.length := (List.getElem?_eq_some_iff.1 h).1
  have : l[i] = b := by rw [List.getElem?_eq_getElem hl] at h; exact Option.some.inj h
  rw [← this]
  simp [bs, ByteArray.getElem_eq_getElem_data]
end Go.Proofs.YtllgkofibkobnaaDoor
namespace Go.Proofs.YtllgkofibkobnaaDoor
open Go.ChangeShapes Go.WideShapes Go.ChangeAt Go.RowKit

theorem wpApp {P : Program} {w w' : World} {ops : Array Oper} {rest : List Oper} {o : Oper} {a : Act} {Q : Exit → Act → World → Prop} (hgd : o.guard = none) (s x : Operand) (t : TypeId)
    (ho : o.op = .call { callee := .builtin .append, args := #[s, x], argTypes := #[t, t] }) {v xv v' : Value} (hs : a.eval s = v) (hx : a.eval x = xv)
    (hr : (Builtin.append_ #[t, t] o.type #[v, xv]).run P w = .ok v' w') (h : wpList P ops Q rest (a.put o.dst v') w') : wpList P ops Q (o :: rest) a w := by
  refine wpList_plain hgd fun K hK => ?_
  unfold Oper.wp execOp
  simp only [ho, resolve, invoke, builtin, Sem.run_bind, Sem.run_pure, Result.andThen_ok, List.map_toArray, List.map_cons, List.map_nil, hs, hx, hr]
  exact hK _ _ h
theorem info8 : ∃ i, Tryd.prog.info? 5 = some i ∧ i.zero = some (.int .u8 0) ∧ i.size = 1 ∧ i.bytes = 1 := by
  have h : (Tryd.prog.info? 5).map (fun i => (i.zero, i.size, i.bytes)) = some (some (.int .u8 0), 1, 1) := by kernel_rfl
  obtain ⟨i, hi, he⟩ := Option.map_eq_some_iff.1 h
  simp only [Prod.mk.injEq] at he
  exact ⟨i, hi, he.1, he.2.1, he.2.2⟩
def ints8 (l : List Int) : List Value := l.map fun x => Value.int .u8 x
/-- A slice of bytes that the call made: its cells. -/
def Own8 (w0 w : World) (v : Value) (l : List Int) : Prop := w.ownsRow w0.heap.size 5 1 v l.length (ints8 l)
theorem Own8.bw {w0 w w' : World} {v : Value} {l : List Int} (h : Own8 w0 w v l) (g : Bw w w') : Own8 w0 w' v l := by
  obtain ⟨h1, h2⟩ := h
  refine ⟨h1, ?_⟩
  rcases h2 with h2 | ⟨b, cap, cur, h3, h4, h5, h6⟩
  · exact Or.inl h2
  · exact Or.inr ⟨b, cap, cur, h3, h4, by rw [Below.block g b (Array.getElem?_eq_some_iff.1 h5).1]; exact h5, h6⟩
theorem Own8.nil (w0 w : World) : Own8 w0 w (.slice none 0 0) [] := ⟨rfl, Or.inl ⟨rfl, rfl⟩⟩
theorem app8 {w0 wr : World} {v : Value} {l : List Int} (hown : Own8 w0 wr v l) (hbw : Bw w0 wr) (xs : List Int) (hn : l.length + xs.length ≤ 1000000) (c : Nat) :
    ∃ v' w', (Builtin.append_ #[23, 23] 23 #[v, .slice (some ⟨wr.heap.size, 0, none⟩) xs.length c]).run Tryd.prog (wr.alloc (.cells (ints8 xs).toArray 5)) = .ok v' w' ∧ Own8 w0 w' v' (l ++ xs) ∧ Bw w0 w' := by
  obtain ⟨i, hi, hz, hs, hb⟩ := info8
  have hbA := hbw.alloc (.cells (ints8 xs).toArray 5)
  have hownA : Own8 w0 (wr.alloc (.cells (ints8 xs).toArray 5)) v l := hown.bw ((Bw.refl wr).alloc _)
  obtain ⟨v', w', hr, ho, hg, -, hloc⟩ := run_append_own_at (P := Tryd.prog) (w := wr.alloc (.cells (ints8 xs).toArray 5)) w0.heap.size 23 23 5 i (.int .u8 0) 1 1 Tryd.underlying23 hi hz hs hb rfl (by decide) v l.length (ints8 l) hownA ⟨wr.heap.size, 0, none⟩ xs.length c (ints8 xs) (by simp [ints8])
    (fun j u hu => by
      have hadd : (⟨wr.heap.size, 0, none⟩ : Addr).add j = ⟨wr.heap.size, j, none⟩ := by unfold Addr.add; split <;> simp_all
      rw [hadd, World.cell?_alloc_at _ _ _ _ (by simp)]
      simpa using hu)
    (fun u hu => by simp [ints8] at hu; obtain ⟨x, _, rfl⟩ := hu; rfl) (by unfold maxLen; omega) (by omega) (by have := hbw.size; simp; omega)
  refine ⟨v', w', hr, ?_, ?_⟩
  · unfold Own8
    rw [List.length_append]
    have : ints8 (l ++ xs) = ints8 l ++ ints8 xs := by simp [ints8]
    rw [this]; exact ho
  · refine Below.grown hbA hg (Nat.le_trans hbw.size (by simp)) (fun k hk => ?_)
    obtain ⟨h1, h2⟩ := hown
    rcases h2 with ⟨h2, _⟩ | ⟨b, cap, cur, h3, h4, h5, h6⟩
    · rw [h2] at hk; simp [Value.ownBlock] at hk
    · rw [h3] at hk; simp [Value.ownBlock] at hk; omega
end Go.Proofs.YtllgkofibkobnaaDoor
namespace Go.Proofs.YtllgkofibkobnaaDoor
open Go.ChangeShapes Go.WideShapes Go.ChangeAt Go.RowKit

theorem infoS : ∃ i, Tryd.prog.info? 9 = some i ∧ i.zero = some (.string ⟨#[]⟩) ∧ i.size = 1 ∧ i.bytes = 16 := by
  have h : (Tryd.prog.info? 9).map (fun i => (i.zero, i.size, i.bytes)) = some (some (.string ⟨#[]⟩), 1, 16) := by kernel_rfl
  obtain ⟨i, hi, he⟩ := Option.map_eq_some_iff.1 h
  simp only [Prod.mk.injEq] at he
  exact ⟨i, hi, he.1, he.2.1, he.2.2⟩
def strsV (l : List (List UInt8)) : List Value := l.map fun x => Value.string (bs x)
/-- A slice of strings that the call made. -/
def OwnS (w0 w : World) (v : Value) (l : List (List UInt8)) : Prop := w.ownsRow w0.heap.size 9 1 v l.length (strsV l)
theorem OwnS.bw {w0 w w' : World} {v : Value} {l : List (List UInt8)} (h : OwnS w0 w v l) (g : Bw w w') : OwnS w0 w' v l := by
  obtain ⟨h1, h2⟩ := h
  refine ⟨h1, ?_⟩
  rcases h2 with h2 | ⟨b, cap, cur, h3, h4, h5, h6⟩
  · exact Or.inl h2
  · exact Or.inr ⟨b, cap, cur, h3, h4, by rw [Below.block g b (Array.getElem?_eq_some_iff.1 h5).1]; exact h5, h6⟩
theorem OwnS.nil (w0 w : World) : OwnS w0 w (.slice none 0 0) [] := ⟨rfl, Or.inl ⟨rfl, rfl⟩⟩
/-- From an elder world on. -/
theorem OwnS.from {w00 w0 w : World} {v : Value} {l : List (List UInt8)} (h : OwnS w0 w v l) (hs : w00.heap.size ≤ w0.heap.size) : OwnS w00 w v l := by
  obtain ⟨h1, h2⟩ := h
  refine ⟨h1, ?_⟩
  rcases h2 with h2 | ⟨b, cap, cur, h3, h4, h5⟩
  · exact Or.inl h2
  · exact Or.inr ⟨b, cap, cur, h3, Nat.le_trans hs h4, h5⟩
/-- What it holds. -/
theorem OwnS.at {w0 w : World} {v : Value} {l : List (List UInt8)} (h : OwnS w0 w v l) : ∃ q cap, v = .slice q l.length cap ∧ l.length ≤ cap ∧ cap ≤ maxLen ∧ (0 < l.length → ∃ b, q = some ⟨b, 0, none⟩ ∧ w0.heap.size ≤ b ∧ b < w.heap.size ∧ ∀ (j : Nat) t, l[j]? = some t → w.cell? ⟨b, j, none⟩ = some (.string (bs t)) ∧ w.frozen? ⟨b, j, none⟩ = false) := by
  obtain ⟨h1, h2⟩ := h
  rcases h2 with ⟨rfl, h3⟩ | ⟨g, cap, cur, rfl, hb, hc, h4, h5, h6, h7⟩
  · exact ⟨none, 0, by rw [h3], by omega, by unfold maxLen; omega, fun h => by omega⟩
  · refine ⟨_, _, rfl, h4, h5, fun _ => ⟨g, rfl, hb, (Array.getElem?_eq_some_iff.1 hc).1, fun j t ht => ⟨?_, ?_⟩⟩⟩
    · have hj : j < l.length := (List.getElem?_eq_some_iff.1 ht).1
      have h8 : (strsV l)[j]? = some (.string (bs t)) := by simp [strsV, ht]
      rw [← h7, List.getElem?_take_of_lt (by omega)] at h8
      simp [World.cell?, hc] at h8 ⊢
      exact h8
    · simp [World.frozen?, hc]
theorem appS {w0 wr : World} {v : Value} {l : List (List UInt8)} (hown : OwnS w0 wr v l) (hbw : Bw w0 wr) (x : List UInt8) (hn : l.length ≤ 1000000) :
    ∃ v' w', (Builtin.append_ #[41, 41] 41 #[v, .slice (some ⟨wr.heap.size, 0, none⟩) 1 1]).run Tryd.prog (wr.alloc (.cells #[.string (bs x)] 9)) = .ok v' w' ∧ OwnS w0 w' v' (l ++ [x]) ∧ Bw w0 w' := by
  obtain ⟨i, hi, hz, hs, hb⟩ := infoS
  have hbA := hbw.alloc (.cells #[.string (bs x)] 9)
  have hownA : OwnS w0 (wr.alloc (.cells #[.string (bs x)] 9)) v l := hown.bw ((Bw.refl wr).alloc _)
  obtain ⟨v', w', hr, ho, hg, -, hloc⟩ := run_append_own_at (P := Tryd.prog) (w := wr.alloc (.cells #[.string (bs x)] 9)) w0.heap.size 41 41 9 i (.string ⟨#[]⟩) 1 16 Tryd.underlying41 hi hz hs hb rfl (by decide) v l.length (strsV l) hownA ⟨wr.heap.size, 0, none⟩ 1 1 [.string (bs x)] (by simp)
    (fun j u hu => by
      have hadd : (⟨wr.heap.size, 0, none⟩ : Addr).add j = ⟨wr.heap.size, j, none⟩ := by unfold Addr.add; split <;> simp_all
      rw [hadd, World.cell?_alloc_at _ _ _ _ (by simp)]
      simpa using hu)
    (fun u hu => by simp at hu; subst hu; rfl) (by unfold maxLen; omega) (by omega) (by have := hbw.size; simp; omega)
  refine ⟨v', w', hr, ?_, ?_⟩
  · unfold OwnS
    rw [List.length_append]
    have : strsV (l ++ [x]) = strsV l ++ [.string (bs x)] := by simp [strsV]
    rw [this]; exact ho
  · refine Below.grown hbA hg (Nat.le_trans hbw.size (by simp)) (fun k hk => ?_)
    obtain ⟨h1, h2⟩ := hown
    rcases h2 with ⟨h2, _⟩ | ⟨b, cap, cur, h3, h4, h5, h6⟩
    · rw [h2] at hk; simp [Value.ownBlock] at hk
    · rw [h3] at hk; simp [Value.ownBlock] at hk; omega
/-- A slice of one byte as a string. -/
theorem conv1c (w : World) (c : UInt8) :
    (convert 23 9 (.slice (some ⟨w.heap.size, 0, none⟩) 1 1)).run Tryd.prog (w.alloc (.cells #[.int .u8 (c.toNat : Int)] 5)) = .ok (.string (bs [c])) (w.alloc (.cells #[.int .u8 (c.toNat : Int)] 5)) := by
  exact run_convert_bytes_back (P := Tryd.prog) (w.alloc (.cells #[.int .u8 (c.toNat : Int)] 5)) 23 9 5 ⟨w.heap.size, 0, none⟩ 1 [c] Tryd.underlying23 Tryd.underlying5 Tryd.underlying9 (fun j hj => by
    have hj0 : j = 0 := by simp at hj; omega
    subst hj0
    have hadd : (⟨w.heap.size, 0, none⟩ : Addr).add 0 = ⟨w.heap.size, 0, none⟩ := by simp [Addr.add_lit]
    rw [hadd, World.cell?_alloc_at _ _ _ _ (by simp)]
    simp)
end Go.Proofs.YtllgkofibkobnaaDoor
