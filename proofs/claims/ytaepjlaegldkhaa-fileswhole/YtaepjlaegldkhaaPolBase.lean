/- LAYER 7's walks, what they stand on: the world behind a call (its old blocks stand), slices that can be read, slices of the call's own. -/
import Derived.Test.YtaepjlaegldkhaaBase
import Derived.Maps.AppendAt
import Derived.Deep.LoopGhost
import Derived.Deep.RegionHeld3
import Derived.LoopTactic
import Derived.Lib.ConvBytes
namespace Go.Proofs.Ytaepjlaegldkhaa
open Go.ChangeShapes Go.WideShapes Go.ChangeAt Go.RowKit

/-- Behind a call: every block that was there stands. -/
def Bw (w w' : World) : Prop := Below w.heap.size w w'
theorem Bw.refl (w : World) : Bw w w := Below.refl _ _
theorem Bw.trans {a b c : World} (h : Bw a b) (k : Bw b c) : Bw a c := Below.trans h (Below.mono k h.size)
theorem Bw.alloc {a w : World} (h : Bw a w) (o : Obj) : Bw a (w.alloc o) := Below.alloc h h.size o
theorem Bw.drew {a w : World} (h : Bw a w) : Bw a w.drew := Below.drew h
theorem Bw.drewN {a w : World} (h : Bw a w) (n : Nat) : Bw a (w.drewN n) := ⟨h.os, h.tape, h.output, h.size, h.block⟩
theorem Bw.setCell {a w : World} (h : Bw a w) {p : Addr} (hp : a.heap.size ≤ p.block) (v : Value) : Bw a (w.setCell p v) := Below.setCell h hp v
theorem Gr.bw {a w : World} (h : Gr a w) : Bw a w := h.b
theorem Bw.gr {a b c : World} (h : Bw a b) (k : Gr b c) : Bw a c := h.trans k.b
theorem Bw.keep {a w : World} (h : Bw a w) {p : Addr} {v : Value} (hv : a.cell? p = some v) : w.cell? p = some v := by
  have hb : p.block < a.heap.size := by
    apply Decidable.byContradiction
    intro hn
    have : a.heap[p.block]? = none := by simp; omega
    simp [World.cell?, this] at hv
  rw [Below.cell h hb]; exact hv
theorem wpApp {P : Program} {w w' : World} {ops : Array Oper} {rest : List Oper} {o : Oper} {a : Act} {Q : Exit → Act → World → Prop} (hgd : o.guard = none) (s x : Operand) (t : TypeId)
    (ho : o.op = .call { callee := .builtin .append, args := #[s, x], argTypes := #[t, t] }) {v xv v' : Value} (hs : a.eval s = v) (hx : a.eval x = xv)
    (hr : (Builtin.append_ #[t, t] o.type #[v, xv]).run P w = .ok v' w') (h : wpList P ops Q rest (a.put o.dst v') w') : wpList P ops Q (o :: rest) a w := by
  refine wpList_plain hgd fun K hK => ?_
  unfold Oper.wp execOp
  simp only [ho, resolve, invoke, builtin, Sem.run_bind, Sem.run_pure, Result.andThen_ok, List.map_toArray, List.map_cons, List.map_nil, hs, hx, hr]
  exact hK _ _ h

/-- A slice of the call's own: n elements of sz cells, element type e. -/
def OwnR (e sz : Nat) (w0 w : World) (v : Value) (n : Nat) (cs : List Value) : Prop := w.ownsRow w0.heap.size e sz v n cs
theorem OwnR.bw {e sz n : Nat} {cs : List Value} {w0 w w' : World} {v : Value} (h : OwnR e sz w0 w v n cs) (g : Bw w w') : OwnR e sz w0 w' v n cs := by
  obtain ⟨h1, h2⟩ := h
  refine ⟨h1, ?_⟩
  rcases h2 with h2 | ⟨b, cap, cur, h3, h4, h5, h6⟩
  · exact Or.inl h2
  · exact Or.inr ⟨b, cap, cur, h3, h4, by rw [Below.block g b (Array.getElem?_eq_some_iff.1 h5).1]; exact h5, h6⟩
theorem OwnR.nil (e sz : Nat) (w0 w : World) : OwnR e sz w0 w (.slice none 0 0) 0 [] := ⟨by simp, Or.inl ⟨rfl, rfl⟩⟩
theorem appR {e sz bytes : Nat} {z : Value} {t ty : TypeId} (hinf : (Try.prog.info? e).map (fun i => (i.zero, i.size, i.bytes)) = some (some z, sz, bytes)) (ht : Try.prog.underlying t = some (.slice e)) (hzs : z.cells.size = sz) (hsz : 0 < sz) (hby : bytes ≤ 100)
    {w0 wr : World} {v : Value} {n : Nat} {cs : List Value} (hown : OwnR e sz w0 wr v n cs) (hbw : Bw w0 wr) (a : Addr) (m c : Nat) (news : List Value) (hl : news.length = m * sz)
    (hnews : ∀ j u, news[j]? = some u → wr.cell? (a.add j) = some u) (h1 : ∀ u ∈ news, u.oneCell' = true) (hn : n + m ≤ 1000000) :
    ∃ v' w', (Builtin.append_ #[t, t] ty #[v, .slice (some a) m c]).run Try.prog wr = .ok v' w' ∧ OwnR e sz w0 w' v' (n + m) (cs ++ news) ∧ Bw w0 w' := by
  obtain ⟨i, hi, he⟩ := Option.map_eq_some_iff.1 hinf
  simp only [Prod.mk.injEq] at he
  obtain ⟨hz, hs, hb⟩ := he
  have hmul : (n + m) * bytes ≤ 1000000 * 100 := Nat.mul_le_mul hn hby
  obtain ⟨v', w', hr, ho, hg, -, hloc⟩ := run_append_own_at (P := Try.prog) (w := wr) w0.heap.size t ty e i z sz bytes ht hi hz hs hb hzs hsz v n cs hown a m c news hl hnews h1 (by unfold maxLen; omega) (by omega) hbw.size
  refine ⟨v', w', hr, ho, Below.grown hbw hg hbw.size (fun k hk => ?_)⟩
  obtain ⟨h1, h2⟩ := hown
  rcases h2 with ⟨h2, _⟩ | ⟨b, cap, cur, h3, h4, h5, h6⟩
  · rw [h2] at hk; simp [Value.ownBlock] at hk
  · rw [h3] at hk; simp [Value.ownBlock] at hk; omega
theorem cell_new (w : World) (news : List Value) (e : TypeId) : ∀ j u, news[j]? = some u → (w.alloc (.cells news.toArray e)).cell? ((⟨w.heap.size, 0, none⟩ : Addr).add j) = some u := fun j u hu => by
  have hadd : (⟨w.heap.size, 0, none⟩ : Addr).add j = ⟨w.heap.size, j, none⟩ := by unfold Addr.add; split <;> simp_all
  have hj := (List.getElem?_eq_some_iff.1 hu).1
  rw [hadd, World.cell?_alloc_at _ _ _ _ (by simp)]
  simpa using hu
/-- A slice that reads so: n elements, all their cells. -/
def RdR (sz : Nat) (w : World) (v : Value) (n : Nat) (cs : List Value) : Prop :=
  ∃ q cap, v = .slice q n cap ∧ n ≤ cap ∧ cap ≤ 9223372036854775807 ∧ cs.length = n * sz ∧ (0 < n → ∃ b o, q = some ⟨b, o, none⟩ ∧ b < w.heap.size ∧ ∀ j u, cs[j]? = some u → w.cell? ⟨b, o + j, none⟩ = some u)
theorem RdR.bw {sz n : Nat} {cs : List Value} {w w' : World} {v : Value} (h : RdR sz w v n cs) (g : Bw w w') : RdR sz w' v n cs := by
  obtain ⟨q, cap, h1, h2, h3, h4, h5⟩ := h
  refine ⟨q, cap, h1, h2, h3, h4, fun h0 => ?_⟩
  obtain ⟨b, o, h6, h7, h8⟩ := h5 h0
  exact ⟨b, o, h6, Nat.lt_of_lt_of_le h7 g.size, fun j u hu => g.keep (h8 j u hu)⟩
theorem RdR.nil (sz : Nat) (w : World) : RdR sz w (.slice none 0 0) 0 [] := ⟨none, 0, rfl, Nat.le_refl _, by omega, by simp, fun h => by omega⟩
theorem OwnR.rd {e sz n : Nat} {cs : List Value} {w0 w : World} {v : Value} (h : OwnR e sz w0 w v n cs) : RdR sz w v n cs := by
  obtain ⟨h1, h2⟩ := h
  rcases h2 with ⟨rfl, rfl⟩ | ⟨g, cap, cur, rfl, hb, hc, h4, h5, h6, h7⟩
  · exact ⟨none, 0, rfl, Nat.le_refl _, by omega, h1, fun h => by omega⟩
  · refine ⟨_, cap, rfl, h4, by unfold maxLen at h5; omega, h1, fun _ => ⟨g, 0, rfl, (Array.getElem?_eq_some_iff.1 hc).1, fun j u hu => ?_⟩⟩
    have hj : j < n * sz := by rw [← h1]; exact (List.getElem?_eq_some_iff.1 hu).1
    rw [← h7, List.getElem?_take_of_lt hj] at hu
    rw [Nat.zero_add]
    simp [World.cell?, hc] at hu ⊢
    exact hu
/-- A row's cells, element by element. -/
theorem chunk {α β : Type} (f : α → List β) (k : Nat) (hk : ∀ x, (f x).length = k) : ∀ (l : List α) (i : Nat) (x : α) (j : Nat), l[i]? = some x → j < k → (l.flatMap f)[i * k + j]? = (f x)[j]? := by
  intro l
  induction l with
  | nil => intro i x j h; simp at h
  | cons a r ih =>
    intro i x j h hj
    rw [List.flatMap_cons]
    cases i with
    | zero =>
      simp at h; subst h
      rw [Nat.zero_mul, Nat.zero_add, List.getElem?_append_left (by rw [hk]; exact hj)]
    | succ i =>
      rw [List.getElem?_append_right (by rw [hk, Nat.succ_mul]; omega), hk, show (i + 1) * k + j - k = i * k + j by rw [Nat.succ_mul]; omega]
      exact ih i x j (by simpa using h) hj
theorem chunk_len {α β : Type} (f : α → List β) (k : Nat) (hk : ∀ x, (f x).length = k) : ∀ l : List α, (l.flatMap f).length = l.length * k := by
  intro l
  induction l with
  | nil => simp
  | cons a r ih => rw [List.flatMap_cons, List.length_append, ih, hk, List.length_cons, Nat.succ_mul, Nat.add_comm]
end Go.Proofs.Ytaepjlaegldkhaa
