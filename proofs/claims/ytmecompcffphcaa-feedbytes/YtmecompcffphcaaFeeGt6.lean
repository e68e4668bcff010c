/- The reference's reader of chapter 9: what GetFeed's walk holds; plain. -/
import Derived.Test.YtmecompcffphcaaFeeGt5
namespace Go.Proofs.Ytmecompcffphcaa
open Go.ChangeShapes Go.WideShapes Go.ChangeAt Go.RowKit
set_option linter.unusedVariables false

theorem RdT.keep {P : Nat → Prop} {X Y : World} {rb : Nat} {L0 L : List Int} {bd : Bool} (h : RdT P X rb L0 L bd) (hs : X.heap.size ≤ Y.heap.size) (hk : ∀ i, (i = rb ∨ ¬ P i) → Y.heap[i]? = X.heap[i]?) : RdT P Y rb L0 L bd := by
  obtain ⟨q0, cap0, a, hb, ha, hL, hR, hF⟩ := h
  refine ⟨q0, cap0, a, hb.blk (hk rb (Or.inl rfl)), ha, hL, ?_, hF⟩
  obtain ⟨q, cap, h1, h2, h3, h4, h5⟩ := hR
  refine ⟨q, cap, h1, h2, h3, h4, fun h0 => ?_⟩
  obtain ⟨b', o, rfl, h7, h8⟩ := h5 h0
  have hb2 := hk b' (Or.inr (hF ⟨b', o, none⟩ (by simp at h1; exact h1.1) h0))
  exact ⟨b', o, rfl, Nat.lt_of_lt_of_le h7 hs, fun j u hu => by rw [cell_block (p := ⟨b', o + j, none⟩) hb2]; exact h8 j u hu⟩
theorem Bq.new {pb nb : Nat} {a b : World} (h : Bq pb a b) (hn : a.heap.size ≤ nb) (j : Nat) (u : Value) : Bq pb a (b.setCell ⟨nb, j, none⟩ u) :=
  ⟨h.b0.trans ((Below.refl 0 b).setCell (p := ⟨nb, j, none⟩) (Nat.zero_le _) u), fun i hi hne => (Below.heap_setCell _ _ _ _ (fun e => by dsimp only at e; omega)).trans (h.block i hi hne)⟩
/-- What the walk of GetFeed holds: the result's box, the reader, the feed's box. -/
structure RT (w : World) (X : World) (L0 L : List Int) (fl : Bool) (vs : List Value) : Prop where
  rd : RdT (fun i => w.heap.size ≤ i) X (w.heap.size + 1) L0 L fl
  bx : Box X (w.heap.size + 2) vs
  ax : Box X w.heap.size [.slice none 0 0, .slice none 0 0, .slice none 0 0, .slice none 0 0, .slice none 0 0, .slice none 0 0]
  fr : Bw w X
  sz : w.heap.size + 3 ≤ X.heap.size
section
variable {w X Y : World} {L0 L L' : List Int} {fl fl' : Bool} {vs : List Value}
theorem RT.keep (h : RT w X L0 L fl vs) (b0 : Bw w Y) (hs : X.heap.size ≤ Y.heap.size) (hk : ∀ i, i < w.heap.size + 3 → Y.heap[i]? = X.heap[i]?) : RT w Y L0 L fl vs :=
  ⟨h.rd.keep hs (fun i hi => hk i (by rcases hi with rfl | hi; omega; omega)), h.bx.blk (hk _ (by omega)), h.ax.blk (hk _ (by omega)), b0, Nat.le_trans h.sz hs⟩
theorem RT.bw (h : RT w X L0 L fl vs) (g : Bw X Y) : RT w Y L0 L fl vs := h.keep (h.fr.trans g) g.size (fun i hi => Below.block g i (Nat.lt_of_lt_of_le hi h.sz))
theorem RT.ap {v v' : Value} (h : RT w X L0 L fl vs) (g : Ap X Y v v') (ho : ∀ j, v.ownBlock = some j → w.heap.size + 3 ≤ j) : RT w Y L0 L fl vs := h.keep (g.toBw h.fr (fun k hk => by have := ho k hk; omega)) g.b.size (fun i hi => g.block i (Nat.lt_of_lt_of_le hi h.sz) (fun e => by have := ho i e; omega))
theorem RT.call (h : RT w X L0 L fl vs) (hr : RdT (fun i => w.heap.size ≤ i) Y (w.heap.size + 1) L0 L' fl') (g : Bq (w.heap.size + 1) X Y) : RT w Y L0 L' fl' vs :=
  ⟨hr, h.bx.blk (g.block _ (by have := h.sz; omega) (by omega)), h.ax.blk (g.block _ (by have := h.sz; omega) (by omega)), g.toBw h.fr (by omega), Nat.le_trans h.sz g.b0.size⟩
theorem RT.set (h : RT w X L0 L fl vs) (j : Nat) (hj : j < vs.length) (u : Value) : RT w (X.setCell ⟨w.heap.size + 2, j, none⟩ u) L0 L fl (vs.set j u) := by
  have hb := Bx.set 0 (fb := w.heap.size + 2) X j u
  have hs := h.sz
  refine ⟨h.rd.keep hb.b0.size (fun i hi => Below.heap_setCell _ _ _ _ (fun e => ?_)), h.bx.set j hj u, h.ax.ne (by omega) j u, h.fr.setCell (p := ⟨w.heap.size + 2, j, none⟩) (by show w.heap.size ≤ w.heap.size + 2; omega) u, Nat.le_trans h.sz hb.b0.size⟩
  dsimp only at e
  rcases hi with rfl | hi
  · omega
  · omega
theorem RT.away (h : RT w X L0 L fl vs) {nb : Nat} (hn : w.heap.size + 3 ≤ nb) (j : Nat) (u : Value) : RT w (X.setCell ⟨nb, j, none⟩ u) L0 L fl vs :=
  h.keep (h.fr.setCell (p := ⟨nb, j, none⟩) (by show w.heap.size ≤ nb; omega) u) (Bx.set 0 (fb := nb) X j u).b0.size (fun i hi => Below.heap_setCell _ _ _ _ (fun e => by dsimp only at e; omega))
end
/-- One more element on a slice of the loop's own, stored in the feed's box. -/
theorem accT_step {e sz bytes : Nat} {z : Value} {t ty : TypeId} (hinf : (Try.prog.info? e).map (fun i => (i.zero, i.size, i.bytes)) = some (some z, sz, bytes)) (ht : Try.prog.underlying t = some (.slice e)) (hzs : z.cells.size = sz) (hsz : 0 < sz) (hby : bytes ≤ 100)
    {w a X Y : World} {L0 L : List Int} {fl : Bool} {vs : List Value} {v : Value} {n : Nat} {cs : List Value} (hF : RT w Y L0 L fl vs) (ha : w.heap.size + 3 ≤ a.heap.size) (hown : OwnR e sz a X v n cs) (hx : Bx (w.heap.size + 1) (w.heap.size + 2) a X) (hq : Bq (w.heap.size + 1) X Y) (j : Nat) (hj : j < vs.length) (c : Nat) (news : List Value) (hl : news.length = sz) (h1 : ∀ u ∈ news, u.oneCell' = true) (hn : n ≤ 10000) :
    ∃ v' Z, (Builtin.append_ #[t, t] ty #[v, .slice (some ⟨Y.heap.size, 0, none⟩) 1 c]).run Try.prog (Y.alloc (.cells news.toArray e)) = .ok v' Z ∧ RT w Z L0 L fl vs ∧ OwnR e sz a (Z.setCell ⟨w.heap.size + 2, j, none⟩ v') v' (n + 1) (cs ++ news) ∧ Bx (w.heap.size + 1) (w.heap.size + 2) a (Z.setCell ⟨w.heap.size + 2, j, none⟩ v') ∧ RT w (Z.setCell ⟨w.heap.size + 2, j, none⟩ v') L0 L fl (vs.set j v') ∧ Ap Y Z v v' := by
  have ho : ∀ i, v.ownBlock = some i → a.heap.size ≤ i ∧ i < X.heap.size := hown.own
  have hown2 : OwnR e sz a Y v n cs := hown.heap (fun i hi => hq.block i (ho i hi).2 (by have := (ho i hi).1; omega))
  obtain ⟨v', Z, hr, ho2, hA⟩ := appA (ty := ty) hinf ht hzs hsz hby hown2 (Nat.le_trans hx.b0.size hq.b0.size) c news hl h1 hn
  have hFZ := hF.ap hA (fun i hi => Nat.le_trans ha (ho i hi).1)
  refine ⟨v', Z, hr, hFZ, ho2.heap (fun i hi => Below.heap_setCell _ _ _ _ (fun e => ?_)), ((hx.trans hq.x).ap hA (fun i hi => (ho i hi).1)).trans (Bx.set (w.heap.size + 1) Z j v'), hFZ.set j hj v', hA⟩
  have := (ho2.own i hi).1
  dsimp only at e
  omega
theorem FlQ.roundT {w a X X2 Y Z : World} {rb fb k : Nat} {T : TypeId} {v v' vt : Value} {l : List Fee.Fl} {us cs : List Value} {t1 : List Int} (h : FlQ a X v l us) (hO : OwnR T 2 a X v k cs) (ha : fb < a.heap.size) (hrb : rb < a.heap.size) (hax : a.heap.size ≤ X.heap.size) (hq : Bq rb X Y) (hot : Own8 X2 Y vt t1) (hle : X.heap.size ≤ X2.heap.size) (hA : Ap Y Z v v') (f : Fee.Fl) (hf : f.data = t1) (j : Nat) :
    FlQ a (Z.setCell ⟨fb, j, none⟩ v') v' (l ++ [f]) (us ++ [vt]) := by
  have ho := hO.own
  have hset : ∀ u L, Rd8 Z u L → Hi a.heap.size u → Rd8 (Z.setCell ⟨fb, j, none⟩ v') u L := fun u L hr hh => RdR.q hr ((Bq.refl (fb) Z).set j v') (fun q k c e hk => by have := hh q k c e hk; omega)
  have hown : ∀ b, X.heap.size ≤ b → v.ownBlock ≠ some b := fun b hb e => by have := (ho b e).2; omega
  refine ⟨by rw [List.length_append, List.length_append, h.1]; rfl, fun i g u hg hu => ?_⟩
  by_cases hi : i < l.length
  · rw [List.getElem?_append_left hi] at hg
    rw [List.getElem?_append_left (by rw [h.1]; exact hi)] at hu
    obtain ⟨r1, r2, r3⟩ := h.2 i g u hg hu
    have r4 : Rd8 Y u g.data := RdR.q r1 hq (fun q k c e hk => by have := r2 q k c e hk; omega)
    refine ⟨hset _ _ (r4.ap hA r3) r2, r2, fun q k c e hk => ?_⟩
    rcases hA.own with e1 | ⟨n, h1, h2⟩
    · rw [e1]; exact r3 q k c e hk
    · rw [h2]
      intro e2
      have := Option.some.inj e2
      have := r1.lt q k c e hk
      have := hq.b0.size
      omega
  · have hlu : (us ++ [vt]).length = l.length + 1 := by rw [List.length_append, h.1]; rfl
    have hi2 : i = l.length := by have := (List.getElem?_eq_some_iff.1 hu).1; omega
    subst hi2
    rw [List.getElem?_append_right (by omega), Nat.sub_self] at hg
    rw [List.getElem?_append_right (by rw [h.1]; omega), h.1, Nat.sub_self] at hu
    simp at hg hu
    subst hg hu
    have hh : Hi a.heap.size vt := hot.hi.le (by omega)
    refine ⟨?_, hh, fun q k c e hk => ?_⟩
    · rw [hf]
      exact hset _ _ (Rd8.ap hot.rd hA (fun q k c e hk => hown _ (by have := hot.hi q k c e hk; omega))) hh
    · rcases hA.own with e1 | ⟨n, h1, h2⟩
      · rw [e1]; exact hown _ (by have := hot.hi q k c e hk; omega)
      · rw [h2]
        intro e2
        have := Option.some.inj e2
        have := Rd8.lt hot.rd q k c e hk
        omega

theorem infoRF : (Try.prog.info? 65).map (fun i => (i.zero, i.size, i.bytes)) = some (some (.agg #[.string ⟨#[]⟩, .slice none 0 0]), 2, 40) := by kernel_rfl
/-- Bytes of so many as a number says; a text; a file. -/
def Ref.rt (L : List Int) (bd : Bool) : List Int × List Int × Bool := Ref.bytes (Ref.num L bd).1 (Ref.num L bd).2.1 (Ref.num L bd).2.2
def Ref.arg (L : List Int) (bd : Bool) : ByteArray × List Int × Bool := (strOfNums (Ref.rt L bd).1, (Ref.rt L bd).2)
def Ref.file (L : List Int) (bd : Bool) : Fee.Fl × List Int × Bool := (⟨strOfNums (Ref.rt L bd).1, (Ref.rt (Ref.rt L bd).2.1 (Ref.rt L bd).2.2).1⟩, (Ref.rt (Ref.rt L bd).2.1 (Ref.rt L bd).2.2).2)
def Ref.many {α : Type} (st : List Int → Bool → α × List Int × Bool) : Nat → List Int → Bool → List α × List Int × Bool
  | 0, L, fl => ([], L, fl)
  | n + 1, L, fl => if fl = true then ([], L, true) else ((st L fl).1 :: (Ref.many st n (st L fl).2.1 (st L fl).2.2).1, (Ref.many st n (st L fl).2.1 (st L fl).2.2).2)
theorem Ref.many_bad {α : Type} (st : List Int → Bool → α × List Int × Bool) (n : Nat) (L : List Int) : Ref.many st n L true = ([], L, true) := by
  cases n with
  | zero => rfl
  | succ n => rw [Ref.many, if_pos rfl]
theorem Ref.num_bd {L : List Int} (bd : Bool) (h : B8s L) : 0 ≤ (Ref.num L bd).1 ∧ (Ref.num L bd).1 < 4294967296 ∧ B8s (Ref.num L bd).2.1 ∧ (Ref.num L bd).2.1.length ≤ L.length := by
  unfold Ref.num
  split
  · exact ⟨by simp, by simp, h, Nat.le_refl _⟩
  · have := Fee.rw_bd false h
    exact ⟨this.1, this.2.1, fun y hy => h y (List.mem_of_mem_drop hy), by simp only [List.length_drop]; omega⟩
theorem Ref.bytes_bd {n : Int} {L : List Int} (bd : Bool) (h : B8s L) : B8s (Ref.bytes n L bd).1 ∧ B8s (Ref.bytes n L bd).2.1 ∧ (Ref.bytes n L bd).2.1.length ≤ L.length ∧ (Ref.bytes n L bd).1.length ≤ L.length := by
  unfold Ref.bytes
  split
  · exact ⟨fun y hy => by simp at hy, h, Nat.le_refl _, by simp⟩
  · exact ⟨fun y hy => h y (List.mem_of_mem_take hy), fun y hy => h y (List.mem_of_mem_drop hy), by simp only [List.length_drop]; omega, by simp only [List.length_take]; omega⟩
theorem Ref.rt_bd {L : List Int} (bd : Bool) (h : B8s L) : B8s (Ref.rt L bd).1 ∧ B8s (Ref.rt L bd).2.1 ∧ (Ref.rt L bd).2.1.length ≤ L.length ∧ (Ref.rt L bd).1.length ≤ L.length := by
  have h1 := Ref.num_bd bd h
  have h2 := Ref.bytes_bd (n := (Ref.num L bd).1) (Ref.num L bd).2.2 h1.2.2.1
  exact ⟨h2.1, h2.2.1, Nat.le_trans h2.2.2.1 h1.2.2.2, Nat.le_trans h2.2.2.2 h1.2.2.2⟩
end Go.Proofs.Ytmecompcffphcaa
