/- LAYER 9's walks: what readFeed's loops hold; plain bounds. -/
import Derived.Test.YtmecompcffphcaaFeeGet
import Derived.Test.YtmecompcffphcaaAppA
namespace Go.Proofs.Ytmecompcffphcaa
open Go.ChangeShapes Go.WideShapes Go.ChangeAt Go.RowKit
set_option linter.unusedVariables false

/-- Blocks rb and fb may be others. -/
structure Bx (rb fb : Nat) (a b : World) : Prop where
  b0 : Below 0 a b
  block : ∀ i, i < a.heap.size → i ≠ rb → i ≠ fb → b.heap[i]? = a.heap[i]?
theorem Bx.refl (rb fb : Nat) (a : World) : Bx rb fb a a := ⟨Below.refl _ _, fun _ _ _ _ => rfl⟩
theorem Bx.trans {rb fb : Nat} {a b c : World} (h : Bx rb fb a b) (k : Bx rb fb b c) : Bx rb fb a c :=
  ⟨h.b0.trans k.b0, fun i hi h1 h2 => (k.block i (Nat.lt_of_lt_of_le hi h.b0.size) h1 h2).trans (h.block i hi h1 h2)⟩
theorem Bq.x {rb fb : Nat} {a b : World} (h : Bq rb a b) : Bx rb fb a b := ⟨h.b0, fun i hi h1 _ => h.block i hi h1⟩
theorem Bw.x {rb fb : Nat} {a b : World} (h : Bw a b) : Bx rb fb a b := ⟨Below.mono h (Nat.zero_le _), fun i hi _ _ => Below.block h i hi⟩
theorem Bx.set (rb : Nat) {fb : Nat} (a : World) (j : Nat) (u : Value) : Bx rb fb a (a.setCell ⟨fb, j, none⟩ u) :=
  ⟨(Below.refl 0 a).setCell (p := ⟨fb, j, none⟩) (Nat.zero_le _) u, fun i _ _ h2 => Below.heap_setCell _ _ _ _ h2⟩
theorem Bx.ap {rb fb : Nat} {a b c : World} {v v' : Value} (h : Bx rb fb a b) (k : Ap b c v v') (ho : ∀ j, v.ownBlock = some j → a.heap.size ≤ j) : Bx rb fb a c :=
  ⟨h.b0.trans k.b, fun i hi h1 h2 => (k.block i (Nat.lt_of_lt_of_le hi h.b0.size) (fun e => by have := ho i e; omega)).trans (h.block i hi h1 h2)⟩
/-- The slice lies from N on. -/
def Hi (N : Nat) (v : Value) : Prop := ∀ q k c, v = .slice (some q) k c → 0 < k → N ≤ q.block
theorem Hi.nil (N : Nat) : Hi N (.slice none 0 0) := fun q k c e => by simp at e
theorem Hi.le {N M : Nat} {v : Value} (h : Hi N v) (k : M ≤ N) : Hi M v := fun q a c e hk => Nat.le_trans k (h q a c e hk)
theorem RdR.x {sz n : Nat} {cs : List Value} {a b : World} {v : Value} {rb fb N : Nat} (h : RdR sz a v n cs) (g : Bx rb fb a b) (hv : Hi N v) (h1 : rb < N) (h2 : fb < N) : RdR sz b v n cs := by
  obtain ⟨q, cap, e, e2, e3, e4, e5⟩ := h
  refine ⟨q, cap, e, e2, e3, e4, fun h0 => ?_⟩
  obtain ⟨b', o, rfl, h7, h8⟩ := e5 h0
  have hb := hv _ _ _ e h0
  have hbl := g.block b' h7 (by dsimp only at hb; omega) (by dsimp only at hb; omega)
  exact ⟨b', o, rfl, Nat.lt_of_lt_of_le h7 g.b0.size, fun j u hu => by rw [cell_block (p := ⟨b', o + j, none⟩) hbl]; exact h8 j u hu⟩
theorem Own8.hi {w0 w : World} {v : Value} {l : List Int} (h : Own8 w0 w v l) : Hi w0.heap.size v := fun q k c e hk => by
  rcases h with ⟨h, _⟩ | ⟨g, cap, h0, h1, _⟩
  · rw [h] at e; simp at e
  · rw [h0] at e; simp at e; obtain ⟨rfl, _⟩ := e; exact h1
theorem OwnR.hi {e sz n : Nat} {cs : List Value} {a w : World} {v : Value} (h : OwnR e sz a w v n cs) : Hi a.heap.size v := h.far
/-- What the walk of readFeed holds: the reader, the feed's box (fb), the result's (fb's neighbour fa). -/
structure RF (w : World) (rb : Nat) (X : World) (L : List Int) (fl : Bool) (vs : List Value) : Prop where
  rd : RdS (fun i => i = rb ∨ w.heap.size ≤ i) X rb L fl
  bx : Box X (w.heap.size + 1) vs
  ax : Box X w.heap.size [.slice none 0 0, .slice none 0 0, .slice none 0 0, .slice none 0 0, .slice none 0 0, .slice none 0 0]
  fr : Bq2 w.heap.size rb w X
  sz : w.heap.size + 2 ≤ X.heap.size
  lt : rb < w.heap.size
theorem RdS.keep {P : Nat → Prop} {X Y : World} {rb : Nat} {L : List Int} {fl : Bool} (h : RdS P X rb L fl) (hs : X.heap.size ≤ Y.heap.size) (hk : ∀ i, (i = rb ∨ ¬ P i) → Y.heap[i]? = X.heap[i]?) : RdS P Y rb L fl := by
  obtain ⟨v, hb, hR, hF⟩ := h
  refine ⟨v, hb.blk (hk rb (Or.inl rfl)), ?_, hF⟩
  obtain ⟨q, cap, h1, h2, h3, h4, h5⟩ := hR
  refine ⟨q, cap, h1, h2, h3, h4, fun h0 => ?_⟩
  obtain ⟨b', o, rfl, h7, h8⟩ := h5 h0
  have hb2 := hk b' (Or.inr (hF _ _ _ h1 h0))
  exact ⟨b', o, rfl, Nat.lt_of_lt_of_le h7 hs, fun j u hu => by rw [cell_block (p := ⟨b', o + j, none⟩) hb2]; exact h8 j u hu⟩
section
variable {w X Y : World} {rb : Nat} {L L' : List Int} {fl fl' : Bool} {vs : List Value}
theorem RF.keep (h : RF w rb X L fl vs) (b0 : Below 0 X Y) (hk : ∀ i, i < w.heap.size + 2 → Y.heap[i]? = X.heap[i]?) : RF w rb Y L fl vs :=
  ⟨h.rd.keep b0.size (fun i hi => hk i (by have := h.lt; rcases hi with rfl | hi; omega; have : ¬ w.heap.size ≤ i := fun x => hi (Or.inr x); omega)), h.bx.blk (hk _ (by omega)), h.ax.blk (hk _ (by omega)), ⟨h.fr.b0.trans b0, fun i hi hn => (hk i (by omega)).trans (h.fr.block i hi hn)⟩, Nat.le_trans h.sz b0.size, h.lt⟩
theorem RF.bw (h : RF w rb X L fl vs) (g : Bw X Y) : RF w rb Y L fl vs := h.keep (Below.mono g (Nat.zero_le _)) (fun i hi => Below.block g i (Nat.lt_of_lt_of_le hi h.sz))
theorem RF.ap {v v' : Value} (h : RF w rb X L fl vs) (g : Ap X Y v v') (ho : ∀ j, v.ownBlock = some j → w.heap.size + 2 ≤ j) : RF w rb Y L fl vs := h.keep g.b (fun i hi => g.block i (Nat.lt_of_lt_of_le hi h.sz) (fun e => by have := ho i e; omega))
theorem RF.call (h : RF w rb X L fl vs) (hr : RdS (fun i => i = rb ∨ w.heap.size ≤ i) Y rb L' fl') (g : Bq rb X Y) : RF w rb Y L' fl' vs :=
  ⟨hr, h.bx.blk (g.block _ (by have := h.sz; omega) (by have := h.lt; omega)), h.ax.blk (g.block _ (by have := h.sz; omega) (by have := h.lt; omega)), h.fr.trans g (Nat.le_refl _), Nat.le_trans h.sz g.b0.size, h.lt⟩
theorem RF.set (h : RF w rb X L fl vs) (j : Nat) (hj : j < vs.length) (u : Value) : RF w rb (X.setCell ⟨w.heap.size + 1, j, none⟩ u) L fl (vs.set j u) := by
  have hb := Bx.set rb (fb := w.heap.size + 1) X j u
  have hl := h.lt
  have hs := h.sz
  refine ⟨h.rd.keep hb.b0.size (fun i hi => Below.heap_setCell _ _ _ _ (fun e => ?_)), h.bx.set j hj u, h.ax.ne (by omega) j u, h.fr.bx (by omega) j u, Nat.le_trans h.sz hb.b0.size, h.lt⟩
  dsimp only at e
  rcases hi with rfl | hi
  · omega
  · exact hi (Or.inr (by omega))
end
/-- One more element on a slice of the loop's own, stored in the feed's box. -/
theorem acc_step {e sz bytes : Nat} {z : Value} {t ty : TypeId} (hinf : (Try.prog.info? e).map (fun i => (i.zero, i.size, i.bytes)) = some (some z, sz, bytes)) (ht : Try.prog.underlying t = some (.slice e)) (hzs : z.cells.size = sz) (hsz : 0 < sz) (hby : bytes ≤ 100)
    {w a X Y : World} {rb : Nat} {L : List Int} {fl : Bool} {vs : List Value} {v : Value} {n : Nat} {cs : List Value} (hF : RF w rb Y L fl vs) (ha : w.heap.size + 2 ≤ a.heap.size) (hown : OwnR e sz a X v n cs) (hx : Bx rb (w.heap.size + 1) a X) (hq : Bq rb X Y) (j : Nat) (hj : j < vs.length) (c : Nat) (news : List Value) (hl : news.length = sz) (h1 : ∀ u ∈ news, u.oneCell' = true) (hn : n ≤ 10000) :
    ∃ v' Z, (Builtin.append_ #[t, t] ty #[v, .slice (some ⟨Y.heap.size, 0, none⟩) 1 c]).run Try.prog (Y.alloc (.cells news.toArray e)) = .ok v' Z ∧ RF w rb Z L fl vs ∧ OwnR e sz a (Z.setCell ⟨w.heap.size + 1, j, none⟩ v') v' (n + 1) (cs ++ news) ∧ Bx rb (w.heap.size + 1) a (Z.setCell ⟨w.heap.size + 1, j, none⟩ v') ∧ RF w rb (Z.setCell ⟨w.heap.size + 1, j, none⟩ v') L fl (vs.set j v') ∧ Ap Y Z v v' := by
  have hlt := hF.lt
  have ho : ∀ i, v.ownBlock = some i → a.heap.size ≤ i ∧ i < X.heap.size := hown.own
  have hown2 : OwnR e sz a Y v n cs := hown.heap (fun i hi => hq.block i (ho i hi).2 (by have := (ho i hi).1; omega))
  obtain ⟨v', Z, hr, ho2, hA⟩ := appA (ty := ty) hinf ht hzs hsz hby hown2 (Nat.le_trans hx.b0.size hq.b0.size) c news hl h1 hn
  have hFZ := hF.ap hA (fun i hi => Nat.le_trans ha (ho i hi).1)
  refine ⟨v', Z, hr, hFZ, ho2.heap (fun i hi => Below.heap_setCell _ _ _ _ (fun e => ?_)), ((hx.trans hq.x).ap hA (fun i hi => (ho i hi).1)).trans (Bx.set rb Z j v'), hFZ.set j hj v', hA⟩
  have := (ho2.own i hi).1
  dsimp only at e
  omega
theorem Fee.rt_bd {m : Int} {L : List Int} (fl : Bool) (h : B8s L) : B8s (Fee.rt m L fl).1 ∧ B8s (Fee.rt m L fl).2.1 ∧ (Fee.rt m L fl).2.1.length ≤ L.length ∧ (Fee.rt m L fl).1.length ≤ L.length := by
  have h1 := (Fee.rn_bd (m := m) fl h).2.2
  have h2 := Fee.rn_len m L fl
  unfold Fee.rt
  split
  · exact ⟨fun y hy => by simp at hy, fun y hy => by simp at hy, by simp, by simp⟩
  · exact ⟨fun y hy => h1 y (List.mem_of_mem_take hy), fun y hy => h1 y (List.mem_of_mem_drop hy), by simp only [List.length_drop]; omega, by simp only [List.length_take]; omega⟩
/-- Of the numbers and bytes that come out. -/
structure Fee.Ok {α : Type} (Q : α → Prop) (st : List Int → Bool → α × List Int × Bool) : Prop where
  ok : ∀ L fl, B8s L → Q (st L fl).1 ∧ B8s (st L fl).2.1 ∧ (st L fl).2.1.length ≤ L.length
theorem Fee.ok_many {α : Type} {Q : α → Prop} {st : List Int → Bool → α × List Int × Bool} (h : Fee.Ok Q st) : ∀ n, Fee.Ok (fun l : List α => ∀ x ∈ l, Q x) (Fee.many st n)
  | 0 => ⟨fun L fl hb => ⟨by simp [Fee.many], hb, Nat.le_refl _⟩⟩
  | n + 1 => ⟨fun L fl hb => by
    obtain ⟨a1, a2, a3⟩ := h.ok L fl hb
    obtain ⟨b1, b2, b3⟩ := (Fee.ok_many h n).ok _ (st L fl).2.2 a2
    simp only [Fee.many]
    exact ⟨fun x hx => by rcases List.mem_cons.1 hx with rfl | hx; exact a1; exact b1 x hx, b2, Nat.le_trans b3 a3⟩⟩
theorem Fee.ok_some {α : Type} {Q : α → Prop} {st : List Int → Bool → α × List Int × Bool} (h : Fee.Ok Q st) (m : Int) : Fee.Ok (fun l : List α => ∀ x ∈ l, Q x) (Fee.some m st) := ⟨fun L fl hb => by
  have hn := Fee.rn_bd (m := m) fl hb
  obtain ⟨a, b, c⟩ := (Fee.ok_many h (Fee.rn m L fl).1.toNat).ok _ (Fee.rn m L fl).2.2 hn.2.2
  exact ⟨a, b, Nat.le_trans c (Fee.rn_len m L fl)⟩⟩
theorem Fee.ok_pair {α β : Type} {Q : α → Prop} {R : β → Prop} {a : List Int → Bool → α × List Int × Bool} {b : List Int → Bool → β × List Int × Bool} (h : Fee.Ok Q a) (k : Fee.Ok R b) : Fee.Ok (fun p : α × β => Q p.1 ∧ R p.2) (Fee.pair a b) := ⟨fun L fl hb => by
  obtain ⟨a1, a2, a3⟩ := h.ok L fl hb
  obtain ⟨b1, b2, b3⟩ := k.ok _ (a L fl).2.2 a2
  exact ⟨⟨a1, b1⟩, b2, Nat.le_trans b3 a3⟩⟩
theorem Fee.ok_rt (m : Int) : Fee.Ok B8s (Fee.rt m) := ⟨fun L fl hb => by have := Fee.rt_bd (m := m) fl hb; exact ⟨this.1, this.2.1, this.2.2.1⟩⟩
theorem Fee.ok_rn (m : Int) (hm : 0 ≤ m) : Fee.Ok (fun n => 0 ≤ n ∧ n ≤ m) (Fee.rn m) := ⟨fun L fl hb => by have := Fee.rn_bd (m := m) fl hb; exact ⟨⟨this.1, this.2.1 hm⟩, this.2.2, Fee.rn_len m L fl⟩⟩
theorem Fee.ok_rw : Fee.Ok (fun n => 0 ≤ n ∧ n < 4294967296) Fee.rw := ⟨fun L fl hb => by have := Fee.rw_bd fl hb; exact ⟨⟨this.1, this.2.1⟩, this.2.2, Fee.rw_len L fl⟩⟩
theorem Fee.ok_arg : Fee.Ok (fun _ => True) Fee.rArg := ⟨fun L fl hb => by have := Fee.rt_bd (m := 200) fl hb; exact ⟨trivial, this.2.1, this.2.2.1⟩⟩
theorem Fee.ok_file : Fee.Ok (fun f : Fee.Fl => B8s f.data) Fee.rFile := ⟨fun L fl hb => by
  have h1 := Fee.rt_bd (m := 40) fl hb
  have h2 := Fee.rt_bd (m := 4096) (Fee.rt 40 L fl).2.2 h1.2.1
  exact ⟨h2.1, h2.2.1, Nat.le_trans h2.2.2.1 h1.2.2.1⟩⟩
theorem Fee.ok_parts : Fee.Ok (fun p => (∀ x ∈ p.1, True) ∧ B8s p.2.1 ∧ (∀ n ∈ p.2.2.1, 0 ≤ n ∧ n ≤ 4096) ∧ B8s p.2.2.2.1 ∧ (∀ n ∈ p.2.2.2.2.1, 0 ≤ n ∧ n < 4294967296) ∧ ∀ f ∈ p.2.2.2.2.2, B8s f.data) Fee.parts :=
  Fee.ok_pair (Fee.ok_some Fee.ok_arg 16) (Fee.ok_pair (Fee.ok_rt 4096) (Fee.ok_pair (Fee.ok_some (Fee.ok_rn 4096 (by omega)) 64) (Fee.ok_pair (Fee.ok_rt 4096) (Fee.ok_pair (Fee.ok_some Fee.ok_rw 64) (Fee.ok_some Fee.ok_file 8)))))
theorem infoS : (Try.prog.info? 9).map (fun i => (i.zero, i.size, i.bytes)) = some (some (.string ⟨#[]⟩), 1, 16) := by kernel_rfl
theorem infoN : (Try.prog.info? 3).map (fun i => (i.zero, i.size, i.bytes)) = some (some (.int .i64 0), 1, 8) := by kernel_rfl
theorem infoW : (Try.prog.info? 49).map (fun i => (i.zero, i.size, i.bytes)) = some (some (.int .u32 0), 1, 4) := by kernel_rfl
theorem infoF : (Try.prog.info? 55).map (fun i => (i.zero, i.size, i.bytes)) = some (some (.agg #[.string ⟨#[]⟩, .slice none 0 0]), 2, 40) := by kernel_rfl
/-- Files' bytes, each in a block of its own. -/
def FlQ (a X : World) (v : Value) (l : List Fee.Fl) (us : List Value) : Prop := us.length = l.length ∧ ∀ (i : Nat) f u, l[i]? = some f → us[i]? = some u → Rd8 X u f.data ∧ Hi a.heap.size u ∧ ∀ q k c, u = .slice (some q) k c → 0 < k → v.ownBlock ≠ some q.block
theorem FlQ.nil (a X : World) {v : Value} : FlQ a X v [] [] := ⟨rfl, fun i f u h => by simp at h⟩
theorem Fee.cells_app {l : List Fee.Fl} {us : List Value} (h : us.length = l.length) (f : Fee.Fl) (u : Value) : Fee.cells (l ++ [f]) (us ++ [u]) = Fee.cells l us ++ Fee.flC f u := by
  unfold Fee.cells
  rw [List.zip_append h.symm, List.flatMap_append]
  simp
theorem FlQ.round {w a X X2 Y Z : World} {rb k : Nat} {T : TypeId} {v v' vt : Value} {l : List Fee.Fl} {us cs : List Value} {t1 : List Int} (h : FlQ a X v l us) (hO : OwnR T 2 a X v k cs) (ha : w.heap.size + 2 ≤ a.heap.size) (hrb : rb < w.heap.size) (hax : a.heap.size ≤ X.heap.size) (hq : Bq rb X Y) (hot : Own8 X2 Y vt t1) (hle : X.heap.size ≤ X2.heap.size) (hA : Ap Y Z v v') (f : Fee.Fl) (hf : f.data = t1) (j : Nat) :
    FlQ a (Z.setCell ⟨w.heap.size + 1, j, none⟩ v') v' (l ++ [f]) (us ++ [vt]) := by
  have ho := hO.own
  have hset : ∀ u L, Rd8 Z u L → Hi a.heap.size u → Rd8 (Z.setCell ⟨w.heap.size + 1, j, none⟩ v') u L := fun u L hr hh => RdR.q hr ((Bq.refl (w.heap.size + 1) Z).set j v') (fun q k c e hk => by have := hh q k c e hk; omega)
  have hown : ∀ b, X.heap.size ≤ b → v.ownBlock ≠ some b := fun b hb e => by have := (ho b e).2; omega
  refine ⟨by rw [List.length_append, List.length_append, h.1]; rfl, fun i g u hg hu => ?_⟩
  by_cases hi : i < l.length
  · rw [List.getElem?_append_left hi] at hg
    rw [List.getElem?_append_left (by rw [h.1]; exact hi)] at hu
    obtain ⟨r1, r2, r3⟩ := h.2 i g u hg hu
    have r4 : Rd8 Y u g.data := RdR.q r1 hq (fun q k c e hk => by have := r2 q k c e hk; omega)
    refine ⟨hset _ _ (r4.ap hA r3) r2, r2, fun q k c e hk => ?_⟩
    rcases hA.own with e1 | ⟨n, h1, h2⟩
    · rw [e1]; exact r3 q k c e hk
    · rw [h2]
      intro e2
      have := Option.some.inj e2
      have := r1.lt q k c e hk
      have := hq.b0.size
      omega
  · have hlu : (us ++ [vt]).length = l.length + 1 := by rw [List.length_append, h.1]; rfl
    have hi2 : i = l.length := by have := (List.getElem?_eq_some_iff.1 hu).1; omega
    subst hi2
    rw [List.getElem?_append_right (by omega), Nat.sub_self] at hg
    rw [List.getElem?_append_right (by rw [h.1]; omega), h.1, Nat.sub_self] at hu
    simp at hg hu
    subst hg hu
    have hh : Hi a.heap.size vt := hot.hi.le (by omega)
    refine ⟨?_, hh, fun q k c e hk => ?_⟩
    · rw [hf]
      exact hset _ _ (Rd8.ap hot.rd hA (fun q k c e hk => hown _ (by have := hot.hi q k c e hk; omega))) hh
    · rcases hA.own with e1 | ⟨n, h1, h2⟩
      · rw [e1]; exact hown _ (by have := hot.hi q k c e hk; omega)
      · rw [h2]
        intro e2
        have := Option.some.inj e2
        have := Rd8.lt hot.rd q k c e hk
        omega
/-- The world behind the store into the result's box. -/
def RF.out (w X : World) (va vi vs vr vc vf : Value) : World := (((((X.setCell ⟨w.heap.size, 0, none⟩ va).setCell ⟨w.heap.size, 1, none⟩ vi).setCell ⟨w.heap.size, 2, none⟩ vs).setCell ⟨w.heap.size, 3, none⟩ vr).setCell ⟨w.heap.size, 4, none⟩ vc).setCell ⟨w.heap.size, 5, none⟩ vf
theorem RF.done {w X : World} {rb : Nat} {L : List Int} {fl : Bool} {l : List Value} (h : RF w rb X L fl l) (va vi vs vr vc vf : Value) : RdS (fun i => i = rb ∨ w.heap.size ≤ i) (RF.out w X va vi vs vr vc vf) rb L fl ∧ Bq rb w (RF.out w X va vi vs vr vc vf) ∧ ∀ sz v n cs, RdR sz X v n cs → Hi (w.heap.size + 2) v → RdR sz (RF.out w X va vi vs vr vc vf) v n cs := by
  have hq : Bq w.heap.size X (RF.out w X va vi vs vr vc vf) := ((((((Bq.refl _ X).set 0 va).set 1 vi).set 2 vs).set 3 vr).set 4 vc).set 5 vf
  have hl := h.lt
  have hs := h.sz
  refine ⟨?_, ?_, fun sz v n cs hr hh => RdR.q hr hq (fun q k c e hk => by have := hh q k c e hk; omega)⟩
  · have hne : ∀ j u (Z : World), RdS (fun i => i = rb ∨ w.heap.size ≤ i) Z rb L fl → RdS (fun i => i = rb ∨ w.heap.size ≤ i) (Z.setCell ⟨w.heap.size, j, none⟩ u) rb L fl := fun j u Z hz => hz.keep (by simp [World.setCell]) (fun i hi => Below.heap_setCell _ _ _ _ (fun e => by
      dsimp only at e
      rcases hi with rfl | hi
      · omega
      · exact hi (Or.inr (by omega))))
    exact hne _ _ _ (hne _ _ _ (hne _ _ _ (hne _ _ _ (hne _ _ _ (hne _ _ _ h.rd)))))
  · exact ((((((h.fr.bx (Nat.le_refl _) 0 va).bx (Nat.le_refl _) 1 vi).bx (Nat.le_refl _) 2 vs).bx (Nat.le_refl _) 3 vr).bx (Nat.le_refl _) 4 vc).bx (Nat.le_refl _) 5 vf).toBq
/-- A feed whose slices all lie from N on. -/
def FdHi (N : Nat) (w : World) (v : Value) (f : Fee.Fd) : Prop :=
  ∃ va vi vs vr vc vf us, v = .agg #[va, vi, vs, vr, vc, vf] ∧ (TxS w va f.args ∧ Hi N va) ∧ (Rd8 w vi f.input ∧ Hi N vi) ∧ (NsS w vs f.short ∧ Hi N vs) ∧ (Rd8 w vr f.random ∧ Hi N vr) ∧ (WsS w vc f.clock ∧ Hi N vc) ∧ us.length = f.files.length ∧ (RdR 2 w vf f.files.length (Fee.cells f.files us) ∧ Hi N vf) ∧ (∀ (i : Nat) g u, f.files[i]? = some g → us[i]? = some u → Rd8 w u g.data ∧ Hi N u) ∧ (∀ g ∈ f.files, B8s g.data) ∧ Fee.Wf f
theorem FdHi.is {N : Nat} {w : World} {v : Value} {f : Fee.Fd} (h : FdHi N w v f) : IsFd w v f := by
  obtain ⟨va, vi, vs, vr, vc, vf, us, rfl, h1, h2, h3, h4, h5, h6, h7, h8, h9, h10⟩ := h
  exact ⟨_, _, _, _, _, _, rfl, h1.1, h2.1, h3.1, h4.1, h5.1, ⟨us, h6, h7.1, fun i g u a b => (h8 i g u a b).1, h9⟩, h10⟩
theorem FdHi.q {N pb : Nat} {w Y : World} {v : Value} {f : Fee.Fd} (h : FdHi N w v f) (g : Bq pb w Y) (hp : pb < N) : FdHi N Y v f := by
  have hx : ∀ {sz n : Nat} {cs : List Value} {u : Value}, RdR sz w u n cs → Hi N u → RdR sz Y u n cs := fun hr hh => RdR.q hr g (fun q k c e hk => by have := hh q k c e hk; omega)
  obtain ⟨va, vi, vs, vr, vc, vf, us, rfl, h1, h2, h3, h4, h5, h6, h7, h8, h9, h10⟩ := h
  exact ⟨_, _, _, _, _, _, us, rfl, ⟨hx h1.1 h1.2, h1.2⟩, ⟨hx h2.1 h2.2, h2.2⟩, ⟨hx h3.1 h3.2, h3.2⟩, ⟨hx h4.1 h4.2, h4.2⟩, ⟨hx h5.1 h5.2, h5.2⟩, h6, ⟨hx h7.1 h7.2, h7.2⟩, fun i g u a b => ⟨hx (h8 i g u a b).1 (h8 i g u a b).2, (h8 i g u a b).2⟩, h9, h10⟩
end Go.Proofs.Ytmecompcffphcaa
