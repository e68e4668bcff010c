/- LAYER 11: the steps that its calls make: a number's cells, the use, what is written. -/
import Derived.Test.YtaepjlaegldkhaaFilW1
namespace Go.Proofs.Ytaepjlaegldkhaa
open Go.ChangeShapes Go.WideShapes Go.ChangeAt Go.RowKit

theorem Fil.Ok.set {s : Fil.St} (h : Fil.Ok s) (k : Nat) (x : Fil.H) (hx : x.kind = 0 ∨ (x.kind = 1 ∧ x.src < s.srcs.length) ∨ (x.kind = 2 ∧ (k = 1 ∨ k = 2))) : Fil.Ok { s with op := s.op.set k x } := by
  refine ⟨by show (s.op.set k x).length = 16; rw [List.length_set]; exact h.ln, fun i y hy => ?_, h.sh, h.l1, h.l2, h.l3, h.ls, h.ld, h.p1, h.p2⟩
  have hy' : (s.op.set k x)[i]? = some y := hy
  by_cases e : k = i
  · subst e
    by_cases hk : k < s.op.length
    · rw [List.getElem?_set_self hk] at hy'
      obtain rfl := Option.some.inj hy'
      exact hx
    · rw [List.getElem?_eq_none (by rw [List.length_set]; omega)] at hy'; simp at hy'
  · rw [List.getElem?_set_ne e] at hy'
    exact h.kd i y hy'
theorem Fil.Ok.useA {s : Fil.St} (h : Fil.Ok s) (a : Nat) : Fil.Ok { s with a := a } := ⟨h.ln, h.kd, h.sh, h.l1, h.l2, h.l3, h.ls, h.ld, h.p1, h.p2⟩
theorem Fil.Ok.w1 {s : Fil.St} (h : Fil.Ok s) (bs : List Int) (hb : B8s bs) (hl : (s.o1 ++ bs).length ≤ 65536) : Fil.Ok { s with o1 := s.o1 ++ bs } := ⟨h.ln, h.kd, h.sh, h.l1, h.l2, h.l3, h.ls, h.ld, ⟨hl, h.p1.2.app hb⟩, h.p2⟩
theorem Fil.Ok.w2 {s : Fil.St} (h : Fil.Ok s) (bs : List Int) (hb : B8s bs) (hl : (s.o2 ++ bs).length ≤ 65536) : Fil.Ok { s with o2 := s.o2 ++ bs } := ⟨h.ln, h.kd, h.sh, h.l1, h.l2, h.l3, h.ls, h.ld, h.p1, ⟨hl, h.p2.2.app hb⟩⟩
/-- A use where another box was written. -/
theorem FsX.useQ {w0 w w' : World} {fb ub : Nat} {v1 v2 vs : Value} {us : List Value} {A : Nat → Prop} {s : Fil.St} (h : FsX w0 w fb ub v1 v2 vs us A s) {B : Nat → Prop} (g : Fz B w w') (hB : ∀ i, B i → Fil.F fb ub v1 v2 i) (hu : ¬ B ub) : UseS w' ub s.sh s.rd s.ck s.a s.b s.c ∧ Keep3 ub w w' := by
  have hblk := g.block ub (h.in_ ub h.au).2 hu
  have hfar := h.far
  have hR : ∀ v, RdA A (Fil.F fb ub v1 v2) v → ∀ q k c, v = .slice (some q) k c → 0 < k → ¬ B q.block := fun v hv q k c e hk e2 => (hv q k c e hk).2 (hB _ e2)
  obtain ⟨⟨a, b, c, h1, h2, h3, h4, h5, h6, h7⟩, la, lb, lc⟩ := h.use
  exact ⟨⟨⟨a, b, c, h1.blk hblk, RdR.fz h2 g (hR _ (hfar 0 _ (by omega) (h1.c 0 _ rfl))), Rd8.fz h3 g (hR _ (hfar 1 _ (by omega) (h1.c 1 _ rfl))), RdR.fz h4 g (hR _ (hfar 2 _ (by omega) (h1.c 2 _ rfl))), h5, h6, h7⟩, la, lb, lc⟩, fun j _ => cell_block (p := ⟨ub, j, none⟩) hblk⟩
theorem FsX.same {w0 w : World} {fb ub : Nat} {v1 v2 vs : Value} {us : List Value} {A : Nat → Prop} {s : Fil.St} (h : FsX w0 w fb ub v1 v2 vs us A s) : (fun i => A i ∨ v1.ownBlock = some i ∨ v2.ownBlock = some i) = A := by
  funext i
  refine propext ⟨fun e => ?_, Or.inl⟩
  rcases e with e | e | e
  · exact e
  · exact (h.n1 i e).1
  · exact (h.n2 i e).1
/-- The files' own box is written. -/
theorem FsX.onFb {w0 w w' : World} {fb ub : Nat} {v1 v2 vs : Value} {us : List Value} {A : Nat → Prop} {s : Fil.St} (h : FsX w0 w fb ub v1 v2 vs us A s) (g : Bq fb w w') {op : List Fil.H} (hbox : Box w' fb (Fil.cells ub vs v1 v2 op)) (hok : Fil.Ok { s with op := op }) :
    FsX w0 w' fb ub v1 v2 vs us A { s with op := op } ∧ Fz A w w' := by
  have hF : Fz (Fil.F fb ub v1 v2) w w' := Fz.of_bq g (Or.inl rfl)
  obtain ⟨hu, hk⟩ := h.useQ (B := fun i => i = fb) (Fz.of_bq g rfl) (fun i e => Or.inl e) (fun e => h.ne e.symm)
  have hA := h.same
  obtain ⟨r1, r2⟩ := h.mv hF (s' := { s with op := op }) rfl hok hbox hu hk (h.o1.heap fun j hj => g.block j (h.in_ j (h.n1 j hj).1).2 (h.n1 j hj).2.1) (h.o2.heap fun j hj => g.block j (h.in_ j (h.n2 j hj).1).2 (h.n2 j hj).2.1) (Or.inl rfl) (Or.inl rfl) (fun n hn => (h.n1 n hn).2.2.2)
  rw [hA] at r1 r2; exact ⟨r1, r2.fz⟩
/-- The use is written. -/
theorem FsX.onUb {w0 w w' : World} {fb ub : Nat} {v1 v2 vs : Value} {us : List Value} {A : Nat → Prop} {s : Fil.St} (h : FsX w0 w fb ub v1 v2 vs us A s) (g : Bq ub w w') {a : Nat} (hu : UseS w' ub s.sh s.rd s.ck a s.b s.c) (hk : Keep3 ub w w') :
    FsX w0 w' fb ub v1 v2 vs us A { s with a := a } ∧ Fz A w w' := by
  have hF : Fz (Fil.F fb ub v1 v2) w w' := Fz.of_bq g (Or.inr (Or.inl rfl))
  have hA := h.same
  obtain ⟨r1, r2⟩ := h.mv hF (s' := { s with a := a }) rfl (h.ok.useA a) (h.box.blk (g.block fb (h.in_ fb h.af).2 h.ne)) hu hk (h.o1.heap fun j hj => g.block j (h.in_ j (h.n1 j hj).1).2 (h.n1 j hj).2.2.1) (h.o2.heap fun j hj => g.block j (h.in_ j (h.n2 j hj).1).2 (h.n2 j hj).2.2) (Or.inl rfl) (Or.inl rfl) (fun n hn => (h.n1 n hn).2.2.2)
  rw [hA] at r1 r2; exact ⟨r1, r2.fz⟩
theorem Fz.trans {A : Nat → Prop} {a b c : World} (h : Fz A a b) (k : Fz A b c) : Fz A a c := ⟨h.b0.trans k.b0, fun i hi hn => (k.block i (Nat.lt_of_lt_of_le hi h.b0.size) hn).trans (h.block i hi hn)⟩
theorem Fz.of_ap {A : Nat → Prop} {a b : World} {v v' : Value} (h : Ap a b v v') (hp : ∀ i, v.ownBlock = some i → A i) : Fz A a b := ⟨h.b, fun i hi hn => h.block i hi (fun e => hn (hp i e))⟩
/-- More is written at 1. -/
theorem FsX.onO1 {w0 w wm : World} {fb ub : Nat} {v1 v2 vs v' : Value} {us : List Value} {A : Nat → Prop} {s : Fil.St} (h : FsX w0 w fb ub v1 v2 vs us A s) (g : Ap w wm v1 v') {bs : List Int} (hb : B8s bs) (hl : (s.o1 ++ bs).length ≤ 65536) (ho : Own8 w0 wm v' (s.o1 ++ bs)) :
    ∃ A', FsX w0 (wm.setCell ⟨fb, 51, none⟩ v') fb ub v' v2 vs us A' { s with o1 := s.o1 ++ bs } ∧ Stp A A' w (wm.setCell ⟨fb, 51, none⟩ v') := by
  have hfb := (h.in_ _ h.af).2
  have hv'fb : v'.ownBlock ≠ some fb := fun e => by
    rcases g.own with h1 | ⟨n, hn, h1⟩
    · exact (h.n1 fb (h1 ▸ e)).2.1 rfl
    · rw [h1] at e; have := Option.some.inj e; omega
  have hq : Bq fb wm (wm.setCell ⟨fb, 51, none⟩ v') := (Bq.refl _ _).set 51 _
  have hF : Fz (Fil.F fb ub v1 v2) w (wm.setCell ⟨fb, 51, none⟩ v') := (Fz.of_ap g (fun i e => Or.inr (Or.inr (Or.inl e)))).trans (Fz.of_bq hq (Or.inl rfl))
  have hB : Fz (fun i => i = fb ∨ v1.ownBlock = some i) w (wm.setCell ⟨fb, 51, none⟩ v') := (Fz.of_ap g (fun i e => Or.inr e)).trans (Fz.of_bq hq (Or.inl rfl))
  obtain ⟨hu, hk⟩ := h.useQ hB (fun i e => by rcases e with e | e; exact Or.inl e; exact Or.inr (Or.inr (Or.inl e))) (fun e => by rcases e with e | e; exact h.ne e.symm; exact (h.n1 _ e).2.2.1 rfl)
  have hbm : Box wm fb (Fil.cells ub vs v1 v2 s.op) := h.box.blk (g.block fb hfb (fun e => (h.n1 fb e).2.1 rfl))
  have hbx := hbm.set 51 (by rw [Fil.cells_len h.ok.ln]; omega) v'
  rw [Fil.cells_set1 h.ok.ln] at hbx
  refine ⟨_, h.mv hF rfl (h.ok.w1 bs hb hl) hbx hu hk (ho.heap fun j hj => ?_) (h.o2.heap fun j hj => ?_) g.own (Or.inl rfl) (fun n hn e2 => ?_)⟩
  · exact Below.heap_setCell _ _ _ _ (by show j ≠ fb; rintro rfl; exact hv'fb hj)
  · exact hB.block j (h.in_ j (h.n2 j hj).1).2 (fun e => by rcases e with e | e; exact (h.n2 j hj).2.1 e; exact (h.n1 j e).2.2.2 hj)
  · rcases g.own with h1 | ⟨m, hm, h1⟩
    · exact (h.n1 n (h1 ▸ hn)).2.2.2 e2
    · rw [h1] at hn; have := Option.some.inj hn; have := (h.in_ n (h.n2 n e2).1).2; omega
/-- More is written at 2. -/
theorem FsX.onO2 {w0 w wm : World} {fb ub : Nat} {v1 v2 vs v' : Value} {us : List Value} {A : Nat → Prop} {s : Fil.St} (h : FsX w0 w fb ub v1 v2 vs us A s) (g : Ap w wm v2 v') {bs : List Int} (hb : B8s bs) (hl : (s.o2 ++ bs).length ≤ 65536) (ho : Own8 w0 wm v' (s.o2 ++ bs)) :
    ∃ A', FsX w0 (wm.setCell ⟨fb, 52, none⟩ v') fb ub v1 v' vs us A' { s with o2 := s.o2 ++ bs } ∧ Stp A A' w (wm.setCell ⟨fb, 52, none⟩ v') := by
  have hfb := (h.in_ _ h.af).2
  have hv'fb : v'.ownBlock ≠ some fb := fun e => by
    rcases g.own with h1 | ⟨n, hn, h1⟩
    · exact (h.n2 fb (h1 ▸ e)).2.1 rfl
    · rw [h1] at e; have := Option.some.inj e; omega
  have hq : Bq fb wm (wm.setCell ⟨fb, 52, none⟩ v') := (Bq.refl _ _).set 52 _
  have hF : Fz (Fil.F fb ub v1 v2) w (wm.setCell ⟨fb, 52, none⟩ v') := (Fz.of_ap g (fun i e => Or.inr (Or.inr (Or.inr e)))).trans (Fz.of_bq hq (Or.inl rfl))
  have hB : Fz (fun i => i = fb ∨ v2.ownBlock = some i) w (wm.setCell ⟨fb, 52, none⟩ v') := (Fz.of_ap g (fun i e => Or.inr e)).trans (Fz.of_bq hq (Or.inl rfl))
  obtain ⟨hu, hk⟩ := h.useQ hB (fun i e => by rcases e with e | e; exact Or.inl e; exact Or.inr (Or.inr (Or.inr e))) (fun e => by rcases e with e | e; exact h.ne e.symm; exact (h.n2 _ e).2.2 rfl)
  have hbm : Box wm fb (Fil.cells ub vs v1 v2 s.op) := h.box.blk (g.block fb hfb (fun e => (h.n2 fb e).2.1 rfl))
  have hbx := hbm.set 52 (by rw [Fil.cells_len h.ok.ln]; omega) v'
  rw [Fil.cells_set2 h.ok.ln] at hbx
  refine ⟨_, h.mv hF rfl (h.ok.w2 bs hb hl) hbx hu hk (h.o1.heap fun j hj => ?_) (ho.heap fun j hj => ?_) (Or.inl rfl) g.own (fun n hn e2 => ?_)⟩
  · exact hB.block j (h.in_ j (h.n1 j hj).1).2 (fun e => by rcases e with e | e; exact (h.n1 j hj).2.1 e; exact (h.n1 j hj).2.2.2 e)
  · exact Below.heap_setCell _ _ _ _ (by show j ≠ fb; rintro rfl; exact hv'fb hj)
  · rcases g.own with h1 | ⟨m, hm, h1⟩
    · exact (h.n1 n hn).2.2.2 (h1 ▸ e2)
    · rw [h1] at e2; have := Option.some.inj e2; have := (h.in_ n (h.n1 n hn).1).2; omega
/-- A number's three cells are written. -/
theorem FsX.set3 {w0 w : World} {fb ub : Nat} {v1 v2 vs : Value} {us : List Value} {A : Nat → Prop} {s : Fil.St} (h : FsX w0 w fb ub v1 v2 vs us A s) {k : Nat} {x : Fil.H} (hx : s.op[k]? = some x) (y : Fil.H) (hy : y.kind = 0 ∨ (y.kind = 1 ∧ y.src < s.srcs.length) ∨ (y.kind = 2 ∧ (k = 1 ∨ k = 2))) :
    FsX w0 (((w.setCell ⟨fb, 2 + k * 3, none⟩ (.int .i64 y.kind)).setCell ⟨fb, 2 + k * 3 + 1, none⟩ (.int .i64 y.src)).setCell ⟨fb, 2 + k * 3 + 2, none⟩ (.int .i64 y.pos)) fb ub v1 v2 vs us A { s with op := s.op.set k y } ∧ Fz A w (((w.setCell ⟨fb, 2 + k * 3, none⟩ (.int .i64 y.kind)).setCell ⟨fb, 2 + k * 3 + 1, none⟩ (.int .i64 y.src)).setCell ⟨fb, 2 + k * 3 + 2, none⟩ (.int .i64 y.pos)) := by
  have hk : k < s.op.length := (List.getElem?_eq_some_iff.1 hx).1
  have hln := h.ok.ln
  have b1 := h.box.set (2 + k * 3 + 0) (by rw [Fil.cells_len hln]; omega) (.int .i64 y.kind)
  rw [Fil.cells_set (j := 0) (h' := ⟨y.kind, x.src, x.pos⟩) (by omega) hx rfl] at b1
  have hx1 : (s.op.set k ⟨y.kind, x.src, x.pos⟩)[k]? = some ⟨y.kind, x.src, x.pos⟩ := List.getElem?_set_self hk
  have b2 := b1.set (2 + k * 3 + 1) (by rw [Fil.cells_len (by rw [List.length_set]; exact hln)]; omega) (.int .i64 y.src)
  rw [Fil.cells_set (j := 1) (h' := ⟨y.kind, y.src, x.pos⟩) (by omega) hx1 rfl, List.set_set] at b2
  have hx2 : (s.op.set k ⟨y.kind, y.src, x.pos⟩)[k]? = some ⟨y.kind, y.src, x.pos⟩ := List.getElem?_set_self hk
  have b3 := b2.set (2 + k * 3 + 2) (by rw [Fil.cells_len (by rw [List.length_set]; exact hln)]; omega) (.int .i64 y.pos)
  rw [Fil.cells_set (j := 2) (h' := y) (by omega) hx2 rfl, List.set_set] at b3
  exact h.onFb ((((Bq.refl _ _).set _ _).set _ _).set _ _) b3 (h.ok.set k y hy)
/-- A number's place is written. -/
theorem FsX.set1 {w0 w : World} {fb ub : Nat} {v1 v2 vs : Value} {us : List Value} {A : Nat → Prop} {s : Fil.St} (h : FsX w0 w fb ub v1 v2 vs us A s) {k : Nat} {x : Fil.H} (hx : s.op[k]? = some x) (n : Nat) :
    FsX w0 (w.setCell ⟨fb, 2 + k * 3 + 2, none⟩ (.int .i64 n)) fb ub v1 v2 vs us A { s with op := s.op.set k { x with pos := n } } ∧ Fz A w (w.setCell ⟨fb, 2 + k * 3 + 2, none⟩ (.int .i64 n)) := by
  have hk : k < s.op.length := (List.getElem?_eq_some_iff.1 hx).1
  have hln := h.ok.ln
  have b1 := h.box.set (2 + k * 3 + 2) (by rw [Fil.cells_len h.ok.ln]; omega) (.int .i64 n)
  rw [Fil.cells_set (j := 2) (h' := { x with pos := n }) (by omega) hx rfl] at b1
  exact h.onFb ((Bq.refl _ _).set _ _) b1 (h.ok.set k _ (h.ok.kd k x hx))
end Go.Proofs.Ytaepjlaegldkhaa
