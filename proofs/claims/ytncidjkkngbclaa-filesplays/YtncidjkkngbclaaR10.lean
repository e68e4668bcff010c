/- LAYER 11, the document's own open files: a place is written, the use; Seek. · LAYER 11, the document's own open files: Seek. · LAYER 11, the document's own open files: Read. -/
import Derived.Test.YtncidjkkngbclaaR8b
import Derived.Test.YtncidjkkngbclaaR5
namespace Go.Proofs.Ytncidjkkngbclaa
open Go.ChangeShapes Go.WideShapes Go.ChangeAt Go.RowKit

theorem RsX.same {w0 w : World} {rb ru : Nat} {va vi vs vr vc vf lv u1 u2 : Value} {us : List Value} {inp : List Int} {fs : List Fee.Fl} {G B : Nat → Prop} {s : Fil.St} {l : List Nat} (h : RsX w0 w rb ru va vi vs vr vc vf lv u1 u2 us inp fs G B s l) : (fun i => G i ∨ lv.ownBlock = some i ∨ u1.ownBlock = some i ∨ u2.ownBlock = some i) = G := by
  funext i
  refine propext ⟨fun e => ?_, Or.inl⟩
  rcases e with e | e | e | e
  · exact e
  · exact (h.ll.n i e).1
  · exact (h.n1 i e).1
  · exact (h.n2 i e).1
theorem Fil.at_set {op : List Fil.H} {k : Nat} (hk : k < op.length) (y : Fil.H) (e : Nat) : Fil.at_ (op.set k y) e = if e = k then y else Fil.at_ op e := by
  unfold Fil.at_
  by_cases h : e = k
  · subst h; rw [if_pos rfl, List.getElem?_set_self hk]; rfl
  · rw [if_neg h, List.getElem?_set_ne (Ne.symm h)]
theorem flat_upd {f f' : Nat → List Value} {m : Nat} (hm : ∀ x, (f x).length = m) {j : Nat} (hj : j < m) {v : Value} {k : Nat} (hk : f' k = (f k).set j v) (ho : ∀ e, e ≠ k → f' e = f e) : ∀ (l : List Nat) (i : Nat), l.Nodup → l[i]? = some k → l.flatMap f' = (l.flatMap f).set (i * m + j) v := by
  intro l
  induction l with
  | nil => intro i _ h; simp at h
  | cons x r ih =>
    intro i hn h
    rw [List.nodup_cons] at hn
    cases i with
    | zero =>
      simp at h; subst h
      rw [List.flatMap_cons, List.flatMap_cons, Nat.zero_mul, Nat.zero_add, List.set_append_left _ _ (by rw [hm]; exact hj), hk]
      congr 1
      have : ∀ e ∈ r, f' e = f e := fun e he => ho e (fun h => hn.1 (h ▸ he))
      clear ih hn
      induction r with
      | nil => rfl
      | cons y t ih2 => rw [List.flatMap_cons, List.flatMap_cons, this y List.mem_cons_self, ih2 (fun e he => this e (List.mem_cons_of_mem _ he))]
    | succ i =>
      have hx : x ≠ k := fun e => hn.1 (e ▸ List.mem_of_getElem? (show r[i]? = some k by simpa using h))
      rw [List.flatMap_cons, List.flatMap_cons, List.set_append_right _ _ (by rw [hm, Nat.succ_mul]; omega), hm, show (i + 1) * m + j - m = i * m + j by rw [Nat.succ_mul]; omega, ← ih i hn.2 (by simpa using h), ho x hx]
theorem Fil.mem_set {op : List Fil.H} {l : List Nat} (h : ∀ fd : Nat, fd ∈ l ↔ ∃ x, op[fd]? = some x ∧ x.kind ≠ 0) {k : Nat} {x y : Fil.H} (hx : op[k]? = some x) (h1 : x.kind ≠ 0) (h2 : y.kind ≠ 0) : ∀ fd : Nat, fd ∈ l ↔ ∃ z, (op.set k y)[fd]? = some z ∧ z.kind ≠ 0 := fun fd => by
  have hk := (List.getElem?_eq_some_iff.1 hx).1
  rw [h fd]
  by_cases e : fd = k
  · subst e
    rw [List.getElem?_set_self hk]
    exact ⟨fun _ => ⟨y, rfl, h2⟩, fun _ => ⟨x, hx, h1⟩⟩
  · rw [List.getElem?_set_ne (Ne.symm e)]
/-- A place is written. -/
theorem RsX.setAt {w0 w : World} {rb ru : Nat} {va vi vs vr vc vf lv u1 u2 : Value} {us : List Value} {inp : List Int} {fs : List Fee.Fl} {G B : Nat → Prop} {s : Fil.St} {l : List Nat} (h : RsX w0 w rb ru va vi vs vr vc vf lv u1 u2 us inp fs G B s l) {k i g : Nat} {x : Fil.H} (hx : s.op[k]? = some x) (hk0 : x.kind ≠ 0) (hi : l[i]? = some k) {c : Nat} (hg : lv = .slice (some ⟨g, 0, none⟩) l.length c) (n : Nat) :
    RsX w0 (w.setCell ⟨g, i * 3 + 2, none⟩ (.int .i64 n)) rb ru va vi vs vr vc vf lv u1 u2 us inp fs G B { s with op := s.op.set k { x with pos := n } } l ∧ Fz G w (w.setCell ⟨g, i * 3 + 2, none⟩ (.int .i64 n)) := by
  have hsm := h.same
  have hkl := (List.getElem?_eq_some_iff.1 hx).1
  have hil := (List.getElem?_eq_some_iff.1 hi).1
  obtain ⟨nG, nb, nu⟩ := h.ll.n g (by rw [hg]; rfl)
  have hq : Bq g w (w.setCell ⟨g, i * 3 + 2, none⟩ (.int .i64 n)) := (Bq.refl _ _).set _ _
  have hx2 : Fil.at_ s.op k = x := by unfold Fil.at_; rw [hx]; rfl
  have hfl : l.flatMap (Fil.eC (s.op.set k { x with pos := n })) = (l.flatMap (Fil.eC s.op)).set (i * 3 + 2) (.int .i64 n) := by
    refine flat_upd (Fil.eC_len s.op) (by omega) ?_ ?_ l i h.nd hi
    · unfold Fil.eC; rw [Fil.at_set hkl, if_pos rfl, hx2]; rfl
    · intro e he; unfold Fil.eC; rw [Fil.at_set hkl, if_neg he]
  have hlv : LvS w0 (w.setCell ⟨g, i * 3 + 2, none⟩ (.int .i64 n)) lv G rb ru (s.op.set k { x with pos := n }) l := by
    obtain ⟨⟨q, cap, e, h2, h3, h4⟩, hn⟩ := h.ll
    refine ⟨⟨q, cap, e, h2, h3, fun h0 => ?_⟩, hn⟩
    obtain ⟨g', rfl, h5, h6⟩ := h4 h0
    rw [hg] at e; simp at e
    obtain ⟨rfl, rfl⟩ := e
    refine ⟨g, rfl, Nat.lt_of_lt_of_le h5 hq.b0.size, ?_⟩
    rw [hfl]
    exact h6.set _ (by rw [chunk_len (Fil.eC s.op) 3 (Fil.eC_len s.op)]; omega) _
  have hcn : Fil.cnt (s.op.set k { x with pos := n }) = Fil.cnt s.op := by
    rw [Fil.cnt_set hx, show Fil.isO { x with pos := n } = Fil.isO x from rfl, (Fil.isO_iff x).2 hk0]
    have := Fil.cnt_pos hx ((Fil.isO_iff x).2 hk0)
    simp only [if_true]; omega
  have hmv := h.mv (s' := { s with op := s.op.set k { x with pos := n } }) (l' := l) (lv' := lv) (u1' := u1) (u2' := u2) (Fz.of_bq hq nG) (h.ok.set k _ (h.ok.kd k x hx)) ⟨rfl, rfl, rfl, rfl⟩ (h.box.ne (Ne.symm nb) _ _) (h.ubx.ne (Ne.symm nu) _ _) h.la (by rw [hsm]; exact hlv)
    (h.o1.heap fun j hj => hq.block j (h.in_ j (h.n1 j hj).1).2 (fun e => (h.n1 j hj).2.2.2 (by rw [hg, e]; rfl))) (h.o2.heap fun j hj => hq.block j (h.in_ j (h.n2 j hj).1).2 (fun e => (h.n2 j hj).2.2.2 (by rw [hg, e]; rfl)))
    (fun j hj => ⟨(h.in_ j (h.ll.n j hj).1).1, Nat.lt_of_lt_of_le (h.in_ j (h.ll.n j hj).1).2 hq.b0.size, fun _ => (h.ll.n j hj).1⟩) (fun j hj => ⟨(h.n1 j hj).2.1, (h.n1 j hj).2.2.1, (h.n1 j hj).2.2.2, fun _ => (h.n1 j hj).1⟩) (fun j hj => ⟨(h.n2 j hj).2.1, (h.n2 j hj).2.2.1, (h.n2 j hj).2.2.2, fun _ => (h.n2 j hj).1⟩)
    h.nd (Fil.mem_set h.mem hx hk0 hk0) (by rw [hcn]; exact h.len)
  rw [hsm] at hmv
  exact ⟨hmv.1, hmv.2.fz⟩
/-- The use is written. -/
theorem RsX.onRu {w0 w w' : World} {rb ru : Nat} {va vi vs vr vc vf lv u1 u2 : Value} {us : List Value} {inp : List Int} {fs : List Fee.Fl} {G B : Nat → Prop} {s : Fil.St} {l : List Nat} (h : RsX w0 w rb ru va vi vs vr vc vf lv u1 u2 us inp fs G B s l) (hq : Bq ru w w') {a : Nat} (hu : RUse w' ru s.sh s.rd s.ck a s.b s.c) (hk : KeepR ru w w') :
    RsX w0 w' rb ru va vi vs vr vc vf lv u1 u2 us inp fs G B { s with a := a } l ∧ Fz G w w' := by
  have hsm := h.same
  obtain ⟨⟨wa, wi, ws, wr, wc, wf, hb, _⟩, la, lb, lc⟩ := hu
  have e : ∀ (j : Nat) v v', j < 6 → [va, vi, vs, vr, vc, vf][j]? = some v → [wa, wi, ws, wr, wc, wf][j]? = some v' → v' = v := fun j v v' hj h1 h2 => by
    have c1 := h.ubx.c j v (by match j, hj, h1 with
      | 0, _, h1 => exact h1
      | 1, _, h1 => exact h1
      | 2, _, h1 => exact h1
      | 3, _, h1 => exact h1
      | 4, _, h1 => exact h1
      | 5, _, h1 => exact h1)
    have c2 := hb.c j v' (by match j, hj, h2 with
      | 0, _, h2 => exact h2
      | 1, _, h2 => exact h2
      | 2, _, h2 => exact h2
      | 3, _, h2 => exact h2
      | 4, _, h2 => exact h2
      | 5, _, h2 => exact h2)
    rw [hk j hj, c1] at c2
    exact (Option.some.inj c2).symm
  obtain rfl := e 0 va wa (by omega) rfl rfl
  obtain rfl := e 1 vi wi (by omega) rfl rfl
  obtain rfl := e 2 vs ws (by omega) rfl rfl
  obtain rfl := e 3 vr wr (by omega) rfl rfl
  obtain rfl := e 4 vc wc (by omega) rfl rfl
  obtain rfl := e 5 vf wf (by omega) rfl rfl
  have hne := h.g1.2.2
  have hmv := h.mv (s' := { s with a := a }) (l' := l) (lv' := lv) (u1' := u1) (u2' := u2) (Fz.of_bq hq h.g1.2.1) (h.ok.useA a) ⟨rfl, rfl, rfl, rfl⟩ (h.box.blk (hq.block rb (h.in_ rb h.g1.1).2 hne)) hb ⟨la, lb, lc⟩
    (by rw [hsm]; exact h.ll.blk hq.b0.size (fun g e => hq.block g (h.in_ g (h.ll.n g e).1).2 (h.ll.n g e).2.2))
    (h.o1.heap fun j hj => hq.block j (h.in_ j (h.n1 j hj).1).2 (h.n1 j hj).2.2.1) (h.o2.heap fun j hj => hq.block j (h.in_ j (h.n2 j hj).1).2 (h.n2 j hj).2.2.1)
    (fun j hj => ⟨(h.in_ j (h.ll.n j hj).1).1, Nat.lt_of_lt_of_le (h.in_ j (h.ll.n j hj).1).2 hq.b0.size, fun _ => (h.ll.n j hj).1⟩) (fun j hj => ⟨(h.n1 j hj).2.1, (h.n1 j hj).2.2.1, (h.n1 j hj).2.2.2, fun _ => (h.n1 j hj).1⟩) (fun j hj => ⟨(h.n2 j hj).2.1, (h.n2 j hj).2.2.1, (h.n2 j hj).2.2.2, fun _ => (h.n2 j hj).1⟩)
    h.nd h.mem h.len
  rw [hsm] at hmv
  exact ⟨hmv.1, hmv.2.fz⟩
theorem RS.take {w0 w : World} {rb : Nat} {G B : Nat → Prop} {s : Fil.St} {l : List Nat} (h : RS w0 w rb G B s l) (n : Int) : ∃ ru, w.cell? ⟨rb, 0, none⟩ = some (.pointer (some ⟨ru, 0, none⟩)) ∧ Calls Try.prog 31 #[.pointer (some ⟨ru, 0, none⟩), .int .i64 n] w fun e w' => e = .returned (.int .i64 (Fee.take s.sh s.a n).1) ∧ RS w0 w' rb G B { s with a := (Fee.take s.sh s.a n).2 } l ∧ Fz G w w' := by
  obtain ⟨ru, va, vi, vs, vr, vc, vf, lv, u1, u2, us, inp, fs, h⟩ := h
  have hfar : ∀ v, InB B v → Far ru v := fun v hv q k c e hk e2 => by have := h.lo _ (hv q k c e hk); have := (h.in_ ru h.g1.2.1).1; omega
  have hU : RUse w ru s.sh s.rd s.ck s.a s.b s.c := ⟨⟨va, vi, vs, vr, vc, vf, h.ubx, h.hs.1, h.hs.2.1, h.hs.2.2.1, hfar _ h.hb.1, hfar _ h.hb.2.1, hfar _ h.hb.2.2.1⟩, h.la.1, h.la.2.1, h.la.2.2⟩
  refine ⟨ru, h.box.c 0 _ rfl, (rTake_c w ru s.sh s.rd s.ck s.a s.b s.c hU h.ok.l1 n).mono ?_⟩
  rintro e w' ⟨rfl, hu, hq, hk⟩
  obtain ⟨r1, r2⟩ := h.onRu hq hu hk
  exact ⟨rfl, ⟨_, _, _, _, _, _, _, _, _, _, _, _, _, r1⟩, r2⟩
end Go.Proofs.Ytncidjkkngbclaa
namespace Go.Proofs.Ytncidjkkngbclaa
open Go.ChangeShapes Go.WideShapes Go.ChangeAt Go.RowKit

theorem Fil.at_eq {op : List Fil.H} {k : Nat} {x : Fil.H} (h : op[k]? = some x) : Fil.at_ op k = x := by unfold Fil.at_; rw [h]; rfl
/-- A number that is in the list: its cells, in whatever world it stands. -/
theorem RS.ent {w0 w : World} {rb : Nat} {G B : Nat → Prop} {s : Fil.St} {l : List Nat} (h : RS w0 w rb G B s l) {k i : Nat} {x : Fil.H} (hx : s.op[k]? = some x) (hi : l[i]? = some k) : ∃ g c, i < l.length ∧ l.length ≤ 16 ∧ l.length ≤ c ∧ w.cell? ⟨rb, 1, none⟩ = some (.slice (some ⟨g, 0, none⟩) l.length c) ∧ (w.cell? ⟨g, i * 3, none⟩ = some (.int .i64 k) ∧ w.cell? ⟨g, i * 3 + 1, none⟩ = some (.int .i64 (Fil.file x)) ∧ w.cell? ⟨g, i * 3 + 2, none⟩ = some (.int .i64 x.pos)) ∧ w.frozen? ⟨g, i * 3 + 2, none⟩ = false ∧
    (x.kind ≠ 0 → ∀ n : Nat, RS w0 (w.setCell ⟨g, i * 3 + 2, none⟩ (.int .i64 n)) rb G B { s with op := s.op.set k { x with pos := n } } l ∧ Fz G w (w.setCell ⟨g, i * 3 + 2, none⟩ (.int .i64 n))) := by
  obtain ⟨ru, va, vi, vs, vr, vc, vf, lv, u1, u2, us, inp, fs, h⟩ := h
  obtain ⟨q, cap, e, h2, h3, h4⟩ := h.ll.at_
  obtain ⟨g, rfl, -, -, -, -, hc, hf⟩ := h4 i k hi
  rw [Fil.at_eq hx] at hc
  have c1 := h.box.c 1 _ rfl
  refine ⟨g, cap, (List.getElem?_eq_some_iff.1 hi).1, by rw [h.len, ← h.ok.ln]; exact Fil.cnt_le _, h2, by rw [c1, e], hc, hf, fun hk n => ?_⟩
  obtain ⟨r1, r2⟩ := h.setAt hx hk hi e n
  exact ⟨⟨_, _, _, _, _, _, _, _, _, _, _, _, _, r1⟩, r2⟩
theorem RS.num {w0 w : World} {rb : Nat} {G B : Nat → Prop} {s : Fil.St} {l : List Nat} (h : RS w0 w rb G B s l) (fd : Int) : ((Fil.hd s fd).kind = 0 ∧ Fil.fx l fd = -1) ∨ ∃ (k i : Nat) (x : Fil.H), fd = k ∧ k < 16 ∧ s.op[k]? = some x ∧ Fil.hd s fd = x ∧ x.kind ≠ 0 ∧ l[i]? = some k ∧ Fil.fx l fd = i := by
  obtain ⟨ru, va, vi, vs, vr, vc, vf, lv, u1, u2, us, inp, fs, h⟩ := h
  exact h.num fd
theorem RS.ok {w0 w : World} {rb : Nat} {G B : Nat → Prop} {s : Fil.St} {l : List Nat} (h : RS w0 w rb G B s l) : Fil.Ok s := by
  obtain ⟨ru, va, vi, vs, vr, vc, vf, lv, u1, u2, us, inp, fs, h⟩ := h
  exact h.ok
set_option maxHeartbeats 4000000 in
set_option maxRecDepth 100000 in
theorem rSeek_c {w0 w : World} {rb : Nat} {G B : Nat → Prop} {s : Fil.St} {l : List Nat} (h : RS w0 w rb G B s l) (fd off wh : Int) (ho1 : -2147483648 ≤ off) (ho2 : off ≤ 2147483647) (hp : ∀ (i : Nat) x, s.op[i]? = some x → x.pos ≤ 4611686018427387904) :
    Calls Try.prog 18 #[.pointer (some ⟨rb, 0, none⟩), .int .i64 fd, .int .i32 off, .int .i64 wh] w fun e w' => e = .returned (.int .i64 (Fil.seek s fd off wh).1) ∧ RS w0 w' rb G B (Fil.seek s fd off wh).2 l ∧ Fz G w w' := by
  have hK := rFind_c h fd
  have HFS : Hid _ := h
  rcases h.num fd with ⟨h0, hfx⟩ | ⟨k, i, x, rfl, hk16, hx, hd, h0, hi, hfx⟩
  · rw [show Fil.seek s fd off wh = (-9, s) by unfold Fil.seek; rw [if_pos h0]]
    rw [hfx] at hK
    clear h h0 hp
    go_enter Try.func18, Try.ntmps18
    go_wp2_with (go_at_call 28; refine hK.mono ?_; rintro e w2 ⟨rfl, hb⟩)
    go_returns
    exact ⟨rfl, RS.bw HFS hb, Fz.of_bw hb⟩
  rw [hfx] at hK
  have hE := fun X (g : Bw w X) => (h.bw g).ent hx hi
  by_cases h2 : x.kind = 2
  · rw [show Fil.seek s k off wh = (-29, s) by unfold Fil.seek; rw [hd, if_neg h0, if_pos h2]]
    have hfl : Fil.file x = -2 := by unfold Fil.file; rw [if_pos h2]
    rw [hfl] at hE
    clear h h0 hp hd h2
    go_enter Try.func18, Try.ntmps18
    go_wp2_with (go_at_call 28; refine hK.mono ?_; rintro e w2 ⟨rfl, hb⟩; obtain ⟨g, c, i1, i2, i3, d0, ⟨d1, d2, d3⟩, d4, -⟩ := hE _ hb; have i4 : (i : Int) < (l.length : Int) := (by omega); clear hE)
    go_returns
    exact ⟨rfl, RS.bw HFS hb, Fz.of_bw hb⟩
  obtain ⟨h1, hsrc⟩ : x.kind = 1 ∧ x.src < s.srcs.length := by
    rcases h.ok.kd k x hx with e | e | e
    · exact absurd e h0
    · exact e
    · exact absurd e.1 h2
  have hfl : Fil.file x = (x.src : Int) - 1 := by unfold Fil.file; rw [if_neg h2]
  have hf2 : ((Fil.file x == -2) = false) := by rw [hfl]; simp; omega
  have hpos := hp k x hx
  have hdl : (Fil.data s x).length ≤ 4096 := by
    unfold Fil.data
    rw [List.getElem?_eq_getElem hsrc]
    exact (h.ok.ld _ (List.getElem_mem hsrc)).1
  have hS : Fil.seek s k off wh = if wh ≠ 0 ∧ wh ≠ 1 ∧ wh ≠ 2 then (-22, s) else if Fil.place s x off wh < 0 then (-22, s) else (Fil.place s x off wh, { s with op := s.op.set k { x with pos := (Fil.place s x off wh).toNat } }) := by
    unfold Fil.seek; rw [hd, if_neg h0, if_neg h2, Int.toNat_natCast]
  have hfin : ∀ X n, Bw w X → ∀ g, (∀ n : Nat, RS w0 (X.setCell ⟨g, i * 3 + 2, none⟩ (.int .i64 n)) rb G B { s with op := s.op.set k { x with pos := n } } l ∧ Fz G X (X.setCell ⟨g, i * 3 + 2, none⟩ (.int .i64 n))) → RS w0 (X.setCell ⟨g, i * 3 + 2, none⟩ (.int .i64 (n : Nat))) rb G B { s with op := s.op.set k { x with pos := n } } l ∧ Fz G w (X.setCell ⟨g, i * 3 + 2, none⟩ (.int .i64 (n : Nat))) := fun X n g gb hh => ⟨(hh n).1, (Fz.of_bw g).trans (hh n).2⟩
  have hD := fun X (g : Bw w X) => rData_c (h.bw g) hsrc h1 k
  generalize Fil.file x = fl at *
  clear hfl
  by_cases hw : wh ≠ 0 ∧ wh ≠ 1 ∧ wh ≠ 2
  · rw [hS, if_pos hw]
    obtain ⟨w0', w1', w2'⟩ := hw
    have b0 : (wh == 0) = false := by simpa using w0'
    have b1 : (wh == 1) = false := by simpa using w1'
    have b2 : (wh == 2) = false := by simpa using w2'
    clear h h0 h2 hp hx hd hS hfin hD
    go_enter Try.func18, Try.ntmps18
    go_wp2_with (go_at_call 28; refine hK.mono ?_; rintro e w2 ⟨rfl, hb⟩; obtain ⟨g, c, i1, i2, i3, d0, ⟨d1, d2, d3⟩, d4, -⟩ := hE _ hb; have i4 : (i : Int) < (l.length : Int) := (by omega); clear hE)
    go_returns
    exact ⟨rfl, RS.bw HFS hb, Fz.of_bw hb⟩
  rw [if_neg hw] at hS
  have hw3 : wh = 0 ∨ wh = 1 ∨ wh = 2 := by omega
  clear hw h2 hp hd
  rcases hw3 with rfl | rfl | rfl
  · have hv : Fil.place s x off 0 = off := rfl
    rw [hv] at hS
    by_cases hneg : off < 0
    · rw [hS, if_pos hneg]
      clear h hS hv hfin hD h0
      go_enter Try.func18, Try.ntmps18
      go_wp2_with (go_at_call 28; refine hK.mono ?_; rintro e w2 ⟨rfl, hb⟩; obtain ⟨g, c, i1, i2, i3, d0, ⟨d1, d2, d3⟩, d4, hset⟩ := hE _ hb; have i4 : (i : Int) < (l.length : Int) := (by omega); clear hE)
      go_returns
      exact ⟨rfl, RS.bw HFS hb, Fz.of_bw hb⟩
    · rw [hS, if_neg hneg]
      obtain ⟨n, hn⟩ : ∃ n : Nat, off = n := ⟨(off).toNat, by omega⟩
      have hfn := fun X g => hfin X n g
      rw [hn] at hneg ⊢
      rw [Int.toNat_natCast]
      have HFn : Hid _ := hfn
      have H0 : Hid _ := h0
      clear h hS hv hfin hfn hD h0
      go_enter Try.func18, Try.ntmps18
      go_wp2_with (go_at_call 28; refine hK.mono ?_; rintro e w2 ⟨rfl, hb⟩; obtain ⟨g, c, i1, i2, i3, d0, ⟨d1, d2, d3⟩, d4, hset⟩ := hE _ hb; have i4 : (i : Int) < (l.length : Int) := (by omega); clear hE)
      go_returns
      exact ⟨rfl, (show ∀ X, Bw w X → _ from HFn) _ hb g (hset H0)⟩
  · have hv : Fil.place s x off 1 = off + x.pos := rfl
    rw [hv] at hS
    by_cases hneg : off + x.pos < 0
    · rw [hS, if_pos hneg]
      clear h hS hv hfin hD h0
      go_enter Try.func18, Try.ntmps18
      go_wp2_with (go_at_call 28; refine hK.mono ?_; rintro e w2 ⟨rfl, hb⟩; obtain ⟨g, c, i1, i2, i3, d0, ⟨d1, d2, d3⟩, d4, hset⟩ := hE _ hb; have i4 : (i : Int) < (l.length : Int) := (by omega); clear hE)
      go_returns
      exact ⟨rfl, RS.bw HFS hb, Fz.of_bw hb⟩
    · rw [hS, if_neg hneg]
      obtain ⟨n, hn⟩ : ∃ n : Nat, off + x.pos = n := ⟨(off + x.pos).toNat, by omega⟩
      have hfn := fun X g => hfin X n g
      rw [hn] at hneg ⊢
      rw [Int.toNat_natCast]
      have HFn : Hid _ := hfn
      have H0 : Hid _ := h0
      clear h hS hv hfin hfn hD h0
      go_enter Try.func18, Try.ntmps18
      go_wp2_with (go_at_call 28; refine hK.mono ?_; rintro e w2 ⟨rfl, hb⟩; obtain ⟨g, c, i1, i2, i3, d0, ⟨d1, d2, d3⟩, d4, hset⟩ := hE _ hb; have i4 : (i : Int) < (l.length : Int) := (by omega); clear hE)
      go_returns
      exact ⟨rfl, (show ∀ X, Bw w X → _ from HFn) _ hb g (hset H0)⟩
  · have hv : Fil.place s x off 2 = off + (Fil.data s x).length := rfl
    rw [hv] at hS
    by_cases hneg : off + (Fil.data s x).length < 0
    · rw [hS, if_pos hneg]
      clear h hS hv hfin h0
      go_enter Try.func18, Try.ntmps18
      go_wp2_with (first | (go_at_call 28; refine hK.mono ?_; rintro e w2 ⟨rfl, hb⟩; obtain ⟨g, c, i1, i2, i3, d0, ⟨d1, d2, d3⟩, d4, hset⟩ := hE _ hb; have i4 : (i : Int) < (l.length : Int) := (by omega); clear hE) | (go_at_call 32; refine (hD _ hb).mono ?_; rintro e w3 ⟨v3, rfl, hv3, -, hb3⟩; obtain ⟨qv, cv, rfl, hv4, hv5, -⟩ := Rd8.open hv3))
      go_returns
      exact ⟨rfl, RS.bw HFS (hb.trans hb3), Fz.of_bw (hb.trans hb3)⟩
    · rw [hS, if_neg hneg]
      obtain ⟨n, hn⟩ : ∃ n : Nat, off + (Fil.data s x).length = n := ⟨(off + (Fil.data s x).length).toNat, by omega⟩
      have hfn := fun X g => hfin X n g
      rw [hn] at hneg ⊢
      rw [Int.toNat_natCast]
      have HFn : Hid _ := hfn
      have H0 : Hid _ := h0
      have HX : Hid _ := hx
      have HE2 : Hid _ := hE
      clear h hS hv hfin hfn h0
      go_enter Try.func18, Try.ntmps18
      go_wp2_with (first | (go_at_call 28; refine hK.mono ?_; rintro e w2 ⟨rfl, hb⟩; obtain ⟨g, c, i1, i2, i3, d0, ⟨d1, d2, d3⟩, d4, hset⟩ := hE _ hb; have i4 : (i : Int) < (l.length : Int) := (by omega); clear hE) | (go_at_call 32; refine (hD _ hb).mono ?_; rintro e w3 ⟨v3, rfl, hv3, -, hb3⟩; obtain ⟨qv, cv, rfl, hv4, hv5, -⟩ := Rd8.open hv3; obtain ⟨g9, c9, j1, j2, j3, e0, ⟨e1, e2, e3⟩, e4, hset3⟩ := (show ∀ X, Bw w X → _ from HE2) _ (hb.trans hb3)))
      go_returns
      exact ⟨rfl, (show ∀ X, Bw w X → _ from HFn) _ (hb.trans hb3) g9 (hset3 H0)⟩
end Go.Proofs.Ytncidjkkngbclaa
namespace Go.Proofs.Ytncidjkkngbclaa
open Go.ChangeShapes Go.WideShapes Go.ChangeAt Go.RowKit

theorem app_new {X : World} {v : Value} {l : List Int} (hv : Rd8 X v l) (hl : l.length ≤ 100000) : ∃ v' w', (Builtin.append_ #[23, 23] 23 #[.slice (some ⟨X.heap.size, 0, none⟩) 0 0, v]).run Try.prog (X.alloc (.cells #[] 5)) = .ok v' w' ∧ Own8 X w' v' l ∧ Bw X w' ∧ ∃ q c, v' = .slice q l.length c := by
  have hown := OwnR.empty 5 1 (w0 := X) (Nat.le_refl X.heap.size)
  have hb : Bw X (X.alloc (.cells #[] 5)) := (Bw.refl X).alloc _
  obtain ⟨v', w', hr, ho, hbw, -⟩ := app8S (Own8.of (l := []) hown) hb (hv.bw hb) (by rw [List.length_nil]; omega)
  rw [List.nil_append] at ho
  exact ⟨v', w', hr, ho, hbw, ho.sl⟩
theorem set_self {α : Type} {l : List α} {k : Nat} {x : α} (h : l[k]? = some x) : l.set k x = l := by
  apply List.ext_getElem?
  intro i
  by_cases e : k = i
  · subst e; rw [List.getElem?_set_self (List.getElem?_eq_some_iff.1 h).1, h]
  · rw [List.getElem?_set_ne e]
theorem rd_to {w : World} {data : List Int} {q : Option Addr} {cap m : Nat} (hR : Rd8 w (.slice q data.length cap) data) (hm : m ≤ data.length) : Rd8 w (.slice q m cap) (data.take m) := by
  obtain ⟨q1, cap1, e1, hc1, hc2, hcell⟩ := hR.open
  simp at e1
  obtain ⟨rfl, rfl⟩ := e1
  have hl : (data.take m).length = m := by rw [List.length_take]; omega
  refine ⟨q, cap, by rw [hl], by omega, hc2, by simp [ints8], fun h0 => ?_⟩
  obtain ⟨b, o, rfl, h7, h8⟩ := hcell (by omega)
  refine ⟨b, o, rfl, h7, fun j u hu => ?_⟩
  simp only [ints8, List.getElem?_map, Option.map_eq_some_iff] at hu
  obtain ⟨y, hy, rfl⟩ := hu
  have hj : j < m := by have := (List.getElem?_eq_some_iff.1 hy).1; omega
  rw [List.getElem?_take_of_lt hj] at hy
  exact h8 _ y hy
theorem rd_from' {w : World} {data : List Int} {q q' : Option Addr} {cap p : Nat} (hR : Rd8 w (.slice q data.length cap) data) (hp : p ≤ data.length) (hq : ∀ b' o, q = some ⟨b', o, none⟩ → p < data.length → q' = some ⟨b', o + p, none⟩) : Rd8 w (.slice q' (data.length - p) (cap - p)) (data.drop p) := by
  obtain ⟨q1, cap1, e1, hc1, hc2, hcell⟩ := hR.open
  simp at e1
  obtain ⟨rfl, rfl⟩ := e1
  have hl : (data.drop p).length = data.length - p := List.length_drop
  refine ⟨q', cap - p, by rw [hl], by omega, by omega, by simp [ints8], fun h0 => ?_⟩
  obtain ⟨b, o, rfl, h7, h8⟩ := hcell (by omega)
  refine ⟨b, o + p, hq _ _ rfl (by omega), h7, fun j u hu => ?_⟩
  simp only [ints8, List.getElem?_map, Option.map_eq_some_iff] at hu
  obtain ⟨y, hy, rfl⟩ := hu
  rw [List.getElem?_drop] at hy
  rw [Nat.add_assoc]; exact h8 _ y hy
theorem RS.gIn {w0 w : World} {rb : Nat} {G B : Nat → Prop} {s : Fil.St} {l : List Nat} (h : RS w0 w rb G B s l) {g n c : Nat} (hc : w.cell? ⟨rb, 1, none⟩ = some (.slice (some ⟨g, 0, none⟩) n c)) : G g := by
  obtain ⟨ru, va, vi, vs, vr, vc, vf, lv, u1, u2, us, inp, fs, h⟩ := h
  have c1 := h.box.c 1 _ rfl
  rw [c1] at hc
  exact (h.ll.n g (by rw [Option.some.inj hc]; rfl)).1
theorem RS.ne {w0 w : World} {rb : Nat} {G B : Nat → Prop} {s : Fil.St} {l : List Nat} (h : RS w0 w rb G B s l) {g n c : Nat} (hc : w.cell? ⟨rb, 1, none⟩ = some (.slice (some ⟨g, 0, none⟩) n c)) : rb ≠ g := by
  obtain ⟨ru, va, vi, vs, vr, vc, vf, lv, u1, u2, us, inp, fs, h⟩ := h
  have c1 := h.box.c 1 _ rfl
  rw [c1] at hc
  exact Ne.symm (h.ll.n g (by rw [Option.some.inj hc]; rfl)).2.1
theorem RS.inB {w0 w : World} {rb : Nat} {G B : Nat → Prop} {s : Fil.St} {l : List Nat} (h : RS w0 w rb G B s l) {v : Value} (hv : InB B v) {g : Nat} (hg : G g) : ∀ q k c, v = .slice (some q) k c → 0 < k → q.block ≠ g := fun q k c e hk e2 => by
  obtain ⟨ru, va, vi, vs, vr, vc, vf, lv, u1, u2, us, inp, fs, h⟩ := h
  have := h.lo _ (hv q k c e hk); have := (h.in_ g hg).1; omega
set_option maxHeartbeats 8000000 in
set_option maxRecDepth 100000 in
theorem rRead_c {w0 w : World} {rb : Nat} {G B : Nat → Prop} {s : Fil.St} {l : List Nat} (h : RS w0 w rb G B s l) (fd n : Int) (hp : ∀ (i : Nat) x, s.op[i]? = some x → x.pos ≤ 4611686018427387904) :
    Calls Try.prog 14 #[.pointer (some ⟨rb, 0, none⟩), .int .i64 fd, .int .i64 n] w fun e w' => ∃ v, e = .returned (.tuple #[v, .int .i64 (Fil.read s fd n).2.1]) ∧ Own8 w w' v (Fil.read s fd n).1 ∧ RS w0 w' rb G B (Fil.read s fd n).2.2 l ∧ Fz G w w' := by
  have hK := rFind_c h fd
  have HFS : Hid _ := h
  rcases h.num fd with ⟨h0, hfx⟩ | ⟨k, i, x, rfl, hk16, hx, hd, h0, hi, hfx⟩
  · rw [show Fil.read s fd n = ([], -9, s) by unfold Fil.read; rw [if_pos (by rw [h0]; decide)]]
    rw [hfx] at hK
    clear h h0 hp
    go_enter Try.func14, Try.ntmps14
    go_wp2_with (go_at_call 28; refine hK.mono ?_; rintro e w2 ⟨rfl, hb⟩)
    go_returns
    exact ⟨_, rfl, Own8.nil _ _, RS.bw HFS hb, Fz.of_bw hb⟩
  rw [hfx] at hK
  have hE := fun X (g : Bw w X) => (h.bw g).ent hx hi
  by_cases h2 : x.kind = 2
  · rw [show Fil.read s k n = ([], -9, s) by unfold Fil.read; rw [if_pos (by rw [hd, h2]; decide)]]
    have hfl : Fil.file x = -2 := by unfold Fil.file; rw [if_pos h2]
    rw [hfl] at hE
    clear h h0 hp hd h2
    go_enter Try.func14, Try.ntmps14
    go_wp2_with (go_at_call 28; refine hK.mono ?_; rintro e w2 ⟨rfl, hb⟩; obtain ⟨g, c, i1, i2, i3, d0, ⟨d1, d2, d3⟩, d4, -⟩ := hE _ hb; have i4 : (i : Int) < (l.length : Int) := (by omega); clear hE)
    go_returns
    exact ⟨_, rfl, Own8.nil _ _, RS.bw HFS hb, Fz.of_bw hb⟩
  obtain ⟨h1, hsrc⟩ : x.kind = 1 ∧ x.src < s.srcs.length := by
    rcases h.ok.kd k x hx with e | e | e
    · exact absurd e h0
    · exact e
    · exact absurd e.1 h2
  have hfl : Fil.file x = (x.src : Int) - 1 := by unfold Fil.file; rw [if_neg h2]
  have hf2 : ((Fil.file x == -2) = false) := by rw [hfl]; simp; omega
  have hpos := hp k x hx
  have hdl : (Fil.data s x).length ≤ 4096 := by
    unfold Fil.data
    rw [List.getElem?_eq_getElem hsrc]
    exact (h.ok.ld _ (List.getElem_mem hsrc)).1
  have hS : Fil.read s k n = (Fil.got s x n, ((Fil.got s x n).length : Int), { s with op := s.op.set k { x with pos := x.pos + (Fil.got s x n).length }, a := (Fee.take s.sh s.a (min (max n 0) 4096)).2 }) := by
    unfold Fil.read; rw [hd, if_neg (by rw [h1]; decide), Int.toNat_natCast]
  rw [hS]
  clear hS
  obtain ⟨tr1, tr2⟩ := Fee.take_range h.ok.sh s.a (n := min (max n 0) 4096) (by omega)
  have hgot : Fil.got s x n = ((Fil.data s x).drop x.pos).take (Fee.take s.sh s.a (min (max n 0) 4096)).1.toNat := rfl
  obtain ⟨Gt, hGt⟩ : ∃ Gt, Fil.got s x n = Gt := ⟨_, rfl⟩
  rw [hGt] at hgot ⊢
  generalize hGL : Gt.length = L at *
  have hkey : ∀ T : Int, min (max n 0) 4096 = T → ∃ m : Nat, (Fee.take s.sh s.a T).1 = m ∧ Gt = ((Fil.data s x).drop x.pos).take m ∧ m ≤ 4096 ∧ (∀ X, Bw w X → ∃ ru, X.cell? ⟨rb, 0, none⟩ = some (.pointer (some ⟨ru, 0, none⟩)) ∧ Calls Try.prog 31 #[.pointer (some ⟨ru, 0, none⟩), .int .i64 T] X fun e w' => e = .returned (.int .i64 m) ∧ RS w0 w' rb G B { s with a := (Fee.take s.sh s.a (min (max n 0) 4096)).2 } l ∧ Fz G X w') := fun T hT => by
    rw [hT] at tr1 tr2 hgot ⊢
    obtain ⟨m, hm⟩ : ∃ m : Nat, (Fee.take s.sh s.a T).1 = m := ⟨(Fee.take s.sh s.a T).1.toNat, by omega⟩
    rw [hm, Int.toNat_natCast] at hgot
    refine ⟨m, hm, hgot, by omega, fun X g => ?_⟩
    have := (h.bw g).take T
    rw [hm] at this
    exact this
  clear hgot hGt tr1 tr2
  generalize (Fee.take s.sh s.a (min (max n 0) 4096)).2 = a' at *
  have H0 : Hid _ := h0
  have HX : Hid _ := hx
  have HI : Hid _ := hi
  have HD : Hid (∀ X, RS w0 X rb G B { s with a := a' } l → Calls Try.prog 32 #[.pointer (some ⟨rb, 0, none⟩), .agg #[.int .i64 k, .int .i64 (Fil.file x), .int .i64 x.pos]] X fun e w' => ∃ v, e = .returned v ∧ Rd8 w' v (Fil.data s x) ∧ InB B v ∧ Bw X w') := fun X hX => rData_c hX hsrc h1 k
  have HSE : Hid (s.op.set k { x with pos := x.pos + 0 } = s.op) := set_self hx
  obtain ⟨fl, hfle⟩ : ∃ fl, Fil.file x = fl := ⟨_, rfl⟩
  have HFL : Hid (Fil.file x = fl) := hfle
  rw [hfle] at hE HD hf2
  clear hfle
  have hDl2 : ((Fil.data s x).length : Int) ≤ 4096 := by omega
  generalize Fil.data s x = data at *
  clear h hd hp h2 hfl h0 hx hi hsrc
  by_cases c1 : n < 0
  · have hcase := c1
    obtain ⟨m, hm, hGm, hm4, hTk⟩ := hkey 0 (by omega)
    clear hkey
    have hmi : (m : Int) ≤ 4096 := by omega
    go_enter Try.func14, Try.ntmps14
    go_wp2_with (first | (go_at_call 28; refine hK.mono ?_; rintro e w2 ⟨rfl, hb⟩; obtain ⟨g, c, i1, i2, i3, d0, ⟨d1, d2, d3⟩, d4, hset⟩ := hE _ hb; have i4 : (i : Int) < (l.length : Int) := (by omega); clear hE; obtain ⟨ru, c0, hTake⟩ := hTk _ hb; clear hTk))
    refine hTake.mono ?_
    rintro e w3 ⟨rfl, h3, z3⟩
    have hz := (Fz.of_bw hb).trans z3
    obtain ⟨g3, c3, j1, j2, j3, e0, ⟨e1, e2, e3⟩, e4, -⟩ := h3.ent (show s.op[k]? = some x from HX) (show l[i]? = some k from HI)
    rw [show Fil.file x = fl from HFL] at e2
    have hDt := (show ∀ X, _ → _ from HD) _ h3
    have H3 : Hid _ := h3
    clear hTake h3 d0 d1 d2 d3 d4 hset c0
    go_wp2_with fail
    refine hDt.mono ?_
    rintro e w4 ⟨vd, rfl, hv4, hIB, hb4⟩
    obtain ⟨qv, cv, rfl, hv5, hv6, -⟩ := Rd8.open hv4
    have hR4 := RS.bw H3 hb4
    obtain ⟨g4, c4, p1, p2, p3, f0, ⟨f1, f2, f3⟩, f4, hset4⟩ := hR4.ent (show s.op[k]? = some x from HX) (show l[i]? = some k from HI)
    clear hDt e0 e1 e2 e3 e4 j1 j2 j3
    by_cases hA : data.length ≤ x.pos
    · have hAi : (data.length : Int) ≤ (x.pos : Int) := by omega
      obtain rfl : Gt = [] := by rw [hGm, List.drop_eq_nil_of_le hA, List.take_nil]
      obtain rfl : L = 0 := by rw [← hGL]; rfl
      have HR4 : Hid (RS w0 w4 rb G B { s with op := s.op.set k { x with pos := x.pos + 0 }, a := a' } l) := by
        show RS w0 w4 rb G B { s with op := s.op.set k { x with pos := x.pos + 0 }, a := a' } l
        rw [show s.op.set k { x with pos := x.pos + 0 } = s.op from HSE]; exact hR4
      clear hR4 hset4 hGm
      go_wp2_with fail
      go_returns
      exact ⟨_, rfl, Own8.nil _ _, HR4, hz.bw hb4⟩
    have hAi : ¬ (data.length : Int) ≤ (x.pos : Int) := by omega
    have hpx : x.pos ≤ 4096 := by omega
    obtain ⟨q', hsl, hq'⟩ := slice_from qv data.length cv x.pos (by omega) hv5
    have hbd : Bw w4 w4.drew := (Bw.refl w4).drew
    have hset5 := fun n => (hset4 H0 n)
    have hIs := RS.inB hR4 hIB (RS.gIn hR4 f0)
    have hgr : rb ≠ g4 := RS.ne hR4 f0
    have HFin : Hid (∀ X, Bw (w4.setCell ⟨g4, i * 3 + 2, none⟩ (.int .i64 (x.pos + L : Nat))) X → RS w0 X rb G B { s with op := s.op.set k { x with pos := x.pos + L }, a := a' } l ∧ Fz G w X) := fun X g =>
      ⟨(hset5 (x.pos + L)).1.bw g, ((hz.bw hb4).trans (hset5 (x.pos + L)).2).bw g⟩
    have hsz5 : ∀ n : Nat, w.heap.size ≤ (w4.setCell ⟨g4, i * 3 + 2, none⟩ (.int .i64 (n : Int))).heap.size := fun n => Nat.le_trans (hz.bw hb4).b0.size (by simp [World.setCell])
    have hRd : ∀ n : Nat, Rd8 (w4.setCell ⟨g4, i * 3 + 2, none⟩ (.int .i64 (n : Int))) (.slice qv data.length cv) data := fun n => RdR.q hv4 ((Bq.refl g4 w4).set _ _) hIs
    by_cases hB : m < data.length - x.pos
    · have hBi : (m : Int) < ((data.length - x.pos : Nat) : Int) := by omega
      obtain rfl : L = m := by rw [← hGL, hGm, List.length_take, List.length_drop]; omega
      have hmc : (L : Int) ≤ ((cv - x.pos : Nat) : Int) := by omega
      have hRG : Rd8 (w4.setCell ⟨g4, i * 3 + 2, none⟩ (.int .i64 (x.pos + L : Nat))) (.slice q' L (cv - x.pos)) Gt := by
        rw [hGm]
        have := rd_from' (hRd (x.pos + L)) (by omega) hq'
        rw [← List.length_drop] at this
        exact rd_to this (by rw [List.length_drop]; omega)
      obtain ⟨v9, w9, hr9, ho9, hb9, q9, c9, rfl⟩ := app_new (X := (w4.setCell ⟨g4, i * 3 + 2, none⟩ (.int .i64 (x.pos + L : Nat))).drew) (hRG.bw (Bw.refl _).drew) (by omega)
      have hs9 := hsz5 (x.pos + L)
      rw [hGL] at hr9 ho9
      have HF9 : Hid (Own8 w w9 (.slice q9 L c9) Gt ∧ RS w0 w9 rb G B { s with op := s.op.set k { x with pos := x.pos + L }, a := a' } l ∧ Fz G w w9) := by
        have hb99 : Bw (w4.setCell ⟨g4, i * 3 + 2, none⟩ (.int .i64 (x.pos + L : Nat))) w9 := (Bw.refl _).drew.trans hb9
        obtain ⟨r1, r2⟩ := (show ∀ X, Bw (w4.setCell ⟨g4, i * 3 + 2, none⟩ (.int .i64 (x.pos + L : Nat))) X → _ from HFin) _ hb99
        exact ⟨ho9.le hs9, r1, r2⟩
      clear hset4 hset5 HFin hR4 hRd hRG hGm hIs hIB hsz5 ho9 hb9
      go_wp2_with fail
      have hwr : IntKind.i64.wrap ((x.pos : Int) + (L : Int)) = (x.pos : Int) + (L : Int) := by rw [IntKind.wrap_i64]; omega
      have f0d := (show w4.drew.cell? _ = _ from f0)
      have f3d := (show w4.drew.cell? _ = _ from f3)
      have f4d := (show w4.drew.frozen? _ = _ from f4)
      have f0e : (w4.setCell ⟨g4, i * 3 + 2, none⟩ (.int .i64 ((x.pos : Int) + (L : Int)))).drew.cell? ⟨rb, 1, none⟩ = some (.slice (some ⟨g4, 0, none⟩) l.length c4) := by
        show (w4.setCell ⟨g4, i * 3 + 2, none⟩ (.int .i64 ((x.pos : Int) + (L : Int)))).cell? ⟨rb, 1, none⟩ = _
        rw [World.cell?_setCell_other _ _ _ _ (fun e => hgr (by simpa using (congrArg Addr.block e).symm))]; exact f0
      refine wp_region_held_drew (S := fun X => X.cell? ⟨rb, 1, none⟩ = some (.slice (some ⟨g4, 0, none⟩) l.length c4)) (by kernel_rfl) f0d (fun hHeld => ?_)
      refine wpAnyH_take (i := 0) (oi := ⟨some 73, _, _, _, _, _⟩) (v := ?_) rfl (by kernel_rfl) (by kernel_rfl) (by kernel_rfl) (fun _ _ _ h => h) (Or.inl ⟨by rfl, ?_⟩) (by assumption) ?_; (rotate_left 1); (focus (intro wz hSw; (try dsimp only at hSw); go_simp; try (with_reducible rfl))); simp only [Act.put, List.setIfInBounds_toArray, List.set_cons_zero, List.set_cons_succ]
      refine wpAnyH_take (i := 1) (oi := ⟨some 74, _, _, _, _, _⟩) (v := ?_) rfl (by kernel_rfl) (by kernel_rfl) (by kernel_rfl) (fun _ _ _ h => h) (Or.inl ⟨by rfl, ?_⟩) (by assumption) ?_; (rotate_left 1); (focus (intro wz hSw; (try dsimp only at hSw); go_simp; try (with_reducible rfl))); simp only [Act.put, List.setIfInBounds_toArray, List.set_cons_zero, List.set_cons_succ]
      refine wpAnyH_take (i := 2) (oi := ⟨some 75, _, _, _, _, _⟩) (v := ?_) rfl (by kernel_rfl) (by kernel_rfl) (by kernel_rfl) (fun _ _ _ h => h) (Or.inl ⟨by rfl, ?_⟩) (by assumption) ?_; (rotate_left 1); (focus (intro wz hSw; (try dsimp only at hSw); go_simp; try (with_reducible rfl))); simp only [Act.put, List.setIfInBounds_toArray, List.set_cons_zero, List.set_cons_succ]
      refine wpAnyH_take (i := 3) (oi := ⟨some 76, _, _, _, _, _⟩) (v := ?_) rfl (by kernel_rfl) (by kernel_rfl) (by kernel_rfl) (fun _ _ _ h => h) (Or.inl ⟨by rfl, ?_⟩) (by assumption) ?_; (rotate_left 1); (focus (intro wz hSw; (try dsimp only at hSw); go_simp; try (with_reducible rfl))); simp only [Act.put, List.setIfInBounds_toArray, List.set_cons_zero, List.set_cons_succ]
      refine wpAnyH_take (i := 4) (oi := ⟨some 77, _, _, _, _, _⟩) (v := ?_) rfl (by kernel_rfl) (by kernel_rfl) (by kernel_rfl) (fun _ _ _ h => h) (Or.inl ⟨by rfl, ?_⟩) (by assumption) ?_; (rotate_left 1); (focus (intro wz hSw; (try dsimp only at hSw); go_simp; try (with_reducible rfl))); simp only [Act.put, List.setIfInBounds_toArray, List.set_cons_zero, List.set_cons_succ]
      refine wpAnyH_take (i := 5) (oi := ⟨some 78, _, _, _, _, _⟩) (v := ?_) rfl (by kernel_rfl) (by kernel_rfl) (by kernel_rfl) (fun _ _ _ h => h) (Or.inl ⟨by rfl, ?_⟩) (by assumption) ?_; (rotate_left 1); (focus (intro wz hSw; (try dsimp only at hSw); go_simp; try (with_reducible rfl))); simp only [Act.put, List.setIfInBounds_toArray, List.set_cons_zero, List.set_cons_succ]
      refine wpAnyH_take (i := 6) (oi := ⟨some 79, _, _, _, _, _⟩) (v := ?_) rfl (by kernel_rfl) (by kernel_rfl) (by kernel_rfl) (fun _ _ _ h => h) (Or.inl ⟨by rfl, ?_⟩) (by assumption) ?_; (rotate_left 1); (focus (intro wz hSw; (try dsimp only at hSw); go_simp; try (with_reducible rfl))); simp only [Act.put, List.setIfInBounds_toArray, List.set_cons_zero, List.set_cons_succ]
      refine wpAnyH_take (i := 7) (oi := ⟨some 80, _, _, _, _, _⟩) (v := ?_) rfl (by kernel_rfl) (by kernel_rfl) (by kernel_rfl) (fun _ _ _ h => h) (Or.inl ⟨by rfl, ?_⟩) (by assumption) ?_; (rotate_left 1); (focus (intro wz hSw; (try dsimp only at hSw); go_simp; try (with_reducible rfl))); simp only [Act.put, List.setIfInBounds_toArray, List.set_cons_zero, List.set_cons_succ]
      refine wpAnyH_take (i := 8) (oi := ⟨some 81, _, _, _, _, _⟩) (v := ?_) rfl (by kernel_rfl) (by kernel_rfl) (by kernel_rfl) (fun _ _ _ h => h) (Or.inl ⟨by rfl, ?_⟩) (by assumption) ?_; (rotate_left 1); (focus (intro wz hSw; (try dsimp only at hSw); go_simp; try (with_reducible rfl))); simp only [Act.put, List.setIfInBounds_toArray, List.set_cons_zero, List.set_cons_succ]
      refine wpAnyH_take (i := 9) (oi := ⟨some 82, _, _, _, _, _⟩) (v := ?_) rfl (by kernel_rfl) (by kernel_rfl) (by kernel_rfl) (fun _ _ _ h => h) (Or.inl ⟨by rfl, ?_⟩) (by assumption) ?_; (rotate_left 1); (focus (intro wz hSw; (try dsimp only at hSw); go_simp; try (with_reducible rfl))); simp only [Act.put, List.setIfInBounds_toArray, List.set_cons_zero, List.set_cons_succ]
      refine wpAnyH_take (i := 10) (oi := ⟨some 83, _, _, _, _, _⟩) (v := ?_) rfl (by kernel_rfl) (by kernel_rfl) (by kernel_rfl) (fun _ _ _ h => h) (Or.inl ⟨by rfl, ?_⟩) (by assumption) ?_; (rotate_left 1); (focus (intro wz hSw; (try dsimp only at hSw); go_simp; try (with_reducible rfl))); simp only [Act.put, List.setIfInBounds_toArray, List.set_cons_zero, List.set_cons_succ]
      refine wpAnyH_take (i := 11) (oi := ⟨some 84, _, _, _, _, _⟩) (v := ?_) rfl (by kernel_rfl) (by kernel_rfl) (by kernel_rfl) (fun _ _ _ h => h) (Or.inl ⟨by rfl, ?_⟩) (by assumption) ?_; (rotate_left 1); (focus (intro wz hSw; (try dsimp only at hSw); go_simp; try (with_reducible rfl))); simp only [Act.put, List.setIfInBounds_toArray, List.set_cons_zero, List.set_cons_succ]
      refine wpAnyH_take (i := 13) (oi := ⟨some 86, _, _, _, _, _⟩) (v := ?_) rfl (by kernel_rfl) (by kernel_rfl) (by kernel_rfl) (fun _ _ _ h => h) (Or.inl ⟨by rfl, ?_⟩) (by assumption) ?_; (rotate_left 1); (focus (intro wz hSw; (try dsimp only at hSw); go_simp; try (with_reducible rfl))); simp only [Act.put, List.setIfInBounds_toArray, List.set_cons_zero, List.set_cons_succ]
      refine wpAnyH_take (i := 14) (oi := ⟨some 87, _, _, _, _, _⟩) (v := ?_) rfl (by kernel_rfl) (by kernel_rfl) (by kernel_rfl) (fun _ _ _ h => h) (Or.inl ⟨by rfl, ?_⟩) (by assumption) ?_; (rotate_left 1); (focus (intro wz hSw; (try dsimp only at hSw); go_simp; try (with_reducible rfl))); simp only [Act.put, List.setIfInBounds_toArray, List.set_cons_zero, List.set_cons_succ]
      refine wpAnyH_ready (rs := [12]) (by kernel_rfl) (by simp) ?_; refine AllReadyH.cons rfl (fun K hK => ?_) AllReadyH.nil; go_simp; (try clear hHeld); refine hK.out _ _ f0d (fun hHeld => ?_)
      refine wpAnyH_take (i := 15) (oi := ⟨some 88, _, _, _, _, _⟩) (v := ?_) rfl (by kernel_rfl) (by kernel_rfl) (by kernel_rfl) (fun _ _ _ h => h) (Or.inl ⟨by rfl, ?_⟩) (by assumption) ?_; (rotate_left 1); (focus (intro wz hSw; (try dsimp only at hSw); go_simp; try (with_reducible rfl))); simp only [Act.put, List.setIfInBounds_toArray, List.set_cons_zero, List.set_cons_succ]
      refine wpAnyH_take (i := 16) (oi := ⟨some 89, _, _, _, _, _⟩) (v := ?_) rfl (by kernel_rfl) (by kernel_rfl) (by kernel_rfl) (fun _ _ _ h => h) (Or.inl ⟨by rfl, ?_⟩) (by assumption) ?_; (rotate_left 1); (focus (intro wz hSw; (try dsimp only at hSw); go_simp; try (with_reducible rfl))); simp only [Act.put, List.setIfInBounds_toArray, List.set_cons_zero, List.set_cons_succ]
      refine wpAnyH_take (i := 17) (oi := ⟨some 90, _, _, _, _, _⟩) (v := ?_) rfl (by kernel_rfl) (by kernel_rfl) (by kernel_rfl) (fun _ _ _ h => h) (Or.inl ⟨by rfl, ?_⟩) (by assumption) ?_; (rotate_left 1); (focus (intro wz hSw; (try dsimp only at hSw); go_simp; try (with_reducible rfl))); simp only [Act.put, List.setIfInBounds_toArray, List.set_cons_zero, List.set_cons_succ]
      refine wpAnyH_ready (rs := [18]) (by kernel_rfl) (by simp) ?_; refine AllReadyH.cons rfl (fun K hK => ?_) AllReadyH.nil; go_simp; (try clear hHeld); refine hK.out _ _ f0e (fun hHeld => ?_)
      refine wpAnyH_done (by kernel_rfl) ?_ _
      rw [show ((x.pos + L : Nat) : Int) = (x.pos : Int) + ((L : Nat) : Int) from Int.natCast_add _ _] at hr9
      generalize (w4.setCell ⟨g4, i * 3 + 2, none⟩ (.int .i64 ((x.pos : Int) + ((L : Nat) : Int)))).drew = wX at hr9 ⊢
      clear hwr f0d f3d f4d f0e hbd
      go_wp2_with (first | (at_builtin; refine wpApp rfl _ _ 23 rfl rfl rfl hr9 ?_) | go_in)
      go_returns
      exact ⟨_, rfl, HF9⟩
    · have hBi : ¬ (m : Int) < ((data.length - x.pos : Nat) : Int) := by omega
      obtain rfl : L = data.length - x.pos := by rw [← hGL, hGm, List.length_take, List.length_drop]; omega
      have hRG : Rd8 (w4.setCell ⟨g4, i * 3 + 2, none⟩ (.int .i64 (x.pos + (data.length - x.pos) : Nat))) (.slice q' (data.length - x.pos) (cv - x.pos)) Gt := by
        rw [hGm, List.take_of_length_le (by rw [List.length_drop]; omega)]
        exact rd_from' (hRd (x.pos + (data.length - x.pos))) (by omega) hq'
      obtain ⟨v9, w9, hr9, ho9, hb9, q9, c9, rfl⟩ := app_new (X := (w4.setCell ⟨g4, i * 3 + 2, none⟩ (.int .i64 (x.pos + (data.length - x.pos) : Nat))).drew) (hRG.bw (Bw.refl _).drew) (by omega)
      have hs9 := hsz5 (x.pos + (data.length - x.pos))
      rw [hGL] at hr9 ho9
      have HF9 : Hid (Own8 w w9 (.slice q9 (data.length - x.pos) c9) Gt ∧ RS w0 w9 rb G B { s with op := s.op.set k { x with pos := x.pos + (data.length - x.pos) }, a := a' } l ∧ Fz G w w9) := by
        have hb99 : Bw (w4.setCell ⟨g4, i * 3 + 2, none⟩ (.int .i64 (x.pos + (data.length - x.pos) : Nat))) w9 := (Bw.refl _).drew.trans hb9
        obtain ⟨r1, r2⟩ := (show ∀ X, Bw (w4.setCell ⟨g4, i * 3 + 2, none⟩ (.int .i64 (x.pos + (data.length - x.pos) : Nat))) X → _ from HFin) _ hb99
        exact ⟨ho9.le hs9, r1, r2⟩
      clear hset4 hset5 HFin hR4 hRd hRG hGm hIs hIB hsz5 ho9 hb9
      go_wp2_with fail
      have hwr : IntKind.i64.wrap ((x.pos : Int) + ((data.length - x.pos : Nat) : Int)) = (x.pos : Int) + ((data.length - x.pos : Nat) : Int) := by rw [IntKind.wrap_i64]; omega
      have f0d := (show w4.drew.cell? _ = _ from f0)
      have f3d := (show w4.drew.cell? _ = _ from f3)
      have f4d := (show w4.drew.frozen? _ = _ from f4)
      have f0e : (w4.setCell ⟨g4, i * 3 + 2, none⟩ (.int .i64 ((x.pos : Int) + (((data.length - x.pos : Nat) : Int) : Int)))).drew.cell? ⟨rb, 1, none⟩ = some (.slice (some ⟨g4, 0, none⟩) l.length c4) := by
        show (w4.setCell ⟨g4, i * 3 + 2, none⟩ (.int .i64 ((x.pos : Int) + (((data.length - x.pos : Nat) : Int) : Int)))).cell? ⟨rb, 1, none⟩ = _
        rw [World.cell?_setCell_other _ _ _ _ (fun e => hgr (by simpa using (congrArg Addr.block e).symm))]; exact f0
      refine wp_region_held_drew (S := fun X => X.cell? ⟨rb, 1, none⟩ = some (.slice (some ⟨g4, 0, none⟩) l.length c4)) (by kernel_rfl) f0d (fun hHeld => ?_)
      refine wpAnyH_take (i := 0) (oi := ⟨some 73, _, _, _, _, _⟩) (v := ?_) rfl (by kernel_rfl) (by kernel_rfl) (by kernel_rfl) (fun _ _ _ h => h) (Or.inl ⟨by rfl, ?_⟩) (by assumption) ?_; (rotate_left 1); (focus (intro wz hSw; (try dsimp only at hSw); go_simp; try (with_reducible rfl))); simp only [Act.put, List.setIfInBounds_toArray, List.set_cons_zero, List.set_cons_succ]
      refine wpAnyH_take (i := 1) (oi := ⟨some 74, _, _, _, _, _⟩) (v := ?_) rfl (by kernel_rfl) (by kernel_rfl) (by kernel_rfl) (fun _ _ _ h => h) (Or.inl ⟨by rfl, ?_⟩) (by assumption) ?_; (rotate_left 1); (focus (intro wz hSw; (try dsimp only at hSw); go_simp; try (with_reducible rfl))); simp only [Act.put, List.setIfInBounds_toArray, List.set_cons_zero, List.set_cons_succ]
      refine wpAnyH_take (i := 2) (oi := ⟨some 75, _, _, _, _, _⟩) (v := ?_) rfl (by kernel_rfl) (by kernel_rfl) (by kernel_rfl) (fun _ _ _ h => h) (Or.inl ⟨by rfl, ?_⟩) (by assumption) ?_; (rotate_left 1); (focus (intro wz hSw; (try dsimp only at hSw); go_simp; try (with_reducible rfl))); simp only [Act.put, List.setIfInBounds_toArray, List.set_cons_zero, List.set_cons_succ]
      refine wpAnyH_take (i := 3) (oi := ⟨some 76, _, _, _, _, _⟩) (v := ?_) rfl (by kernel_rfl) (by kernel_rfl) (by kernel_rfl) (fun _ _ _ h => h) (Or.inl ⟨by rfl, ?_⟩) (by assumption) ?_; (rotate_left 1); (focus (intro wz hSw; (try dsimp only at hSw); go_simp; try (with_reducible rfl))); simp only [Act.put, List.setIfInBounds_toArray, List.set_cons_zero, List.set_cons_succ]
      refine wpAnyH_take (i := 4) (oi := ⟨some 77, _, _, _, _, _⟩) (v := ?_) rfl (by kernel_rfl) (by kernel_rfl) (by kernel_rfl) (fun _ _ _ h => h) (Or.inl ⟨by rfl, ?_⟩) (by assumption) ?_; (rotate_left 1); (focus (intro wz hSw; (try dsimp only at hSw); go_simp; try (with_reducible rfl))); simp only [Act.put, List.setIfInBounds_toArray, List.set_cons_zero, List.set_cons_succ]
      refine wpAnyH_take (i := 5) (oi := ⟨some 78, _, _, _, _, _⟩) (v := ?_) rfl (by kernel_rfl) (by kernel_rfl) (by kernel_rfl) (fun _ _ _ h => h) (Or.inl ⟨by rfl, ?_⟩) (by assumption) ?_; (rotate_left 1); (focus (intro wz hSw; (try dsimp only at hSw); go_simp; try (with_reducible rfl))); simp only [Act.put, List.setIfInBounds_toArray, List.set_cons_zero, List.set_cons_succ]
      refine wpAnyH_take (i := 6) (oi := ⟨some 79, _, _, _, _, _⟩) (v := ?_) rfl (by kernel_rfl) (by kernel_rfl) (by kernel_rfl) (fun _ _ _ h => h) (Or.inl ⟨by rfl, ?_⟩) (by assumption) ?_; (rotate_left 1); (focus (intro wz hSw; (try dsimp only at hSw); go_simp; try (with_reducible rfl))); simp only [Act.put, List.setIfInBounds_toArray, List.set_cons_zero, List.set_cons_succ]
      refine wpAnyH_take (i := 7) (oi := ⟨some 80, _, _, _, _, _⟩) (v := ?_) rfl (by kernel_rfl) (by kernel_rfl) (by kernel_rfl) (fun _ _ _ h => h) (Or.inl ⟨by rfl, ?_⟩) (by assumption) ?_; (rotate_left 1); (focus (intro wz hSw; (try dsimp only at hSw); go_simp; try (with_reducible rfl))); simp only [Act.put, List.setIfInBounds_toArray, List.set_cons_zero, List.set_cons_succ]
      refine wpAnyH_take (i := 8) (oi := ⟨some 81, _, _, _, _, _⟩) (v := ?_) rfl (by kernel_rfl) (by kernel_rfl) (by kernel_rfl) (fun _ _ _ h => h) (Or.inl ⟨by rfl, ?_⟩) (by assumption) ?_; (rotate_left 1); (focus (intro wz hSw; (try dsimp only at hSw); go_simp; try (with_reducible rfl))); simp only [Act.put, List.setIfInBounds_toArray, List.set_cons_zero, List.set_cons_succ]
      refine wpAnyH_take (i := 9) (oi := ⟨some 82, _, _, _, _, _⟩) (v := ?_) rfl (by kernel_rfl) (by kernel_rfl) (by kernel_rfl) (fun _ _ _ h => h) (Or.inl ⟨by rfl, ?_⟩) (by assumption) ?_; (rotate_left 1); (focus (intro wz hSw; (try dsimp only at hSw); go_simp; try (with_reducible rfl))); simp only [Act.put, List.setIfInBounds_toArray, List.set_cons_zero, List.set_cons_succ]
      refine wpAnyH_take (i := 10) (oi := ⟨some 83, _, _, _, _, _⟩) (v := ?_) rfl (by kernel_rfl) (by kernel_rfl) (by kernel_rfl) (fun _ _ _ h => h) (Or.inl ⟨by rfl, ?_⟩) (by assumption) ?_; (rotate_left 1); (focus (intro wz hSw; (try dsimp only at hSw); go_simp; try (with_reducible rfl))); simp only [Act.put, List.setIfInBounds_toArray, List.set_cons_zero, List.set_cons_succ]
      refine wpAnyH_take (i := 11) (oi := ⟨some 84, _, _, _, _, _⟩) (v := ?_) rfl (by kernel_rfl) (by kernel_rfl) (by kernel_rfl) (fun _ _ _ h => h) (Or.inl ⟨by rfl, ?_⟩) (by assumption) ?_; (rotate_left 1); (focus (intro wz hSw; (try dsimp only at hSw); go_simp; try (with_reducible rfl))); simp only [Act.put, List.setIfInBounds_toArray, List.set_cons_zero, List.set_cons_succ]
      refine wpAnyH_take (i := 13) (oi := ⟨some 86, _, _, _, _, _⟩) (v := ?_) rfl (by kernel_rfl) (by kernel_rfl) (by kernel_rfl) (fun _ _ _ h => h) (Or.inl ⟨by rfl, ?_⟩) (by assumption) ?_; (rotate_left 1); (focus (intro wz hSw; (try dsimp only at hSw); go_simp; try (with_reducible rfl))); simp only [Act.put, List.setIfInBounds_toArray, List.set_cons_zero, List.set_cons_succ]
      refine wpAnyH_take (i := 14) (oi := ⟨some 87, _, _, _, _, _⟩) (v := ?_) rfl (by kernel_rfl) (by kernel_rfl) (by kernel_rfl) (fun _ _ _ h => h) (Or.inl ⟨by rfl, ?_⟩) (by assumption) ?_; (rotate_left 1); (focus (intro wz hSw; (try dsimp only at hSw); go_simp; try (with_reducible rfl))); simp only [Act.put, List.setIfInBounds_toArray, List.set_cons_zero, List.set_cons_succ]
      refine wpAnyH_ready (rs := [12]) (by kernel_rfl) (by simp) ?_; refine AllReadyH.cons rfl (fun K hK => ?_) AllReadyH.nil; go_simp; (try clear hHeld); refine hK.out _ _ f0d (fun hHeld => ?_)
      refine wpAnyH_take (i := 15) (oi := ⟨some 88, _, _, _, _, _⟩) (v := ?_) rfl (by kernel_rfl) (by kernel_rfl) (by kernel_rfl) (fun _ _ _ h => h) (Or.inl ⟨by rfl, ?_⟩) (by assumption) ?_; (rotate_left 1); (focus (intro wz hSw; (try dsimp only at hSw); go_simp; try (with_reducible rfl))); simp only [Act.put, List.setIfInBounds_toArray, List.set_cons_zero, List.set_cons_succ]
      refine wpAnyH_take (i := 16) (oi := ⟨some 89, _, _, _, _, _⟩) (v := ?_) rfl (by kernel_rfl) (by kernel_rfl) (by kernel_rfl) (fun _ _ _ h => h) (Or.inl ⟨by rfl, ?_⟩) (by assumption) ?_; (rotate_left 1); (focus (intro wz hSw; (try dsimp only at hSw); go_simp; try (with_reducible rfl))); simp only [Act.put, List.setIfInBounds_toArray, List.set_cons_zero, List.set_cons_succ]
      refine wpAnyH_take (i := 17) (oi := ⟨some 90, _, _, _, _, _⟩) (v := ?_) rfl (by kernel_rfl) (by kernel_rfl) (by kernel_rfl) (fun _ _ _ h => h) (Or.inl ⟨by rfl, ?_⟩) (by assumption) ?_; (rotate_left 1); (focus (intro wz hSw; (try dsimp only at hSw); go_simp; try (with_reducible rfl))); simp only [Act.put, List.setIfInBounds_toArray, List.set_cons_zero, List.set_cons_succ]
      refine wpAnyH_ready (rs := [18]) (by kernel_rfl) (by simp) ?_; refine AllReadyH.cons rfl (fun K hK => ?_) AllReadyH.nil; go_simp; (try clear hHeld); refine hK.out _ _ f0e (fun hHeld => ?_)
      refine wpAnyH_done (by kernel_rfl) ?_ _
      rw [show ((x.pos + (data.length - x.pos) : Nat) : Int) = (x.pos : Int) + (((data.length - x.pos) : Nat) : Int) from Int.natCast_add _ _] at hr9
      generalize (w4.setCell ⟨g4, i * 3 + 2, none⟩ (.int .i64 ((x.pos : Int) + (((data.length - x.pos) : Nat) : Int)))).drew = wX at hr9 ⊢
      clear hwr f0d f3d f4d f0e hbd
      go_wp2_with (first | (at_builtin; refine wpApp rfl _ _ 23 rfl rfl rfl hr9 ?_) | go_in)
      go_returns
      exact ⟨_, rfl, HF9⟩
  by_cases c2 : 4096 < n
  · have hcase := c2
    obtain ⟨m, hm, hGm, hm4, hTk⟩ := hkey 4096 (by omega)
    clear hkey
    have hmi : (m : Int) ≤ 4096 := by omega
    go_enter Try.func14, Try.ntmps14
    go_wp2_with (first | (go_at_call 28; refine hK.mono ?_; rintro e w2 ⟨rfl, hb⟩; obtain ⟨g, c, i1, i2, i3, d0, ⟨d1, d2, d3⟩, d4, hset⟩ := hE _ hb; have i4 : (i : Int) < (l.length : Int) := (by omega); clear hE; obtain ⟨ru, c0, hTake⟩ := hTk _ hb; clear hTk))
    refine hTake.mono ?_
    rintro e w3 ⟨rfl, h3, z3⟩
    have hz := (Fz.of_bw hb).trans z3
    obtain ⟨g3, c3, j1, j2, j3, e0, ⟨e1, e2, e3⟩, e4, -⟩ := h3.ent (show s.op[k]? = some x from HX) (show l[i]? = some k from HI)
    rw [show Fil.file x = fl from HFL] at e2
    have hDt := (show ∀ X, _ → _ from HD) _ h3
    have H3 : Hid _ := h3
    clear hTake h3 d0 d1 d2 d3 d4 hset c0
    go_wp2_with fail
    refine hDt.mono ?_
    rintro e w4 ⟨vd, rfl, hv4, hIB, hb4⟩
    obtain ⟨qv, cv, rfl, hv5, hv6, -⟩ := Rd8.open hv4
    have hR4 := RS.bw H3 hb4
    obtain ⟨g4, c4, p1, p2, p3, f0, ⟨f1, f2, f3⟩, f4, hset4⟩ := hR4.ent (show s.op[k]? = some x from HX) (show l[i]? = some k from HI)
    clear hDt e0 e1 e2 e3 e4 j1 j2 j3
    by_cases hA : data.length ≤ x.pos
    · have hAi : (data.length : Int) ≤ (x.pos : Int) := by omega
      obtain rfl : Gt = [] := by rw [hGm, List.drop_eq_nil_of_le hA, List.take_nil]
      obtain rfl : L = 0 := by rw [← hGL]; rfl
      have HR4 : Hid (RS w0 w4 rb G B { s with op := s.op.set k { x with pos := x.pos + 0 }, a := a' } l) := by
        show RS w0 w4 rb G B { s with op := s.op.set k { x with pos := x.pos + 0 }, a := a' } l
        rw [show s.op.set k { x with pos := x.pos + 0 } = s.op from HSE]; exact hR4
      clear hR4 hset4 hGm
      go_wp2_with fail
      go_returns
      exact ⟨_, rfl, Own8.nil _ _, HR4, hz.bw hb4⟩
    have hAi : ¬ (data.length : Int) ≤ (x.pos : Int) := by omega
    have hpx : x.pos ≤ 4096 := by omega
    obtain ⟨q', hsl, hq'⟩ := slice_from qv data.length cv x.pos (by omega) hv5
    have hbd : Bw w4 w4.drew := (Bw.refl w4).drew
    have hset5 := fun n => (hset4 H0 n)
    have hIs := RS.inB hR4 hIB (RS.gIn hR4 f0)
    have hgr : rb ≠ g4 := RS.ne hR4 f0
    have HFin : Hid (∀ X, Bw (w4.setCell ⟨g4, i * 3 + 2, none⟩ (.int .i64 (x.pos + L : Nat))) X → RS w0 X rb G B { s with op := s.op.set k { x with pos := x.pos + L }, a := a' } l ∧ Fz G w X) := fun X g =>
      ⟨(hset5 (x.pos + L)).1.bw g, ((hz.bw hb4).trans (hset5 (x.pos + L)).2).bw g⟩
    have hsz5 : ∀ n : Nat, w.heap.size ≤ (w4.setCell ⟨g4, i * 3 + 2, none⟩ (.int .i64 (n : Int))).heap.size := fun n => Nat.le_trans (hz.bw hb4).b0.size (by simp [World.setCell])
    have hRd : ∀ n : Nat, Rd8 (w4.setCell ⟨g4, i * 3 + 2, none⟩ (.int .i64 (n : Int))) (.slice qv data.length cv) data := fun n => RdR.q hv4 ((Bq.refl g4 w4).set _ _) hIs
    by_cases hB : m < data.length - x.pos
    · have hBi : (m : Int) < ((data.length - x.pos : Nat) : Int) := by omega
      obtain rfl : L = m := by rw [← hGL, hGm, List.length_take, List.length_drop]; omega
      have hmc : (L : Int) ≤ ((cv - x.pos : Nat) : Int) := by omega
      have hRG : Rd8 (w4.setCell ⟨g4, i * 3 + 2, none⟩ (.int .i64 (x.pos + L : Nat))) (.slice q' L (cv - x.pos)) Gt := by
        rw [hGm]
        have := rd_from' (hRd (x.pos + L)) (by omega) hq'
        rw [← List.length_drop] at this
        exact rd_to this (by rw [List.length_drop]; omega)
      obtain ⟨v9, w9, hr9, ho9, hb9, q9, c9, rfl⟩ := app_new (X := (w4.setCell ⟨g4, i * 3 + 2, none⟩ (.int .i64 (x.pos + L : Nat))).drew) (hRG.bw (Bw.refl _).drew) (by omega)
      have hs9 := hsz5 (x.pos + L)
      rw [hGL] at hr9 ho9
      have HF9 : Hid (Own8 w w9 (.slice q9 L c9) Gt ∧ RS w0 w9 rb G B { s with op := s.op.set k { x with pos := x.pos + L }, a := a' } l ∧ Fz G w w9) := by
        have hb99 : Bw (w4.setCell ⟨g4, i * 3 + 2, none⟩ (.int .i64 (x.pos + L : Nat))) w9 := (Bw.refl _).drew.trans hb9
        obtain ⟨r1, r2⟩ := (show ∀ X, Bw (w4.setCell ⟨g4, i * 3 + 2, none⟩ (.int .i64 (x.pos + L : Nat))) X → _ from HFin) _ hb99
        exact ⟨ho9.le hs9, r1, r2⟩
      clear hset4 hset5 HFin hR4 hRd hRG hGm hIs hIB hsz5 ho9 hb9
      go_wp2_with fail
      have hwr : IntKind.i64.wrap ((x.pos : Int) + (L : Int)) = (x.pos : Int) + (L : Int) := by rw [IntKind.wrap_i64]; omega
      have f0d := (show w4.drew.cell? _ = _ from f0)
      have f3d := (show w4.drew.cell? _ = _ from f3)
      have f4d := (show w4.drew.frozen? _ = _ from f4)
      have f0e : (w4.setCell ⟨g4, i * 3 + 2, none⟩ (.int .i64 ((x.pos : Int) + (L : Int)))).drew.cell? ⟨rb, 1, none⟩ = some (.slice (some ⟨g4, 0, none⟩) l.length c4) := by
        show (w4.setCell ⟨g4, i * 3 + 2, none⟩ (.int .i64 ((x.pos : Int) + (L : Int)))).cell? ⟨rb, 1, none⟩ = _
        rw [World.cell?_setCell_other _ _ _ _ (fun e => hgr (by simpa using (congrArg Addr.block e).symm))]; exact f0
      refine wp_region_held_drew (S := fun X => X.cell? ⟨rb, 1, none⟩ = some (.slice (some ⟨g4, 0, none⟩) l.length c4)) (by kernel_rfl) f0d (fun hHeld => ?_)
      refine wpAnyH_take (i := 0) (oi := ⟨some 73, _, _, _, _, _⟩) (v := ?_) rfl (by kernel_rfl) (by kernel_rfl) (by kernel_rfl) (fun _ _ _ h => h) (Or.inl ⟨by rfl, ?_⟩) (by assumption) ?_; (rotate_left 1); (focus (intro wz hSw; (try dsimp only at hSw); go_simp; try (with_reducible rfl))); simp only [Act.put, List.setIfInBounds_toArray, List.set_cons_zero, List.set_cons_succ]
      refine wpAnyH_take (i := 1) (oi := ⟨some 74, _, _, _, _, _⟩) (v := ?_) rfl (by kernel_rfl) (by kernel_rfl) (by kernel_rfl) (fun _ _ _ h => h) (Or.inl ⟨by rfl, ?_⟩) (by assumption) ?_; (rotate_left 1); (focus (intro wz hSw; (try dsimp only at hSw); go_simp; try (with_reducible rfl))); simp only [Act.put, List.setIfInBounds_toArray, List.set_cons_zero, List.set_cons_succ]
      refine wpAnyH_take (i := 2) (oi := ⟨some 75, _, _, _, _, _⟩) (v := ?_) rfl (by kernel_rfl) (by kernel_rfl) (by kernel_rfl) (fun _ _ _ h => h) (Or.inl ⟨by rfl, ?_⟩) (by assumption) ?_; (rotate_left 1); (focus (intro wz hSw; (try dsimp only at hSw); go_simp; try (with_reducible rfl))); simp only [Act.put, List.setIfInBounds_toArray, List.set_cons_zero, List.set_cons_succ]
      refine wpAnyH_take (i := 3) (oi := ⟨some 76, _, _, _, _, _⟩) (v := ?_) rfl (by kernel_rfl) (by kernel_rfl) (by kernel_rfl) (fun _ _ _ h => h) (Or.inl ⟨by rfl, ?_⟩) (by assumption) ?_; (rotate_left 1); (focus (intro wz hSw; (try dsimp only at hSw); go_simp; try (with_reducible rfl))); simp only [Act.put, List.setIfInBounds_toArray, List.set_cons_zero, List.set_cons_succ]
      refine wpAnyH_take (i := 4) (oi := ⟨some 77, _, _, _, _, _⟩) (v := ?_) rfl (by kernel_rfl) (by kernel_rfl) (by kernel_rfl) (fun _ _ _ h => h) (Or.inl ⟨by rfl, ?_⟩) (by assumption) ?_; (rotate_left 1); (focus (intro wz hSw; (try dsimp only at hSw); go_simp; try (with_reducible rfl))); simp only [Act.put, List.setIfInBounds_toArray, List.set_cons_zero, List.set_cons_succ]
      refine wpAnyH_take (i := 5) (oi := ⟨some 78, _, _, _, _, _⟩) (v := ?_) rfl (by kernel_rfl) (by kernel_rfl) (by kernel_rfl) (fun _ _ _ h => h) (Or.inl ⟨by rfl, ?_⟩) (by assumption) ?_; (rotate_left 1); (focus (intro wz hSw; (try dsimp only at hSw); go_simp; try (with_reducible rfl))); simp only [Act.put, List.setIfInBounds_toArray, List.set_cons_zero, List.set_cons_succ]
      refine wpAnyH_take (i := 6) (oi := ⟨some 79, _, _, _, _, _⟩) (v := ?_) rfl (by kernel_rfl) (by kernel_rfl) (by kernel_rfl) (fun _ _ _ h => h) (Or.inl ⟨by rfl, ?_⟩) (by assumption) ?_; (rotate_left 1); (focus (intro wz hSw; (try dsimp only at hSw); go_simp; try (with_reducible rfl))); simp only [Act.put, List.setIfInBounds_toArray, List.set_cons_zero, List.set_cons_succ]
      refine wpAnyH_take (i := 7) (oi := ⟨some 80, _, _, _, _, _⟩) (v := ?_) rfl (by kernel_rfl) (by kernel_rfl) (by kernel_rfl) (fun _ _ _ h => h) (Or.inl ⟨by rfl, ?_⟩) (by assumption) ?_; (rotate_left 1); (focus (intro wz hSw; (try dsimp only at hSw); go_simp; try (with_reducible rfl))); simp only [Act.put, List.setIfInBounds_toArray, List.set_cons_zero, List.set_cons_succ]
      refine wpAnyH_take (i := 8) (oi := ⟨some 81, _, _, _, _, _⟩) (v := ?_) rfl (by kernel_rfl) (by kernel_rfl) (by kernel_rfl) (fun _ _ _ h => h) (Or.inl ⟨by rfl, ?_⟩) (by assumption) ?_; (rotate_left 1); (focus (intro wz hSw; (try dsimp only at hSw); go_simp; try (with_reducible rfl))); simp only [Act.put, List.setIfInBounds_toArray, List.set_cons_zero, List.set_cons_succ]
      refine wpAnyH_take (i := 9) (oi := ⟨some 82, _, _, _, _, _⟩) (v := ?_) rfl (by kernel_rfl) (by kernel_rfl) (by kernel_rfl) (fun _ _ _ h => h) (Or.inl ⟨by rfl, ?_⟩) (by assumption) ?_; (rotate_left 1); (focus (intro wz hSw; (try dsimp only at hSw); go_simp; try (with_reducible rfl))); simp only [Act.put, List.setIfInBounds_toArray, List.set_cons_zero, List.set_cons_succ]
      refine wpAnyH_take (i := 10) (oi := ⟨some 83, _, _, _, _, _⟩) (v := ?_) rfl (by kernel_rfl) (by kernel_rfl) (by kernel_rfl) (fun _ _ _ h => h) (Or.inl ⟨by rfl, ?_⟩) (by assumption) ?_; (rotate_left 1); (focus (intro wz hSw; (try dsimp only at hSw); go_simp; try (with_reducible rfl))); simp only [Act.put, List.setIfInBounds_toArray, List.set_cons_zero, List.set_cons_succ]
      refine wpAnyH_take (i := 11) (oi := ⟨some 84, _, _, _, _, _⟩) (v := ?_) rfl (by kernel_rfl) (by kernel_rfl) (by kernel_rfl) (fun _ _ _ h => h) (Or.inl ⟨by rfl, ?_⟩) (by assumption) ?_; (rotate_left 1); (focus (intro wz hSw; (try dsimp only at hSw); go_simp; try (with_reducible rfl))); simp only [Act.put, List.setIfInBounds_toArray, List.set_cons_zero, List.set_cons_succ]
      refine wpAnyH_take (i := 13) (oi := ⟨some 86, _, _, _, _, _⟩) (v := ?_) rfl (by kernel_rfl) (by kernel_rfl) (by kernel_rfl) (fun _ _ _ h => h) (Or.inl ⟨by rfl, ?_⟩) (by assumption) ?_; (rotate_left 1); (focus (intro wz hSw; (try dsimp only at hSw); go_simp; try (with_reducible rfl))); simp only [Act.put, List.setIfInBounds_toArray, List.set_cons_zero, List.set_cons_succ]
      refine wpAnyH_take (i := 14) (oi := ⟨some 87, _, _, _, _, _⟩) (v := ?_) rfl (by kernel_rfl) (by kernel_rfl) (by kernel_rfl) (fun _ _ _ h => h) (Or.inl ⟨by rfl, ?_⟩) (by assumption) ?_; (rotate_left 1); (focus (intro wz hSw; (try dsimp only at hSw); go_simp; try (with_reducible rfl))); simp only [Act.put, List.setIfInBounds_toArray, List.set_cons_zero, List.set_cons_succ]
      refine wpAnyH_ready (rs := [12]) (by kernel_rfl) (by simp) ?_; refine AllReadyH.cons rfl (fun K hK => ?_) AllReadyH.nil; go_simp; (try clear hHeld); refine hK.out _ _ f0d (fun hHeld => ?_)
      refine wpAnyH_take (i := 15) (oi := ⟨some 88, _, _, _, _, _⟩) (v := ?_) rfl (by kernel_rfl) (by kernel_rfl) (by kernel_rfl) (fun _ _ _ h => h) (Or.inl ⟨by rfl, ?_⟩) (by assumption) ?_; (rotate_left 1); (focus (intro wz hSw; (try dsimp only at hSw); go_simp; try (with_reducible rfl))); simp only [Act.put, List.setIfInBounds_toArray, List.set_cons_zero, List.set_cons_succ]
      refine wpAnyH_take (i := 16) (oi := ⟨some 89, _, _, _, _, _⟩) (v := ?_) rfl (by kernel_rfl) (by kernel_rfl) (by kernel_rfl) (fun _ _ _ h => h) (Or.inl ⟨by rfl, ?_⟩) (by assumption) ?_; (rotate_left 1); (focus (intro wz hSw; (try dsimp only at hSw); go_simp; try (with_reducible rfl))); simp only [Act.put, List.setIfInBounds_toArray, List.set_cons_zero, List.set_cons_succ]
      refine wpAnyH_take (i := 17) (oi := ⟨some 90, _, _, _, _, _⟩) (v := ?_) rfl (by kernel_rfl) (by kernel_rfl) (by kernel_rfl) (fun _ _ _ h => h) (Or.inl ⟨by rfl, ?_⟩) (by assumption) ?_; (rotate_left 1); (focus (intro wz hSw; (try dsimp only at hSw); go_simp; try (with_reducible rfl))); simp only [Act.put, List.setIfInBounds_toArray, List.set_cons_zero, List.set_cons_succ]
      refine wpAnyH_ready (rs := [18]) (by kernel_rfl) (by simp) ?_; refine AllReadyH.cons rfl (fun K hK => ?_) AllReadyH.nil; go_simp; (try clear hHeld); refine hK.out _ _ f0e (fun hHeld => ?_)
      refine wpAnyH_done (by kernel_rfl) ?_ _
      rw [show ((x.pos + L : Nat) : Int) = (x.pos : Int) + ((L : Nat) : Int) from Int.natCast_add _ _] at hr9
      generalize (w4.setCell ⟨g4, i * 3 + 2, none⟩ (.int .i64 ((x.pos : Int) + ((L : Nat) : Int)))).drew = wX at hr9 ⊢
      clear hwr f0d f3d f4d f0e hbd
      go_wp2_with (first | (at_builtin; refine wpApp rfl _ _ 23 rfl rfl rfl hr9 ?_) | go_in)
      go_returns
      exact ⟨_, rfl, HF9⟩
    · have hBi : ¬ (m : Int) < ((data.length - x.pos : Nat) : Int) := by omega
      obtain rfl : L = data.length - x.pos := by rw [← hGL, hGm, List.length_take, List.length_drop]; omega
      have hRG : Rd8 (w4.setCell ⟨g4, i * 3 + 2, none⟩ (.int .i64 (x.pos + (data.length - x.pos) : Nat))) (.slice q' (data.length - x.pos) (cv - x.pos)) Gt := by
        rw [hGm, List.take_of_length_le (by rw [List.length_drop]; omega)]
        exact rd_from' (hRd (x.pos + (data.length - x.pos))) (by omega) hq'
      obtain ⟨v9, w9, hr9, ho9, hb9, q9, c9, rfl⟩ := app_new (X := (w4.setCell ⟨g4, i * 3 + 2, none⟩ (.int .i64 (x.pos + (data.length - x.pos) : Nat))).drew) (hRG.bw (Bw.refl _).drew) (by omega)
      have hs9 := hsz5 (x.pos + (data.length - x.pos))
      rw [hGL] at hr9 ho9
      have HF9 : Hid (Own8 w w9 (.slice q9 (data.length - x.pos) c9) Gt ∧ RS w0 w9 rb G B { s with op := s.op.set k { x with pos := x.pos + (data.length - x.pos) }, a := a' } l ∧ Fz G w w9) := by
        have hb99 : Bw (w4.setCell ⟨g4, i * 3 + 2, none⟩ (.int .i64 (x.pos + (data.length - x.pos) : Nat))) w9 := (Bw.refl _).drew.trans hb9
        obtain ⟨r1, r2⟩ := (show ∀ X, Bw (w4.setCell ⟨g4, i * 3 + 2, none⟩ (.int .i64 (x.pos + (data.length - x.pos) : Nat))) X → _ from HFin) _ hb99
        exact ⟨ho9.le hs9, r1, r2⟩
      clear hset4 hset5 HFin hR4 hRd hRG hGm hIs hIB hsz5 ho9 hb9
      go_wp2_with fail
      have hwr : IntKind.i64.wrap ((x.pos : Int) + ((data.length - x.pos : Nat) : Int)) = (x.pos : Int) + ((data.length - x.pos : Nat) : Int) := by rw [IntKind.wrap_i64]; omega
      have f0d := (show w4.drew.cell? _ = _ from f0)
      have f3d := (show w4.drew.cell? _ = _ from f3)
      have f4d := (show w4.drew.frozen? _ = _ from f4)
      have f0e : (w4.setCell ⟨g4, i * 3 + 2, none⟩ (.int .i64 ((x.pos : Int) + (((data.length - x.pos : Nat) : Int) : Int)))).drew.cell? ⟨rb, 1, none⟩ = some (.slice (some ⟨g4, 0, none⟩) l.length c4) := by
        show (w4.setCell ⟨g4, i * 3 + 2, none⟩ (.int .i64 ((x.pos : Int) + (((data.length - x.pos : Nat) : Int) : Int)))).cell? ⟨rb, 1, none⟩ = _
        rw [World.cell?_setCell_other _ _ _ _ (fun e => hgr (by simpa using (congrArg Addr.block e).symm))]; exact f0
      refine wp_region_held_drew (S := fun X => X.cell? ⟨rb, 1, none⟩ = some (.slice (some ⟨g4, 0, none⟩) l.length c4)) (by kernel_rfl) f0d (fun hHeld => ?_)
      refine wpAnyH_take (i := 0) (oi := ⟨some 73, _, _, _, _, _⟩) (v := ?_) rfl (by kernel_rfl) (by kernel_rfl) (by kernel_rfl) (fun _ _ _ h => h) (Or.inl ⟨by rfl, ?_⟩) (by assumption) ?_; (rotate_left 1); (focus (intro wz hSw; (try dsimp only at hSw); go_simp; try (with_reducible rfl))); simp only [Act.put, List.setIfInBounds_toArray, List.set_cons_zero, List.set_cons_succ]
      refine wpAnyH_take (i := 1) (oi := ⟨some 74, _, _, _, _, _⟩) (v := ?_) rfl (by kernel_rfl) (by kernel_rfl) (by kernel_rfl) (fun _ _ _ h => h) (Or.inl ⟨by rfl, ?_⟩) (by assumption) ?_; (rotate_left 1); (focus (intro wz hSw; (try dsimp only at hSw); go_simp; try (with_reducible rfl))); simp only [Act.put, List.setIfInBounds_toArray, List.set_cons_zero, List.set_cons_succ]
      refine wpAnyH_take (i := 2) (oi := ⟨some 75, _, _, _, _, _⟩) (v := ?_) rfl (by kernel_rfl) (by kernel_rfl) (by kernel_rfl) (fun _ _ _ h => h) (Or.inl ⟨by rfl, ?_⟩) (by assumption) ?_; (rotate_left 1); (focus (intro wz hSw; (try dsimp only at hSw); go_simp; try (with_reducible rfl))); simp only [Act.put, List.setIfInBounds_toArray, List.set_cons_zero, List.set_cons_succ]
      refine wpAnyH_take (i := 3) (oi := ⟨some 76, _, _, _, _, _⟩) (v := ?_) rfl (by kernel_rfl) (by kernel_rfl) (by kernel_rfl) (fun _ _ _ h => h) (Or.inl ⟨by rfl, ?_⟩) (by assumption) ?_; (rotate_left 1); (focus (intro wz hSw; (try dsimp only at hSw); go_simp; try (with_reducible rfl))); simp only [Act.put, List.setIfInBounds_toArray, List.set_cons_zero, List.set_cons_succ]
      refine wpAnyH_take (i := 4) (oi := ⟨some 77, _, _, _, _, _⟩) (v := ?_) rfl (by kernel_rfl) (by kernel_rfl) (by kernel_rfl) (fun _ _ _ h => h) (Or.inl ⟨by rfl, ?_⟩) (by assumption) ?_; (rotate_left 1); (focus (intro wz hSw; (try dsimp only at hSw); go_simp; try (with_reducible rfl))); simp only [Act.put, List.setIfInBounds_toArray, List.set_cons_zero, List.set_cons_succ]
      refine wpAnyH_take (i := 5) (oi := ⟨some 78, _, _, _, _, _⟩) (v := ?_) rfl (by kernel_rfl) (by kernel_rfl) (by kernel_rfl) (fun _ _ _ h => h) (Or.inl ⟨by rfl, ?_⟩) (by assumption) ?_; (rotate_left 1); (focus (intro wz hSw; (try dsimp only at hSw); go_simp; try (with_reducible rfl))); simp only [Act.put, List.setIfInBounds_toArray, List.set_cons_zero, List.set_cons_succ]
      refine wpAnyH_take (i := 6) (oi := ⟨some 79, _, _, _, _, _⟩) (v := ?_) rfl (by kernel_rfl) (by kernel_rfl) (by kernel_rfl) (fun _ _ _ h => h) (Or.inl ⟨by rfl, ?_⟩) (by assumption) ?_; (rotate_left 1); (focus (intro wz hSw; (try dsimp only at hSw); go_simp; try (with_reducible rfl))); simp only [Act.put, List.setIfInBounds_toArray, List.set_cons_zero, List.set_cons_succ]
      refine wpAnyH_take (i := 7) (oi := ⟨some 80, _, _, _, _, _⟩) (v := ?_) rfl (by kernel_rfl) (by kernel_rfl) (by kernel_rfl) (fun _ _ _ h => h) (Or.inl ⟨by rfl, ?_⟩) (by assumption) ?_; (rotate_left 1); (focus (intro wz hSw; (try dsimp only at hSw); go_simp; try (with_reducible rfl))); simp only [Act.put, List.setIfInBounds_toArray, List.set_cons_zero, List.set_cons_succ]
      refine wpAnyH_take (i := 8) (oi := ⟨some 81, _, _, _, _, _⟩) (v := ?_) rfl (by kernel_rfl) (by kernel_rfl) (by kernel_rfl) (fun _ _ _ h => h) (Or.inl ⟨by rfl, ?_⟩) (by assumption) ?_; (rotate_left 1); (focus (intro wz hSw; (try dsimp only at hSw); go_simp; try (with_reducible rfl))); simp only [Act.put, List.setIfInBounds_toArray, List.set_cons_zero, List.set_cons_succ]
      refine wpAnyH_take (i := 9) (oi := ⟨some 82, _, _, _, _, _⟩) (v := ?_) rfl (by kernel_rfl) (by kernel_rfl) (by kernel_rfl) (fun _ _ _ h => h) (Or.inl ⟨by rfl, ?_⟩) (by assumption) ?_; (rotate_left 1); (focus (intro wz hSw; (try dsimp only at hSw); go_simp; try (with_reducible rfl))); simp only [Act.put, List.setIfInBounds_toArray, List.set_cons_zero, List.set_cons_succ]
      refine wpAnyH_take (i := 10) (oi := ⟨some 83, _, _, _, _, _⟩) (v := ?_) rfl (by kernel_rfl) (by kernel_rfl) (by kernel_rfl) (fun _ _ _ h => h) (Or.inl ⟨by rfl, ?_⟩) (by assumption) ?_; (rotate_left 1); (focus (intro wz hSw; (try dsimp only at hSw); go_simp; try (with_reducible rfl))); simp only [Act.put, List.setIfInBounds_toArray, List.set_cons_zero, List.set_cons_succ]
      refine wpAnyH_take (i := 11) (oi := ⟨some 84, _, _, _, _, _⟩) (v := ?_) rfl (by kernel_rfl) (by kernel_rfl) (by kernel_rfl) (fun _ _ _ h => h) (Or.inl ⟨by rfl, ?_⟩) (by assumption) ?_; (rotate_left 1); (focus (intro wz hSw; (try dsimp only at hSw); go_simp; try (with_reducible rfl))); simp only [Act.put, List.setIfInBounds_toArray, List.set_cons_zero, List.set_cons_succ]
      refine wpAnyH_take (i := 13) (oi := ⟨some 86, _, _, _, _, _⟩) (v := ?_) rfl (by kernel_rfl) (by kernel_rfl) (by kernel_rfl) (fun _ _ _ h => h) (Or.inl ⟨by rfl, ?_⟩) (by assumption) ?_; (rotate_left 1); (focus (intro wz hSw; (try dsimp only at hSw); go_simp; try (with_reducible rfl))); simp only [Act.put, List.setIfInBounds_toArray, List.set_cons_zero, List.set_cons_succ]
      refine wpAnyH_take (i := 14) (oi := ⟨some 87, _, _, _, _, _⟩) (v := ?_) rfl (by kernel_rfl) (by kernel_rfl) (by kernel_rfl) (fun _ _ _ h => h) (Or.inl ⟨by rfl, ?_⟩) (by assumption) ?_; (rotate_left 1); (focus (intro wz hSw; (try dsimp only at hSw); go_simp; try (with_reducible rfl))); simp only [Act.put, List.setIfInBounds_toArray, List.set_cons_zero, List.set_cons_succ]
      refine wpAnyH_ready (rs := [12]) (by kernel_rfl) (by simp) ?_; refine AllReadyH.cons rfl (fun K hK => ?_) AllReadyH.nil; go_simp; (try clear hHeld); refine hK.out _ _ f0d (fun hHeld => ?_)
      refine wpAnyH_take (i := 15) (oi := ⟨some 88, _, _, _, _, _⟩) (v := ?_) rfl (by kernel_rfl) (by kernel_rfl) (by kernel_rfl) (fun _ _ _ h => h) (Or.inl ⟨by rfl, ?_⟩) (by assumption) ?_; (rotate_left 1); (focus (intro wz hSw; (try dsimp only at hSw); go_simp; try (with_reducible rfl))); simp only [Act.put, List.setIfInBounds_toArray, List.set_cons_zero, List.set_cons_succ]
      refine wpAnyH_take (i := 16) (oi := ⟨some 89, _, _, _, _, _⟩) (v := ?_) rfl (by kernel_rfl) (by kernel_rfl) (by kernel_rfl) (fun _ _ _ h => h) (Or.inl ⟨by rfl, ?_⟩) (by assumption) ?_; (rotate_left 1); (focus (intro wz hSw; (try dsimp only at hSw); go_simp; try (with_reducible rfl))); simp only [Act.put, List.setIfInBounds_toArray, List.set_cons_zero, List.set_cons_succ]
      refine wpAnyH_take (i := 17) (oi := ⟨some 90, _, _, _, _, _⟩) (v := ?_) rfl (by kernel_rfl) (by kernel_rfl) (by kernel_rfl) (fun _ _ _ h => h) (Or.inl ⟨by rfl, ?_⟩) (by assumption) ?_; (rotate_left 1); (focus (intro wz hSw; (try dsimp only at hSw); go_simp; try (with_reducible rfl))); simp only [Act.put, List.setIfInBounds_toArray, List.set_cons_zero, List.set_cons_succ]
      refine wpAnyH_ready (rs := [18]) (by kernel_rfl) (by simp) ?_; refine AllReadyH.cons rfl (fun K hK => ?_) AllReadyH.nil; go_simp; (try clear hHeld); refine hK.out _ _ f0e (fun hHeld => ?_)
      refine wpAnyH_done (by kernel_rfl) ?_ _
      rw [show ((x.pos + (data.length - x.pos) : Nat) : Int) = (x.pos : Int) + (((data.length - x.pos) : Nat) : Int) from Int.natCast_add _ _] at hr9
      generalize (w4.setCell ⟨g4, i * 3 + 2, none⟩ (.int .i64 ((x.pos : Int) + (((data.length - x.pos) : Nat) : Int)))).drew = wX at hr9 ⊢
      clear hwr f0d f3d f4d f0e hbd
      go_wp2_with (first | (at_builtin; refine wpApp rfl _ _ 23 rfl rfl rfl hr9 ?_) | go_in)
      go_returns
      exact ⟨_, rfl, HF9⟩
  · have hcase := c2
    obtain ⟨m, hm, hGm, hm4, hTk⟩ := hkey n (by omega)
    clear hkey
    have hmi : (m : Int) ≤ 4096 := by omega
    go_enter Try.func14, Try.ntmps14
    go_wp2_with (first | (go_at_call 28; refine hK.mono ?_; rintro e w2 ⟨rfl, hb⟩; obtain ⟨g, c, i1, i2, i3, d0, ⟨d1, d2, d3⟩, d4, hset⟩ := hE _ hb; have i4 : (i : Int) < (l.length : Int) := (by omega); clear hE; obtain ⟨ru, c0, hTake⟩ := hTk _ hb; clear hTk))
    refine hTake.mono ?_
    rintro e w3 ⟨rfl, h3, z3⟩
    have hz := (Fz.of_bw hb).trans z3
    obtain ⟨g3, c3, j1, j2, j3, e0, ⟨e1, e2, e3⟩, e4, -⟩ := h3.ent (show s.op[k]? = some x from HX) (show l[i]? = some k from HI)
    rw [show Fil.file x = fl from HFL] at e2
    have hDt := (show ∀ X, _ → _ from HD) _ h3
    have H3 : Hid _ := h3
    clear hTake h3 d0 d1 d2 d3 d4 hset c0
    go_wp2_with fail
    refine hDt.mono ?_
    rintro e w4 ⟨vd, rfl, hv4, hIB, hb4⟩
    obtain ⟨qv, cv, rfl, hv5, hv6, -⟩ := Rd8.open hv4
    have hR4 := RS.bw H3 hb4
    obtain ⟨g4, c4, p1, p2, p3, f0, ⟨f1, f2, f3⟩, f4, hset4⟩ := hR4.ent (show s.op[k]? = some x from HX) (show l[i]? = some k from HI)
    clear hDt e0 e1 e2 e3 e4 j1 j2 j3
    by_cases hA : data.length ≤ x.pos
    · have hAi : (data.length : Int) ≤ (x.pos : Int) := by omega
      obtain rfl : Gt = [] := by rw [hGm, List.drop_eq_nil_of_le hA, List.take_nil]
      obtain rfl : L = 0 := by rw [← hGL]; rfl
      have HR4 : Hid (RS w0 w4 rb G B { s with op := s.op.set k { x with pos := x.pos + 0 }, a := a' } l) := by
        show RS w0 w4 rb G B { s with op := s.op.set k { x with pos := x.pos + 0 }, a := a' } l
        rw [show s.op.set k { x with pos := x.pos + 0 } = s.op from HSE]; exact hR4
      clear hR4 hset4 hGm
      go_wp2_with fail
      go_returns
      exact ⟨_, rfl, Own8.nil _ _, HR4, hz.bw hb4⟩
    have hAi : ¬ (data.length : Int) ≤ (x.pos : Int) := by omega
    have hpx : x.pos ≤ 4096 := by omega
    obtain ⟨q', hsl, hq'⟩ := slice_from qv data.length cv x.pos (by omega) hv5
    have hbd : Bw w4 w4.drew := (Bw.refl w4).drew
    have hset5 := fun n => (hset4 H0 n)
    have hIs := RS.inB hR4 hIB (RS.gIn hR4 f0)
    have hgr : rb ≠ g4 := RS.ne hR4 f0
    have HFin : Hid (∀ X, Bw (w4.setCell ⟨g4, i * 3 + 2, none⟩ (.int .i64 (x.pos + L : Nat))) X → RS w0 X rb G B { s with op := s.op.set k { x with pos := x.pos + L }, a := a' } l ∧ Fz G w X) := fun X g =>
      ⟨(hset5 (x.pos + L)).1.bw g, ((hz.bw hb4).trans (hset5 (x.pos + L)).2).bw g⟩
    have hsz5 : ∀ n : Nat, w.heap.size ≤ (w4.setCell ⟨g4, i * 3 + 2, none⟩ (.int .i64 (n : Int))).heap.size := fun n => Nat.le_trans (hz.bw hb4).b0.size (by simp [World.setCell])
    have hRd : ∀ n : Nat, Rd8 (w4.setCell ⟨g4, i * 3 + 2, none⟩ (.int .i64 (n : Int))) (.slice qv data.length cv) data := fun n => RdR.q hv4 ((Bq.refl g4 w4).set _ _) hIs
    by_cases hB : m < data.length - x.pos
    · have hBi : (m : Int) < ((data.length - x.pos : Nat) : Int) := by omega
      obtain rfl : L = m := by rw [← hGL, hGm, List.length_take, List.length_drop]; omega
      have hmc : (L : Int) ≤ ((cv - x.pos : Nat) : Int) := by omega
      have hRG : Rd8 (w4.setCell ⟨g4, i * 3 + 2, none⟩ (.int .i64 (x.pos + L : Nat))) (.slice q' L (cv - x.pos)) Gt := by
        rw [hGm]
        have := rd_from' (hRd (x.pos + L)) (by omega) hq'
        rw [← List.length_drop] at this
        exact rd_to this (by rw [List.length_drop]; omega)
      obtain ⟨v9, w9, hr9, ho9, hb9, q9, c9, rfl⟩ := app_new (X := (w4.setCell ⟨g4, i * 3 + 2, none⟩ (.int .i64 (x.pos + L : Nat))).drew) (hRG.bw (Bw.refl _).drew) (by omega)
      have hs9 := hsz5 (x.pos + L)
      rw [hGL] at hr9 ho9
      have HF9 : Hid (Own8 w w9 (.slice q9 L c9) Gt ∧ RS w0 w9 rb G B { s with op := s.op.set k { x with pos := x.pos + L }, a := a' } l ∧ Fz G w w9) := by
        have hb99 : Bw (w4.setCell ⟨g4, i * 3 + 2, none⟩ (.int .i64 (x.pos + L : Nat))) w9 := (Bw.refl _).drew.trans hb9
        obtain ⟨r1, r2⟩ := (show ∀ X, Bw (w4.setCell ⟨g4, i * 3 + 2, none⟩ (.int .i64 (x.pos + L : Nat))) X → _ from HFin) _ hb99
        exact ⟨ho9.le hs9, r1, r2⟩
      clear hset4 hset5 HFin hR4 hRd hRG hGm hIs hIB hsz5 ho9 hb9
      go_wp2_with fail
      have hwr : IntKind.i64.wrap ((x.pos : Int) + (L : Int)) = (x.pos : Int) + (L : Int) := by rw [IntKind.wrap_i64]; omega
      have f0d := (show w4.drew.cell? _ = _ from f0)
      have f3d := (show w4.drew.cell? _ = _ from f3)
      have f4d := (show w4.drew.frozen? _ = _ from f4)
      have f0e : (w4.setCell ⟨g4, i * 3 + 2, none⟩ (.int .i64 ((x.pos : Int) + (L : Int)))).drew.cell? ⟨rb, 1, none⟩ = some (.slice (some ⟨g4, 0, none⟩) l.length c4) := by
        show (w4.setCell ⟨g4, i * 3 + 2, none⟩ (.int .i64 ((x.pos : Int) + (L : Int)))).cell? ⟨rb, 1, none⟩ = _
        rw [World.cell?_setCell_other _ _ _ _ (fun e => hgr (by simpa using (congrArg Addr.block e).symm))]; exact f0
      refine wp_region_held_drew (S := fun X => X.cell? ⟨rb, 1, none⟩ = some (.slice (some ⟨g4, 0, none⟩) l.length c4)) (by kernel_rfl) f0d (fun hHeld => ?_)
      refine wpAnyH_take (i := 0) (oi := ⟨some 73, _, _, _, _, _⟩) (v := ?_) rfl (by kernel_rfl) (by kernel_rfl) (by kernel_rfl) (fun _ _ _ h => h) (Or.inl ⟨by rfl, ?_⟩) (by assumption) ?_; (rotate_left 1); (focus (intro wz hSw; (try dsimp only at hSw); go_simp; try (with_reducible rfl))); simp only [Act.put, List.setIfInBounds_toArray, List.set_cons_zero, List.set_cons_succ]
      refine wpAnyH_take (i := 1) (oi := ⟨some 74, _, _, _, _, _⟩) (v := ?_) rfl (by kernel_rfl) (by kernel_rfl) (by kernel_rfl) (fun _ _ _ h => h) (Or.inl ⟨by rfl, ?_⟩) (by assumption) ?_; (rotate_left 1); (focus (intro wz hSw; (try dsimp only at hSw); go_simp; try (with_reducible rfl))); simp only [Act.put, List.setIfInBounds_toArray, List.set_cons_zero, List.set_cons_succ]
      refine wpAnyH_take (i := 2) (oi := ⟨some 75, _, _, _, _, _⟩) (v := ?_) rfl (by kernel_rfl) (by kernel_rfl) (by kernel_rfl) (fun _ _ _ h => h) (Or.inl ⟨by rfl, ?_⟩) (by assumption) ?_; (rotate_left 1); (focus (intro wz hSw; (try dsimp only at hSw); go_simp; try (with_reducible rfl))); simp only [Act.put, List.setIfInBounds_toArray, List.set_cons_zero, List.set_cons_succ]
      refine wpAnyH_take (i := 3) (oi := ⟨some 76, _, _, _, _, _⟩) (v := ?_) rfl (by kernel_rfl) (by kernel_rfl) (by kernel_rfl) (fun _ _ _ h => h) (Or.inl ⟨by rfl, ?_⟩) (by assumption) ?_; (rotate_left 1); (focus (intro wz hSw; (try dsimp only at hSw); go_simp; try (with_reducible rfl))); simp only [Act.put, List.setIfInBounds_toArray, List.set_cons_zero, List.set_cons_succ]
      refine wpAnyH_take (i := 4) (oi := ⟨some 77, _, _, _, _, _⟩) (v := ?_) rfl (by kernel_rfl) (by kernel_rfl) (by kernel_rfl) (fun _ _ _ h => h) (Or.inl ⟨by rfl, ?_⟩) (by assumption) ?_; (rotate_left 1); (focus (intro wz hSw; (try dsimp only at hSw); go_simp; try (with_reducible rfl))); simp only [Act.put, List.setIfInBounds_toArray, List.set_cons_zero, List.set_cons_succ]
      refine wpAnyH_take (i := 5) (oi := ⟨some 78, _, _, _, _, _⟩) (v := ?_) rfl (by kernel_rfl) (by kernel_rfl) (by kernel_rfl) (fun _ _ _ h => h) (Or.inl ⟨by rfl, ?_⟩) (by assumption) ?_; (rotate_left 1); (focus (intro wz hSw; (try dsimp only at hSw); go_simp; try (with_reducible rfl))); simp only [Act.put, List.setIfInBounds_toArray, List.set_cons_zero, List.set_cons_succ]
      refine wpAnyH_take (i := 6) (oi := ⟨some 79, _, _, _, _, _⟩) (v := ?_) rfl (by kernel_rfl) (by kernel_rfl) (by kernel_rfl) (fun _ _ _ h => h) (Or.inl ⟨by rfl, ?_⟩) (by assumption) ?_; (rotate_left 1); (focus (intro wz hSw; (try dsimp only at hSw); go_simp; try (with_reducible rfl))); simp only [Act.put, List.setIfInBounds_toArray, List.set_cons_zero, List.set_cons_succ]
      refine wpAnyH_take (i := 7) (oi := ⟨some 80, _, _, _, _, _⟩) (v := ?_) rfl (by kernel_rfl) (by kernel_rfl) (by kernel_rfl) (fun _ _ _ h => h) (Or.inl ⟨by rfl, ?_⟩) (by assumption) ?_; (rotate_left 1); (focus (intro wz hSw; (try dsimp only at hSw); go_simp; try (with_reducible rfl))); simp only [Act.put, List.setIfInBounds_toArray, List.set_cons_zero, List.set_cons_succ]
      refine wpAnyH_take (i := 8) (oi := ⟨some 81, _, _, _, _, _⟩) (v := ?_) rfl (by kernel_rfl) (by kernel_rfl) (by kernel_rfl) (fun _ _ _ h => h) (Or.inl ⟨by rfl, ?_⟩) (by assumption) ?_; (rotate_left 1); (focus (intro wz hSw; (try dsimp only at hSw); go_simp; try (with_reducible rfl))); simp only [Act.put, List.setIfInBounds_toArray, List.set_cons_zero, List.set_cons_succ]
      refine wpAnyH_take (i := 9) (oi := ⟨some 82, _, _, _, _, _⟩) (v := ?_) rfl (by kernel_rfl) (by kernel_rfl) (by kernel_rfl) (fun _ _ _ h => h) (Or.inl ⟨by rfl, ?_⟩) (by assumption) ?_; (rotate_left 1); (focus (intro wz hSw; (try dsimp only at hSw); go_simp; try (with_reducible rfl))); simp only [Act.put, List.setIfInBounds_toArray, List.set_cons_zero, List.set_cons_succ]
      refine wpAnyH_take (i := 10) (oi := ⟨some 83, _, _, _, _, _⟩) (v := ?_) rfl (by kernel_rfl) (by kernel_rfl) (by kernel_rfl) (fun _ _ _ h => h) (Or.inl ⟨by rfl, ?_⟩) (by assumption) ?_; (rotate_left 1); (focus (intro wz hSw; (try dsimp only at hSw); go_simp; try (with_reducible rfl))); simp only [Act.put, List.setIfInBounds_toArray, List.set_cons_zero, List.set_cons_succ]
      refine wpAnyH_take (i := 11) (oi := ⟨some 84, _, _, _, _, _⟩) (v := ?_) rfl (by kernel_rfl) (by kernel_rfl) (by kernel_rfl) (fun _ _ _ h => h) (Or.inl ⟨by rfl, ?_⟩) (by assumption) ?_; (rotate_left 1); (focus (intro wz hSw; (try dsimp only at hSw); go_simp; try (with_reducible rfl))); simp only [Act.put, List.setIfInBounds_toArray, List.set_cons_zero, List.set_cons_succ]
      refine wpAnyH_take (i := 13) (oi := ⟨some 86, _, _, _, _, _⟩) (v := ?_) rfl (by kernel_rfl) (by kernel_rfl) (by kernel_rfl) (fun _ _ _ h => h) (Or.inl ⟨by rfl, ?_⟩) (by assumption) ?_; (rotate_left 1); (focus (intro wz hSw; (try dsimp only at hSw); go_simp; try (with_reducible rfl))); simp only [Act.put, List.setIfInBounds_toArray, List.set_cons_zero, List.set_cons_succ]
      refine wpAnyH_take (i := 14) (oi := ⟨some 87, _, _, _, _, _⟩) (v := ?_) rfl (by kernel_rfl) (by kernel_rfl) (by kernel_rfl) (fun _ _ _ h => h) (Or.inl ⟨by rfl, ?_⟩) (by assumption) ?_; (rotate_left 1); (focus (intro wz hSw; (try dsimp only at hSw); go_simp; try (with_reducible rfl))); simp only [Act.put, List.setIfInBounds_toArray, List.set_cons_zero, List.set_cons_succ]
      refine wpAnyH_ready (rs := [12]) (by kernel_rfl) (by simp) ?_; refine AllReadyH.cons rfl (fun K hK => ?_) AllReadyH.nil; go_simp; (try clear hHeld); refine hK.out _ _ f0d (fun hHeld => ?_)
      refine wpAnyH_take (i := 15) (oi := ⟨some 88, _, _, _, _, _⟩) (v := ?_) rfl (by kernel_rfl) (by kernel_rfl) (by kernel_rfl) (fun _ _ _ h => h) (Or.inl ⟨by rfl, ?_⟩) (by assumption) ?_; (rotate_left 1); (focus (intro wz hSw; (try dsimp only at hSw); go_simp; try (with_reducible rfl))); simp only [Act.put, List.setIfInBounds_toArray, List.set_cons_zero, List.set_cons_succ]
      refine wpAnyH_take (i := 16) (oi := ⟨some 89, _, _, _, _, _⟩) (v := ?_) rfl (by kernel_rfl) (by kernel_rfl) (by kernel_rfl) (fun _ _ _ h => h) (Or.inl ⟨by rfl, ?_⟩) (by assumption) ?_; (rotate_left 1); (focus (intro wz hSw; (try dsimp only at hSw); go_simp; try (with_reducible rfl))); simp only [Act.put, List.setIfInBounds_toArray, List.set_cons_zero, List.set_cons_succ]
      refine wpAnyH_take (i := 17) (oi := ⟨some 90, _, _, _, _, _⟩) (v := ?_) rfl (by kernel_rfl) (by kernel_rfl) (by kernel_rfl) (fun _ _ _ h => h) (Or.inl ⟨by rfl, ?_⟩) (by assumption) ?_; (rotate_left 1); (focus (intro wz hSw; (try dsimp only at hSw); go_simp; try (with_reducible rfl))); simp only [Act.put, List.setIfInBounds_toArray, List.set_cons_zero, List.set_cons_succ]
      refine wpAnyH_ready (rs := [18]) (by kernel_rfl) (by simp) ?_; refine AllReadyH.cons rfl (fun K hK => ?_) AllReadyH.nil; go_simp; (try clear hHeld); refine hK.out _ _ f0e (fun hHeld => ?_)
      refine wpAnyH_done (by kernel_rfl) ?_ _
      rw [show ((x.pos + L : Nat) : Int) = (x.pos : Int) + ((L : Nat) : Int) from Int.natCast_add _ _] at hr9
      generalize (w4.setCell ⟨g4, i * 3 + 2, none⟩ (.int .i64 ((x.pos : Int) + ((L : Nat) : Int)))).drew = wX at hr9 ⊢
      clear hwr f0d f3d f4d f0e hbd
      go_wp2_with (first | (at_builtin; refine wpApp rfl _ _ 23 rfl rfl rfl hr9 ?_) | go_in)
      go_returns
      exact ⟨_, rfl, HF9⟩
    · have hBi : ¬ (m : Int) < ((data.length - x.pos : Nat) : Int) := by omega
      obtain rfl : L = data.length - x.pos := by rw [← hGL, hGm, List.length_take, List.length_drop]; omega
      have hRG : Rd8 (w4.setCell ⟨g4, i * 3 + 2, none⟩ (.int .i64 (x.pos + (data.length - x.pos) : Nat))) (.slice q' (data.length - x.pos) (cv - x.pos)) Gt := by
        rw [hGm, List.take_of_length_le (by rw [List.length_drop]; omega)]
        exact rd_from' (hRd (x.pos + (data.length - x.pos))) (by omega) hq'
      obtain ⟨v9, w9, hr9, ho9, hb9, q9, c9, rfl⟩ := app_new (X := (w4.setCell ⟨g4, i * 3 + 2, none⟩ (.int .i64 (x.pos + (data.length - x.pos) : Nat))).drew) (hRG.bw (Bw.refl _).drew) (by omega)
      have hs9 := hsz5 (x.pos + (data.length - x.pos))
      rw [hGL] at hr9 ho9
      have HF9 : Hid (Own8 w w9 (.slice q9 (data.length - x.pos) c9) Gt ∧ RS w0 w9 rb G B { s with op := s.op.set k { x with pos := x.pos + (data.length - x.pos) }, a := a' } l ∧ Fz G w w9) := by
        have hb99 : Bw (w4.setCell ⟨g4, i * 3 + 2, none⟩ (.int .i64 (x.pos + (data.length - x.pos) : Nat))) w9 := (Bw.refl _).drew.trans hb9
        obtain ⟨r1, r2⟩ := (show ∀ X, Bw (w4.setCell ⟨g4, i * 3 + 2, none⟩ (.int .i64 (x.pos + (data.length - x.pos) : Nat))) X → _ from HFin) _ hb99
        exact ⟨ho9.le hs9, r1, r2⟩
      clear hset4 hset5 HFin hR4 hRd hRG hGm hIs hIB hsz5 ho9 hb9
      go_wp2_with fail
      have hwr : IntKind.i64.wrap ((x.pos : Int) + ((data.length - x.pos : Nat) : Int)) = (x.pos : Int) + ((data.length - x.pos : Nat) : Int) := by rw [IntKind.wrap_i64]; omega
      have f0d := (show w4.drew.cell? _ = _ from f0)
      have f3d := (show w4.drew.cell? _ = _ from f3)
      have f4d := (show w4.drew.frozen? _ = _ from f4)
      have f0e : (w4.setCell ⟨g4, i * 3 + 2, none⟩ (.int .i64 ((x.pos : Int) + (((data.length - x.pos : Nat) : Int) : Int)))).drew.cell? ⟨rb, 1, none⟩ = some (.slice (some ⟨g4, 0, none⟩) l.length c4) := by
        show (w4.setCell ⟨g4, i * 3 + 2, none⟩ (.int .i64 ((x.pos : Int) + (((data.length - x.pos : Nat) : Int) : Int)))).cell? ⟨rb, 1, none⟩ = _
        rw [World.cell?_setCell_other _ _ _ _ (fun e => hgr (by simpa using (congrArg Addr.block e).symm))]; exact f0
      refine wp_region_held_drew (S := fun X => X.cell? ⟨rb, 1, none⟩ = some (.slice (some ⟨g4, 0, none⟩) l.length c4)) (by kernel_rfl) f0d (fun hHeld => ?_)
      refine wpAnyH_take (i := 0) (oi := ⟨some 73, _, _, _, _, _⟩) (v := ?_) rfl (by kernel_rfl) (by kernel_rfl) (by kernel_rfl) (fun _ _ _ h => h) (Or.inl ⟨by rfl, ?_⟩) (by assumption) ?_; (rotate_left 1); (focus (intro wz hSw; (try dsimp only at hSw); go_simp; try (with_reducible rfl))); simp only [Act.put, List.setIfInBounds_toArray, List.set_cons_zero, List.set_cons_succ]
      refine wpAnyH_take (i := 1) (oi := ⟨some 74, _, _, _, _, _⟩) (v := ?_) rfl (by kernel_rfl) (by kernel_rfl) (by kernel_rfl) (fun _ _ _ h => h) (Or.inl ⟨by rfl, ?_⟩) (by assumption) ?_; (rotate_left 1); (focus (intro wz hSw; (try dsimp only at hSw); go_simp; try (with_reducible rfl))); simp only [Act.put, List.setIfInBounds_toArray, List.set_cons_zero, List.set_cons_succ]
      refine wpAnyH_take (i := 2) (oi := ⟨some 75, _, _, _, _, _⟩) (v := ?_) rfl (by kernel_rfl) (by kernel_rfl) (by kernel_rfl) (fun _ _ _ h => h) (Or.inl ⟨by rfl, ?_⟩) (by assumption) ?_; (rotate_left 1); (focus (intro wz hSw; (try dsimp only at hSw); go_simp; try (with_reducible rfl))); simp only [Act.put, List.setIfInBounds_toArray, List.set_cons_zero, List.set_cons_succ]
      refine wpAnyH_take (i := 3) (oi := ⟨some 76, _, _, _, _, _⟩) (v := ?_) rfl (by kernel_rfl) (by kernel_rfl) (by kernel_rfl) (fun _ _ _ h => h) (Or.inl ⟨by rfl, ?_⟩) (by assumption) ?_; (rotate_left 1); (focus (intro wz hSw; (try dsimp only at hSw); go_simp; try (with_reducible rfl))); simp only [Act.put, List.setIfInBounds_toArray, List.set_cons_zero, List.set_cons_succ]
      refine wpAnyH_take (i := 4) (oi := ⟨some 77, _, _, _, _, _⟩) (v := ?_) rfl (by kernel_rfl) (by kernel_rfl) (by kernel_rfl) (fun _ _ _ h => h) (Or.inl ⟨by rfl, ?_⟩) (by assumption) ?_; (rotate_left 1); (focus (intro wz hSw; (try dsimp only at hSw); go_simp; try (with_reducible rfl))); simp only [Act.put, List.setIfInBounds_toArray, List.set_cons_zero, List.set_cons_succ]
      refine wpAnyH_take (i := 5) (oi := ⟨some 78, _, _, _, _, _⟩) (v := ?_) rfl (by kernel_rfl) (by kernel_rfl) (by kernel_rfl) (fun _ _ _ h => h) (Or.inl ⟨by rfl, ?_⟩) (by assumption) ?_; (rotate_left 1); (focus (intro wz hSw; (try dsimp only at hSw); go_simp; try (with_reducible rfl))); simp only [Act.put, List.setIfInBounds_toArray, List.set_cons_zero, List.set_cons_succ]
      refine wpAnyH_take (i := 6) (oi := ⟨some 79, _, _, _, _, _⟩) (v := ?_) rfl (by kernel_rfl) (by kernel_rfl) (by kernel_rfl) (fun _ _ _ h => h) (Or.inl ⟨by rfl, ?_⟩) (by assumption) ?_; (rotate_left 1); (focus (intro wz hSw; (try dsimp only at hSw); go_simp; try (with_reducible rfl))); simp only [Act.put, List.setIfInBounds_toArray, List.set_cons_zero, List.set_cons_succ]
      refine wpAnyH_take (i := 7) (oi := ⟨some 80, _, _, _, _, _⟩) (v := ?_) rfl (by kernel_rfl) (by kernel_rfl) (by kernel_rfl) (fun _ _ _ h => h) (Or.inl ⟨by rfl, ?_⟩) (by assumption) ?_; (rotate_left 1); (focus (intro wz hSw; (try dsimp only at hSw); go_simp; try (with_reducible rfl))); simp only [Act.put, List.setIfInBounds_toArray, List.set_cons_zero, List.set_cons_succ]
      refine wpAnyH_take (i := 8) (oi := ⟨some 81, _, _, _, _, _⟩) (v := ?_) rfl (by kernel_rfl) (by kernel_rfl) (by kernel_rfl) (fun _ _ _ h => h) (Or.inl ⟨by rfl, ?_⟩) (by assumption) ?_; (rotate_left 1); (focus (intro wz hSw; (try dsimp only at hSw); go_simp; try (with_reducible rfl))); simp only [Act.put, List.setIfInBounds_toArray, List.set_cons_zero, List.set_cons_succ]
      refine wpAnyH_take (i := 9) (oi := ⟨some 82, _, _, _, _, _⟩) (v := ?_) rfl (by kernel_rfl) (by kernel_rfl) (by kernel_rfl) (fun _ _ _ h => h) (Or.inl ⟨by rfl, ?_⟩) (by assumption) ?_; (rotate_left 1); (focus (intro wz hSw; (try dsimp only at hSw); go_simp; try (with_reducible rfl))); simp only [Act.put, List.setIfInBounds_toArray, List.set_cons_zero, List.set_cons_succ]
      refine wpAnyH_take (i := 10) (oi := ⟨some 83, _, _, _, _, _⟩) (v := ?_) rfl (by kernel_rfl) (by kernel_rfl) (by kernel_rfl) (fun _ _ _ h => h) (Or.inl ⟨by rfl, ?_⟩) (by assumption) ?_; (rotate_left 1); (focus (intro wz hSw; (try dsimp only at hSw); go_simp; try (with_reducible rfl))); simp only [Act.put, List.setIfInBounds_toArray, List.set_cons_zero, List.set_cons_succ]
      refine wpAnyH_take (i := 11) (oi := ⟨some 84, _, _, _, _, _⟩) (v := ?_) rfl (by kernel_rfl) (by kernel_rfl) (by kernel_rfl) (fun _ _ _ h => h) (Or.inl ⟨by rfl, ?_⟩) (by assumption) ?_; (rotate_left 1); (focus (intro wz hSw; (try dsimp only at hSw); go_simp; try (with_reducible rfl))); simp only [Act.put, List.setIfInBounds_toArray, List.set_cons_zero, List.set_cons_succ]
      refine wpAnyH_take (i := 13) (oi := ⟨some 86, _, _, _, _, _⟩) (v := ?_) rfl (by kernel_rfl) (by kernel_rfl) (by kernel_rfl) (fun _ _ _ h => h) (Or.inl ⟨by rfl, ?_⟩) (by assumption) ?_; (rotate_left 1); (focus (intro wz hSw; (try dsimp only at hSw); go_simp; try (with_reducible rfl))); simp only [Act.put, List.setIfInBounds_toArray, List.set_cons_zero, List.set_cons_succ]
      refine wpAnyH_take (i := 14) (oi := ⟨some 87, _, _, _, _, _⟩) (v := ?_) rfl (by kernel_rfl) (by kernel_rfl) (by kernel_rfl) (fun _ _ _ h => h) (Or.inl ⟨by rfl, ?_⟩) (by assumption) ?_; (rotate_left 1); (focus (intro wz hSw; (try dsimp only at hSw); go_simp; try (with_reducible rfl))); simp only [Act.put, List.setIfInBounds_toArray, List.set_cons_zero, List.set_cons_succ]
      refine wpAnyH_ready (rs := [12]) (by kernel_rfl) (by simp) ?_; refine AllReadyH.cons rfl (fun K hK => ?_) AllReadyH.nil; go_simp; (try clear hHeld); refine hK.out _ _ f0d (fun hHeld => ?_)
      refine wpAnyH_take (i := 15) (oi := ⟨some 88, _, _, _, _, _⟩) (v := ?_) rfl (by kernel_rfl) (by kernel_rfl) (by kernel_rfl) (fun _ _ _ h => h) (Or.inl ⟨by rfl, ?_⟩) (by assumption) ?_; (rotate_left 1); (focus (intro wz hSw; (try dsimp only at hSw); go_simp; try (with_reducible rfl))); simp only [Act.put, List.setIfInBounds_toArray, List.set_cons_zero, List.set_cons_succ]
      refine wpAnyH_take (i := 16) (oi := ⟨some 89, _, _, _, _, _⟩) (v := ?_) rfl (by kernel_rfl) (by kernel_rfl) (by kernel_rfl) (fun _ _ _ h => h) (Or.inl ⟨by rfl, ?_⟩) (by assumption) ?_; (rotate_left 1); (focus (intro wz hSw; (try dsimp only at hSw); go_simp; try (with_reducible rfl))); simp only [Act.put, List.setIfInBounds_toArray, List.set_cons_zero, List.set_cons_succ]
      refine wpAnyH_take (i := 17) (oi := ⟨some 90, _, _, _, _, _⟩) (v := ?_) rfl (by kernel_rfl) (by kernel_rfl) (by kernel_rfl) (fun _ _ _ h => h) (Or.inl ⟨by rfl, ?_⟩) (by assumption) ?_; (rotate_left 1); (focus (intro wz hSw; (try dsimp only at hSw); go_simp; try (with_reducible rfl))); simp only [Act.put, List.setIfInBounds_toArray, List.set_cons_zero, List.set_cons_succ]
      refine wpAnyH_ready (rs := [18]) (by kernel_rfl) (by simp) ?_; refine AllReadyH.cons rfl (fun K hK => ?_) AllReadyH.nil; go_simp; (try clear hHeld); refine hK.out _ _ f0e (fun hHeld => ?_)
      refine wpAnyH_done (by kernel_rfl) ?_ _
      rw [show ((x.pos + (data.length - x.pos) : Nat) : Int) = (x.pos : Int) + (((data.length - x.pos) : Nat) : Int) from Int.natCast_add _ _] at hr9
      generalize (w4.setCell ⟨g4, i * 3 + 2, none⟩ (.int .i64 ((x.pos : Int) + (((data.length - x.pos) : Nat) : Int)))).drew = wX at hr9 ⊢
      clear hwr f0d f3d f4d f0e hbd
      go_wp2_with (first | (at_builtin; refine wpApp rfl _ _ 23 rfl rfl rfl hr9 ?_) | go_in)
      go_returns
      exact ⟨_, rfl, HF9⟩
end Go.Proofs.Ytncidjkkngbclaa
