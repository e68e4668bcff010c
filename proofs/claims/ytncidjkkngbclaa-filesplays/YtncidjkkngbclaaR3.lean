/- append(x, y...) onto a slice of the call's own, y whatever can be read. · LAYER 9's walks: slices.Clone; Begin. · LAYER 9's walks: Begin. · LAYER 9's walks: Copy. · append of one element onto a slice of the call's own; what it leaves. -/
import Derived.Test.YtncidjkkngbclaaR1
import Derived.Test.YtncidjkkngbclaaR2
namespace Go.Proofs.Ytncidjkkngbclaa
open Go.ChangeShapes Go.WideShapes Go.ChangeAt Go.RowKit

theorem run_append_none {e sz bytes : Nat} {z : Value} {t ty : TypeId} (hinf : (Try.prog.info? e).map (fun i => (i.zero, i.size, i.bytes)) = some (some z, sz, bytes)) (ht : Try.prog.underlying t = some (.slice e))
    {w0 wr : World} {v : Value} {n : Nat} {cs : List Value} (hown : OwnR e sz w0 wr v n cs) (c : Nat) : (Builtin.append_ #[t, t] ty #[v, .slice none 0 c]).run Try.prog wr = .ok v wr := by
  obtain ⟨i, hi, he⟩ := Option.map_eq_some_iff.1 hinf
  rcases hown.2 with ⟨rfl, rfl⟩ | ⟨g, cap, cur, rfl, hbg, hg, hnc, hcm, hcs, htake⟩
  · simp [Builtin.append_, run_underlying ht, sizeOf, typeInfo, hi, Builtin.lenOf, Builtin.firstCells]
  · simp [Builtin.append_, run_underlying ht, sizeOf, typeInfo, hi, Builtin.lenOf, hnc, Builtin.firstCells, storeCells]
theorem appS {e sz bytes : Nat} {z : Value} {t ty : TypeId} (hinf : (Try.prog.info? e).map (fun i => (i.zero, i.size, i.bytes)) = some (some z, sz, bytes)) (ht : Try.prog.underlying t = some (.slice e)) (hzs : z.cells.size = sz) (hsz : 0 < sz) (hby : bytes ≤ 100)
    {w0 wr : World} {v : Value} {n : Nat} {cs : List Value} (hown : OwnR e sz w0 wr v n cs) (hbw : Bw w0 wr) {x : Value} {m : Nat} {ds : List Value} (hx : RdR sz wr x m ds) (h1 : ∀ u ∈ ds, u.oneCell' = true) (hn : n + m ≤ 1000000) :
    ∃ v' w', (Builtin.append_ #[t, t] ty #[v, x]).run Try.prog wr = .ok v' w' ∧ OwnR e sz w0 w' v' (n + m) (cs ++ ds) ∧ Bw w0 w' := by
  obtain ⟨q, cap, rfl, h2, h3, h4, h5⟩ := hx
  cases q with
  | none =>
    have hm : m = 0 := Nat.eq_zero_of_not_pos (fun h => by obtain ⟨b, o, h6, _⟩ := h5 h; simp at h6)
    subst hm
    have hd : ds = [] := List.eq_nil_of_length_eq_zero (by simpa using h4)
    subst hd
    exact ⟨v, wr, run_append_none hinf ht hown cap, by simpa using hown, hbw⟩
  | some a =>
    refine appR hinf ht hzs hsz hby hown hbw a m cap ds h4 (fun j u hu => ?_) h1 hn
    have hm : 0 < m := Nat.pos_of_ne_zero (fun h => by rw [h, Nat.zero_mul] at h4; rw [List.eq_nil_of_length_eq_zero h4] at hu; simp at hu)
    obtain ⟨b, o, h6, _, h8⟩ := h5 hm
    simp at h6
    subst h6
    rw [Addr.add_lit]; exact h8 j u hu
/-- An empty slice that the call makes. -/
theorem OwnR.empty (e sz : Nat) {w0 w : World} (h : w0.heap.size ≤ w.heap.size) : OwnR e sz w0 (w.alloc (.cells #[] e)) (.slice (some ⟨w.heap.size, 0, none⟩) 0 0) 0 [] :=
  ⟨by simp, Or.inr ⟨w.heap.size, 0, #[], rfl, h, heap_alloc_new w _, Nat.le_refl _, by decide, by simp, by simp⟩⟩
end Go.Proofs.Ytncidjkkngbclaa
namespace Go.Proofs.Ytncidjkkngbclaa
open Go.ChangeShapes Go.WideShapes Go.ChangeAt Go.RowKit

theorem eqInSlice (w : World) (d : Nat) (t e : TypeId) (q : Option Addr) (n c : Nat) (h : Try.prog.underlying t = some (.slice e)) : (Op.equalIn (d + 1) t (.slice q n c) (.slice none 0 0)).run Try.prog w = .ok q.isNone w := by
  cases q <;> simp [Op.equalIn, run_underlying h]
theorem eqSliceNil (w : World) (t e : TypeId) (q : Option Addr) (n c : Nat) (h : Try.prog.underlying t = some (.slice e)) : (binOp .eql t (.slice q n c) (.slice none 0 0)).run Try.prog w = .ok (.bool q.isNone) w := by
  simp only [binOp]
  simp [show Op.equal t (.slice q n c) (.slice none 0 0) = Op.equalIn (9999 + 1) t (.slice q n c) (.slice none 0 0) from rfl, eqInSlice w 9999 t e q n c h]
/-- A slice whose block lies from N on. -/
def Far2 (N : Nat) (v : Value) : Prop := ∀ q k c, v = .slice (some q) k c → 0 < k → N ≤ q.block
theorem Far2.nil (N : Nat) : Far2 N (.slice none 0 0) := fun q k c h => by simp at h
theorem Far2.own {e sz n : Nat} {cs : List Value} {a w : World} {v : Value} (h : OwnR e sz a w v n cs) : Far2 a.heap.size v := h.far
theorem infoCloneI : (Try.prog.info? 3).map (fun i => (i.zero, i.size, i.bytes)) = some (some (.int .i64 0), 1, 8) := by kernel_rfl
set_option maxHeartbeats 1000000 in
set_option maxRecDepth 100000 in
theorem CloneI_c (v : Value) (n : Nat) (cs : List Value) (w : World) (hv : RdR 1 w v n cs) (h1 : ∀ u ∈ cs, u.oneCell' = true) (hn : n ≤ 100000) : Calls Try.prog 37 #[v] w fun e w' => ∃ v', e = .returned v' ∧ RdR 1 w' v' n cs ∧ Bw w w' ∧ Far2 w.heap.size v' := by
  have hv2 := hv
  obtain ⟨q, cap, rfl, hc1, hc2, -⟩ := hv
  have he := eqSliceNil w 24 _ q n cap Try.underlying24
  cases q with
  | none =>
    have h0 : n = 0 := Nat.eq_zero_of_not_pos (fun h => by obtain ⟨q, c, e, _, _, _, h5⟩ := hv2; simp at e; obtain ⟨rfl, _⟩ := e; obtain ⟨b, o, h6, _⟩ := h5 h; simp at h6)
    subst h0
    have hz : cs = [] := by obtain ⟨q, c, e, _, _, h4, _⟩ := hv2; exact List.eq_nil_of_length_eq_zero (by simpa using h4)
    subst hz
    go_enter Try.func37, Try.ntmps37
    go_wp2_with fail
    go_returns
    exact ⟨_, rfl, RdR.nil _ _, Bw.refl _, Far2.nil _⟩
  | some a =>
    have hown := OwnR.empty 3 1 (w0 := w) (Nat.le_refl w.heap.size)
    obtain ⟨v', w', hr, ho, hb⟩ := appS (ty := 24) infoCloneI Try.underlying24 rfl (by omega) (by omega) hown ((Bw.refl w).alloc _) (hv2.bw ((Bw.refl w).alloc _)) h1 (by omega)
    rw [Nat.zero_add, List.nil_append] at ho
    have HFin : Hid _ := (⟨ho.rd, hb, Far2.own ho⟩ : RdR 1 w' v' n cs ∧ Bw w w' ∧ Far2 w.heap.size v')
    clear ho hb hown hv2 h1
    go_enter Try.func37, Try.ntmps37
    go_wp2_with (first | (at_builtin; refine wpApp rfl _ _ 24 rfl rfl rfl hr ?_) | go_in)
    go_returns
    exact ⟨_, rfl, HFin⟩
theorem infoCloneB : (Try.prog.info? 5).map (fun i => (i.zero, i.size, i.bytes)) = some (some (.int .u8 0), 1, 1) := by kernel_rfl
set_option maxHeartbeats 1000000 in
set_option maxRecDepth 100000 in
theorem CloneB_c (v : Value) (n : Nat) (cs : List Value) (w : World) (hv : RdR 1 w v n cs) (h1 : ∀ u ∈ cs, u.oneCell' = true) (hn : n ≤ 100000) : Calls Try.prog 35 #[v] w fun e w' => ∃ v', e = .returned v' ∧ RdR 1 w' v' n cs ∧ Bw w w' ∧ Far2 w.heap.size v' := by
  have hv2 := hv
  obtain ⟨q, cap, rfl, hc1, hc2, -⟩ := hv
  have he := eqSliceNil w 23 _ q n cap Try.underlying23
  cases q with
  | none =>
    have h0 : n = 0 := Nat.eq_zero_of_not_pos (fun h => by obtain ⟨q, c, e, _, _, _, h5⟩ := hv2; simp at e; obtain ⟨rfl, _⟩ := e; obtain ⟨b, o, h6, _⟩ := h5 h; simp at h6)
    subst h0
    have hz : cs = [] := by obtain ⟨q, c, e, _, _, h4, _⟩ := hv2; exact List.eq_nil_of_length_eq_zero (by simpa using h4)
    subst hz
    go_enter Try.func35, Try.ntmps35
    go_wp2_with fail
    go_returns
    exact ⟨_, rfl, RdR.nil _ _, Bw.refl _, Far2.nil _⟩
  | some a =>
    have hown := OwnR.empty 5 1 (w0 := w) (Nat.le_refl w.heap.size)
    obtain ⟨v', w', hr, ho, hb⟩ := appS (ty := 23) infoCloneB Try.underlying23 rfl (by omega) (by omega) hown ((Bw.refl w).alloc _) (hv2.bw ((Bw.refl w).alloc _)) h1 (by omega)
    rw [Nat.zero_add, List.nil_append] at ho
    have HFin : Hid _ := (⟨ho.rd, hb, Far2.own ho⟩ : RdR 1 w' v' n cs ∧ Bw w w' ∧ Far2 w.heap.size v')
    clear ho hb hown hv2 h1
    go_enter Try.func35, Try.ntmps35
    go_wp2_with (first | (at_builtin; refine wpApp rfl _ _ 23 rfl rfl rfl hr ?_) | go_in)
    go_returns
    exact ⟨_, rfl, HFin⟩
theorem infoCloneW : (Try.prog.info? 84).map (fun i => (i.zero, i.size, i.bytes)) = some (some (.int .u32 0), 1, 4) := by kernel_rfl
set_option maxHeartbeats 1000000 in
set_option maxRecDepth 100000 in
theorem CloneW_c (v : Value) (n : Nat) (cs : List Value) (w : World) (hv : RdR 1 w v n cs) (h1 : ∀ u ∈ cs, u.oneCell' = true) (hn : n ≤ 100000) : Calls Try.prog 38 #[v] w fun e w' => ∃ v', e = .returned v' ∧ RdR 1 w' v' n cs ∧ Bw w w' ∧ Far2 w.heap.size v' := by
  have hv2 := hv
  obtain ⟨q, cap, rfl, hc1, hc2, -⟩ := hv
  have he := eqSliceNil w 25 _ q n cap Try.underlying25
  cases q with
  | none =>
    have h0 : n = 0 := Nat.eq_zero_of_not_pos (fun h => by obtain ⟨q, c, e, _, _, _, h5⟩ := hv2; simp at e; obtain ⟨rfl, _⟩ := e; obtain ⟨b, o, h6, _⟩ := h5 h; simp at h6)
    subst h0
    have hz : cs = [] := by obtain ⟨q, c, e, _, _, h4, _⟩ := hv2; exact List.eq_nil_of_length_eq_zero (by simpa using h4)
    subst hz
    go_enter Try.func38, Try.ntmps38
    go_wp2_with fail
    go_returns
    exact ⟨_, rfl, RdR.nil _ _, Bw.refl _, Far2.nil _⟩
  | some a =>
    have hown := OwnR.empty 84 1 (w0 := w) (Nat.le_refl w.heap.size)
    obtain ⟨v', w', hr, ho, hb⟩ := appS (ty := 25) infoCloneW Try.underlying25 rfl (by omega) (by omega) hown ((Bw.refl w).alloc _) (hv2.bw ((Bw.refl w).alloc _)) h1 (by omega)
    rw [Nat.zero_add, List.nil_append] at ho
    have HFin : Hid _ := (⟨ho.rd, hb, Far2.own ho⟩ : RdR 1 w' v' n cs ∧ Bw w w' ∧ Far2 w.heap.size v')
    clear ho hb hown hv2 h1
    go_enter Try.func38, Try.ntmps38
    go_wp2_with (first | (at_builtin; refine wpApp rfl _ _ 25 rfl rfl rfl hr ?_) | go_in)
    go_returns
    exact ⟨_, rfl, HFin⟩
end Go.Proofs.Ytncidjkkngbclaa
namespace Go.Proofs.Ytncidjkkngbclaa
open Go.ChangeShapes Go.WideShapes Go.ChangeAt Go.RowKit

/-- What is used: of one that may not be, an empty one. -/
def Fee.beg (f : Fee.Fd) : Fee.Fd := if Fee.good f = true then f else Fee.noFd
theorem Fee.good_len {f : Fee.Fd} (h : Fee.good f = true) : f.short.length ≤ 64 ∧ f.random.length ≤ 4096 ∧ f.clock.length ≤ 64 ∧ f.args.length ≤ 16 ∧ f.input.length ≤ 4096 ∧ f.files.length ≤ 8 := by
  unfold Fee.good Fee.argsOk Fee.shortOk Fee.filesOk at h
  simp only [Bool.and_eq_true, decide_eq_true_eq] at h
  obtain ⟨⟨⟨⟨⟨⟨h1, _⟩, h2⟩, h3, _⟩, h4⟩, h5⟩, h6, _⟩ := h
  exact ⟨h3, h4, h5, h1, h2, h6⟩
theorem Fee.beg_len (f : Fee.Fd) : (Fee.beg f).short.length ≤ 64 ∧ (Fee.beg f).random.length ≤ 4096 ∧ (Fee.beg f).clock.length ≤ 64 := by
  unfold Fee.beg
  split
  · rename_i h
    have := Fee.good_len h
    exact ⟨this.1, this.2.1, this.2.2.1⟩
  · simp [Fee.noFd]
theorem one_of {α : Type} {F : α → Value} (hF : ∀ x, (F x).oneCell' = true) (l : List α) : ∀ u ∈ l.map F, u.oneCell' = true := fun u hu => by
  obtain ⟨x, _, rfl⟩ := List.mem_map.1 hu; exact hF x
theorem Far2.to {N ub : Nat} {v : Value} (h : Far2 N v) (hl : ub < N) : Far ub v := fun q k c e hk => by have := h q k c e hk; omega
/-- Blocks that are there. -/
def Lo (N : Nat) (v : Value) : Prop := ∀ q k c, v = .slice (some q) k c → 0 < k → q.block < N
theorem RdR.lo {sz n : Nat} {w : World} {v : Value} {cs : List Value} (h : RdR sz w v n cs) : Lo w.heap.size v := fun q k c e hk => by
  obtain ⟨q', cap, h1, h2, h3, h4, h5⟩ := h
  rw [h1] at e
  simp at e
  obtain ⟨rfl, rfl, rfl⟩ := e
  obtain ⟨b, o, h6, h7, _⟩ := h5 hk
  simp at h6
  subst h6
  exact h7
theorem Lo.to {N ub : Nat} {v : Value} (h : Lo N v) (hl : N ≤ ub) : Far ub v := fun q k c e hk => by have := h q k c e hk; omega
theorem Far2.le {N M : Nat} {v : Value} (h : Far2 N v) (k : M ≤ N) : Far2 M v := fun q n c e hk => Nat.le_trans k (h q n c e hk)
/-- A feed that is used: its slices lie from N on. -/
def FarU (w : World) (ub N : Nat) : Prop := ∀ j v, j < 3 → w.cell? ⟨ub, j, none⟩ = some v → Far2 N v
theorem FarU.blk {w w' : World} {ub N : Nat} (h : FarU w ub N) (e : w'.heap[ub]? = w.heap[ub]?) : FarU w' ub N := fun j v hj hc => h j v hj ((cell_block (p := ⟨ub, j, none⟩) e).symm.trans hc)
theorem FarU.mk {w : World} {ub N : Nat} {a b c : Value} {vs : List Value} (h : Box w ub (a :: b :: c :: vs)) (ha : Far2 N a) (hb : Far2 N b) (hc : Far2 N c) : FarU w ub N := fun j v hj e => by
  obtain rfl | rfl | rfl : j = 0 ∨ j = 1 ∨ j = 2 := by omega
  · rw [h.c 0 _ rfl] at e; obtain rfl := Option.some.inj e; exact ha
  · rw [h.c 1 _ rfl] at e; obtain rfl := Option.some.inj e; exact hb
  · rw [h.c 2 _ rfl] at e; obtain rfl := Option.some.inj e; exact hc
/-- .. stands where another box was written. -/
theorem UseS.far {w w' : World} {pb ub N : Nat} {sh rd ck : List Int} {a b c : Nat} (h : UseS w ub sh rd ck a b c) (hf : FarU w ub N) (hp : pb < N) (g : Bq pb w w') (hn : ub ≠ pb) : UseS w' ub sh rd ck a b c ∧ FarU w' ub N := by
  have hlt := h.lt
  obtain ⟨⟨vs, vr, vc, h1, h2, h3, h4, h5, h6, h7⟩, la, lb, lc⟩ := h
  exact ⟨⟨⟨vs, vr, vc, h1.q g hn, RdR.q h2 g ((hf 0 _ (by omega) (h1.c 0 _ rfl)).to hp), RdR.q h3 g ((hf 1 _ (by omega) (h1.c 1 _ rfl)).to hp), RdR.q h4 g ((hf 2 _ (by omega) (h1.c 2 _ rfl)).to hp), h5, h6, h7⟩, la, lb, lc⟩, hf.blk (g.block ub hlt hn)⟩
set_option maxHeartbeats 2000000 in
set_option maxRecDepth 100000 in
theorem Begin_c (v : Value) (f : Fee.Fd) (w : World) (hv : IsFd w v f) : Calls Try.prog 24 #[v] w fun e w' => ∃ ub, e = .returned (.pointer (some ⟨ub, 0, none⟩)) ∧ w.heap.size ≤ ub ∧ Bw w w' ∧ UseS w' ub (Fee.beg f).short (Fee.beg f).random (Fee.beg f).clock 0 0 0 ∧ FarU w' ub w.heap.size := by
  have hG := fun X (g : Bw w X) => Good_c v f X (hv.bw g)
  obtain ⟨va, vi, vs, vr, vc, vf, rfl, ha, hi, hs, hr, hc, hf, -⟩ := hv
  obtain ⟨qa, ca, rfl, -⟩ := RdR.form ha
  obtain ⟨qi, ci, rfl, -⟩ := Rd8.open hi
  obtain ⟨qf, cf, rfl, -⟩ := hf.form
  cases hgd : Fee.good f with
  | false =>
    have hb : Fee.beg f = Fee.noFd := by unfold Fee.beg; rw [hgd]; rfl
    rw [hb]
    simp only [hgd] at hG
    obtain ⟨qr, cr, rfl, -⟩ := Rd8.open hr
    obtain ⟨qc, cc, rfl, -⟩ := RdR.form hc
    obtain ⟨qs, cs, rfl, -⟩ := RdR.form hs
    clear ha hi hs hr hc hf
    go_enter Try.func24, Try.ntmps24
    go_wp2_with (first | (go_at_call 36; refine (hG _ ((Bw.refl _).alloc _)).mono ?_; rintro e w2 ⟨rfl, h2⟩))
    go_returns
    have h2' : Bw w w2 := ((Bw.refl w).alloc _).trans h2
    exact ⟨_, rfl, h2'.size, h2'.alloc _, ⟨⟨.slice none 0 0, .slice none 0 0, .slice none 0 0, Box.new w2 [.slice none 0 0, .slice none 0 0, .slice none 0 0, .int .i64 0, .int .i64 0, .int .i64 0] _, RdR.nil _ _, RdR.nil _ _, RdR.nil _ _, (fun _ _ _ e => by simp at e), (fun _ _ _ e => by simp at e), (fun _ _ _ e => by simp at e)⟩, Nat.le_refl _, Nat.le_refl _, Nat.le_refl _⟩, FarU.mk (Box.new w2 [.slice none 0 0, .slice none 0 0, .slice none 0 0, .int .i64 0, .int .i64 0, .int .i64 0] _) (Far2.nil _) (Far2.nil _) (Far2.nil _)⟩
  | true =>
    have hb : Fee.beg f = f := by unfold Fee.beg; rw [hgd]; rfl
    obtain ⟨l1, l2, l3, -⟩ := Fee.good_len hgd
    rw [hb]
    simp only [hgd] at hG
    have hS := fun X (g : Bw w X) => CloneI_c vs _ _ X (RdR.bw hs g) (one_of (fun _ => rfl) _) (by omega)
    have hR := fun X (g : Bw w X) => CloneB_c vr _ _ X (RdR.bw hr g) (one_of (fun _ => rfl) _) (by omega)
    have hC := fun X (g : Bw w X) => CloneW_c vc _ _ X (RdR.bw hc g) (one_of (fun _ => rfl) _) (by omega)
    obtain ⟨qr, cr, rfl, -⟩ := Rd8.open hr
    obtain ⟨qc, cc, rfl, -⟩ := RdR.form hc
    obtain ⟨qs, cs, rfl, -⟩ := RdR.form hs
    clear ha hi hs hr hc hf hb hgd l1 l2 l3
    go_enter Try.func24, Try.ntmps24
    go_wp2_with (first | (go_at_call 36; refine (hG _ ((Bw.refl _).alloc _)).mono ?_; rintro e w2 ⟨rfl, h2⟩))
    have hBx := (Box.new w [.slice qa f.args.length ca, .slice qi f.input.length ci, .slice qs f.short.length cs, .slice qr f.random.length cr, .slice qc f.clock.length cc, .slice qf f.files.length cf] 28).bw h2
    have hbB : Bw w w2 := ((Bw.refl w).alloc _).trans h2
    clear h2 hG
    generalize w.heap.size = fb at hBx ⊢
    have hB : Bw w2 w2.drew := (Bw.refl w2).drew
    have hHold : ∀ X, Bw w2 X → (X.cell? ⟨fb, 2, none⟩ = some (.slice qs f.short.length cs) ∧ X.cell? ⟨fb, 3, none⟩ = some (.slice qr f.random.length cr) ∧ X.cell? ⟨fb, 4, none⟩ = some (.slice qc f.clock.length cc)) := fun X g => ⟨g.keep (hBx.c 2 _ rfl), g.keep (hBx.c 3 _ rfl), g.keep (hBx.c 4 _ rfl)⟩
    refine wp_region_held_drew (S := fun X => X.cell? ⟨fb, 2, none⟩ = some (.slice qs f.short.length cs) ∧ X.cell? ⟨fb, 3, none⟩ = some (.slice qr f.random.length cr) ∧ X.cell? ⟨fb, 4, none⟩ = some (.slice qc f.clock.length cc)) (by kernel_rfl) (hHold _ hB) (fun hHeld => ?_)
    refine wpAnyH_take (i := 0) (oi := ⟨some 8, _, _, _, _, _⟩) (v := ?_) rfl (by kernel_rfl) (by kernel_rfl) (by kernel_rfl) (fun _ _ _ h => h) (Or.inl ⟨by rfl, ?_⟩) (by assumption) ?_; (rotate_left 1); (focus (intro wz hSw; (try dsimp only at hSw); go_simp; try (with_reducible rfl))); simp only [Act.put, List.setIfInBounds_toArray, List.set_cons_zero, List.set_cons_succ]
    refine wpAnyH_take (i := 1) (oi := ⟨some 9, _, _, _, _, _⟩) (v := ?_) rfl (by kernel_rfl) (by kernel_rfl) (by kernel_rfl) (fun _ _ _ h => h) (Or.inl ⟨by rfl, ?_⟩) (by assumption) ?_; (rotate_left 1); (focus (intro wz hSw; (try dsimp only at hSw); go_simp; try (with_reducible rfl))); simp only [Act.put, List.setIfInBounds_toArray, List.set_cons_zero, List.set_cons_succ]
    refine wpAnyH_take (i := 3) (oi := ⟨some 11, _, _, _, _, _⟩) (v := ?_) rfl (by kernel_rfl) (by kernel_rfl) (by kernel_rfl) (fun _ _ _ h => h) (Or.inl ⟨by rfl, ?_⟩) (by assumption) ?_; (rotate_left 1); (focus (intro wz hSw; (try dsimp only at hSw); go_simp; try (with_reducible rfl))); simp only [Act.put, List.setIfInBounds_toArray, List.set_cons_zero, List.set_cons_succ]
    refine wpAnyH_take (i := 4) (oi := ⟨some 12, _, _, _, _, _⟩) (v := ?_) rfl (by kernel_rfl) (by kernel_rfl) (by kernel_rfl) (fun _ _ _ h => h) (Or.inl ⟨by rfl, ?_⟩) (by assumption) ?_; (rotate_left 1); (focus (intro wz hSw; (try dsimp only at hSw); go_simp; try (with_reducible rfl))); simp only [Act.put, List.setIfInBounds_toArray, List.set_cons_zero, List.set_cons_succ]
    refine wpAnyH_take (i := 6) (oi := ⟨some 14, _, _, _, _, _⟩) (v := ?_) rfl (by kernel_rfl) (by kernel_rfl) (by kernel_rfl) (fun _ _ _ h => h) (Or.inl ⟨by rfl, ?_⟩) (by assumption) ?_; (rotate_left 1); (focus (intro wz hSw; (try dsimp only at hSw); go_simp; try (with_reducible rfl))); simp only [Act.put, List.setIfInBounds_toArray, List.set_cons_zero, List.set_cons_succ]
    refine wpAnyH_take (i := 7) (oi := ⟨some 15, _, _, _, _, _⟩) (v := ?_) rfl (by kernel_rfl) (by kernel_rfl) (by kernel_rfl) (fun _ _ _ h => h) (Or.inl ⟨by rfl, ?_⟩) (by assumption) ?_; (rotate_left 1); (focus (intro wz hSw; (try dsimp only at hSw); go_simp; try (with_reducible rfl))); simp only [Act.put, List.setIfInBounds_toArray, List.set_cons_zero, List.set_cons_succ]
    refine wpAnyH_ready (rs := [2]) (by kernel_rfl) (by simp) ?_; refine AllReadyH.cons rfl (fun K hK => ?_) AllReadyH.nil; go_simp
    refine (hS _ (hbB.trans hB)).mono ?_
    rintro e w3 ⟨us, rfl, r3, h3, f3⟩
    have g3 := f3.le (hbB.trans hB).size
    replace f3 := r3.lo
    obtain ⟨qr3, cr3, rfl, -⟩ := r3.form
    replace hB := hB.trans h3
    (try clear hHeld); refine hK.out _ _ ?_ (fun hHeld => ?_)
    · exact hHold _ hB
    refine wpAnyH_ready (rs := [5]) (by kernel_rfl) (by simp) ?_; refine AllReadyH.cons rfl (fun K hK => ?_) AllReadyH.nil; go_simp
    refine (hR _ (hbB.trans hB)).mono ?_
    rintro e w4 ⟨ur, rfl, r4, h4, f4⟩
    have g4 := f4.le (hbB.trans hB).size
    replace f4 := r4.lo
    obtain ⟨qr4, cr4, rfl, -⟩ := r4.form
    replace r3 := r3.bw h4
    replace hB := hB.trans h4
    (try clear hHeld); refine hK.out _ _ ?_ (fun hHeld => ?_)
    · exact hHold _ hB
    refine wpAnyH_ready (rs := [8]) (by kernel_rfl) (by simp) ?_; refine AllReadyH.cons rfl (fun K hK => ?_) AllReadyH.nil; go_simp
    refine (hC _ (hbB.trans hB)).mono ?_
    rintro e w5 ⟨uc, rfl, r5, h5, f5⟩
    have g5 := f5.le (hbB.trans hB).size
    replace f5 := r5.lo
    obtain ⟨qr5, cr5, rfl, -⟩ := r5.form
    replace r3 := r3.bw h5
    replace r4 := r4.bw h5
    replace hB := hB.trans h5
    (try clear hHeld); refine hK.out _ _ ?_ (fun hHeld => ?_)
    · exact hHold _ hB
    refine wpAnyH_take (i := 9) (oi := ⟨some 17, _, _, _, _, _⟩) (v := ?_) rfl (by kernel_rfl) (by kernel_rfl) (by kernel_rfl) (fun _ _ _ h => h) (Or.inl ⟨by rfl, ?_⟩) (by assumption) ?_; (rotate_left 1); (focus (intro wz hSw; (try dsimp only at hSw); go_simp; try (with_reducible rfl))); simp only [Act.put, List.setIfInBounds_toArray, List.set_cons_zero, List.set_cons_succ]
    refine wpAnyH_ready (rs := [10]) (by kernel_rfl) (by simp) ?_; refine AllReadyH.cons rfl (fun K hK => ?_) AllReadyH.nil; go_simp
    (try clear hHeld); refine hK.out _ _ ?_ (fun hHeld => ?_)
    · exact hHold _ (hB.alloc _)
    refine wpAnyH_take (i := 11) (oi := ⟨some 2, _, _, _, _, _⟩) (v := ?_) rfl (by kernel_rfl) (by kernel_rfl) (by kernel_rfl) (fun _ _ _ h => h) (Or.inl ⟨by rfl, ?_⟩) (by assumption) ?_; (rotate_left 1); (focus (intro wz hSw; (try dsimp only at hSw); go_simp; try (with_reducible rfl))); simp only [Act.put, List.setIfInBounds_toArray, List.set_cons_zero, List.set_cons_succ]
    refine wpAnyH_done (by kernel_rfl) ?_ _
    have hx := Box.new w5 [.slice qr3 f.short.length cr3, .slice qr4 f.random.length cr4, .slice qr5 f.clock.length cr5, .int .i64 0, .int .i64 0, .int .i64 0] 81
    have gA : Bw w5 (w5.alloc (.cells [Value.slice qr3 f.short.length cr3, .slice qr4 f.random.length cr4, .slice qr5 f.clock.length cr5, .int .i64 0, .int .i64 0, .int .i64 0].toArray 81)) := (Bw.refl w5).alloc _
    have HFin : Hid _ := (⟨(hbB.trans hB).size, (hbB.trans hB).alloc _, ⟨⟨_, _, _, hx, RdR.bw r3 gA, Rd8.bw r4 gA, RdR.bw r5 gA, f3.to (Nat.le_trans h4.size h5.size), f4.to h5.size, f5.to (Nat.le_refl _)⟩, Nat.zero_le _, Nat.zero_le _, Nat.zero_le _⟩, FarU.mk hx g3 g4 g5⟩ : w.heap.size ≤ w5.heap.size ∧ Bw w (w5.alloc (.cells [Value.slice qr3 f.short.length cr3, .slice qr4 f.random.length cr4, .slice qr5 f.clock.length cr5, .int .i64 0, .int .i64 0, .int .i64 0].toArray 81)) ∧ UseS (w5.alloc (.cells [Value.slice qr3 f.short.length cr3, .slice qr4 f.random.length cr4, .slice qr5 f.clock.length cr5, .int .i64 0, .int .i64 0, .int .i64 0].toArray 81)) w5.heap.size f.short f.random f.clock 0 0 0 ∧ FarU (w5.alloc (.cells [Value.slice qr3 f.short.length cr3, .slice qr4 f.random.length cr4, .slice qr5 f.clock.length cr5, .int .i64 0, .int .i64 0, .int .i64 0].toArray 81)) w5.heap.size w.heap.size)
    clear hx gA
    go_wp2_with fail
    go_returns
    exact ⟨_, rfl, HFin⟩
end Go.Proofs.Ytncidjkkngbclaa
namespace Go.Proofs.Ytncidjkkngbclaa
open Go.ChangeShapes Go.WideShapes Go.ChangeAt Go.RowKit

set_option maxHeartbeats 2000000 in
set_option maxRecDepth 100000 in
theorem Copy_c (w : World) (ub : Nat) (sh rd ck : List Int) (a b c : Nat) (h : UseS w ub sh rd ck a b c) (l1 : sh.length ≤ 10000) (l2 : rd.length ≤ 10000) (l3 : ck.length ≤ 10000) :
    Calls Try.prog 33 #[.pointer (some ⟨ub, 0, none⟩)] w fun e w' => ∃ ob, e = .returned (.pointer (some ⟨ob, 0, none⟩)) ∧ w.heap.size ≤ ob ∧ Bw w w' ∧ UseS w' ob sh rd ck a b c ∧ FarU w' ob w.heap.size := by
  have hub := h.lt
  obtain ⟨⟨vs, vr, vc, hb, hS, hR, hC, f1, f2, f3⟩, la, lb, lc⟩ := h
  have hSc := fun X (g : Bw w X) => CloneI_c vs _ _ X (RdR.bw hS g) (one_of (fun _ => rfl) _) (by omega)
  have hRc := fun X (g : Bw w X) => CloneB_c vr _ _ X (RdR.bw hR g) (one_of (fun _ => rfl) _) (by omega)
  have hCc := fun X (g : Bw w X) => CloneW_c vc _ _ X (RdR.bw hC g) (one_of (fun _ => rfl) _) (by omega)
  obtain ⟨qr, cr, rfl, -⟩ := Rd8.open hR
  obtain ⟨qc, cc, rfl, -⟩ := RdR.form hC
  obtain ⟨qs, cs, rfl, -⟩ := RdR.form hS
  have b0 := hb.c 0 _ rfl; have b1 := hb.c 1 _ rfl; have b2 := hb.c 2 _ rfl; have b3 := hb.c 3 _ rfl; have b4 := hb.c 4 _ rfl; have b5 := hb.c 5 _ rfl
  have hne : ub ≠ w.heap.size := by omega
  clear f1 f2 f3 hS hR hC
  go_enter Try.func33, Try.ntmps33
  have hX0 := Box.new w [.slice qs sh.length cs, .slice qr rd.length cr, .slice qc ck.length cc, .int .i64 a, .int .i64 b, .int .i64 c] 81
  have g0 : Bw w (w.alloc (.cells #[.slice qs sh.length cs, .slice qr rd.length cr, .slice qc ck.length cc, .int .i64 a, .int .i64 b, .int .i64 c] 81)) := (Bw.refl w).alloc _
  go_wp2_with fail
  refine (hSc _ g0).mono ?_
  rintro e w1 ⟨us, rfl, r1, h1, f1⟩
  obtain ⟨q1, c1, rfl, -⟩ := r1.form
  have t1 : Far w.heap.size (.slice q1 sh.length c1) := f1.to (by rw [World.size_alloc]; omega)
  replace f1 := f1.le g0.size
  have hX1 := hX0.bw h1
  have hb1 := hb.bw (g0.trans h1)
  replace g0 := g0.trans h1
  generalize hob : w.heap.size = ob at *
  have hl1 := r1.lo
  clear hX0 h1 b0 b1 b2 b3 b4 b5
  have x0 := hX1.c 0 _ rfl; have x0f := hX1.f 0 (by simp)
  have d1 := hb1.c 1 _ rfl
  have g1 : Bw w (w1.setCell ⟨ob, 0, none⟩ (.slice q1 sh.length c1)) := g0.setCell (by rw [hob]; exact Nat.le_refl _) _
  have q1' : Bq ob w1 (w1.setCell ⟨ob, 0, none⟩ (.slice q1 sh.length c1)) := (Bq.refl _ _).set 0 _
  have hX1' := hX1.set 0 (by simp) (.slice q1 sh.length c1)
  have hb1' := hb1.q q1' hne
  have u1 := hb1'.c 1 _ rfl
  clear x0 x0f d1
  have x0 := hX1.c 0 _ rfl; have x0f := hX1.f 0 (by simp)
  go_wp2_with fail
  refine (hRc _ g1).mono ?_
  rintro e w2 ⟨ur, rfl, r2, h2, f2⟩
  obtain ⟨q2, c2, rfl, -⟩ := r2.form
  have t2 : Far ob (.slice q2 rd.length c2) := f2.to (Nat.lt_of_lt_of_le hX1.lt q1'.b0.size)
  replace f2 := f2.le (Nat.le_trans g0.size q1'.b0.size)
  have hX2 := hX1'.bw h2
  have hb2 := hb1'.bw h2
  replace r1 := RdR.bw (RdR.q r1 q1' t1) h2
  replace g1 := g1.trans h2
  clear hX1 hb1 x0 x0f u1 hX1' hb1' h2
  have x1 := hX2.c 1 _ rfl; have x1f := hX2.f 1 (by simp)
  have g2 : Bw w (w2.setCell ⟨ob, 1, none⟩ (.slice q2 rd.length c2)) := g1.setCell (by rw [hob]; exact Nat.le_refl _) _
  have q2' : Bq ob w2 (w2.setCell ⟨ob, 1, none⟩ (.slice q2 rd.length c2)) := (Bq.refl _ _).set 1 _
  have hX2' := hX2.set 1 (by simp) (.slice q2 rd.length c2)
  have hb2' := hb2.q q2' hne
  have u2 := hb2'.c 2 _ rfl
  go_wp2_with fail
  refine (hCc _ g2).mono ?_
  rintro e w3 ⟨uc, rfl, r3, h3, f3⟩
  obtain ⟨q3, c3, rfl, -⟩ := r3.form
  have t3 : Far ob (.slice q3 ck.length c3) := f3.to (Nat.lt_of_lt_of_le hX2.lt q2'.b0.size)
  replace f3 := f3.le (Nat.le_trans g1.size q2'.b0.size)
  have hX3 := hX2'.bw h3
  replace r1 := RdR.bw (RdR.q r1 q2' t1) h3
  replace r2 := RdR.bw (RdR.q r2 q2' t2) h3
  replace g2 := g2.trans h3
  clear hX2 hb2 x1 x1f u2 hX2' hb2' h3
  have x2 := hX3.c 2 _ rfl; have x2f := hX3.f 2 (by simp)
  have g3 : Bw w (w3.setCell ⟨ob, 2, none⟩ (.slice q3 ck.length c3)) := g2.setCell (by rw [hob]; exact Nat.le_refl _) _
  have q3' : Bq ob w3 (w3.setCell ⟨ob, 2, none⟩ (.slice q3 ck.length c3)) := (Bq.refl _ _).set 2 _
  have hX3' := hX3.set 2 (by simp) (.slice q3 ck.length c3)
  have HFin : Hid _ := (⟨Nat.le_of_eq hob, g3, ⟨⟨_, _, _, hX3', RdR.q r1 q3' t1, RdR.q r2 q3' t2, RdR.q r3 q3' t3, t1, t2, t3⟩, la, lb, lc⟩, FarU.mk hX3' (f1.le (Nat.le_of_eq hob)) f2 f3⟩ : w.heap.size ≤ ob ∧ Bw w (w3.setCell ⟨ob, 2, none⟩ (.slice q3 ck.length c3)) ∧ UseS (w3.setCell ⟨ob, 2, none⟩ (.slice q3 ck.length c3)) ob sh rd ck a b c ∧ FarU (w3.setCell ⟨ob, 2, none⟩ (.slice q3 ck.length c3)) ob w.heap.size)
  clear hX3 hX3' r1 r2 r3 g3 q3' hSc hRc hCc
  go_wp2_with fail
  go_returns
  rw [hob] at HFin ⊢
  exact ⟨_, rfl, HFin⟩
end Go.Proofs.Ytncidjkkngbclaa
namespace Go.Proofs.Ytncidjkkngbclaa
open Go.ChangeShapes Go.WideShapes Go.ChangeAt Go.RowKit

theorem Bq.ap {pb : Nat} {a w w' : World} {v v' : Value} (h : Bq pb a w) (k : Ap w w' v v') (ho : ∀ j, v.ownBlock = some j → a.heap.size ≤ j) : Bq pb a w' :=
  ⟨h.b0.trans k.b, fun i hi hn => (k.block i (Nat.lt_of_lt_of_le hi h.b0.size) (fun e => by have := ho i e; omega)).trans (h.block i hi hn)⟩
theorem OwnR.own {e sz n : Nat} {cs : List Value} {a w : World} {v : Value} (h : OwnR e sz a w v n cs) : ∀ j, v.ownBlock = some j → a.heap.size ≤ j ∧ j < w.heap.size := fun j hj => by
  rcases h.2 with ⟨h2, _⟩ | ⟨b, cap, cur, h3, h4, h5, h6⟩
  · rw [h2] at hj; simp [Value.ownBlock] at hj
  · rw [h3] at hj; simp [Value.ownBlock] at hj; subst hj; exact ⟨h4, (Array.getElem?_eq_some_iff.1 h5).1⟩
/-- append of one element onto a slice of the call's own: that slice's block alone was written. -/
theorem appA {e sz bytes : Nat} {z : Value} {t ty : TypeId} (hinf : (Try.prog.info? e).map (fun i => (i.zero, i.size, i.bytes)) = some (some z, sz, bytes)) (ht : Try.prog.underlying t = some (.slice e)) (hzs : z.cells.size = sz) (hsz : 0 < sz) (hby : bytes ≤ 100)
    {a wr : World} {v : Value} {n : Nat} {cs : List Value} (hown : OwnR e sz a wr v n cs) (hle : a.heap.size ≤ wr.heap.size) (c : Nat) (news : List Value) (hl : news.length = sz) (h1 : ∀ u ∈ news, u.oneCell' = true) (hn : n ≤ 10000) :
    ∃ v' w', (Builtin.append_ #[t, t] ty #[v, .slice (some ⟨wr.heap.size, 0, none⟩) 1 c]).run Try.prog (wr.alloc (.cells news.toArray e)) = .ok v' w' ∧ OwnR e sz a w' v' (n + 1) (cs ++ news) ∧ Ap wr w' v v' := by
  obtain ⟨i, hi, he⟩ := Option.map_eq_some_iff.1 hinf
  simp only [Prod.mk.injEq] at he
  obtain ⟨hz, hs, hb⟩ := he
  have hmul : (n + 1) * bytes ≤ 10001 * 100 := Nat.mul_le_mul (by omega) hby
  have hoA := OwnR.bw hown ((Bw.refl wr).alloc (.cells news.toArray e))
  obtain ⟨v', w', hr, ho, hg, -, hloc⟩ := run_append_own_at (P := Try.prog) (w := wr.alloc (.cells news.toArray e)) a.heap.size t ty e i z sz bytes ht hi hz hs hb hzs hsz v n cs hoA ⟨wr.heap.size, 0, none⟩ 1 c news (by omega) (cell_new wr news e) h1 (by unfold maxLen; omega) (by omega) (by simp; omega)
  refine ⟨v', w', hr, ho, (Ap.refl wr v).alloc (.cells news.toArray e) |>.trans ⟨⟨hg.os, hg.tape, hg.output, hg.size, fun k hk => by omega⟩, fun k hk hkn => hg.block k hk (fun e => hkn e.symm), ?_⟩⟩
  rcases hloc with h | h
  · exact Or.inl h
  · exact Or.inr ⟨_, Nat.le_refl _, h⟩
theorem Rd8.ap {w w' : World} {v v' u : Value} {l : List Int} (h : Rd8 w u l) (k : Ap w w' v v') (hn : ∀ b n c, u = .slice (some b) n c → 0 < n → v.ownBlock ≠ some b.block) : Rd8 w' u l := by
  obtain ⟨q, cap, h1, h2, h3, h4, h5⟩ := h
  refine ⟨q, cap, h1, h2, h3, h4, fun h0 => ?_⟩
  obtain ⟨b', o, rfl, h7, h8⟩ := h5 h0
  have hb := hn _ _ _ h1 h0
  exact ⟨b', o, rfl, Nat.lt_of_lt_of_le h7 k.b.size, fun j x hj => (k.cell (p := ⟨b', o + j, none⟩) h7 hb).trans (h8 j x hj)⟩
theorem Rd8.lt {w : World} {u : Value} {l : List Int} (h : Rd8 w u l) : ∀ b n c, u = .slice (some b) n c → 0 < n → b.block < w.heap.size := fun b n c e hn => by
  obtain ⟨q, cap, h1, h2, h3, h4, h5⟩ := h
  rw [h1] at e
  simp at e
  obtain ⟨rfl, rfl, rfl⟩ := e
  obtain ⟨b', o, h6, h7, h8⟩ := h5 hn
  simp at h6
  subst h6
  exact h7
theorem OwnR.heap {e sz n : Nat} {cs : List Value} {a w w' : World} {v : Value} (h : OwnR e sz a w v n cs) (he : ∀ j, v.ownBlock = some j → w'.heap[j]? = w.heap[j]?) : OwnR e sz a w' v n cs := by
  obtain ⟨h1, h2⟩ := h
  refine ⟨h1, ?_⟩
  rcases h2 with h2 | ⟨b, cap, cur, rfl, h4, h5, h6⟩
  · exact Or.inl h2
  · exact Or.inr ⟨b, cap, cur, rfl, h4, (he b rfl).trans h5, h6⟩
theorem Own8.heap {w0 w w' : World} {v : Value} {l : List Int} (h : Own8 w0 w v l) (he : ∀ j, v.ownBlock = some j → w'.heap[j]? = w.heap[j]?) : Own8 w0 w' v l := by
  rcases h with h | ⟨g, cap, rfl, h1, h2, h3, h4, h5, h6⟩
  · exact Or.inl h
  · have hb := he g rfl
    have hlt : g < w'.heap.size := by
      apply Decidable.byContradiction
      intro hn
      have h1 : w'.heap[g]? = none := by simp; omega
      rw [h1] at hb
      simp at hb
      omega
    refine Or.inr ⟨g, cap, rfl, h1, hlt, h3, h4, fun j x hx => ?_, fun j hj => ?_⟩
    · rw [cell_block (p := ⟨g, j, none⟩) hb]; exact h5 j x hx
    · rw [cell_block (p := ⟨g, j, none⟩) hb, frozen_block (p := ⟨g, j, none⟩) hb]; exact h6 j hj
end Go.Proofs.Ytncidjkkngbclaa
