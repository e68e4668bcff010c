/- LAYER 9's walks: Begin. -/
import Derived.Test.YtaepjlaegldkhaaFeeW5
namespace Go.Proofs.Ytaepjlaegldkhaa
open Go.ChangeShapes Go.WideShapes Go.ChangeAt Go.RowKit

/-- What is used: of one that may not be, an empty one. -/
def Fee.beg (f : Fee.Fd) : Fee.Fd := if Fee.good f = true then f else Fee.noFd
theorem Fee.good_len {f : Fee.Fd} (h : Fee.good f = true) : f.short.length ≤ 64 ∧ f.random.length ≤ 4096 ∧ f.clock.length ≤ 64 ∧ f.args.length ≤ 16 ∧ f.input.length ≤ 4096 ∧ f.files.length ≤ 8 := by
  unfold Fee.good Fee.argsOk Fee.shortOk Fee.filesOk at h
  simp only [Bool.and_eq_true, decide_eq_true_eq] at h
  obtain ⟨⟨⟨⟨⟨⟨h1, _⟩, h2⟩, h3, _⟩, h4⟩, h5⟩, h6, _⟩ := h
  exact ⟨h3, h4, h5, h1, h2, h6⟩
theorem Fee.beg_len (f : Fee.Fd) : (Fee.beg f).short.length ≤ 64 ∧ (Fee.beg f).random.length ≤ 4096 ∧ (Fee.beg f).clock.length ≤ 64 := by
  unfold Fee.beg
  split
  · rename_i h
    have := Fee.good_len h
    exact ⟨this.1, this.2.1, this.2.2.1⟩
  · simp [Fee.noFd]
theorem one_of {α : Type} {F : α → Value} (hF : ∀ x, (F x).oneCell' = true) (l : List α) : ∀ u ∈ l.map F, u.oneCell' = true := fun u hu => by
  obtain ⟨x, _, rfl⟩ := List.mem_map.1 hu; exact hF x
theorem Far2.to {N ub : Nat} {v : Value} (h : Far2 N v) (hl : ub < N) : Far ub v := fun q k c e hk => by have := h q k c e hk; omega
/-- Blocks that are there. -/
def Lo (N : Nat) (v : Value) : Prop := ∀ q k c, v = .slice (some q) k c → 0 < k → q.block < N
theorem RdR.lo {sz n : Nat} {w : World} {v : Value} {cs : List Value} (h : RdR sz w v n cs) : Lo w.heap.size v := fun q k c e hk => by
  obtain ⟨q', cap, h1, h2, h3, h4, h5⟩ := h
  rw [h1] at e
  simp at e
  obtain ⟨rfl, rfl, rfl⟩ := e
  obtain ⟨b, o, h6, h7, _⟩ := h5 hk
  simp at h6
  subst h6
  exact h7
theorem Lo.to {N ub : Nat} {v : Value} (h : Lo N v) (hl : N ≤ ub) : Far ub v := fun q k c e hk => by have := h q k c e hk; omega
theorem Far2.le {N M : Nat} {v : Value} (h : Far2 N v) (k : M ≤ N) : Far2 M v := fun q n c e hk => Nat.le_trans k (h q n c e hk)
/-- A feed that is used: its slices lie from N on. -/
def FarU (w : World) (ub N : Nat) : Prop := ∀ j v, j < 3 → w.cell? ⟨ub, j, none⟩ = some v → Far2 N v
theorem FarU.blk {w w' : World} {ub N : Nat} (h : FarU w ub N) (e : w'.heap[ub]? = w.heap[ub]?) : FarU w' ub N := fun j v hj hc => h j v hj ((cell_block (p := ⟨ub, j, none⟩) e).symm.trans hc)
theorem FarU.mk {w : World} {ub N : Nat} {a b c : Value} {vs : List Value} (h : Box w ub (a :: b :: c :: vs)) (ha : Far2 N a) (hb : Far2 N b) (hc : Far2 N c) : FarU w ub N := fun j v hj e => by
  obtain rfl | rfl | rfl : j = 0 ∨ j = 1 ∨ j = 2 := by omega
  · rw [h.c 0 _ rfl] at e; obtain rfl := Option.some.inj e; exact ha
  · rw [h.c 1 _ rfl] at e; obtain rfl := Option.some.inj e; exact hb
  · rw [h.c 2 _ rfl] at e; obtain rfl := Option.some.inj e; exact hc
/-- .. stands where another box was written. -/
theorem UseS.far {w w' : World} {pb ub N : Nat} {sh rd ck : List Int} {a b c : Nat} (h : UseS w ub sh rd ck a b c) (hf : FarU w ub N) (hp : pb < N) (g : Bq pb w w') (hn : ub ≠ pb) : UseS w' ub sh rd ck a b c ∧ FarU w' ub N := by
  have hlt := h.lt
  obtain ⟨⟨vs, vr, vc, h1, h2, h3, h4, h5, h6, h7⟩, la, lb, lc⟩ := h
  exact ⟨⟨⟨vs, vr, vc, h1.q g hn, RdR.q h2 g ((hf 0 _ (by omega) (h1.c 0 _ rfl)).to hp), RdR.q h3 g ((hf 1 _ (by omega) (h1.c 1 _ rfl)).to hp), RdR.q h4 g ((hf 2 _ (by omega) (h1.c 2 _ rfl)).to hp), h5, h6, h7⟩, la, lb, lc⟩, hf.blk (g.block ub hlt hn)⟩
set_option maxHeartbeats 2000000 in
set_option maxRecDepth 100000 in
theorem Begin_c (v : Value) (f : Fee.Fd) (w : World) (hv : IsFd w v f) : Calls Try.prog 29 #[v] w fun e w' => ∃ ub, e = .returned (.pointer (some ⟨ub, 0, none⟩)) ∧ w.heap.size ≤ ub ∧ Bw w w' ∧ UseS w' ub (Fee.beg f).short (Fee.beg f).random (Fee.beg f).clock 0 0 0 ∧ FarU w' ub w.heap.size := by
  have hG := fun X (g : Bw w X) => Good_c v f X (hv.bw g)
  obtain ⟨va, vi, vs, vr, vc, vf, rfl, ha, hi, hs, hr, hc, hf, -⟩ := hv
  obtain ⟨qa, ca, rfl, -⟩ := RdR.form ha
  obtain ⟨qi, ci, rfl, -⟩ := Rd8.open hi
  obtain ⟨qf, cf, rfl, -⟩ := hf.form
  cases hgd : Fee.good f with
  | false =>
    have hb : Fee.beg f = Fee.noFd := by unfold Fee.beg; rw [hgd]; rfl
    rw [hb]
    simp only [hgd] at hG
    obtain ⟨qr, cr, rfl, -⟩ := Rd8.open hr
    obtain ⟨qc, cc, rfl, -⟩ := RdR.form hc
    obtain ⟨qs, cs, rfl, -⟩ := RdR.form hs
    clear ha hi hs hr hc hf
    go_enter Try.func29, Try.ntmps29
    go_wp2_with (first | (go_at_call 41; refine (hG _ ((Bw.refl _).alloc _)).mono ?_; rintro e w2 ⟨rfl, h2⟩))
    go_returns
    have h2' : Bw w w2 := ((Bw.refl w).alloc _).trans h2
    exact ⟨_, rfl, h2'.size, h2'.alloc _, ⟨⟨.slice none 0 0, .slice none 0 0, .slice none 0 0, Box.new w2 [.slice none 0 0, .slice none 0 0, .slice none 0 0, .int .i64 0, .int .i64 0, .int .i64 0] _, RdR.nil _ _, RdR.nil _ _, RdR.nil _ _, (fun _ _ _ e => by simp at e), (fun _ _ _ e => by simp at e), (fun _ _ _ e => by simp at e)⟩, Nat.le_refl _, Nat.le_refl _, Nat.le_refl _⟩, FarU.mk (Box.new w2 [.slice none 0 0, .slice none 0 0, .slice none 0 0, .int .i64 0, .int .i64 0, .int .i64 0] _) (Far2.nil _) (Far2.nil _) (Far2.nil _)⟩
  | true =>
    have hb : Fee.beg f = f := by unfold Fee.beg; rw [hgd]; rfl
    obtain ⟨l1, l2, l3, -⟩ := Fee.good_len hgd
    rw [hb]
    simp only [hgd] at hG
    have hS := fun X (g : Bw w X) => CloneI_c vs _ _ X (RdR.bw hs g) (one_of (fun _ => rfl) _) (by omega)
    have hR := fun X (g : Bw w X) => CloneB_c vr _ _ X (RdR.bw hr g) (one_of (fun _ => rfl) _) (by omega)
    have hC := fun X (g : Bw w X) => CloneW_c vc _ _ X (RdR.bw hc g) (one_of (fun _ => rfl) _) (by omega)
    obtain ⟨qr, cr, rfl, -⟩ := Rd8.open hr
    obtain ⟨qc, cc, rfl, -⟩ := RdR.form hc
    obtain ⟨qs, cs, rfl, -⟩ := RdR.form hs
    clear ha hi hs hr hc hf hb hgd l1 l2 l3
    go_enter Try.func29, Try.ntmps29
    go_wp2_with (first | (go_at_call 41; refine (hG _ ((Bw.refl _).alloc _)).mono ?_; rintro e w2 ⟨rfl, h2⟩))
    have hBx := (Box.new w [.slice qa f.args.length ca, .slice qi f.input.length ci, .slice qs f.short.length cs, .slice qr f.random.length cr, .slice qc f.clock.length cc, .slice qf f.files.length cf] 33).bw h2
    have hbB : Bw w w2 := ((Bw.refl w).alloc _).trans h2
    clear h2 hG
    generalize w.heap.size = fb at hBx ⊢
    have hB : Bw w2 w2.drew := (Bw.refl w2).drew
    have hHold : ∀ X, Bw w2 X → (X.cell? ⟨fb, 2, none⟩ = some (.slice qs f.short.length cs) ∧ X.cell? ⟨fb, 3, none⟩ = some (.slice qr f.random.length cr) ∧ X.cell? ⟨fb, 4, none⟩ = some (.slice qc f.clock.length cc)) := fun X g => ⟨g.keep (hBx.c 2 _ rfl), g.keep (hBx.c 3 _ rfl), g.keep (hBx.c 4 _ rfl)⟩
    refine wp_region_held_drew (S := fun X => X.cell? ⟨fb, 2, none⟩ = some (.slice qs f.short.length cs) ∧ X.cell? ⟨fb, 3, none⟩ = some (.slice qr f.random.length cr) ∧ X.cell? ⟨fb, 4, none⟩ = some (.slice qc f.clock.length cc)) (by kernel_rfl) (hHold _ hB) (fun hHeld => ?_)
    refine wpAnyH_take (i := 0) (oi := ⟨some 8, _, _, _, _, _⟩) (v := ?_) rfl (by kernel_rfl) (by kernel_rfl) (by kernel_rfl) (fun _ _ _ h => h) (Or.inl ⟨by rfl, ?_⟩) (by assumption) ?_; (rotate_left 1); (focus (intro wz hSw; (try dsimp only at hSw); go_simp; try (with_reducible rfl))); simp only [Act.put, List.setIfInBounds_toArray, List.set_cons_zero, List.set_cons_succ]
    refine wpAnyH_take (i := 1) (oi := ⟨some 9, _, _, _, _, _⟩) (v := ?_) rfl (by kernel_rfl) (by kernel_rfl) (by kernel_rfl) (fun _ _ _ h => h) (Or.inl ⟨by rfl, ?_⟩) (by assumption) ?_; (rotate_left 1); (focus (intro wz hSw; (try dsimp only at hSw); go_simp; try (with_reducible rfl))); simp only [Act.put, List.setIfInBounds_toArray, List.set_cons_zero, List.set_cons_succ]
    refine wpAnyH_take (i := 3) (oi := ⟨some 11, _, _, _, _, _⟩) (v := ?_) rfl (by kernel_rfl) (by kernel_rfl) (by kernel_rfl) (fun _ _ _ h => h) (Or.inl ⟨by rfl, ?_⟩) (by assumption) ?_; (rotate_left 1); (focus (intro wz hSw; (try dsimp only at hSw); go_simp; try (with_reducible rfl))); simp only [Act.put, List.setIfInBounds_toArray, List.set_cons_zero, List.set_cons_succ]
    refine wpAnyH_take (i := 4) (oi := ⟨some 12, _, _, _, _, _⟩) (v := ?_) rfl (by kernel_rfl) (by kernel_rfl) (by kernel_rfl) (fun _ _ _ h => h) (Or.inl ⟨by rfl, ?_⟩) (by assumption) ?_; (rotate_left 1); (focus (intro wz hSw; (try dsimp only at hSw); go_simp; try (with_reducible rfl))); simp only [Act.put, List.setIfInBounds_toArray, List.set_cons_zero, List.set_cons_succ]
    refine wpAnyH_take (i := 6) (oi := ⟨some 14, _, _, _, _, _⟩) (v := ?_) rfl (by kernel_rfl) (by kernel_rfl) (by kernel_rfl) (fun _ _ _ h => h) (Or.inl ⟨by rfl, ?_⟩) (by assumption) ?_; (rotate_left 1); (focus (intro wz hSw; (try dsimp only at hSw); go_simp; try (with_reducible rfl))); simp only [Act.put, List.setIfInBounds_toArray, List.set_cons_zero, List.set_cons_succ]
    refine wpAnyH_take (i := 7) (oi := ⟨some 15, _, _, _, _, _⟩) (v := ?_) rfl (by kernel_rfl) (by kernel_rfl) (by kernel_rfl) (fun _ _ _ h => h) (Or.inl ⟨by rfl, ?_⟩) (by assumption) ?_; (rotate_left 1); (focus (intro wz hSw; (try dsimp only at hSw); go_simp; try (with_reducible rfl))); simp only [Act.put, List.setIfInBounds_toArray, List.set_cons_zero, List.set_cons_succ]
    refine wpAnyH_ready (rs := [2]) (by kernel_rfl) (by simp) ?_; refine AllReadyH.cons rfl (fun K hK => ?_) AllReadyH.nil; go_simp
    refine (hS _ (hbB.trans hB)).mono ?_
    rintro e w3 ⟨us, rfl, r3, h3, f3⟩
    have g3 := f3.le (hbB.trans hB).size
    replace f3 := r3.lo
    obtain ⟨qr3, cr3, rfl, -⟩ := r3.form
    replace hB := hB.trans h3
    (try clear hHeld); refine hK.out _ _ ?_ (fun hHeld => ?_)
    · exact hHold _ hB
    refine wpAnyH_ready (rs := [5]) (by kernel_rfl) (by simp) ?_; refine AllReadyH.cons rfl (fun K hK => ?_) AllReadyH.nil; go_simp
    refine (hR _ (hbB.trans hB)).mono ?_
    rintro e w4 ⟨ur, rfl, r4, h4, f4⟩
    have g4 := f4.le (hbB.trans hB).size
    replace f4 := r4.lo
    obtain ⟨qr4, cr4, rfl, -⟩ := r4.form
    replace r3 := r3.bw h4
    replace hB := hB.trans h4
    (try clear hHeld); refine hK.out _ _ ?_ (fun hHeld => ?_)
    · exact hHold _ hB
    refine wpAnyH_ready (rs := [8]) (by kernel_rfl) (by simp) ?_; refine AllReadyH.cons rfl (fun K hK => ?_) AllReadyH.nil; go_simp
    refine (hC _ (hbB.trans hB)).mono ?_
    rintro e w5 ⟨uc, rfl, r5, h5, f5⟩
    have g5 := f5.le (hbB.trans hB).size
    replace f5 := r5.lo
    obtain ⟨qr5, cr5, rfl, -⟩ := r5.form
    replace r3 := r3.bw h5
    replace r4 := r4.bw h5
    replace hB := hB.trans h5
    (try clear hHeld); refine hK.out _ _ ?_ (fun hHeld => ?_)
    · exact hHold _ hB
    refine wpAnyH_take (i := 9) (oi := ⟨some 17, _, _, _, _, _⟩) (v := ?_) rfl (by kernel_rfl) (by kernel_rfl) (by kernel_rfl) (fun _ _ _ h => h) (Or.inl ⟨by rfl, ?_⟩) (by assumption) ?_; (rotate_left 1); (focus (intro wz hSw; (try dsimp only at hSw); go_simp; try (with_reducible rfl))); simp only [Act.put, List.setIfInBounds_toArray, List.set_cons_zero, List.set_cons_succ]
    refine wpAnyH_ready (rs := [10]) (by kernel_rfl) (by simp) ?_; refine AllReadyH.cons rfl (fun K hK => ?_) AllReadyH.nil; go_simp
    (try clear hHeld); refine hK.out _ _ ?_ (fun hHeld => ?_)
    · exact hHold _ (hB.alloc _)
    refine wpAnyH_take (i := 11) (oi := ⟨some 2, _, _, _, _, _⟩) (v := ?_) rfl (by kernel_rfl) (by kernel_rfl) (by kernel_rfl) (fun _ _ _ h => h) (Or.inl ⟨by rfl, ?_⟩) (by assumption) ?_; (rotate_left 1); (focus (intro wz hSw; (try dsimp only at hSw); go_simp; try (with_reducible rfl))); simp only [Act.put, List.setIfInBounds_toArray, List.set_cons_zero, List.set_cons_succ]
    refine wpAnyH_done (by kernel_rfl) ?_ _
    have hx := Box.new w5 [.slice qr3 f.short.length cr3, .slice qr4 f.random.length cr4, .slice qr5 f.clock.length cr5, .int .i64 0, .int .i64 0, .int .i64 0] 86
    have gA : Bw w5 (w5.alloc (.cells [Value.slice qr3 f.short.length cr3, .slice qr4 f.random.length cr4, .slice qr5 f.clock.length cr5, .int .i64 0, .int .i64 0, .int .i64 0].toArray 86)) := (Bw.refl w5).alloc _
    have HFin : Hid _ := (⟨(hbB.trans hB).size, (hbB.trans hB).alloc _, ⟨⟨_, _, _, hx, RdR.bw r3 gA, Rd8.bw r4 gA, RdR.bw r5 gA, f3.to (Nat.le_trans h4.size h5.size), f4.to h5.size, f5.to (Nat.le_refl _)⟩, Nat.zero_le _, Nat.zero_le _, Nat.zero_le _⟩, FarU.mk hx g3 g4 g5⟩ : w.heap.size ≤ w5.heap.size ∧ Bw w (w5.alloc (.cells [Value.slice qr3 f.short.length cr3, .slice qr4 f.random.length cr4, .slice qr5 f.clock.length cr5, .int .i64 0, .int .i64 0, .int .i64 0].toArray 86)) ∧ UseS (w5.alloc (.cells [Value.slice qr3 f.short.length cr3, .slice qr4 f.random.length cr4, .slice qr5 f.clock.length cr5, .int .i64 0, .int .i64 0, .int .i64 0].toArray 86)) w5.heap.size f.short f.random f.clock 0 0 0 ∧ FarU (w5.alloc (.cells [Value.slice qr3 f.short.length cr3, .slice qr4 f.random.length cr4, .slice qr5 f.clock.length cr5, .int .i64 0, .int .i64 0, .int .i64 0].toArray 86)) w5.heap.size w.heap.size)
    clear hx gA
    go_wp2_with fail
    go_returns
    exact ⟨_, rfl, HFin⟩
end Go.Proofs.Ytaepjlaegldkhaa
