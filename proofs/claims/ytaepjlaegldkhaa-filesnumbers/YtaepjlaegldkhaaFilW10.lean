/- LAYER 11's walks: what there is to read. -/
import Derived.Test.YtaepjlaegldkhaaFilW9
namespace Go.Proofs.Ytaepjlaegldkhaa
open Go.ChangeShapes Go.WideShapes Go.ChangeAt Go.RowKit

theorem OwnR.lit {e sz n : Nat} (w : World) (cs : List Value) (h : cs.length = n * sz) (hn : n ≤ 1000) : OwnR e sz w (w.alloc (.cells cs.toArray e)) (.slice (some ⟨w.heap.size, 0, none⟩) n n) n cs :=
  ⟨h, Or.inr ⟨w.heap.size, n, cs.toArray, rfl, Nat.le_refl _, heap_alloc_new w _, Nat.le_refl _, by unfold maxLen; omega, by simp [h], by simp [← h]⟩⟩
theorem Fee.files_ok : ∀ (r l : List Fee.Fl) (k : Nat), Fee.filesFrom l k r = true → ∀ x ∈ r, Fee.fileOk x = true := by
  intro r
  induction r with
  | nil => intro l k _ x hx; simp at hx
  | cons f r ih =>
    intro l k h x hx
    unfold Fee.filesFrom at h
    simp only [Bool.and_eq_true] at h
    rcases List.mem_cons.1 hx with rfl | hx
    · exact h.1.1
    · exact ih l (k + 1) h.2 x hx
theorem Fee.good_data {f : Fee.Fd} (h : Fee.good f = true) : ∀ x ∈ f.files, x.data.length ≤ 4096 := fun x hx => by
  unfold Fee.good Fee.filesOk at h
  simp only [Bool.and_eq_true] at h
  have := Fee.files_ok _ _ _ h.2.2 x hx
  unfold Fee.fileOk at this
  simp only [Bool.and_eq_true, decide_eq_true_eq] at this
  exact this.2
theorem Fee.good_short {f : Fee.Fd} (h : Fee.good f = true) : ∀ x ∈ f.short, 0 ≤ x := fun x hx => by
  unfold Fee.good Fee.shortOk at h
  simp only [Bool.and_eq_true] at h
  have := List.all_eq_true.1 h.1.1.1.2.2 x hx
  unfold Fee.shOk at this
  simp only [Bool.and_eq_true, decide_eq_true_eq] at this
  exact this.1
set_option maxHeartbeats 4000000 in
set_option maxRecDepth 100000 in
theorem srcOf_c (v : Value) (f : Fee.Fd) (w : World) (hv : IsFd w v f) : Calls Try.prog 30 #[v] w fun e w' => ∃ v', e = .returned v' ∧ SrcO w w' v' (Fil.new f).srcs ∧ Bw w w' := by
  have hG := fun X (g : Bw w X) => Good_c v f X (hv.bw g)
  obtain ⟨va, vi, vs, vr, vc, vf, rfl, ha, hi, hs, hr, hc, hf, hwf⟩ := hv
  obtain ⟨qa, ca, rfl, -⟩ := RdR.form ha
  obtain ⟨qr, cr, rfl, -⟩ := Rd8.open hr
  obtain ⟨qc, cc, rfl, -⟩ := RdR.form hc
  obtain ⟨qs, cs, rfl, -⟩ := RdR.form hs
  have hi2 := hi
  have hf2 := hf
  obtain ⟨qi, ci, rfl, -⟩ := Rd8.open hi2
  obtain ⟨qf, cf, rfl, -⟩ := hf2.form
  have hBx := Box.new w [.slice qa f.args.length ca, .slice qi f.input.length ci, .slice qs f.short.length cs, .slice qr f.random.length cr, .slice qc f.clock.length cc, .slice qf f.files.length cf] 33
  have hbA : Bw w (w.alloc (.cells #[.slice qa f.args.length ca, .slice qi f.input.length ci, .slice qs f.short.length cs, .slice qr f.random.length cr, .slice qc f.clock.length cc, .slice qf f.files.length cf] 33)) := (Bw.refl w).alloc _
  cases hgd : Fee.good f with
  | false =>
    have hb : Fee.beg f = Fee.noFd := by unfold Fee.beg; rw [hgd]; rfl
    have hn : (Fil.new f).srcs = [⟨⟨#[]⟩, []⟩] := by unfold Fil.new; rw [hb]; rfl
    rw [hn]
    simp only [hgd] at hG
    clear ha hi hs hr hc hf hf2 hi2 hBx
    go_enter Try.func30, Try.ntmps30
    go_wp2_with (first | (go_at_call 41; refine (hG _ hbA).mono ?_; rintro e w2 ⟨rfl, h2⟩))
    go_returns
    have hb2 := hbA.trans h2
    have hR := RdR.new (sz := 2) (n := 1) w2 [.string ⟨#[]⟩, .slice none 0 0] 27 rfl (by omega)
    exact ⟨_, rfl, ⟨[.slice none 0 0], rfl, hR, fun q n c e hn => by simp at e; obtain ⟨rfl, _⟩ := e; exact hb2.size, fun i f u a b => by
      cases i with
      | zero => simp at a b; subst a; subst b; exact ⟨RdR.nil _ _, Far2.nil _⟩
      | succ i => simp at a⟩, hb2.alloc _⟩
  | true =>
    have hb : Fee.beg f = f := by unfold Fee.beg; rw [hgd]; rfl
    obtain ⟨-, -, -, -, l5, l6⟩ := Fee.good_len hgd
    have hgd2 := Fee.good_data hgd
    have hn : (Fil.new f).srcs = ⟨⟨#[]⟩, f.input⟩ :: f.files := by unfold Fil.new; rw [hb]
    rw [hn]
    simp only [hgd] at hG
    have HI : Hid _ := hi
    have HF : Hid _ := hf
    clear ha hi hs hr hc hf hf2 hi2 hb hn
    have hApp : ∀ X, Bw w X → ∃ v' w', (Builtin.append_ #[28, 28] 28 #[.slice (some ⟨X.heap.size, 0, none⟩) 1 1, .slice qf f.files.length cf]).run Try.prog (X.alloc (.cells #[.string ⟨#[]⟩, .slice qi f.input.length ci] 27)) = .ok v' w' ∧ FlS w' v' (⟨⟨#[]⟩, f.input⟩ :: f.files) ∧ Bw X w' := fun X g => by
      have hown := OwnR.lit (e := 27) (sz := 2) (n := 1) X [.string ⟨#[]⟩, .slice qi f.input.length ci] rfl (by omega)
      have gA : Bw X (X.alloc (.cells #[.string ⟨#[]⟩, .slice qi f.input.length ci] 27)) := (Bw.refl X).alloc _
      obtain ⟨us, hus, hR0, hr8, h8⟩ := (show FlS w _ f.files from HF)
      have hRR := RdR.bw hR0 (g.trans gA)
      have hone : ∀ u ∈ us, ∃ q n c, u = .slice q n c := fun u hu => by
        obtain ⟨i, hi, rfl⟩ := List.getElem_of_mem hu
        obtain ⟨q, c, e, _⟩ := hr8 i f.files[i] us[i] (List.getElem?_eq_getElem (by omega)) (List.getElem?_eq_getElem hi)
        exact ⟨q, _, c, e⟩
      obtain ⟨v', w', hr, ho, hb⟩ := appS (ty := 28) infoFF Try.underlying28 rfl (by omega) (by omega) hown gA hRR (Fee.cells_one hone) (by omega)
      have hgw : Bw w w' := g.trans hb
      refine ⟨v', w', hr, ⟨.slice qi f.input.length ci :: us, by simp [hus], ?_, fun i x u a b => ?_, fun x hx => ?_⟩, hb⟩
      · have := ho.rd
        rw [Nat.add_comm] at this
        exact this
      · cases i with
        | zero => simp at a b; subst a; subst b; exact (show Rd8 w _ f.input from HI).bw hgw
        | succ i =>
          simp at a b
          exact (hr8 i x u a b).bw hgw
      · rcases List.mem_cons.1 hx with rfl | hx
        · exact hwf.i8
        · exact h8 x hx
    go_enter Try.func30, Try.ntmps30
    go_wp2_with (first | (go_at_call 41; refine (hG _ hbA).mono ?_; rintro e w2 ⟨rfl, h2⟩; have z1 := (hBx.bw h2).c 1 _ rfl; have z5 := (hBx.bw h2).c 5 _ rfl; have z5a := fun o => ((Bw.refl w2).alloc o).keep z5; obtain ⟨v', w', hrA, hFl, hb3⟩ := hApp _ (hbA.trans h2)) | (at_builtin; refine wpApp rfl _ _ 28 rfl rfl rfl hrA ?_) | (go_at_call 40; refine (cloneSrc_c hFl (by simp) (by simp; omega) (fun x hx => by rcases List.mem_cons.1 hx with rfl | hx; exact l5; exact hgd2 x hx)).mono ?_; rintro e w4 ⟨v4, rfl, hSr, hb4⟩) | go_in)
    go_returns
    obtain ⟨us4, k1, k2, k3, k4⟩ := hSr
    have hsz : w.heap.size ≤ w'.heap.size := ((hbA.trans h2).trans hb3).size
    exact ⟨_, rfl, ⟨us4, k1, k2, k3.le hsz, fun i x u a b => ⟨(k4 i x u a b).1, (k4 i x u a b).2.le hsz⟩⟩, ((hbA.trans h2).trans hb3).trans hb4⟩
end Go.Proofs.Ytaepjlaegldkhaa
