/- LAYER 11's walks: the sources, made anew. -/
import Derived.Test.YtaepjlaegldkhaaFilW8
namespace Go.Proofs.Ytaepjlaegldkhaa
open Go.ChangeShapes Go.WideShapes Go.ChangeAt Go.RowKit

theorem infoFF : (Try.prog.info? 27).map (fun i => (i.zero, i.size, i.bytes)) = some (some (.agg #[.string ⟨#[]⟩, .slice none 0 0]), 2, 40) := by kernel_rfl
theorem Fee.cells_one {l : List Fee.Fl} {us : List Value} (hu : ∀ u ∈ us, ∃ q n c, u = .slice q n c) : ∀ u ∈ Fee.cells l us, u.oneCell' = true := fun u hx => by
  unfold Fee.cells at hx
  obtain ⟨⟨f, v⟩, hm, hy⟩ := List.mem_flatMap.1 hx
  have hv := (List.of_mem_zip hm).2
  obtain ⟨q, n, c, rfl⟩ := hu v hv
  simp [Fee.flC] at hy
  rcases hy with rfl | rfl <;> rfl
theorem OwnR.box {e sz n : Nat} {cs : List Value} {a w : World} {g c : Nat} (h : OwnR e sz a w (.slice (some ⟨g, 0, none⟩) n c) n cs) : Box w g cs ∧ a.heap.size ≤ g := by
  obtain ⟨h1, h2⟩ := h
  rcases h2 with ⟨h2, _⟩ | ⟨b, cap, cur, h3, h4, h5, h6, h7, h8, h9⟩
  · simp at h2
  · simp at h3
    obtain ⟨rfl, rfl⟩ := h3
    refine ⟨⟨fun j v hv => ?_, fun j hj => ?_⟩, h4⟩
    · have hj : j < n * sz := by rw [← h1]; exact (List.getElem?_eq_some_iff.1 hv).1
      rw [← h9, List.getElem?_take_of_lt hj] at hv
      simp [World.cell?, h5] at hv ⊢
      exact hv
    · simp [World.frozen?, h5]
/-- The slice of files, made anew: its block is of the call's own. -/
theorem CloneF_c {v : Value} {n : Nat} {cs : List Value} {w : World} (hv : RdR 2 w v n cs) (h1 : ∀ u ∈ cs, u.oneCell' = true) (h0 : 1 ≤ n) (hn : n ≤ 2000) : Calls Try.prog 47 #[v] w fun e w' => ∃ g c, e = .returned (.slice (some ⟨g, 0, none⟩) n c) ∧ Box w' g cs ∧ w.heap.size ≤ g ∧ n ≤ c ∧ c ≤ 9223372036854775807 ∧ Bw w w' := by
  have hv2 := hv
  obtain ⟨q, cap, rfl, hc1, hc2, -⟩ := hv
  have he := eqSliceNil w 28 _ q n cap Try.underlying28
  cases q with
  | none =>
    exfalso
    obtain ⟨q, c, e, _, _, _, h5⟩ := hv2
    simp at e
    obtain ⟨rfl, _⟩ := e
    obtain ⟨b, o, h6, _⟩ := h5 h0
    simp at h6
  | some a =>
    have hown := OwnR.empty 27 2 (w0 := w) (Nat.le_refl w.heap.size)
    obtain ⟨v', w', hr, ho, hb⟩ := appS (ty := 28) infoFF Try.underlying28 rfl (by omega) (by omega) hown ((Bw.refl w).alloc _) (hv2.bw ((Bw.refl w).alloc _)) h1 (by omega)
    rw [Nat.zero_add, List.nil_append] at ho
    obtain ⟨g, c, rfl⟩ := ho.form (by omega)
    obtain ⟨_, _, e3, e4, e5, _⟩ := ho.rd
    simp at e3
    obtain ⟨rfl, rfl⟩ := e3
    have HFin : Hid _ := (⟨ho.box.1, ho.box.2, e4, e5, hb⟩ : Box w' g cs ∧ w.heap.size ≤ g ∧ n ≤ c ∧ c ≤ 9223372036854775807 ∧ Bw w w')
    clear ho hb hown hv2 h1
    go_enter Try.func47, Try.ntmps47
    go_wp2_with (first | (at_builtin; refine wpApp rfl _ _ 28 rfl rfl rfl hr ?_) | go_in)
    go_returns
    exact ⟨_, _, rfl, HFin⟩
theorem flat_set {α β : Type} (f : α → List β) (m : Nat) (hf : ∀ x, (f x).length = m) (j : Nat) (hj : j < m) (v : β) : ∀ (l : List α) (k : Nat) (x x' : α), l[k]? = some x → f x' = (f x).set j v → (l.flatMap f).set (k * m + j) v = (l.set k x').flatMap f := by
  intro l
  induction l with
  | nil => intro k h h' e; simp at e
  | cons x r ih =>
    intro k h h' e e2
    cases k with
    | zero =>
      simp at e; subst e
      rw [List.flatMap_cons, List.set_cons_zero, List.flatMap_cons, e2, Nat.zero_mul, Nat.zero_add, List.set_append_left _ _ (by rw [hf]; exact hj)]
    | succ k =>
      rw [List.flatMap_cons, List.set_cons_succ, List.flatMap_cons, List.set_append_right _ _ (by rw [hf, Nat.succ_mul]; omega), hf, show (k + 1) * m + j - m = k * m + j by rw [Nat.succ_mul]; omega, ih k h h' (by simpa using e) e2]
theorem zip_set {α β : Type} (u' : β) : ∀ (l : List α) (us : List β) (k : Nat) (f : α), l[k]? = some f → (l.zip us).set k (f, u') = l.zip (us.set k u') := by
  intro l
  induction l with
  | nil => intro us k f h; simp at h
  | cons x r ih =>
    intro us k f h
    cases us with
    | nil => simp
    | cons y ys =>
      cases k with
      | zero => simp at h; subst h; simp
      | succ k => simp only [List.zip_cons_cons, List.set_cons_succ]; rw [ih ys k f (by simpa using h)]
theorem Fee.cells_at {l : List Fee.Fl} {us : List Value} {k : Nat} {f : Fee.Fl} {u : Value} (hf : l[k]? = some f) (hu : us[k]? = some u) : (Fee.cells l us)[k * 2]? = some (.string f.name) ∧ (Fee.cells l us)[k * 2 + 1]? = some u := by
  have hz : (l.zip us)[k]? = some (f, u) := by rw [List.getElem?_zip_eq_some]; exact ⟨hf, hu⟩
  unfold Fee.cells
  refine ⟨?_, ?_⟩
  · have := chunk (fun p : Fee.Fl × Value => Fee.flC p.1 p.2) 2 (fun _ => rfl) (l.zip us) k (f, u) 0 hz (by omega)
    rw [Nat.add_zero] at this
    rw [this]; rfl
  · rw [chunk (fun p : Fee.Fl × Value => Fee.flC p.1 p.2) 2 (fun _ => rfl) (l.zip us) k (f, u) 1 hz (by omega)]; rfl
theorem Fee.cells_set {l : List Fee.Fl} {us : List Value} {k : Nat} {f : Fee.Fl} {u u' : Value} (hf : l[k]? = some f) (hu : us[k]? = some u) : (Fee.cells l us).set (k * 2 + 1) u' = Fee.cells l (us.set k u') := by
  have hz : (l.zip us)[k]? = some (f, u) := by rw [List.getElem?_zip_eq_some]; exact ⟨hf, hu⟩
  unfold Fee.cells
  rw [flat_set (fun p : Fee.Fl × Value => Fee.flC p.1 p.2) 2 (fun _ => rfl) 1 (by omega) u' (l.zip us) k (f, u) (f, u') hz rfl, zip_set u' l us k f hf]
theorem Fee.cells_len (l : List Fee.Fl) (us : List Value) (h : us.length = l.length) : (Fee.cells l us).length = l.length * 2 := by
  unfold Fee.cells
  rw [chunk_len (fun p : Fee.Fl × Value => Fee.flC p.1 p.2) 2 (fun _ => rfl), List.length_zip, h, Nat.min_self]
/-- Sources of the call's own. -/
def SrcO (w w' : World) (v : Value) (l : List Fee.Fl) : Prop :=
  ∃ us, us.length = l.length ∧ RdR 2 w' v l.length (Fee.cells l us) ∧ Far2 w.heap.size v ∧ ∀ (i : Nat) f u, l[i]? = some f → us[i]? = some u → Rd8 w' u f.data ∧ Far2 w.heap.size u
set_option maxHeartbeats 4000000 in
set_option maxRecDepth 100000 in
theorem cloneSrc_c {v : Value} {l : List Fee.Fl} {w : World} (hv : FlS w v l) (h1 : 1 ≤ l.length) (hl : l.length ≤ 1000) (hd : ∀ f ∈ l, f.data.length ≤ 4096) : Calls Try.prog 40 #[v] w fun e w' => ∃ v', e = .returned v' ∧ SrcO w w' v' l ∧ Bw w w' := by
  obtain ⟨us, hus, hR, hr8, h8⟩ := hv
  have hone : ∀ u ∈ us, ∃ q n c, u = .slice q n c := fun u hu => by
    obtain ⟨i, hi, rfl⟩ := List.getElem_of_mem hu
    obtain ⟨q, c, e, _⟩ := hr8 i l[i] us[i] (List.getElem?_eq_getElem (by omega)) (List.getElem?_eq_getElem hi)
    exact ⟨q, _, c, e⟩
  have hC := CloneF_c hR (Fee.cells_one hone) h1 (by omega)
  obtain ⟨q, cap, rfl, hc1, hc2⟩ := hR.form
  clear hR hone
  have hl2 : (l.length : Int) ≤ 1000 := by omega
  go_enter Try.func40, Try.ntmps40
  go_wp2_with fail
  refine hC.mono ?_
  rintro e w1 ⟨g, c, rfl, hbox, hg, hc, hcc, hb1⟩
  have hglt : g < w1.heap.size := by
    obtain ⟨f0, hf0⟩ : ∃ f, l[0]? = some f := ⟨_, List.getElem?_eq_getElem (by omega)⟩
    obtain ⟨u0, hu0⟩ : ∃ f, us[0]? = some f := ⟨_, List.getElem?_eq_getElem (by omega)⟩
    have := hbox.c 0 _ (Fee.cells_at hf0 hu0).1
    apply Decidable.byContradiction
    intro hn
    have h0 : w1.heap[g]? = none := by simp; omega
    simp [World.cell?, h0] at this
  clear hC hc1 hc2
  go_wp2_with fail
  go_loopg [9] l.length (fun gg j wr => ∃ k : Nat, ∃ us' : List Value, k + gg = l.length ∧ j = .int .i64 k ∧ Hid (Bq g w1 wr) ∧ Hid (us'.length = l.length) ∧ Box wr g (Fee.cells l us') ∧
    Hid (∀ (i : Nat), k ≤ i → us'[i]? = us[i]?) ∧ Hid (∀ (i : Nat) f u, i < k → l[i]? = some f → us'[i]? = some u → Rd8 wr u f.data ∧ Far2 (g + 1) u))
  case atStart => exact ⟨0, us, by omega, rfl, Bq.refl _ _, hus, hbox, fun _ _ => rfl, fun i _ _ h => by omega⟩
  case round =>
    obtain ⟨k, us', hkg, rfl, HQ, HL, hbx, HO, HN⟩ := hrel
    by_cases hk : k = l.length
    · subst hk
      have HFin : Hid (SrcO w wr (.slice (some ⟨g, 0, none⟩) l.length c) l ∧ Bw w wr) := by
        have hQ := (show Bq g w1 wr from HQ)
        have hL := (show us'.length = l.length from HL)
        refine ⟨⟨us', hL, ⟨_, c, rfl, hc, hcc, Fee.cells_len l us' hL, fun _ => ⟨g, 0, rfl, Nat.lt_of_lt_of_le hglt hQ.b0.size, fun j u hu => by rw [Nat.zero_add]; exact hbx.c j u hu⟩⟩, fun q n c e hn => by simp at e; obtain ⟨rfl, _⟩ := e; exact hg, fun i f u a b => ?_⟩, hQ.toBw hb1 hg⟩
        obtain ⟨x1, x2⟩ := (show ∀ (i : Nat) f u, i < l.length → l[i]? = some f → us'[i]? = some u → Rd8 wr u f.data ∧ Far2 (g + 1) u from HN) i f u (List.getElem?_eq_some_iff.1 a).1 a b
        exact ⟨x1, x2.le (by omega)⟩
      clear hbx
      go_wp2
      go_returns
      exact ⟨_, rfl, HFin⟩
    · have hkl : k < l.length := by omega
      have hki : (k : Int) < (l.length : Int) := by omega
      have hkc : (k : Int) ≤ (c : Int) := by omega
      obtain ⟨f, hs, -⟩ := dropAt hkl
      obtain ⟨u, hu⟩ : ∃ u, us[k]? = some u := ⟨_, List.getElem?_eq_getElem (by omega)⟩
      have hu' : us'[k]? = some u := ((show ∀ (i : Nat), k ≤ i → us'[i]? = us[i]? from HO) k (Nat.le_refl _)).trans hu
      have hL := (show us'.length = l.length from HL)
      have d1 := hbx.c _ _ (Fee.cells_at hs hu').2
      have d1f := hbx.f (k * 2 + 1) (by rw [Fee.cells_len l us' hL]; omega)
      have hbw := (show Bq g w1 wr from HQ).toBw hb1 hg
      have hRu := (hr8 k f u hs hu).bw hbw
      have hCl := fun X (g : Bw wr X) => CloneR_c (hRu.bw g) (by have := hd f (List.mem_of_getElem? hs); omega)
      have HBx : Hid _ := hbx
      clear hbx
      obtain ⟨qu, cu, rfl, -⟩ := hRu.open
      go_wp2_with fail
      refine (hCl _ (Bw.refl _)).mono ?_
      rintro e w2 ⟨u2, rfl, ho2, hb2⟩
      have hbx2 := (show Box wr g (Fee.cells l us') from HBx).blk (Below.block hb2 g (Nat.lt_of_lt_of_le hglt (show Bq g w1 wr from HQ).b0.size))
      have e1 := hbx2.c _ _ (Fee.cells_at hs hu').2
      have e1f := hbx2.f (k * 2 + 1) (by rw [Fee.cells_len l us' hL]; omega)
      have hbx3 := hbx2.set (k * 2 + 1) (by rw [Fee.cells_len l us' hL]; omega) u2
      rw [Fee.cells_set hs hu'] at hbx3
      have hq3 : Bq g wr (w2.setCell ⟨g, k * 2 + 1, none⟩ u2) := ((Bq.refl g wr).bw hb2).set _ _
      have hf2 : Far2 (g + 1) u2 := fun q n c e hn => by
        have := (ho2.blk q.block (by rw [e]; rfl)).1
        have h3 := (show Bq g w1 wr from HQ).b0.size
        omega
      have HN2 : Hid (∀ (i : Nat) f u, i < k + 1 → l[i]? = some f → (us'.set k u2)[i]? = some u → Rd8 (w2.setCell ⟨g, k * 2 + 1, none⟩ u2) u f.data ∧ Far2 (g + 1) u) := fun i f' u' hi a b => by
        by_cases e : i = k
        · subst e
          rw [List.getElem?_set_self (by omega)] at b
          obtain rfl := Option.some.inj b
          rw [hs] at a
          obtain rfl := Option.some.inj a
          exact ⟨RdR.q ho2.rd ((Bq.refl g w2).set _ _) (fun q n c e hn => by have := hf2 q n c e hn; omega), hf2⟩
        · rw [List.getElem?_set_ne (by omega)] at b
          obtain ⟨x1, x2⟩ := (show ∀ (i : Nat) f u, i < k → l[i]? = some f → us'[i]? = some u → Rd8 wr u f.data ∧ Far2 (g + 1) u from HN) i f' u' (by omega) a b
          exact ⟨RdR.q x1 hq3 (fun q n c e hn => by have := x2 q n c e hn; omega), x2⟩
      have HO2 : Hid (∀ (i : Nat), k + 1 ≤ i → (us'.set k u2)[i]? = us[i]?) := fun i hi => by
        rw [List.getElem?_set_ne (by omega)]
        exact (show ∀ (i : Nat), k ≤ i → us'[i]? = us[i]? from HO) i (by omega)
      have HQ2 : Hid (Bq g w1 (w2.setCell ⟨g, k * 2 + 1, none⟩ u2)) := (show Bq g w1 wr from HQ).trans hq3
      have HL2 : Hid ((us'.set k u2).length = l.length) := by show (us'.set k u2).length = l.length; rw [List.length_set]; exact hL
      obtain ⟨q2, c2, rfl⟩ := ho2.sl
      have HB3 : Hid _ := hbx3
      clear hbx2 hbx3 hq3 hf2 ho2 hs hu hu' hRu HBx hL hbw hCl
      go_wp2_with fail
      go_roundg (l.length - (k + 1))
      case measure => omega
      case rel => exact ⟨k + 1, _, by omega, by simp, HQ2, HL2, HB3, HO2, HN2⟩
end Go.Proofs.Ytaepjlaegldkhaa
