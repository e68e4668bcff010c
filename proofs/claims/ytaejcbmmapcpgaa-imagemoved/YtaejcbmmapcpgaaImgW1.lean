/- LAYER 8's walks: images as Go holds them; end, share, segmentStands, swapPerm. -/
import Derived.Test.YtaejcbmmapcpgaaImg
namespace Go.Proofs.Ytaejcbmmapcpgaa
open Go.ChangeShapes Go.WideShapes Go.ChangeAt Go.RowKit

def Img.segC (s : Img.Seg) (u : Value) : List Value := [.int .u32 s.addr, .int .u32 s.size, .int .i64 s.perm, u]
def Img.segV (s : Img.Seg) (u : Value) : Value := .agg #[.int .u32 s.addr, .int .u32 s.size, .int .i64 s.perm, u]
def Img.cells (l : List Img.Seg) (us : List Value) : List Value := (l.zip us).flatMap fun p => Img.segC p.1 p.2
theorem Img.drop_at {α : Type} {l : List α} {k : Nat} (hk : k < l.length) : ∃ s, l[k]? = some s ∧ l.drop k = s :: l.drop (k + 1) :=
  ⟨l[k], by simp, List.drop_eq_getElem_cons hk⟩
/-- A slice of segments that reads so. -/
def SegS (w : World) (v : Value) (l : List Img.Seg) : Prop :=
  ∃ us : List Value, us.length = l.length ∧ RdR 4 w v l.length (Img.cells l us) ∧ (∀ (i : Nat) s u, l[i]? = some s → us[i]? = some u → Rd8 w u s.bytes) ∧ ∀ s ∈ l, Img.Wf s
theorem SegS.wf {w : World} {v : Value} {l : List Img.Seg} (h : SegS w v l) : ∀ s ∈ l, Img.Wf s := by obtain ⟨_, _, _, _, h⟩ := h; exact h
theorem SegS.bw {w w' : World} {v : Value} {l : List Img.Seg} (h : SegS w v l) (g : Bw w w') : SegS w' v l := by
  obtain ⟨us, h1, h2, h3, h4⟩ := h
  exact ⟨us, h1, h2.bw g, fun i s u a b => (h3 i s u a b).bw g, h4⟩
theorem SegS.nil (w : World) : SegS w (.slice none 0 0) [] := ⟨[], rfl, RdR.nil _ _, by simp, by simp⟩
theorem SegS.open {w : World} {v : Value} {l : List Img.Seg} (h : SegS w v l) : ∃ q cap, v = .slice q l.length cap ∧ l.length ≤ cap ∧ cap ≤ 9223372036854775807 ∧
    ∀ i s, l[i]? = some s → ∃ b o qs cs, q = some ⟨b, o, none⟩ ∧ b < w.heap.size ∧ w.cell? ⟨b, o + i * 4, none⟩ = some (.int .u32 s.addr) ∧ w.cell? ⟨b, o + i * 4 + 1, none⟩ = some (.int .u32 s.size) ∧ w.cell? ⟨b, o + i * 4 + 2, none⟩ = some (.int .i64 s.perm) ∧ w.cell? ⟨b, o + i * 4 + 3, none⟩ = some (.slice qs s.bytes.length cs) ∧ s.bytes.length ≤ cs ∧ cs ≤ 9223372036854775807 ∧ Rd8 w (.slice qs s.bytes.length cs) s.bytes := by
  obtain ⟨us, hus, ⟨q, cap, h1, h2, h3, h4, h5⟩, hr, hw⟩ := h
  refine ⟨q, cap, h1, h2, h3, fun i s hs => ?_⟩
  have hi : i < l.length := (List.getElem?_eq_some_iff.1 hs).1
  obtain ⟨b, o, h6, h7, h8⟩ := h5 (by omega)
  have hu : us[i]? = some us[i] := List.getElem?_eq_getElem (by omega)
  have hz : (l.zip us)[i]? = some (s, us[i]) := by rw [List.getElem?_zip_eq_some]; exact ⟨hs, hu⟩
  have c : ∀ j u, (Img.segC s us[i])[j]? = some u → w.cell? ⟨b, o + i * 4 + j, none⟩ = some u := fun j u hj => by
    rw [Nat.add_assoc]
    exact h8 _ u (by unfold Img.cells; rw [chunk (fun p : Img.Seg × Value => Img.segC p.1 p.2) 4 (fun _ => rfl) (l.zip us) i (s, us[i]) j hz (List.getElem?_eq_some_iff.1 hj).1]; exact hj)
  have hR := hr i s _ hs hu
  obtain ⟨qs, cs, e, e1, e2, _⟩ := hR.open
  rw [e] at hR
  exact ⟨b, o, qs, cs, h6, h7, c 0 _ rfl, c 1 _ rfl, c 2 _ rfl, by rw [← e]; exact c 3 _ rfl, e1, e2, hR⟩
/-- An image as Go holds it. -/
def IsImg (w : World) (v : Value) (i : Img.Im) : Prop := ∃ u, v = .agg #[.int .u32 i.entry, u] ∧ SegS w u i.segs ∧ 0 ≤ i.entry ∧ i.entry < 4294967296
theorem IsImg.bw {w w' : World} {v : Value} {i : Img.Im} (h : IsImg w v i) (g : Bw w w') : IsImg w' v i := by
  obtain ⟨u, h1, h2, h3⟩ := h; exact ⟨u, h1, h2.bw g, h3⟩
theorem ret_bool {a b : Bool} {w w' : World} (h : a = b) (g : Bw w w') : Ending.returned (.bool a) = .returned (.bool b) ∧ Bw w w' := ⟨by rw [h], g⟩
/-- A segment's box. -/
structure SBox (w : World) (sb : Nat) (s : Img.Seg) (u : Value) : Prop where
  c0 : w.cell? ⟨sb, 0, none⟩ = some (.int .u32 s.addr)
  c1 : w.cell? ⟨sb, 1, none⟩ = some (.int .u32 s.size)
  c2 : w.cell? ⟨sb, 2, none⟩ = some (.int .i64 s.perm)
  c3 : w.cell? ⟨sb, 3, none⟩ = some u
theorem SBox.new (w : World) (s : Img.Seg) (u : Value) (t : TypeId) : SBox (w.alloc (.cells #[.int .u32 s.addr, .int .u32 s.size, .int .i64 s.perm, u] t)) w.heap.size s u := by
  constructor <;> (rw [World.cell?_alloc_at _ _ _ _ (by simp)]; rfl)
theorem SBox.bw {w w' : World} {sb : Nat} {s : Img.Seg} {u : Value} (h : SBox w sb s u) (g : Bw w w') : SBox w' sb s u := ⟨g.keep h.c0, g.keep h.c1, g.keep h.c2, g.keep h.c3⟩
theorem SBox.lt {w : World} {sb : Nat} {s : Img.Seg} {u : Value} (h : SBox w sb s u) : sb < w.heap.size := by
  apply Decidable.byContradiction
  intro hn
  have h0 := h.c0
  have : w.heap[sb]? = none := by simp; omega
  simp [World.cell?, this] at h0
set_option maxHeartbeats 1000000 in
set_option maxRecDepth 100000 in
theorem end_c (s : Img.Seg) (hs : Img.Wf s) (q : Option Addr) (n c : Nat) (w : World) : Calls Try.prog 39 #[.agg #[.int .u32 s.addr, .int .u32 s.size, .int .i64 s.perm, .slice q n c]] w fun e w' => e = .returned (.int .u64 (Img.fin s)) ∧ Bw w w' := by
  obtain ⟨a0, a1, z0, z1, _, _, _⟩ := hs
  go_enter Try.func39, Try.ntmps39
  go_wp2_with fail
  go_returns
  exact ⟨by unfold Img.fin; rfl, by (repeat' (first | (with_reducible assumption) | (with_reducible exact Bw.refl _) | (with_reducible refine Bw.alloc ?_ _) | (with_reducible refine Bw.drew ?_) | (with_reducible refine Bw.drewN ?_ _) | (with_reducible refine Bw.setCell ?_ ?_ _) | exact Nat.le_refl _))⟩
set_option maxHeartbeats 1000000 in
set_option maxRecDepth 100000 in
theorem share_c (s t : Img.Seg) (hs : Img.Wf s) (ht : Img.Wf t) (q q' : Option Addr) (n c n' c' : Nat) (w : World) : Calls Try.prog 40 #[.agg #[.int .u32 s.addr, .int .u32 s.size, .int .i64 s.perm, .slice q n c], .agg #[.int .u32 t.addr, .int .u32 t.size, .int .i64 t.perm, .slice q' n' c']] w fun e w' => e = .returned (.bool (Img.share s t)) ∧ Bw w w' := by
  have hE := end_c s hs q n c
  have hF := end_c t ht q' n' c'
  obtain ⟨a0, a1, z0, z1, _, _, _⟩ := hs
  obtain ⟨b0, b1, y0, y1, _, _, _⟩ := ht
  generalize hR : Img.share s t = R
  have HR : Hid _ := hR
  clear hR
  have hX : ∃ A B : Bool, decide (s.addr < Img.fin t) = A ∧ decide (t.addr < Img.fin s) = B ∧ (A && B) = R := ⟨_, _, rfl, rfl, HR⟩
  obtain ⟨A, B, hA, hB, HAB⟩ := hX
  have HAB : Hid _ := HAB
  generalize Img.fin t = E1 at *
  generalize Img.fin s = E2 at *
  have hb : Bw w w := Bw.refl w
  have hwa : IntKind.u64.wrap s.addr = s.addr := by rw [IntKind.wrap_u64]; omega
  have hwb : IntKind.u64.wrap t.addr = t.addr := by rw [IntKind.wrap_u64]; omega
  cases A
  · go_enter Try.func40, Try.ntmps40
    go_wp2_with fail
    obtain ⟨wB, hwB, hbB, hs, ht⟩ : ∃ wB, ((w.alloc (.cells #[.int .u32 s.addr, .int .u32 s.size, .int .i64 s.perm, .slice q n c] 30)).alloc (.cells #[.int .u32 t.addr, .int .u32 t.size, .int .i64 t.perm, .slice q' n' c'] 30)) = wB ∧ Bw w wB ∧ SBox wB w.heap.size s (.slice q n c) ∧ SBox wB (w.heap.size + 1) t (.slice q' n' c') := ⟨_, rfl, by (repeat' (first | (with_reducible assumption) | (with_reducible exact Bw.refl _) | (with_reducible refine Bw.alloc ?_ _) | (with_reducible refine Bw.drew ?_) | (with_reducible refine Bw.drewN ?_ _) | (with_reducible refine Bw.setCell ?_ ?_ _) | exact Nat.le_refl _)), (SBox.new w s _ _).bw ((Bw.refl _).alloc _), by have := SBox.new (w.alloc (.cells #[.int .u32 s.addr, .int .u32 s.size, .int .i64 s.perm, .slice q n c] 30)) t (.slice q' n' c') 30; simpa only [World.size_alloc] using this⟩
    rw [hwB]
    have hBw := (Bw.refl wB).drew
    have hS : ∀ wr, Bw wB wr → (wr.cell? ⟨w.heap.size, 0, none⟩ = some (.int .u32 s.addr) ∧ wr.cell? ⟨w.heap.size, 1, none⟩ = some (.int .u32 s.size) ∧ wr.cell? ⟨w.heap.size, 2, none⟩ = some (.int .i64 s.perm) ∧ wr.cell? ⟨w.heap.size, 3, none⟩ = some (.slice q n c) ∧ wr.cell? ⟨w.heap.size + 1, 0, none⟩ = some (.int .u32 t.addr) ∧ wr.cell? ⟨w.heap.size + 1, 1, none⟩ = some (.int .u32 t.size) ∧ wr.cell? ⟨w.heap.size + 1, 2, none⟩ = some (.int .i64 t.perm) ∧ wr.cell? ⟨w.heap.size + 1, 3, none⟩ = some (.slice q' n' c')) := fun wr g => ⟨g.keep hs.c0, g.keep hs.c1, g.keep hs.c2, g.keep hs.c3, g.keep ht.c0, g.keep ht.c1, g.keep ht.c2, g.keep ht.c3⟩
    refine wp_region_held_drew (S := fun wr => wr.cell? ⟨w.heap.size, 0, none⟩ = some (.int .u32 s.addr) ∧ wr.cell? ⟨w.heap.size, 1, none⟩ = some (.int .u32 s.size) ∧ wr.cell? ⟨w.heap.size, 2, none⟩ = some (.int .i64 s.perm) ∧ wr.cell? ⟨w.heap.size, 3, none⟩ = some (.slice q n c) ∧ wr.cell? ⟨w.heap.size + 1, 0, none⟩ = some (.int .u32 t.addr) ∧ wr.cell? ⟨w.heap.size + 1, 1, none⟩ = some (.int .u32 t.size) ∧ wr.cell? ⟨w.heap.size + 1, 2, none⟩ = some (.int .i64 t.perm) ∧ wr.cell? ⟨w.heap.size + 1, 3, none⟩ = some (.slice q' n' c')) (by kernel_rfl) (hS _ hBw) (fun hHeld => ?_)
    refine wpAnyH_take (i := 0) (oi := ⟨some 5, _, _, _, _, _⟩) (v := ?_) rfl (by kernel_rfl) (by kernel_rfl) (by kernel_rfl) (fun _ _ _ h => h) (Or.inl ⟨by rfl, ?_⟩) (by assumption) ?_; (rotate_left 1); (focus (intro wz hSw; (try dsimp only at hSw); go_simp; try (with_reducible rfl))); simp only [Act.put, List.setIfInBounds_toArray, List.set_cons_zero, List.set_cons_succ]
    refine wpAnyH_take (i := 1) (oi := ⟨some 6, _, _, _, _, _⟩) (v := ?_) rfl (by kernel_rfl) (by kernel_rfl) (by kernel_rfl) (fun _ _ _ h => h) (Or.inl ⟨by rfl, ?_⟩) (by assumption) ?_; (rotate_left 1); (focus (intro wz hSw; (try dsimp only at hSw); go_simp; try (with_reducible rfl))); simp only [Act.put, List.setIfInBounds_toArray, List.set_cons_zero, List.set_cons_succ]
    refine wpAnyH_take (i := 2) (oi := ⟨some 7, _, _, _, _, _⟩) (v := ?_) rfl (by kernel_rfl) (by kernel_rfl) (by kernel_rfl) (fun _ _ _ h => h) (Or.inl ⟨by rfl, ?_⟩) (by assumption) ?_; (rotate_left 1); (focus (intro wz hSw; (try dsimp only at hSw); go_simp; try (with_reducible rfl))); simp only [Act.put, List.setIfInBounds_toArray, List.set_cons_zero, List.set_cons_succ]
    refine wpAnyH_take (i := 3) (oi := ⟨some 8, _, _, _, _, _⟩) (v := ?_) rfl (by kernel_rfl) (by kernel_rfl) (by kernel_rfl) (fun _ _ _ h => h) (Or.inl ⟨by rfl, ?_⟩) (by assumption) ?_; (rotate_left 1); (focus (intro wz hSw; (try dsimp only at hSw); go_simp; try (with_reducible rfl))); simp only [Act.put, List.setIfInBounds_toArray, List.set_cons_zero, List.set_cons_succ]
    refine wpAnyH_ready (rs := [4]) (by kernel_rfl) (by simp) ?_; refine AllReadyH.cons rfl (fun K hK => ?_) AllReadyH.nil; go_simp
    refine (hF _).mono ?_
    rintro e w2 ⟨rfl, hb2⟩
    replace hBw := hBw.trans hb2
    (try clear hHeld); refine hK.out _ _ ?_ (fun hHeld => ?_)
    · exact hS _ hBw
    refine wpAnyH_take (i := 5) (oi := ⟨some 10, _, _, _, _, _⟩) (v := ?_) rfl (by kernel_rfl) (by kernel_rfl) (by kernel_rfl) (fun _ _ _ h => h) (Or.inl ⟨by rfl, ?_⟩) (by assumption) ?_; (rotate_left 1); (focus (intro wz hSw; (try dsimp only at hSw); go_simp; try (with_reducible rfl))); simp only [Act.put, List.setIfInBounds_toArray, List.set_cons_zero, List.set_cons_succ]
    refine wpAnyH_take (i := 6) (oi := ⟨some 11, _, _, _, _, _⟩) (v := ?_) rfl (by kernel_rfl) (by kernel_rfl) (by kernel_rfl) (fun _ _ _ h => h) (Or.inl ⟨by rfl, ?_⟩) (by assumption) ?_; (rotate_left 1); (focus (intro wz hSw; (try dsimp only at hSw); go_simp; try (with_reducible rfl))); simp only [Act.put, List.setIfInBounds_toArray, List.set_cons_zero, List.set_cons_succ]
    refine wpAnyH_take (i := 7) (oi := ⟨some 12, _, _, _, _, _⟩) (v := undef) rfl (by kernel_rfl) (by kernel_rfl) (by kernel_rfl) (fun _ _ _ h => h) (Or.inr ⟨by rfl, rfl⟩) (by assumption) ?_; simp only [Act.put, List.setIfInBounds_toArray, List.set_cons_zero, List.set_cons_succ]
    refine wpAnyH_take (i := 8) (oi := ⟨some 13, _, _, _, _, _⟩) (v := undef) rfl (by kernel_rfl) (by kernel_rfl) (by kernel_rfl) (fun _ _ _ h => h) (Or.inr ⟨by rfl, rfl⟩) (by assumption) ?_; simp only [Act.put, List.setIfInBounds_toArray, List.set_cons_zero, List.set_cons_succ]
    refine wpAnyH_take (i := 9) (oi := ⟨some 14, _, _, _, _, _⟩) (v := undef) rfl (by kernel_rfl) (by kernel_rfl) (by kernel_rfl) (fun _ _ _ h => h) (Or.inr ⟨by rfl, rfl⟩) (by assumption) ?_; simp only [Act.put, List.setIfInBounds_toArray, List.set_cons_zero, List.set_cons_succ]
    refine wpAnyH_take (i := 10) (oi := ⟨some 15, _, _, _, _, _⟩) (v := undef) rfl (by kernel_rfl) (by kernel_rfl) (by kernel_rfl) (fun _ _ _ h => h) (Or.inr ⟨by rfl, rfl⟩) (by assumption) ?_; simp only [Act.put, List.setIfInBounds_toArray, List.set_cons_zero, List.set_cons_succ]
    refine wpAnyH_take (i := 11) (oi := ⟨some 16, _, _, _, _, _⟩) (v := undef) rfl (by kernel_rfl) (by kernel_rfl) (by kernel_rfl) (fun _ _ _ h => h) (Or.inr ⟨by rfl, rfl⟩) (by assumption) ?_; simp only [Act.put, List.setIfInBounds_toArray, List.set_cons_zero, List.set_cons_succ]
    refine wpAnyH_take (i := 12) (oi := ⟨some 17, _, _, _, _, _⟩) (v := undef) rfl (by kernel_rfl) (by kernel_rfl) (by kernel_rfl) (fun _ _ _ h => h) (Or.inr ⟨by rfl, rfl⟩) (by assumption) ?_; simp only [Act.put, List.setIfInBounds_toArray, List.set_cons_zero, List.set_cons_succ]
    refine wpAnyH_take (i := 13) (oi := ⟨some 18, _, _, _, _, _⟩) (v := ?_) rfl (by kernel_rfl) (by kernel_rfl) (by kernel_rfl) (fun _ _ _ h => h) (Or.inl ⟨by rfl, ?_⟩) (by assumption) ?_; (rotate_left 1); (focus (intro wz hSw; (try dsimp only at hSw); go_simp; try (with_reducible rfl))); simp only [Act.put, List.setIfInBounds_toArray, List.set_cons_zero, List.set_cons_succ]
    refine wpAnyH_take (i := 14) (oi := ⟨some 4, _, _, _, _, _⟩) (v := ?_) rfl (by kernel_rfl) (by kernel_rfl) (by kernel_rfl) (fun _ _ _ h => h) (Or.inl ⟨by rfl, ?_⟩) (by assumption) ?_; (rotate_left 1); (focus (intro wz hSw; (try dsimp only at hSw); go_simp; try (with_reducible rfl))); simp only [Act.put, List.setIfInBounds_toArray, List.set_cons_zero, List.set_cons_succ]
    refine wpAnyH_done (by kernel_rfl) ?_ _
    go_wp2_with fail
    go_returns
    exact ret_bool (by first | exact HAB | (rw [← (show _ = R from HAB)]; done)) (hbB.trans hBw)
  · go_enter Try.func40, Try.ntmps40
    go_wp2_with fail
    obtain ⟨wB, hwB, hbB, hs, ht⟩ : ∃ wB, ((w.alloc (.cells #[.int .u32 s.addr, .int .u32 s.size, .int .i64 s.perm, .slice q n c] 30)).alloc (.cells #[.int .u32 t.addr, .int .u32 t.size, .int .i64 t.perm, .slice q' n' c'] 30)) = wB ∧ Bw w wB ∧ SBox wB w.heap.size s (.slice q n c) ∧ SBox wB (w.heap.size + 1) t (.slice q' n' c') := ⟨_, rfl, by (repeat' (first | (with_reducible assumption) | (with_reducible exact Bw.refl _) | (with_reducible refine Bw.alloc ?_ _) | (with_reducible refine Bw.drew ?_) | (with_reducible refine Bw.drewN ?_ _) | (with_reducible refine Bw.setCell ?_ ?_ _) | exact Nat.le_refl _)), (SBox.new w s _ _).bw ((Bw.refl _).alloc _), by have := SBox.new (w.alloc (.cells #[.int .u32 s.addr, .int .u32 s.size, .int .i64 s.perm, .slice q n c] 30)) t (.slice q' n' c') 30; simpa only [World.size_alloc] using this⟩
    rw [hwB]
    have hBw := (Bw.refl wB).drew
    have hS : ∀ wr, Bw wB wr → (wr.cell? ⟨w.heap.size, 0, none⟩ = some (.int .u32 s.addr) ∧ wr.cell? ⟨w.heap.size, 1, none⟩ = some (.int .u32 s.size) ∧ wr.cell? ⟨w.heap.size, 2, none⟩ = some (.int .i64 s.perm) ∧ wr.cell? ⟨w.heap.size, 3, none⟩ = some (.slice q n c) ∧ wr.cell? ⟨w.heap.size + 1, 0, none⟩ = some (.int .u32 t.addr) ∧ wr.cell? ⟨w.heap.size + 1, 1, none⟩ = some (.int .u32 t.size) ∧ wr.cell? ⟨w.heap.size + 1, 2, none⟩ = some (.int .i64 t.perm) ∧ wr.cell? ⟨w.heap.size + 1, 3, none⟩ = some (.slice q' n' c')) := fun wr g => ⟨g.keep hs.c0, g.keep hs.c1, g.keep hs.c2, g.keep hs.c3, g.keep ht.c0, g.keep ht.c1, g.keep ht.c2, g.keep ht.c3⟩
    refine wp_region_held_drew (S := fun wr => wr.cell? ⟨w.heap.size, 0, none⟩ = some (.int .u32 s.addr) ∧ wr.cell? ⟨w.heap.size, 1, none⟩ = some (.int .u32 s.size) ∧ wr.cell? ⟨w.heap.size, 2, none⟩ = some (.int .i64 s.perm) ∧ wr.cell? ⟨w.heap.size, 3, none⟩ = some (.slice q n c) ∧ wr.cell? ⟨w.heap.size + 1, 0, none⟩ = some (.int .u32 t.addr) ∧ wr.cell? ⟨w.heap.size + 1, 1, none⟩ = some (.int .u32 t.size) ∧ wr.cell? ⟨w.heap.size + 1, 2, none⟩ = some (.int .i64 t.perm) ∧ wr.cell? ⟨w.heap.size + 1, 3, none⟩ = some (.slice q' n' c')) (by kernel_rfl) (hS _ hBw) (fun hHeld => ?_)
    refine wpAnyH_take (i := 0) (oi := ⟨some 5, _, _, _, _, _⟩) (v := ?_) rfl (by kernel_rfl) (by kernel_rfl) (by kernel_rfl) (fun _ _ _ h => h) (Or.inl ⟨by rfl, ?_⟩) (by assumption) ?_; (rotate_left 1); (focus (intro wz hSw; (try dsimp only at hSw); go_simp; try (with_reducible rfl))); simp only [Act.put, List.setIfInBounds_toArray, List.set_cons_zero, List.set_cons_succ]
    refine wpAnyH_take (i := 1) (oi := ⟨some 6, _, _, _, _, _⟩) (v := ?_) rfl (by kernel_rfl) (by kernel_rfl) (by kernel_rfl) (fun _ _ _ h => h) (Or.inl ⟨by rfl, ?_⟩) (by assumption) ?_; (rotate_left 1); (focus (intro wz hSw; (try dsimp only at hSw); go_simp; try (with_reducible rfl))); simp only [Act.put, List.setIfInBounds_toArray, List.set_cons_zero, List.set_cons_succ]
    refine wpAnyH_take (i := 2) (oi := ⟨some 7, _, _, _, _, _⟩) (v := ?_) rfl (by kernel_rfl) (by kernel_rfl) (by kernel_rfl) (fun _ _ _ h => h) (Or.inl ⟨by rfl, ?_⟩) (by assumption) ?_; (rotate_left 1); (focus (intro wz hSw; (try dsimp only at hSw); go_simp; try (with_reducible rfl))); simp only [Act.put, List.setIfInBounds_toArray, List.set_cons_zero, List.set_cons_succ]
    refine wpAnyH_take (i := 3) (oi := ⟨some 8, _, _, _, _, _⟩) (v := ?_) rfl (by kernel_rfl) (by kernel_rfl) (by kernel_rfl) (fun _ _ _ h => h) (Or.inl ⟨by rfl, ?_⟩) (by assumption) ?_; (rotate_left 1); (focus (intro wz hSw; (try dsimp only at hSw); go_simp; try (with_reducible rfl))); simp only [Act.put, List.setIfInBounds_toArray, List.set_cons_zero, List.set_cons_succ]
    refine wpAnyH_ready (rs := [4]) (by kernel_rfl) (by simp) ?_; refine AllReadyH.cons rfl (fun K hK => ?_) AllReadyH.nil; go_simp
    refine (hF _).mono ?_
    rintro e w2 ⟨rfl, hb2⟩
    replace hBw := hBw.trans hb2
    (try clear hHeld); refine hK.out _ _ ?_ (fun hHeld => ?_)
    · exact hS _ hBw
    refine wpAnyH_take (i := 5) (oi := ⟨some 10, _, _, _, _, _⟩) (v := ?_) rfl (by kernel_rfl) (by kernel_rfl) (by kernel_rfl) (fun _ _ _ h => h) (Or.inl ⟨by rfl, ?_⟩) (by assumption) ?_; (rotate_left 1); (focus (intro wz hSw; (try dsimp only at hSw); go_simp; try (with_reducible rfl))); simp only [Act.put, List.setIfInBounds_toArray, List.set_cons_zero, List.set_cons_succ]
    refine wpAnyH_take (i := 6) (oi := ⟨some 11, _, _, _, _, _⟩) (v := ?_) rfl (by kernel_rfl) (by kernel_rfl) (by kernel_rfl) (fun _ _ _ h => h) (Or.inl ⟨by rfl, ?_⟩) (by assumption) ?_; (rotate_left 1); (focus (intro wz hSw; (try dsimp only at hSw); go_simp; try (with_reducible rfl))); simp only [Act.put, List.setIfInBounds_toArray, List.set_cons_zero, List.set_cons_succ]
    refine wpAnyH_take (i := 7) (oi := ⟨some 12, _, _, _, _, _⟩) (v := ?_) rfl (by kernel_rfl) (by kernel_rfl) (by kernel_rfl) (fun _ _ _ h => h) (Or.inl ⟨by rfl, ?_⟩) (by assumption) ?_; (rotate_left 1); (focus (intro wz hSw; (try dsimp only at hSw); go_simp; try (with_reducible rfl))); simp only [Act.put, List.setIfInBounds_toArray, List.set_cons_zero, List.set_cons_succ]
    refine wpAnyH_take (i := 8) (oi := ⟨some 13, _, _, _, _, _⟩) (v := ?_) rfl (by kernel_rfl) (by kernel_rfl) (by kernel_rfl) (fun _ _ _ h => h) (Or.inl ⟨by rfl, ?_⟩) (by assumption) ?_; (rotate_left 1); (focus (intro wz hSw; (try dsimp only at hSw); go_simp; try (with_reducible rfl))); simp only [Act.put, List.setIfInBounds_toArray, List.set_cons_zero, List.set_cons_succ]
    refine wpAnyH_take (i := 9) (oi := ⟨some 14, _, _, _, _, _⟩) (v := ?_) rfl (by kernel_rfl) (by kernel_rfl) (by kernel_rfl) (fun _ _ _ h => h) (Or.inl ⟨by rfl, ?_⟩) (by assumption) ?_; (rotate_left 1); (focus (intro wz hSw; (try dsimp only at hSw); go_simp; try (with_reducible rfl))); simp only [Act.put, List.setIfInBounds_toArray, List.set_cons_zero, List.set_cons_succ]
    refine wpAnyH_take (i := 10) (oi := ⟨some 15, _, _, _, _, _⟩) (v := ?_) rfl (by kernel_rfl) (by kernel_rfl) (by kernel_rfl) (fun _ _ _ h => h) (Or.inl ⟨by rfl, ?_⟩) (by assumption) ?_; (rotate_left 1); (focus (intro wz hSw; (try dsimp only at hSw); go_simp; try (with_reducible rfl))); simp only [Act.put, List.setIfInBounds_toArray, List.set_cons_zero, List.set_cons_succ]
    refine wpAnyH_ready (rs := [11]) (by kernel_rfl) (by simp) ?_; refine AllReadyH.cons rfl (fun K hK => ?_) AllReadyH.nil; go_simp
    refine (hE _).mono ?_
    rintro e w3 ⟨rfl, hb3⟩
    replace hBw := hBw.trans hb3
    (try clear hHeld); refine hK.out _ _ ?_ (fun hHeld => ?_)
    · exact hS _ hBw
    refine wpAnyH_take (i := 12) (oi := ⟨some 17, _, _, _, _, _⟩) (v := ?_) rfl (by kernel_rfl) (by kernel_rfl) (by kernel_rfl) (fun _ _ _ h => h) (Or.inl ⟨by rfl, ?_⟩) (by assumption) ?_; (rotate_left 1); (focus (intro wz hSw; (try dsimp only at hSw); go_simp; try (with_reducible rfl))); simp only [Act.put, List.setIfInBounds_toArray, List.set_cons_zero, List.set_cons_succ]
    refine wpAnyH_take (i := 13) (oi := ⟨some 18, _, _, _, _, _⟩) (v := ?_) rfl (by kernel_rfl) (by kernel_rfl) (by kernel_rfl) (fun _ _ _ h => h) (Or.inl ⟨by rfl, ?_⟩) (by assumption) ?_; (rotate_left 1); (focus (intro wz hSw; (try dsimp only at hSw); go_simp; try (with_reducible rfl))); simp only [Act.put, List.setIfInBounds_toArray, List.set_cons_zero, List.set_cons_succ]
    refine wpAnyH_take (i := 14) (oi := ⟨some 4, _, _, _, _, _⟩) (v := ?_) rfl (by kernel_rfl) (by kernel_rfl) (by kernel_rfl) (fun _ _ _ h => h) (Or.inl ⟨by rfl, ?_⟩) (by assumption) ?_; (rotate_left 1); (focus (intro wz hSw; (try dsimp only at hSw); go_simp; try (with_reducible rfl))); simp only [Act.put, List.setIfInBounds_toArray, List.set_cons_zero, List.set_cons_succ]
    refine wpAnyH_done (by kernel_rfl) ?_ _
    go_wp2_with fail
    go_returns
    exact ret_bool (by first | exact HAB | (rw [← (show _ = R from HAB)]; done)) (hbB.trans hBw)
set_option maxHeartbeats 1000000 in
set_option maxRecDepth 100000 in
theorem segmentStands_c (s : Img.Seg) (hs : Img.Wf s) (q : Option Addr) (c : Nat) (hc : s.bytes.length ≤ c ∧ c ≤ 9223372036854775807) (w : World) : Calls Try.prog 27 #[.agg #[.int .u32 s.addr, .int .u32 s.size, .int .i64 s.perm, .slice q s.bytes.length c]] w fun e w' => e = .returned (.bool (Img.segOk s)) ∧ Bw w w' := by
  have hE := end_c s hs q s.bytes.length c
  obtain ⟨a0, a1, z0, z1, _, _, _⟩ := hs
  generalize hR : Img.segOk s = R
  have HR : Hid _ := hR
  have HF : Hid (Img.fin s = Img.fin s) := rfl
  clear hR
  go_enter Try.func27, Try.ntmps27
  go_wp2_with (go_at_call 39; (refine (hE _).mono ?_; rintro e w2 ⟨rfl, hb2⟩; have d2 := hb2.keep (p := ⟨w.heap.size, 2, none⟩) (v := .int .i64 s.perm) (by rw [World.cell?_alloc_at _ _ _ _ (by simp)]; rfl)))
  all_goals go_returns
  all_goals (exact ret_bool (by rw [← (show _ = R from HR)]; unfold Img.segOk; first | (simp_all; done) | (simp_all; intros; omega)) (by first | ((repeat' (first | (with_reducible assumption) | (with_reducible exact Bw.refl _) | (with_reducible refine Bw.alloc ?_ _) | (with_reducible refine Bw.drew ?_) | (with_reducible refine Bw.drewN ?_ _) | (with_reducible refine Bw.setCell ?_ ?_ _) | exact Nat.le_refl _)); done) | exact ((Bw.refl _).alloc _).trans hb2))
set_option maxHeartbeats 1000000 in
set_option maxRecDepth 100000 in
theorem swapPerm_c (p : Int) (h0 : 0 ≤ p) (h1 : p ≤ 7) (w : World) : Calls Try.prog 26 #[.int .u32 p] w fun e w' => e = .returned (.int .u32 (Img.swap p)) ∧ w' = w := by
  obtain rfl | rfl | rfl | rfl | rfl | rfl | rfl | rfl : p = 0 ∨ p = 1 ∨ p = 2 ∨ p = 3 ∨ p = 4 ∨ p = 5 ∨ p = 6 ∨ p = 7 := by omega
  all_goals
    go_enter Try.func26, Try.ntmps26
    go_wp2_with fail
    go_returns
    exact ⟨congrArg (fun x => Ending.returned (.int .u32 x)) (by decide +kernel), rfl⟩
end Go.Proofs.Ytaejcbmmapcpgaa
