/- LAYER 11's walks: the sources behind the first; find. -/
import Derived.Test.YtaepjlaegldkhaaFilW3
namespace Go.Proofs.Ytaepjlaegldkhaa
open Go.ChangeShapes Go.WideShapes Go.ChangeAt Go.RowKit

theorem Fil.idx_range (l : List Fee.Fl) (name : ByteArray) : -1 ≤ Fil.idx l name ∧ Fil.idx l name ≤ l.length := by
  unfold Fil.idx
  cases h : l.findIdx? (Fil.same name) with
  | none => dsimp only; omega
  | some i =>
    rw [List.findIdx?_eq_some_iff_getElem] at h
    obtain ⟨h, _⟩ := h
    dsimp only; omega
/-- The sources behind the first. -/
theorem FsX.src {w0 w : World} {fb ub : Nat} {v1 v2 vs : Value} {us : List Value} {A : Nat → Prop} {s : Fil.St} (h : FsX w0 w fb ub v1 v2 vs us A s) : FlS w vs s.srcs := ⟨us, h.ul, h.rd, fun i f u a b => (h.r8 i f u a b).1, fun f hf => (h.ok.ld f hf).2⟩
set_option maxHeartbeats 2000000 in
set_option maxRecDepth 100000 in
theorem fFind_c {w0 w : World} {fb : Nat} {A : Nat → Prop} {s : Fil.St} (h : FS w0 w fb A s) (name : ByteArray) : Calls Try.prog 31 #[.pointer (some ⟨fb, 0, none⟩), .string name] w fun e w' => e = .returned (.int .i64 (Fil.find s.srcs name)) ∧ Bw w w' := by
  have hok := h.ok
  obtain ⟨l1, l2⟩ := hok.ls
  obtain ⟨ub, v1, v2, vs, us, h⟩ := h
  have c1 := h.box.c 1 _ rfl
  have hlo := (h.in_ _ h.af).2
  obtain ⟨q, cap, rfl, hc1, hc2, hcell⟩ := h.src.open
  obtain ⟨f0, hf0⟩ : ∃ f, s.srcs[0]? = some f := ⟨_, List.getElem?_eq_getElem (by omega)⟩
  obtain ⟨b, o, _, _, rfl, hb, _⟩ := hcell 0 f0 hf0
  have e1 : (s.srcs.drop 1).length = s.srcs.length - 1 := List.length_drop
  have hR := Fil.find_idx s.srcs name
  have hI : ∀ X, Bw w X → X.cell? ⟨w.heap.size, 0, none⟩ = some (.string name) → ∀ b2 o2 c2, (cap = 1 ∨ (b2 = b ∧ o2 = o + 2)) → Calls Try.prog 44 #[.slice (some ⟨b2, o2, none⟩) (s.srcs.drop 1).length c2, .func (.func 45) #[] #[.pointer (some ⟨w.heap.size, 0, none⟩)]] X fun e w' => e = .returned (.int .i64 (Fil.idx (s.srcs.drop 1) name)) ∧ Bw X w' := fun X g hB b2 o2 c2 hc => idxFunc_c hB (s.srcs.drop 1) b2 o2 c2 (by omega) (fun i f hi => by
    have hi2 := (List.getElem?_eq_some_iff.1 hi).1
    rcases hc with hc | ⟨rfl, rfl⟩
    · omega
    rw [List.getElem?_drop] at hi
    obtain ⟨b', o', qs, cs, e, _, d0, d1, _⟩ := hcell (1 + i) f hi
    simp at e
    obtain ⟨rfl, rfl⟩ := e
    exact ⟨qs, cs, by rw [show o + 2 + i * 2 = o + (1 + i) * 2 by omega]; exact g.keep d0, by rw [show o + 2 + i * 2 + 1 = o + (1 + i) * 2 + 1 by omega]; exact g.keep d1⟩)
  rw [e1] at hI
  clear h hcell hok hf0
  obtain ⟨hr1, hr2⟩ := Fil.idx_range (s.srcs.drop 1) name
  rw [e1] at hr2
  generalize s.srcs.length = n at *
  clear e1
  generalize Fil.idx (s.srcs.drop 1) name = r at *
  rw [hR]
  clear hR
  obtain ⟨m, rfl⟩ : ∃ m, n = m + 1 := ⟨n - 1, by omega⟩
  rw [Nat.add_sub_cancel] at hI
  have c1' := ((Bw.refl w).alloc (.cells #[.string name] 9)).keep c1
  have hB := hI _ ((Bw.refl w).alloc (.cells #[.string name] 9)) ((Box.new w [.string name] 9).c 0 _ rfl)
  clear hI
  go_enter Try.func31, Try.ntmps31
  go_wp2_with fail
  · refine (hB _ _ _ (by first | exact Or.inr ⟨rfl, rfl⟩ | exact Or.inl (by assumption))).mono ?_
    rintro e w' ⟨rfl, hb'⟩
    go_wp2_with fail
    go_returns
    exact ret_i rfl (((Bw.refl w).alloc _).trans hb')
  · refine (hB _ _ _ (by first | exact Or.inr ⟨rfl, rfl⟩ | exact Or.inl (by assumption))).mono ?_
    rintro e w' ⟨rfl, hb'⟩
    go_wp2_with fail
    go_returns
    exact ret_i rfl (((Bw.refl w).alloc _).trans hb')
end Go.Proofs.Ytaepjlaegldkhaa
