/- LABELS, AS A LAW HOLDS THEM. -/
import Derived.Test.YtgebmedkhakhfaaShFill
import Derived.Test.YtgebmedkhakhfaaShDirty
namespace Go.Proofs.Ytgebmedkhakhfaa
open Go.ChangeShapes Go.WideShapes Go.ChangeAt Go.RowKit Go.Shelf
set_option linter.unusedSimpArgs false
set_option linter.unusedVariables false

/-- A law that began in w0 holds labels at sb. -/
def HasS (w0 w : World) (sb N : Nat) (S : SS) (ks : List Int) : Prop := Below w0.heap.size w0 w ∧ (ks.length : Int) ≤ S.budget ∧ ∃ L, ShL w sb (fun i => w0.heap.size ≤ i ∧ i < w.heap.size) N S L ∧ L.ks = ks
theorem HasS.bl {w0 w : World} {sb N : Nat} {S : SS} {ks : List Int} (h : HasS w0 w sb N S ks) : Below w0.heap.size w0 w := h.1
theorem HasS.on {w0 w w' : World} {sb N : Nat} {S : SS} {ks : List Int} (h : HasS w0 w sb N S ks) (b : Below w.heap.size w w') : HasS w0 w' sb N S ks := by
  obtain ⟨h1, h2, L, hS, hk⟩ := h
  refine ⟨bl_trans h1 b, h2, L, (hS.bl b).mono (fun i hi => ⟨hi.1, Nat.lt_of_lt_of_le hi.2 b.size⟩) (fun i hi => hi.2) (Nat.le_refl _), hk⟩
theorem HasS.enum {w0 w : World} {sb N : Nat} {S : SS} {ks : List Int} (h : HasS w0 w sb N S ks) : Enum S ks := by
  obtain ⟨h1, h2, L, hS, rfl⟩ := h
  exact hS.enum
theorem HasS.rng {w0 w : World} {sb N : Nat} {S : SS} {ks : List Int} (h : HasS w0 w sb N S ks) : ∀ a, 0 ≤ S.lab a ∧ S.lab a < 256 := by
  obtain ⟨h1, h2, L, hS, rfl⟩ := h
  exact hS.rng
theorem HasS.room {w0 w : World} {sb N : Nat} {S : SS} {ks : List Int} (h : HasS w0 w sb N S ks) : (ks.length : Int) ≤ S.budget := h.2.1
theorem SNew_h (n : Int) (h1 : 0 ≤ n) (h2 : n ≤ 4096) (w0 w : World) (b : Below w0.heap.size w0 w) :
    Calls Try.prog 37 #[.int .i64 n] w fun e w' => ∃ sb, e = .returned (.tuple #[.pointer (some ⟨sb, 0, none⟩), .int .i64 0]) ∧ Below w.heap.size w w' ∧ HasS w0 w' sb 0 ⟨n, fun _ => 0⟩ [] := by
  refine (SNew_c n h1 h2 w).mono ?_
  rintro e w' ⟨rfl, hb, hS⟩
  have z := b.size
  refine ⟨_, rfl, hb, bl_trans b hb, by simpa using h1, _, hS.mono (fun i hi => ?_) (fun i hi => hi.2) (Nat.le_refl _), rfl⟩
  exact ⟨by omega, hS.lt i hi⟩
theorem SAt_h {w0 w : World} {sb N : Nat} {S : SS} {ks : List Int} (h : HasS w0 w sb N S ks) (a : Int) (ha : U4 a) :
    Calls Try.prog 43 #[.pointer (some ⟨sb, 0, none⟩), .int .u32 a] w fun e w' => e = .returned (.int .u8 (S.lab a)) ∧ w' = w := by
  obtain ⟨_, _, L, hS, _⟩ := h
  exact SAt_c hS a ha
theorem Dirty_h {w0 w : World} {sb N : Nat} {S : SS} {ks : List Int} (h : HasS w0 w sb N S ks) (h12 : ks.length ≤ 12) :
    Calls Try.prog 45 #[.pointer (some ⟨sb, 0, none⟩)] w fun e w' => ∃ q cap, e = .returned (.slice q ks.length cap) ∧ Below w.heap.size w w' := by
  obtain ⟨_, _, L, hS, rfl⟩ := h
  exact Dirty_c hS h12
/-- What a law has behind a Set. -/
def SetH (w0 w : World) (sb N : Nat) (S T : SS) (e : Ending) (w' : World) : Prop :=
  (∃ ks', Enum T ks' ∧ S.budget < ks'.length ∧ e = .returned (.int .i64 6) ∧ Below w.heap.size w w') ∨ (∃ ks', e = .returned (.int .i64 0) ∧ HasS w0 w' sb N T ks' ∧ Below w0.heap.size w w')
theorem SetPost.has {w0 w w' : World} {sb N : Nat} {S T : SS} {e : Ending} (b : Below w0.heap.size w0 w) (hb : T.budget = S.budget) (h : SetPost w sb (fun i => w0.heap.size ≤ i ∧ i < w.heap.size) N S T e w') : SetH w0 w sb N S T e w' := by
  obtain ⟨ks', he, (⟨rfl, hbl, hf⟩ | ⟨rfl, hf, hF, L', G, hS, hG, hl⟩)⟩ := h
  · exact .inl ⟨ks', he, hf, rfl, hbl⟩
  · have z := b.size
    have b1 : Below w0.heap.size w w' := hF.bl z (fun i hi x => x.1)
    refine .inr ⟨L'.ks, rfl, ⟨b.trans b1, by rw [hb]; exact hl, L', hS.mono (fun i hi => ⟨?_, hS.lt i hi⟩) (fun i hi => hi.2) (Nat.le_refl _), rfl⟩, b1⟩
    rcases hG.2 i hi with x | ⟨x, _⟩
    · exact x.1
    · omega
theorem rowN_small {A : Int} {m : Nat} (h : m ≤ 1048576) : rowN A m ≤ 5000 := by have := rowN_le (A := A) (n := m); omega
theorem Fill_h {w0 w : World} {sb N : Nat} {S : SS} {ks : List Int} (h : HasS w0 w sb N S ks) (A n l : Int) (hA : U4 A) (hn : n ≤ 1048576) (hl : 0 ≤ l ∧ l < 256) (m : Nat) (hm : (m : Int) = min n (4294967296 - A)) (hm0 : 1 ≤ m) (hN : N ≤ 1000000000) :
    Calls Try.prog 38 #[.pointer (some ⟨sb, 0, none⟩), .int .u32 A, .int .i64 n, .int .u8 l] w (SetH w0 w sb (N + rowN A m) S (S.put A (fun _ => l) m)) := by
  obtain ⟨b, hk, L, hS, rfl⟩ := h
  have hr := rowN_small (A := A) (m := m) (by omega)
  exact (Fill_pos hS A n l hA hn hl m hm hm0 hk (by unfold maxLen; omega)).mono fun e w' hp => SetPost.has b rfl hp
theorem Set_h {w0 w : World} {sb N : Nat} {S : SS} {ks : List Int} (h : HasS w0 w sb N S ks) (A : Int) (hA : U4 A) {v : Value} {g o len cap : Nat} {bs : Nat → Int} (sa : SArg w v g o len cap bs) (m : Nat) (hm : (m : Int) = max 0 (min (len : Int) (4294967296 - A))) (hl9 : len ≤ 1048576)
    (hN : N ≤ 1000000000) (hg : len ≠ 0 → g < w0.heap.size) :
    Calls Try.prog 39 #[.pointer (some ⟨sb, 0, none⟩), .int .u32 A, v] w (SetH w0 w sb (N + rowN A m) S (S.put A bs m)) := by
  obtain ⟨b, hk, L, hS, rfl⟩ := h
  have hr := rowN_small (A := A) (m := m) (by unfold U4 at hA; omega)
  exact (Set_c hS A hA sa m hm hk (by omega) (by unfold maxLen; omega) (fun x y => by have := hg x; omega)).mono fun e w' hp => SetPost.has b rfl hp

/-! ### how many -/
theorem nodup_le {ks ps : List Int} (hn : ks.Nodup) (h : ∀ k ∈ ks, k ∈ ps) : ks.length ≤ ps.length := by
  induction ks generalizing ps with
  | nil => simp
  | cons k ks ih =>
    have hk := h k List.mem_cons_self
    have := ih (ps := ps.erase k) (List.nodup_cons.1 hn).2 (fun x hx => by
      have hne : x ≠ k := fun e => (List.nodup_cons.1 hn).1 (e ▸ hx)
      exact (List.mem_erase_of_ne hne).2 (h x (List.mem_cons_of_mem _ hx)))
    rw [List.length_erase_of_mem hk] at this
    have := List.length_pos_of_mem hk
    simp only [List.length_cons]
    omega
theorem Enum.le {S : SS} {ks ps : List Int} (h : Enum S ks) (hp : ∀ k, 0 ≤ k → k < 16777216 → k ∉ ps → nz (S.pg k) 256 = 0) : ks.length ≤ ps.length :=
  nodup_le h.1 (fun k hk => by
    obtain ⟨a, b, c⟩ := (h.2 k).1 hk
    apply Decidable.byContradiction
    intro x
    have := hp k a b x
    omega)
theorem Enum.pos {S : SS} {ks : List Int} (h : Enum S ks) {k : Int} (h0 : 0 ≤ k) (h1 : k < 16777216) {i : Nat} (hi : i < 256) (hx : S.pg k i ≠ 0) : 0 < ks.length := by
  have : k ∈ ks := (h.2 k).2 ⟨h0, h1, by
    apply Decidable.byContradiction
    intro x
    exact hx (nz_zero.1 (by omega) i hi)⟩
  exact List.length_pos_of_mem this
end Go.Proofs.Ytgebmedkhakhfaa
