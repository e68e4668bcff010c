/- Any: all labels of a stretch. -/
import Derived.Test.YtgebmedkhakhfaaShDRows
import Derived.Laws.BitsAllLaws
namespace Go.Proofs.Ytgebmedkhakhfaa
open Go.ChangeShapes Go.WideShapes Go.ChangeAt Go.RowKit Go.Shelf
set_option linter.unusedSimpArgs false
set_option linter.unusedVariables false
attribute [local go_sem] Oper.semAt_some wide_fn

/-- r is the or of all labels of the addresses of P. -/
def OrP (lab : Int → Int) (P : Int → Prop) (r : Int) : Prop := 0 ≤ r ∧ r < 256 ∧ ∀ j, r.toNat.testBit j = true ↔ ∃ a, P a ∧ (lab a).toNat.testBit j = true
theorem OrP.congr {lab : Int → Int} {P Q : Int → Prop} {r : Int} (h : OrP lab P r) (e : ∀ a, P a ↔ Q a) : OrP lab Q r :=
  ⟨h.1, h.2.1, fun j => (h.2.2 j).trans ⟨fun ⟨a, p, b⟩ => ⟨a, (e a).1 p, b⟩, fun ⟨a, p, b⟩ => ⟨a, (e a).2 p, b⟩⟩⟩
/-- Clean ones count for nothing. -/
theorem OrP.clean {lab : Int → Int} {P Q : Int → Prop} {r : Int} (h : OrP lab P r) (h1 : ∀ a, P a → Q a) (h2 : ∀ a, Q a → ¬ P a → lab a = 0) : OrP lab Q r :=
  ⟨h.1, h.2.1, fun j => (h.2.2 j).trans ⟨fun ⟨a, p, b⟩ => ⟨a, h1 a p, b⟩, fun ⟨a, p, b⟩ => by
    by_cases x : P a
    · exact ⟨a, x, b⟩
    · rw [h2 a p x] at b; simp at b⟩⟩
theorem OrP.none (lab : Int → Int) (P : Int → Prop) (h : ∀ a, P a → lab a = 0) : OrP lab P 0 :=
  ⟨by omega, by omega, fun j => ⟨fun x => by simp at x, fun ⟨a, p, b⟩ => by rw [h a p] at b; simp at b⟩⟩
theorem OrP.join {lab : Int → Int} {P Q : Int → Prop} {r s : Int} (h : OrP lab P r) (k : OrP lab Q s) : OrP lab (fun a => P a ∨ Q a) (bits .or .u8 r s) := by
  rw [u8_or _ _ h.1 h.2.1 k.1 k.2.1]
  have h8 : r.toNat ||| s.toNat < 2 ^ 8 := Nat.or_lt_two_pow (by have := h.1; have := h.2.1; omega) (by have := k.1; have := k.2.1; omega)
  refine ⟨by omega, by omega, fun j => ?_⟩
  rw [Int.toNat_natCast, Nat.testBit_or, Bool.or_eq_true, h.2.2 j, k.2.2 j]
  constructor
  · rintro (⟨a, p, b⟩ | ⟨a, p, b⟩)
    · exact ⟨a, .inl p, b⟩
    · exact ⟨a, .inr p, b⟩
  · rintro ⟨a, p | p, b⟩
    · exact .inl ⟨a, p, b⟩
    · exact .inr ⟨a, p, b⟩
theorem OrP.one {lab : Int → Int} {a : Int} (h : 0 ≤ lab a ∧ lab a < 256) : OrP lab (fun x => x = a) (lab a) :=
  ⟨h.1, h.2, fun j => ⟨fun b => ⟨a, rfl, b⟩, fun ⟨x, e, b⟩ => by subst e; exact b⟩⟩
theorem OrP.eq {lab : Int → Int} {P : Int → Prop} {r s : Int} (h : OrP lab P r) (k : OrP lab P s) : r = s := by
  have e : r.toNat = s.toNat := Nat.eq_of_testBit_eq (fun j => Bool.eq_iff_iff.2 ((h.2.2 j).trans (k.2.2 j).symm))
  have := h.1; have := k.1; omega
/-- Only block B is another. -/
structure OnlyB (B : Nat) (W W' : World) : Prop where
  os : W'.os = W.os
  tape : W'.tape = W.tape
  output : W'.output = W.output
  size : W'.heap.size = W.heap.size
  block : ∀ i, i ≠ B → W'.heap[i]? = W.heap[i]?
theorem OnlyB.refl (B : Nat) (W : World) : OnlyB B W W := ⟨rfl, rfl, rfl, rfl, fun _ _ => rfl⟩
theorem OnlyB.set {B : Nat} {W W' : World} (h : OnlyB B W W') (v : Value) : OnlyB B W (W'.setCell ⟨B, 0, none⟩ v) :=
  ⟨h.os, h.tape, h.output, by simpa using h.size, fun i hi => (Below.heap_setCell _ _ _ _ hi).trans (h.block i hi)⟩
theorem OnlyB.drew {B : Nat} {W W' : World} (h : OnlyB B W W') (n : Nat) : OnlyB B W (W'.drewN n) := ⟨h.os, h.tape, h.output, h.size, h.block⟩
section
variable {w : World} {sb : Nat} {F : Nat → Prop} {N : Nat} {S : SS} {L : SLay}
set_option maxRecDepth 100000 in
set_option maxHeartbeats 2000000 in
theorem Any_c (h : ShL w sb F N S L) (A c : Int) (hA : U4 A) (hc0 : -9223372036854775808 ≤ c) (hc1 : c ≤ 9223372036854775807) (m : Nat) (hm : (m : Int) = max 0 (min c (4294967296 - A))) (hks : L.ks.length ≤ 4096) :
    Calls Try.prog 41 #[.pointer (some ⟨sb, 0, none⟩), .int .u32 A, .int .i64 c] w fun e w' => ∃ r, e = .returned (.int .u8 r) ∧ OrP S.lab (fun a => A ≤ a ∧ a < A + m) r ∧ Below w.heap.size w w' := by
  have hmA : A + m ≤ 4294967296 := by unfold U4 at hA; omega
  refine (callsIn_wide (n := 5)).1 ?_
  refine callsIn_of_wp_marks Try.func41 rfl trivial ?_ rfl
  simp only [Try.ntmps41, List.size_toArray, List.length_cons, List.length_nil, Nat.reduceAdd, Nat.reduceSub, Array.replicate_succ, Array.replicate_zero, List.push_toArray, List.append_toArray, List.nil_append, List.cons_append]
  gi_wp2_with (gi_at_call 83; refine (dirtyRows_in _ sb A c _).mono ?_; rintro e w' ⟨rfl, rfl⟩)
  have hw1 : (w.alloc (.cells #[.int .u8 0] 5)).heap.size = w.heap.size + 1 := by simp
  have hseq := fun (I : List Int → World → Prop) (hI : ∀ pre W, I pre W → DR sb L pre W) => dRows_seq 4 (by omega) sb L A c hA hc0 hc1 m hm I hI w.heap.size (w.alloc (.cells #[.int .u8 0] 5)) (by omega)
  rw [hw1] at hseq
  obtain ⟨W0, hW0⟩ : ∃ W0, ((((w.alloc (.cells #[.int .u8 0] 5)).alloc (.cells #[.pointer (some ⟨sb, 0, none⟩)] 52)).alloc (.cells #[.int .u32 A] 33)).alloc (.cells #[.int .i64 c] 3)) = W0 := ⟨_, rfl⟩
  have b0 : Below w.heap.size w W0 := by
    rw [← hW0]; exact bl_alloc (bl_alloc (bl_alloc (bl_alloc (Below.refl _ _) _) _) _) _
  have x0 : BoxN W0 w.heap.size 5 #[.int .u8 0] := by
    rw [← hW0]; exact BoxN.bl (BoxN.bl (BoxN.bl (BoxN.new w _ _) (bl_alloc (Below.refl _ _) _)) (bl_alloc (Below.refl _ _) _)) (bl_alloc (Below.refl _ _) _)
  have s0 : W0.heap.size = w.heap.size + 4 := by rw [← hW0]; simp
  rw [hW0] at hseq ⊢
  clear hW0 hw1
  have hInv : ∀ pre W, ((∃ r, BoxN W w.heap.size 5 #[.int .u8 r] ∧ OrP S.lab (fun a => A ≤ a ∧ a < A + m ∧ a / 256 ∈ pre) r) ∧ Below w.heap.size w W) → DR sb L pre W := fun pre W hI => ⟨L, F, N, S, h.bl hI.2, hks, fun _ _ => rfl⟩
  refine wpIn_range_I rfl (by decide) (gf := 100) (lb := #[.pointer (some ⟨w.heap.size + 1 + 1, 0, none⟩), .pointer (some ⟨w.heap.size + 1 + 1 + 1, 0, none⟩), .pointer (some ⟨w.heap.size + 1, 0, none⟩)]) rfl trivial (enters_of Try.func100 (by kernel_rfl) rfl)
    _ (hseq _ hInv) KpS.trans KpS.put (fun _ => rfl) ?own ⟨⟨0, x0, OrP.none _ _ (fun a ha => by simp at ha)⟩, b0⟩
    (fun x => { tmps := #[.pointer (some ⟨sb, 0, none⟩), .int .u32 A, .int .i64 c, undef, undef, undef, .int .u8 0, .pointer (some ⟨w.heap.size, 0, none⟩), undef,
      .slice (some ⟨(L.bk x).getD 0, (max A (x * 256) - x * 256).toNat, none⟩) (min (A + m) (x * 256 + 256) - max A (x * 256)).toNat (256 - (max A (x * 256) - x * 256).toNat),
      undef, undef, .pointer (some ⟨sb, 0, none⟩), .int .u32 A, .int .i64 c, .func (.func 100) #[] #[.pointer (some ⟨w.heap.size + 1 + 1, 0, none⟩), .pointer (some ⟨w.heap.size + 1 + 1 + 1, 0, none⟩), .pointer (some ⟨w.heap.size + 1, 0, none⟩)],
      .int .u32 (max A (x * 256)), .slice (some ⟨(L.bk x).getD 0, (max A (x * 256) - x * 256).toNat, none⟩) (min (A + m) (x * 256 + 256) - max A (x * 256)).toNat (256 - (max A (x * 256) - x * 256).toNat),
      undef, undef, undef, undef, undef, undef, undef, undef, undef, undef, undef], defers := [] }) ?assign ?body ?done
  case own =>
    rintro pre X Y row ⟨⟨r, hb, ho⟩, bl⟩ hg hr
    exact ⟨⟨r, boxN_own (β := Unit) w.heap.size 5 (fun _ => #[.int .u8 r]) () X Y row hb hg (fun q e => (hr q e).2), ho⟩, ownFrom_below (β := Unit) (Nat.le_refl _) (by omega) () X Y row bl hg hr⟩
  case assign =>
    intro l x W K hK
    simp only [dEnc]
    generalize (max A (x * 256) - x * 256).toNat = o at hK ⊢
    generalize (min (A + m) (x * 256 + 256) - max A (x * 256)).toNat = ln at hK ⊢
    generalize max A (x * 256) = X at hK ⊢
    generalize (L.bk x).getD 0 = b at hK ⊢
    gi_wp2
    exact hK
  case body =>
    rintro l pre k W ⟨⟨r, hb, ho⟩, bl⟩ ⟨hk0, hk1, hk2, hk3⟩
    obtain ⟨b, hbk⟩ := Option.isSome_iff_exists.1 hk3
    rw [hbk]
    simp only [Option.getD_some]
    obtain ⟨q1, q2, q3, q4, q5⟩ := (h.bl bl).pgs k b hbk
    obtain ⟨a0, a1⟩ := hA
    obtain ⟨X, hX⟩ : ∃ X, max A (k * 256) = X := ⟨_, rfl⟩
    obtain ⟨o, ho'⟩ : ∃ o : Nat, (X - k * 256).toNat = o := ⟨_, rfl⟩
    obtain ⟨ln, hln⟩ : ∃ ln : Nat, (min (A + m) (k * 256 + 256) - X).toNat = ln := ⟨_, rfl⟩
    rw [hX, ho', hln]
    have e1 : (o : Int) = X - k * 256 := by omega
    have e2 : o + ln ≤ 256 := by omega
    have e3 : A ≤ X ∧ X + ln ≤ A + m := by omega
    have e4 : ∀ a, A ≤ a ∧ a < A + m ∧ a / 256 = k ↔ X ≤ a ∧ a < X + ln := fun a => by omega
    have hcell : ∀ t, t < ln → W.cell? ⟨b, o + t, none⟩ = some (.int .u8 (S.lab (X + t))) := fun t ht => by
      have := q3.lab (i := o + t) (by omega)
      unfold SS.pg at this
      rw [this, show 256 * k + ((o + t : Nat) : Int) = X + t by omega]
    have hne : b ≠ w.heap.size := by have := h.lt _ q5; omega
    clear hX ho' hln hk1 hk2 hm
    gi_wp2
    gi_loopw [20] (fun x wr => ∃ (t : Nat) (r : Int), t ≤ ln ∧ x = .int .i64 t ∧ BoxN wr w.heap.size 5 #[.int .u8 r] ∧ OrP S.lab (fun a => (A ≤ a ∧ a < A + m ∧ a / 256 ∈ pre) ∨ (X ≤ a ∧ a < X + t)) r ∧ OnlyB w.heap.size W wr) (fun x _ => ln - (intOf x).toNat)
    case atStart => exact ⟨0, r, Nat.zero_le _, rfl, hb, ho.congr (fun a => by constructor; exact .inl; rintro (x | x); exact x; omega), OnlyB.refl _ _⟩
    case round =>
      have hB0 := hb
      clear hb ho
      obtain ⟨t, r', ht, rfl, hb, ho, oB⟩ := hrel
      by_cases hlt : (t : Int) < ln
      · have htl : t < ln := by omega
        have hci : wr.cell? ⟨b, o + t, none⟩ = some (.int .u8 (S.lab (X + t))) := by
          rw [World.cell?_of_block (w := W) (oB.block b hne)]; exact hcell t htl
        have hcb := hb.c0
        have hfb := hb.fz 0
        gi_wp2
        refine ⟨⟨t + 1, _, by omega, by simp, heap_setCell_same hb, (ho.join (OrP.one (h.rng (X + t)))).congr (fun a => ?_), oB.set _⟩, by simp only [intOf]; omega⟩
        constructor
        · rintro ((x | x) | x)
          · exact .inl x
          · exact .inr (by omega)
          · exact .inr (by omega)
        · rintro (x | x)
          · exact .inl (.inl x)
          · by_cases e : a = X + t
            · exact .inr e
            · exact .inl (.inr (by omega))
      · have hte : t = ln := by omega
        subst hte
        gi_wp2
        have hcl : ∀ i o', i ≠ w.heap.size → W.heap[i]? = some o' → wr.heap[i]? = some o' := fun i o' hi ho' => (oB.block i hi).trans ho'
        refine ⟨rfl, ⟨by rw [oB.size]; exact Nat.le_refl _, fun i o' hi ho' hc => ?_⟩, fun i cs ty z hi ho' h1 h2 => ?_, ⟨r', hb, ho.congr (fun a => ?_)⟩, ?_⟩
        · exact hcl i o' (fun e => by omega) ho'
        · refine hcl i _ (fun e => ?_) ho'
          subst e
          have hb0 : wr.heap[w.heap.size]? = _ := hb
          rw [show W.heap[w.heap.size]? = _ from hB0] at ho'
          cases ho'
          exact h2 rfl
        · rw [List.mem_append, List.mem_singleton]
          constructor
          · rintro (x | x)
            · exact ⟨x.1, x.2.1, .inl x.2.2⟩
            · have := (e4 a).2 x
              exact ⟨this.1, this.2.1, .inr this.2.2⟩
          · rintro ⟨x1, x2, x3 | x3⟩
            · exact .inl ⟨x1, x2, x3⟩
            · exact .inr ((e4 a).1 ⟨x1, x2, x3⟩)
        · exact ⟨oB.os.trans bl.os, oB.tape.trans bl.tape, oB.output.trans bl.output, by rw [oB.size]; exact bl.size, fun i hi => (oB.block i (by omega)).trans (bl.block i hi)⟩
  case done =>
    rintro D ys W hD hS ⟨⟨r, hb, ho⟩, bl⟩ hK
    have hcc := hb.c0
    gi_wp2
    refine ⟨by simp, .inl ⟨_, _, rfl, run_takeDeferred hK, ?_⟩⟩
    refine ⟨_, results_tmp rfl _ _ _, r, rfl, ?_, bl.trans (belowK_b (w := w) (Nat.le_refl _) W D _ _ (by omega) hK rfl rfl)⟩
    refine ho.clean (fun a ha => ⟨ha.1, ha.2.1⟩) (fun a ha hn => ?_)
    have hx : a / 256 ∉ ys := fun x => hn ⟨ha.1, ha.2, x⟩
    have a0 := hA.1
    have hbk : L.bk (a / 256) = none := by
      cases e : L.bk (a / 256) with
      | none => rfl
      | some b => exact absurd ((hS.2 _).2 ⟨by omega, by omega, by rw [e]; rfl⟩) hx
    have z := nz_zero.1 (h.non (a / 256) (by omega) (by omega) hbk) (a % 256).toNat (by omega)
    unfold SS.pg at z
    rw [show 256 * (a / 256) + (((a % 256).toNat : Nat) : Int) = a by omega] at z
    exact z
end
end Go.Proofs.Ytgebmedkhakhfaa
