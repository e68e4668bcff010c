/- HOW MANY PAGES WOULD NOT BE CLEAN; Set. -/
import Derived.Test.YtgebmedkhakhfaaShRows
namespace Go.Proofs.Ytgebmedkhakhfaa
open Go.ChangeShapes Go.WideShapes Go.ChangeAt Go.RowKit Go.Shelf
set_option linter.unusedSimpArgs false
set_option linter.unusedVariables false
attribute [local go_sem] Oper.semAt_some wide_fn

/-- v is a slice of len bytes bs. -/
structure SArg (w : World) (v : Value) (g o len cap : Nat) (bs : Nat → Int) : Prop where
  le : len ≤ cap
  c9 : cap ≤ 9223372036854775807
  by_ : Bys w g o len bs
  val : (len = 0 ∧ ∃ q, v = .slice q 0 cap) ∨ v = .slice (some ⟨g, o, none⟩) len cap
theorem SArg.shape {w : World} {v : Value} {g o len cap : Nat} {bs : Nat → Int} (h : SArg w v g o len cap bs) : ∃ q, v = .slice q len cap ∧ (len = 0 ∨ q = some ⟨g, o, none⟩) := by
  rcases h.val with ⟨rfl, q, rfl⟩ | rfl
  · exact ⟨q, rfl, .inl rfl⟩
  · exact ⟨_, rfl, .inr rfl⟩
theorem rows_any (n : Nat) (hn : 1 ≤ n) (A : Int) (hA : U4 A) (Ba Bl g o m len cap : Nat) (q : Option Addr) (hq : len = 0 ∨ q = some ⟨g, o, none⟩) (hm : (m : Int) = max 0 (min (len : Int) (4294967296 - A))) (hcap : len ≤ cap) (hc9 : cap ≤ 9223372036854775807)
    (w : World) (hBa : Ba < w.heap.size) (hBl : Bl < w.heap.size) (ha : w.cell? ⟨Ba, 0, none⟩ = some (.int .u32 A)) (hl : w.cell? ⟨Bl, 0, none⟩ = some (.slice q len cap)) :
    SeqStopsK Fence.wide n Try.prog 99 #[.pointer (some ⟨Ba, 0, none⟩), .pointer (some ⟨Bl, 0, none⟩)] (rowEnc A g o m cap) (fun _ _ => True) (fun xs => xs = List.finRange (rowN A m)) (fun _ => True) (rowN A m) w := by
  rcases hq with rfl | rfl
  · have : m = 0 := by unfold U4 at hA; omega
    subst this
    exact rows_stops0 n hn A hA Ba Bl cap q w hBa hBl ha hl g o
  · exact rows_stops n hn A hA Ba Bl g o m len cap hm hcap hc9 w hBa hBl ha hl

/-- What a row adds to how many pages are not clean. -/
def dlt (S : SS) (L : SLay) (A : Int) (n : Nat) (bs : Nat → Int) (i : Nat) : Int :=
  (if 0 < S.aft (A + sk A n i) (fun j => bs (sk A n i + j)) (sk A n (i + 1) - sk A n i) then 1 else 0) - (if (L.bk ((A + sk A n i) / 256)).isSome then 1 else 0)
def dsum {R : Nat} (f : Nat → Int) : List (Fin R) → Int
  | [] => 0
  | x :: xs => f x + dsum f xs
theorem dsum_snoc {R : Nat} (f : Nat → Int) (xs : List (Fin R)) (x : Fin R) : dsum f (xs ++ [x]) = dsum f xs + f x := by
  induction xs with
  | nil => simp [dsum]
  | cons y ys ih => simp only [List.cons_append, dsum, ih]; omega
theorem dsum_abs {R : Nat} (f : Nat → Int) (hf : ∀ i, -1 ≤ f i ∧ f i ≤ 1) (xs : List (Fin R)) : -(xs.length : Int) ≤ dsum f xs ∧ dsum f xs ≤ xs.length := by
  induction xs with
  | nil => simp [dsum]
  | cons y ys ih => have := hf y; simp only [List.length_cons, dsum]; omega
theorem dlt_abs (S : SS) (L : SLay) (A : Int) (n : Nat) (bs : Nat → Int) (i : Nat) : -1 ≤ dlt S L A n bs i ∧ dlt S L A n bs i ≤ 1 := by
  unfold dlt; split <;> split <;> omega

theorem keeps_bl {W W' : World} (h : Below W.heap.size W W') (B : Nat) : KeepsFrom B W W' := ⟨h.size, fun k o _ hk _ => (h.block k (Array.getElem?_eq_some_iff.1 hk).1).trans hk⟩
theorem boxed_bl {W W' : World} {B : Nat} {t : TypeId} {v : Value} (b : Boxed W B t v) (h : Below W.heap.size W W') : Boxed W' B t v := (h.block B b.lt).trans b
theorem Bys.sub {w : World} {g o n : Nat} {bs : Nat → Int} (h : Bys w g o n bs) {s k : Nat} (hk : s + k ≤ n) : Bys w g (o + s) k (fun j => bs (s + j)) := fun i hi => by
  have := h (s + i) (by omega)
  rwa [← Nat.add_assoc] at this
theorem row_fits {A : Int} {m k : Nat} (hA : 0 ≤ A) (hk : k < rowN A m) : sk A m k < m ∧ (A + sk A m k) % 256 + ((sk A m (k + 1) - sk A m k : Nat) : Int) ≤ 256 ∧ sk A m k + (sk A m (k + 1) - sk A m k) ≤ m := by
  have h := sk_lt.2 hk
  have h2 := sk_succ hA h
  have h3 := sk_le A m (k + 1)
  exact ⟨h, by omega, by omega⟩

section
variable {w : World} {sb : Nat} {F : Nat → Prop} {N : Nat} {S : SS} {L : SLay}
set_option maxRecDepth 100000 in
set_option maxHeartbeats 2000000 in
theorem dirtyAfter_c (h : ShL w sb F N S L) (A : Int) (hA : U4 A) {v : Value} {g o len cap : Nat} {bs : Nat → Int} (sa : SArg w v g o len cap bs) (m : Nat) (hm : (m : Int) = max 0 (min (len : Int) (4294967296 - A))) (hks : L.ks.length ≤ 4096) (hl9 : len ≤ 1000000000) :
    Calls Try.prog 79 #[.pointer (some ⟨sb, 0, none⟩), .int .u32 A, v] w fun e w' => e = .returned (.int .i64 (L.ks.length + dsum (dlt S L A m bs) (List.finRange (rowN A m)))) ∧ Below w.heap.size w w' := by
  obtain ⟨q, rfl, hq⟩ := sa.shape
  have h0 : ShL (w.alloc (.cells #[.pointer (some ⟨sb, 0, none⟩)] 52)) sb F N S L := h.bl (bl_alloc (Below.refl _ _) _)
  have hc1 := h0.c1
  have hlen := h0.pm.len 3
  refine (callsIn_wide (n := 5)).1 ?_
  refine callsIn_of_wp_marks Try.func79 rfl trivial ?_ rfl
  simp only [Try.ntmps79, List.size_toArray, List.length_cons, List.length_nil, Nat.reduceAdd, Nat.reduceSub, Array.replicate_succ, Array.replicate_zero, List.push_toArray, List.append_toArray, List.nil_append, List.cons_append]
  gi_wp2_with (gi_at_call 80; refine (rows_in _ A _ _ q len cap rfl).mono ?_; rintro e w' ⟨rfl, rfl⟩)
  obtain ⟨W0, hW0⟩ : ∃ W0, ((((w.alloc (.cells #[.pointer (some ⟨sb, 0, none⟩)] 52)).alloc (.cells #[.int .i64 L.ks.length] 3)).alloc (.cells #[.int .u32 A] 33)).alloc (.cells #[.slice q len cap] 34)) = W0 := ⟨_, rfl⟩
  have bS : Boxed W0 w.heap.size 52 (.pointer (some ⟨sb, 0, none⟩)) := by
    rw [← hW0]; exact (((Boxed.new w _ _).alloc _).alloc _).alloc _
  have bC : Boxed W0 (w.heap.size + 1) 3 (.int .i64 L.ks.length) := by
    have := Boxed.new (w.alloc (.cells #[.pointer (some ⟨sb, 0, none⟩)] 52)) 3 (.int .i64 L.ks.length)
    rw [World.size_alloc] at this
    rw [← hW0]; exact (this.alloc _).alloc _
  have bA : Boxed W0 (w.heap.size + 1 + 1) 33 (.int .u32 A) := by
    have := Boxed.new ((w.alloc (.cells #[.pointer (some ⟨sb, 0, none⟩)] 52)).alloc (.cells #[.int .i64 L.ks.length] 3)) 33 (.int .u32 A)
    rw [World.size_alloc, World.size_alloc] at this
    rw [← hW0]; exact this.alloc _
  have bL : Boxed W0 (w.heap.size + 1 + 1 + 1) 34 (.slice q len cap) := by
    have := Boxed.new (((w.alloc (.cells #[.pointer (some ⟨sb, 0, none⟩)] 52)).alloc (.cells #[.int .i64 L.ks.length] 3)).alloc (.cells #[.int .u32 A] 33)) 34 (.slice q len cap)
    rw [World.size_alloc, World.size_alloc, World.size_alloc] at this
    rw [← hW0]; exact this
  have b0 : Below w.heap.size w W0 := by
    rw [← hW0]; exact bl_alloc (bl_alloc (bl_alloc (bl_alloc (Below.refl _ _) _) _) _) _
  have s0 : W0.heap.size = w.heap.size + 4 := by rw [← hW0]; simp
  rw [hW0]
  clear hW0 hc1 hlen h0
  refine wpIn_rangeFunc_ownG rfl (by decide) (gf := 99) (lb := #[.pointer (some ⟨w.heap.size + 1 + 1, 0, none⟩), .pointer (some ⟨w.heap.size + 1 + 1 + 1, 0, none⟩)]) rfl trivial (enters_of Try.func99 (by kernel_rfl) rfl)
    (rows_any 4 (by omega) A hA (w.heap.size + 1 + 1) (w.heap.size + 1 + 1 + 1) g o m len cap q hq hm sa.le sa.c9 W0 (by omega) (by omega) bA.cell bL.cell) (fun _ _ => trivial) (fun _ _ _ _ _ _ _ _ => trivial) (Below.refl _ _) (fun _ => rfl)
    (fun pre W => Boxed W w.heap.size 52 (.pointer (some ⟨sb, 0, none⟩)) ∧ Boxed W (w.heap.size + 1) 3 (.int .i64 (L.ks.length + dsum (dlt S L A m bs) pre)) ∧ Below w.heap.size w W)
    (fun _ _ _ => False)
    (OwnFrom.and (Own.from (boxed_own _ _ (fun _ => .pointer (some ⟨sb, 0, none⟩))) _) (OwnFrom.and (Own.from (boxed_own _ _ (fun pre => .int .i64 (L.ks.length + dsum (dlt S L A m bs) pre))) _) (ownFrom_below (Nat.le_refl _) (by omega))))
    (fun _ _ _ _ _ hs _ _ => hs)
    ⟨bS, by simpa [dsum] using bC, b0⟩
    (fun x => { tmps := #[.pointer (some ⟨sb, 0, none⟩), .int .u32 A, .slice q len cap, .pointer (some ⟨w.heap.size, 0, none⟩), undef, undef, .int .i64 0, .pointer (some ⟨w.heap.size + 1, 0, none⟩),
      .int .u32 (A + sk A m x), .slice (some ⟨g, o + sk A m x, none⟩) (sk A m (x + 1) - sk A m x) (cap - sk A m x), .pointer (some ⟨sb, 0, none⟩), .pointer (some ⟨sb, 0, none⟩), .pointer (some ⟨sb, 1, none⟩), .map (some L.bp), .int .i64 L.ks.length, .int .u32 A, .slice q len cap,
      .func (.func 99) #[] #[.pointer (some ⟨w.heap.size + 1 + 1, 0, none⟩), .pointer (some ⟨w.heap.size + 1 + 1 + 1, 0, none⟩)],
      .int .u32 (A + sk A m x), .slice (some ⟨g, o + sk A m x, none⟩) (sk A m (x + 1) - sk A m x) (cap - sk A m x), undef, undef, undef, undef, undef, undef, undef, undef, undef, undef, undef, undef, undef, undef, undef, undef, undef, undef], defers := [] }) ?assign ?body ?done ?stop
  case assign =>
    intro l x W K hK
    simp only [rowEnc]
    gi_wp2
    exact hK
  case body =>
    rintro l pre x W ⟨cS, cC, bl⟩ hlt
    obtain ⟨a0, a1⟩ := hA
    obtain ⟨f1, f2, f3⟩ := row_fits a0 x.2
    have hml : m ≤ len ∧ A + m ≤ 4294967296 := by omega
    have hD := dlt_abs S L A m bs
    have hE := dsum_abs (dlt S L A m bs) hD pre
    have hR := rowN_le (A := A) (n := m)
    obtain ⟨a, ha⟩ : ∃ a : Int, A + sk A m x = a := ⟨_, rfl⟩
    obtain ⟨n, hn⟩ : ∃ n : Nat, sk A m (x + 1) - sk A m x = n := ⟨_, rfl⟩
    obtain ⟨C, hC⟩ : ∃ C : Int, (L.ks.length : Int) + dsum (dlt S L A m bs) pre = C := ⟨_, rfl⟩
    obtain ⟨of, hof⟩ : ∃ of : Nat, sk A m x = of := ⟨_, rfl⟩
    have hdx : dlt S L A m bs x = (if 0 < S.aft a (fun j => bs (of + j)) n then 1 else 0) - (if (L.bk (a / 256)).isSome then 1 else 0) := by
      unfold dlt; rw [ha, hn, hof]
    have hby : Bys w g (o + of) n (fun j => bs (of + j)) := sa.by_.sub (by omega)
    rw [ha, hn] at f2
    rw [hC] at cC
    have HX : Hid ((L.ks.length : Int) + dsum (dlt S L A m bs) (pre ++ [x]) = C + ((if 0 < S.aft a (fun j => bs (of + j)) n then 1 else 0) - (if (L.bk (a / 256)).isSome then 1 else 0))) := (by rw [dsum_snoc, ← hdx, ← hC]; omega : _ = _)
    rw [hof] at ha f1
    rw [hn, hof, ha]
    have hCb : -2000000000000 ≤ C ∧ C ≤ 2000000000000 := by omega
    have ua : U4 a := ⟨by omega, by omega⟩
    have u0 : 0 ≤ a := ua.1
    have u1 : a < 4294967296 := ua.2
    have hu : U4 (a / 256) := by unfold U4 at *; omega
    clear hC hE hD hR hn hof ha hdx f3 hm
    have hk1 : (1 : Nat) ≤ 5 - 1 - 1 := by omega
    have hl := (h.bl bl).pm.look hu
    have c1 := (h.bl bl).c1
    have s1 := cS.cell
    have k1 := cC.cell
    have z1 := cC.frozen
    cases hb : L.bk (a / 256) with
    | none =>
      rw [hb] at hl
      simp only [pv] at hl
      have HA := after_c (c := cap - of) (h.bl bl) a ua (hby.bl bl) f2
      obtain ⟨T, hT⟩ : ∃ T : Int, (S.aft a (fun j => bs (of + j)) n : Int) = T := ⟨_, rfl⟩
      rw [hT] at HA
      by_cases hp : 0 < T
      · have hp' : 0 < S.aft a (fun j => bs (of + j)) n := by omega
        gi_wp2_with (gi_at_call 98; refine (CallsIn.inRound l (callsIn_wide.2 HA)).mono ?_; rintro e w1 ⟨rfl, g1⟩; have k2 := (boxed_bl cC g1).cell; have z2 := (boxed_bl cC g1).frozen)
        refine ⟨(keeps_bl g1 _).trans ((KeepsOthers.setCell _ _ _).from _), trivial, (boxed_bl cS g1).other (by omega) _, ?_, ?_⟩
        · rw [HX.out, if_pos hp', hb]
          exact (boxed_bl cC g1).set (.int .i64 (C + 1))
        · exact (bl_trans bl g1).setCell (p := ⟨w.heap.size + 1, 0, none⟩) (by show w.heap.size ≤ w.heap.size + 1; omega) _
      · have hp' : ¬ 0 < S.aft a (fun j => bs (of + j)) n := by omega
        gi_wp2_with (gi_at_call 98; refine (CallsIn.inRound l (callsIn_wide.2 HA)).mono ?_; rintro e w1 ⟨rfl, g1⟩; have k2 := (boxed_bl cC g1).cell; have z2 := (boxed_bl cC g1).frozen)
        refine ⟨keeps_bl g1 _, trivial, boxed_bl cS g1, ?_, bl_trans bl g1⟩
        rw [HX.out, if_neg hp', hb]
        have := boxed_bl cC g1
        simpa using this
    | some b =>
      rw [hb] at hl
      simp only [pv] at hl
      have bl' : Below w.heap.size w (W.setCell ⟨w.heap.size + 1, 0, none⟩ (.int .i64 (C - 1))) := bl.setCell (p := ⟨w.heap.size + 1, 0, none⟩) (by show w.heap.size ≤ w.heap.size + 1; omega) _
      have HA := after_c (c := cap - of) (h.bl bl') a ua (hby.bl bl') f2
      have cS' := cS.other (B' := w.heap.size + 1) (by omega) (.int .i64 (C - 1))
      have cC' := cC.set (.int .i64 (C - 1))
      have s2 := cS'.cell
      obtain ⟨T, hT⟩ : ∃ T : Int, (S.aft a (fun j => bs (of + j)) n : Int) = T := ⟨_, rfl⟩
      rw [hT] at HA
      by_cases hp : 0 < T
      · have hp' : 0 < S.aft a (fun j => bs (of + j)) n := by omega
        gi_wp2_with (gi_at_call 98; refine (CallsIn.inRound l (callsIn_wide.2 HA)).mono ?_; rintro e w1 ⟨rfl, g1⟩; have k2 := (boxed_bl cC' g1).cell; have z2 := (boxed_bl cC' g1).frozen)
        refine ⟨(((KeepsOthers.setCell _ _ _).from _).trans (keeps_bl g1 _)).trans ((KeepsOthers.setCell _ _ _).from _), trivial, (boxed_bl cS' g1).other (by omega) _, ?_, ?_⟩
        · rw [HX.out, if_pos hp', hb]
          have := (boxed_bl cC' g1).set (.int .i64 C)
          simpa using this
        · exact (bl_trans bl' g1).setCell (p := ⟨w.heap.size + 1, 0, none⟩) (by show w.heap.size ≤ w.heap.size + 1; omega) _
      · have hp' : ¬ 0 < S.aft a (fun j => bs (of + j)) n := by omega
        gi_wp2_with (gi_at_call 98; refine (CallsIn.inRound l (callsIn_wide.2 HA)).mono ?_; rintro e w1 ⟨rfl, g1⟩; have k2 := (boxed_bl cC' g1).cell; have z2 := (boxed_bl cC' g1).frozen)
        refine ⟨((KeepsOthers.setCell _ _ _).from _).trans (keeps_bl g1 _), trivial, boxed_bl cS' g1, ?_, bl_trans bl' g1⟩
        rw [HX.out, if_neg hp', hb]
        have := boxed_bl cC' g1
        simpa [Int.sub_eq_add_neg] using this
  case done =>
    rintro D ys W hD rfl ⟨cS, cC, bl⟩ hK
    have hcc := cC.cell
    gi_wp2
    refine ⟨by simp, .inl ⟨_, _, rfl, run_takeDeferred hK, ?_⟩⟩
    refine ⟨_, results_tmp rfl _ _ _, rfl, ?_⟩
    exact bl.trans (belowK_b (w := w) (Nat.le_refl _) W D _ _ (by omega) hK rfl rfl)
  case stop =>
    rintro D c pre W _ _ h _
    exact h.elim
end
end Go.Proofs.Ytgebmedkhakhfaa
