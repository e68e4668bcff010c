/- Clear. -/
import Derived.Test.YtgebmedkhakhfaaShDRows
import Derived.Test.YtgebmedkhakhfaaShHas
namespace Go.Proofs.Ytgebmedkhakhfaa
open Go.ChangeShapes Go.WideShapes Go.ChangeAt Go.RowKit Go.Shelf
set_option linter.unusedSimpArgs false
set_option linter.unusedVariables false
attribute [local go_sem] Oper.semAt_some wide_fn

/-- The pages of pre are clean from A on, m bytes. -/
def SS.cls (S : SS) (A : Int) (m : Nat) (pre : List Int) : SS := { S with lab := fun x => if A ≤ x ∧ x < A + m ∧ x / 256 ∈ pre then 0 else S.lab x }
theorem cls_nil (S : SS) (A : Int) (m : Nat) : S.cls A m [] = S := by
  unfold SS.cls
  have : (fun x => if A ≤ x ∧ x < A + m ∧ x / 256 ∈ ([] : List Int) then 0 else S.lab x) = S.lab := by funext x; simp
  rw [this]
theorem cls_snoc (S : SS) (A : Int) (m : Nat) (pre : List Int) (k X : Int) (ln : Nat) (e : ∀ a, A ≤ a ∧ a < A + m ∧ a / 256 = k ↔ X ≤ a ∧ a < X + ln) : (S.cls A m pre).put X (fun _ => 0) ln = S.cls A m (pre ++ [k]) := by
  unfold SS.cls SS.put
  simp only [SS.mk.injEq, true_and]
  funext x
  have ex := e x
  by_cases h1 : X ≤ x ∧ x < X + ln
  · obtain ⟨p, q, r⟩ := ex.2 h1
    rw [if_pos h1, if_pos ⟨p, q, by simp [r]⟩]
  · rw [if_neg h1]
    by_cases h2 : A ≤ x ∧ x < A + m ∧ x / 256 ∈ pre
    · rw [if_pos h2, if_pos ⟨h2.1, h2.2.1, by simp [h2.2.2]⟩]
    · rw [if_neg h2, if_neg]
      rintro ⟨p, q, r⟩
      rw [List.mem_append, List.mem_singleton] at r
      rcases r with r | r
      · exact h2 ⟨p, q, r⟩
      · exact h1 (ex.1 ⟨p, q, r⟩)
theorem nz_pos {f : Nat → Int} {n : Nat} (h : 0 < nz f n) : ∃ i, i < n ∧ f i ≠ 0 := by
  apply Decidable.byContradiction
  intro x
  have : nz f n = 0 := nz_zero.2 (fun i hi => by
    apply Decidable.byContradiction
    intro y
    exact x ⟨i, hi, y⟩)
  omega
theorem nz_of {f : Nat → Int} {n i : Nat} (hi : i < n) (h : f i ≠ 0) : 0 < nz f n := by
  apply Decidable.byContradiction
  intro x
  exact h (nz_zero.1 (by omega) i hi)
theorem cls_le {S : SS} {A : Int} {m : Nat} {pre ks ks' : List Int} (h : Enum S ks) (h' : Enum (S.cls A m pre) ks') : ks'.length ≤ ks.length :=
  nodup_le h'.1 (fun k hk => by
    obtain ⟨k0, k1, kp⟩ := (h'.2 k).1 hk
    obtain ⟨i, hi, hx⟩ := nz_pos kp
    refine (h.2 k).2 ⟨k0, k1, nz_of hi ?_⟩
    unfold SS.pg SS.cls at hx
    dsimp only at hx
    intro y
    unfold SS.pg at y
    rw [y] at hx
    simp at hx)
section
variable {w : World} {sb : Nat} {F : Nat → Prop} {N : Nat} {S : SS} {L : SLay}
theorem cls_all (h : ShL w sb F N S L) {A : Int} {m : Nat} (hA : 0 ≤ A) (hmA : A + m ≤ 4294967296) {xs : List Int} (hb : Betw L.bk (A / 256) ((A + m + 255) / 256) xs) : S.cls A m xs = S.put A (fun _ => 0) m := by
  unfold SS.cls SS.put
  simp only [SS.mk.injEq, true_and]
  funext x
  by_cases h1 : A ≤ x ∧ x < A + m
  · rw [if_pos h1]
    by_cases h2 : x / 256 ∈ xs
    · rw [if_pos ⟨h1.1, h1.2, h2⟩]
    · rw [if_neg (fun y => h2 y.2.2)]
      have hbk : L.bk (x / 256) = none := by
        cases e : L.bk (x / 256) with
        | none => rfl
        | some b => exact absurd ((hb.2 _).2 ⟨by omega, by omega, by rw [e]; rfl⟩) h2
      have z := nz_zero.1 (h.non (x / 256) (by omega) (by omega) hbk) (x % 256).toNat (by omega)
      unfold SS.pg at z
      rw [show 256 * (x / 256) + (((x % 256).toNat : Nat) : Int) = x by omega] at z
      exact z
  · rw [if_neg h1, if_neg (fun y => h1 ⟨y.1, y.2.1⟩)]
/-- Behind the rows of pre. -/
def ClrAt (w : World) (sb : Nat) (F : Nat → Prop) (N : Nat) (S : SS) (L : SLay) (A : Int) (m : Nat) (pre : List Int) (W : World) : Prop :=
  BoxN W w.heap.size 52 #[.pointer (some ⟨sb, 0, none⟩)] ∧ BoxN W (w.heap.size + 1) 94 (Array.replicate 256 (.int .u8 0)) ∧ Fs F w W ∧ (pre.Nodup ∧ ∀ k ∈ pre, (L.bk k).isSome) ∧
    ∃ L' G, ShL W sb G (N + pre.length) (S.cls A m pre) L' ∧ LaidF F G w W ∧ ∀ k, k ∉ pre → L'.bk k = L.bk k
theorem clrAt_own {A : Int} {m : Nat} (hF : ∀ i, F i → i < w.heap.size) {B : Nat} (hB : w.heap.size ≤ B) : OwnFrom B (ClrAt w sb F N S L A m) := by
  rintro pre X Y row ⟨hb, hc, hf, hp, L', G, hS, hG, hk⟩ hg hr
  have hsame : ∀ i, i < X.heap.size → (i < B ∨ ∃ c t z, X.heap[i]? = some (.cells c t z)) → Y.heap[i]? = X.heap[i]? := fun i hi hc => by
    refine hg.block i hi (fun e => ?_)
    obtain ⟨h1, o, h2, h3⟩ := hr i e.symm
    rcases hc with hc | ⟨c, t, z, hc⟩
    · omega
    · rw [hc] at h2; cases h2; cases h3
  have hGs : ∀ i, G i → Y.heap[i]? = X.heap[i]? := fun i hi => hsame i (hS.lt i hi) (by
    rcases hG.2 i hi with x | ⟨_, f, c, x⟩
    · exact .inl (Nat.lt_of_lt_of_le (hF i x) hB)
    · exact .inr ⟨_, _, _, x⟩)
  refine ⟨(hsame _ hb.lt (.inr ⟨_, _, _, hb⟩)).trans hb, (hsame _ hc.lt (.inr ⟨_, _, _, hc⟩)).trans hc, ?_, hp, L', G, hS.congr hg.size hGs, ⟨hG.1, fun i hi => ?_⟩, hk⟩
  · exact ⟨hg.os.trans hf.os, hg.tape.trans hf.tape, hg.output.trans hf.output, Nat.le_trans hf.size hg.size, fun i hi hn => (hsame i (Nat.lt_of_lt_of_le hi hf.size) (.inl (by omega))).trans (hf.block i hi hn)⟩
  · rcases hG.2 i hi with x | ⟨y, f, c, x⟩
    · exact .inl x
    · exact .inr ⟨y, f, c, (hGs i hi).trans x⟩
theorem clr_step (h : ShL w sb F N S L) {A X k : Int} {m ln B : Nat} {pre : List Int} {W Wd w1 : World} {L' L2 : SLay} {G G2 : Nat → Prop} {a : Act} (hB : w.heap.size ≤ B)
    (hb : BoxN W w.heap.size 52 #[.pointer (some ⟨sb, 0, none⟩)]) (hc : BoxN W (w.heap.size + 1) 94 (Array.replicate 256 (.int .u8 0))) (hf : Fs F w W) (hp1 : pre.Nodup) (hp2 : ∀ k ∈ pre, (L.bk k).isSome)
    (hG : LaidF F G w W) (hLk : ∀ k, k ∉ pre → L'.bk k = L.bk k) (hk0 : k ∉ pre) (hk3 : (L.bk k).isSome) (e4 : ∀ a, A ≤ a ∧ a < A + m ∧ a / 256 = k ↔ X ≤ a ∧ a < X + ln) (e5 : X / 256 = k)
    (bd : Below W.heap.size W Wd) (fL : Fs G Wd w1) (hS2 : ShL w1 sb G2 (N + pre.length + 1) ((S.cls A m pre).put X (fun _ => 0) ln) L2) (lG2 : LaidF G G2 Wd w1) (hk2 : ∀ k, k ≠ X / 256 → L2.bk k = L'.bk k) (pk : PgKept Wd w1) :
    Goes B (KpS w.heap.size) (ClrAt w sb F N S L A m) (pre ++ [k]) W .normal a w1 := by
  have hsm : ∀ i ob, W.heap[i]? = some ob → (w.heap.size ≤ i) → (∀ cs z, ob ≠ .cells cs 135 z) → w1.heap[i]? = some ob := fun i ob ho hi hne => by
    have hlt := (Array.getElem?_eq_some_iff.1 ho).1
    refine (fL.block i (Nat.lt_of_lt_of_le hlt bd.size) (fun y => ?_)).trans ((bd.block i hlt).trans ho)
    rcases hG.2 i y with y | ⟨_, f, c, y⟩
    · have := h.lt i y; omega
    · rw [show W.heap[i]? = _ from y] at ho; cases ho; exact hne _ _ rfl
  refine ⟨rfl, ⟨Nat.le_trans bd.size fL.size, fun i ob hi ho hcl => hsm i ob ho (by omega) (fun cs z e => by subst e; cases hcl)⟩, fun i cs t z hi ho h1 _ => hsm i _ ho hi (fun cs' z' e => by cases e; exact h1 rfl), ?_, ?_, ?_, ⟨?_, ?_⟩, L2, G2, ?_, ⟨?_, ?_⟩, ?_⟩
  · exact hsm _ _ hb (Nat.le_refl _) (fun cs z e => by simp at e)
  · exact hsm _ _ hc (Nat.le_succ _) (fun cs z e => by simp at e)
  · refine hf.trans ((bl_fs bd G).trans fL (fun _ _ x => x)) (fun i hi y => ?_)
    rcases hG.2 i y with y | ⟨y, _⟩
    · exact y
    · omega
  · exact List.nodup_append.2 ⟨hp1, by simp, fun x hx y hy => by simp at hy; subst hy; exact fun e => hk0 (e ▸ hx)⟩
  · intro x hx
    rcases List.mem_append.1 hx with y | y
    · exact hp2 x y
    · simp at y; rw [y]; exact hk3
  · rw [cls_snoc S A m pre k X ln e4] at hS2
    rw [List.length_append, List.length_singleton, ← Nat.add_assoc]
    exact hS2
  · exact fun i hi => lG2.1 i (hG.1 i hi)
  · intro i hi
    rcases lG2.2 i hi with y | ⟨y, z⟩
    · rcases hG.2 i y with y | ⟨y, f, c, z⟩
      · exact .inl y
      · exact .inr ⟨y, pk i f c ((bd.block i z.lt).trans z)⟩
    · exact .inr ⟨Nat.le_trans hf.size (Nat.le_trans bd.size y), z⟩
  · intro x hx
    rw [List.mem_append, List.mem_singleton, not_or] at hx
    rw [hk2 x (by rw [e5]; exact hx.2), hLk x hx.1]
set_option maxRecDepth 100000 in
set_option maxHeartbeats 2000000 in
theorem Clear_c (h : ShL w sb F N S L) (A c : Int) (hA : U4 A) (hc0 : -9223372036854775808 ≤ c) (hc1 : c ≤ 9223372036854775807) (m : Nat) (hm : (m : Int) = max 0 (min c (4294967296 - A))) (hks : L.ks.length ≤ 4096) (hN : N + 4096 < maxLen) :
    Calls Try.prog 42 #[.pointer (some ⟨sb, 0, none⟩), .int .u32 A, .int .i64 c] w fun e w' => e = .returned (.tuple #[]) ∧ Fs F w w' ∧ ∃ L' G, ShL w' sb G (N + L.ks.length) (S.put A (fun _ => 0) m) L' ∧ LaidF F G w w' ∧ L'.ks.length ≤ L.ks.length := by
  have hmA : A + m ≤ 4294967296 := by unfold U4 at hA; omega
  refine (callsIn_wide (n := 5)).1 ?_
  refine callsIn_of_wp_marks Try.func42 rfl trivial ?_ rfl
  simp only [Try.ntmps42, List.size_toArray, List.length_cons, List.length_nil, Nat.reduceAdd, Nat.reduceSub, Array.replicate_succ, Array.replicate_zero, List.push_toArray, List.append_toArray, List.nil_append, List.cons_append]
  gi_wp2_with (gi_at_call 83; refine (dirtyRows_in _ sb A c _).mono ?_; rintro e w' ⟨rfl, rfl⟩)
  have hw1 : ((w.alloc (.cells #[.pointer (some ⟨sb, 0, none⟩)] 52)).alloc (.cells Try.zeroCells94 94)).heap.size = w.heap.size + 1 + 1 := by simp
  have hseq := fun (I : List Int → World → Prop) (hI : ∀ pre W, I pre W → DR sb L pre W) => dRows_seq 4 (by omega) sb L A c hA hc0 hc1 m hm I hI w.heap.size ((w.alloc (.cells #[.pointer (some ⟨sb, 0, none⟩)] 52)).alloc (.cells Try.zeroCells94 94)) (by omega)
  rw [hw1] at hseq
  obtain ⟨W0, hW0⟩ : ∃ W0, (((((w.alloc (.cells #[.pointer (some ⟨sb, 0, none⟩)] 52)).alloc (.cells Try.zeroCells94 94)).alloc (.cells #[.pointer (some ⟨sb, 0, none⟩)] 52)).alloc (.cells #[.int .u32 A] 33)).alloc (.cells #[.int .i64 c] 3)) = W0 := ⟨_, rfl⟩
  have b0 : Below w.heap.size w W0 := by
    rw [← hW0]; exact bl_alloc (bl_alloc (bl_alloc (bl_alloc (bl_alloc (Below.refl _ _) _) _) _) _) _
  have x0 : BoxN W0 w.heap.size 52 #[.pointer (some ⟨sb, 0, none⟩)] := by
    rw [← hW0]; exact BoxN.bl (BoxN.bl (BoxN.bl (BoxN.bl (BoxN.new w _ _) (bl_alloc (Below.refl _ _) _)) (bl_alloc (Below.refl _ _) _)) (bl_alloc (Below.refl _ _) _)) (bl_alloc (Below.refl _ _) _)
  have x1 : BoxN W0 (w.heap.size + 1) 94 (Array.replicate 256 (.int .u8 0)) := by
    have := BoxN.new (w.alloc (.cells #[.pointer (some ⟨sb, 0, none⟩)] 52)) 94 Try.zeroCells94
    rw [World.size_alloc] at this
    have e : Try.zeroCells94 = Array.replicate 256 (.int .u8 0) := by kernel_rfl
    have := BoxN.bl (BoxN.bl (BoxN.bl this (bl_alloc (Below.refl _ _) (.cells #[.pointer (some ⟨sb, 0, none⟩)] 52))) (bl_alloc (Below.refl _ _) (.cells #[.int .u32 A] 33))) (bl_alloc (Below.refl _ _) (.cells #[.int .i64 c] 3))
    rw [hW0, e] at this
    exact this
  have s0 : W0.heap.size = w.heap.size + 5 := by rw [← hW0]; simp
  rw [hW0] at hseq ⊢
  clear hW0 hw1
  have hInv : ∀ pre W, ClrAt w sb F N S L A m pre W → DR sb L pre W := fun pre W ⟨_, _, _, _, L', G, hS, _, hk⟩ => ⟨L', G, _, _, hS, by have := cls_le h.enum hS.enum; omega, hk⟩
  refine wpIn_range_I rfl (by decide) (gf := 100) (lb := #[.pointer (some ⟨w.heap.size + 1 + 1 + 1, 0, none⟩), .pointer (some ⟨w.heap.size + 1 + 1 + 1 + 1, 0, none⟩), .pointer (some ⟨w.heap.size + 1 + 1, 0, none⟩)]) rfl trivial (enters_of Try.func100 (by kernel_rfl) rfl)
    (ClrAt w sb F N S L A m) (hseq _ hInv) KpS.trans KpS.put (fun _ => rfl) (clrAt_own h.lt (by omega))
    ⟨x0, x1, bl_fs b0 F, ⟨List.nodup_nil, fun k hk => by simp at hk⟩, L, F, by rw [cls_nil]; exact h.bl b0, LaidF.same _ _ _, fun _ _ => rfl⟩
    (fun x => { tmps := #[.pointer (some ⟨sb, 0, none⟩), .int .u32 A, .int .i64 c, .pointer (some ⟨w.heap.size, 0, none⟩), undef, undef, .pointer (some ⟨w.heap.size + 1, 0, none⟩),
      .int .u32 (max A (x * 256)), .slice (some ⟨(L.bk x).getD 0, (max A (x * 256) - x * 256).toNat, none⟩) (min (A + m) (x * 256 + 256) - max A (x * 256)).toNat (256 - (max A (x * 256) - x * 256).toNat),
      .pointer (some ⟨sb, 0, none⟩), .int .u32 A, .int .i64 c, .func (.func 100) #[] #[.pointer (some ⟨w.heap.size + 1 + 1 + 1, 0, none⟩), .pointer (some ⟨w.heap.size + 1 + 1 + 1 + 1, 0, none⟩), .pointer (some ⟨w.heap.size + 1 + 1, 0, none⟩)],
      .int .u32 (max A (x * 256)), .slice (some ⟨(L.bk x).getD 0, (max A (x * 256) - x * 256).toNat, none⟩) (min (A + m) (x * 256 + 256) - max A (x * 256)).toNat (256 - (max A (x * 256) - x * 256).toNat),
      undef, undef, undef, undef, undef, undef], defers := [] }) ?assign ?body ?done
  case assign =>
    intro l x W K hK
    simp only [dEnc]
    generalize (max A (x * 256) - x * 256).toNat = o at hK ⊢
    generalize (min (A + m) (x * 256 + 256) - max A (x * 256)).toNat = ln at hK ⊢
    generalize max A (x * 256) = X at hK ⊢
    generalize (L.bk x).getD 0 = b at hK ⊢
    gi_wp2
    exact hK
  case body =>
    rintro l pre k W ⟨hb, hc, hf, ⟨hp1, hp2⟩, L', G, hS, hG, hLk⟩ ⟨hk0, hk1, hk2, hk3⟩
    obtain ⟨b, hbk⟩ := Option.isSome_iff_exists.1 hk3
    rw [hbk]
    simp only [Option.getD_some]
    obtain ⟨a0, a1⟩ := hA
    have kr : 0 ≤ k ∧ k < 16777216 := by omega
    obtain ⟨X, hX⟩ : ∃ X, max A (k * 256) = X := ⟨_, rfl⟩
    obtain ⟨o, ho'⟩ : ∃ o : Nat, (X - k * 256).toNat = o := ⟨_, rfl⟩
    obtain ⟨ln, hln⟩ : ∃ ln : Nat, (min (A + m) (k * 256 + 256) - X).toNat = ln := ⟨_, rfl⟩
    rw [hX, ho', hln]
    have e1 : (o : Int) = X - k * 256 := by omega
    have e2 : o + ln ≤ 256 := by omega
    have e4 : ∀ a, A ≤ a ∧ a < A + m ∧ a / 256 = k ↔ X ≤ a ∧ a < X + ln := fun a => by omega
    have e5 : X / 256 = k := by omega
    have e6 : X % 256 + ln ≤ 256 := by omega
    have uX : U4 X := ⟨by omega, by omega⟩
    have hl256 : (ln : Int) ≤ 256 := by omega
    have hby : ∀ wx, Below W.heap.size W wx → Bys wx (w.heap.size + 1) 0 ln (fun _ => 0) := fun wx hx i hi => ⟨by
      have := hc.bl hx
      simp only [World.cell?, show wx.heap[w.heap.size + 1]? = _ from this]
      have hi2 : i < 256 := by omega
      simp [hi2], by simp, by simp⟩
    have hgG : ¬ G (w.heap.size + 1) := fun y => by
      rcases hG.2 _ y with y | ⟨_, f, c, y⟩
      · have := h.lt _ y; omega
      · have hc' : W.heap[w.heap.size + 1]? = _ := hc
        rw [show W.heap[w.heap.size + 1]? = _ from y] at hc'; simp at hc'
    have hpl : pre.length ≤ 4096 := Nat.le_trans (nodup_le hp1 (fun k hk => (h.mem k).2 (hp2 k hk))) hks
    have HL := fun wx (hx : Below W.heap.size W wx) => lay_s (c := 256) (hS.bl hx) (by omega) X uX (hby wx hx) hgG e6
    have cs1 := hb.c0
    have hk1' : (1 : Nat) ≤ 5 - 1 - 1 := by omega
    clear hX ho' hln hk1 hk2 hm
    have hmx : Try.prog.follows .mixedOrders = true := by kernel_rfl
    gi_wp2
    gi_region_with_o (gi_at_call 81; refine (CallsIn.inRound l (callsIn_wide.2 (HL _ (by (repeat' (first | (with_reducible assumption) | (with_reducible exact Below.refl _ _) | (with_reducible refine Below.drew ?_) | (with_reducible refine blN ?_ _) | (with_reducible refine bl_alloc ?_ _) | (with_reducible refine bl_trans ?_ (by assumption)))))))).mono ?_; rintro e w1 ⟨rfl, fL, ⟨L2, G2, hS2, lG2, hk2⟩, pk⟩)
    all_goals exact clr_step (a := { tmps := #[], defers := [] }) h (by omega) hb hc hf hp1 hp2 hG hLk hk0 hk3 e4 e5 (by (repeat' (first | (with_reducible assumption) | (with_reducible exact Below.refl _ _) | (with_reducible refine Below.drew ?_) | (with_reducible refine blN ?_ _) | (with_reducible refine bl_alloc ?_ _) | (with_reducible refine bl_trans ?_ (by assumption))))) fL hS2 lG2 hk2 pk
  case done =>
    rintro D ys W hD hB hC hK
    gi_wp2
    refine ⟨by simp, .inl ⟨_, _, rfl, run_takeDeferred hK, ?_⟩⟩
    refine ⟨_, results_none rfl _ _ _, rfl, ?_⟩
    obtain ⟨_, _, fF, ⟨hp1, hp2⟩, L3, G3, hS3, lG3, _⟩ := clrAt_own (w := w) (sb := sb) (N := N) (S := S) (L := L) (A := A) (m := m) h.lt (Nat.le_refl _) ys W (W.putObj D (.deferred none)) (some D) hC (grownBy_putObj' W D _) (fun r e => by cases e; exact ⟨by omega, _, hK, rfl⟩)
    have hle := cls_le h.enum hS3.enum
    rw [cls_all h hA.1 hmA hB] at hS3
    have hy : ys.length ≤ L.ks.length := nodup_le hp1 (fun k hk => (h.mem k).2 (hp2 k hk))
    exact ⟨fF, L3, G3, hS3.mono (fun _ x => x) hS3.lt (by omega), lG3, hle⟩
end
end Go.Proofs.Ytgebmedkhakhfaa
