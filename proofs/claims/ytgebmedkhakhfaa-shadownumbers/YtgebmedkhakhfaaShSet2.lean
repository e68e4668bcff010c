/- Set. -/
import Derived.Test.YtgebmedkhakhfaaShSet
import Derived.Sort.CutIn
namespace Go.Proofs.Ytgebmedkhakhfaa
open Go.ChangeShapes Go.WideShapes Go.ChangeAt Go.RowKit Go.Shelf
set_option linter.unusedSimpArgs false
set_option linter.unusedVariables false
attribute [local go_sem] Oper.semAt_some wide_fn

theorem wpIn_noPanic {F : Fence} {n : Nat} {P : Program} {c : Code} {Q : Exit → Act → World → Prop} {a : Act} {w : World} (h : c.wpIn F n P (NoPanic Q) a w) : c.wpIn F n P Q a w := wpIn_mono h NoPanic.imp
/-- The rows of pre laid, one behind the other. -/
def SS.puts (S : SS) (A : Int) (m : Nat) (bs : Nat → Int) (pre : List (Rw A m)) : SS := pre.foldl (fun T (i : Rw A m) => T.put (A + sk A m i) (fun j => bs (sk A m i + j)) (sk A m (i + 1) - sk A m i)) S
theorem puts_snoc (S : SS) (A : Int) (m : Nat) (bs : Nat → Int) (pre : List (Rw A m)) (x : Rw A m) : S.puts A m bs (pre ++ [x]) = (S.puts A m bs pre).put (A + sk A m x) (fun j => bs (sk A m x + j)) (sk A m (x + 1) - sk A m x) := by
  simp [SS.puts]
theorem put_zero (S : SS) (A : Int) (bs : Nat → Int) : S.put A bs 0 = S := by
  unfold SS.put
  have : (fun x => if A ≤ x ∧ x < A + ((0 : Nat) : Int) then bs (x - A).toNat else S.lab x) = S.lab := by
    funext x; rw [if_neg (by omega)]
  rw [this]
theorem put_put (S : SS) (A : Int) (bs : Nat → Int) (s n : Nat) : (S.put A bs s).put (A + s) (fun j => bs (s + j)) n = S.put A bs (s + n) := by
  unfold SS.put
  simp only [SS.mk.injEq, true_and]
  funext x
  by_cases e1 : A + s ≤ x ∧ x < A + s + n
  · rw [if_pos e1, if_pos (by omega)]; congr 1; omega
  · rw [if_neg e1]
    by_cases e2 : A ≤ x ∧ x < A + s
    · rw [if_pos e2, if_pos (by omega)]
    · rw [if_neg e2, if_neg (by omega)]
theorem sk_mono {A : Int} {m k : Nat} (hA : 0 ≤ A) : sk A m k ≤ sk A m (k + 1) := by
  by_cases h : sk A m k < m
  · rw [sk_succ hA h]; omega
  · have := sk_le A m k
    have h2 : rowN A m ≤ k := by
      apply Decidable.byContradiction; intro x; exact h (sk_lt.2 (by omega))
    rw [sk_end h2, sk_end (by omega : rowN A m ≤ k + 1)]; exact Nat.le_refl _
theorem puts_to (S : SS) {A : Int} {m : Nat} (bs : Nat → Int) (hA : 0 ≤ A) {k : Nat} (hk : k ≤ rowN A m) : S.puts A m bs (rowsTo A m k) = S.put A bs (sk A m k) := by
  induction k with
  | zero => rw [sk_zero, put_zero]; simp [rowsTo, SS.puts]
  | succ k ih =>
    rw [rowsTo_succ hk, puts_snoc, ih (by omega)]
    dsimp only
    rw [put_put]
    congr 1
    have := sk_mono (A := A) (m := m) (k := k) hA
    omega
theorem puts_all (S : SS) {A : Int} {m : Nat} (bs : Nat → Int) (hA : 0 ≤ A) : S.puts A m bs (List.finRange (rowN A m)) = S.put A bs m := by
  rw [← rowsTo_all, puts_to S bs hA (Nat.le_refl _), sk_end (Nat.le_refl _)]

/-- ks are the pages that are not clean, each once. -/
def Enum (S : SS) (ks : List Int) : Prop := ks.Nodup ∧ ∀ k, k ∈ ks ↔ (0 ≤ k ∧ k < 16777216 ∧ 0 < nz (S.pg k) 256)
theorem Enum.len {S : SS} {ks ks' : List Int} (h : Enum S ks) (h' : Enum S ks') : ks.length = ks'.length :=
  ((List.perm_ext_iff_of_nodup h.1 h'.1).2 (fun k => by rw [h.2, h'.2])).length_eq
theorem ShL.enum {w : World} {sb : Nat} {F : Nat → Prop} {N : Nat} {S : SS} {L : SLay} (h : ShL w sb F N S L) : Enum S L.ks :=
  ⟨h.nd, fun k => ⟨fun hk => ⟨(h.ks_rng hk).1, (h.ks_rng hk).2, (h.ks_iff (h.ks_rng hk).1 (h.ks_rng hk).2).1 hk⟩, fun ⟨a, b, c⟩ => (h.ks_iff a b).2 c⟩⟩
theorem put_pg_low (S : SS) {A : Int} (bs : Nat → Int) {s : Nat} {k : Int} (h : A + s ≤ 256 * k ∨ 256 * (k + 1) ≤ A) (i : Nat) (hi : i < 256) : (S.put A bs s).pg k i = S.pg k i := by
  unfold SS.pg SS.put
  dsimp only
  rw [if_neg (by omega)]
theorem aft_low (S : SS) {A : Int} (bs : Nat → Int) {s : Nat} {a : Int} (h : A + s ≤ 256 * (a / 256) ∨ s = 0) (cs : Nat → Int) (n : Nat) : (S.put A bs s).aft a cs n = S.aft a cs n := by
  rcases h with h | rfl
  · unfold SS.aft
    exact nz_congr (fun i hi => by unfold over; rw [put_pg_low S bs (.inl h) i hi])
  · rw [put_zero]
theorem sk_low {A : Int} {m k : Nat} (hA : 0 ≤ A) (h : sk A m k < m) : A + sk A m k ≤ 256 * ((A + sk A m k) / 256) ∨ sk A m k = 0 := by
  unfold sk at *
  split at h <;> rename_i e
  · right; simp [e]
  · left; rw [if_neg e]; omega
theorem enum_rows {w : World} {sb : Nat} {F : Nat → Prop} {N : Nat} {S : SS} {L : SLay} (h : ShL w sb F N S L) {A : Int} {m : Nat} (bs : Nat → Int) (hA : U4 A) (hmA : A + m ≤ 4294967296) {k : Nat} (hk : k ≤ rowN A m) :
    ∃ ks', Enum (S.put A bs (sk A m k)) ks' ∧ (ks'.length : Int) = L.ks.length + dsum (dlt S L A m bs) (rowsTo A m k) := by
  induction k with
  | zero =>
    rw [sk_zero, put_zero]
    exact ⟨L.ks, h.enum, by simp [rowsTo, dsum]⟩
  | succ k ih =>
    obtain ⟨ks, he, hl⟩ := ih (by omega)
    have hlt := sk_lt.2 (show k < rowN A m by omega)
    obtain ⟨f1, f2, f3⟩ := row_fits hA.1 (show k < rowN A m by omega)
    have hlow := sk_low hA.1 hlt
    have hmo := sk_mono (A := A) (m := m) (k := k) hA.1
    rw [rowsTo_succ hk, dsum_snoc]
    have hput : S.put A bs (sk A m (k + 1)) = (S.put A bs (sk A m k)).put (A + sk A m k) (fun j => bs (sk A m k + j)) (sk A m (k + 1) - sk A m k) := by
      rw [put_put]; congr 1; omega
    rw [hput]
    have hd : dlt S L A m bs k = (if 0 < S.aft (A + sk A m k) (fun j => bs (sk A m k + j)) (sk A m (k + 1) - sk A m k) then 1 else 0) - (if (L.bk ((A + sk A m k) / 256)).isSome then 1 else 0) := rfl
    have ha : (S.put A bs (sk A m k)).aft (A + sk A m k) (fun j => bs (sk A m k + j)) (sk A m (k + 1) - sk A m k) = S.aft (A + sk A m k) (fun j => bs (sk A m k + j)) (sk A m (k + 1) - sk A m k) := aft_low S bs hlow _ _
    have hpp : nz ((S.put A bs (sk A m k)).pg ((A + sk A m k) / 256)) 256 = nz (S.pg ((A + sk A m k) / 256)) 256 := by
      rcases hlow with x | x
      · exact nz_congr (fun i hi => put_pg_low S bs (.inl x) i hi)
      · rw [x, put_zero]
    generalize hT : S.put A bs (sk A m k) = T at *
    generalize hcs : (fun j => bs (sk A m k + j)) = cs at *
    generalize hn : sk A m (k + 1) - sk A m k = n at *
    generalize hs : sk A m k = s at *
    generalize haa : A + (s : Int) = a at *
    have hu : 0 ≤ a / 256 ∧ a / 256 < 16777216 := by have := hA.1; omega
    have hmem : a / 256 ∈ ks ↔ (L.bk (a / 256)).isSome = true := by
      rw [he.2, hpp, ← h.mem, h.ks_iff hu.1 hu.2]
      exact ⟨fun x => x.2.2, fun x => ⟨hu.1, hu.2, x⟩⟩
    have hoth : ∀ x, x ≠ a / 256 → nz ((T.put a cs n).pg x) 256 = nz (T.pg x) 256 := fun x hx => nz_congr (fun i hi => put_pg_other T cs f2 hx i hi)
    have hsame : nz ((T.put a cs n).pg (a / 256)) 256 = S.aft a cs n := by rw [put_aft, ha]
    by_cases hp : 0 < S.aft a cs n
    · by_cases hi : a / 256 ∈ ks
      · refine ⟨ks, ⟨he.1, fun x => ?_⟩, ?_⟩
        · by_cases e : x = a / 256
          · rw [e, hsame]; exact ⟨fun _ => ⟨hu.1, hu.2, hp⟩, fun _ => hi⟩
          · rw [he.2, hoth x e]
        · rw [hd, if_pos hp, if_pos (hmem.1 hi), hl]; omega
      · refine ⟨a / 256 :: ks, ⟨List.nodup_cons.2 ⟨hi, he.1⟩, fun x => ?_⟩, ?_⟩
        · by_cases e : x = a / 256
          · rw [e, hsame]; exact ⟨fun _ => ⟨hu.1, hu.2, hp⟩, fun _ => List.mem_cons_self⟩
          · rw [List.mem_cons, he.2, hoth x e]; simp [e]
        · rw [hd, if_pos hp, if_neg (fun x => hi (hmem.2 x)), List.length_cons]; omega
    · refine ⟨ks.erase (a / 256), ⟨he.1.erase _, fun x => ?_⟩, ?_⟩
      · rw [he.1.mem_erase_iff]
        by_cases e : x = a / 256
        · rw [e, hsame]; simp; omega
        · rw [he.2, hoth x e]; simp [e]
      · rw [hd, if_neg hp]
        by_cases hi : a / 256 ∈ ks
        · rw [List.length_erase_of_mem hi, if_pos (hmem.1 hi)]
          have := List.length_pos_of_mem hi
          omega
        · rw [List.erase_of_not_mem hi, if_neg (fun x => hi (hmem.2 x)), hl]; omega

/-- Behind the rows of pre. -/
def SetAt (w : World) (sb : Nat) (F : Nat → Prop) (N : Nat) (S : SS) (A : Int) (m : Nat) (bs : Nat → Int) (pre : List (Rw A m)) (W : World) : Prop :=
  Boxed W w.heap.size 52 (.pointer (some ⟨sb, 0, none⟩)) ∧ Fs F w W ∧ ∃ L G, ShL W sb G (N + pre.length) (S.puts A m bs pre) L ∧ LaidF F G w W
theorem setAt_own {w : World} {sb : Nat} {F : Nat → Prop} {N : Nat} {S : SS} {A : Int} {m : Nat} {bs : Nat → Int} (hF : ∀ i, F i → i < w.heap.size) {B : Nat} (hB : w.heap.size ≤ B) : OwnFrom B (SetAt w sb F N S A m bs) := by
  rintro pre X Y row ⟨hb, hf, L, G, hS, hG⟩ hg hr
  have hsame : ∀ i, i < X.heap.size → (i < B ∨ ∃ c t z, X.heap[i]? = some (.cells c t z)) → Y.heap[i]? = X.heap[i]? := fun i hi hc => by
    refine hg.block i hi (fun e => ?_)
    obtain ⟨h1, o, h2, h3⟩ := hr i e.symm
    rcases hc with hc | ⟨c, t, z, hc⟩
    · omega
    · rw [hc] at h2; cases h2; cases h3
  have hGs : ∀ i, G i → Y.heap[i]? = X.heap[i]? := fun i hi => hsame i (hS.lt i hi) (by
    rcases hG.2 i hi with x | ⟨_, f, c, x⟩
    · exact .inl (Nat.lt_of_lt_of_le (hF i x) hB)
    · exact .inr ⟨_, _, _, x⟩)
  refine ⟨?_, ?_, L, G, hS.congr hg.size hGs, hG.1, fun i hi => ?_⟩
  · exact (hsame _ hb.lt (.inr ⟨_, _, _, hb⟩)).trans hb
  · exact ⟨hg.os.trans hf.os, hg.tape.trans hf.tape, hg.output.trans hf.output, Nat.le_trans hf.size hg.size, fun i hi hn => (hsame i (Nat.lt_of_lt_of_le hi hf.size) (.inl (by omega))).trans (hf.block i hi hn)⟩
  · rcases hG.2 i hi with x | ⟨y, f, c, x⟩
    · exact .inl x
    · exact .inr ⟨y, f, c, (hGs i hi).trans x⟩

section
variable {w : World} {sb : Nat} {F : Nat → Prop} {N : Nat} {S : SS} {L : SLay}
set_option maxRecDepth 100000 in
set_option maxHeartbeats 2000000 in
theorem Set_w (h : ShL w sb F N S L) (A : Int) (hA : U4 A) {v : Value} {g o len cap : Nat} {bs : Nat → Int} (sa : SArg w v g o len cap bs) (m : Nat) (hm : (m : Int) = max 0 (min (len : Int) (4294967296 - A))) (hks : (L.ks.length : Int) ≤ S.budget) (hl9 : len ≤ 1000000000)
    (hN : N + rowN A m < maxLen) (hg : len ≠ 0 → ¬ F g) :
    Calls Try.prog 39 #[.pointer (some ⟨sb, 0, none⟩), .int .u32 A, v] w fun e w' =>
      (e = .returned (.int .i64 6) ∧ Below w.heap.size w w' ∧ S.budget < L.ks.length + dsum (dlt S L A m bs) (List.finRange (rowN A m))) ∨
      (e = .returned (.int .i64 0) ∧ ¬ S.budget < L.ks.length + dsum (dlt S L A m bs) (List.finRange (rowN A m)) ∧ Fs F w w' ∧ ∃ L' G, ShL w' sb G (N + rowN A m) (S.put A bs m) L' ∧ LaidF F G w w') := by
  obtain ⟨q, rfl, hq⟩ := sa.shape
  have hbud := h.bud
  have g0 : Below w.heap.size w (w.alloc (.cells #[.pointer (some ⟨sb, 0, none⟩)] 52)) := bl_alloc (Below.refl _ _) _
  have h0 := h.bl g0
  have sa0 : SArg (w.alloc (.cells #[.pointer (some ⟨sb, 0, none⟩)] 52)) (.slice q len cap) g o len cap bs := ⟨sa.le, sa.c9, sa.by_.bl g0, sa.val⟩
  have HD := fun wx (hx : Below (w.alloc (.cells #[.pointer (some ⟨sb, 0, none⟩)] 52)).heap.size (w.alloc (.cells #[.pointer (some ⟨sb, 0, none⟩)] 52)) wx) => dirtyAfter_c (h0.bl hx) A hA (v := .slice q len cap) ⟨sa.le, sa.c9, (sa.by_.bl g0).bl hx, sa.val⟩ m hm (by omega) hl9
  have hc0 := h0.c0
  have bS : Boxed (w.alloc (.cells #[.pointer (some ⟨sb, 0, none⟩)] 52)) w.heap.size 52 (.pointer (some ⟨sb, 0, none⟩)) := Boxed.new _ _ _
  obtain ⟨T, hT⟩ : ∃ T, (L.ks.length : Int) + dsum (dlt S L A m bs) (List.finRange (rowN A m)) = T := ⟨_, rfl⟩
  rw [hT] at HD
  generalize hW : (w.alloc (.cells #[.pointer (some ⟨sb, 0, none⟩)] 52)) = W0 at *
  have hcs := bS.cell
  refine (callsIn_wide (n := 5)).1 ?_
  refine callsIn_of_wp_marks Try.func39 rfl trivial ?_ rfl
  simp only [Try.ntmps39, List.size_toArray, List.length_cons, List.length_nil, Nat.reduceAdd, Nat.reduceSub, Array.replicate_succ, Array.replicate_zero, List.push_toArray, List.append_toArray, List.nil_append, List.cons_append]
  have hmx : Try.prog.follows .mixedOrders = true := by kernel_rfl
  gi_wp2

  gi_cut [17] from 9 (fun s17 wx => s17 = .bool (decide (S.budget < T)) ∧ Below W0.heap.size W0 wx)
  case first =>
    refine wpIn_noPanic ?_
    gi_region_with_o (gi_at_call 79; refine (callsIn_wide.2 (HD _ (by (repeat' (first | (with_reducible assumption) | (with_reducible exact Below.refl _ _) | (with_reducible refine Below.drew ?_) | (with_reducible refine bl_alloc ?_ _) | (with_reducible refine bl_trans ?_ (by assumption))))))).mono ?_; rintro e w1 ⟨rfl, g1⟩; have c2 := bl_keep g1 (a := W0.drew) hc0; have c3 := bl_keep g1 (a := W0.drew) hcs)
    all_goals refine NoPanic.normal ?_
    all_goals gi_wp2
    all_goals gi_meet
    all_goals exact ⟨rfl, by (repeat' (first | (with_reducible assumption) | (with_reducible exact Below.refl _ _) | (with_reducible refine Below.drew ?_) | (with_reducible refine bl_alloc ?_ _) | (with_reducible refine bl_trans ?_ (by assumption))))⟩
  case rest =>
    obtain ⟨rfl, gc⟩ := hcut
    by_cases hf : S.budget < T
    · gi_wp2
      exact ⟨_, results_tmp rfl _ _ _, .inl ⟨rfl, bl_trans g0 gc⟩⟩
    · gi_wp2_with (gi_at_call 80; refine (rows_in _ A _ _ q len cap rfl).mono ?_; rintro e w' ⟨rfl, rfl⟩)
      have hc : Below w.heap.size w wc := bl_trans g0 gc
      have b0' : Below wc.heap.size wc ((wc.alloc (.cells #[.int .u32 A] 33)).alloc (.cells #[.slice q len cap] 34)) := bl_alloc (bl_alloc (Below.refl _ _) _) _
      have bA : Boxed ((wc.alloc (.cells #[.int .u32 A] 33)).alloc (.cells #[.slice q len cap] 34)) wc.heap.size 33 (.int .u32 A) := (Boxed.new _ _ _).alloc _
      have bL : Boxed ((wc.alloc (.cells #[.int .u32 A] 33)).alloc (.cells #[.slice q len cap] 34)) (wc.heap.size + 1) 34 (.slice q len cap) := by
        have := Boxed.new (wc.alloc (.cells #[.int .u32 A] 33)) 34 (.slice q len cap)
        rwa [World.size_alloc] at this
      have s1 : ((wc.alloc (.cells #[.int .u32 A] 33)).alloc (.cells #[.slice q len cap] 34)).heap.size = wc.heap.size + 2 := by simp
      have szw := hc.size
      have bS1 := boxed_bl (boxed_bl bS gc) b0'
      generalize hW1 : (wc.alloc (.cells #[.int .u32 A] 33)).alloc (.cells #[.slice q len cap] 34) = W1 at *
      have bW1 : Below w.heap.size w W1 := bl_trans hc b0'
      refine wpIn_rangeFunc_ownG rfl (by decide) (gf := 99) (lb := #[.pointer (some ⟨wc.heap.size, 0, none⟩), .pointer (some ⟨wc.heap.size + 1, 0, none⟩)]) rfl trivial (enters_of Try.func99 (by kernel_rfl) rfl)
        (rows_any 4 (by omega) A hA wc.heap.size (wc.heap.size + 1) g o m len cap q hq hm sa.le sa.c9 W1 (by omega) (by omega) bA.cell bL.cell) (fun _ _ => trivial) (fun _ _ _ _ _ _ _ _ => trivial) (Below.refl _ _) (fun _ => rfl)
        (SetAt w sb F N S A m bs)
        (fun _ _ _ => False)
        (setAt_own h.lt (by omega))
        (fun _ _ _ _ _ hs _ _ => hs)
        ⟨bS1, bl_fs bW1 F, L, F, h.bl bW1, LaidF.same _ _ _⟩
        (fun x => { tmps := #[.pointer (some ⟨sb, 0, none⟩), .int .u32 A, .slice q len cap, .pointer (some ⟨w.heap.size, 0, none⟩), undef, undef, .int .i64 0, .int .u32 (A + sk A m x), .slice (some ⟨g, o + sk A m x, none⟩) (sk A m (x + 1) - sk A m x) (cap - sk A m x),
          u9, u10, u11, u12, u13, u14, u15, u16, .bool (decide (S.budget < T)), .int .u32 A, .slice q len cap,
          .func (.func 99) #[] #[.pointer (some ⟨wc.heap.size, 0, none⟩), .pointer (some ⟨wc.heap.size + 1, 0, none⟩)], .int .u32 (A + sk A m x), .slice (some ⟨g, o + sk A m x, none⟩) (sk A m (x + 1) - sk A m x) (cap - sk A m x), u23, u24, u25, u26], defers := [] }) ?assign ?body ?done ?stop
      case assign =>
        intro l x W K hK
        simp only [rowEnc]
        gi_wp2
        exact hK
      case body =>
        rintro l pre x W ⟨cS, fW, L1, G1, hS1, lG⟩ hlt
        obtain ⟨a0, a1⟩ := hA
        obtain ⟨f1, f2, f3⟩ := row_fits a0 x.2
        have hml : m ≤ len ∧ A + m ≤ 4294967296 := by omega
        have hgF := hg (by omega)
        have hgl : g < w.heap.size := World.block_lt_of_cell? w ⟨g, o + 0, none⟩ (sa.by_ 0 (by omega)).1
        have hby : Bys W g (o + sk A m x) (sk A m (x + 1) - sk A m x) (fun j => bs (sk A m x + j)) := by
          have : Bys W g o len bs := fun i hi => ⟨by rw [fW.cell (p := ⟨g, o + i, none⟩) hgl hgF]; exact (sa.by_ i hi).1, (sa.by_ i hi).2⟩
          exact this.sub (by omega)
        have hgG : ¬ G1 g := fun y => by
          rcases lG.2 g y with y | ⟨y, _⟩
          · exact hgF y
          · omega
        have HL := lay_s (c := cap - sk A m x) hS1 (by omega) (A + sk A m x) ⟨by omega, by omega⟩ hby hgG f2
        have cs1 := cS.cell
        have hk1 : (1 : Nat) ≤ 5 - 1 - 1 := by omega
        gi_wp2_with (gi_at_call 81; refine (CallsIn.inRound l (callsIn_wide.2 HL)).mono ?_; rintro e w1 ⟨rfl, fL, ⟨L2, G2, hS2, lG2, _⟩, pk⟩)
        refine ⟨⟨fL.size, fun k ob hk hob hcl => (fL.block k (Array.getElem?_eq_some_iff.1 hob).1 (fun y => ?_)).trans hob⟩, trivial, ?_, ?_, L2, G2, ?_, ?_, ?_⟩
        · rcases lG.2 k y with y | ⟨_, f, c, y⟩
          · have := h.lt k y; have := bW1.size; omega
          · rw [show W.heap[k]? = _ from y] at hob; cases hob; cases hcl
        · refine (fL.block _ cS.lt (fun y => ?_)).trans cS
          rcases lG.2 _ y with y | ⟨_, f, c, y⟩
          · have := h.lt _ y; omega
          · have cS' : W.heap[w.heap.size]? = _ := cS
            rw [show W.heap[w.heap.size]? = _ from y] at cS'; simp at cS'
        · refine fW.trans fL (fun i hi y => ?_)
          rcases lG.2 i y with y | ⟨y, _⟩
          · exact y
          · omega
        · rw [puts_snoc, List.length_append, List.length_singleton, ← Nat.add_assoc]; exact hS2
        · exact fun i hi => lG2.1 i (lG.1 i hi)
        · intro i hi
          rcases lG2.2 i hi with y | ⟨y, z⟩
          · rcases lG.2 i y with y | ⟨y, f, c, z⟩
            · exact .inl y
            · exact .inr ⟨y, pk i f c z⟩
          · exact .inr ⟨Nat.le_trans fW.size y, z⟩
      case done =>
        rintro D ys W hD rfl ⟨cS, fW, L1, G1, hS1, lG⟩ hK
        gi_wp2
        refine ⟨by simp, .inl ⟨_, _, rfl, run_takeDeferred hK, ?_⟩⟩
        refine ⟨_, results_tmp rfl _ _ _, .inr ⟨rfl, ?_⟩⟩
        have hfin := setAt_own (w := w) (sb := sb) (N := N) (S := S) (bs := bs) h.lt (Nat.le_refl _) (List.finRange (rowN A m)) W (W.putObj D (.deferred none)) (some D) ⟨cS, fW, L1, G1, hS1, lG⟩ (grownBy_putObj' W D _) (fun r e => by cases e; exact ⟨by have := bW1.size; omega, _, hK, rfl⟩)
        obtain ⟨_, fF, L3, G3, hS3, lG3⟩ := hfin
        rw [puts_all S bs hA.1, List.length_finRange] at hS3
        exact ⟨fF, L3, G3, hS3, lG3⟩
      case stop =>
        rintro D c pre W _ _ h _
        exact h.elim
/-- Set: with no room nothing changes; else the labels are laid. -/
theorem Set_c (h : ShL w sb F N S L) (A : Int) (hA : U4 A) {v : Value} {g o len cap : Nat} {bs : Nat → Int} (sa : SArg w v g o len cap bs) (m : Nat) (hm : (m : Int) = max 0 (min (len : Int) (4294967296 - A))) (hks : (L.ks.length : Int) ≤ S.budget) (hl9 : len ≤ 1000000000)
    (hN : N + rowN A m < maxLen) (hg : len ≠ 0 → ¬ F g) :
    Calls Try.prog 39 #[.pointer (some ⟨sb, 0, none⟩), .int .u32 A, v] w fun e w' => ∃ ks', Enum (S.put A bs m) ks' ∧
      ((e = .returned (.int .i64 6) ∧ Below w.heap.size w w' ∧ S.budget < ks'.length) ∨
       (e = .returned (.int .i64 0) ∧ (ks'.length : Int) ≤ S.budget ∧ Fs F w w' ∧ ∃ L' G, ShL w' sb G (N + rowN A m) (S.put A bs m) L' ∧ LaidF F G w w' ∧ (L'.ks.length : Int) ≤ S.budget)) := by
  have hmA : A + m ≤ 4294967296 := by unfold U4 at hA; omega
  obtain ⟨ks', he, hl⟩ := enum_rows h bs hA hmA (Nat.le_refl (rowN A m))
  rw [sk_end (Nat.le_refl _)] at he
  rw [rowsTo_all] at hl
  refine (Set_w h A hA sa m hm hks hl9 hN hg).mono ?_
  rintro e w' (⟨rfl, hb, hf⟩ | ⟨rfl, hf, hF, L', G, hS, hG⟩)
  · exact ⟨ks', he, .inl ⟨rfl, hb, by omega⟩⟩
  · have := hS.enum.len he
    exact ⟨ks', he, .inr ⟨rfl, by omega, hF, L', G, hS, hG, by omega⟩⟩
end
end Go.Proofs.Ytgebmedkhakhfaa
