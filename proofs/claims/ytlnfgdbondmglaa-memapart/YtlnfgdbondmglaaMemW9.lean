/- THE WALKS OF LAYER 3: Protect. -/
import Derived.Test.YtlnfgdbondmglaaMemW8
namespace Go.Proofs.Ytlnfgdbondmglaa
open Go.ChangeShapes Go.WideShapes Go.ChangeAt Go.RowKit
set_option linter.unusedSimpArgs false
set_option linter.unusedVariables false

/-- A stretch's numbers, as they stand in the list. -/
def stl (th : List Int) (f : Int) (c : Nat) : List Int := (th.drop (lb th f)).take (lb th (f + c) - lb th f)
theorem lb_mono {th : List Int} (hs : th.Pairwise (· < ·)) {f g : Int} (h : f ≤ g) : lb th f ≤ lb th g := by
  obtain ⟨h1, h2, h3⟩ := At_lb hs f
  obtain ⟨k1, k2, k3⟩ := At_lb hs g
  apply Decidable.byContradiction
  intro x
  have := h2 (lb th g) (by omega)
  have := k3 (lb th g) (Nat.le_refl _) (by omega)
  omega
theorem lb_le {th : List Int} (hs : th.Pairwise (· < ·)) (f : Int) : lb th f ≤ th.length := (At_lb hs f).1
theorem stl_length {th : List Int} (hs : th.Pairwise (· < ·)) (f : Int) (c : Nat) : (stl th f c).length = lb th (f + c) - lb th f := by
  have := lb_le hs (f + c)
  simp [stl]; omega
theorem stl_at {th : List Int} (hs : th.Pairwise (· < ·)) {f : Int} {c i : Nat} (hi : i < lb th (f + c) - lb th f) : (stl th f c)[i]? = th[lb th f + i]? := by
  unfold stl
  rw [List.getElem?_take, if_pos hi, List.getElem?_drop]
theorem mem_stl {th : List Int} (hs : th.Pairwise (· < ·)) {f : Int} {c : Nat} {k : Int} : k ∈ stl th f c ↔ k ∈ th ∧ f ≤ k ∧ k < f + c := by
  obtain ⟨h1, h2, h3⟩ := At_lb hs f
  obtain ⟨k1, k2, k3⟩ := At_lb hs (f + c)
  constructor
  · intro hk
    obtain ⟨i, hi, e⟩ := List.getElem_of_mem hk
    have hi' := hi
    rw [stl_length hs] at hi'
    have e2 : th[lb th f + i]? = some k := by rw [← stl_at hs hi', List.getElem?_eq_getElem hi, e]
    have hl : lb th f + i < th.length := by omega
    have a1 := h3 (lb th f + i) (by omega) hl
    have a2 := k2 (lb th f + i) (by omega)
    rw [e2] at a1 a2
    exact ⟨List.mem_of_getElem? e2, a1, a2⟩
  · rintro ⟨hk, hf, hc⟩
    obtain ⟨m, hm, e⟩ := mem_getD hk
    have m1 : lb th f ≤ m := by
      apply Decidable.byContradiction; intro x
      have := h2 m (by omega); omega
    have m2 : m < lb th (f + c) := by
      apply Decidable.byContradiction; intro x
      have := k3 m (by omega) hm; omega
    have : (stl th f c)[m - lb th f]? = some k := by
      rw [stl_at hs (by omega), show lb th f + (m - lb th f) = m by omega, List.getElem?_eq_getElem hm]
      rw [List.getElem?_eq_getElem hm] at e
      simpa using e
    exact List.mem_of_getElem? this
theorem stl_nodup {th : List Int} (hs : th.Pairwise (· < ·)) (f : Int) (c : Nat) : (stl th f c).Pairwise (· < ·) :=
  (hs.sublist (List.drop_sublist _ _)).sublist (List.take_sublist _ _)
theorem take_succ_mem {l : List Int} {i : Nat} {x : Int} (h : l[i]? = some x) {k : Int} : k ∈ l.take (i + 1) ↔ k ∈ l.take i ∨ k = x := by
  rw [List.take_add_one, h]; simp
theorem not_in_take {l : List Int} (hs : l.Pairwise (· < ·)) {i : Nat} {x : Int} (h : l[i]? = some x) : x ∉ l.take i := by
  intro hx
  obtain ⟨j, hj, e⟩ := List.getElem_of_mem hx
  have hj2 : j < i ∧ j < l.length := by simp at hj; omega
  rw [List.getElem_take] at e
  obtain ⟨hi, e2⟩ := List.getElem?_eq_some_iff.1 h
  have := List.pairwise_iff_getElem.1 hs j i hj2.2 hi hj2.1
  omega

def protPg (perm : Int) (p : Pg) : Pg := { p with perm := perm, gen := (p.gen + 1) % 4294967296 }
/-- Protect, behind those numbers of l. -/
def MS.prot (S : MS) (l : List Int) (perm : Int) : MS := { S with pg := fun k => if k ∈ l then (S.pg k).map (protPg perm) else S.pg k }
theorem prot_nil (S : MS) (perm : Int) : S.prot [] perm = S := by
  unfold MS.prot; simp
theorem prot_step {S : MS} {l : List Int} {i : Nat} {x : Int} {p : Pg} {perm : Int} (hx : l[i]? = some x) (hp : S.pg x = some p) :
    { S.prot (l.take i) perm with pg := upd (S.prot (l.take i) perm).pg x (some (protPg perm p)) } = S.prot (l.take (i + 1)) perm := by
  unfold MS.prot
  simp only [MS.mk.injEq, true_and, and_true]
  funext k
  unfold upd
  by_cases e : k = x
  · subst e
    rw [if_pos rfl, if_pos ((take_succ_mem hx).2 (.inr rfl)), hp]; rfl
  · rw [if_neg e]
    show (if k ∈ l.take i then (S.pg k).map (protPg perm) else S.pg k) = _
    by_cases c : k ∈ l.take i
    · rw [if_pos c, if_pos ((take_succ_mem hx).2 (.inl c))]
    · rw [if_neg c, if_neg (fun y => (take_succ_mem hx).1 y |>.elim c e)]
theorem protPg_ok {perm : Int} {p : Pg} (h : p.Ok) (hp : 0 ≤ perm ∧ perm ≤ 7) : (protPg perm p).Ok :=
  ⟨h.byt, ⟨hp.1, by simp only [protPg]; omega⟩, by simp only [protPg]; unfold U4; omega⟩

theorem row_cells_at {w : World} {g n cap : Nat} {th : List Int} (hr : w.ownsRow 0 28 1 (.slice (some ⟨g, 0, none⟩) n cap) th.length (th.map (Value.int .u32))) : ∀ m, m < th.length → w.cell? ⟨g, m, none⟩ = some (.int .u32 (th[m]?.getD 0)) := by
  rcases row_cells hr with ⟨_, h2⟩ | ⟨g', cap', h1, h2⟩
  · cases h2
  · cases h1; exact h2

section
variable {w : World} {mb : Nat} {F : Nat → Prop} {N : Nat} {S : MS} {L : Lay}
theorem Protect_bad (a n perm : Int) (ha : U4 a) (hn : U4 n) (hs : ¬ StOk a n ∨ ¬ (0 ≤ perm ∧ perm ≤ 7)) :
    Calls Try.prog 17 #[.pointer (some ⟨mb, 0, none⟩), .int .u32 a, .int .u32 n, .int .i64 perm] w fun e w' => e = .returned (.int .i64 1) ∧ Gr w w' := by
  by_cases hk : StOk a n
  · have hst := stretch_ok a n ha hn hk
    have hdp : decide (0 ≤ perm ∧ perm ≤ 7) = false := by simp only [decide_eq_false_iff_not]; exact hs.resolve_left (fun x => x hk)
    have hgo := goodPerm_c perm
    rw [hdp] at hgo
    clear hs hdp ha hn hk
    go_enter Try.func17, Try.ntmps17
    go_wp2_with fail
    refine (hst _).mono ?_
    rintro e w1 ⟨rfl, g1⟩
    go_wp2_with fail
    refine (hgo _).mono ?_
    rintro e w1 ⟨rfl, rfl⟩
    go_wp2_with fail
    go_returns
    exact ⟨rfl, g1.alloc _ _⟩
  · have hst := stretch_bad a n ha hn hk
    clear hs hk
    go_enter Try.func17, Try.ntmps17
    go_wp2_with fail
    refine (hst _).mono ?_
    rintro e w1 ⟨rfl, g1⟩
    go_wp2_with fail
    go_returns
    exact ⟨rfl, g1.alloc _ _⟩

set_option maxRecDepth 100000 in
set_option maxHeartbeats 1000000 in
theorem Protect_none (h : OwnL w mb F N S L) (a n perm : Int) (ha : U4 a) (hn : U4 n) (hs : StOk a n) (hp : 0 ≤ perm ∧ perm ≤ 7) (c : Nat) (hc : (n + 255) / 256 = c) (f : Int) (hf : a / 256 = f) (i j : Nat) (hi : lb S.th f = i) (hj : lb S.th (f + c) = j) (hne : j ≠ i + c) :
    Calls Try.prog 17 #[.pointer (some ⟨mb, 0, none⟩), .int .u32 a, .int .u32 n, .int .i64 perm] w fun e w' => e = .returned (.int .i64 4) ∧ Gr w w' := by
  have hst := stretch_ok a n ha hn hs
  have hgo := goodPerm_c perm
  rw [show decide (0 ≤ perm ∧ perm ≤ 7) = true by simpa using hp] at hgo
  obtain ⟨_, _, hs3⟩ := hs
  obtain ⟨a0, a1⟩ := ha
  obtain ⟨n0, n1⟩ := hn
  rw [hc, hf] at hst hs3
  have f0 : 0 ≤ f := by omega
  have f1 : f ≤ 16777216 := by omega
  have hbud := h.ok.budget
  have hlen : S.th.length ≤ 4096 := by have := h.ok.len; omega
  have hi1 : i ≤ 4096 := by have := lb_le h.ok.rise f; omega
  have hj1 : j ≤ 4096 := by have := lb_le h.ok.rise (f + c); omega
  have hne2 : ((j : Int) - (i : Int) == (c : Int)) = false := by simp; omega
  clear hp hc hf hne
  go_enter Try.func17, Try.ntmps17
  go_wp2_with fail
  refine (hst _).mono ?_
  rintro e w1 ⟨rfl, g1⟩
  go_wp2_with fail
  refine (hgo _).mono ?_
  rintro e w1 ⟨rfl, rfl⟩
  go_wp2_with fail
  have ga : Gr w (w1.alloc (.cells #[.int .u32 f, .int .u32 c] 66)) := g1.alloc _ _
  refine (among_c (h.gr ga) f c ⟨f0, f1⟩ ⟨by omega, by omega⟩).mono ?_
  rw [hi, hj]
  rintro e w2 ⟨rfl, g2⟩
  have s1 : w2.cell? ⟨w1.heap.size, 1, none⟩ = some (.int .u32 c) := g2.keep (by simp)
  go_wp2_with fail
  go_returns
  exact ⟨rfl, ga.trans g2⟩

set_option maxRecDepth 100000 in
set_option maxHeartbeats 1000000 in
theorem Protect_ok (h : OwnL w mb F N S L) (a n perm : Int) (ha : U4 a) (hn : U4 n) (hs : StOk a n) (hp : 0 ≤ perm ∧ perm ≤ 7) (c : Nat) (hc : (n + 255) / 256 = c) (f : Int) (hf : a / 256 = f) (i : Nat) (hi : lb S.th f = i) (hj : lb S.th (f + c) = i + c) :
    Calls Try.prog 17 #[.pointer (some ⟨mb, 0, none⟩), .int .u32 a, .int .u32 n, .int .i64 perm] w fun e w' => e = .returned (.int .i64 0) ∧ Fr F w w' ∧ OwnL w' mb F N (S.prot (stl S.th f c) perm) L := by
  have hst := stretch_ok a n ha hn hs
  have hgo := goodPerm_c perm
  rw [show decide (0 ≤ perm ∧ perm ≤ 7) = true by simpa using hp] at hgo
  obtain ⟨hs1, _, hs3⟩ := hs
  obtain ⟨a0, a1⟩ := ha
  obtain ⟨n0, n1⟩ := hn
  have hc1 : 1 ≤ c := by omega
  rw [hc, hf] at hst hs3
  have f0 : 0 ≤ f := by omega
  have f1 : f ≤ 16777216 := by omega
  have hbud := h.ok.budget
  have hlen : S.th.length ≤ 4096 := by have := h.ok.len; omega
  have hrise := h.ok.rise
  have hicl : i + c ≤ S.th.length := by have := lb_le h.ok.rise (f + c); omega
  have hsl : (stl S.th f c).length = c := by rw [stl_length hrise]; omega
  have hsn := stl_nodup hrise f c
  have hsat : ∀ m, m < c → (stl S.th f c)[m]? = S.th[i + m]? := fun m hm => by rw [stl_at hrise (by omega), hi]
  have HP : Hid _ := hp
  rcases row_cells h.row with ⟨hnil, _⟩ | ⟨g, cap, hv, hcell⟩
  · rw [hnil] at hicl; simp at hicl; omega
  have hcap : S.th.length ≤ cap := by
    rcases h.row.2 with ⟨_, e⟩ | ⟨_, _, _, e, _, _, e2, _⟩
    · omega
    · rw [hv] at e; cases e; exact e2
  clear hp hc hf
  go_enter Try.func17, Try.ntmps17
  go_wp2_with fail
  refine (hst _).mono ?_
  rintro e w1 ⟨rfl, g1⟩
  go_wp2_with fail
  refine (hgo _).mono ?_
  rintro e w1 ⟨rfl, rfl⟩
  go_wp2_with fail
  have ga : Gr w (w1.alloc (.cells #[.int .u32 f, .int .u32 c] 66)) := g1.alloc _ _
  refine (among_c (h.gr ga) f c ⟨f0, f1⟩ ⟨by omega, by omega⟩).mono ?_
  rw [hi, hj]
  rintro e w2 ⟨rfl, g2⟩
  have g3 := ga.trans g2
  have h2 := h.gr g3
  have s1 : w2.cell? ⟨w1.heap.size, 1, none⟩ = some (.int .u32 c) := g2.keep (by simp)
  have c1 := h2.c1
  rw [hv] at c1
  obtain ⟨n3, hn3⟩ : ∃ n3, n3 = S.th.length := ⟨_, rfl⟩
  rw [← hn3] at c1 hicl hcap hlen
  have HN3 : Hid _ := hn3
  clear hn3
  have ic1 : (i : Int) + (c : Int) - (i : Int) = c := by omega
  have cpi : ¬ cap = i := by omega
  go_wp2_with fail
  go_loopw [50] (fun x wr => ∃ m : Nat, m ≤ c ∧ x = .int .i64 m ∧ OwnL wr mb F N (S.prot ((stl S.th f c).take m) perm) L ∧ Fr F w2 wr) (fun x _ => c - (intOf x).toNat)
  case atStart => exact ⟨0, Nat.zero_le _, rfl, by rw [List.take_zero, prot_nil]; exact h2, Fr.refl _ _⟩
  case round =>
    obtain ⟨m, hm, rfl, hR, hfr⟩ := hrel
    by_cases hmc : m = c
    · have fin := hR
      rw [hmc, List.take_of_length_le (by omega)] at fin
      have FIN : Hid _ := fin
      clear fin
      subst hmc
      go_wp2_with fail
      go_returns
      exact ⟨rfl, (g3.fr F).trans hfr (fun _ _ x => x), FIN.out⟩
    · have hlt : (m : Int) < (c : Int) := by omega
      have hlt2 : m < c := by omega
      have hrr := hR.row
      rw [hv] at hrr
      have hd := row_cells_at hrr (i + m) (show i + m < S.th.length by have := HN3.out; omega)
      have him : i + m < S.th.length := by have := HN3.out; omega
      have hx0 := hsat m hlt2
      rw [List.getElem?_eq_getElem him] at hx0
      obtain ⟨x, hx⟩ : ∃ x, x = S.th[i + m] := ⟨_, rfl⟩
      rw [← hx] at hx0
      have hd2 : wr.cell? ⟨g, i + m, none⟩ = some (.int .u32 x) := by rw [hd, hx]; simp [MS.prot, him]
      have hmem : x ∈ S.th := by rw [hx]; exact List.getElem_mem _
      have hrng := h.ok.rng x hmem
      obtain ⟨p, hpg⟩ : ∃ p, S.pg x = some p := Option.isSome_iff_exists.1 ((h.ok.mem x).2 hmem)
      have hpg' : (S.prot ((stl S.th f c).take m) perm).pg x = some p := by
        simp only [MS.prot]; rw [if_neg (not_in_take hsn hx0)]; exact hpg
      obtain ⟨b, hb, hq, hFb⟩ := hR.pgb hpg'
      have hl := hR.pm.look1 (k := x) ⟨by omega, by omega⟩
      rw [hb] at hl
      simp only [pv] at hl
      have k2 := hR.c2
      have d1 := hq.perm
      have d2 := hq.gen
      have z1 := hq.frozen 256
      have z2 := hq.frozen 257
      have q6 := (hq.setPerm perm).setGen ((p.gen + 1) % 4294967296)
      have fr6 : Fr (fun k => k = b) wr ((wr.setCell ⟨b, 256, none⟩ (.int .i64 perm)).setCell ⟨b, 257, none⟩ (.int .u32 ((p.gen + 1) % 4294967296))) := Fr.setCell (F := fun k => k = b) (p := ⟨b, 257, none⟩) (Fr.setCell (F := fun k => k = b) (p := ⟨b, 256, none⟩) (Fr.refl _ wr) (.inl rfl) _) (.inl rfl) _
      have RR : OwnL ((wr.setCell ⟨b, 256, none⟩ (.int .i64 perm)).setCell ⟨b, 257, none⟩ (.int .u32 ((p.gen + 1) % 4294967296))) mb F N (S.prot ((stl S.th f c).take (m + 1)) perm) L := by
        rw [← prot_step hx0 hpg]
        exact hR.setPg hb fr6.size (fun i hi ne => fr6.block i (hR.lt i hi) ne) q6 (protPg_ok (hR.ok.pg _ _ hpg') HP.out)
      have FF : Fr F w2 ((wr.setCell ⟨b, 256, none⟩ (.int .i64 perm)).setCell ⟨b, 257, none⟩ (.int .u32 ((p.gen + 1) % 4294967296))) := hfr.trans (fr6.mono (G := F) (fun i _ e => e ▸ hFb)) (fun _ _ x => x)
      clear hd hx hpg hpg' hx0 q6 fr6 hrr hsat hcell hmc
      go_wp2_with fail
      go_roundw
      case rel => exact ⟨m + 1, by omega, by simp, RR, FF⟩
      case measure => simp [intOf]; omega
end
end Go.Proofs.Ytlnfgdbondmglaa
