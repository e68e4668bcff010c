/- THE WALKS OF LAYER 3: Map refused; the first law. -/
import Derived.Test.YthicidkjhpnleaaMemW6
namespace Go.Proofs.Ythicidkjhpnleaa
open Go.ChangeShapes Go.WideShapes Go.ChangeAt Go.RowKit
set_option linter.unusedSimpArgs false
set_option linter.unusedVariables false

/-- A stretch that may be. -/
def StOk (a n : Int) : Prop := n ≠ 0 ∧ a % 256 = 0 ∧ a / 256 + (n + 255) / 256 ≤ 16777216
section
variable {w : World} {mb : Nat} {F : Nat → Prop} {N : Nat} {S : MS} {L : Lay}
theorem Map_bad (a n perm : Int) (ha : U4 a) (hn : U4 n) (hs : ¬ StOk a n ∨ ¬ (0 ≤ perm ∧ perm ≤ 7)) :
    Calls Try.prog 24 #[.pointer (some ⟨mb, 0, none⟩), .int .u32 a, .int .u32 n, .int .i64 perm] w fun e w' => e = .returned (.int .i64 1) ∧ Gr w w' := by
  by_cases hk : StOk a n
  · have hst := stretch_ok a n ha hn hk
    have hdp : decide (0 ≤ perm ∧ perm ≤ 7) = false := by simp only [decide_eq_false_iff_not]; exact hs.resolve_left (fun x => x hk)
    have hgo := goodPerm_c perm
    rw [hdp] at hgo
    clear hs hdp ha hn hk
    go_enter Try.func24, Try.ntmps24
    go_wp2_with fail
    refine (hst _).mono ?_
    rintro e w1 ⟨rfl, g1⟩
    go_wp2_with fail
    refine (hgo _).mono ?_
    rintro e w1 ⟨rfl, rfl⟩
    go_wp2_with fail
    go_returns
    exact ⟨rfl, g1.alloc _ _⟩
  · have hst := stretch_bad a n ha hn hk
    clear hs hk
    go_enter Try.func24, Try.ntmps24
    go_wp2_with fail
    refine (hst _).mono ?_
    rintro e w1 ⟨rfl, g1⟩
    go_wp2_with fail
    go_returns
    exact ⟨rfl, g1.alloc _ _⟩
set_option maxRecDepth 100000 in
theorem Map_there (h : OwnL w mb F N S L) (a n perm : Int) (ha : U4 a) (hn : U4 n) (hs : StOk a n) (hp : 0 ≤ perm ∧ perm ≤ 7) (c : Nat) (hc : (n + 255) / 256 = c) (f : Int) (hf : a / 256 = f) (hi : lb S.th f ≠ lb S.th (f + c)) :
    Calls Try.prog 24 #[.pointer (some ⟨mb, 0, none⟩), .int .u32 a, .int .u32 n, .int .i64 perm] w fun e w' => e = .returned (.int .i64 5) ∧ Gr w w' := by
  have hst := stretch_ok a n ha hn hs
  have hgo := goodPerm_c perm
  rw [show decide (0 ≤ perm ∧ perm ≤ 7) = true by simpa using hp] at hgo
  obtain ⟨_, _, hs3⟩ := hs
  obtain ⟨a0, a1⟩ := ha
  obtain ⟨n0, n1⟩ := hn
  rw [hc, hf] at hst hs3
  have f0 : 0 ≤ f := by omega
  have f1 : f ≤ 16777216 := by omega
  have hbud := h.ok.budget
  have hlen : S.th.length ≤ 4096 := by have := h.ok.len; omega
  obtain ⟨q, cap, hv⟩ := row_shape h.row
  have hne : (((lb S.th f : Nat) : Int) == ((lb S.th (f + c) : Nat) : Int)) = false := by simp; omega
  clear hp hc hf
  go_enter Try.func24, Try.ntmps24
  go_wp2_with fail
  refine (hst _).mono ?_
  rintro e w1 ⟨rfl, g1⟩
  go_wp2_with fail
  refine (hgo _).mono ?_
  rintro e w1 ⟨rfl, rfl⟩
  go_wp2_with fail
  have ga : Gr w (w1.alloc (.cells #[.int .u32 f, .int .u32 c] 81)) := g1.alloc _ _
  refine (among_c (h.gr ga) f c ⟨f0, f1⟩ ⟨by omega, by omega⟩).mono ?_
  rintro e w2 ⟨rfl, g2⟩
  go_wp2_with fail
  go_returns
  exact ⟨rfl, ga.trans g2⟩
set_option maxRecDepth 100000 in
theorem Map_full (h : OwnL w mb F N S L) (a n perm : Int) (ha : U4 a) (hn : U4 n) (hs : StOk a n) (hp : 0 ≤ perm ∧ perm ≤ 7) (c : Nat) (hc : (n + 255) / 256 = c) (f : Int) (hf : a / 256 = f) (i : Nat) (hi : lb S.th f = i) (hi2 : lb S.th (f + c) = i) (hb : S.budget < (S.th.length : Int) + c) :
    Calls Try.prog 24 #[.pointer (some ⟨mb, 0, none⟩), .int .u32 a, .int .u32 n, .int .i64 perm] w fun e w' => e = .returned (.int .i64 6) ∧ Gr w w' := by
  have hst := stretch_ok a n ha hn hs
  have hgo := goodPerm_c perm
  rw [show decide (0 ≤ perm ∧ perm ≤ 7) = true by simpa using hp] at hgo
  obtain ⟨_, _, hs3⟩ := hs
  obtain ⟨a0, a1⟩ := ha
  obtain ⟨n0, n1⟩ := hn
  rw [hc, hf] at hst hs3
  have f0 : 0 ≤ f := by omega
  have f1 : f ≤ 16777216 := by omega
  have hbud := h.ok.budget
  have hlen : S.th.length ≤ 4096 := by have := h.ok.len; omega
  obtain ⟨q, cap, hv⟩ := row_shape h.row
  clear hp hc hf
  go_enter Try.func24, Try.ntmps24
  go_wp2_with fail
  refine (hst _).mono ?_
  rintro e w1 ⟨rfl, g1⟩
  go_wp2_with fail
  refine (hgo _).mono ?_
  rintro e w1 ⟨rfl, rfl⟩
  go_wp2_with fail
  have ga : Gr w (w1.alloc (.cells #[.int .u32 f, .int .u32 c] 81)) := g1.alloc _ _
  refine (among_c (h.gr ga) f c ⟨f0, f1⟩ ⟨by omega, by omega⟩).mono ?_
  rw [hi, hi2]
  rintro e w2 ⟨rfl, g2⟩
  have g3 := ga.trans g2
  have h2 := h.gr g3
  have c0 := h2.c0
  have c1 := h2.c1
  rw [hv] at c1
  have s0 : w2.cell? ⟨w1.heap.size, 0, none⟩ = some (.int .u32 f) := g2.keep (by simp)
  have s1 : w2.cell? ⟨w1.heap.size, 1, none⟩ = some (.int .u32 c) := g2.keep (by simp)
  go_wp2_with fail
  go_quiet (fail)
  go_wp2_with fail
  go_returns
  exact ⟨rfl, g3.drewN _⟩

def MS.mapE (S : MS) (a n perm : Int) : Int :=
  if (n ≠ 0 ∧ a % 256 = 0 ∧ a / 256 + (n + 255) / 256 ≤ 16777216) ∧ 0 ≤ perm ∧ perm ≤ 7 then
    (if lb S.th (a / 256) = lb S.th (a / 256 + (n + 255) / 256) then (if S.budget < (S.th.length : Int) + (n + 255) / 256 then 6 else 0) else 5)
  else 1
def MS.mapS (S : MS) (a n perm : Int) : MS := if S.mapE a n perm = 0 then S.map (a / 256) ((n + 255) / 256).toNat perm else S

theorem Own.add (h : Own w mb F N S) {w' : World} {M : Nat} (g : Gr w w') (hN : N ≤ M) : Own w' mb (Add F w w') M S := by
  obtain ⟨L, h⟩ := h
  exact ⟨L, (h.gr g).mono (fun i hi => .inl hi) (fun i hi => hi.elim (fun x => (h.gr g).lt i x) (fun x => x.2)) hN⟩
theorem Map_c (h : Own w mb F N S) (a n perm : Int) (ha : U4 a) (hn : U4 n) (hN : N + 4096 < maxLen) (hI : S.mapE a n perm = 0 → InsSpec S.th (lb S.th (a / 256))) :
    Calls Try.prog 24 #[.pointer (some ⟨mb, 0, none⟩), .int .u32 a, .int .u32 n, .int .i64 perm] w fun e w' => e = .returned (.int .i64 (S.mapE a n perm)) ∧ Fr F w w' ∧ Own w' mb (Add F w w') (N + 4096) (S.mapS a n perm) := by
  have h' := h
  obtain ⟨L, h⟩ := h
  have fin : ∀ x, S.mapE a n perm = x → x ≠ 0 → Calls Try.prog 24 #[.pointer (some ⟨mb, 0, none⟩), .int .u32 a, .int .u32 n, .int .i64 perm] w (fun e w' => e = .returned (.int .i64 x) ∧ Gr w w') →
      Calls Try.prog 24 #[.pointer (some ⟨mb, 0, none⟩), .int .u32 a, .int .u32 n, .int .i64 perm] w (fun e w' => e = .returned (.int .i64 (S.mapE a n perm)) ∧ Fr F w w' ∧ Own w' mb (Add F w w') (N + 4096) (S.mapS a n perm)) := by
    intro x hx nx hcall
    refine hcall.mono (fun e w' ⟨he, hg⟩ => ?_)
    rw [hx, show S.mapS a n perm = S by simp [MS.mapS, hx, nx]]
    exact ⟨he, hg.fr _, h'.add hg (by omega)⟩
  by_cases hk : StOk a n ∧ 0 ≤ perm ∧ perm ≤ 7
  · obtain ⟨c, hc⟩ : ∃ c : Nat, (n + 255) / 256 = c := ⟨((n + 255) / 256).toNat, by unfold U4 at hn; omega⟩
    have hk' := hk
    obtain ⟨hk1, hk2⟩ := hk
    unfold StOk at hk'
    by_cases hi : lb S.th (a / 256) = lb S.th (a / 256 + (n + 255) / 256)
    · by_cases hb : S.budget < (S.th.length : Int) + (n + 255) / 256
      · have e6 : S.mapE a n perm = 6 := by unfold MS.mapE; rw [if_pos hk', if_pos hi, if_pos hb]
        exact fin 6 e6 (by omega) (Map_full h a n perm ha hn hk1 hk2 c hc _ rfl _ hi (by rw [← hc]) (by rw [← hc]; exact hb))
      · have e0 : S.mapE a n perm = 0 := by unfold MS.mapE; rw [if_pos hk', if_pos hi, if_neg hb]
        have hb2 : (S.th.length : Int) + c ≤ S.budget := by rw [← hc]; omega
        have hbud := h.ok.budget
        have hc4 : c ≤ 4096 := by omega
        have es : S.mapS a n perm = S.map (a / 256) c perm := by simp only [MS.mapS, e0, if_pos]; rw [hc]; simp
        rw [e0, es]
        refine (Map_ok h a n perm ha hn hk1 hk2 c hc _ rfl _ rfl (by rw [← hc]; exact hi.symm) hb2 (by omega) (hI e0)).mono (fun e w' ⟨h1, h2, h3⟩ => ⟨h1, h2, ?_⟩)
        obtain ⟨L', h3⟩ := h3
        exact ⟨L', h3.mono (fun _ x => x) h3.lt (by omega)⟩
    · have e5 : S.mapE a n perm = 5 := by unfold MS.mapE; rw [if_pos hk', if_neg hi]
      exact fin 5 e5 (by omega) (Map_there h a n perm ha hn hk1 hk2 c hc _ rfl (by rw [← hc]; exact hi))
  · have e1 : S.mapE a n perm = 1 := by unfold MS.mapE; rw [if_neg (by unfold StOk at hk; exact hk)]
    refine fin 1 e1 (by omega) (Map_bad a n perm ha hn ?_)
    by_cases x : StOk a n
    · exact .inr (fun y => hk ⟨x, y⟩)
    · exact .inl x
end
end Go.Proofs.Ythicidkjhpnleaa
