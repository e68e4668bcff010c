/- THE WALKS OF LAYER 3: Map. -/
import Derived.Test.YthicidkjhpnleaaMemMap
namespace Go.Proofs.Ythicidkjhpnleaa
open Go.ChangeShapes Go.WideShapes Go.ChangeAt Go.RowKit
set_option linter.unusedSimpArgs false
set_option linter.unusedVariables false

section
variable {w : World} {mb : Nat} {F : Nat → Prop} {N : Nat} {S : MS} {L : Lay}
set_option maxRecDepth 100000 in
set_option maxHeartbeats 2000000 in
theorem Map_ok (h : OwnL w mb F N S L) (a n perm : Int) (ha : U4 a) (hn : U4 n) (hs : n ≠ 0 ∧ a % 256 = 0 ∧ a / 256 + (n + 255) / 256 ≤ 16777216) (hp : 0 ≤ perm ∧ perm ≤ 7)
    (c : Nat) (hc : (n + 255) / 256 = c) (f : Int) (hf : a / 256 = f) (i : Nat) (hi : lb S.th f = i) (hi2 : lb S.th (f + c) = i) (hb : (S.th.length : Int) + c ≤ S.budget) (hN : N + c < maxLen) (hI : InsSpec S.th i) :
    Calls Try.prog 24 #[.pointer (some ⟨mb, 0, none⟩), .int .u32 a, .int .u32 n, .int .i64 perm] w fun e w' => e = .returned (.int .i64 0) ∧ Fr F w w' ∧ Own w' mb (Add F w w') (N + c) (S.map f c perm) := by
  have hst := stretch_ok a n ha hn hs
  rw [hc, hf] at hst
  have hdp : decide (0 ≤ perm ∧ perm ≤ 7) = true := by simpa using hp
  have hbud := h.ok.budget
  have hc0 : 1 ≤ c := by obtain ⟨h1, _⟩ := hs; unfold U4 at hn; omega
  have hf0 : 0 ≤ f ∧ f + c ≤ 16777216 := by unfold U4 at ha; omega
  have hmk := run_make_row' (P := Try.prog) 38 24 (.int .u32 0) 4 Try.underlying38 infoU rfl .u32 .u32 c (by omega) (by omega)
  obtain ⟨f0, f1⟩ := hf0
  have hgo := goodPerm_c perm
  rw [hdp] at hgo
  have HP : Hid _ := hp
  have HB : Hid _ := hb
  clear hs hdp hp ha hn hc hf
  have hmb := h.lt _ h.Fm
  have hlen : S.th.length ≤ 4096 := by omega
  obtain ⟨q, cap, hv⟩ := row_shape h.row
  have hb' : ¬ S.budget < (S.th.length : Int) + c := by omega
  clear hb
  go_enter Try.func24, Try.ntmps24
  go_wp2_with fail
  refine (hst _).mono ?_
  rintro e w1 ⟨rfl, g1⟩
  go_wp2_with fail
  refine (hgo _).mono ?_
  rintro e w1 ⟨rfl, rfl⟩
  go_wp2_with fail
  have ga : Gr w (w1.alloc (.cells #[.int .u32 f, .int .u32 c] 81)) := g1.alloc _ _
  refine (among_c (h.gr ga) f c ⟨f0, by omega⟩ ⟨by omega, by omega⟩).mono ?_
  rw [hi, hi2]
  rintro e w2 ⟨rfl, g2⟩
  have g3 := ga.trans g2
  have h2 := h.gr g3
  have c0 := h2.c0
  have c1 := h2.c1
  rw [hv] at c1
  have s0 : w2.cell? ⟨w1.heap.size, 0, none⟩ = some (.int .u32 f) := g2.keep (by simp)
  have s1 : w2.cell? ⟨w1.heap.size, 1, none⟩ = some (.int .u32 c) := g2.keep (by simp)
  go_wp2_with fail
  go_quiet (fail)
  go_wp2_with fail
  have lp := h2.lt _ h2.Fp
  have lg := h2.lt _ h2.Fg
  have lm2 := h2.lt _ h2.Fm
  have lm0 := h.lt _ h.Fp
  have lm1 := h.lt _ h.Fg
  have zs1 := g1.size
  have zs2 := g2.size
  simp only [World.size_alloc] at zs2
  obtain ⟨ep, cp, op⟩ := h2.pm.isMapObj
  obtain ⟨eg, cg, og⟩ := h2.gm.isMapObj
  have nmp : mb ≠ L.bp := fun e => by rw [← e, h2.top] at op; simp at op
  have nmg : mb ≠ L.bg := fun e => by rw [← e, h2.top] at og; simp at og
  have FIN := fun wr w5 v' => @Map_fin w w2 wr w5 mb F N S L f c perm v' h2 (g3.fr F) HP.out ⟨f0, f1⟩ (hi.trans hi2.symm) HB.out
  go_loopw [56] (fun x wr => ∃ m : Nat, m ≤ c ∧ x = .int .i64 m ∧ MapRel w2 L N S.gone f c perm m wr) (fun x _ => c - (intOf x).toNat)
  case atStart =>
    refine ⟨0, Nat.zero_le _, rfl, ?_, ?_, ⟨L.bk, ?_, fun _ _ => rfl, fun k hk => by omega, fun k k' b hk => by omega⟩, ?_⟩
    · exact ((Fr.refl _ _).alloc _ _).drewN _
    · rw [← laid_zero]; exact heap_alloc_new w2 _
    · exact h2.pm.congr (Below.heap_alloc _ _ _ lp)
    · have e0 : (fun k => if f ≤ k ∧ k < f + ((0 : Nat) : Int) then 0 else S.gone k) = S.gone := by
        funext k; rw [if_neg (by omega)]
      rw [e0]
      exact h2.gm.congr (Below.heap_alloc _ _ _ lg)
  case round =>
    obtain ⟨m, hm, rfl, hR⟩ := hrel
    have sr0 : wr.cell? ⟨w1.heap.size, 0, none⟩ = some (.int .u32 f) := by
      rw [hR.fr.cell (p := ⟨w1.heap.size, 0, none⟩) (by show w1.heap.size < _; omega) (by show ¬ (w1.heap.size = _ ∨ w1.heap.size = _); omega)]; exact s0
    by_cases hmc : m = c
    · subst hmc
      have hrow := row_congr h2.row (w' := wr) (fun g hg => hR.fr.block g (h2.lt _ (h2.Fv g hg)) (by
        obtain ⟨cc, oc⟩ := row_obj h2.row hg
        rintro (e | e)
        · rw [← e, oc] at op; simp at op
        · rw [← e, oc] at og; simp at og))
      have hnb : L.v.ownBlock ≠ some w2.heap.size := fun e => by have := h2.lt _ (h2.Fv _ e); omega
      have hins := hI wr L.v w2.heap.size (news f m) (fun e => by have := news_length f m; rw [e] at this; simp at this; omega) (by rw [news_length]; omega) hrow (by rw [hR.laid, laid_all]) hnb
      rw [news_length, hv] at hins
      have kr1 : wr.cell? ⟨mb, 1, none⟩ = some (.slice q S.th.length cap) := by
        rw [hR.fr.cell (p := ⟨mb, 1, none⟩) lm2 (by show ¬ (mb = _ ∨ mb = _); simp [nmp, nmg])]; exact c1
      go_wp2_with fail
      refine hins.mono ?_
      rintro e w5 ⟨v', rfl, rw5, fr5, at5⟩
      obtain ⟨q', cap', rfl⟩ := row_shape rw5
      rw [← hv] at fr5 at5
      have top5 : w5.heap[mb]? = some (.cells #[.int .i64 S.budget, L.v, .map (some L.bp), .map (some L.bg)] 60 (0, 0)) := by
        rw [fr5.block mb (Nat.lt_of_lt_of_le lm2 hR.fr.size) (fun e => by obtain ⟨cc, oc⟩ := row_obj h2.row e; rw [h2.top] at oc; simp at oc), hR.fr.block mb lm2 (by simp [nmp, nmg])]; exact h2.top
      have k5 : w5.cell? ⟨mb, 1, none⟩ = some L.v := by simp [World.cell?, top5]
      have z5 : w5.frozen? ⟨mb, 1, none⟩ = false := by simp [World.frozen?, top5]
      have HF := FIN wr w5 _ hR (by rw [hi]; exact rw5) fr5 at5
      clear FIN hins rw5 fr5 at5 hrow kr1 top5
      go_wp2_with fail
      go_returns
      exact ⟨rfl, HF.1, HF.2⟩
    · have hlt : (m : Int) < (c : Int) := by omega
      have hlt' : m < c := by omega
      clear hmc hm
      have hcell := cell_of_row wr w2.heap.size m _ _ _ hR.laid
      rw [laid_at hlt'] at hcell
      have hfz : wr.frozen? ⟨w2.heap.size, m, none⟩ = false := by simp [World.frozen?, hR.laid]
      obtain ⟨bk', p1, p2, p3, p4⟩ := hR.pm
      have hne : ∀ i, i < w2.heap.size → (wr.setCell ⟨w2.heap.size, m, none⟩ (.int .u32 (f + m))).heap[i]? = wr.heap[i]? := fun i hi => Below.heap_setCell _ _ _ _ (by show i ≠ w2.heap.size; omega)
      have k2 : (wr.setCell ⟨w2.heap.size, m, none⟩ (.int .u32 (f + m))).cell? ⟨mb, 2, none⟩ = some (.map (some L.bp)) := by
        rw [World.cell?_of_block (w := wr) (hne mb lm2), hR.fr.cell (p := ⟨mb, 2, none⟩) lm2 (by show ¬ (mb = _ ∨ mb = _); simp [nmp, nmg])]; exact h2.c2
      have k3 : (wr.setCell ⟨w2.heap.size, m, none⟩ (.int .u32 (f + m))).cell? ⟨mb, 3, none⟩ = some (.map (some L.bg)) := by
        rw [World.cell?_of_block (w := wr) (hne mb lm2), hR.fr.cell (p := ⟨mb, 3, none⟩) lm2 (by show ¬ (mb = _ ∨ mb = _); simp [nmp, nmg])]; exact h2.c3
      have hlay := lay_c k2 k3 (p1.congr (hne _ lp)) (hR.gm.congr (hne _ lg)) h2.ne (by omega) (f + m) perm ⟨by omega, by omega⟩
      go_wp2_with fail
      refine hlay.mono ?_
      rintro e w4 ⟨rfl, b, b1, b2, fr4, P4, G4, I4⟩
      have hg0 : (if f ≤ f + (m : Int) ∧ f + (m : Int) < f + (m : Int) then 0 else S.gone (f + m)) = S.gone (f + m) := if_neg (by omega)
      rw [hg0] at I4
      have HS := MapRel.step hlt' lp lg hR.fr hR.laid p2 p3 p4 b1 b2 fr4 P4 G4 I4
      clear hlay p1 p2 p3 p4 P4 G4 I4 k2 k3 hcell hfz fr4 b1 b2 hg0
      go_wp2_with fail
      go_roundw
      case rel => exact ⟨m + 1, by omega, by simp, HS⟩
      case measure => simp [intOf]; omega
end
end Go.Proofs.Ythicidkjhpnleaa
