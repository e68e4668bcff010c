/- THE WALKS OF LAYER 3: Perm, Gen, Pages. -/
import Derived.Test.YthicidkjhpnleaaMemW7
namespace Go.Proofs.Ythicidkjhpnleaa
open Go.ChangeShapes Go.WideShapes Go.ChangeAt Go.RowKit
set_option linter.unusedSimpArgs false
set_option linter.unusedVariables false

def MS.permOf (S : MS) (a : Int) : Int := match S.pg (a / 256) with | some p => p.perm | none => 0
def MS.gen (S : MS) (a : Int) : Int := match S.pg (a / 256) with | some p => p.gen | none => S.gone (a / 256)
section
variable {w : World} {mb : Nat} {F : Nat → Prop} {N : Nat} {S : MS} {L : Lay}
theorem Perm_c (h : OwnL w mb F N S L) (a : Int) (ha : U4 a) :
    Calls Try.prog 12 #[.pointer (some ⟨mb, 0, none⟩), .int .u32 a] w fun e w' => e = .returned (.tuple #[.int .i64 (S.permOf a), .bool (S.pg (a / 256)).isSome]) ∧ w' = w := by
  have c2 := h.c2
  obtain ⟨a0, a1⟩ := ha
  have hl := h.pm.look (k := a / 256) ⟨by omega, by omega⟩
  unfold MS.permOf
  cases hp : S.pg (a / 256) with
  | none =>
    rw [h.bnone hp] at hl
    simp only [pv, Option.isSome] at hl ⊢
    clear hp
    go_enter Try.func12, Try.ntmps12
    go_wp2
    go_returns
    exact ⟨rfl, rfl⟩
  | some p =>
    obtain ⟨b, hb, hq, hF⟩ := h.pgb hp
    rw [hb] at hl
    have hc := hq.perm
    simp only [pv, Option.isSome] at hl ⊢
    clear hp hb
    go_enter Try.func12, Try.ntmps12
    go_wp2
    go_returns
    exact ⟨rfl, rfl⟩
/-- The list that Pages fills, behind m of its numbers. -/
def pgArr (th : List Int) (m : Nat) : Array Value := ((List.range th.length).map (fun j : Nat => Value.int .u32 (if j < m then 256 * th[j]?.getD 0 else 0))).toArray
theorem pgArr_at {th : List Int} {m j : Nat} (h : j < th.length) : (pgArr th m)[j]? = some (.int .u32 (if j < m then 256 * th[j]?.getD 0 else 0)) := by
  simp [pgArr, h]
theorem pgArr_set {th : List Int} {m : Nat} (h : m < th.length) {x : Int} (hx : x = 256 * th[m]?.getD 0) : (pgArr th m).setIfInBounds m (.int .u32 x) = pgArr th (m + 1) := by
  subst hx
  apply Array.ext_getElem?
  intro j
  by_cases hj : j < th.length
  · rw [Array.getElem?_setIfInBounds]
    by_cases e : m = j
    · subst e; simp [pgArr, h]
    · rw [if_neg e, pgArr_at hj, pgArr_at hj]
      by_cases e2 : j < m
      · rw [if_pos e2, if_pos (by omega)]
      · rw [if_neg e2, if_neg (by omega)]
  · have s1 : (pgArr th m).size = th.length := by simp [pgArr]
    have s2 : (pgArr th (m + 1)).size = th.length := by simp [pgArr]
    rw [Array.getElem?_eq_none (by simp [s1]; omega), Array.getElem?_eq_none (by omega)]
theorem pgArr_zero (th : List Int) : madeCells #[Value.int .u32 0] th.length = pgArr th 0 := by
  apply Array.ext'
  rw [toList_madeCells_one]
  unfold pgArr
  apply List.ext_getElem?
  intro j
  by_cases hj : j < th.length
  · simp [List.getElem?_replicate, hj]
  · simp [List.getElem?_replicate, hj]
theorem pgArr_all (th : List Int) : (pgArr th th.length).toList = th.map (fun k => Value.int .u32 (256 * k)) := by
  unfold pgArr
  apply List.ext_getElem?
  intro j
  by_cases hj : j < th.length
  · simp [hj]
  · simp [hj]

set_option maxHeartbeats 1000000 in
theorem Pages_c (h : OwnL w mb F N S L) :
    Calls Try.prog 13 #[.pointer (some ⟨mb, 0, none⟩)] w fun e w' => e = .returned (.slice (some ⟨w.heap.size, 0, none⟩) S.th.length S.th.length) ∧ Gr w w' ∧ w'.heap[w.heap.size]? = some (.cells (pgArr S.th S.th.length) 24 (0, 0)) := by
  have c1 := h.c1
  have hbud := h.ok.budget
  have hlen : S.th.length ≤ 4096 := by have := h.ok.len; omega
  have hmb := h.lt _ h.Fm
  have hmk := run_make_row' (P := Try.prog) 38 24 (.int .u32 0) 4 Try.underlying38 infoU rfl .i64 .i64 S.th.length (by omega) (by omega)
  have hmb2 : (w.alloc (.cells (madeCells #[Value.int .u32 0] S.th.length) 24)).cell? ⟨mb, 1, none⟩ = some L.v := by
    rw [((Gr.refl w).alloc _ _).cell mb 1 hmb]; exact c1
  have rng := h.ok.rng
  obtain ⟨n, hn⟩ : ∃ n, n = S.th.length := ⟨_, rfl⟩
  rcases row_cells h.row with ⟨hnil, hv⟩ | ⟨g, cap, hv, hc⟩
  · rw [hv] at c1 hmb2
    rw [hnil] at hmk hmb2 ⊢
    have hmk0 : ∀ w, (Instr.makeSlice 38 (.int .i64 0) (.int .i64 0)).run Try.prog w = .ok (.slice (some ⟨w.heap.size, 0, none⟩) 0 0) (w.alloc (.cells (madeCells #[.int .u32 0] 0) 24)) := hmk
    have hmb0 : (w.alloc (.cells (madeCells #[Value.int .u32 0] 0) 24)).cell? ⟨mb, 1, none⟩ = some (.slice none 0 0) := hmb2
    clear hmk hmb2
    go_enter Try.func13, Try.ntmps13
    go_wp2_with fail
    refine wp_loop_rounds 1 ?_
    rw [rounds_succ]; go_wp2_with fail
    go_ret
    refine ⟨rfl, (Gr.refl w).alloc _ _, ?_⟩
    rw [show pgArr [] 0 = madeCells #[Value.int .u32 0] 0 from (pgArr_zero []).symm]
    exact heap_alloc_new w _
  · rw [hv] at c1 hmb2
    have gl : 0 < S.th.length → g < w.heap.size := fun h0 => World.block_lt_of_cell? w ⟨g, 0, none⟩ (hc 0 h0)
    have PZ := pgArr_zero S.th
    rw [← hn] at hmk c1 hmb2 hlen PZ
    rw [← hn]
    have HN : Hid (n = S.th.length) := hn
    clear hn
    go_enter Try.func13, Try.ntmps13
    go_wp2_with fail
    go_loopw [17] (fun x wr => ∃ m : Nat, m ≤ n ∧ x = .int .i64 m ∧ Gr w wr ∧ wr.heap[w.heap.size]? = some (.cells (pgArr S.th m) 24 (0, 0))) (fun x _ => n - (intOf x).toNat)
    case atStart =>
      refine ⟨0, Nat.zero_le _, rfl, (Gr.refl w).alloc _ _, ?_⟩
      rw [← PZ]; exact heap_alloc_new w _
    case round =>
      obtain ⟨m, hm, rfl, hg, hb⟩ := hrel
      by_cases hmc : m = n
      · subst hmc
        go_wp2_with fail
        go_ret
        exact ⟨rfl, hg, hb⟩
      · have hlt : (m : Int) < (n : Int) := by omega
        have hlt2 : m < S.th.length := by have := HN.out; omega
        have hd := hc m hlt2
        rw [← hg.cell g m (gl (by omega))] at hd
        have hk := rng (S.th[m]?.getD 0) (by simp [hlt2])
        obtain ⟨hk0, hk1⟩ := hk
        have hcell := cell_of_row wr w.heap.size m _ _ _ hb
        rw [pgArr_at hlt2] at hcell
        have hfz : wr.frozen? ⟨w.heap.size, m, none⟩ = false := by simp [World.frozen?, hb]
        obtain ⟨k, hk⟩ : ∃ k, k = S.th[m]?.getD 0 := ⟨_, rfl⟩
        rw [← hk] at hd hk0 hk1
        have HK : Hid _ := hk
        clear hmc hk
        go_wp2_with fail
        go_roundw
        case rel =>
          refine ⟨m + 1, by omega, by simp, hg.setCell (Nat.le_refl _) _, ?_⟩
          rw [heap_setCell_same hb, pgArr_set hlt2 (by rw [← HK.out]; omega)]
        case measure => simp [intOf]; omega
end
end Go.Proofs.Ythicidkjhpnleaa
