/- THE WALKS OF LAYER 3: a row's bytes, page by page. -/
import Derived.Test.YthicidkjhpnleaaMemW1
import Derived.Test.YthicidkjhpnleaaMemRow
import Derived.Laws.CopyRow
namespace Go.Proofs.Ythicidkjhpnleaa
open Go.ChangeShapes Go.WideShapes Go.ChangeAt Go.RowKit
set_option linter.unusedSimpArgs false
set_option linter.unusedVariables false

/-- How many pages n bytes from a on take up; from where to where in the j-th of them. -/
def cnt (a : Int) (n : Nat) : Nat := if n = 0 then 0 else ((a % 256).toNat + n + 255) / 256
def pFrom (a : Int) (j : Nat) : Int := if j = 0 then a % 256 else 0
def pTo (a : Int) (n j : Nat) : Int := if a % 256 + n ≤ 256 * (j : Int) + 256 then a % 256 + n - 256 * j else 256
def partOf (L : Lay) (a : Int) (n j : Nat) : List Value := [pv (L.bk (a / 256 + j)), .int .i64 (pFrom a j), .int .i64 (pTo a n j)]
def rowP (L : Lay) (a : Int) (n : Nat) : Nat → List Value
  | 0 => []
  | j + 1 => rowP L a n j ++ partOf L a n j
def MayAt (S : MS) (a need : Int) (j : Nat) : Prop := ∃ p, S.pg (a / 256 + j) = some p ∧ (bits .and .i64 p.perm need == need) = true
def May (S : MS) (a : Int) (n : Nat) (need : Int) : Prop := a + n ≤ 4294967296 ∧ ∀ j, j < cnt a n → MayAt S a need j
theorem infoP : (Try.prog.info? 74).map (fun i => (i.zero, i.size, i.bytes)) = some (some (.agg #[.pointer none, .int .i64 0, .int .i64 0]), 3, 24) := by kernel_rfl

/-- Where the loop stands at its j-th round. -/
structure PRel (w : World) (L : Lay) (S : MS) (a : Int) (n : Nat) (need : Int) (j : Nat) (x r : Int) (v : Value) (wr : World) : Prop where
  jl : j ≤ cnt a n
  x0 : 0 ≤ x ∧ x < 4294967296
  on : j < cnt a n → x / 256 = a / 256 + j ∧ x % 256 = pFrom a j ∧ r = (if j = 0 then (n : Int) else a % 256 + n - 256 * j) ∧ 0 < r
  off : j = cnt a n → r = 0
  row : wr.ownsRow 0 74 3 v j (rowP L a n j)
  blk : ∀ g, v.ownBlock = some g → w.heap.size ≤ g
  gr : Gr w wr
  may : ∀ i, i < j → MayAt S a need i

theorem cell_three_new (w : World) (x y z : Value) (t : TypeId) : ∀ j u, [x, y, z][j]? = some u → (w.alloc (.cells #[x, y, z] t)).cell? ((⟨w.heap.size, 0, none⟩ : Addr).add j) = some u := by
  have := news_of (heap_alloc_new w (.cells #[x, y, z] t))
  simpa using this
theorem one3 {p : Option Addr} {x y : Int} : ∀ u ∈ [Value.pointer p, .int .i64 x, .int .i64 y], u.oneCell' = true := by
  intro u hu
  simp at hu
  rcases hu with rfl | rfl | rfl <;> rfl
theorem hfr_gr {w wr w4 : World} {o : Array Value} {t : TypeId} {v : Value} (g : Gr w wr) (hb : ∀ k, v.ownBlock = some k → w.heap.size ≤ k) (fr : Fr (fun k => v.ownBlock = some k) (wr.alloc (.cells o t)) w4) : Gr w w4 :=
  (((g.alloc o t).fr (fun k => v.ownBlock = some k)).trans fr (fun _ _ h => h)).gr (fun i hi e => by have := hb i e; omega)
theorem cnt_lt {a : Int} {n j : Nat} (h : j < cnt a n) : 0 < n ∧ 256 * (j : Int) < a % 256 + n := by
  unfold cnt at h
  split at h
  · omega
  · refine ⟨by omega, ?_⟩
    have h0 : 0 ≤ a % 256 := by omega
    omega
theorem cnt_next {a : Int} {n j : Nat} (h : j < cnt a n) : j + 1 < cnt a n ↔ 256 * (j : Int) + 256 < a % 256 + n := by
  have hp := cnt_lt h
  unfold cnt at h ⊢
  rw [if_neg (by omega)] at h ⊢
  have h0 : 0 ≤ a % 256 := by omega
  omega
theorem PRel.step {w wr w4 : World} {L : Lay} {S : MS} {a : Int} {n : Nat} {need : Int} {j : Nat} {x r : Int} {v v' : Value} (h : PRel w L S a n need j x r v wr) (hj : j < cnt a n) (hbig : a + n ≤ 4294967296) {b : Nat} (hb : L.bk (x / 256) = some b)
    {to x' r' : Int} (hto : to = if x % 256 + r ≤ 256 then x % 256 + r else 256) (hx' : x' = (x + (to - x % 256)) % 4294967296) (hr' : r' = r - (to - x % 256)) (a0 : 0 ≤ a)
    (row : w4.ownsRow 0 74 3 v' (j + 1) (rowP L a n j ++ [.pointer (some ⟨b, 0, none⟩), .int .i64 (x % 256), .int .i64 to])) (blk : ∀ g, v'.ownBlock = some g → w.heap.size ≤ g) (gr : Gr w w4) (hat : MayAt S a need j) :
    PRel w L S a n need (j + 1) x' r' v' w4 := by
  obtain ⟨e1, e2, e3, e4⟩ := h.on hj
  have hp := cnt_lt hj
  have hnx := cnt_next hj
  have key : x % 256 + r = a % 256 + n - 256 * (j : Int) := by
    rw [e2, e3]; unfold pFrom; split <;> omega
  have hx0 := h.x0
  have hpt : pTo a n j = to := by
    unfold pTo
    rw [hto]
    by_cases c : x % 256 + r ≤ 256
    · rw [if_pos c, if_pos (by omega)]; omega
    · rw [if_neg c, if_neg (by omega)]
  refine ⟨by omega, ?_, fun hc => ?_, fun hc => ?_, ?_, blk, gr, fun i hi => ?_⟩
  · rw [hx']; omega
  · have hc2 := hnx.1 hc
    rw [if_neg (by omega)] at hto
    subst hto
    have : x' = x + (256 - x % 256) := by rw [hx']; omega
    refine ⟨by omega, ?_, ?_, by omega⟩
    · unfold pFrom; rw [if_neg (by omega)]; omega
    · rw [if_neg (by omega)]; omega
  · have hc2 : ¬ (256 * (j : Int) + 256 < a % 256 + n) := fun x => by have := hnx.2 x; omega
    rw [if_pos (by omega)] at hto
    omega
  · have : rowP L a n (j + 1) = rowP L a n j ++ [.pointer (some ⟨b, 0, none⟩), .int .i64 (x % 256), .int .i64 to] := by
      show rowP L a n j ++ partOf L a n j = _
      unfold partOf
      rw [← e1, hb, hpt, e2]; rfl
    rw [this]; exact row
  · by_cases c : i = j
    · subst c; exact hat
    · exact h.may i (by omega)

set_option maxRecDepth 100000 in
set_option maxHeartbeats 1000000 in
theorem parts_c {w : World} {mb : Nat} {F : Nat → Prop} {N : Nat} {S : MS} {L : Lay} (h : OwnL w mb F N S L) (a : Int) (n : Nat) (need : Int) (ha : U4 a) (hn : n ≤ 65536) :
    Calls Try.prog 28 #[.pointer (some ⟨mb, 0, none⟩), .int .u32 a, .int .i64 n, .int .i64 need] w fun e w' => Gr w w' ∧
      ((May S a n need ∧ ∃ v, e = .returned (.tuple #[v, .int .i64 0]) ∧ w'.ownsRow 0 74 3 v (cnt a n) (rowP L a n (cnt a n)) ∧ ∀ g, v.ownBlock = some g → w.heap.size ≤ g) ∨
       (¬ May S a n need ∧ e = .returned (.tuple #[.slice none 0 0, .int .i64 8]))) := by
  obtain ⟨a0, a1⟩ := ha
  by_cases hbig : 4294967296 < a + n
  · go_enter Try.func28, Try.ntmps28
    go_wp2_with fail
    go_returns
    exact ⟨Gr.refl _, .inr ⟨fun x => by have := x.1; omega, rfl⟩⟩
  · obtain ⟨i0, hi, hz0, hz1, hz2⟩ := info_parts infoP
    go_enter Try.func28, Try.ntmps28
    go_wp2_with fail
    go_loopw [1, 2, 10] (fun s1 s2 s10 wr => ∃ (j : Nat) (x r : Int), s1 = .int .u32 x ∧ s2 = .int .i64 r ∧ PRel w L S a n need j x r s10 wr) (fun _ s2 _ _ => (intOf s2).toNat)
    case atStart =>
      refine ⟨0, a, n, rfl, rfl, Nat.zero_le _, ⟨a0, a1⟩, fun hc => ?_, fun hc => ?_, World.ownsRow_nil _ _ _ _, fun g hg => by simp [Value.ownBlock] at hg, Gr.refl _, fun i hi => by omega⟩
      · refine ⟨by simp, by simp [pFrom], by simp, ?_⟩
        unfold cnt at hc
        split at hc
        · omega
        · omega
      · unfold cnt at hc
        split at hc
        · omega
        · omega
    case round =>
      obtain ⟨j, x, r, rfl, rfl, hR⟩ := hrel
      have hx := hR.x0
      by_cases hj : j = cnt a n
      · have hr := hR.off hj
        subst hr
        have fin := hR.row
        rw [hj] at fin
        have hmay : May S a n need := ⟨by omega, by rw [← hj]; exact hR.may⟩
        have FIN : Hid _ := fin
        have HM : Hid _ := hmay
        clear hmay fin
        go_wp2_with fail
        go_returns
        exact ⟨hR.gr, .inl ⟨HM.out, _, rfl, FIN.out, hR.blk⟩⟩
      · have hjl : j < cnt a n := by have := hR.jl; omega
        obtain ⟨e1, e2, e3, e4⟩ := hR.on hjl
        have hr2 : r ≤ 65536 := by rw [e3]; split <;> omega
        have hro : OwnL wr mb F N S L := h.gr hR.gr
        have c2 := hro.c2
        have hl := hro.pm.look (k := x / 256) ⟨by omega, by omega⟩
        obtain ⟨hx0, hx1⟩ := hx
        cases hpg : S.pg (x / 256) with
        | none =>
          rw [hro.bnone hpg] at hl
          simp only [pv, Option.isSome] at hl
          have hno : ¬ May S a n need := fun m => by obtain ⟨p, hp, _⟩ := m.2 j hjl; rw [e1, hp] at hpg; cases hpg
          clear hpg e1 e2 e3
          go_wp2_with fail
          go_returns
          exact ⟨hR.gr, .inr ⟨hno, rfl⟩⟩
        | some p =>
          obtain ⟨b, hb, hq, hF⟩ := hro.pgb hpg
          rw [hb] at hl
          simp only [pv, Option.isSome] at hl
          by_cases hy : (bits .and .i64 p.perm need == need) = true
          · have hal := allows_c hq need
            rw [hy] at hal
            have hat : MayAt S a need j := ⟨p, by rw [← e1]; exact hpg, hy⟩
            clear hy hpg
            have hjn : j ≤ 65536 := by have := (cnt_lt hjl).2; have : a % 256 < 256 := by omega
                                       omega
            have hbig : a + n ≤ 4294967296 := by omega
            by_cases hto : x % 256 + r ≤ 256
            · have e6 : x % 256 + r ≤ 256 := hto
              obtain ⟨v', w4, hrun, hown, hfr, hloc⟩ := append_frs (t := 70) (ty := 70) (wr.alloc (.cells #[.pointer (some ⟨b, 0, none⟩), .int .i64 (x % 256), .int .i64 (x % 256 + r)] 74)) 3 (by omega) Try.underlying70 hi hz0 hz1 hz2 rfl (hR.row.alloc _) ⟨wr.heap.size, 0, none⟩ 1 1 [.pointer (some ⟨b, 0, none⟩), .int .i64 (x % 256), .int .i64 (x % 256 + r)] rfl (cell_three_new _ _ _ _ _) one3 (by omega) (by omega) (by omega)
              have ST := fun x' r' h1 h2 => @PRel.step w wr w4 L S a n need j x r _ v' hR hjl hbig b hb (x % 256 + r) x' r' (by first | rw [if_pos (by omega)] | rw [if_neg (by omega)]) h1 h2 a0 hown (fun g hg => by
                rcases hloc with e | e
                · exact hR.blk g (e.symm.trans hg)
                · rw [e] at hg; cases hg; have := hR.gr.size; simp; omega) (hfr_gr hR.gr hR.blk hfr) hat
              clear hloc hfr hown hat hto e1 e2 e3
              go_wp2_with fail
              refine hal.mono ?_
              rintro e w1 ⟨rfl, rfl⟩
              go_wp2_with (first | (at_builtin; refine wpList_append_eq rfl _ _ 70 rfl rfl rfl hrun ?_) | go_in)
              go_roundw
              case rel => exact ⟨j + 1, _, _, rfl, rfl, ST _ _ (by omega) (by omega)⟩
              case measure => simp [intOf]; omega
            · have e6 : ¬ x % 256 + r ≤ 256 := hto
              obtain ⟨v', w4, hrun, hown, hfr, hloc⟩ := append_frs (t := 70) (ty := 70) (wr.alloc (.cells #[.pointer (some ⟨b, 0, none⟩), .int .i64 (x % 256), .int .i64 256] 74)) 3 (by omega) Try.underlying70 hi hz0 hz1 hz2 rfl (hR.row.alloc _) ⟨wr.heap.size, 0, none⟩ 1 1 [.pointer (some ⟨b, 0, none⟩), .int .i64 (x % 256), .int .i64 256] rfl (cell_three_new _ _ _ _ _) one3 (by omega) (by omega) (by omega)
              have ST := fun x' r' h1 h2 => @PRel.step w wr w4 L S a n need j x r _ v' hR hjl hbig b hb 256 x' r' (by first | rw [if_pos (by omega)] | rw [if_neg (by omega)]) h1 h2 a0 hown (fun g hg => by
                rcases hloc with e | e
                · exact hR.blk g (e.symm.trans hg)
                · rw [e] at hg; cases hg; have := hR.gr.size; simp; omega) (hfr_gr hR.gr hR.blk hfr) hat
              clear hloc hfr hown hat hto e1 e2 e3
              go_wp2_with fail
              refine hal.mono ?_
              rintro e w1 ⟨rfl, rfl⟩
              go_wp2_with (first | (at_builtin; refine wpList_append_eq rfl _ _ 70 rfl rfl rfl hrun ?_) | go_in)
              go_roundw
              case rel => exact ⟨j + 1, _, _, rfl, rfl, ST _ _ (by omega) (by omega)⟩
              case measure => simp [intOf]; omega
          · replace hy : (bits .and .i64 p.perm need == need) = false := by simpa using hy
            have hal := allows_c hq need
            rw [hy] at hal
            have hno : ¬ May S a n need := fun m => by
              obtain ⟨p', hp, hp2⟩ := m.2 j hjl
              rw [← e1, hpg] at hp; cases hp; rw [hy] at hp2; cases hp2
            clear hpg e1 e2 e3 hy
            go_wp2_with fail
            refine hal.mono ?_
            rintro e w1 ⟨rfl, rfl⟩
            go_wp2_with fail
            go_returns
            exact ⟨hR.gr, .inr ⟨hno, rfl⟩⟩
end Go.Proofs.Ythicidkjhpnleaa
