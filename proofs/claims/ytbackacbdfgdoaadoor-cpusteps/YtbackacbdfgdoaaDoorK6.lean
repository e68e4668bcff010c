/- THE WALKS OF LAYER 3: a row's bytes, page by page. · THE WALKS OF LAYER 3: Read. · THE WALKS OF LAYER 3: Write, Poke; Read refused. · THE LAWS OF LAYER 3: rows of bytes in a law's hands. · THE WALKS OF LAYER 3: Perm, Gen, Pages. -/
import Derived.Test.YtbackacbdfgdoaaDoorK4
import Derived.Test.YtbackacbdfgdoaaDoorK5
import Derived.Laws.CopyRow
import Derived.Laws.MakeOwn
namespace Go.Proofs.YtbackacbdfgdoaaDoor
open Go.ChangeShapes Go.WideShapes Go.ChangeAt Go.RowKit
set_option linter.unusedSimpArgs false
set_option linter.unusedVariables false

/-- How many pages n bytes from a on take up; from where to where in the j-th of them. -/
def cnt (a : Int) (n : Nat) : Nat := if n = 0 then 0 else ((a % 256).toNat + n + 255) / 256
def pFrom (a : Int) (j : Nat) : Int := if j = 0 then a % 256 else 0
def pTo (a : Int) (n j : Nat) : Int := if a % 256 + n ≤ 256 * (j : Int) + 256 then a % 256 + n - 256 * j else 256
def partOf (L : Lay) (a : Int) (n j : Nat) : List Value := [pv (L.bk (a / 256 + j)), .int .i64 (pFrom a j), .int .i64 (pTo a n j)]
def rowP (L : Lay) (a : Int) (n : Nat) : Nat → List Value
  | 0 => []
  | j + 1 => rowP L a n j ++ partOf L a n j
def MayAt (S : MS) (a need : Int) (j : Nat) : Prop := ∃ p, S.pg (a / 256 + j) = some p ∧ (bits .and .i64 p.perm need == need) = true
def May (S : MS) (a : Int) (n : Nat) (need : Int) : Prop := a + n ≤ 4294967296 ∧ ∀ j, j < cnt a n → MayAt S a need j
theorem infoP : (Tryd.prog.info? 145).map (fun i => (i.zero, i.size, i.bytes)) = some (some (.agg #[.pointer none, .int .i64 0, .int .i64 0]), 3, 24) := by kernel_rfl

/-- Where the loop stands at its j-th round. -/
structure PRel (w : World) (L : Lay) (S : MS) (a : Int) (n : Nat) (need : Int) (j : Nat) (x r : Int) (v : Value) (wr : World) : Prop where
  jl : j ≤ cnt a n
  x0 : 0 ≤ x ∧ x < 4294967296
  on : j < cnt a n → x / 256 = a / 256 + j ∧ x % 256 = pFrom a j ∧ r = (if j = 0 then (n : Int) else a % 256 + n - 256 * j) ∧ 0 < r
  off : j = cnt a n → r = 0
  row : wr.ownsRow 0 145 3 v j (rowP L a n j)
  blk : ∀ g, v.ownBlock = some g → w.heap.size ≤ g
  gr : Gr w wr
  may : ∀ i, i < j → MayAt S a need i

theorem cell_three_new (w : World) (x y z : Value) (t : TypeId) : ∀ j u, [x, y, z][j]? = some u → (w.alloc (.cells #[x, y, z] t)).cell? ((⟨w.heap.size, 0, none⟩ : Addr).add j) = some u := by
  have := news_of (heap_alloc_new w (.cells #[x, y, z] t))
  simpa using this
theorem one3 {p : Option Addr} {x y : Int} : ∀ u ∈ [Value.pointer p, .int .i64 x, .int .i64 y], u.oneCell' = true := by
  intro u hu
  simp at hu
  rcases hu with rfl | rfl | rfl <;> rfl
theorem hfr_gr {w wr w4 : World} {o : Array Value} {t : TypeId} {v : Value} (g : Gr w wr) (hb : ∀ k, v.ownBlock = some k → w.heap.size ≤ k) (fr : Fr (fun k => v.ownBlock = some k) (wr.alloc (.cells o t)) w4) : Gr w w4 :=
  (((g.alloc o t).fr (fun k => v.ownBlock = some k)).trans fr (fun _ _ h => h)).gr (fun i hi e => by have := hb i e; omega)
theorem cnt_lt {a : Int} {n j : Nat} (h : j < cnt a n) : 0 < n ∧ 256 * (j : Int) < a % 256 + n := by
  unfold cnt at h
  split at h
  · omega
  · refine ⟨by omega, ?_⟩
    have h0 : 0 ≤ a % 256 := by omega
    omega
theorem cnt_next {a : Int} {n j : Nat} (h : j < cnt a n) : j + 1 < cnt a n ↔ 256 * (j : Int) + 256 < a % 256 + n := by
  have hp := cnt_lt h
  unfold cnt at h ⊢
  rw [if_neg (by omega)] at h ⊢
  have h0 : 0 ≤ a % 256 := by omega
  omega
theorem PRel.step {w wr w4 : World} {L : Lay} {S : MS} {a : Int} {n : Nat} {need : Int} {j : Nat} {x r : Int} {v v' : Value} (h : PRel w L S a n need j x r v wr) (hj : j < cnt a n) (hbig : a + n ≤ 4294967296) {b : Nat} (hb : L.bk (x / 256) = some b)
    {to x' r' : Int} (hto : to = if x % 256 + r ≤ 256 then x % 256 + r else 256) (hx' : x' = (x + (to - x % 256)) % 4294967296) (hr' : r' = r - (to - x % 256)) (a0 : 0 ≤ a)
    (row : w4.ownsRow 0 145 3 v' (j + 1) (rowP L a n j ++ [.pointer (some ⟨b, 0, none⟩), .int .i64 (x % 256), .int .i64 to])) (blk : ∀ g, v'.ownBlock = some g → w.heap.size ≤ g) (gr : Gr w w4) (hat : MayAt S a need j) :
    PRel w L S a n need (j + 1) x' r' v' w4 := by
  obtain ⟨e1, e2, e3, e4⟩ := h.on hj
  have hp := cnt_lt hj
  have hnx := cnt_next hj
  have key : x % 256 + r = a % 256 + n - 256 * (j : Int) := by
    rw [e2, e3]; unfold pFrom; split <;> omega
  have hx0 := h.x0
  have hpt : pTo a n j = to := by
    unfold pTo
    rw [hto]
    by_cases c : x % 256 + r ≤ 256
    · rw [if_pos c, if_pos (by omega)]; omega
    · rw [if_neg c, if_neg (by omega)]
  refine ⟨by omega, ?_, fun hc => ?_, fun hc => ?_, ?_, blk, gr, fun i hi => ?_⟩
  · rw [hx']; omega
  · have hc2 := hnx.1 hc
    rw [if_neg (by omega)] at hto
    subst hto
    have : x' = x + (256 - x % 256) := by rw [hx']; omega
    refine ⟨by omega, ?_, ?_, by omega⟩
    · unfold pFrom; rw [if_neg (by omega)]; omega
    · rw [if_neg (by omega)]; omega
  · have hc2 : ¬ (256 * (j : Int) + 256 < a % 256 + n) := fun x => by have := hnx.2 x; omega
    rw [if_pos (by omega)] at hto
    omega
  · have : rowP L a n (j + 1) = rowP L a n j ++ [.pointer (some ⟨b, 0, none⟩), .int .i64 (x % 256), .int .i64 to] := by
      show rowP L a n j ++ partOf L a n j = _
      unfold partOf
      rw [← e1, hb, hpt, e2]; rfl
    rw [this]; exact row
  · by_cases c : i = j
    · subst c; exact hat
    · exact h.may i (by omega)

set_option maxRecDepth 100000 in
set_option maxHeartbeats 1000000 in
theorem parts_c {w : World} {mb : Nat} {F : Nat → Prop} {N : Nat} {S : MS} {L : Lay} (h : OwnL w mb F N S L) (a : Int) (n : Nat) (need : Int) (ha : U4 a) (hn : n ≤ 65536) :
    Calls Tryd.prog 82 #[.pointer (some ⟨mb, 0, none⟩), .int .u32 a, .int .i64 n, .int .i64 need] w fun e w' => Gr w w' ∧
      ((May S a n need ∧ ∃ v, e = .returned (.tuple #[v, .int .i64 0]) ∧ w'.ownsRow 0 145 3 v (cnt a n) (rowP L a n (cnt a n)) ∧ ∀ g, v.ownBlock = some g → w.heap.size ≤ g) ∨
       (¬ May S a n need ∧ e = .returned (.tuple #[.slice none 0 0, .int .i64 8]))) := by
  obtain ⟨a0, a1⟩ := ha
  by_cases hbig : 4294967296 < a + n
  · go_enter Tryd.func82, Tryd.ntmps82
    go_wp2_with fail
    go_returns
    exact ⟨Gr.refl _, .inr ⟨fun x => by have := x.1; omega, rfl⟩⟩
  · obtain ⟨i0, hi, hz0, hz1, hz2⟩ := info_parts infoP
    go_enter Tryd.func82, Tryd.ntmps82
    go_wp2_with fail
    go_loopw [1, 2, 10] (fun s1 s2 s10 wr => ∃ (j : Nat) (x r : Int), s1 = .int .u32 x ∧ s2 = .int .i64 r ∧ PRel w L S a n need j x r s10 wr) (fun _ s2 _ _ => (intOf s2).toNat)
    case atStart =>
      refine ⟨0, a, n, rfl, rfl, Nat.zero_le _, ⟨a0, a1⟩, fun hc => ?_, fun hc => ?_, World.ownsRow_nil _ _ _ _, fun g hg => by simp [Value.ownBlock] at hg, Gr.refl _, fun i hi => by omega⟩
      · refine ⟨by simp, by simp [pFrom], by simp, ?_⟩
        unfold cnt at hc
        split at hc
        · omega
        · omega
      · unfold cnt at hc
        split at hc
        · omega
        · omega
    case round =>
      obtain ⟨j, x, r, rfl, rfl, hR⟩ := hrel
      have hx := hR.x0
      by_cases hj : j = cnt a n
      · have hr := hR.off hj
        subst hr
        have fin := hR.row
        rw [hj] at fin
        have hmay : May S a n need := ⟨by omega, by rw [← hj]; exact hR.may⟩
        have FIN : Hid _ := fin
        have HM : Hid _ := hmay
        clear hmay fin
        go_wp2_with fail
        go_returns
        exact ⟨hR.gr, .inl ⟨HM.out, _, rfl, FIN.out, hR.blk⟩⟩
      · have hjl : j < cnt a n := by have := hR.jl; omega
        obtain ⟨e1, e2, e3, e4⟩ := hR.on hjl
        have hr2 : r ≤ 65536 := by rw [e3]; split <;> omega
        have hro : OwnL wr mb F N S L := h.gr hR.gr
        have c2 := hro.c2
        have hl := hro.pm.look (k := x / 256) ⟨by omega, by omega⟩
        obtain ⟨hx0, hx1⟩ := hx
        cases hpg : S.pg (x / 256) with
        | none =>
          rw [hro.bnone hpg] at hl
          simp only [pv, Option.isSome] at hl
          have hno : ¬ May S a n need := fun m => by obtain ⟨p, hp, _⟩ := m.2 j hjl; rw [e1, hp] at hpg; cases hpg
          clear hpg e1 e2 e3
          go_wp2_with fail
          go_returns
          exact ⟨hR.gr, .inr ⟨hno, rfl⟩⟩
        | some p =>
          obtain ⟨b, hb, hq, hF⟩ := hro.pgb hpg
          rw [hb] at hl
          simp only [pv, Option.isSome] at hl
          by_cases hy : (bits .and .i64 p.perm need == need) = true
          · have hal := allows_c hq need
            rw [hy] at hal
            have hat : MayAt S a need j := ⟨p, by rw [← e1]; exact hpg, hy⟩
            clear hy hpg
            have hjn : j ≤ 65536 := by have := (cnt_lt hjl).2; have : a % 256 < 256 := by omega
                                       omega
            have hbig : a + n ≤ 4294967296 := by omega
            by_cases hto : x % 256 + r ≤ 256
            · have e6 : x % 256 + r ≤ 256 := hto
              obtain ⟨v', w4, hrun, hown, hfr, hloc⟩ := append_frs (t := 141) (ty := 141) (wr.alloc (.cells #[.pointer (some ⟨b, 0, none⟩), .int .i64 (x % 256), .int .i64 (x % 256 + r)] 145)) 3 (by omega) Tryd.underlying141 hi hz0 hz1 hz2 rfl (hR.row.alloc _) ⟨wr.heap.size, 0, none⟩ 1 1 [.pointer (some ⟨b, 0, none⟩), .int .i64 (x % 256), .int .i64 (x % 256 + r)] rfl (cell_three_new _ _ _ _ _) one3 (by omega) (by omega) (by omega)
              have ST := fun x' r' h1 h2 => @PRel.step w wr w4 L S a n need j x r _ v' hR hjl hbig b hb (x % 256 + r) x' r' (by first | rw [if_pos (by omega)] | rw [if_neg (by omega)]) h1 h2 a0 hown (fun g hg => by
                rcases hloc with e | e
                · exact hR.blk g (e.symm.trans hg)
                · rw [e] at hg; cases hg; have := hR.gr.size; simp; omega) (hfr_gr hR.gr hR.blk hfr) hat
              clear hloc hfr hown hat hto e1 e2 e3
              go_wp2_with fail
              refine hal.mono ?_
              rintro e w1 ⟨rfl, rfl⟩
              go_wp2_with (first | (at_builtin; refine wpList_append_eq rfl _ _ 141 rfl rfl rfl hrun ?_) | go_in)
              go_roundw
              case rel => exact ⟨j + 1, _, _, rfl, rfl, ST _ _ (by omega) (by omega)⟩
              case measure => simp [intOf]; omega
            · have e6 : ¬ x % 256 + r ≤ 256 := hto
              obtain ⟨v', w4, hrun, hown, hfr, hloc⟩ := append_frs (t := 141) (ty := 141) (wr.alloc (.cells #[.pointer (some ⟨b, 0, none⟩), .int .i64 (x % 256), .int .i64 256] 145)) 3 (by omega) Tryd.underlying141 hi hz0 hz1 hz2 rfl (hR.row.alloc _) ⟨wr.heap.size, 0, none⟩ 1 1 [.pointer (some ⟨b, 0, none⟩), .int .i64 (x % 256), .int .i64 256] rfl (cell_three_new _ _ _ _ _) one3 (by omega) (by omega) (by omega)
              have ST := fun x' r' h1 h2 => @PRel.step w wr w4 L S a n need j x r _ v' hR hjl hbig b hb 256 x' r' (by first | rw [if_pos (by omega)] | rw [if_neg (by omega)]) h1 h2 a0 hown (fun g hg => by
                rcases hloc with e | e
                · exact hR.blk g (e.symm.trans hg)
                · rw [e] at hg; cases hg; have := hR.gr.size; simp; omega) (hfr_gr hR.gr hR.blk hfr) hat
              clear hloc hfr hown hat hto e1 e2 e3
              go_wp2_with fail
              refine hal.mono ?_
              rintro e w1 ⟨rfl, rfl⟩
              go_wp2_with (first | (at_builtin; refine wpList_append_eq rfl _ _ 141 rfl rfl rfl hrun ?_) | go_in)
              go_roundw
              case rel => exact ⟨j + 1, _, _, rfl, rfl, ST _ _ (by omega) (by omega)⟩
              case measure => simp [intOf]; omega
          · replace hy : (bits .and .i64 p.perm need == need) = false := by simpa using hy
            have hal := allows_c hq need
            rw [hy] at hal
            have hno : ¬ May S a n need := fun m => by
              obtain ⟨p', hp, hp2⟩ := m.2 j hjl
              rw [← e1, hpg] at hp; cases hp; rw [hy] at hp2; cases hp2
            clear hpg e1 e2 e3 hy
            go_wp2_with fail
            refine hal.mono ?_
            rintro e w1 ⟨rfl, rfl⟩
            go_wp2_with fail
            go_returns
            exact ⟨hR.gr, .inr ⟨hno, rfl⟩⟩
end Go.Proofs.YtbackacbdfgdoaaDoor
namespace Go.Proofs.YtbackacbdfgdoaaDoor
open Go.ChangeShapes Go.WideShapes Go.ChangeAt Go.RowKit
set_option linter.unusedSimpArgs false
set_option linter.unusedVariables false

theorem IsPg.gr {w w' : World} {b : Nat} {p : Pg} (h : IsPg w b p) (g : Gr w w') : IsPg w' b p := (g.b.block b h.lt).trans h
theorem IsPg.alloc {w : World} {b : Nat} {p : Pg} (h : IsPg w b p) (o : Obj) : IsPg (w.alloc o) b p := (Below.heap_alloc w o b h.lt).trans h
theorem bytes_c {w : World} {pb : Nat} {p : Pg} (hp : IsPg w pb p) (f t : Int) (h1 : 0 ≤ f) (h2 : f < 256) (h3 : f ≤ t) (h4 : t ≤ 256) :
    Calls Tryd.prog 83 #[.agg #[.pointer (some ⟨pb, 0, none⟩), .int .i64 f, .int .i64 t]] w fun e w' => e = .returned (.slice (some ⟨pb, f.toNat, none⟩) (t - f).toNat (256 - f).toNat) ∧ Gr w w' := by
  have hlt := hp.lt
  go_enter Tryd.func83, Tryd.ntmps83
  go_wp2_with fail
  go_quiet (fail)
  go_wp2_with fail
  go_returns
  refine ⟨?_, ?_⟩
  · show Ending.returned (.slice (some ⟨pb, f.toNat, none⟩) (t.toNat - f.toNat) (256 - f.toNat)) = _
    rw [show t.toNat - f.toNat = (t - f).toNat by omega, show 256 - f.toNat = (256 - f).toNat by omega]
  (repeat' (first | (with_reducible assumption) | (with_reducible exact Gr.refl _) | (with_reducible refine Gr.alloc ?_ _ _) | (with_reducible refine Gr.drew ?_) | (with_reducible refine Gr.drewN ?_ _) | (with_reducible refine Gr.setCell ?_ ?_ _) | (with_reducible refine Gr.trans ?_ (by assumption)) | omega | (dsimp only; omega) | (simp; done) | (simp; omega)))

theorem part_bounds {a : Int} {n j : Nat} (hj : j < cnt a n) : 0 ≤ pFrom a j ∧ pFrom a j < 256 ∧ pFrom a j < pTo a n j ∧ pTo a n j ≤ 256 := by
  have h := cnt_lt hj
  unfold pFrom pTo
  refine ⟨?_, ?_, ?_, ?_⟩
  · split <;> omega
  · split <;> omega
  · by_cases e : j = 0
    · subst e; simp; split <;> omega
    · rw [if_neg e]; split <;> omega
  · split <;> omega
/-- How many bytes the first j parts hold. -/
def cum (a : Int) (n j : Nat) : Nat := if j = 0 then 0 else (if a % 256 + n ≤ 256 * (j : Int) then n else (256 * (j : Int) - a % 256).toNat)
theorem cnt_le (a : Int) (n : Nat) : cnt a n ≤ n + 1 := by
  have h0 : 0 ≤ a % 256 ∧ a % 256 < 256 := by omega
  unfold cnt; split <;> omega
theorem cum_zero (a : Int) (n : Nat) : cum a n 0 = 0 := by simp [cum]
theorem cum_step {a : Int} {n j : Nat} (hj : j < cnt a n) : cum a n (j + 1) = cum a n j + (pTo a n j - pFrom a j).toNat := by
  have h := cnt_lt hj
  have h0 : 0 ≤ a % 256 ∧ a % 256 < 256 := by omega
  have hs : cum a n (j + 1) = if a % 256 + n ≤ 256 * (j : Int) + 256 then n else (256 * (j : Int) + 256 - a % 256).toNat := by
    unfold cum
    rw [if_neg (by omega), show 256 * ((j + 1 : Nat) : Int) = 256 * (j : Int) + 256 by omega]
  rw [hs]
  by_cases e : j = 0
  · subst e
    simp only [cum, pFrom, pTo, if_true]
    by_cases c : a % 256 + n ≤ 256 * (((0 : Nat) : Int)) + 256
    · rw [if_pos c, if_pos c]; omega
    · rw [if_neg c, if_neg c]; omega
  · have e1 : pFrom a j = 0 := by simp [pFrom, e]
    have e2 : cum a n j = (256 * (j : Int) - a % 256).toNat := by unfold cum; rw [if_neg e, if_neg (by omega)]
    rw [e1, e2]
    unfold pTo
    by_cases c : a % 256 + n ≤ 256 * (j : Int) + 256
    · rw [if_pos c, if_pos c]; omega
    · rw [if_neg c, if_neg c]; omega
theorem cum_end (a : Int) (n : Nat) : cum a n (cnt a n) = n := by
  unfold cum
  by_cases e : n = 0
  · subst e; simp [cnt]
  · have h0 : 0 ≤ a % 256 ∧ a % 256 < 256 := by omega
    have : cnt a n = ((a % 256).toNat + n + 255) / 256 := by simp [cnt, e]
    rw [if_neg (by omega), if_pos (by omega)]
theorem cum_at {a : Int} {n j : Nat} (hj : j < cnt a n) {i : Nat} (hi : i < (pTo a n j - pFrom a j).toNat) : (a + ((cum a n j + i : Nat) : Int)) / 256 = a / 256 + j ∧ ((a + ((cum a n j + i : Nat) : Int)) % 256).toNat = (pFrom a j).toNat + i := by
  have h := cnt_lt hj
  have hb := part_bounds hj
  have h0 : 0 ≤ a % 256 ∧ a % 256 < 256 := by omega
  by_cases e : j = 0
  · subst e
    have e1 : pFrom a 0 = a % 256 := by simp [pFrom]
    have e2 : cum a n 0 = 0 := cum_zero a n
    rw [e1] at hi hb ⊢
    rw [e2]
    omega
  · have e1 : pFrom a j = 0 := by simp [pFrom, e]
    have e2 : cum a n j = (256 * (j : Int) - a % 256).toNat := by unfold cum; rw [if_neg e, if_neg (by omega)]
    rw [e1] at hi hb ⊢
    rw [e2]
    omega
def MS.at (S : MS) (x : Int) : Int := match S.pg (x / 256) with | some p => p.byt (x % 256).toNat | none => 0
theorem MS.at_u8 {S : MS} (h : S.Ok) (x : Int) : 0 ≤ S.at x ∧ S.at x < 256 := by
  unfold MS.at
  cases e : S.pg (x / 256) with
  | none => simp
  | some p => exact (h.pg _ _ e).byt _
/-- The first m bytes from a on. -/
def MS.bytes (S : MS) (a : Int) (m : Nat) : List Value := (List.range m).map (fun i : Nat => Value.int .u8 (S.at (a + (i : Int))))
theorem bytes_length (S : MS) (a : Int) (m : Nat) : (S.bytes a m).length = m := by simp [MS.bytes]
theorem bytes_step {S : MS} {a : Int} {n j : Nat} (hj : j < cnt a n) {p : Pg} (hp : S.pg (a / 256 + j) = some p) :
    S.bytes a (cum a n (j + 1)) = S.bytes a (cum a n j) ++ (List.range (pTo a n j - pFrom a j).toNat).map (fun i : Nat => Value.int .u8 (p.byt ((pFrom a j).toNat + i))) := by
  rw [cum_step hj]
  unfold MS.bytes
  rw [List.range_add, List.map_append, List.map_map]
  congr 1
  apply List.map_congr_left
  intro i hi
  simp only [List.mem_range] at hi
  obtain ⟨e1, e2⟩ := cum_at hj hi
  simp only [Function.comp]
  unfold MS.at
  rw [e1, hp]
  simp only
  rw [e2]
theorem rowP_length (L : Lay) (a : Int) (n : Nat) : ∀ c, (rowP L a n c).length = 3 * c
  | 0 => rfl
  | c + 1 => by simp [rowP, rowP_length L a n c, partOf]; omega
theorem rowP_at (L : Lay) (a : Int) (n : Nat) : ∀ c j, j < c → ∀ i, i < 3 → (rowP L a n c)[3 * j + i]? = (partOf L a n j)[i]?
  | 0, j, h, _, _ => by omega
  | c + 1, j, h, i, hi => by
    show (rowP L a n c ++ partOf L a n c)[3 * j + i]? = _
    have hl := rowP_length L a n c
    by_cases e : j = c
    · subst e
      rw [List.getElem?_append_right (by omega), hl]
      congr 1; omega
    · rw [List.getElem?_append_left (by omega)]
      exact rowP_at L a n c j (by omega) i hi
/-- The parts' cells, as they lie in the list. -/
theorem parts_cells {w : World} {L : Lay} {a : Int} {n c : Nat} {v : Value} (h : w.ownsRow 0 145 3 v c (rowP L a n c)) : (c = 0 ∧ v = .slice none 0 0) ∨ ∃ g cap, v = .slice (some ⟨g, 0, none⟩) c cap ∧ c ≤ cap ∧
    ∀ j, j < c → w.cell? ⟨g, j * 3, none⟩ = some (pv (L.bk (a / 256 + j))) ∧ w.cell? ⟨g, j * 3 + 1, none⟩ = some (.int .i64 (pFrom a j)) ∧ w.cell? ⟨g, j * 3 + 2, none⟩ = some (.int .i64 (pTo a n j)) := by
  rcases h.2 with ⟨h1, h2⟩ | ⟨g, cap, cur, h1, _, hg, hc, _, hsz, htk⟩
  · exact .inl ⟨h2, h1⟩
  · refine .inr ⟨g, cap, h1, hc, fun j hj => ?_⟩
    have key : ∀ i, i < 3 → w.cell? ⟨g, 3 * j + i, none⟩ = (partOf L a n j)[i]? := by
      intro i hi
      rw [cell_of_row w g (3 * j + i) cur _ (0, 0) hg, ← rowP_at L a n c j hj i hi, ← htk, List.getElem?_take, if_pos (by omega)]
      simp
    rw [Nat.mul_comm 3 j] at key
    exact ⟨key 0 (by omega), key 1 (by omega), key 2 (by omega)⟩

structure RRel (w2 : World) (S : MS) (a : Int) (n j : Nat) (v : Value) (wr : World) : Prop where
  row : wr.ownsRow 0 5 1 v (cum a n j) (S.bytes a (cum a n j))
  blk : ∀ g, v.ownBlock = some g → w2.heap.size ≤ g
  gr : Gr w2 wr

end Go.Proofs.YtbackacbdfgdoaaDoor
namespace Go.Proofs.YtbackacbdfgdoaaDoor
open Go.ChangeShapes Go.WideShapes Go.ChangeAt Go.RowKit
set_option linter.unusedSimpArgs false
set_option linter.unusedVariables false

def putPg (a : Int) (n : Nat) (bs : Nat → Int) (k : Int) (p : Pg) : Pg :=
  { p with byt := fun i => if a ≤ 256 * k + i ∧ 256 * k + i < a + n then bs (256 * k + i - a).toNat else p.byt i, gen := (p.gen + 1) % 4294967296 }
def MS.putJ (S : MS) (a : Int) (n : Nat) (bs : Nat → Int) (j : Nat) : MS := { S with pg := fun k => if a / 256 ≤ k ∧ k < a / 256 + j then (S.pg k).map (putPg a n bs k) else S.pg k }
def MS.put (S : MS) (a : Int) (n : Nat) (bs : Nat → Int) : MS := S.putJ a n bs (cnt a n)
theorem putJ_zero (S : MS) (a : Int) (n : Nat) (bs : Nat → Int) : S.putJ a n bs 0 = S := by
  unfold MS.putJ
  have : (fun k => if a / 256 ≤ k ∧ k < a / 256 + ((0 : Nat) : Int) then (S.pg k).map (putPg a n bs k) else S.pg k) = S.pg := by
    funext k; rw [if_neg (by omega)]
  rw [this]
theorem putJ_step {S : MS} {a : Int} {n : Nat} {bs : Nat → Int} {j : Nat} {p : Pg} (hp : S.pg (a / 256 + j) = some p) :
    { S.putJ a n bs j with pg := upd (S.putJ a n bs j).pg (a / 256 + j) (some (putPg a n bs (a / 256 + j) p)) } = S.putJ a n bs (j + 1) := by
  unfold MS.putJ
  simp only [MS.mk.injEq, true_and, and_true]
  funext k
  unfold upd
  by_cases e : k = a / 256 + j
  · subst e
    rw [if_pos rfl, if_pos (by omega), hp]; rfl
  · rw [if_neg e]
    show (if a / 256 ≤ k ∧ k < a / 256 + j then (S.pg k).map (putPg a n bs k) else S.pg k) = _
    by_cases c : a / 256 ≤ k ∧ k < a / 256 + j
    · rw [if_pos c, if_pos (by omega)]
    · rw [if_neg c, if_neg (by omega)]
theorem putJ_pg {S : MS} {a : Int} {n : Nat} {bs : Nat → Int} {j : Nat} : (S.putJ a n bs j).pg (a / 256 + j) = S.pg (a / 256 + j) := by
  unfold MS.putJ
  simp only
  rw [if_neg (by omega)]
theorem putPg_ok {a : Int} {n : Nat} {bs : Nat → Int} {k : Int} {p : Pg} (h : p.Ok) (hb : ∀ i, 0 ≤ bs i ∧ bs i < 256) : (putPg a n bs k p).Ok := by
  refine ⟨fun i => ?_, h.perm, ?_⟩
  · simp only [putPg]
    split
    · exact hb _
    · exact h.byt i
  · simp only [putPg]; unfold U4; omega
/-- The copied bytes in the page's cells. -/
theorem copied_arr {a : Int} {n j : Nat} (hj : j < cnt a n) (p : Pg) (bs : Nat → Int) (a0 : 0 ≤ a) :
    (p.arr.toList.take (pFrom a j).toNat ++ (List.range (pTo a n j - pFrom a j).toNat).map (fun i : Nat => Value.int .u8 (bs (cum a n j + i))) ++ p.arr.toList.drop ((pFrom a j).toNat + (pTo a n j - pFrom a j).toNat)).toArray =
      ({ putPg a n bs (a / 256 + j) p with gen := p.gen } : Pg).arr := by
  have hb := part_bounds hj
  have hl := cnt_lt hj
  have h0 : 0 ≤ a % 256 ∧ a % 256 < 256 := by omega
  have hs : p.arr.toList.length = 258 := by simp [p.arr_size]
  have cell : ∀ i : Nat, i < 256 → (a ≤ 256 * (a / 256 + (j : Int)) + i ∧ 256 * (a / 256 + (j : Int)) + i < a + n ↔ (pFrom a j).toNat ≤ i ∧ i < (pTo a n j).toNat) := by
    intro i hi
    unfold pFrom pTo
    by_cases e : j = 0
    · subst e; simp only [if_true]; split <;> omega
    · simp only [if_neg e]; split <;> omega
  have idx : ∀ i : Nat, (pFrom a j).toNat ≤ i → i < (pTo a n j).toNat → (256 * (a / 256 + (j : Int)) + i - a).toNat = cum a n j + (i - (pFrom a j).toNat) := by
    intro i h1 h2
    obtain ⟨c1, c2⟩ := cum_at hj (i := i - (pFrom a j).toNat) (by omega)
    omega
  have get : ∀ i, i < 258 → ((p.arr.toList.take (pFrom a j).toNat ++ (List.range (pTo a n j - pFrom a j).toNat).map (fun i : Nat => Value.int .u8 (bs (cum a n j + i))) ++ p.arr.toList.drop ((pFrom a j).toNat + (pTo a n j - pFrom a j).toNat)).toArray)[i]? =
      if (pFrom a j).toNat ≤ i ∧ i < (pTo a n j).toNat then some (.int .u8 (bs (cum a n j + (i - (pFrom a j).toNat)))) else p.arr[i]? := by
    intro i hi
    simp only [List.getElem?_toArray]
    by_cases c1 : i < (pFrom a j).toNat
    · rw [if_neg (by omega), List.getElem?_append_left (by simp [hs]; omega), List.getElem?_append_left (by simp [hs]; omega), List.getElem?_take, if_pos c1]; simp
    · by_cases c2 : i < (pTo a n j).toNat
      · rw [if_pos ⟨by omega, c2⟩, List.getElem?_append_left (by simp [hs]; omega), List.getElem?_append_right (by simp [hs]; omega)]
        rw [show (List.take (pFrom a j).toNat p.arr.toList).length = (pFrom a j).toNat by simp [hs]; omega]
        simp [show i - (pFrom a j).toNat < (pTo a n j - pFrom a j).toNat by omega]
      · rw [if_neg (by omega), List.getElem?_append_right (by simp [hs]; omega), List.getElem?_drop]
        rw [show (List.take (pFrom a j).toNat p.arr.toList ++ List.map (fun i : Nat => Value.int IntKind.u8 (bs (cum a n j + i))) (List.range (pTo a n j - pFrom a j).toNat)).length = (pFrom a j).toNat + (pTo a n j - pFrom a j).toNat by simp [hs]; omega]
        rw [show (pFrom a j).toNat + (pTo a n j - pFrom a j).toNat + (i - ((pFrom a j).toNat + (pTo a n j - pFrom a j).toNat)) = i by omega]
        simp
  apply arr_ext
  · simp [hs]; omega
  · intro i hi
    rw [get i (by omega)]
    simp only [putPg]
    have := cell i hi
    by_cases c : (pFrom a j).toNat ≤ i ∧ i < (pTo a n j).toNat
    · rw [if_pos c, if_pos (this.2 c), idx i c.1 c.2]
    · rw [if_neg c, if_neg (fun x => c (this.1 x)), p.arr_byt hi]
  · rw [get 256 (by omega), if_neg (by omega), p.arr_perm]; rfl
  · rw [get 257 (by omega), if_neg (by omega), p.arr_gen]

structure URel (w2 : World) (mb : Nat) (F : Nat → Prop) (N : Nat) (S : MS) (L : Lay) (a : Int) (n : Nat) (bs : Nat → Int) (bb bo cap j : Nat) (v : Value) (wr : World) : Prop where
  own : OwnL wr mb F N (S.putJ a n bs j) L
  fr : Fr F w2 wr
  val : j < cnt a n → v = .slice (some ⟨bb, bo + cum a n j, none⟩) (n - cum a n j) (cap - cum a n j)

theorem put_empty {w : World} {mb : Nat} {F : Nat → Prop} {N : Nat} {S : MS} {L : Lay} (h : OwnL w mb F N S L) (a : Int) (need most : Int) (ha : U4 a) (q : Option Addr) (cap : Nat) (hmo : 0 ≤ most) :
    Calls Tryd.prog 57 #[.pointer (some ⟨mb, 0, none⟩), .int .u32 a, .slice q 0 cap, .int .i64 most, .int .i64 need] w fun e w' => e = .returned (.int .i64 0) ∧ Gr w w' := by
  have hp := parts_c h a 0 need ha (by omega)
  obtain ⟨a0, a1⟩ := ha
  have hmo' : ¬ most < 0 := by omega
  go_enter Tryd.func57, Tryd.ntmps57
  go_wp2_with fail
  refine hp.mono ?_
  rintro e w2 ⟨g2, (⟨_, vl, rfl, hrow, hblk⟩ | ⟨hno, _⟩)⟩
  · obtain ⟨q', cap', rfl⟩ : ∃ q' cap', vl = .slice q' 0 cap' := by
      rcases hrow.2 with ⟨rfl, _⟩ | ⟨g, c, cur, rfl, _⟩
      · exact ⟨_, _, rfl⟩
      · exact ⟨_, _, rfl⟩
    go_wp2_with fail
    refine wp_loop_rounds 1 ?_
    rw [rounds_succ]; go_wp2_with fail
    go_returns
    exact ⟨rfl, g2⟩
  · exact absurd ⟨by omega, fun j hj => by simp [cnt] at hj⟩ hno
theorem put_no {w : World} {mb : Nat} {F : Nat → Prop} {N : Nat} {S : MS} {L : Lay} (h : OwnL w mb F N S L) (a : Int) (n : Nat) (need most : Int) (ha : U4 a) (hn : (n : Int) ≤ most) (hmo : most ≤ 65536) (hm : ¬ May S a n need) (q : Option Addr) (cap : Nat) :
    Calls Tryd.prog 57 #[.pointer (some ⟨mb, 0, none⟩), .int .u32 a, .slice q n cap, .int .i64 most, .int .i64 need] w fun e w' => e = .returned (.int .i64 8) ∧ Gr w w' := by
  have hp := parts_c h a n need ha (by omega)
  have hmo' : ¬ most < (n : Int) := by omega
  go_enter Tryd.func57, Tryd.ntmps57
  go_wp2_with fail
  refine hp.mono ?_
  rintro e w2 ⟨g2, (⟨hy, _⟩ | ⟨hno, rfl⟩)⟩
  · exact absurd hy hm
  · go_wp2_with fail
    go_returns
    exact ⟨rfl, g2⟩
theorem put_arg {w : World} {mb : Nat} (a : Int) (n : Nat) (need most : Int) (hn : most < (n : Int)) (q : Option Addr) (cap : Nat) :
    Calls Tryd.prog 57 #[.pointer (some ⟨mb, 0, none⟩), .int .u32 a, .slice q n cap, .int .i64 most, .int .i64 need] w fun e w' => e = .returned (.int .i64 1) ∧ w' = w := by
  go_enter Tryd.func57, Tryd.ntmps57
  go_wp2_with fail
  go_returns
  exact ⟨rfl, rfl⟩

set_option maxRecDepth 100000 in
set_option maxHeartbeats 1000000 in
theorem put_ok {w : World} {mb : Nat} {F : Nat → Prop} {N : Nat} {S : MS} {L : Lay} (h : OwnL w mb F N S L) (a : Int) (n : Nat) (need most : Int) (ha : U4 a) (hn0 : 0 < n) (hn : (n : Int) ≤ most) (hmo : most ≤ 65536) (hm : May S a n need)
    (bb bo cap : Nat) (bs : Nat → Int) (hcap : n ≤ cap) (hbs : ∀ i, i < n → w.cell? ⟨bb, bo + i, none⟩ = some (.int .u8 (bs i))) (hb8 : ∀ i, 0 ≤ bs i ∧ bs i < 256) (hF : ¬ F bb) :
    Calls Tryd.prog 57 #[.pointer (some ⟨mb, 0, none⟩), .int .u32 a, .slice (some ⟨bb, bo, none⟩) n cap, .int .i64 most, .int .i64 need] w fun e w' => e = .returned (.int .i64 0) ∧ Fr F w w' ∧ OwnL w' mb F N (S.put a n bs) L := by
  have hp := parts_c h a n need ha (by omega)
  have hmo' : ¬ most < (n : Int) := by omega
  have hlb : bb < w.heap.size := World.block_lt_of_cell? w ⟨bb, bo + 0, none⟩ (hbs 0 hn0)
  have hsz5 : (Tryd.prog.info? 5).map (·.size) = some 1 := by kernel_rfl
  obtain ⟨a0, a1⟩ := ha
  go_enter Tryd.func57, Tryd.ntmps57
  go_wp2_with fail
  refine hp.mono ?_
  rintro e w2 ⟨g2, (⟨_, vl, rfl, hrow, hblk⟩ | ⟨hno, _⟩)⟩
  · rcases parts_cells hrow with ⟨hc0, rfl⟩ | ⟨gl, capl, rfl, hcapl, hcell⟩
    · exfalso
      unfold cnt at hc0
      split at hc0 <;> omega
    · have hgl := hblk gl rfl
      obtain ⟨c, hc⟩ : ∃ c, c = cnt a n := ⟨_, rfl⟩
      have hcb : c ≤ 65537 := by rw [hc]; exact Nat.le_trans (cnt_le a n) (by omega)
      rw [← hc] at hcell hcapl ⊢
      have h2 := h.gr g2
      have zg := g2.size
      go_wp2_with fail
      go_loopw [2, 33] (fun v x wr => ∃ j : Nat, j ≤ c ∧ x = .int .i64 j ∧ URel w2 mb F N S L a n bs bb bo cap j v wr) (fun _ x _ => c - (intOf x).toNat)
      case atStart =>
        refine ⟨0, Nat.zero_le _, rfl, ?_, Fr.refl _ _, fun _ => by rw [cum_zero]; rfl⟩
        rw [putJ_zero]; exact h2
      case round =>
        obtain ⟨j, hj, rfl, hR⟩ := hrel
        by_cases hjc : j = c
        · have fin := hR.own
          rw [hjc, hc] at fin
          have FIN : Hid (OwnL wr mb F N (S.put a n bs) L) := fin
          clear fin
          subst hjc
          go_wp2_with fail
          go_returns
          exact ⟨rfl, (g2.fr F).trans hR.fr (fun _ _ x => x), FIN.out⟩
        · have hjl : j < c := by omega
          have hlt : (j : Int) < (c : Int) := by omega
          have hjn : j < cnt a n := by omega
          obtain ⟨q0, q1, q2⟩ := hcell j hjl
          have lgl : gl < w2.heap.size := World.block_lt_of_cell? w2 ⟨gl, j * 3, none⟩ q0
          have ngl : ¬ F gl := fun x => by have := h.lt _ x; omega
          rw [← hR.fr.cell (p := ⟨gl, j * 3, none⟩) lgl ngl] at q0
          rw [← hR.fr.cell (p := ⟨gl, j * 3 + 1, none⟩) lgl ngl] at q1
          rw [← hR.fr.cell (p := ⟨gl, j * 3 + 2, none⟩) lgl ngl] at q2
          obtain ⟨p, hpg, _⟩ := hm.2 j (by omega)
          have hpg' : (S.putJ a n bs j).pg (a / 256 + j) = some p := putJ_pg.trans hpg
          obtain ⟨b, hb, hq, hFb⟩ := hR.own.pgb hpg'
          rw [hb] at q0
          simp only [pv] at q0
          obtain ⟨y1, y2, y3, y4⟩ := part_bounds hjn
          have hst := cum_step hjn
          have hcum : cum a n (j + 1) ≤ n := by
            by_cases x : j + 1 = cnt a n
            · rw [x, cum_end]; omega
            · have := cnt_next hjn
              unfold cum; rw [if_neg (by omega)]; split <;> omega
          have hcop := copied_arr hjn p bs a0
          have hvv := hR.val hjn
          obtain ⟨f, hf⟩ : ∃ f, f = pFrom a j := ⟨_, rfl⟩
          obtain ⟨t, ht⟩ : ∃ t, t = pTo a n j := ⟨_, rfl⟩
          obtain ⟨cu, hcu⟩ : ∃ cu, cu = cum a n j := ⟨_, rfl⟩
          rw [← hf] at q1 y1 y2 y3 hst hcop
          rw [← ht] at q2 y3 y4 hst hcop
          rw [← hcu] at hst hcop hvv
          have hby := bytes_c (hq.alloc (.cells #[.pointer (some ⟨b, 0, none⟩), .int .i64 f, .int .i64 t] 145)) f t y1 y2 (by omega) y4
          subst hvv
          have HCU : Hid (cu = cum a n j) := hcu
          clear hf ht hcell hjc hpg hp hcu
          obtain ⟨ln, hln⟩ : ∃ ln, ln = n - cu := ⟨_, rfl⟩
          obtain ⟨cp, hcp⟩ : ∃ cp, cp = cap - cu := ⟨_, rfl⟩
          rw [← hln, ← hcp]
          have HLN : Hid (ln = n - cu) := hln
          have HCP : Hid (cp = cap - cu) := hcp
          have hlc : ln ≤ cp := by omega
          clear hln hcp
          go_wp2_with fail
          refine hby.mono ?_
          rintro e w3 ⟨rfl, g3⟩
          have g4 : Gr wr w3 := ((Gr.refl wr).alloc _ _).trans g3
          have hq3 := hq.gr g4
          obtain ⟨d, hd⟩ : ∃ d, d = (t - f).toNat := ⟨_, rfl⟩
          have hd0 : cu + d ≤ n := by omega
          have hdl : d ≤ ln := by have := HLN.out; omega
          have hd1 : 1 ≤ d := by omega
          have hsrc : ∀ i u, ((List.range d).map (fun i : Nat => Value.int .u8 (bs (cu + i))))[i]? = some u → w3.cell? ((⟨bb, bo + cu, none⟩ : Addr).add i) = some u := by
            intro i u hu
            simp only [List.getElem?_map] at hu
            by_cases hi2 : i < d
            · rw [List.getElem?_range hi2] at hu
              simp at hu
              rw [← hu, Addr.add_lit, g4.cell bb _ (Nat.lt_of_lt_of_le hlb (Nat.le_trans zg hR.fr.size)), hR.fr.cell (p := ⟨bb, bo + cu + i, none⟩) (Nat.lt_of_lt_of_le hlb zg) hF, g2.cell bb _ hlb, Nat.add_assoc]
              exact hbs _ (by omega)
            · rw [List.getElem?_eq_none (by simp; omega)] at hu; simp at hu
          have hrun := run_copy_row (P := Tryd.prog) w3 38 38 3 5 b f.toNat d (256 - f).toNat ⟨bb, bo + cu, none⟩ ln cp p.arr 123 _ Tryd.underlying38 hsz5 hq3
            (by simp only [List.length_map, List.length_range]; exact (Nat.min_eq_right (by omega)).symm) hsrc (by simp [p.arr_size]; omega) (fun u hu => by simp at hu; obtain ⟨i, _, rfl⟩ := hu; rfl)
          simp only [List.length_map, List.length_range, goInt] at hrun
          rw [← hd] at hcop hst ⊢
          rw [hcop] at hrun
          obtain ⟨w4, hw4⟩ : ∃ w4, w4 = w3.setRow b ({ putPg a n bs (a / 256 + j) p with gen := p.gen } : Pg).arr := ⟨_, rfl⟩
          rw [← hw4] at hrun
          have hq4 : IsPg w4 b { putPg a n bs (a / 256 + j) p with gen := p.gen } := by rw [hw4]; exact setRow_heap _ _ _ _ _ _ hq3
          have fr4 : Fr (fun k => k = b) w3 w4 := by rw [hw4]; exact setRow_fr _ _ _
          have hbl := hq.lt
          have z4 := g4.size
          have z3 := g3.size
          simp only [World.size_alloc] at z3
          have pc : w4.cell? ⟨wr.heap.size, 0, none⟩ = some (.pointer (some ⟨b, 0, none⟩)) := by
            rw [fr4.cell (p := ⟨wr.heap.size, 0, none⟩) (show wr.heap.size < w3.heap.size by omega) (show ¬ wr.heap.size = b by omega)]
            exact g3.keep (by simp)
          have gc : w4.cell? ⟨b, 257, none⟩ = some (.int .u32 p.gen) := hq4.gen
          have gz := hq4.frozen 257
          have q5 := hq4.setGen ((p.gen + 1) % 4294967296)
          have fr5 := fr4.setCell (p := ⟨b, 257, none⟩) (.inl rfl) (.int .u32 ((p.gen + 1) % 4294967296))
          have fr6 : Fr (fun k => k = b) wr (w4.setCell ⟨b, 257, none⟩ (.int .u32 ((p.gen + 1) % 4294967296))) := (g4.fr _).trans fr5 (fun _ _ x => x)
          have UU : ∀ v, (j + 1 < cnt a n → v = .slice (some ⟨bb, bo + (cu + d), none⟩) (ln - d) (cp - d)) → URel w2 mb F N S L a n bs bb bo cap (j + 1) v (w4.setCell ⟨b, 257, none⟩ (.int .u32 ((p.gen + 1) % 4294967296))) := by
            intro v hv
            refine ⟨?_, hR.fr.trans (fr6.mono (G := F) (fun i _ e => e ▸ hFb)) (fun _ _ x => x), fun hx => ?_⟩
            · rw [← putJ_step (putJ_pg.symm.trans hpg')]
              exact hR.own.setPg hb fr6.size (fun i hi ne => fr6.block i (hR.own.lt i hi) ne) q5 (putPg_ok (hR.own.ok.pg _ _ hpg') hb8)
            · rw [hv hx, hst]
              have e1 := HLN.out
              have e2 := HCP.out
              rw [e1, e2, Nat.sub_sub, Nat.sub_sub]
          have hdc : d = cp → ¬ (j + 1 < cnt a n) := by
            intro e hx
            have := cnt_next hjn
            have e1 := HLN.out
            have e2 := HCP.out
            have e3 : cum a n (j + 1) < n := by
              unfold cum; rw [if_neg (by omega), if_neg (by omega)]; omega
            omega
          clear hsrc hcop hw4 fr4 fr5 fr6 hq4 q5 hby hst hd
          go_wp2_with (first | (at_builtin; refine wpList_copy_eq rfl _ _ 38 rfl rfl rfl hrun ?_) | go_in)
          exact ⟨⟨j + 1, by omega, by simp, UU _ (fun hx => by rw [if_neg (fun e => hdc e.symm hx), Nat.add_assoc])⟩, by simp [intOf]; omega⟩
  · exact absurd hm hno

theorem Poke_of {w : World} {mb : Nat} (a : Int) (q : Option Addr) (n cap : Nat) (x : Int) (P : World → Prop)
    (h : Calls Tryd.prog 57 #[.pointer (some ⟨mb, 0, none⟩), .int .u32 a, .slice q n cap, .int .i64 65536, .int .i64 0] w fun e w' => e = .returned (.int .i64 x) ∧ P w') :
    Calls Tryd.prog 26 #[.pointer (some ⟨mb, 0, none⟩), .int .u32 a, .slice q n cap] w fun e w' => e = .returned (.int .i64 x) ∧ P w' := by
  go_enter Tryd.func26, Tryd.ntmps26
  go_wp2_with fail
  refine h.mono ?_
  rintro e w1 ⟨rfl, h1⟩
  go_wp2_with fail
  go_ret
  exact ⟨rfl, h1⟩
end Go.Proofs.YtbackacbdfgdoaaDoor
namespace Go.Proofs.YtbackacbdfgdoaaDoor
open Go.ChangeShapes Go.WideShapes Go.ChangeAt Go.RowKit
set_option linter.unusedSimpArgs false
set_option linter.unusedVariables false

section
variable {w0 w w1 : World} {mb N : Nat} {S : MS}
theorem Poke_hy (h : Has w0 w mb N S) (g1 : Gr w w1) (a : Int) (n : Nat) (ha : U4 a) (hn0 : 0 < n) (hn : n ≤ 65536) (hm : May S a n 0) (bb bo cap : Nat) (bs : Nat → Int) (hcap : n ≤ cap)
    (hbs : ∀ i, i < n → w1.cell? ⟨bb, bo + i, none⟩ = some (.int .u8 (bs i))) (hb8 : ∀ i, 0 ≤ bs i ∧ bs i < 256) (hbb : bb < w0.heap.size ∨ w.heap.size ≤ bb) :
    Calls Tryd.prog 26 #[.pointer (some ⟨mb, 0, none⟩), .int .u32 a, .slice (some ⟨bb, bo, none⟩) n cap] w1 fun e w' => e = .returned (.int .i64 0) ∧ Has w0 w' mb N (S.put a n bs) := by
  obtain ⟨F, g, hF, L, o⟩ := h
  refine Poke_of a _ n cap 0 _ ((put_ok (o.gr g1) a n 0 65536 ha hn0 (by omega) (by omega) hm bb bo cap bs hcap hbs hb8 (fun x => ?_)).mono (fun e w' ⟨h1, h2, h3⟩ => ⟨h1, F, Has.step (g.trans g1) hF h2, hF, L, h3⟩))
  rcases hbb with hbb | hbb
  · have := hF _ x; omega
  · have := o.lt _ x; omega
end
theorem may_one {S : MS} {a need : Int} (h : a < 4294967296) : May S a 1 need ↔ ∃ p, S.pg (a / 256) = some p ∧ (bits .and .i64 p.perm need == need) = true := by
  have h0 : 0 ≤ a % 256 ∧ a % 256 < 256 := by omega
  have hc : cnt a 1 = 1 := by unfold cnt; rw [if_neg (by omega)]; omega
  unfold May
  rw [hc]
  constructor
  · rintro ⟨_, h2⟩
    have := h2 0 (by omega)
    unfold MayAt at this
    simpa using this
  · rintro h2
    refine ⟨by omega, fun j hj => ?_⟩
    obtain rfl : j = 0 := by omega
    unfold MayAt
    simpa using h2
end Go.Proofs.YtbackacbdfgdoaaDoor
namespace Go.Proofs.YtbackacbdfgdoaaDoor
open Go.ChangeShapes Go.WideShapes Go.ChangeAt Go.RowKit
set_option linter.unusedSimpArgs false
set_option linter.unusedVariables false

def MS.permOf (S : MS) (a : Int) : Int := match S.pg (a / 256) with | some p => p.perm | none => 0
def MS.gen (S : MS) (a : Int) : Int := match S.pg (a / 256) with | some p => p.gen | none => S.gone (a / 256)
section
variable {w : World} {mb : Nat} {F : Nat → Prop} {N : Nat} {S : MS} {L : Lay}
theorem Perm_c (h : OwnL w mb F N S L) (a : Int) (ha : U4 a) :
    Calls Tryd.prog 30 #[.pointer (some ⟨mb, 0, none⟩), .int .u32 a] w fun e w' => e = .returned (.tuple #[.int .i64 (S.permOf a), .bool (S.pg (a / 256)).isSome]) ∧ w' = w := by
  have c2 := h.c2
  obtain ⟨a0, a1⟩ := ha
  have hl := h.pm.look (k := a / 256) ⟨by omega, by omega⟩
  unfold MS.permOf
  cases hp : S.pg (a / 256) with
  | none =>
    rw [h.bnone hp] at hl
    simp only [pv, Option.isSome] at hl ⊢
    clear hp
    go_enter Tryd.func30, Tryd.ntmps30
    go_wp2
    go_returns
    exact ⟨rfl, rfl⟩
  | some p =>
    obtain ⟨b, hb, hq, hF⟩ := h.pgb hp
    rw [hb] at hl
    have hc := hq.perm
    simp only [pv, Option.isSome] at hl ⊢
    clear hp hb
    go_enter Tryd.func30, Tryd.ntmps30
    go_wp2
    go_returns
    exact ⟨rfl, rfl⟩
/-- The list that Pages fills, behind m of its numbers. -/
def pgArr (th : List Int) (m : Nat) : Array Value := ((List.range th.length).map (fun j : Nat => Value.int .u32 (if j < m then 256 * th[j]?.getD 0 else 0))).toArray
theorem pgArr_at {th : List Int} {m j : Nat} (h : j < th.length) : (pgArr th m)[j]? = some (.int .u32 (if j < m then 256 * th[j]?.getD 0 else 0)) := by
  simp [pgArr, h]
theorem pgArr_set {th : List Int} {m : Nat} (h : m < th.length) {x : Int} (hx : x = 256 * th[m]?.getD 0) : (pgArr th m).setIfInBounds m (.int .u32 x) = pgArr th (m + 1) := by
  subst hx
  apply Array.ext_getElem?
  intro j
  by_cases hj : j < th.length
  · rw [Array.getElem?_setIfInBounds]
    by_cases e : m = j
    · subst e; simp [pgArr, h]
    · rw [if_neg e, pgArr_at hj, pgArr_at hj]
      by_cases e2 : j < m
      · rw [if_pos e2, if_pos (by omega)]
      · rw [if_neg e2, if_neg (by omega)]
  · have s1 : (pgArr th m).size = th.length := by simp [pgArr]
    have s2 : (pgArr th (m + 1)).size = th.length := by simp [pgArr]
    rw [Array.getElem?_eq_none (by simp [s1]; omega), Array.getElem?_eq_none (by omega)]
theorem pgArr_zero (th : List Int) : madeCells #[Value.int .u32 0] th.length = pgArr th 0 := by
  apply Array.ext'
  rw [toList_madeCells_one]
  unfold pgArr
  apply List.ext_getElem?
  intro j
  by_cases hj : j < th.length
  · simp [List.getElem?_replicate, hj]
  · simp [List.getElem?_replicate, hj]
theorem pgArr_all (th : List Int) : (pgArr th th.length).toList = th.map (fun k => Value.int .u32 (256 * k)) := by
  unfold pgArr
  apply List.ext_getElem?
  intro j
  by_cases hj : j < th.length
  · simp [hj]
  · simp [hj]

set_option maxHeartbeats 1000000 in
theorem Pages_c (h : OwnL w mb F N S L) :
    Calls Tryd.prog 29 #[.pointer (some ⟨mb, 0, none⟩)] w fun e w' => e = .returned (.slice (some ⟨w.heap.size, 0, none⟩) S.th.length S.th.length) ∧ Gr w w' ∧ w'.heap[w.heap.size]? = some (.cells (pgArr S.th S.th.length) 25 (0, 0)) := by
  have c1 := h.c1
  have hbud := h.ok.budget
  have hlen : S.th.length ≤ 4096 := by have := h.ok.len; omega
  have hmb := h.lt _ h.Fm
  have hmk := run_make_row' (P := Tryd.prog) 29 25 (.int .u32 0) 4 Tryd.underlying29 infoU rfl .i64 .i64 S.th.length (by omega) (by omega)
  have hmb2 : (w.alloc (.cells (madeCells #[Value.int .u32 0] S.th.length) 25)).cell? ⟨mb, 1, none⟩ = some L.v := by
    rw [((Gr.refl w).alloc _ _).cell mb 1 hmb]; exact c1
  have rng := h.ok.rng
  obtain ⟨n, hn⟩ : ∃ n, n = S.th.length := ⟨_, rfl⟩
  rcases row_cells h.row with ⟨hnil, hv⟩ | ⟨g, cap, hv, hc⟩
  · rw [hv] at c1 hmb2
    rw [hnil] at hmk hmb2 ⊢
    have hmk0 : ∀ w, (Instr.makeSlice 29 (.int .i64 0) (.int .i64 0)).run Tryd.prog w = .ok (.slice (some ⟨w.heap.size, 0, none⟩) 0 0) (w.alloc (.cells (madeCells #[.int .u32 0] 0) 25)) := hmk
    have hmb0 : (w.alloc (.cells (madeCells #[Value.int .u32 0] 0) 25)).cell? ⟨mb, 1, none⟩ = some (.slice none 0 0) := hmb2
    clear hmk hmb2
    go_enter Tryd.func29, Tryd.ntmps29
    go_wp2_with fail
    refine wp_loop_rounds 1 ?_
    rw [rounds_succ]; go_wp2_with fail
    go_ret
    refine ⟨rfl, (Gr.refl w).alloc _ _, ?_⟩
    rw [show pgArr [] 0 = madeCells #[Value.int .u32 0] 0 from (pgArr_zero []).symm]
    exact heap_alloc_new w _
  · rw [hv] at c1 hmb2
    have gl : 0 < S.th.length → g < w.heap.size := fun h0 => World.block_lt_of_cell? w ⟨g, 0, none⟩ (hc 0 h0)
    have PZ := pgArr_zero S.th
    rw [← hn] at hmk c1 hmb2 hlen PZ
    rw [← hn]
    have HN : Hid (n = S.th.length) := hn
    clear hn
    go_enter Tryd.func29, Tryd.ntmps29
    go_wp2_with fail
    go_loopw [17] (fun x wr => ∃ m : Nat, m ≤ n ∧ x = .int .i64 m ∧ Gr w wr ∧ wr.heap[w.heap.size]? = some (.cells (pgArr S.th m) 25 (0, 0))) (fun x _ => n - (intOf x).toNat)
    case atStart =>
      refine ⟨0, Nat.zero_le _, rfl, (Gr.refl w).alloc _ _, ?_⟩
      rw [← PZ]; exact heap_alloc_new w _
    case round =>
      obtain ⟨m, hm, rfl, hg, hb⟩ := hrel
      by_cases hmc : m = n
      · subst hmc
        go_wp2_with fail
        go_ret
        exact ⟨rfl, hg, hb⟩
      · have hlt : (m : Int) < (n : Int) := by omega
        have hlt2 : m < S.th.length := by have := HN.out; omega
        have hd := hc m hlt2
        rw [← hg.cell g m (gl (by omega))] at hd
        have hk := rng (S.th[m]?.getD 0) (by simp [hlt2])
        obtain ⟨hk0, hk1⟩ := hk
        have hcell := cell_of_row wr w.heap.size m _ _ _ hb
        rw [pgArr_at hlt2] at hcell
        have hfz : wr.frozen? ⟨w.heap.size, m, none⟩ = false := by simp [World.frozen?, hb]
        obtain ⟨k, hk⟩ : ∃ k, k = S.th[m]?.getD 0 := ⟨_, rfl⟩
        rw [← hk] at hd hk0 hk1
        have HK : Hid _ := hk
        clear hmc hk
        go_wp2_with fail
        go_roundw
        case rel =>
          refine ⟨m + 1, by omega, by simp, hg.setCell (Nat.le_refl _) _, ?_⟩
          rw [heap_setCell_same hb, pgArr_set hlt2 (by rw [← HK.out]; omega)]
        case measure => simp [intOf]; omega
end
end Go.Proofs.YtbackacbdfgdoaaDoor
