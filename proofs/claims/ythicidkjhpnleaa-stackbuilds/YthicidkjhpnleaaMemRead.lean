/- THE WALKS OF LAYER 3: Read. -/
import Derived.Test.YthicidkjhpnleaaMemParts
import Derived.Laws.MakeOwn
namespace Go.Proofs.Ythicidkjhpnleaa
open Go.ChangeShapes Go.WideShapes Go.ChangeAt Go.RowKit
set_option linter.unusedSimpArgs false
set_option linter.unusedVariables false

theorem IsPg.gr {w w' : World} {b : Nat} {p : Pg} (h : IsPg w b p) (g : Gr w w') : IsPg w' b p := (g.b.block b h.lt).trans h
theorem IsPg.alloc {w : World} {b : Nat} {p : Pg} (h : IsPg w b p) (o : Obj) : IsPg (w.alloc o) b p := (Below.heap_alloc w o b h.lt).trans h
theorem bytes_c {w : World} {pb : Nat} {p : Pg} (hp : IsPg w pb p) (f t : Int) (h1 : 0 ≤ f) (h2 : f < 256) (h3 : f ≤ t) (h4 : t ≤ 256) :
    Calls Try.prog 29 #[.agg #[.pointer (some ⟨pb, 0, none⟩), .int .i64 f, .int .i64 t]] w fun e w' => e = .returned (.slice (some ⟨pb, f.toNat, none⟩) (t - f).toNat (256 - f).toNat) ∧ Gr w w' := by
  have hlt := hp.lt
  go_enter Try.func29, Try.ntmps29
  go_wp2_with fail
  go_quiet (fail)
  go_wp2_with fail
  go_returns
  refine ⟨?_, ?_⟩
  · show Ending.returned (.slice (some ⟨pb, f.toNat, none⟩) (t.toNat - f.toNat) (256 - f.toNat)) = _
    rw [show t.toNat - f.toNat = (t - f).toNat by omega, show 256 - f.toNat = (256 - f).toNat by omega]
  (repeat' (first | (with_reducible assumption) | (with_reducible exact Gr.refl _) | (with_reducible refine Gr.alloc ?_ _ _) | (with_reducible refine Gr.drew ?_) | (with_reducible refine Gr.drewN ?_ _) | (with_reducible refine Gr.setCell ?_ ?_ _) | (with_reducible refine Gr.trans ?_ (by assumption)) | omega | (dsimp only; omega) | (simp; done) | (simp; omega)))

theorem part_bounds {a : Int} {n j : Nat} (hj : j < cnt a n) : 0 ≤ pFrom a j ∧ pFrom a j < 256 ∧ pFrom a j < pTo a n j ∧ pTo a n j ≤ 256 := by
  have h := cnt_lt hj
  unfold pFrom pTo
  refine ⟨?_, ?_, ?_, ?_⟩
  · split <;> omega
  · split <;> omega
  · by_cases e : j = 0
    · subst e; simp; split <;> omega
    · rw [if_neg e]; split <;> omega
  · split <;> omega
/-- How many bytes the first j parts hold. -/
def cum (a : Int) (n j : Nat) : Nat := if j = 0 then 0 else (if a % 256 + n ≤ 256 * (j : Int) then n else (256 * (j : Int) - a % 256).toNat)
theorem cnt_le (a : Int) (n : Nat) : cnt a n ≤ n + 1 := by
  have h0 : 0 ≤ a % 256 ∧ a % 256 < 256 := by omega
  unfold cnt; split <;> omega
theorem cum_zero (a : Int) (n : Nat) : cum a n 0 = 0 := by simp [cum]
theorem cum_step {a : Int} {n j : Nat} (hj : j < cnt a n) : cum a n (j + 1) = cum a n j + (pTo a n j - pFrom a j).toNat := by
  have h := cnt_lt hj
  have h0 : 0 ≤ a % 256 ∧ a % 256 < 256 := by omega
  have hs : cum a n (j + 1) = if a % 256 + n ≤ 256 * (j : Int) + 256 then n else (256 * (j : Int) + 256 - a % 256).toNat := by
    unfold cum
    rw [if_neg (by omega), show 256 * ((j + 1 : Nat) : Int) = 256 * (j : Int) + 256 by omega]
  rw [hs]
  by_cases e : j = 0
  · subst e
    simp only [cum, pFrom, pTo, if_true]
    by_cases c : a % 256 + n ≤ 256 * (((0 : Nat) : Int)) + 256
    · rw [if_pos c, if_pos c]; omega
    · rw [if_neg c, if_neg c]; omega
  · have e1 : pFrom a j = 0 := by simp [pFrom, e]
    have e2 : cum a n j = (256 * (j : Int) - a % 256).toNat := by unfold cum; rw [if_neg e, if_neg (by omega)]
    rw [e1, e2]
    unfold pTo
    by_cases c : a % 256 + n ≤ 256 * (j : Int) + 256
    · rw [if_pos c, if_pos c]; omega
    · rw [if_neg c, if_neg c]; omega
theorem cum_end (a : Int) (n : Nat) : cum a n (cnt a n) = n := by
  unfold cum
  by_cases e : n = 0
  · subst e; simp [cnt]
  · have h0 : 0 ≤ a % 256 ∧ a % 256 < 256 := by omega
    have : cnt a n = ((a % 256).toNat + n + 255) / 256 := by simp [cnt, e]
    rw [if_neg (by omega), if_pos (by omega)]
theorem cum_at {a : Int} {n j : Nat} (hj : j < cnt a n) {i : Nat} (hi : i < (pTo a n j - pFrom a j).toNat) : (a + ((cum a n j + i : Nat) : Int)) / 256 = a / 256 + j ∧ ((a + ((cum a n j + i : Nat) : Int)) % 256).toNat = (pFrom a j).toNat + i := by
  have h := cnt_lt hj
  have hb := part_bounds hj
  have h0 : 0 ≤ a % 256 ∧ a % 256 < 256 := by omega
  by_cases e : j = 0
  · subst e
    have e1 : pFrom a 0 = a % 256 := by simp [pFrom]
    have e2 : cum a n 0 = 0 := cum_zero a n
    rw [e1] at hi hb ⊢
    rw [e2]
    omega
  · have e1 : pFrom a j = 0 := by simp [pFrom, e]
    have e2 : cum a n j = (256 * (j : Int) - a % 256).toNat := by unfold cum; rw [if_neg e, if_neg (by omega)]
    rw [e1] at hi hb ⊢
    rw [e2]
    omega
def MS.at (S : MS) (x : Int) : Int := match S.pg (x / 256) with | some p => p.byt (x % 256).toNat | none => 0
theorem MS.at_u8 {S : MS} (h : S.Ok) (x : Int) : 0 ≤ S.at x ∧ S.at x < 256 := by
  unfold MS.at
  cases e : S.pg (x / 256) with
  | none => simp
  | some p => exact (h.pg _ _ e).byt _
/-- The first m bytes from a on. -/
def MS.bytes (S : MS) (a : Int) (m : Nat) : List Value := (List.range m).map (fun i : Nat => Value.int .u8 (S.at (a + (i : Int))))
theorem bytes_length (S : MS) (a : Int) (m : Nat) : (S.bytes a m).length = m := by simp [MS.bytes]
theorem bytes_step {S : MS} {a : Int} {n j : Nat} (hj : j < cnt a n) {p : Pg} (hp : S.pg (a / 256 + j) = some p) :
    S.bytes a (cum a n (j + 1)) = S.bytes a (cum a n j) ++ (List.range (pTo a n j - pFrom a j).toNat).map (fun i : Nat => Value.int .u8 (p.byt ((pFrom a j).toNat + i))) := by
  rw [cum_step hj]
  unfold MS.bytes
  rw [List.range_add, List.map_append, List.map_map]
  congr 1
  apply List.map_congr_left
  intro i hi
  simp only [List.mem_range] at hi
  obtain ⟨e1, e2⟩ := cum_at hj hi
  simp only [Function.comp]
  unfold MS.at
  rw [e1, hp]
  simp only
  rw [e2]
theorem rowP_length (L : Lay) (a : Int) (n : Nat) : ∀ c, (rowP L a n c).length = 3 * c
  | 0 => rfl
  | c + 1 => by simp [rowP, rowP_length L a n c, partOf]; omega
theorem rowP_at (L : Lay) (a : Int) (n : Nat) : ∀ c j, j < c → ∀ i, i < 3 → (rowP L a n c)[3 * j + i]? = (partOf L a n j)[i]?
  | 0, j, h, _, _ => by omega
  | c + 1, j, h, i, hi => by
    show (rowP L a n c ++ partOf L a n c)[3 * j + i]? = _
    have hl := rowP_length L a n c
    by_cases e : j = c
    · subst e
      rw [List.getElem?_append_right (by omega), hl]
      congr 1; omega
    · rw [List.getElem?_append_left (by omega)]
      exact rowP_at L a n c j (by omega) i hi
/-- The parts' cells, as they lie in the list. -/
theorem parts_cells {w : World} {L : Lay} {a : Int} {n c : Nat} {v : Value} (h : w.ownsRow 0 74 3 v c (rowP L a n c)) : (c = 0 ∧ v = .slice none 0 0) ∨ ∃ g cap, v = .slice (some ⟨g, 0, none⟩) c cap ∧ c ≤ cap ∧
    ∀ j, j < c → w.cell? ⟨g, j * 3, none⟩ = some (pv (L.bk (a / 256 + j))) ∧ w.cell? ⟨g, j * 3 + 1, none⟩ = some (.int .i64 (pFrom a j)) ∧ w.cell? ⟨g, j * 3 + 2, none⟩ = some (.int .i64 (pTo a n j)) := by
  rcases h.2 with ⟨h1, h2⟩ | ⟨g, cap, cur, h1, _, hg, hc, _, hsz, htk⟩
  · exact .inl ⟨h2, h1⟩
  · refine .inr ⟨g, cap, h1, hc, fun j hj => ?_⟩
    have key : ∀ i, i < 3 → w.cell? ⟨g, 3 * j + i, none⟩ = (partOf L a n j)[i]? := by
      intro i hi
      rw [cell_of_row w g (3 * j + i) cur _ (0, 0) hg, ← rowP_at L a n c j hj i hi, ← htk, List.getElem?_take, if_pos (by omega)]
      simp
    rw [Nat.mul_comm 3 j] at key
    exact ⟨key 0 (by omega), key 1 (by omega), key 2 (by omega)⟩

structure RRel (w2 : World) (S : MS) (a : Int) (n j : Nat) (v : Value) (wr : World) : Prop where
  row : wr.ownsRow 0 5 1 v (cum a n j) (S.bytes a (cum a n j))
  blk : ∀ g, v.ownBlock = some g → w2.heap.size ≤ g
  gr : Gr w2 wr

set_option maxRecDepth 100000 in
set_option maxHeartbeats 1000000 in
theorem Read_ok {w : World} {mb : Nat} {F : Nat → Prop} {N : Nat} {S : MS} {L : Lay} (h : OwnL w mb F N S L) (a : Int) (n : Nat) (ha : U4 a) (hn : n ≤ 4096) (hm : May S a n 1) :
    Calls Try.prog 16 #[.pointer (some ⟨mb, 0, none⟩), .int .u32 a, .int .i64 n] w fun e w' => Gr w w' ∧ ∃ v, e = .returned (.tuple #[v, .int .i64 0]) ∧ w'.ownsRow 0 5 1 v n (S.bytes a n) ∧ ∀ g, v.ownBlock = some g → w.heap.size ≤ g := by
  have hp := parts_c h a n 1 ha (by omega)
  obtain ⟨i0, hi, hz0, hz1, hz2⟩ := info_parts infoB
  have hmk : ∀ w, (Instr.makeSlice 23 (.int .i64 0) (.int .i64 (n : Int))).run Try.prog w = .ok (.slice (some ⟨w.heap.size, 0, none⟩) 0 n) (w.alloc (.cells (madeCells #[.int .u8 0] n) 5)) := fun w => by
    have := run_make (P := Try.prog) w 23 5 i0 _ Try.underlying23 hi hz0 .i64 .i64 0 n (by omega) (by omega) (by rw [hz2]; omega) (by omega)
    rw [hz1] at this
    simpa [Value.cells] using this
  have hn0 : decide ((n : Int) < 0) = false := by simp
  have hn1 : decide ((4096 : Int) < n) = false := by simp; omega
  go_enter Try.func16, Try.ntmps16
  go_wp2_with fail
  refine hp.mono ?_
  rintro e w2 ⟨g2, (⟨_, vl, rfl, hrow, hblk⟩ | ⟨hno, _⟩)⟩
  · rcases parts_cells hrow with ⟨hc0, rfl⟩ | ⟨gl, cap, rfl, hcap, hcell⟩
    · have hn00 : n = 0 := by
        unfold cnt at hc0
        split at hc0
        · assumption
        · omega
      subst hn00
      have hmk0 : ∀ w, (Instr.makeSlice 23 (.int .i64 0) (.int .i64 0)).run Try.prog w = .ok (.slice (some ⟨w.heap.size, 0, none⟩) 0 0) (w.alloc (.cells (madeCells #[.int .u8 0] 0) 5)) := hmk
      go_wp2_with fail
      refine wp_loop_rounds 1 ?_
      rw [rounds_succ]; go_wp2_with fail
      go_returns
      refine ⟨g2.trans ((Gr.refl _).alloc _ _), _, rfl, ?_, fun g hg => by simp [Value.ownBlock] at hg; have := g2.size; omega⟩
      exact World.ownsRow_made w2 _ 0 (Nat.zero_le _) (by unfold maxLen; omega) (by simp [madeCells])
    · have hgl := hblk gl rfl
      obtain ⟨c, hc⟩ : ∃ c, c = cnt a n := ⟨_, rfl⟩
      have hcb : c ≤ 65536 := by rw [hc]; exact Nat.le_trans (cnt_le a n) (by omega)
      rw [← hc] at hcell hcap ⊢
      go_wp2_with fail
      go_loopw [10, 33] (fun v x wr => ∃ j : Nat, j ≤ c ∧ x = .int .i64 j ∧ RRel w2 S a n j v wr) (fun _ x _ => c - (intOf x).toNat)
      case atStart =>
        refine ⟨0, Nat.zero_le _, rfl, ?_, fun g hg => by simp [Value.ownBlock] at hg; omega, (Gr.refl _).alloc _ _⟩
        rw [cum_zero]
        exact World.ownsRow_made w2 _ n (Nat.zero_le _) (by unfold maxLen; omega) (by simp [madeCells])
      case round =>
        obtain ⟨j, hj, rfl, hR⟩ := hrel
        by_cases hjc : j = c
        · have fin := hR.row
          rw [hjc, hc, cum_end] at fin
          have FIN : Hid _ := fin
          clear fin
          subst hjc
          go_wp2_with fail
          go_returns
          exact ⟨g2.trans hR.gr, _, rfl, FIN.out, fun g hg => Nat.le_trans g2.size (hR.blk g hg)⟩
        · have hjl : j < c := by omega
          have hlt : (j : Int) < (c : Int) := by omega
          obtain ⟨q0, q1, q2⟩ := hcell j hjl
          replace q0 := hR.gr.keep q0
          replace q1 := hR.gr.keep q1
          replace q2 := hR.gr.keep q2
          obtain ⟨p, hpg, _⟩ := hm.2 j (by omega)
          have hjn : j < cnt a n := by omega
          have hro : OwnL wr mb F N S L := (h.gr g2).gr hR.gr
          obtain ⟨b, hb, hq, hF⟩ := hro.pgb hpg
          rw [hb] at q0
          simp only [pv] at q0
          obtain ⟨y1, y2, y3, y4⟩ := part_bounds hjn
          have bst := bytes_step hjn hpg
          have hst := cum_step hjn
          have hcum : cum a n (j + 1) ≤ n := by
            by_cases x : j + 1 = cnt a n
            · rw [x, cum_end]; omega
            · have := cnt_next hjn
              unfold cum; rw [if_neg (by omega)]; split <;> omega
          obtain ⟨f, hf⟩ : ∃ f, f = pFrom a j := ⟨_, rfl⟩
          obtain ⟨t, ht⟩ : ∃ t, t = pTo a n j := ⟨_, rfl⟩
          rw [← hf] at q1 y1 y2 y3 bst hst
          rw [← ht] at q2 y3 y4 bst hst
          have hby := bytes_c (hq.alloc (.cells #[.pointer (some ⟨b, 0, none⟩), .int .i64 f, .int .i64 t] 74)) f t y1 y2 (by omega) y4
          clear hf ht hcell hjc hpg hb
          go_wp2_with fail
          refine hby.mono ?_
          rintro e w3 ⟨rfl, g3⟩
          have g4 : Gr wr w3 := ((Gr.refl wr).alloc _ _).trans g3
          have hq3 := hq.gr g4
          have hrow3 := row_congr hR.row (w' := w3) (fun g hg => g4.b.block g (by obtain ⟨cc, oc⟩ := row_obj hR.row hg; exact (Array.getElem?_eq_some_iff.1 oc).1))
          obtain ⟨v', w4, hrun, hown, hfr, hloc⟩ := append_fr (t := 23) (ty := 23) w3 Try.underlying23 hi hz0 hz1 hz2 rfl hrow3 ⟨b, f.toNat, none⟩ (t - f).toNat (256 - f).toNat ((List.range (t - f).toNat).map (fun i : Nat => Value.int .u8 (p.byt (f.toNat + i)))) (by simp)
            (fun i u hu => by
              simp only [List.getElem?_map] at hu
              by_cases hi2 : i < (t - f).toNat
              · rw [List.getElem?_range hi2] at hu
                simp at hu
                rw [← hu, Addr.add_lit]
                exact hq3.byt (by omega)
              · rw [List.getElem?_eq_none (by simp; omega)] at hu; simp at hu)
            (fun u hu => by simp at hu; obtain ⟨i, _, rfl⟩ := hu; rfl) (by omega) (by omega) (by omega)
          have RR : RRel w2 S a n (j + 1) v' w4 := by
            refine ⟨by rw [bst, hst]; exact hown, fun g hg => ?_, ?_⟩
            · rcases hloc with e | e
              · exact hR.blk g (e.symm.trans hg)
              · rw [e] at hg; cases hg; exact Nat.le_trans hR.gr.size g4.size
            · exact ((((hR.gr.trans g4).fr _).trans hfr (fun _ _ x => x)).gr (fun i hi e => by have := hR.blk i e; omega))
          clear hown hfr hloc bst hst hrow3 hby
          go_wp2_with (first | (at_builtin; refine wpList_append_eq rfl _ _ 23 rfl rfl rfl hrun ?_) | go_in)
          go_roundw
          case rel => exact ⟨j + 1, by omega, by simp, RR⟩
          case measure => simp [intOf]; omega
  · exact absurd hm hno
end Go.Proofs.Ythicidkjhpnleaa
