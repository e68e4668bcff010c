/- THE WALKS OF LAYER 3: Write, Poke; Read refused. -/
import Derived.Test.YthicidkjhpnleaaMemRead
namespace Go.Proofs.Ythicidkjhpnleaa
open Go.ChangeShapes Go.WideShapes Go.ChangeAt Go.RowKit
set_option linter.unusedSimpArgs false
set_option linter.unusedVariables false

theorem Read_no {w : World} {mb : Nat} {F : Nat → Prop} {N : Nat} {S : MS} {L : Lay} (h : OwnL w mb F N S L) (a : Int) (n : Nat) (ha : U4 a) (hn : n ≤ 4096) (hm : ¬ May S a n 1) :
    Calls Try.prog 16 #[.pointer (some ⟨mb, 0, none⟩), .int .u32 a, .int .i64 n] w fun e w' => e = .returned (.tuple #[.slice none 0 0, .int .i64 8]) ∧ Gr w w' := by
  have hp := parts_c h a n 1 ha (by omega)
  have hn0 : decide ((n : Int) < 0) = false := by simp
  have hn1 : decide ((4096 : Int) < n) = false := by simp; omega
  go_enter Try.func16, Try.ntmps16
  go_wp2_with fail
  refine hp.mono ?_
  rintro e w2 ⟨g2, (⟨hy, _⟩ | ⟨hno, rfl⟩)⟩
  · exact absurd hy hm
  · go_wp2_with fail
    go_returns
    exact ⟨rfl, g2⟩
theorem Read_arg {w : World} {mb : Nat} (a n : Int) (hn : n < 0 ∨ 4096 < n) :
    Calls Try.prog 16 #[.pointer (some ⟨mb, 0, none⟩), .int .u32 a, .int .i64 n] w fun e w' => e = .returned (.tuple #[.slice none 0 0, .int .i64 1]) ∧ w' = w := by
  rcases hn with h | h
  · go_enter Try.func16, Try.ntmps16
    go_wp2_with fail
    go_returns
    exact ⟨rfl, rfl⟩
  · have h0 : ¬ n < 0 := by omega
    go_enter Try.func16, Try.ntmps16
    go_wp2_with fail
    go_returns
    exact ⟨rfl, rfl⟩

def putPg (a : Int) (n : Nat) (bs : Nat → Int) (k : Int) (p : Pg) : Pg :=
  { p with byt := fun i => if a ≤ 256 * k + i ∧ 256 * k + i < a + n then bs (256 * k + i - a).toNat else p.byt i, gen := (p.gen + 1) % 4294967296 }
def MS.putJ (S : MS) (a : Int) (n : Nat) (bs : Nat → Int) (j : Nat) : MS := { S with pg := fun k => if a / 256 ≤ k ∧ k < a / 256 + j then (S.pg k).map (putPg a n bs k) else S.pg k }
def MS.put (S : MS) (a : Int) (n : Nat) (bs : Nat → Int) : MS := S.putJ a n bs (cnt a n)
theorem putJ_zero (S : MS) (a : Int) (n : Nat) (bs : Nat → Int) : S.putJ a n bs 0 = S := by
  unfold MS.putJ
  have : (fun k => if a / 256 ≤ k ∧ k < a / 256 + ((0 : Nat) : Int) then (S.pg k).map (putPg a n bs k) else S.pg k) = S.pg := by
    funext k; rw [if_neg (by omega)]
  rw [this]
theorem putJ_step {S : MS} {a : Int} {n : Nat} {bs : Nat → Int} {j : Nat} {p : Pg} (hp : S.pg (a / 256 + j) = some p) :
    { S.putJ a n bs j with pg := upd (S.putJ a n bs j).pg (a / 256 + j) (some (putPg a n bs (a / 256 + j) p)) } = S.putJ a n bs (j + 1) := by
  unfold MS.putJ
  simp only [MS.mk.injEq, true_and, and_true]
  funext k
  unfold upd
  by_cases e : k = a / 256 + j
  · subst e
    rw [if_pos rfl, if_pos (by omega), hp]; rfl
  · rw [if_neg e]
    show (if a / 256 ≤ k ∧ k < a / 256 + j then (S.pg k).map (putPg a n bs k) else S.pg k) = _
    by_cases c : a / 256 ≤ k ∧ k < a / 256 + j
    · rw [if_pos c, if_pos (by omega)]
    · rw [if_neg c, if_neg (by omega)]
theorem putJ_pg {S : MS} {a : Int} {n : Nat} {bs : Nat → Int} {j : Nat} : (S.putJ a n bs j).pg (a / 256 + j) = S.pg (a / 256 + j) := by
  unfold MS.putJ
  simp only
  rw [if_neg (by omega)]
theorem putPg_ok {a : Int} {n : Nat} {bs : Nat → Int} {k : Int} {p : Pg} (h : p.Ok) (hb : ∀ i, 0 ≤ bs i ∧ bs i < 256) : (putPg a n bs k p).Ok := by
  refine ⟨fun i => ?_, h.perm, ?_⟩
  · simp only [putPg]
    split
    · exact hb _
    · exact h.byt i
  · simp only [putPg]; unfold U4; omega
/-- The copied bytes in the page's cells. -/
theorem copied_arr {a : Int} {n j : Nat} (hj : j < cnt a n) (p : Pg) (bs : Nat → Int) (a0 : 0 ≤ a) :
    (p.arr.toList.take (pFrom a j).toNat ++ (List.range (pTo a n j - pFrom a j).toNat).map (fun i : Nat => Value.int .u8 (bs (cum a n j + i))) ++ p.arr.toList.drop ((pFrom a j).toNat + (pTo a n j - pFrom a j).toNat)).toArray =
      ({ putPg a n bs (a / 256 + j) p with gen := p.gen } : Pg).arr := by
  have hb := part_bounds hj
  have hl := cnt_lt hj
  have h0 : 0 ≤ a % 256 ∧ a % 256 < 256 := by omega
  have hs : p.arr.toList.length = 258 := by simp [p.arr_size]
  have cell : ∀ i : Nat, i < 256 → (a ≤ 256 * (a / 256 + (j : Int)) + i ∧ 256 * (a / 256 + (j : Int)) + i < a + n ↔ (pFrom a j).toNat ≤ i ∧ i < (pTo a n j).toNat) := by
    intro i hi
    unfold pFrom pTo
    by_cases e : j = 0
    · subst e; simp only [if_true]; split <;> omega
    · simp only [if_neg e]; split <;> omega
  have idx : ∀ i : Nat, (pFrom a j).toNat ≤ i → i < (pTo a n j).toNat → (256 * (a / 256 + (j : Int)) + i - a).toNat = cum a n j + (i - (pFrom a j).toNat) := by
    intro i h1 h2
    obtain ⟨c1, c2⟩ := cum_at hj (i := i - (pFrom a j).toNat) (by omega)
    omega
  have get : ∀ i, i < 258 → ((p.arr.toList.take (pFrom a j).toNat ++ (List.range (pTo a n j - pFrom a j).toNat).map (fun i : Nat => Value.int .u8 (bs (cum a n j + i))) ++ p.arr.toList.drop ((pFrom a j).toNat + (pTo a n j - pFrom a j).toNat)).toArray)[i]? =
      if (pFrom a j).toNat ≤ i ∧ i < (pTo a n j).toNat then some (.int .u8 (bs (cum a n j + (i - (pFrom a j).toNat)))) else p.arr[i]? := by
    intro i hi
    simp only [List.getElem?_toArray]
    by_cases c1 : i < (pFrom a j).toNat
    · rw [if_neg (by omega), List.getElem?_append_left (by simp [hs]; omega), List.getElem?_append_left (by simp [hs]; omega), List.getElem?_take, if_pos c1]; simp
    · by_cases c2 : i < (pTo a n j).toNat
      · rw [if_pos ⟨by omega, c2⟩, List.getElem?_append_left (by simp [hs]; omega), List.getElem?_append_right (by simp [hs]; omega)]
        rw [show (List.take (pFrom a j).toNat p.arr.toList).length = (pFrom a j).toNat by simp [hs]; omega]
        simp [show i - (pFrom a j).toNat < (pTo a n j - pFrom a j).toNat by omega]
      · rw [if_neg (by omega), List.getElem?_append_right (by simp [hs]; omega), List.getElem?_drop]
        rw [show (List.take (pFrom a j).toNat p.arr.toList ++ List.map (fun i : Nat => Value.int IntKind.u8 (bs (cum a n j + i))) (List.range (pTo a n j - pFrom a j).toNat)).length = (pFrom a j).toNat + (pTo a n j - pFrom a j).toNat by simp [hs]; omega]
        rw [show (pFrom a j).toNat + (pTo a n j - pFrom a j).toNat + (i - ((pFrom a j).toNat + (pTo a n j - pFrom a j).toNat)) = i by omega]
        simp
  apply arr_ext
  · simp [hs]; omega
  · intro i hi
    rw [get i (by omega)]
    simp only [putPg]
    have := cell i hi
    by_cases c : (pFrom a j).toNat ≤ i ∧ i < (pTo a n j).toNat
    · rw [if_pos c, if_pos (this.2 c), idx i c.1 c.2]
    · rw [if_neg c, if_neg (fun x => c (this.1 x)), p.arr_byt hi]
  · rw [get 256 (by omega), if_neg (by omega), p.arr_perm]; rfl
  · rw [get 257 (by omega), if_neg (by omega), p.arr_gen]

structure URel (w2 : World) (mb : Nat) (F : Nat → Prop) (N : Nat) (S : MS) (L : Lay) (a : Int) (n : Nat) (bs : Nat → Int) (bb bo cap j : Nat) (v : Value) (wr : World) : Prop where
  own : OwnL wr mb F N (S.putJ a n bs j) L
  fr : Fr F w2 wr
  val : j < cnt a n → v = .slice (some ⟨bb, bo + cum a n j, none⟩) (n - cum a n j) (cap - cum a n j)

theorem put_empty {w : World} {mb : Nat} {F : Nat → Prop} {N : Nat} {S : MS} {L : Lay} (h : OwnL w mb F N S L) (a : Int) (need most : Int) (ha : U4 a) (q : Option Addr) (cap : Nat) (hmo : 0 ≤ most) :
    Calls Try.prog 38 #[.pointer (some ⟨mb, 0, none⟩), .int .u32 a, .slice q 0 cap, .int .i64 most, .int .i64 need] w fun e w' => e = .returned (.int .i64 0) ∧ Gr w w' := by
  have hp := parts_c h a 0 need ha (by omega)
  obtain ⟨a0, a1⟩ := ha
  have hmo' : ¬ most < 0 := by omega
  go_enter Try.func38, Try.ntmps38
  go_wp2_with fail
  refine hp.mono ?_
  rintro e w2 ⟨g2, (⟨_, vl, rfl, hrow, hblk⟩ | ⟨hno, _⟩)⟩
  · obtain ⟨q', cap', rfl⟩ : ∃ q' cap', vl = .slice q' 0 cap' := by
      rcases hrow.2 with ⟨rfl, _⟩ | ⟨g, c, cur, rfl, _⟩
      · exact ⟨_, _, rfl⟩
      · exact ⟨_, _, rfl⟩
    go_wp2_with fail
    refine wp_loop_rounds 1 ?_
    rw [rounds_succ]; go_wp2_with fail
    go_returns
    exact ⟨rfl, g2⟩
  · exact absurd ⟨by omega, fun j hj => by simp [cnt] at hj⟩ hno
theorem put_no {w : World} {mb : Nat} {F : Nat → Prop} {N : Nat} {S : MS} {L : Lay} (h : OwnL w mb F N S L) (a : Int) (n : Nat) (need most : Int) (ha : U4 a) (hn : (n : Int) ≤ most) (hmo : most ≤ 65536) (hm : ¬ May S a n need) (q : Option Addr) (cap : Nat) :
    Calls Try.prog 38 #[.pointer (some ⟨mb, 0, none⟩), .int .u32 a, .slice q n cap, .int .i64 most, .int .i64 need] w fun e w' => e = .returned (.int .i64 8) ∧ Gr w w' := by
  have hp := parts_c h a n need ha (by omega)
  have hmo' : ¬ most < (n : Int) := by omega
  go_enter Try.func38, Try.ntmps38
  go_wp2_with fail
  refine hp.mono ?_
  rintro e w2 ⟨g2, (⟨hy, _⟩ | ⟨hno, rfl⟩)⟩
  · exact absurd hy hm
  · go_wp2_with fail
    go_returns
    exact ⟨rfl, g2⟩
theorem put_arg {w : World} {mb : Nat} (a : Int) (n : Nat) (need most : Int) (hn : most < (n : Int)) (q : Option Addr) (cap : Nat) :
    Calls Try.prog 38 #[.pointer (some ⟨mb, 0, none⟩), .int .u32 a, .slice q n cap, .int .i64 most, .int .i64 need] w fun e w' => e = .returned (.int .i64 1) ∧ w' = w := by
  go_enter Try.func38, Try.ntmps38
  go_wp2_with fail
  go_returns
  exact ⟨rfl, rfl⟩

set_option maxRecDepth 100000 in
set_option maxHeartbeats 1000000 in
theorem put_ok {w : World} {mb : Nat} {F : Nat → Prop} {N : Nat} {S : MS} {L : Lay} (h : OwnL w mb F N S L) (a : Int) (n : Nat) (need most : Int) (ha : U4 a) (hn0 : 0 < n) (hn : (n : Int) ≤ most) (hmo : most ≤ 65536) (hm : May S a n need)
    (bb bo cap : Nat) (bs : Nat → Int) (hcap : n ≤ cap) (hbs : ∀ i, i < n → w.cell? ⟨bb, bo + i, none⟩ = some (.int .u8 (bs i))) (hb8 : ∀ i, 0 ≤ bs i ∧ bs i < 256) (hF : ¬ F bb) :
    Calls Try.prog 38 #[.pointer (some ⟨mb, 0, none⟩), .int .u32 a, .slice (some ⟨bb, bo, none⟩) n cap, .int .i64 most, .int .i64 need] w fun e w' => e = .returned (.int .i64 0) ∧ Fr F w w' ∧ OwnL w' mb F N (S.put a n bs) L := by
  have hp := parts_c h a n need ha (by omega)
  have hmo' : ¬ most < (n : Int) := by omega
  have hlb : bb < w.heap.size := World.block_lt_of_cell? w ⟨bb, bo + 0, none⟩ (hbs 0 hn0)
  have hsz5 : (Try.prog.info? 5).map (·.size) = some 1 := by kernel_rfl
  obtain ⟨a0, a1⟩ := ha
  go_enter Try.func38, Try.ntmps38
  go_wp2_with fail
  refine hp.mono ?_
  rintro e w2 ⟨g2, (⟨_, vl, rfl, hrow, hblk⟩ | ⟨hno, _⟩)⟩
  · rcases parts_cells hrow with ⟨hc0, rfl⟩ | ⟨gl, capl, rfl, hcapl, hcell⟩
    · exfalso
      unfold cnt at hc0
      split at hc0 <;> omega
    · have hgl := hblk gl rfl
      obtain ⟨c, hc⟩ : ∃ c, c = cnt a n := ⟨_, rfl⟩
      have hcb : c ≤ 65537 := by rw [hc]; exact Nat.le_trans (cnt_le a n) (by omega)
      rw [← hc] at hcell hcapl ⊢
      have h2 := h.gr g2
      have zg := g2.size
      go_wp2_with fail
      go_loopw [2, 33] (fun v x wr => ∃ j : Nat, j ≤ c ∧ x = .int .i64 j ∧ URel w2 mb F N S L a n bs bb bo cap j v wr) (fun _ x _ => c - (intOf x).toNat)
      case atStart =>
        refine ⟨0, Nat.zero_le _, rfl, ?_, Fr.refl _ _, fun _ => by rw [cum_zero]; rfl⟩
        rw [putJ_zero]; exact h2
      case round =>
        obtain ⟨j, hj, rfl, hR⟩ := hrel
        by_cases hjc : j = c
        · have fin := hR.own
          rw [hjc, hc] at fin
          have FIN : Hid (OwnL wr mb F N (S.put a n bs) L) := fin
          clear fin
          subst hjc
          go_wp2_with fail
          go_returns
          exact ⟨rfl, (g2.fr F).trans hR.fr (fun _ _ x => x), FIN.out⟩
        · have hjl : j < c := by omega
          have hlt : (j : Int) < (c : Int) := by omega
          have hjn : j < cnt a n := by omega
          obtain ⟨q0, q1, q2⟩ := hcell j hjl
          have lgl : gl < w2.heap.size := World.block_lt_of_cell? w2 ⟨gl, j * 3, none⟩ q0
          have ngl : ¬ F gl := fun x => by have := h.lt _ x; omega
          rw [← hR.fr.cell (p := ⟨gl, j * 3, none⟩) lgl ngl] at q0
          rw [← hR.fr.cell (p := ⟨gl, j * 3 + 1, none⟩) lgl ngl] at q1
          rw [← hR.fr.cell (p := ⟨gl, j * 3 + 2, none⟩) lgl ngl] at q2
          obtain ⟨p, hpg, _⟩ := hm.2 j (by omega)
          have hpg' : (S.putJ a n bs j).pg (a / 256 + j) = some p := putJ_pg.trans hpg
          obtain ⟨b, hb, hq, hFb⟩ := hR.own.pgb hpg'
          rw [hb] at q0
          simp only [pv] at q0
          obtain ⟨y1, y2, y3, y4⟩ := part_bounds hjn
          have hst := cum_step hjn
          have hcum : cum a n (j + 1) ≤ n := by
            by_cases x : j + 1 = cnt a n
            · rw [x, cum_end]; omega
            · have := cnt_next hjn
              unfold cum; rw [if_neg (by omega)]; split <;> omega
          have hcop := copied_arr hjn p bs a0
          have hvv := hR.val hjn
          obtain ⟨f, hf⟩ : ∃ f, f = pFrom a j := ⟨_, rfl⟩
          obtain ⟨t, ht⟩ : ∃ t, t = pTo a n j := ⟨_, rfl⟩
          obtain ⟨cu, hcu⟩ : ∃ cu, cu = cum a n j := ⟨_, rfl⟩
          rw [← hf] at q1 y1 y2 y3 hst hcop
          rw [← ht] at q2 y3 y4 hst hcop
          rw [← hcu] at hst hcop hvv
          have hby := bytes_c (hq.alloc (.cells #[.pointer (some ⟨b, 0, none⟩), .int .i64 f, .int .i64 t] 74)) f t y1 y2 (by omega) y4
          subst hvv
          have HCU : Hid (cu = cum a n j) := hcu
          clear hf ht hcell hjc hpg hp hcu
          obtain ⟨ln, hln⟩ : ∃ ln, ln = n - cu := ⟨_, rfl⟩
          obtain ⟨cp, hcp⟩ : ∃ cp, cp = cap - cu := ⟨_, rfl⟩
          rw [← hln, ← hcp]
          have HLN : Hid (ln = n - cu) := hln
          have HCP : Hid (cp = cap - cu) := hcp
          have hlc : ln ≤ cp := by omega
          clear hln hcp
          go_wp2_with fail
          refine hby.mono ?_
          rintro e w3 ⟨rfl, g3⟩
          have g4 : Gr wr w3 := ((Gr.refl wr).alloc _ _).trans g3
          have hq3 := hq.gr g4
          obtain ⟨d, hd⟩ : ∃ d, d = (t - f).toNat := ⟨_, rfl⟩
          have hd0 : cu + d ≤ n := by omega
          have hdl : d ≤ ln := by have := HLN.out; omega
          have hd1 : 1 ≤ d := by omega
          have hsrc : ∀ i u, ((List.range d).map (fun i : Nat => Value.int .u8 (bs (cu + i))))[i]? = some u → w3.cell? ((⟨bb, bo + cu, none⟩ : Addr).add i) = some u := by
            intro i u hu
            simp only [List.getElem?_map] at hu
            by_cases hi2 : i < d
            · rw [List.getElem?_range hi2] at hu
              simp at hu
              rw [← hu, Addr.add_lit, g4.cell bb _ (Nat.lt_of_lt_of_le hlb (Nat.le_trans zg hR.fr.size)), hR.fr.cell (p := ⟨bb, bo + cu + i, none⟩) (Nat.lt_of_lt_of_le hlb zg) hF, g2.cell bb _ hlb, Nat.add_assoc]
              exact hbs _ (by omega)
            · rw [List.getElem?_eq_none (by simp; omega)] at hu; simp at hu
          have hrun := run_copy_row (P := Try.prog) w3 23 23 3 5 b f.toNat d (256 - f).toNat ⟨bb, bo + cu, none⟩ ln cp p.arr 67 _ Try.underlying23 hsz5 hq3
            (by simp only [List.length_map, List.length_range]; exact (Nat.min_eq_right (by omega)).symm) hsrc (by simp [p.arr_size]; omega) (fun u hu => by simp at hu; obtain ⟨i, _, rfl⟩ := hu; rfl)
          simp only [List.length_map, List.length_range, goInt] at hrun
          rw [← hd] at hcop hst ⊢
          rw [hcop] at hrun
          obtain ⟨w4, hw4⟩ : ∃ w4, w4 = w3.setRow b ({ putPg a n bs (a / 256 + j) p with gen := p.gen } : Pg).arr := ⟨_, rfl⟩
          rw [← hw4] at hrun
          have hq4 : IsPg w4 b { putPg a n bs (a / 256 + j) p with gen := p.gen } := by rw [hw4]; exact setRow_heap _ _ _ _ _ _ hq3
          have fr4 : Fr (fun k => k = b) w3 w4 := by rw [hw4]; exact setRow_fr _ _ _
          have hbl := hq.lt
          have z4 := g4.size
          have z3 := g3.size
          simp only [World.size_alloc] at z3
          have pc : w4.cell? ⟨wr.heap.size, 0, none⟩ = some (.pointer (some ⟨b, 0, none⟩)) := by
            rw [fr4.cell (p := ⟨wr.heap.size, 0, none⟩) (show wr.heap.size < w3.heap.size by omega) (show ¬ wr.heap.size = b by omega)]
            exact g3.keep (by simp)
          have gc : w4.cell? ⟨b, 257, none⟩ = some (.int .u32 p.gen) := hq4.gen
          have gz := hq4.frozen 257
          have q5 := hq4.setGen ((p.gen + 1) % 4294967296)
          have fr5 := fr4.setCell (p := ⟨b, 257, none⟩) (.inl rfl) (.int .u32 ((p.gen + 1) % 4294967296))
          have fr6 : Fr (fun k => k = b) wr (w4.setCell ⟨b, 257, none⟩ (.int .u32 ((p.gen + 1) % 4294967296))) := (g4.fr _).trans fr5 (fun _ _ x => x)
          have UU : ∀ v, (j + 1 < cnt a n → v = .slice (some ⟨bb, bo + (cu + d), none⟩) (ln - d) (cp - d)) → URel w2 mb F N S L a n bs bb bo cap (j + 1) v (w4.setCell ⟨b, 257, none⟩ (.int .u32 ((p.gen + 1) % 4294967296))) := by
            intro v hv
            refine ⟨?_, hR.fr.trans (fr6.mono (G := F) (fun i _ e => e ▸ hFb)) (fun _ _ x => x), fun hx => ?_⟩
            · rw [← putJ_step (putJ_pg.symm.trans hpg')]
              exact hR.own.setPg hb fr6.size (fun i hi ne => fr6.block i (hR.own.lt i hi) ne) q5 (putPg_ok (hR.own.ok.pg _ _ hpg') hb8)
            · rw [hv hx, hst]
              have e1 := HLN.out
              have e2 := HCP.out
              rw [e1, e2, Nat.sub_sub, Nat.sub_sub]
          have hdc : d = cp → ¬ (j + 1 < cnt a n) := by
            intro e hx
            have := cnt_next hjn
            have e1 := HLN.out
            have e2 := HCP.out
            have e3 : cum a n (j + 1) < n := by
              unfold cum; rw [if_neg (by omega), if_neg (by omega)]; omega
            omega
          clear hsrc hcop hw4 fr4 fr5 fr6 hq4 q5 hby hst hd
          go_wp2_with (first | (at_builtin; refine wpList_copy_eq rfl _ _ 23 rfl rfl rfl hrun ?_) | go_in)
          exact ⟨⟨j + 1, by omega, by simp, UU _ (fun hx => by rw [if_neg (fun e => hdc e.symm hx), Nat.add_assoc])⟩, by simp [intOf]; omega⟩
  · exact absurd hm hno

theorem Write_of {w : World} {mb : Nat} (a : Int) (q : Option Addr) (n cap : Nat) (x : Int) (P : World → Prop)
    (h : Calls Try.prog 38 #[.pointer (some ⟨mb, 0, none⟩), .int .u32 a, .slice q n cap, .int .i64 4096, .int .i64 2] w fun e w' => e = .returned (.int .i64 x) ∧ P w') :
    Calls Try.prog 25 #[.pointer (some ⟨mb, 0, none⟩), .int .u32 a, .slice q n cap] w fun e w' => e = .returned (.int .i64 x) ∧ P w' := by
  go_enter Try.func25, Try.ntmps25
  go_wp2_with fail
  refine h.mono ?_
  rintro e w1 ⟨rfl, h1⟩
  go_wp2_with fail
  go_ret
  exact ⟨rfl, h1⟩
end Go.Proofs.Ythicidkjhpnleaa
