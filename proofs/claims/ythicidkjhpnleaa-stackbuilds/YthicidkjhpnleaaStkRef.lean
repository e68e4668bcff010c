/- LAYER 10, the reference's: Stack. -/
import Derived.Test.YthicidkjhpnleaaStkMem
import Derived.Test.YthicidkjhpnleaaAppA
namespace Go.Proofs.Ythicidkjhpnleaa
open Go.ChangeShapes Go.WideShapes Go.ChangeAt Go.RowKit
set_option linter.unusedSimpArgs false

def Stk.plC (p : Nat × Nat) : List Value := [.int .u32 (2147475456 + (p.1 : Int)), .int .i64 (p.2 : Int)]
theorem infoRP : (Try.prog.info? 46).map (fun i => (i.zero, i.size, i.bytes)) = some (some (.agg #[.int .u32 0, .int .i64 0]), 2, 16) := by kernel_rfl
/-- copy of bytes that can be read into bytes of the call's own. -/
theorem cpRd {w0 w : World} {g cap : Nat} {l xs : List Int} (h : Own8 w0 w (.slice (some ⟨g, 0, none⟩) l.length cap) l) (o m c : Nat) {v : Value} (hv : Rd8 w v xs) (hm : xs.length ≤ m) (h0 : 0 < xs.length) (ho : o + xs.length ≤ l.length) :
    (Builtin.copy_ #[23, 23] 3 #[.slice (some ⟨g, o, none⟩) m c, v]).run Try.prog w = .ok (goInt xs.length) (w.setCells g o (ints8 xs)) := by
  obtain ⟨q, cq, rfl, h2, h3, h4⟩ := Rd8.open hv
  obtain ⟨b', o', rfl, h5, h6⟩ := h4 h0
  rcases h with ⟨h, _⟩ | ⟨g', cap', h0, g1, g2, g3, g4, g5, g6⟩
  · simp at h
  · simp at h0
    obtain ⟨rfl, rfl⟩ := h0
    have hl : (ints8 xs).length = xs.length := ints8_len xs
    have := run_copy_cells (P := Try.prog) w 23 23 3 5 g o m c ⟨b', o', none⟩ xs.length cq (ints8 xs) Try.underlying23 sz8 (by rw [hl]; exact (Nat.min_eq_left hm).symm) (fun j u hu => by
      simp only [ints8, List.getElem?_map, Option.map_eq_some_iff] at hu
      obtain ⟨x, hx, rfl⟩ := hu
      rw [Addr.add_lit]
      exact h6 j x hx) (fun j hj => by rw [hl] at hj; exact (g6 _ (by omega)).1) (fun j hj => by rw [hl] at hj; exact (g6 _ (by omega)).2) (ints8_one xs)
    rw [hl] at this
    exact this
def RefPost (w : World) (l : List ByteArray) (e : Ending) (w' : World) : Prop :=
  (Stk.err l ≠ 0 ∧ e = .returned (.tuple #[.slice none 0 0, .int .u32 0, .slice none 0 0, .int .i64 (Stk.err l)]) ∧ Bw w w') ∨
  (Stk.err l = 0 ∧ ∃ gb vl, e = .returned (.tuple #[.slice (some ⟨gb, 0, none⟩) 4096 4096, .int .u32 (2147475456 + (Stk.sp l : Int)), vl, .int .i64 0]) ∧
    Own8 w w' (.slice (some ⟨gb, 0, none⟩) 4096 4096) (Stk.bytes l) ∧ RdR 2 w' vl l.length ((Stk.pls (Stk.first l) l).flatMap Stk.plC) ∧ Bw w w')
set_option maxHeartbeats 4000000 in
set_option maxRecDepth 100000 in
theorem rStack_c (w : World) (v : Value) (l : List ByteArray) (hv : TxS w v l) (hl20 : l.length ≤ 20) (hl4 : ∀ s ∈ l, s.size ≤ 400) :
    Calls Try.prog 15 #[v] w fun e w' => RefPost w l e w' := by
  have hroom : Stk.room l ≤ 401 * l.length := by
    have := Stk.sum_le hl4
    rw [Stk.room_sum]
    omega
  obtain ⟨q, cap, rfl, hc1, hc2, hcell⟩ := RdR.at1 hv
  have hmk := fun X => mk8 X 4096 (by omega)
  go_enter Try.func15, Try.ntmps15
  go_wp2_with fail
  go_loopg [6, 7, 8] l.length (fun g x y j wr => ∃ (k t : Nat) (B : Bool), k + g = l.length ∧ j = .int .i64 k ∧ x = .int .i64 t ∧ y = .bool B ∧ B = (decide (16 < l.length) || (l.take k).any Fee.nul) ∧ t ≤ Stk.room (l.take k) ∧ (t ≤ 3000 → t = Stk.room (l.take k)) ∧ Bw w wr)
  case atStart => exact ⟨0, 0, decide (16 < l.length), by omega, rfl, rfl, by first | rfl | (congr 1; simp; omega), by simp, by simp, by simp [Stk.room], Bw.refl _⟩
  case round =>
    obtain ⟨k, t, B, hkg, rfl, rfl, rfl, hB, ht1, ht2, hbw⟩ := hrel
    have HB : Hid (B = (decide (16 < l.length) || (l.take k).any Fee.nul)) := hB
    have HT : Hid (t ≤ Stk.room (l.take k) ∧ (t ≤ 3000 → t = Stk.room (l.take k))) := ⟨ht1, ht2⟩
    have htb : t ≤ 9000 := by have := Stk.room_take l k; omega
    clear hB ht1 ht2
    by_cases hk : k = l.length
    · subst hk
      rw [List.take_length] at HB HT
      cases B with
      | true =>
        have he : Stk.err l = 1 := by
          have hb : true = (decide (16 < l.length) || l.any Fee.nul) := HB
          unfold Stk.err
          rw [if_pos]
          simpa using hb.symm
        clear HB HT hcell
        go_wp2_with fail
        go_returns
        exact Or.inl ⟨by omega, by rw [he]; rfl, hbw⟩
      | false =>
        have hno : 16 < l.length ∨ l.any Fee.nul = true → False := fun h => by
          have hb : false = (decide (16 < l.length) || l.any Fee.nul) := HB
          have := hb.symm
          rw [Bool.or_eq_false_iff] at this
          rcases h with h | h
          · exact absurd (decide_eq_true h) (by rw [this.1]; simp)
          · rw [this.2] at h; cases h
        obtain ⟨h1, h2⟩ := (show t ≤ Stk.room l ∧ (t ≤ 3000 → t = Stk.room l) from HT)
        by_cases h3 : 3000 < t
        · have he : Stk.err l = 2 := by unfold Stk.err; rw [if_neg hno, if_pos (by omega)]
          have h3i : decide ((3000 : Int) < (t : Int)) = true := decide_eq_true (by omega)
          clear HB HT hcell hno h1 h2
          go_wp2_with fail
          go_returns
          exact Or.inl ⟨by omega, by rw [he]; rfl, hbw⟩
        · have he : Stk.err l = 0 := by unfold Stk.err; rw [if_neg hno, if_neg (by omega)]
          have h3i : decide ((3000 : Int) < (t : Int)) = false := decide_eq_false (by omega)
          obtain rfl : t = Stk.room l := h2 (by omega)
          have hn16 : l.length ≤ 16 := (Stk.err_ok he).1
          have hf : ((4096 : Int) - (Stk.room l : Int)) = ((Stk.first l : Nat) : Int) := by unfold Stk.first; omega
          have hff : Stk.first l + Stk.room l = 4096 := by unfold Stk.first; omega
          have hsp : Stk.sp l + 4 * (l.length + 3) ≤ Stk.first l := by unfold Stk.sp Stk.first; omega
          have hspi : ((Stk.first l : Int) - 4 * ((l.length : Int) + 3)) / 16 * 16 = (Stk.sp l : Int) := by unfold Stk.sp; omega
          obtain ⟨wB, hmkB, hO, bB⟩ := hmk wr
          have hlt := (hO.blk wr.heap.size rfl).2
          obtain ⟨gb, hgb⟩ : ∃ gb, wr.heap.size = gb := ⟨_, rfl⟩
          have hge : w.heap.size ≤ gb := by rw [← hgb]; exact hbw.size
          have hO2 : Own8 w wB (.slice (some ⟨wr.heap.size, 0, none⟩) 4096 4096) (List.replicate 4096 0) := hO.le hbw.size
          rw [hgb] at hO2 hmkB hlt
          have hmkB' : (Instr.makeSlice 23 (.int .i64 4096) (.int .i64 4096)).run Try.prog wr = .ok (.slice (some ⟨gb, 0, none⟩) 4096 4096) wB := hmkB
          replace bB := hbw.trans bB
          have hW := rW32_c wB (.slice none 0 0) [] (l.length : Int) (RdR.nil _ _) (by omega) (by omega) (by decide)
          rw [List.nil_append] at hW
          clear HB HT hno h1 h2 hmkB hO hbw hgb h3
          generalize hR : Stk.txs (List.replicate 4096 0) (Stk.first l) l = R
          have HR : Hid _ := hR
          have hRv := hR
          clear hR
          go_wp2_with fail
          refine hW.mono ?_
          rintro e w2 ⟨vw0, rfl, hw0, b2⟩
          have hsz2 := b2.size
          have hO3 := hO2.bw b2
          have hb2 := bB.trans b2
          have hnl : ∀ i, (Value.slice none 0 0).ownBlock = some i → vw0.ownBlock ≠ some i := fun i h => by simp [Value.ownBlock] at h
          clear hO2 hmkB' hW bB
          have hdl : (decide (16 < (l.length : Int))) = decide (16 < (l.length : Int)) := rfl
          go_wp2_with fail
          go_loopg [10, 12, 13, 14] l.length (fun g x y z j wr => ∃ (k a : Nat) (M Lw : List Int) (vl vw : Value), vl = y ∧ vw = z ∧ k + g = l.length ∧ j = .int .i64 k ∧ x = .int .i64 a ∧ a = Stk.first l + Stk.room (l.take k) ∧ Bw w wr ∧ wB.heap.size ≤ wr.heap.size ∧ M.length = 4096 ∧ Own8 w wr (.slice (some ⟨gb, 0, none⟩) 4096 4096) M ∧ Stk.txs M a (l.drop k) = R ∧ OwnR 46 2 wB wr vl k (((Stk.pls (Stk.first l) l).take k).flatMap Stk.plC) ∧ P8 wB wr vw Lw ∧ Lw = ((Stk.words l).take (k + 1)).flatMap Fee.w4 ∧ ∀ i, vl.ownBlock = some i → vw.ownBlock ≠ some i)
          case atStart => exact ⟨0, Stk.first l, List.replicate 4096 0, Fee.w4 l.length, _, _, rfl, rfl, by omega, rfl, rfl, by simp [Stk.room], hb2, hsz2, by simp, hO3, HR, OwnR.nil _ _ _ _, hw0, by simp [Stk.words], hnl⟩
          case round =>
            obtain ⟨k, a, M, Lw, vl, vw, rfl, rfl, hkg, rfl, rfl, ha, hbr, hsz, hM, hOr, hrun, hvl, hvw, hLw, hdis⟩ := hrel
            have HRun : Hid _ := hrun
            have HLw : Hid _ := hLw
            clear hrun hLw HR hO3 hb2 hw0 hnl b2 hsz2
            have hwl : (Stk.words l).length = l.length + 1 := Stk.words_len l
            by_cases hk : k = l.length
            · subst hk
              have hvs : ∃ q c, vw = .slice q Lw.length c := by
                obtain ⟨q, c, e, -⟩ := OwnR.rd hvw
                exact ⟨q, c, e⟩
              have hLe : Lw = (Stk.words l).flatMap Fee.w4 := by
                have := (show Lw = _ from HLw)
                rw [List.take_of_length_le (by omega)] at this
                exact this
              have hMe : M = R := by
                have := (show Stk.txs M a (l.drop l.length) = R from HRun)
                rw [List.drop_length] at this
                exact this
              rw [List.take_of_length_le (by rw [Stk.pls_len]; omega)] at hvl
              have hsl := slice_own gb 0 4096 4096 (Stk.sp l) (by omega) (by omega) (by omega)
              rw [Nat.zero_add] at hsl
              obtain ⟨hbe, hbl⟩ := Stk.bytes_eq he
              rw [hRv, ← hMe, ← hLe] at hbe
              rw [← hLe] at hbl
              have hOM : Own8 w wr (.slice (some ⟨gb, 0, none⟩) M.length 4096) M := by rw [hM]; exact hOr
              have hcp := cpRd hOM (Stk.sp l) (4096 - Stk.sp l) (4096 - Stk.sp l) (OwnR.rd hvw) (by omega) (by omega) (by omega)
              have hO4 := hOM.over (Stk.sp l) Lw (by omega)
              rw [hM, ← hbe] at hO4
              have hq4 : Bq gb wr (wr.setCells gb (Stk.sp l) (ints8 Lw)) := Bq.cells wr _ _
              have hb4 := hq4.toBw hbr hge
              have hvl4 := RdR.q (OwnR.rd hvl) hq4 (fun q k c e hk => by have := hvl.far q k c e hk; omega)
              have HFin : Hid (RefPost w l (.returned (.tuple #[.slice (some ⟨gb, 0, none⟩) 4096 4096, .int .u32 (2147475456 + (Stk.sp l : Int)), vl, .int .i64 0])) (wr.setCells gb (Stk.sp l) (ints8 Lw))) := Or.inr ⟨he, gb, vl, rfl, hO4, hvl4, hb4⟩
              obtain ⟨W4, hW4⟩ : ∃ W4, wr.setCells gb (Stk.sp l) (ints8 Lw) = W4 := ⟨_, rfl⟩
              rw [hW4] at hcp HFin
              clear hO4 hq4 hb4 hvl4 hOM hvl hvw hOr hbr hLe hMe HRun HLw hbe hdis hW4 hbl hcell
              obtain ⟨qw, cw, rfl⟩ : ∃ q c, vw = .slice q Lw.length c := hvs
              go_wp2_with (first | (at_builtin; refine wpCopy2 rfl _ _ 23 23 rfl rfl rfl hcp ?_) | fail)
              go_returns
              exact HFin
            · have hkl : k < l.length := by omega
              have hki : (k : Int) < (l.length : Int) := by omega
              obtain ⟨s, hs, hd⟩ := dropAt hkl
              have hrt := Stk.room_take l k
              rw [hd, Stk.room_cons] at hrt
              rw [hd] at HRun
              obtain ⟨b, o, rfl, hb, c0⟩ := hcell k s hs
              have c1 := hbr.keep c0
              have hp : (Stk.pls (Stk.first l) l)[k]? = some (a, s.size) := by
                obtain ⟨p, hp⟩ : ∃ p, (Stk.pls (Stk.first l) l)[k]? = some p := ⟨_, List.getElem?_eq_getElem (by rw [Stk.pls_len]; exact hkl)⟩
                obtain ⟨s', h1, h2⟩ := Stk.pls_at l (Stk.first l) k p hp
                rw [hs] at h1
                obtain rfl := Option.some.inj h1
                rw [hp, h2, ha]
              have hwd : (Stk.words l)[k + 1]? = some (2147475456 + (a : Int)) := by
                unfold Stk.words
                rw [List.getElem?_cons_succ, List.getElem?_map, hp]
                rfl
              have ha2 : a + s.size + 1 = Stk.first l + Stk.room (l.take (k + 1)) := by
                have h1 := Stk.room_take l (k + 1)
                omega
              have hab : a + s.size + 1 ≤ 4096 := by omega
              obtain ⟨vl', w3, happ, hvl3, hA3⟩ := appA (t := 41) (ty := 41) infoRP Try.underlying41 rfl (by decide) (by decide) hvl hsz 1 (Stk.plC (a, s.size)) rfl (fun u hu => by simp [Stk.plC] at hu; rcases hu with rfl | rfl <;> rfl) (by omega)
              rw [← take_flat Stk.plC hp] at hvl3
              have happ' : (Builtin.append_ #[41, 41] 41 #[vl, .slice (some ⟨wr.heap.size, 0, none⟩) 1 1]).run Try.prog (wr.alloc (.cells #[.int .u32 (2147475456 + (a : Int)), .int .i64 (s.size : Int)] 46)) = .ok vl' w3 := happ
              have hb3 : Bw w w3 := hA3.toBw hbr (fun i h => by have := (hvl.own i h).1; have := hge; omega)
              have hgbr := (hOr.blk gb rfl).2
              have hO3 := hOr.heap (w' := w3) (fun i h => by
                simp [Value.ownBlock] at h
                subst h
                exact hA3.block gb hgbr (fun e => by have := (hvl.own gb e).1; omega))
              have hvw3 : P8 wB w3 vw Lw := OwnR.heap hvw (fun i h => hA3.block i (OwnR.own hvw i h).2 (fun e => hdis i e h))
              have hsz3 : wB.heap.size ≤ w3.heap.size := Nat.le_trans hsz hA3.b.size
              have hLl : Lw.length ≤ 100 := by
                rw [show Lw = _ from HLw, chunk_len Fee.w4 4 Fee.w4_len, List.length_take]
                omega
              have hW := rW32_c w3 vw Lw (2147475456 + (a : Int)) hvw3.rd (by omega) (by omega) (by omega)
              have c3 := hb3.keep c0
              clear happ hvl hOr hvw hdis hbr hsz hA3
              have HA2 : Hid _ := ha2
              clear ha2 ha hrt
              go_wp2_with (first | (at_builtin; refine wpApp rfl _ _ 41 rfl rfl rfl happ' ?_) | fail)
              refine hW.mono ?_
              rintro e w4 ⟨vw', rfl, hvw4, b4⟩
              have hb4 := hb3.trans b4
              have hO4 := hO3.bw b4
              have hvl4 := hvl3.bw b4
              have hown4 := hvw4.blk
              have hOM : Own8 w w4.drew (.slice (some ⟨gb, 0, none⟩) M.length 4096) M := by rw [hM]; exact hO4.bw (Bw.refl w4).drew
              have hsl := slice_own gb 0 4096 4096 a (by omega) (by omega) (by omega)
              rw [Nat.zero_add] at hsl
              have hcp := cpStr hOM a (4096 - a) (4096 - a) s (by omega) (by omega)
              have hO5 := hOM.over a (Fee.sb s) (by rw [Fee.sb_len]; omega)
              rw [hM] at hO5
              have hM5 : (ovr M a (Fee.sb s)).length = 4096 := by rw [ovr_len (by rw [Fee.sb_len]; omega), hM]
              have hq5 : Bq gb w4.drew (w4.drew.setCells gb a (ints8 (Fee.sb s))) := Bq.cells w4.drew a _
              have hb5 : Bw w (w4.drew.setCells gb a (ints8 (Fee.sb s))) := hq5.toBw hb4.drew hge
              have hvl5 : OwnR 46 2 wB (w4.drew.setCells gb a (ints8 (Fee.sb s))) vl' (k + 1) (((Stk.pls (Stk.first l) l).take (k + 1)).flatMap Stk.plC) := OwnR.heap (hvl4.bw (Bw.refl w4).drew) (fun j hj => hq5.block j (hvl4.own j hj).2 (fun e => by have := (hvl4.own j hj).1; omega))
              have hvw5 : P8 wB (w4.drew.setCells gb a (ints8 (Fee.sb s))) vw' (Lw ++ Fee.w4 (2147475456 + (a : Int))) := OwnR.heap (OwnR.bw (hvw4.le hsz3) (Bw.refl w4).drew) (fun j hj => hq5.block j (hown4 j hj).2 (fun e => by have := (hown4 j hj).1; omega))
              have hsz5 : wB.heap.size ≤ (w4.drew.setCells gb a (ints8 (Fee.sb s))).heap.size := Nat.le_trans (Nat.le_trans hsz3 b4.size) hq5.b0.size
              have hdis5 : ∀ i, vl'.ownBlock = some i → vw'.ownBlock ≠ some i := fun i h1 h2 => by have := (hvl3.own i h1).2; have := (hown4 i h2).1; omega
              have HRun2 : Hid (Stk.txs (ovr M a (Fee.sb s)) (a + s.size + 1) (l.drop (k + 1)) = R) := HRun
              have HLw2 : Hid (Lw ++ Fee.w4 (2147475456 + (a : Int)) = ((Stk.words l).take (k + 1 + 1)).flatMap Fee.w4) := by
                show _ = _
                rw [take_flat Fee.w4 hwd, ← (show Lw = _ from HLw)]
              have HFin : Hid (Own8 w (w4.drew.setCells gb a (ints8 (Fee.sb s))) (.slice (some ⟨gb, 0, none⟩) 4096 4096) (ovr M a (Fee.sb s)) ∧ Bw w (w4.drew.setCells gb a (ints8 (Fee.sb s))) ∧ OwnR 46 2 wB (w4.drew.setCells gb a (ints8 (Fee.sb s))) vl' (k + 1) (((Stk.pls (Stk.first l) l).take (k + 1)).flatMap Stk.plC) ∧ P8 wB (w4.drew.setCells gb a (ints8 (Fee.sb s))) vw' (Lw ++ Fee.w4 (2147475456 + (a : Int))) ∧ wB.heap.size ≤ (w4.drew.setCells gb a (ints8 (Fee.sb s))).heap.size) := ⟨hO5, hb5, hvl5, hvw5, hsz5⟩
              have c4 : w4.drew.cell? ⟨b, o + k, none⟩ = some (.string s) := b4.keep c3
              have c5 := hb5.keep c0
              obtain ⟨W5, hW5⟩ : ∃ W5, w4.drew.setCells gb a (ints8 (Fee.sb s)) = W5 := ⟨_, rfl⟩
              rw [hW5] at hcp HFin c5
              clear hO5 hb5 hvl5 hvw5 hsz5 hq5 hOM hO4 hvl4 hvl3 hvw3 hvw4 hO3 hb3 hb4 hW happ' hW5 HRun HLw hp hwd hd hs hcell hown4 b4
              go_wp2_with fail
              refine wp_region_held_drew (S := fun X => X.cell? ⟨b, o + k, none⟩ = some (.string s)) (by kernel_rfl) c4 (fun hHeld => ?_)
              refine wpAnyH_take (i := 0) (oi := ⟨some 83, _, _, _, _, _⟩) (v := ?_) rfl (by kernel_rfl) (by kernel_rfl) (by kernel_rfl) (fun _ _ _ h => h) (Or.inl ⟨by rfl, ?_⟩) (by assumption) ?_; (rotate_left 1); (focus (intro wz hSw; (try dsimp only at hSw); go_simp; try (with_reducible rfl))); simp only [Act.put, List.setIfInBounds_toArray, List.set_cons_zero, List.set_cons_succ]
              refine wpAnyH_take (i := 1) (oi := ⟨some 84, _, _, _, _, _⟩) (v := ?_) rfl (by kernel_rfl) (by kernel_rfl) (by kernel_rfl) (fun _ _ _ h => h) (Or.inl ⟨by rfl, ?_⟩) (by assumption) ?_; (rotate_left 1); (focus (intro wz hSw; (try dsimp only at hSw); go_simp; try (with_reducible rfl))); simp only [Act.put, List.setIfInBounds_toArray, List.set_cons_zero, List.set_cons_succ]
              refine wpAnyH_take (i := 2) (oi := ⟨some 85, _, _, _, _, _⟩) (v := ?_) rfl (by kernel_rfl) (by kernel_rfl) (by kernel_rfl) (fun _ _ _ h => h) (Or.inl ⟨by rfl, ?_⟩) (by assumption) ?_; (rotate_left 1); (focus (intro wz hSw; (try dsimp only at hSw); go_simp; try (with_reducible rfl))); simp only [Act.put, List.setIfInBounds_toArray, List.set_cons_zero, List.set_cons_succ]
              refine wpAnyH_take (i := 3) (oi := ⟨some 86, _, _, _, _, _⟩) (v := ?_) rfl (by kernel_rfl) (by kernel_rfl) (by kernel_rfl) (fun _ _ _ h => h) (Or.inl ⟨by rfl, ?_⟩) (by assumption) ?_; (rotate_left 1); (focus (intro wz hSw; (try dsimp only at hSw); go_simp; try (with_reducible rfl))); simp only [Act.put, List.setIfInBounds_toArray, List.set_cons_zero, List.set_cons_succ]
              refine wpAnyH_take (i := 4) (oi := ⟨some 87, _, _, _, _, _⟩) (v := ?_) rfl (by kernel_rfl) (by kernel_rfl) (by kernel_rfl) (fun _ _ _ h => h) (Or.inl ⟨by rfl, ?_⟩) (by assumption) ?_; (rotate_left 1); (focus (intro wz hSw; (try dsimp only at hSw); go_simp; try (with_reducible rfl))); simp only [Act.put, List.setIfInBounds_toArray, List.set_cons_zero, List.set_cons_succ]
              refine wpAnyH_take (i := 5) (oi := ⟨some 88, _, _, _, _, _⟩) (v := ?_) rfl (by kernel_rfl) (by kernel_rfl) (by kernel_rfl) (fun _ _ _ h => h) (Or.inl ⟨by rfl, ?_⟩) (by assumption) ?_; (rotate_left 1); (focus (intro wz hSw; (try dsimp only at hSw); go_simp; try (with_reducible rfl))); simp only [Act.put, List.setIfInBounds_toArray, List.set_cons_zero, List.set_cons_succ]
              refine wpAnyH_take (i := 6) (oi := ⟨some 89, _, _, _, _, _⟩) (v := ?_) rfl (by kernel_rfl) (by kernel_rfl) (by kernel_rfl) (fun _ _ _ h => h) (Or.inl ⟨by rfl, ?_⟩) (by assumption) ?_; (rotate_left 1); (focus (intro wz hSw; (try dsimp only at hSw); go_simp; try (with_reducible rfl))); simp only [Act.put, List.setIfInBounds_toArray, List.set_cons_zero, List.set_cons_succ]
              refine wpAnyH_ready (rs := [7]) (by kernel_rfl) (by simp) ?_; refine AllReadyH.cons rfl (fun K hK => ?_) AllReadyH.nil; go_simp
              (try clear hHeld); refine hK.out _ _ ?_ (fun hHeld => ?_)
              · exact c5
              refine wpAnyH_done (by kernel_rfl) ?_ _
              go_wp2_with fail
              go_roundg (l.length - (k + 1))
              case measure => omega
              case rel => exact ⟨k + 1, a + s.size + 1, _, _, _, _, rfl, rfl, by omega, by simp, by first | rfl | (congr 1; omega), HA2, HFin.2.1, HFin.2.2.2.2, hM5, HFin.1, HRun2, HFin.2.2.1, HFin.2.2.2.1, HLw2, hdis5⟩
    · have hkl : k < l.length := by omega
      have hki : (k : Int) < (l.length : Int) := by omega
      obtain ⟨s, hs, hd⟩ := dropAt hkl
      have hs4 := hl4 s (List.mem_of_getElem? hs)
      obtain ⟨b, o, rfl, hb, c0⟩ := hcell k s hs
      have c1 := hbw.keep c0
      have hN := fun X => noughts_c s X (by omega)
      have htk : l.take (k + 1) = l.take k ++ [s] := by rw [List.take_add_one, hs]; rfl
      have hrm : Stk.room (l.take (k + 1)) = Stk.room (l.take k) + s.size + 1 := by
        have h1 := Stk.room_take l k
        have h2 := Stk.room_take l (k + 1)
        rw [hd, Stk.room_cons] at h1
        omega
      have hB2 : Hid ((B || Fee.nul s) = (decide (16 < l.length) || (l.take (k + 1)).any Fee.nul)) := by
        show (B || Fee.nul s) = _
        rw [htk, List.any_append, ← Bool.or_assoc, ← (show B = _ from HB)]
        simp
      have HT2 : Hid (t + s.size + 1 ≤ Stk.room (l.take (k + 1)) ∧ (t ≤ 3000 → t + s.size + 1 = Stk.room (l.take (k + 1))) ∧ t ≤ Stk.room (l.take (k + 1))) := by
        obtain ⟨h1, h2⟩ := (show t ≤ Stk.room (l.take k) ∧ (t ≤ 3000 → t = Stk.room (l.take k)) from HT)
        exact ⟨by omega, fun h => by have := h2 h; omega, by omega⟩
      clear HB HT hs hd htk hrm
      by_cases h3 : t ≤ 3000
      · have h3i : decide ((t : Int) ≤ 3000) = true := decide_eq_true (by omega)
        cases B with
        | true =>
          go_wp2_with fail
          go_roundg (l.length - (k + 1))
          case measure => omega
          case rel => exact ⟨k + 1, t + s.size + 1, true, by omega, by simp, by simp, rfl, by have := (show _ = _ from hB2); rwa [Bool.true_or] at this, (show _ ∧ _ from HT2).1, fun _ => (show _ ∧ _ from HT2).2.1 h3, hbw⟩
        | false =>
          go_wp2_with fail
          refine (hN _).mono ?_
          rintro e w2 ⟨rfl, b2⟩
          have c2 := b2.keep c1
          replace b2 := hbw.trans b2
          go_wp2_with fail
          go_roundg (l.length - (k + 1))
          case measure => omega
          case rel => exact ⟨k + 1, t + s.size + 1, Fee.nul s, by omega, by simp, by simp, rfl, by have := (show _ = _ from hB2); rwa [Bool.false_or] at this, (show _ ∧ _ from HT2).1, fun _ => (show _ ∧ _ from HT2).2.1 h3, b2⟩
      · have h3i : decide ((t : Int) ≤ 3000) = false := decide_eq_false (by omega)
        cases B with
        | true =>
          go_wp2_with fail
          go_roundg (l.length - (k + 1))
          case measure => omega
          case rel => exact ⟨k + 1, t, true, by omega, by simp, rfl, rfl, by have := (show _ = _ from hB2); rwa [Bool.true_or] at this, (show _ ∧ _ from HT2).2.2, fun h => absurd h h3, hbw⟩
        | false =>
          go_wp2_with fail
          refine (hN _).mono ?_
          rintro e w2 ⟨rfl, b2⟩
          replace b2 := hbw.trans b2
          go_wp2_with fail
          go_roundg (l.length - (k + 1))
          case measure => omega
          case rel => exact ⟨k + 1, t, Fee.nul s, by omega, by simp, rfl, rfl, by have := (show _ = _ from hB2); rwa [Bool.false_or] at this, (show _ ∧ _ from HT2).2.2, fun h => absurd h h3, b2⟩
end Go.Proofs.Ythicidkjhpnleaa
