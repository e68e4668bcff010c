/- LAYER 9, the reference's: Begin, Bytes. -/
import Derived.Test.YtldapnefhlmdiaaFeeR3
import Derived.Test.YtldapnefhlmdiaaFeeW7
namespace Go.Proofs.Ytldapnefhlmdiaa
open Go.ChangeShapes Go.WideShapes Go.ChangeAt Go.RowKit

/-- The slices of the feed within lie in other blocks. -/
def FarR (w : World) (rb pb : Nat) : Prop := ∀ j v, 2 ≤ j → j < 5 → w.cell? ⟨rb, j, none⟩ = some v → Far pb v
theorem FarR.mk {w : World} {rb pb : Nat} {va vi vs vr vc : Value} {r : List Value} (h : Box w rb (va :: vi :: vs :: vr :: vc :: r)) (a : Far pb vs) (b : Far pb vr) (c : Far pb vc) : FarR w rb pb := fun j v hj hk e => by
  obtain rfl | rfl | rfl : j = 2 ∨ j = 3 ∨ j = 4 := by omega
  · rw [h.c 2 _ rfl] at e; obtain rfl := Option.some.inj e; exact a
  · rw [h.c 3 _ rfl] at e; obtain rfl := Option.some.inj e; exact b
  · rw [h.c 4 _ rfl] at e; obtain rfl := Option.some.inj e; exact c
theorem Far.nil (pb : Nat) : Far pb (.slice none 0 0) := fun _ _ _ e => by simp at e
set_option maxHeartbeats 2000000 in
set_option maxRecDepth 100000 in
theorem rBegin_c (va vi vs vr vc vf : Value) (f : Fee.Fd) (w : World) (hv : IsFd w (.agg #[va, vi, vs, vr, vc, vf]) f) (hz : Fee.Sz f) : Calls Try.prog 22 #[.agg #[va, vi, vs, vr, vc, vf]] w fun e w' => ∃ rb, e = .returned (.pointer (some ⟨rb, 0, none⟩)) ∧ w.heap.size ≤ rb ∧ Bw w w' ∧ RUse w' rb (Fee.beg f).short (Fee.beg f).random (Fee.beg f).clock 0 0 0 ∧ ∀ pb, Far pb vs → Far pb vr → Far pb vc → FarR w' rb pb := by
  have hG := fun X (g : Bw w X) => rMay_c _ f X (hv.bw g) hz
  obtain ⟨va', vi', vs', vr', vc', vf', hve, ha, hi, hs, hr, hc, hf, -⟩ := hv
  simp at hve
  obtain ⟨rfl, rfl, rfl, rfl, rfl, rfl⟩ := hve
  obtain ⟨qa, ca, rfl, -⟩ := RdR.form ha
  obtain ⟨qi, ci, rfl, -⟩ := Rd8.open hi
  obtain ⟨qf, cf, rfl, -⟩ := hf.form
  have HS : Hid _ := hs
  have HR : Hid _ := hr
  have HC : Hid _ := hc
  have LS : Hid _ := RdR.lo hs
  have LR : Hid _ := RdR.lo hr
  have LC : Hid _ := RdR.lo hc
  obtain ⟨qr, cr, rfl, -⟩ := Rd8.open hr
  obtain ⟨qc, cc, rfl, -⟩ := RdR.form hc
  obtain ⟨qs, cs, rfl, -⟩ := RdR.form hs
  clear ha hi hs hr hc hf hz
  have hBx := Box.new w [.slice qa f.args.length ca, .slice qi f.input.length ci, .slice qs f.short.length cs, .slice qr f.random.length cr, .slice qc f.clock.length cc, .slice qf f.files.length cf] 46
  cases hgd : Fee.good f with
  | false =>
    have hb : Fee.beg f = Fee.noFd := by unfold Fee.beg; rw [hgd]; rfl
    rw [hb]
    simp only [hgd] at hG
    go_enter Try.func22, Try.ntmps22
    go_wp2_with fail
    refine (hG _ ((Bw.refl _).alloc _)).mono ?_
    rintro e w2 ⟨rfl, h2⟩
    have hB2 := hBx.bw h2
    have hbB : Bw w w2 := ((Bw.refl w).alloc _).trans h2
    have hlt := hB2.lt
    obtain ⟨fb, hfb⟩ : ∃ fb, w.heap.size = fb := ⟨_, rfl⟩
    rw [hfb] at hB2 hlt ⊢
    have z0 := hB2.c 0 _ rfl; have z1 := hB2.c 1 _ rfl; have z2 := hB2.c 2 _ rfl; have z3 := hB2.c 3 _ rfl; have z4 := hB2.c 4 _ rfl; have z5 := hB2.c 5 _ rfl
    have y0 := hB2.f 0 (by simp); have y1 := hB2.f 1 (by simp); have y2 := hB2.f 2 (by simp); have y3 := hB2.f 3 (by simp); have y4 := hB2.f 4 (by simp); have y5 := hB2.f 5 (by simp)
    clear hG hBx hB2 h2
    go_wp2_with fail
    go_returns
    have hsz : ((((((w2.setCell ⟨fb, 0, none⟩ (.slice none 0 0)).setCell ⟨fb, 1, none⟩ (.slice none 0 0)).setCell ⟨fb, 2, none⟩ (.slice none 0 0)).setCell ⟨fb, 3, none⟩ (.slice none 0 0)).setCell ⟨fb, 4, none⟩ (.slice none 0 0)).setCell ⟨fb, 5, none⟩ (.slice none 0 0)).heap.size = w2.heap.size := by simp [World.setCell]
    have hX := Box.new ((((((w2.setCell ⟨fb, 0, none⟩ (.slice none 0 0)).setCell ⟨fb, 1, none⟩ (.slice none 0 0)).setCell ⟨fb, 2, none⟩ (.slice none 0 0)).setCell ⟨fb, 3, none⟩ (.slice none 0 0)).setCell ⟨fb, 4, none⟩ (.slice none 0 0)).setCell ⟨fb, 5, none⟩ (.slice none 0 0)) [.slice none 0 0, .slice none 0 0, .slice none 0 0, .slice none 0 0, .slice none 0 0, .slice none 0 0, .int .i64 0, .int .i64 0, .int .i64 0] 63
    have hBf : Bw w ((((((w2.setCell ⟨fb, 0, none⟩ (.slice none 0 0)).setCell ⟨fb, 1, none⟩ (.slice none 0 0)).setCell ⟨fb, 2, none⟩ (.slice none 0 0)).setCell ⟨fb, 3, none⟩ (.slice none 0 0)).setCell ⟨fb, 4, none⟩ (.slice none 0 0)).setCell ⟨fb, 5, none⟩ (.slice none 0 0)) := (((((hbB.setCell (by rw [hfb]; exact Nat.le_refl _) _).setCell (by rw [hfb]; exact Nat.le_refl _) _).setCell (by rw [hfb]; exact Nat.le_refl _) _).setCell (by rw [hfb]; exact Nat.le_refl _) _).setCell (by rw [hfb]; exact Nat.le_refl _) _).setCell (by rw [hfb]; exact Nat.le_refl _) _
    rw [hsz] at hX
    exact ⟨_, rfl, hfb ▸ hbB.size, hBf.alloc _, ⟨⟨_, _, _, _, _, _, hX, RdR.nil _ _, RdR.nil _ _, RdR.nil _ _, (fun _ _ _ e => by simp at e), (fun _ _ _ e => by simp at e), (fun _ _ _ e => by simp at e)⟩, Nat.le_refl _, Nat.le_refl _, Nat.le_refl _⟩, fun pb _ _ _ => FarR.mk hX (Far.nil _) (Far.nil _) (Far.nil _)⟩
  | true =>
    have hb : Fee.beg f = f := by unfold Fee.beg; rw [hgd]; rfl
    rw [hb]
    simp only [hgd] at hG
    go_enter Try.func22, Try.ntmps22
    go_wp2_with fail
    refine (hG _ ((Bw.refl _).alloc _)).mono ?_
    rintro e w2 ⟨rfl, h2⟩
    have hB2 := hBx.bw h2
    have hbB : Bw w w2 := ((Bw.refl w).alloc _).trans h2
    have z0 := hB2.c 0 _ rfl; have z1 := hB2.c 1 _ rfl; have z2 := hB2.c 2 _ rfl; have z3 := hB2.c 3 _ rfl; have z4 := hB2.c 4 _ rfl; have z5 := hB2.c 5 _ rfl
    clear hG hBx hB2 h2
    go_wp2_with fail
    go_returns
    have hX := Box.new w2 [.slice qa f.args.length ca, .slice qi f.input.length ci, .slice qs f.short.length cs, .slice qr f.random.length cr, .slice qc f.clock.length cc, .slice qf f.files.length cf, .int .i64 0, .int .i64 0, .int .i64 0] 63
    have gA : Bw w (w2.alloc (.cells #[.slice qa f.args.length ca, .slice qi f.input.length ci, .slice qs f.short.length cs, .slice qr f.random.length cr, .slice qc f.clock.length cc, .slice qf f.files.length cf, .int .i64 0, .int .i64 0, .int .i64 0] 63)) := hbB.alloc _
    exact ⟨_, rfl, hbB.size, gA, ⟨⟨_, _, _, _, _, _, hX, RdR.bw HS gA, Rd8.bw HR gA, RdR.bw HC gA, Lo.to LS hbB.size, Lo.to LR hbB.size, Lo.to LC hbB.size⟩, Nat.zero_le _, Nat.zero_le _, Nat.zero_le _⟩, fun pb p1 p2 p3 => FarR.mk hX p1 p2 p3⟩
theorem Bq.ap {pb : Nat} {a w w' : World} {v v' : Value} (h : Bq pb a w) (k : Ap w w' v v') (ho : ∀ j, v.ownBlock = some j → a.heap.size ≤ j) : Bq pb a w' :=
  ⟨h.b0.trans k.b, fun i hi hn => (k.block i (Nat.lt_of_lt_of_le hi h.b0.size) (fun e => by have := ho i e; omega)).trans (h.block i hi hn)⟩
/-- A world of so many blocks that another is behind. -/
theorem base_of {n : Nat} (w : World) (h : n ≤ w.heap.size) : ∃ w0 : World, w0.heap.size = n ∧ Bw w0 w := by
  have r := Below.refl 0 w
  refine ⟨{ w with heap := w.heap.extract 0 n }, by simp; omega, ⟨r.os, r.tape, r.output, by simp; omega, fun i hi => ?_⟩⟩
  simp at hi
  simp [Array.getElem?_extract]
  omega
theorem Own8.base {w0 w1 w : World} {v : Value} {l : List Int} (h : Own8 w0 w v l) (e : w1.heap.size = w0.heap.size) : Own8 w1 w v l := by
  unfold Own8 at h ⊢
  rw [e]; exact h
theorem Fee.cnt_at {rd : List Int} {b k : Nat} (lb : b ≤ rd.length) (h : b + Fee.cnt rd b k < rd.length) : Fee.cnt rd b k = k ∧ Fee.cnt rd b (k + 1) = k + 1 := by unfold Fee.cnt at *; omega
theorem Fee.cnt_end {rd : List Int} {b k : Nat} (lb : b ≤ rd.length) (h : ¬ b + Fee.cnt rd b k < rd.length) : Fee.cnt rd b (k + 1) = Fee.cnt rd b k ∧ Fee.cnt rd b k = rd.length - b := by unfold Fee.cnt at *; omega
theorem Fee.bytes_at {rd : List Int} {b k : Nat} {x : Int} (h : Fee.cnt rd b k = k ∧ Fee.cnt rd b (k + 1) = k + 1) (hx : rd[b + k]? = some x) : Fee.bytes rd b (k + 1) = Fee.bytes rd b k ++ [x] := by
  unfold Fee.bytes
  rw [h.1, h.2, List.drop_replicate, List.drop_replicate, Nat.sub_self, Nat.sub_self, List.take_add_one, List.getElem?_drop, hx]
  simp
theorem Fee.bytes_end {rd : List Int} {b k : Nat} (h : Fee.cnt rd b (k + 1) = Fee.cnt rd b k ∧ Fee.cnt rd b k = rd.length - b) (hk : Fee.cnt rd b k ≤ k) : Fee.bytes rd b (k + 1) = Fee.bytes rd b k ++ [0] := by
  unfold Fee.bytes
  rw [h.1, List.drop_replicate, List.drop_replicate, show k + 1 - Fee.cnt rd b k = (k - Fee.cnt rd b k) + 1 by omega, List.replicate_succ', List.append_assoc]
theorem Fee.cnt_le (rd : List Int) (b k : Nat) : Fee.cnt rd b k ≤ k := by unfold Fee.cnt; omega
theorem Fee.bytes_zero (rd : List Int) (b : Nat) : Fee.bytes rd b 0 = [] ∧ Fee.cnt rd b 0 = 0 := ⟨List.eq_nil_of_length_eq_zero (Fee.bytes_len rd b 0), by unfold Fee.cnt; omega⟩
set_option maxHeartbeats 2000000 in
set_option maxRecDepth 100000 in
theorem rBytes_c (w : World) (ub : Nat) (sh rd ck : List Int) (a b c : Nat) (h : RUse w ub sh rd ck a b c) (hrl : rd.length ≤ 10000) (n : Nat) (hn : n ≤ 4096) :
    Calls Try.prog 24 #[.pointer (some ⟨ub, 0, none⟩), .int .i64 n] w fun e w' => ∃ v, e = .returned v ∧ Own8 w w' v (Fee.bytes rd b n) ∧ RUse w' ub sh rd ck a (b + Fee.cnt rd b n) c ∧ Bq ub w w' ∧ KeepR ub w w' := by
  have hub := h.lt
  obtain ⟨⟨va, vi, vs, vr, vc, vf, hb, hS, hR, hC, f1, f2, f3⟩, la, lb, lc⟩ := h
  have HR : Hid _ := hR
  have HF2 : Hid _ := f2
  obtain ⟨q, cap, rfl, hc1, hc2, hcell⟩ := hR.open
  have hni : decide ((4096 : Int) < (n : Int)) = false := decide_eq_false (by omega)
  clear hR f2
  go_enter Try.func24, Try.ntmps24
  go_wp2_with fail
  go_loopg [5, 6] n (fun g x j wr => ∃ k : Nat, ∃ v : Value, k + g = n ∧ v = x ∧ j = .int .i64 k ∧ Own8 w wr v (Fee.bytes rd b k) ∧ Bq ub w wr ∧ Box wr ub [va, vi, vs, .slice q rd.length cap, vc, vf, .int .i64 a, .int .i64 ((b + Fee.cnt rd b k : Nat) : Int), .int .i64 c])
  case atStart => exact ⟨0, _, by omega, rfl, rfl, by rw [(Fee.bytes_zero rd b).1]; exact Own8.nil _ _, Bq.refl _ _, by rw [(Fee.bytes_zero rd b).2]; exact hb⟩
  case round =>
    obtain ⟨k, v, hkg, rfl, rfl, hown, hbq, hbox⟩ := hrel
    by_cases hk : k = n
    · subst hk
      have hkeep : KeepR ub w wr := fun j hj => by
        obtain rfl | rfl | rfl | rfl | rfl | rfl : j = 0 ∨ j = 1 ∨ j = 2 ∨ j = 3 ∨ j = 4 ∨ j = 5 := by omega
        all_goals exact (hbox.c _ _ rfl).trans (hb.c _ _ rfl).symm
      clear hb
      have hcl : b + Fee.cnt rd b k ≤ rd.length := by unfold Fee.cnt; omega
      have HFin : Hid (Own8 w wr v (Fee.bytes rd b k) ∧ RUse wr ub sh rd ck a (b + Fee.cnt rd b k) c ∧ Bq ub w wr ∧ KeepR ub w wr) := ⟨hown, ⟨⟨va, vi, vs, _, vc, vf, hbox, RdR.q hS hbq f1, RdR.q HR hbq HF2, RdR.q hC hbq f3, f1, HF2, f3⟩, la, hcl, lc⟩, hbq, hkeep⟩
      clear hown hbq hbox hS hC hcell f1 f3 hkeep
      go_wp2_with fail
      go_returns
      exact ⟨_, rfl, HFin⟩
    · clear hb
      have hkn : k < n := by omega
      have hki : (k : Int) < (n : Int) := by omega
      have hcl : b + Fee.cnt rd b k ≤ rd.length := by unfold Fee.cnt; omega
      have b3 := hbox.c 3 _ rfl; have b7 := hbox.c 7 _ rfl
      have hsz : w.heap.size ≤ wr.heap.size := hbq.b0.size
      have hkl := Fee.bytes_len rd b k
      have hob := hown.blk
      obtain ⟨m, hm⟩ : ∃ m, b + Fee.cnt rd b k = m := ⟨_, rfl⟩
      rw [hm] at b7
      by_cases hin : b + Fee.cnt rd b k < rd.length
      · have hat := Fee.cnt_at lb hin
        have hmk : m = b + k := by rw [← hm, hat.1]
        have hin3 : (m : Int) < (rd.length : Int) := by omega
        have hown2 := (hown.bw (Bw.refl wr).drew).bw (Bw.refl wr.drew).drew
        obtain ⟨x, hx⟩ : ∃ x, rd[b + k]? = some x := ⟨_, List.getElem?_eq_getElem (by omega)⟩
        have HBy : Hid _ := Fee.bytes_at hat hx
        rw [← hmk] at hx
        obtain ⟨b', o, rfl, hb'l, hcc⟩ := hcell (by omega)
        have hne : b' ≠ ub := (show Far ub _ from HF2) _ _ _ rfl (by omega)
        have c0 := hbq.keep (hcc _ _ hx) hne
        obtain ⟨w0, hw0, hbw0⟩ := base_of (n := w.heap.size) wr.drew.drew (by simpa using hsz)
        obtain ⟨v', w', hr7, ho', hbw', hA'⟩ := app8 (hown2.base hw0) hbw0 [x] (by simp) (by rw [hkl]; simp; omega) 1
        have hbd : Bw wr wr.drew.drew := (Bw.refl wr).drew.drew
        have hq' : Bq ub w w' := (hbq.bw hbd).ap hA' (fun j e => (hob j e).1)
        have hbx := (hbox.bw hbd).blk (hA'.block ub (by simpa using hbox.lt) (fun e => by have := (hob _ e).1; omega))
        have e7 := hbx.c 7 _ rfl; have e7f := hbx.f 7 (by simp)
        rw [hm] at e7
        have hbx2 := hbx.set 7 (by simp) (.int .i64 ((m : Int) + 1))
        have HR2 : Hid (Own8 w (w'.setCell ⟨ub, 7, none⟩ (.int .i64 ((m : Int) + 1))) v' (Fee.bytes rd b (k + 1)) ∧ Bq ub w (w'.setCell ⟨ub, 7, none⟩ (.int .i64 ((m : Int) + 1))) ∧ Box (w'.setCell ⟨ub, 7, none⟩ (.int .i64 ((m : Int) + 1))) ub [va, vi, vs, .slice (some ⟨b', o, none⟩) rd.length cap, vc, vf, .int .i64 a, .int .i64 ((b + Fee.cnt rd b (k + 1) : Nat) : Int), .int .i64 c]) := by
          refine ⟨by rw [show _ = _ from HBy]; exact (ho'.base hw0.symm).q hub ((Bq.refl _ _).set 7 _), hq'.set 7 _, ?_⟩
          rw [hat.2, show ((b + (k + 1) : Nat) : Int) = (m : Int) + 1 by omega]
          exact hbx2
        clear hown hown2 hbox hbx hbx2 ho' hbw' hA' hq' hob hcc hcell hx hbw0 hat hin hmk hm hS hC
        go_wp2_with fail
        go_region
        go_wp2_with fail
        go_region_law (refine stepApp rfl _ _ 24 rfl rfl rfl hr7 ?_)
        all_goals
          go_wp2_with fail
          go_roundg (n - (k + 1))
          case measure => omega
          case rel => exact ⟨k + 1, _, by omega, rfl, by simp, (show _ ∧ _ from HR2).1, (show _ ∧ _ from HR2).2.1, (show _ ∧ _ from HR2).2.2⟩
      · have hat := Fee.cnt_end lb hin
        have hin3 : decide ((m : Int) < (rd.length : Int)) = false := decide_eq_false (by omega)
        have hin4 : ¬ ((m : Int) < (rd.length : Int)) := by omega
        have hown2 := hown.bw (Bw.refl wr).drew
        have HBy : Hid _ := Fee.bytes_end hat (Fee.cnt_le _ _ _)
        obtain ⟨w0, hw0, hbw0⟩ := base_of (n := w.heap.size) wr.drew (by simpa using hsz)
        obtain ⟨v', w', hr7, ho', hbw', hA'⟩ := app8 (hown2.base hw0) hbw0 [0] (by simp) (by rw [hkl]; simp; omega) 1
        have hbd : Bw wr wr.drew := (Bw.refl wr).drew
        have hq' : Bq ub w w' := (hbq.bw hbd).ap hA' (fun j e => (hob j e).1)
        have hbx := (hbox.bw hbd).blk (hA'.block ub (by simpa using hbox.lt) (fun e => by have := (hob _ e).1; omega))
        have HR2 : Hid (Own8 w w' v' (Fee.bytes rd b (k + 1)) ∧ Bq ub w w' ∧ Box w' ub [va, vi, vs, .slice q rd.length cap, vc, vf, .int .i64 a, .int .i64 ((b + Fee.cnt rd b (k + 1) : Nat) : Int), .int .i64 c]) := by
          refine ⟨by rw [show _ = _ from HBy]; exact ho'.base hw0.symm, hq', ?_⟩
          rw [hat.1]
          exact hbx
        clear hown hown2 hbox hbx ho' hbw' hA' hq' hob hcell hbw0 hat hin hm hS hC
        go_wp2_with fail
        go_region
        go_wp2_with (first | (at_builtin; refine wpApp rfl _ _ 24 rfl rfl rfl hr7 ?_) | go_in)
        go_roundg (n - (k + 1))
        case measure => omega
        case rel => exact ⟨k + 1, _, by omega, rfl, by simp, (show _ ∧ _ from HR2).1, (show _ ∧ _ from HR2).2.1, (show _ ∧ _ from HR2).2.2⟩
end Go.Proofs.Ytldapnefhlmdiaa
