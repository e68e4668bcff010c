/- LAYER 10's walks: layTexts. -/
import Derived.Test.YthicidkjhpnleaaStkW1
import Derived.Lib.LazyBuf
namespace Go.Proofs.Ythicidkjhpnleaa
open Go.ChangeShapes Go.WideShapes Go.ChangeAt Go.RowKit
set_option linter.unusedSimpArgs false

theorem wpCopy2 {P : Program} {w w' : World} {ops : Array Oper} {rest : List Oper} {o : Oper} {a : Act} {Q : Exit → Act → World → Prop} (hgd : o.guard = none) (s x : Operand) (t t2 : TypeId)
    (ho : o.op = .call { callee := .builtin .copy, args := #[s, x], argTypes := #[t, t2] }) {v xv v' : Value} (hs : a.eval s = v) (hx : a.eval x = xv)
    (hr : (Builtin.copy_ #[t, t2] o.type #[v, xv]).run P w = .ok v' w') (h : wpList P ops Q rest (a.put o.dst v') w') : wpList P ops Q (o :: rest) a w := by
  refine wpList_plain hgd fun K hK => ?_
  unfold Oper.wp execOp
  simp only [ho, resolve, invoke, builtin, Sem.run_bind, Sem.run_pure, Result.andThen_ok, List.map_toArray, List.map_cons, List.map_nil, hs, hx, hr]
  exact hK _ _ h
/-- Cells written into bytes of the call's own. -/
theorem Own8.over {w0 w : World} {g cap : Nat} {l : List Int} (h : Own8 w0 w (.slice (some ⟨g, 0, none⟩) l.length cap) l) (o : Nat) (xs : List Int) (ho : o + xs.length ≤ l.length) :
    Own8 w0 (w.setCells g o (ints8 xs)) (.slice (some ⟨g, 0, none⟩) l.length cap) (ovr l o xs) := by
  rcases h with ⟨h, _⟩ | ⟨g', cap', h0, g1, g2, g3, g4, g5, g6⟩
  · simp at h
  · simp at h0
    obtain ⟨rfl, rfl⟩ := h0
    have hc : ∀ j, j < (ints8 xs).length → (w.cell? ⟨g, o + j, none⟩).isSome = true := fun j hj => by rw [ints8_len] at hj; exact (g6 _ (by omega)).1
    refine Or.inr ⟨g, cap, by rw [ovr_len ho], g1, Nat.lt_of_lt_of_le g2 (below0_setCells g (ints8 xs) o w).size, by rw [ovr_len ho]; exact g3, g4, fun j x hx => ?_, fun j hj => ⟨isSome_setCells g _ _ w hc j (g6 j hj).1, by rw [World.frozen?_setCells]; exact (g6 j hj).2⟩⟩
    by_cases hj : o ≤ j ∧ j < o + xs.length
    · obtain ⟨i, rfl⟩ : ∃ i, j = o + i := ⟨j - o, by omega⟩
      rw [ovr_in ho (by omega)] at hx
      have h8 := ints8_at hx
      rw [World.cell?_setCells_in g (ints8 xs) o w hc i (by rw [ints8_len]; omega), ← h8, List.getElem?_eq_getElem]
    · rw [ovr_out ho (by omega)] at hx
      rw [World.cell?_setCells_out g _ _ w _ (fun _ _ => by dsimp only; rw [ints8_len]; omega)]
      exact g5 j x hx
theorem Bq.cells {g : Nat} (w : World) (o : Nat) (vs : List Value) : Bq g w (w.setCells g o vs) := ⟨below0_setCells g vs o w, fun i _ hn => heap_setCells_ne g i hn vs o w⟩
theorem ints8_sb (s : ByteArray) : ints8 (Fee.sb s) = s.data.toList.map fun x => Value.int .u8 (x.toNat : Int) := by
  unfold ints8 Fee.sb
  rw [List.map_map]
  rfl
theorem size8 : ∀ w, (Go.sizeOf 5).run Try.prog w = .ok 1 w := fun w => by
  obtain ⟨i, hi, he⟩ := Option.map_eq_some_iff.1 info8
  simp only [Prod.mk.injEq] at he
  simp [sizeOf, typeInfo, hi, he.2.1]
/-- copy of a text into bytes of the call's own. -/
theorem cpStr {w0 w : World} {g cap : Nat} {l : List Int} (h : Own8 w0 w (.slice (some ⟨g, 0, none⟩) l.length cap) l) (o m c : Nat) (s : ByteArray) (hm : s.size ≤ m) (ho : o + s.size ≤ l.length) :
    (Builtin.copy_ #[23, 9] 3 #[.slice (some ⟨g, o, none⟩) m c, .string s]).run Try.prog w = .ok (goInt s.size) (w.setCells g o (ints8 (Fee.sb s))) := by
  rcases h with ⟨h, _⟩ | ⟨g', cap', h0, g1, g2, g3, g4, g5, g6⟩
  · simp at h
  · simp at h0
    obtain ⟨rfl, rfl⟩ := h0
    rw [ints8_sb]
    exact run_copy_string (P := Try.prog) w 23 9 3 5 g o m c s Try.underlying23 size8 hm (fun j hj => (g6 _ (by omega)).1) (fun j hj => (g6 _ (by omega)).2)
theorem slice_own (g o n cap b : Nat) (hb : b ≤ n) (_hn : n ≤ cap) (hc : b < cap) (w : World) : (Instr.slice 23 (.slice (some ⟨g, o, none⟩) n cap) (some (.int .i64 (b : Int))) none none).run Try.prog w = .ok (.slice (some ⟨g, o + b, none⟩) (n - b) (cap - b)) w := by
  have hu := run_underlying (P := Try.prog) Try.underlying23
  obtain ⟨i, hi, he⟩ := Option.map_eq_some_iff.1 info8
  have hs8 : i.size = 1 := by simp only [Prod.mk.injEq] at he; exact he.2.1
  have hcap : ¬ cap = b := by omega
  simp [Instr.slice, go_sem, hu, sizeOf, typeInfo, hi, hs8, hcap]
  omega
/-- Places under construction: n of them, k stand. -/
structure PlW (w : World) (g n : Nat) (ps : List (Nat × Nat)) (k : Nat) : Prop where
  c : ∀ i p, i < k → ps[i]? = some p → w.cell? ⟨g, i * 2, none⟩ = some (.int .u32 (2147475456 + (p.1 : Int))) ∧ w.cell? ⟨g, i * 2 + 1, none⟩ = some (.int .i64 (p.2 : Int))
  f : ∀ j, j < n * 2 → (w.cell? ⟨g, j, none⟩).isSome = true ∧ w.frozen? ⟨g, j, none⟩ = false
  lt : g < w.heap.size
theorem PlW.blk {w w' : World} {g n : Nat} {ps : List (Nat × Nat)} {k : Nat} (h : PlW w g n ps k) (e : w'.heap[g]? = w.heap[g]?) : PlW w' g n ps k :=
  ⟨fun i p hi hp => by rw [cell_block (p := ⟨g, i * 2, none⟩) e, cell_block (p := ⟨g, i * 2 + 1, none⟩) e]; exact h.c i p hi hp,
   fun j hj => by rw [cell_block (p := ⟨g, j, none⟩) e, frozen_block (p := ⟨g, j, none⟩) e]; exact h.f j hj,
   by
    apply Decidable.byContradiction
    intro hn
    have h1 : w'.heap[g]? = none := by simp; omega
    rw [h1] at e
    have := h.lt
    simp at e
    omega⟩
theorem some_other {w : World} {g i j : Nat} {u : Value} (h : (w.cell? ⟨g, i, none⟩).isSome = true) : ((w.setCell ⟨g, j, none⟩ u).cell? ⟨g, i, none⟩).isSome = true := by
  by_cases e : i = j
  · subst e
    obtain ⟨x, hx⟩ := Option.isSome_iff_exists.1 h
    rw [World.cell?_setCell_same _ _ _ hx]; rfl
  · rw [World.cell?_setCell_other _ _ _ _ (fun x => e (by simpa using (congrArg Addr.off x).symm))]; exact h
theorem PlW.push {w : World} {g n : Nat} {ps : List (Nat × Nat)} {k : Nat} (h : PlW w g n ps k) (hk : k < n) {p : Nat × Nat} (hp : ps[k]? = some p) :
    PlW ((w.setCell ⟨g, k * 2, none⟩ (.int .u32 (2147475456 + (p.1 : Int)))).setCell ⟨g, k * 2 + 1, none⟩ (.int .i64 (p.2 : Int))) g n ps (k + 1) := by
  have f0 := h.f (k * 2) (by omega)
  have f1 := h.f (k * 2 + 1) (by omega)
  refine ⟨fun i q hi hq => ?_, fun j hj => ⟨some_other (some_other (h.f j hj).1), by rw [World.frozen?_setCell, World.frozen?_setCell]; exact (h.f j hj).2⟩, by simpa [World.setCell] using h.lt⟩
  by_cases e : i = k
  · subst e
    rw [hp] at hq
    obtain rfl := Option.some.inj hq
    obtain ⟨x, hx⟩ := Option.isSome_iff_exists.1 f0.1
    obtain ⟨y, hy⟩ := Option.isSome_iff_exists.1 (some_other (j := i * 2) (u := .int .u32 (2147475456 + (p.1 : Int))) f1.1)
    refine ⟨?_, World.cell?_setCell_same _ _ _ hy⟩
    rw [World.cell?_setCell_other _ _ _ _ (fun x => by simpa using congrArg Addr.off x)]
    exact World.cell?_setCell_same _ _ _ hx
  · obtain ⟨a, b⟩ := h.c i q (by omega) hq
    refine ⟨?_, ?_⟩
    · rw [World.cell?_setCell_other _ _ _ _ (fun x => by have := congrArg Addr.off x; simp at this; omega), World.cell?_setCell_other _ _ _ _ (fun x => by have := congrArg Addr.off x; simp at this; omega)]
      exact a
    · rw [World.cell?_setCell_other _ _ _ _ (fun x => by have := congrArg Addr.off x; simp at this; omega), World.cell?_setCell_other _ _ _ _ (fun x => by have := congrArg Addr.off x; simp at this; omega)]
      exact b
theorem mkPl (w : World) (n : Nat) (hn : n ≤ 100) (ps : List (Nat × Nat)) : ∃ w', (Instr.makeSlice 25 (.int .i64 (n : Int)) (.int .i64 (n : Int))).run Try.prog w = .ok (.slice (some ⟨w.heap.size, 0, none⟩) n n) w' ∧ PlW w' w.heap.size n ps 0 ∧ Bw w w' := by
  have hinf : (Try.prog.info? 45).map (fun i => (i.zero, i.size, i.bytes)) = some (some (.agg #[.int .u32 0, .int .i64 0]), 2, 16) := by kernel_rfl
  obtain ⟨i, hi, he⟩ := Option.map_eq_some_iff.1 hinf
  simp only [Prod.mk.injEq] at he
  obtain ⟨hz, hs, hb⟩ := he
  obtain ⟨w', hr, ho, hg⟩ := run_makeSlice_full (P := Try.prog) (w := w) w.heap.size 25 45 i (.agg #[.int .u32 0, .int .i64 0]) 2 Try.underlying25 hi hz hs .i64 .i64 n (by omega) (by rw [hb]; omega) (by unfold maxLen; omega) (Nat.le_refl _)
  refine ⟨w', hr, ?_, Below.grown (Bw.refl w) hg (Nat.le_refl _) (fun k hk => by simp at hk)⟩
  rcases ho.2 with ⟨h2, _⟩ | ⟨b, cap, cur, h3, h4, h5, h6, h7, h8, h9⟩
  · simp at h2
  · simp at h3
    obtain ⟨rfl, rfl⟩ := h3
    refine ⟨fun i p hi => by omega, fun j hj => ⟨?_, ?_⟩, (Array.getElem?_eq_some_iff.1 h5).1⟩
    · have : j < cur.size := by omega
      simp [World.cell?, h5, this]
    · simp [World.frozen?, h5]
set_option maxHeartbeats 2000000 in
set_option maxRecDepth 100000 in
theorem layTexts_c (w0 w : World) (gb cap at0 : Nat) (L : List Int) (v : Value) (l : List ByteArray) (hbw : Bw w0 w) (hv : TxS w0 v l) (hL : L.length = 4096) (hc : 4096 ≤ cap) (hc2 : cap ≤ 9223372036854775807) (hO : Own8 w0 w (.slice (some ⟨gb, 0, none⟩) 4096 cap) L) (hgb : w0.heap.size ≤ gb) (hgb2 : gb < w.heap.size) (hn : l.length ≤ 16) (hr : at0 + Stk.room l ≤ 4096) :
    Calls Try.prog 20 #[.slice (some ⟨gb, 0, none⟩) 4096 cap, .int .i64 at0, v] w fun e w' => ∃ g, e = .returned (.slice (some ⟨g, 0, none⟩) l.length l.length) ∧ PlW w' g l.length (Stk.pls at0 l) l.length ∧ g ≠ gb ∧ w0.heap.size ≤ g ∧ Own8 w0 w' (.slice (some ⟨gb, 0, none⟩) 4096 cap) (Stk.txs L at0 l) ∧ Bw w0 w' := by
  obtain ⟨q, cap2, rfl, hc3, hc4, hcell⟩ := RdR.at1 hv
  obtain ⟨w1, hmk, hP, hb1⟩ := mkPl w l.length (by omega) (Stk.pls at0 l)
  obtain ⟨pg, hpg⟩ : ∃ pg, w.heap.size = pg := ⟨_, rfl⟩
  rw [hpg] at hmk hP hgb2
  have hpgw : w0.heap.size ≤ pg := by rw [← hpg]; exact hbw.size
  have hne : pg ≠ gb := by omega
  have hO1 := hO.bw hb1
  have hbw1 := hbw.trans hb1
  clear hO hv hb1
  generalize hR : Stk.txs L at0 l = R
  have HR : Hid _ := hR
  clear hR
  go_enter Try.func20, Try.ntmps20
  go_wp2_with fail
  go_loopg [1, 15] l.length (fun g x j wr => ∃ (k a : Nat) (M : List Int), k + g = l.length ∧ j = .int .i64 k ∧ x = .int .i64 a ∧ a = at0 + Stk.room (l.take k) ∧ Bw w0 wr ∧ M.length = 4096 ∧ Own8 w0 wr (.slice (some ⟨gb, 0, none⟩) 4096 cap) M ∧ Stk.txs M a (l.drop k) = R ∧ PlW wr pg l.length (Stk.pls at0 l) k)
  case atStart => exact ⟨0, at0, L, by omega, rfl, rfl, by simp [Stk.room], hbw1, hL, hO1, HR, hP⟩
  case round =>
    obtain ⟨k, a, M, hkg, rfl, rfl, ha, hbr, hM, hOr, hrun, hPr⟩ := hrel
    have HRun : Hid _ := hrun
    clear hrun HR hO1 hbw1 hP
    by_cases hk : k = l.length
    · subst hk
      rw [List.drop_length] at HRun
      have hRe : M = R := HRun
      subst hRe
      go_wp2_with fail
      go_returns
      exact ⟨pg, rfl, hPr, hne, hpgw, hOr, hbr⟩
    · have hkl : k < l.length := by omega
      have hki : (k : Int) < (l.length : Int) := by omega
      obtain ⟨s, hs, hd⟩ := dropAt hkl
      have hrt := Stk.room_take l k
      rw [hd, Stk.room_cons] at hrt
      rw [hd] at HRun
      obtain ⟨b, o, rfl, hb, c0⟩ := hcell k s hs
      have c1 := hbr.keep c0
      have hp : (Stk.pls at0 l)[k]? = some (a, s.size) := by
        obtain ⟨p, hp⟩ : ∃ p, (Stk.pls at0 l)[k]? = some p := ⟨_, List.getElem?_eq_getElem (by rw [Stk.pls_len]; exact hkl)⟩
        obtain ⟨s', h1, h2⟩ := Stk.pls_at l at0 k p hp
        rw [hs] at h1
        obtain rfl := Option.some.inj h1
        rw [hp, h2, ha]
      have hsl := slice_own gb 0 4096 cap a (by omega) hc (by omega)
      rw [Nat.zero_add] at hsl
      have hOM : Own8 w0 wr (.slice (some ⟨gb, 0, none⟩) M.length cap) M := by rw [hM]; exact hOr
      have hcp := cpStr hOM a (4096 - a) (cap - a) s (by omega) (by omega)
      have hO2 := hOM.over a (Fee.sb s) (by rw [Fee.sb_len]; omega)
      rw [hM] at hO2
      have hM2 : (ovr M a (Fee.sb s)).length = 4096 := by rw [ovr_len (by rw [Fee.sb_len]; omega), hM]
      have hq2 : Bq gb wr (wr.setCells gb a (ints8 (Fee.sb s))) := Bq.cells wr a _
      have hb2 : Bw w0 (wr.setCells gb a (ints8 (Fee.sb s))) := hq2.toBw hbr hgb
      have hP2 := hPr.blk (hq2.block pg hPr.lt hne)
      have HRun2 : Hid (Stk.txs (ovr M a (Fee.sb s)) (a + s.size + 1) (l.drop (k + 1)) = R) := HRun
      have c2 := hb2.keep c0
      obtain ⟨W2, hW2⟩ : ∃ W2, wr.setCells gb a (ints8 (Fee.sb s)) = W2 := ⟨_, rfl⟩
      rw [hW2] at hcp hO2 hq2 hb2 hP2 c2
      have f0 := hP2.f (k * 2) (by omega)
      have f1 := hP2.f (k * 2 + 1) (by omega)
      have hP3 := hP2.push hkl hp
      have hq3 : Bq pg W2 ((W2.setCell ⟨pg, k * 2, none⟩ (.int .u32 (2147475456 + (a : Int)))).setCell ⟨pg, k * 2 + 1, none⟩ (.int .i64 (s.size : Int))) := ((Bq.refl pg W2).set _ _).set _ _
      have hb3 := hq3.toBw hb2 hpgw
      have hO3 : Own8 w0 ((W2.setCell ⟨pg, k * 2, none⟩ (.int .u32 (2147475456 + (a : Int)))).setCell ⟨pg, k * 2 + 1, none⟩ (.int .i64 (s.size : Int))) (.slice (some ⟨gb, 0, none⟩) 4096 cap) (ovr M a (Fee.sb s)) := by
        rcases hO2 with h | ⟨g, cap', h0, g1, g2, g3, g4, g5, g6⟩
        · simp at h
        · simp at h0
          obtain ⟨rfl, -, rfl⟩ := h0
          have hbl := hq3.block gb g2 (Ne.symm hne)
          refine Or.inr ⟨gb, cap, by rw [hM2], g1, Nat.lt_of_lt_of_le g2 hq3.b0.size, g3, g4, fun j x hx => ?_, fun j hj => ?_⟩
          · rw [cell_block (p := ⟨gb, j, none⟩) hbl]; exact g5 j x hx
          · rw [cell_block (p := ⟨gb, j, none⟩) hbl, frozen_block (p := ⟨gb, j, none⟩) hbl]; exact g6 j hj
      have hA := fun X => addrOf_c a X (by omega)
      have HFin : Hid (Own8 w0 ((W2.setCell ⟨pg, k * 2, none⟩ (.int .u32 (2147475456 + (a : Int)))).setCell ⟨pg, k * 2 + 1, none⟩ (.int .i64 (s.size : Int))) (.slice (some ⟨gb, 0, none⟩) 4096 cap) (ovr M a (Fee.sb s)) ∧ Bw w0 ((W2.setCell ⟨pg, k * 2, none⟩ (.int .u32 (2147475456 + (a : Int)))).setCell ⟨pg, k * 2 + 1, none⟩ (.int .i64 (s.size : Int))) ∧ PlW ((W2.setCell ⟨pg, k * 2, none⟩ (.int .u32 (2147475456 + (a : Int)))).setCell ⟨pg, k * 2 + 1, none⟩ (.int .i64 (s.size : Int))) pg l.length (Stk.pls at0 l) (k + 1)) := ⟨hO3, hb3, hP3⟩
      have ha2 : a + s.size + 1 = at0 + Stk.room (l.take (k + 1)) := by
        have h1 := Stk.room_take l (k + 1)
        omega
      clear hO2 hOM hOr hO3 hP3 hb3 hq3 hq2 hP2 hPr hd hs hp HRun hcell hW2 c0
      have hab : a + s.size + 1 ≤ 4096 := by omega
      have HA2 : Hid _ := ha2
      clear ha2 ha hrt
      obtain ⟨u0, hu0⟩ := Option.isSome_iff_exists.1 f0.1
      obtain ⟨u1, hu1⟩ := Option.isSome_iff_exists.1 f1.1
      have f02 := f0.2
      have f12 := f1.2
      clear f0 f1
      go_wp2_with (first | (at_builtin; refine wpCopy2 rfl _ _ 23 9 rfl rfl rfl hcp ?_) | (go_at_call 23; refine (hA _).mono ?_; rintro e w5 ⟨rfl, rfl⟩))
      go_roundg (l.length - (k + 1))
      case measure => omega
      case rel => exact ⟨k + 1, a + s.size + 1, _, by omega, by simp, by first | rfl | (congr 1; omega), HA2, HFin.2.1, hM2, HFin.1, HRun2, HFin.2.2⟩
end Go.Proofs.Ythicidkjhpnleaa
