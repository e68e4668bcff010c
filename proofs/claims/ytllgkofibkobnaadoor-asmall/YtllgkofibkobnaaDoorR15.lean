/- LAYER 6: what the reference's Parse stands on: slices of integers of the call's own; its parts, plain. · LAYER 6: the document's Parse (the reference's). · LAYER 6: the document's Parse (the reference's): numbers too far off for any instruction from Op 3 on. -/
import Derived.Test.YtllgkofibkobnaaDoorR14
namespace Go.Proofs.YtllgkofibkobnaaDoor
open Go.ChangeShapes Go.WideShapes Go.ChangeAt Go.RowKit

theorem infoI : ∃ i, Tryd.prog.info? 3 = some i ∧ i.zero = some (.int .i64 0) ∧ i.size = 1 ∧ i.bytes = 8 := by
  have h : (Tryd.prog.info? 3).map (fun i => (i.zero, i.size, i.bytes)) = some (some (.int .i64 0), 1, 8) := by kernel_rfl
  obtain ⟨i, hi, he⟩ := Option.map_eq_some_iff.1 h
  simp only [Prod.mk.injEq] at he
  exact ⟨i, hi, he.1, he.2.1, he.2.2⟩
def intsV (l : List Int) : List Value := l.map fun x => Value.int .i64 x
/-- A slice of integers that the call made. -/
def OwnI (w0 w : World) (v : Value) (l : List Int) : Prop := w.ownsRow w0.heap.size 3 1 v l.length (intsV l)
theorem OwnI.bw {w0 w w' : World} {v : Value} {l : List Int} (h : OwnI w0 w v l) (g : Bw w w') : OwnI w0 w' v l := by
  obtain ⟨h1, h2⟩ := h
  refine ⟨h1, ?_⟩
  rcases h2 with h2 | ⟨b, cap, cur, h3, h4, h5, h6⟩
  · exact Or.inl h2
  · exact Or.inr ⟨b, cap, cur, h3, h4, by rw [Below.block g b (Array.getElem?_eq_some_iff.1 h5).1]; exact h5, h6⟩
theorem OwnI.nil (w0 w : World) : OwnI w0 w (.slice none 0 0) [] := ⟨rfl, Or.inl ⟨rfl, rfl⟩⟩
theorem OwnI.at {w0 w : World} {v : Value} {l : List Int} (h : OwnI w0 w v l) : ∃ q cap, v = .slice q l.length cap ∧ l.length ≤ cap ∧ cap ≤ maxLen ∧ (0 < l.length → ∃ b, q = some ⟨b, 0, none⟩ ∧ w0.heap.size ≤ b ∧ b < w.heap.size ∧ ∀ (j : Nat) t, l[j]? = some t → w.cell? ⟨b, j, none⟩ = some (.int .i64 t)) := by
  obtain ⟨h1, h2⟩ := h
  rcases h2 with ⟨rfl, h3⟩ | ⟨g, cap, cur, rfl, hb, hc, h4, h5, h6, h7⟩
  · exact ⟨none, 0, by rw [h3], by omega, by unfold maxLen; omega, fun h => by omega⟩
  · refine ⟨_, _, rfl, h4, h5, fun _ => ⟨g, rfl, hb, (Array.getElem?_eq_some_iff.1 hc).1, fun j t ht => ?_⟩⟩
    have hj : j < l.length := (List.getElem?_eq_some_iff.1 ht).1
    have h8 : (intsV l)[j]? = some (.int .i64 t) := by simp [intsV, ht]
    rw [← h7, List.getElem?_take_of_lt (by omega)] at h8
    simp [World.cell?, hc] at h8 ⊢
    exact h8
theorem appI {w0 wr : World} {v : Value} {l : List Int} (hown : OwnI w0 wr v l) (hbw : Bw w0 wr) (x : Int) (hn : l.length ≤ 1000000) :
    ∃ v' w', (Builtin.append_ #[68, 68] 68 #[v, .slice (some ⟨wr.heap.size, 0, none⟩) 1 1]).run Tryd.prog (wr.alloc (.cells #[.int .i64 x] 3)) = .ok v' w' ∧ OwnI w0 w' v' (l ++ [x]) ∧ Bw w0 w' := by
  obtain ⟨i, hi, hz, hs, hb⟩ := infoI
  have hbA := hbw.alloc (.cells #[.int .i64 x] 3)
  have hownA : OwnI w0 (wr.alloc (.cells #[.int .i64 x] 3)) v l := hown.bw ((Bw.refl wr).alloc _)
  obtain ⟨v', w', hr, ho, hg, -, hloc⟩ := run_append_own_at (P := Tryd.prog) (w := wr.alloc (.cells #[.int .i64 x] 3)) w0.heap.size 68 68 3 i (.int .i64 0) 1 8 Tryd.underlying68 hi hz hs hb rfl (by decide) v l.length (intsV l) hownA ⟨wr.heap.size, 0, none⟩ 1 1 [.int .i64 x] (by simp)
    (fun j u hu => by
      have hadd : (⟨wr.heap.size, 0, none⟩ : Addr).add j = ⟨wr.heap.size, j, none⟩ := by unfold Addr.add; split <;> simp_all
      rw [hadd, World.cell?_alloc_at _ _ _ _ (by simp)]
      simpa using hu)
    (fun u hu => by simp at hu; subst hu; rfl) (by unfold maxLen; omega) (by omega) (by have := hbw.size; simp; omega)
  refine ⟨v', w', hr, ?_, ?_⟩
  · unfold OwnI
    rw [List.length_append]
    have : intsV (l ++ [x]) = intsV l ++ [.int .i64 x] := by simp [intsV]
    rw [this]; exact ho
  · refine Below.grown hbA hg (Nat.le_trans hbw.size (by simp)) (fun k hk => ?_)
    obtain ⟨h1, h2⟩ := hown
    rcases h2 with ⟨h2, _⟩ | ⟨b, cap, cur, h3, h4, h5, h6⟩
    · rw [h2] at hk; simp [Value.ownBlock] at hk
    · rw [h3] at hk; simp [Value.ownBlock] at hk; omega
/-- The reference's parts: its registers, its number. -/
def Asm.rp : List UInt8 → List (List UInt8) → List Int → Int → Option (List Int × Int)
  | [], [], rg, n => some (rg, n)
  | p :: ps, t :: ts, rg, n => if p = 114 then (if Asm.regOk t then Asm.rp ps ts (rg ++ [Asm.reg t]) n else none) else if p = 110 then (if Asm.numOk t then Asm.rp ps ts rg (Asm.num t) else none) else if t = [p] then Asm.rp ps ts rg n else none
  | [], _ :: _, _, _ => none
  | _ :: _, [], _, _ => none
theorem Asm.parts_u (op : Int) (ts : List (List UInt8)) : Asm.parts [100, 44, 117] ts ⟨op, 0, 0, 0, 0⟩ true = (Asm.rp [114, 44, 110] ts [] 0).map fun x => (⟨op, x.1.getD 0 0, 0, 0, Asm.w32 (x.2 * 4096)⟩, decide (x.2 / 1048576 = 0)) := by
  rcases ts with _ | ⟨a, _ | ⟨b, _ | ⟨c, _ | ⟨d, r⟩⟩⟩⟩ <;> simp [Asm.parts, Asm.rp, Asm.part, Asm.mk] <;> (repeat' split) <;> simp_all
theorem Asm.parts_j (op : Int) (ts : List (List UInt8)) : Asm.parts [100, 44, 105] ts ⟨op, 0, 0, 0, 0⟩ true = (Asm.rp [114, 44, 110] ts [] 0).map fun x => (⟨op, x.1.getD 0 0, 0, 0, Asm.w32 x.2⟩, decide (Asm.w32 x.2 = x.2)) := by
  rcases ts with _ | ⟨a, _ | ⟨b, _ | ⟨c, _ | ⟨d, r⟩⟩⟩⟩ <;> simp [Asm.parts, Asm.rp, Asm.part, Asm.mk] <;> (repeat' split) <;> simp_all
theorem Asm.parts_l (op : Int) (ts : List (List UInt8)) : Asm.parts [100, 44, 105, 40, 115, 41] ts ⟨op, 0, 0, 0, 0⟩ true = (Asm.rp [114, 44, 110, 40, 114, 41] ts [] 0).map fun x => (⟨op, x.1.getD 0 0, x.1.getD 1 0, 0, Asm.w32 x.2⟩, decide (Asm.w32 x.2 = x.2)) := by
  rcases ts with _ | ⟨a, _ | ⟨b, _ | ⟨c, _ | ⟨d, _ | ⟨e, _ | ⟨f, _ | ⟨g, r⟩⟩⟩⟩⟩⟩⟩ <;> simp [Asm.parts, Asm.rp, Asm.part, Asm.mk] <;> (repeat' split) <;> simp_all
theorem Asm.parts_s (op : Int) (ts : List (List UInt8)) : Asm.parts [116, 44, 105, 40, 115, 41] ts ⟨op, 0, 0, 0, 0⟩ true = (Asm.rp [114, 44, 110, 40, 114, 41] ts [] 0).map fun x => (⟨op, 0, x.1.getD 1 0, x.1.getD 0 0, Asm.w32 x.2⟩, decide (Asm.w32 x.2 = x.2)) := by
  rcases ts with _ | ⟨a, _ | ⟨b, _ | ⟨c, _ | ⟨d, _ | ⟨e, _ | ⟨f, _ | ⟨g, r⟩⟩⟩⟩⟩⟩⟩ <;> simp [Asm.parts, Asm.rp, Asm.part, Asm.mk] <;> (repeat' split) <;> simp_all
theorem Asm.parts_b (op : Int) (ts : List (List UInt8)) : Asm.parts [115, 44, 116, 44, 105] ts ⟨op, 0, 0, 0, 0⟩ true = (Asm.rp [114, 44, 114, 44, 110] ts [] 0).map fun x => (⟨op, 0, x.1.getD 0 0, x.1.getD 1 0, Asm.w32 x.2⟩, decide (Asm.w32 x.2 = x.2)) := by
  rcases ts with _ | ⟨a, _ | ⟨b, _ | ⟨c, _ | ⟨d, _ | ⟨e, _ | ⟨f, r⟩⟩⟩⟩⟩⟩ <;> simp [Asm.parts, Asm.rp, Asm.part, Asm.mk] <;> (repeat' split) <;> simp_all
theorem Asm.parts_i (op : Int) (ts : List (List UInt8)) : Asm.parts [100, 44, 115, 44, 105] ts ⟨op, 0, 0, 0, 0⟩ true = (Asm.rp [114, 44, 114, 44, 110] ts [] 0).map fun x => (⟨op, x.1.getD 0 0, x.1.getD 1 0, 0, Asm.w32 x.2⟩, decide (Asm.w32 x.2 = x.2)) := by
  rcases ts with _ | ⟨a, _ | ⟨b, _ | ⟨c, _ | ⟨d, _ | ⟨e, _ | ⟨f, r⟩⟩⟩⟩⟩⟩ <;> simp [Asm.parts, Asm.rp, Asm.part, Asm.mk] <;> (repeat' split) <;> simp_all
theorem Asm.parts_r (op : Int) (ts : List (List UInt8)) : Asm.parts [100, 44, 115, 44, 116] ts ⟨op, 0, 0, 0, 0⟩ true = (Asm.rp [114, 44, 114, 44, 114] ts [] 0).map fun x => (⟨op, x.1.getD 0 0, x.1.getD 1 0, x.1.getD 2 0, x.2⟩, true) := by
  rcases ts with _ | ⟨a, _ | ⟨b, _ | ⟨c, _ | ⟨d, _ | ⟨e, _ | ⟨f, r⟩⟩⟩⟩⟩⟩ <;> simp [Asm.parts, Asm.rp, Asm.part, Asm.mk] <;> (repeat' split) <;> simp_all
theorem Asm.parts_n (op : Int) (ts : List (List UInt8)) : Asm.parts [] ts ⟨op, 0, 0, 0, 0⟩ true = (Asm.rp [] ts [] 0).map fun x => (⟨op, 0, 0, 0, x.2⟩, true) := by
  rcases ts with _ | ⟨a, r⟩ <;> simp [Asm.parts, Asm.rp]
theorem Asm.rp_len : ∀ (ps : List UInt8) (ts : List (List UInt8)) rg n, ps.length ≠ ts.length → Asm.rp ps ts rg n = none := by
  intro ps
  induction ps with
  | nil => intro ts rg n h; cases ts with | nil => simp at h | cons => rfl
  | cons p ps ih =>
    intro ts rg n h
    cases ts with
    | nil => rfl
    | cons t ts =>
      have h' : ps.length ≠ ts.length := by simpa using h
      rw [Asm.rp]
      repeat' split
      all_goals first | rfl | exact ih _ _ _ h'
end Go.Proofs.YtllgkofibkobnaaDoor
namespace Go.Proofs.YtllgkofibkobnaaDoor
open Go.ChangeShapes Go.WideShapes Go.ChangeAt Go.RowKit

theorem Asm.opOf_name {hd : List UInt8} {k : Nat} (h0 : 0 < k) (h1 : k < 50) : (Rv.nmT.getD k [] == hd) = decide (Asm.opOf hd = k) := by
  by_cases h : Rv.nmT.getD k [] = hd
  · rw [Asm.opOf_at h0 h1 h]; simpa using h
  · have : Asm.opOf hd ≠ k := by
      intro e
      apply h
      unfold Asm.opOf at e
      cases hf : (List.range 50).find? (fun k => k != 0 && Rv.nmT.getD k [] == hd) with
      | none => rw [hf] at e; simp at e; omega
      | some j =>
        rw [hf] at e; simp at e; subst e
        have h2 := List.find?_some hf
        simp at h2
        simpa using h2.2
    simp [this]
    simpa using h
def Asm.aft : Option (Rv.Ins × Bool) → Rv.Ins × Int
  | none => (Asm.zero, 7)
  | some x => Asm.fine x.1 x.2
theorem Asm.behind_aft (op : Nat) (ts : List (List UInt8)) : Asm.behind op ts = Asm.aft (Asm.parts (Asm.shape op) ts ⟨op, 0, 0, 0, 0⟩ true) := by
  unfold Asm.behind Asm.aft
  split <;> simp_all
set_option maxHeartbeats 8000000 in
set_option maxRecDepth 100000 in
theorem rParse_empty (s : List UInt8) (w : World) (hl : s.length ≤ 16384) (hts : Asm.tok s = []) :
    Calls Tryd.prog 17 #[.string (bs s)] w fun e w' => e = .returned (.tuple #[Rv.iv (Asm.parse (Asm.tok s)).1, .int .i64 (Asm.parse (Asm.tok s)).2]) ∧ Bw w w' := by
  have hb0 := (Bw.refl w).alloc (.cells #[.int .i64 0, .int .i64 0, .int .i64 0, .int .i64 0, .int .i32 0] 45)
  have hz0 : IW (w.alloc (.cells #[.int .i64 0, .int .i64 0, .int .i64 0, .int .i64 0, .int .i32 0] 45)) w.heap.size Asm.zero := IW.new w Asm.zero 45
  have hT := rtokens_c s (w.alloc (.cells #[.int .i64 0, .int .i64 0, .int .i64 0, .int .i64 0, .int .i32 0] 45)) (by omega)
  have hTe : Hid _ := Asm.tok_each s []
  rw [show Asm.tokA [] s = Asm.tok s from rfl] at hTe
  rw [hts] at hT hTe ⊢
  rw [show Asm.parse [] = (Asm.zero, 7) from rfl]
  go_enter Tryd.func17, Tryd.ntmps17
  go_wp2_with fail
  refine hT.mono ?_
  rintro e w2 ⟨v, rfl, hO, hB2⟩
  obtain ⟨q, cap, rfl, hcap, hcm, hcells⟩ := hO.at
  simp only [List.length_nil] at *
  have hz := hz0.bw hB2
  have r0 := hz.box.c0; have r1 := hz.box.c1; have r2 := hz.box.c2; have r3 := hz.box.c3; have r4 := hz.box.c4; have rz := hz.fz
  go_wp2_with fail
  refine bodyPost_ret (by simp [results, Tryd.results17, go_sem, r0, r1, r2, r3, r4]; try rfl) rfl ?_
  exact ⟨rfl, (hb0.trans hB2).set5 _ _ _ _ _⟩
set_option maxHeartbeats 8000000 in
set_option maxRecDepth 100000 in
theorem rParse_noop (s : List UInt8) (w : World) (hl : s.length ≤ 16384) (hd : List UInt8) (rest : List (List UInt8)) (hts : Asm.tok s = hd :: rest) (hg : Asm.opOf hd = 0) :
    Calls Tryd.prog 17 #[.string (bs s)] w fun e w' => e = .returned (.tuple #[Rv.iv (Asm.parse (Asm.tok s)).1, .int .i64 (Asm.parse (Asm.tok s)).2]) ∧ Bw w w' := by
  have hb0 := (Bw.refl w).alloc (.cells #[.int .i64 0, .int .i64 0, .int .i64 0, .int .i64 0, .int .i32 0] 45)
  have hz0 : IW (w.alloc (.cells #[.int .i64 0, .int .i64 0, .int .i64 0, .int .i64 0, .int .i32 0] 45)) w.heap.size Asm.zero := IW.new w Asm.zero 45
  have hT := rtokens_c s (w.alloc (.cells #[.int .i64 0, .int .i64 0, .int .i64 0, .int .i64 0, .int .i32 0] 45)) (by omega)
  have hTe : Hid _ := Asm.tok_each s []
  rw [show Asm.tokA [] s = Asm.tok s from rfl] at hTe
  rw [hts] at hT hTe ⊢
  have HG : Hid _ := hg
  clear hg hts
  have hPar : Asm.parse (hd :: rest) = if Asm.opOf hd = 0 then (Asm.zero, 7) else Asm.behind (Asm.opOf hd) rest := rfl
  have HPar : Hid _ := hPar
  generalize Asm.parse (hd :: rest) = PR at *
  clear hPar
  go_enter Tryd.func17, Tryd.ntmps17
  go_wp2_with fail
  refine hT.mono ?_
  rintro e w2 ⟨v, rfl, hO, hB2⟩
  obtain ⟨q, cap, rfl, hcap, hcm, hcells⟩ := hO.at
  obtain ⟨b, rfl, hb1, hb2, hcc⟩ := hcells (by simp)
  have hx0 := (hcc 0 _ rfl).1
  clear hcells hT
  simp only [List.length_cons] at *
  go_wp2_with fail
  go_loopg [5, 6] 49 (fun g o x wr => ∃ k op : Nat, k + g = 50 ∧ o = .int .i64 op ∧ x = .int .i64 k ∧ 1 ≤ k ∧ Bw w2 wr ∧ op = if Asm.opOf hd < k then Asm.opOf hd else 0)
  case atStart => exact ⟨1, 0, by omega, rfl, rfl, by omega, Bw.refl _, by split <;> omega⟩
  case round =>
    obtain ⟨k, op, hkg, rfl, rfl, hk1, hbw, hop⟩ := hrel
    by_cases hk : k = 50
    · subst hk
      have hOp : op = Asm.opOf hd := by rw [hop, if_pos (Asm.opOf_bd hd)]
      have hOb := Asm.opOf_bd hd
      have hOp0 : op = 0 := hOp.trans HG
      rw [← hOp] at HPar hOb
      clear hop hOp hkg
      have hz := (hz0.bw hB2).bw hbw
      have r0 := hz.box.c0; have r1 := hz.box.c1; have r2 := hz.box.c2; have r3 := hz.box.c3; have r4 := hz.box.c4; have rz := hz.fz
      have hcw := fun (j : Nat) t (h : (hd :: rest)[j]? = some t) => hbw.keep (hcc j t h).1
      have hW := (hb0.trans hB2).trans hbw
      obtain rfl : op = 0 := hOp0
      have HP2 : Hid (PR = (Asm.zero, 7)) := by show PR = _; rw [show PR = _ from HPar, if_pos rfl]
      clear hOb hcw
      go_wp2_with fail
      refine bodyPost_ret (by simp [results, Tryd.results17, go_sem, r0, r1, r2, r3, r4]; try rfl) rfl ?_
      exact ⟨by rw [show PR = _ from HP2]; rfl, hW.set5 _ _ _ _ _⟩
    · have hkl : k < 50 := by omega
      have hle : (k : Int) ≤ 49 := by omega
      have hx := Rv.nmC_at (n := k) hkl
      have hN := rnames_c
      have hq := Asm.opOf_name (hd := hd) (k := k) (by omega) hkl
      unfold Rv.nmS at hx
      generalize Rv.nmT.getD k [] = nm at *
      generalize Rv.nmC = C at *
      have hxr := hbw.keep hx0
      have HOp : Hid _ := hop
      clear hop
      go_wp2_with fail
      have hbz : b < wr.heap.size := Nat.lt_of_lt_of_le hb2 hbw.size
      have hB3 : ∀ C, Bw w2 (wr.alloc (.cells C 9)).drew := fun C => (hbw.alloc _).drew
      by_cases hok : Asm.opOf hd = k
      · rw [decide_eq_true hok] at hq
        have HK : Hid _ := hok
        clear hok
        go_region_with (go_at_call 37; refine (hN _).mono ?_; rintro e w' ⟨rfl, rfl⟩)
        all_goals go_wp2_with fail
        all_goals
          go_roundg (50 - (k + 1))
          case measure => omega
          case rel => exact ⟨k + 1, k, by omega, rfl, by simp, by omega, hB3 _, by rw [show _ = k from HK, if_pos (by omega)]⟩
      · rw [decide_eq_false hok] at hq
        have HK : Hid _ := hok
        clear hok
        go_region_with (go_at_call 37; refine (hN _).mono ?_; rintro e w' ⟨rfl, rfl⟩)
        all_goals go_wp2_with fail
        all_goals
          go_roundg (50 - (k + 1))
          case measure => omega
          case rel =>
            refine ⟨k + 1, op, by omega, rfl, by simp, by omega, hB3 _, ?_⟩
            rw [show op = _ from HOp]
            have : Asm.opOf hd ≠ k := HK
            split <;> split <;> omega
end Go.Proofs.YtllgkofibkobnaaDoor
namespace Go.Proofs.YtllgkofibkobnaaDoor
open Go.ChangeShapes Go.WideShapes Go.ChangeAt Go.RowKit

theorem Rv.far {i : Rv.Ins} (h : 3 ≤ i.op) (hf : i.imm < -2000000 ∨ 2000000 < i.imm) : ¬ Rv.good i := by
  rintro ⟨_, _, _, _, _, h2, h3, h4, h5, h6, h7, h0⟩
  rcases Rv.lay_cases i.op with ⟨e, h⟩ | ⟨e, _⟩ | ⟨e, _⟩ | ⟨e, _⟩ | ⟨e, _⟩ | ⟨e, _⟩ | ⟨e, _⟩ | ⟨e, _⟩
  · omega
  · have := h2 e; omega
  · have := h3 e; omega
  · have := h4 e; omega
  · have := h5 e; omega
  · have := h6 e; omega
  · have := h7 e; omega
  · have := h0 e; omega
end Go.Proofs.YtllgkofibkobnaaDoor
