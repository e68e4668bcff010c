/- LAYER 12's laws: the memory that they make, an instruction's word. · EQUAL AGGREGATES are equal, as Go asks it. · LAYER 12: a State, a page of the reference, is equal to itself, as Go asks it. · LAYER 12's laws: what the document tells of one sum. -/
import Derived.Test.YtbackacbdfgdoaaDoorK9
import Derived.Test.YtbackacbdfgdoaaDoorK12
import Derived.Test.YtbackacbdfgdoaaDoorK7
import Derived.Test.YtbackacbdfgdoaaDoorK1
import Derived.DeepKeys
import Derived.Test.YtbackacbdfgdoaaDoorK8
namespace Go.Proofs.YtbackacbdfgdoaaDoor
open Go.ChangeShapes Go.WideShapes Go.ChangeAt Go.RowKit
open Cpu
set_option linter.unusedVariables false
set_option linter.unusedSimpArgs false

/-- A slice of words. -/
def RdW (w : World) (v : Value) (l : List Int) : Prop := RdR 1 w v l.length (l.map (Value.int .u32))
theorem RdW.bw {w w' : World} {v : Value} {l : List Int} (h : RdW w v l) (g : Bw w w') : RdW w' v l := RdR.bw h g
/-- Bytes laid in, as Poke does. -/
theorem poke_c {w0 w : World} {mb N : Nat} {S : MS} {P : Nat → Prop} (h : HasB w0 w mb N S P) (a : Int) (ha : U4 a) {v : Value} {l : List Int} (hv : Rd8 w v l) (hn : l.length ≤ 65536) (hm : May S a l.length 0) (h8 : B8s l) (hP : ∀ q n c, v = .slice (some q) n c → 0 < n → P q.block) :
    Calls Tryd.prog 26 #[.pointer (some ⟨mb, 0, none⟩), .int .u32 a, v] w fun e w' => e = .returned (.int .i64 0) ∧ HasB w0 w' mb N (Cpu.poke S a l) P ∧ Kp P w w' := by
  obtain ⟨q, cap, rfl, hc, hc2, hl, hb⟩ := hv
  unfold Cpu.poke
  by_cases hz : l = []
  · subst hz
    rw [if_pos rfl]
    refine (Poke_b0 h a ha q cap).mono ?_
    rintro e w' ⟨rfl, b⟩
    exact ⟨rfl, h.on b, Kp.bw b⟩
  · have hz2 : 0 < l.length := List.length_pos_iff.2 hz
    rw [if_neg hz]
    obtain ⟨b, o, rfl, hbl, hcell⟩ := hb hz2
    refine (Poke_b h a l.length ha hz2 hn hm b o cap (fun i => l.getD i 0) hc (fun i hi => ?_) (fun i => ?_) (hP _ _ _ rfl hz2)).mono ?_
    · exact hcell i _ (by simp [ints8, List.getElem?_eq_getElem hi, List.getD])
    · show 0 ≤ l.getD i 0 ∧ l.getD i 0 < 256
      rw [List.getD_eq_getElem?_getD]
      cases e : l[i]? with
      | none => exact ⟨by decide, by decide⟩
      | some x => exact h8 x (List.mem_of_getElem? e)
    · rintro e w' ⟨rfl, h1, h2⟩
      exact ⟨rfl, h1, h2⟩
theorem w4_b8 {x : Int} (h : U4 x) : B8s (Fee.w4 x) := by
  obtain ⟨a, b⟩ := h
  intro y hy
  simp [Fee.w4] at hy
  show 0 ≤ y ∧ y < 256
  rcases hy with rfl | rfl | rfl | rfl <;> omega
theorem cbs_b8 {ws : List Int} (h : ∀ x ∈ ws, U4 x) : B8s (cbs ws) := by
  intro y hy
  unfold cbs at hy
  obtain ⟨x, hx, hy⟩ := List.mem_flatMap.1 hy
  exact w4_b8 (h x (List.mem_of_mem_take hx)) y hy
theorem Rd8.take12 {w : World} {q : Option Addr} {cap : Nat} {L : List Int} (h : Rd8 w (.slice q L.length cap) L) {t : Nat} (ht : t ≤ L.length) : Rd8 w (.slice q t cap) (L.take t) := by
  obtain ⟨q', cap', e, h1, h2, h3, h4⟩ := h
  obtain ⟨rfl, rfl⟩ : q = q' ∧ cap = cap' := by simp at e; exact ⟨e.1, e.2⟩
  have hl : (L.take t).length = t := by rw [List.length_take]; omega
  refine ⟨q, cap, by rw [hl], by omega, h2, by simp [ints8], fun h0 => ?_⟩
  obtain ⟨b, o, rfl, h5, h6⟩ := h4 (by omega)
  refine ⟨b, o, rfl, h5, fun j u hu => h6 j u ?_⟩
  have hj : j < t := by
    have := (List.getElem?_eq_some_iff.1 hu).1
    simp [ints8] at this
    omega
  rw [← hu]
  simp [ints8, List.getElem?_take_of_lt hj]
set_option maxRecDepth 100000 in
set_option maxHeartbeats 4000000 in
theorem made_c (w : World) (v x : Value) (ws db : List Int) (hw : RdW w v ws) (hx : Rd8 w x db) (hu : ∀ y ∈ ws, U4 y) (h8 : B8s db) :
    Calls Tryd.prog 11 #[v, x] w fun e w' => ∃ mb, e = .returned (.pointer (some ⟨mb, 0, none⟩)) ∧ HasB w w' mb 12288 (mkS ws db) (fun i => i < w.heap.size) := by
  have hw2 := hw
  have hx2 := hx
  obtain ⟨q, cap, rfl, hc1, hc2, -, hcw⟩ := hw
  obtain ⟨q2, cap2, rfl, hd1, hd2, -, -⟩ := hx
  go_enter Tryd.func11, Tryd.ntmps11
  go_wp2_with fail
  refine (New_b (Bw.refl w) 50 (by omega)).mono ?_
  rintro e w1 ⟨mb, rfl, hM, b1⟩
  have hMap := Map_b hM (fun i hi => Nat.lt_of_lt_of_le hi b1.size) 4096 256 5 ⟨by omega, by omega⟩ ⟨by omega, by omega⟩ (by unfold maxLen; omega) (fun _ => new_ins _ _)
  rw [Cpu.m1] at hMap
  clear hM
  go_wp2_with fail
  refine hMap.mono ?_
  rintro e w2 ⟨rfl, hM, k2⟩
  have hMap := Map_b hM (fun i hi => Nat.lt_of_lt_of_le hi (Below.size hM.bw)) 65536 256 3 ⟨by omega, by omega⟩ ⟨by omega, by omega⟩ (by unfold maxLen; omega) (fun _ => Cpu.i2)
  rw [Cpu.m2] at hMap
  clear hM
  go_wp2_with fail
  refine hMap.mono ?_
  rintro e w3 ⟨rfl, hM, k3⟩
  have hMap := Map_b hM (fun i hi => Nat.lt_of_lt_of_le hi (Below.size hM.bw)) 65792 256 1 ⟨by omega, by omega⟩ ⟨by omega, by omega⟩ (by unfold maxLen; omega) (fun _ => Cpu.i3)
  rw [Cpu.m3] at hMap
  clear hM
  go_wp2_with fail
  refine hMap.mono ?_
  rintro e w4 ⟨rfl, hM, k4⟩
  have b4 := hM.bw
  change HasB w w4 mb 12288 base3 _ at hM
  have hwB := hw2.bw b4
  obtain ⟨q', cap', e1, -, -, -, hcw⟩ := hwB
  obtain ⟨rfl, rfl⟩ : q = q' ∧ cap = cap' := by simp at e1; exact ⟨e1.1, e1.2⟩
  clear k2 k3 k4 hMap b1 e1
  have hN := P8.nil w4 w4
  have HM : Hid _ := hM
  clear hM
  go_wp2_with fail
  go_loopg [7, 8, 9] (ws.take 64).length (fun g s j u wr => ∃ k : Nat, k + g = (ws.take 64).length ∧ j = .int .i64 k ∧ P8 w4 wr s ((ws.take k).flatMap Fee.w4) ∧ Bw w4 wr)
  case atStart => exact ⟨0, by omega, rfl, hN, Bw.refl _⟩
  case round =>
    obtain ⟨k, hkg, rfl, hown, hbr⟩ := hrel
    rw [List.length_take] at hkg
    by_cases hk : k < ws.length ∧ k < 64
    · obtain ⟨hk1, hk2⟩ := hk
      have hk3 : (k : Int) < (ws.length : Int) := by omega
      obtain ⟨y, hy⟩ : ∃ y, ws[k]? = some y := ⟨_, List.getElem?_eq_getElem hk1⟩
      obtain ⟨y0, y1⟩ := hu y (List.mem_of_getElem? hy)
      obtain ⟨b, o, rfl, hbl, hcell⟩ := hcw (by omega)
      have c1 := hbr.keep (hcell k (.int .u32 y) (by simp [hy]))
      obtain ⟨s', w5, hr, ho5, hb5, -⟩ := hown.row hbr (Fee.w4 y) (by rw [chunk_len Fee.w4 4 Fee.w4_len, Fee.w4_len, List.length_take]; omega) 4
      have hr2 : (Builtin.append_ #[38, 38] 38 #[u7, .slice (some ⟨wr.heap.size, 0, none⟩) 4 4]).run Tryd.prog (wr.alloc (.cells #[.int .u8 (y % 256), .int .u8 (y / 256 % 256), .int .u8 (y / 65536 % 256), .int .u8 (y / 16777216)] 5)) = .ok s' w5 := hr
      have HT : Hid (P8 w4 w5 s' ((ws.take (k + 1)).flatMap Fee.w4)) := by
        show P8 w4 w5 s' _
        rw [take_flat Fee.w4 hy]; exact ho5
      clear hr ho5 hcw hcell hy hx2 hown hu
      go_wp2_with (first | (at_builtin; refine wpApp rfl _ _ 38 rfl rfl rfl hr2 ?_) | go_in)
      go_roundg ((ws.take 64).length - (k + 1))
      case measure => rw [List.length_take]; omega
      case rel => exact ⟨k + 1, by rw [List.length_take]; omega, by simp, HT.out, hb5⟩
    · have hkm : k = min 64 ws.length := by omega
      have hE : ws.take k = ws.take 64 := by
        rw [hkm]
        by_cases h : ws.length ≤ 64
        · rw [List.take_of_length_le (by omega), List.take_of_length_le h]
        · rw [Nat.min_eq_left (by omega)]
      rw [hE] at hown
      change P8 w4 wr u7 (cbs ws) at hown
      have hcl : (cbs ws).length ≤ 256 := by rw [cbs_len, List.length_take]; omega
      have hM5 := ((show HasB w w4 mb 12288 base3 (fun i => i < w.heap.size) from HM.out).more (Q := fun i => i < w.heap.size ∨ w4.heap.size ≤ i) (fun _ h => h)).on hbr
      have hP5 := poke_c hM5 4096 ⟨by omega, by omega⟩ (v := u7) (l := cbs ws) hown.own.rd (by omega) (T3.base.may (Or.inl ⟨rfl, hcl⟩)) (cbs_b8 hu) (fun q n c e hn => Or.inr (OwnR.far hown q n c e hn))
      have HO : Hid (P8 w4 wr u7 (cbs ws)) := hown
      clear hM5 HM hcw hown hE hkm hcl HO
      have hfar : ∀ q' n c, (Value.slice q2 db.length cap2) = .slice (some q') n c → 0 < n → q'.block < w.heap.size := fun q' n c e hn => by
        obtain ⟨q3, c3, e3, -, -, -, h⟩ := hx2
        simp at e e3
        obtain ⟨rfl, rfl, rfl⟩ := e
        obtain ⟨b, o, h1, h2, -⟩ := h hn
        rw [← e3.1] at h1
        obtain rfl := Option.some.inj h1
        exact h2
      have fin : ∀ (l : List Int) (c : Nat), Rd8 w (.slice q2 l.length cap2) l → l = db.take 512 → ∀ w5, HasB w w5 mb 12288 (Cpu.poke base3 4096 (cbs ws)) (fun i => i < w.heap.size ∨ w4.heap.size ≤ i) →
          Calls Tryd.prog 26 #[.pointer (some ⟨mb, 0, none⟩), .int .u32 65536, .slice q2 l.length cap2] w5 fun e w' => e = .returned (.int .i64 0) ∧ HasB w w' mb 12288 (mkS ws db) (fun i => i < w.heap.size) := fun l c hl he w5 h5 => by
        have hlen : l.length ≤ 512 := by rw [he, List.length_take]; omega
        refine (poke_c h5 65536 ⟨by omega, by omega⟩ (Rd8.bw hl h5.bw) (by omega) ((T3.base.poke _ _).may (Or.inr ⟨rfl, hlen⟩)) (fun y hy => h8 y (by rw [he] at hy; exact List.mem_of_mem_take hy)) (fun q' n c e hn => Or.inl ?_)).mono ?_
        · obtain ⟨q3, c3, e3, -, -, -, h⟩ := hl
          simp at e e3
          obtain ⟨rfl, rfl, rfl⟩ := e
          obtain ⟨b, o, h1, h2, -⟩ := h hn
          rw [← e3.1] at h1
          obtain rfl := Option.some.inj h1
          exact h2
        · rintro e w' ⟨rfl, h6, _⟩
          refine ⟨rfl, ?_⟩
          unfold mkS
          rw [← he]
          exact h6.more (fun i hi => Or.inl (Or.inl hi))
      by_cases hd : db.length ≤ 512
      · have hd2 : ¬ (db.length : Int) > 512 := by omega
        have hf := fin db 0 hx2 (List.take_of_length_le hd).symm
        clear fin hfar hd hx2
        by_cases hk1 : k < ws.length
        · have hk2 : ¬ (k : Int) < 64 := by omega
          have hk3 : (k : Int) < (ws.length : Int) := by omega
          clear hk hu h8
          go_wp2_with fail
          refine hP5.mono ?_
          rintro e w6 ⟨rfl, h6, -⟩
          have hf6 := hf w6 h6
          clear hf hP5 h6
          go_wp2_with fail
          refine hf6.mono ?_
          rintro e w7 ⟨rfl, h7⟩
          go_wp2_with fail
          go_returns
          exact ⟨mb, rfl, h7⟩
        · have hk3 : ¬ (k : Int) < (ws.length : Int) := by omega
          clear hk hu h8
          go_wp2_with fail
          refine hP5.mono ?_
          rintro e w6 ⟨rfl, h6, -⟩
          have hf6 := hf w6 h6
          clear hf hP5 h6
          go_wp2_with fail
          refine hf6.mono ?_
          rintro e w7 ⟨rfl, h7⟩
          go_wp2_with fail
          go_returns
          exact ⟨mb, rfl, h7⟩
      · have hd2 : (db.length : Int) > 512 := by omega
        have hd3 : 512 ≤ cap2 := by omega
        have hx3 := Rd8.take12 hx2 (t := 512) (by omega)
        have hl5 : (db.take 512).length = 512 := by rw [List.length_take]; omega
        have hf := fin (db.take 512) 0 (by rw [hl5]; exact hx3) rfl
        rw [hl5] at hf
        obtain ⟨b2, o2, rfl⟩ : ∃ b o, q2 = some ⟨b, o, none⟩ := by
          obtain ⟨q3, c3, e3, -, -, -, h⟩ := hx2
          simp at e3
          obtain ⟨b, o, h1, -⟩ := h (by omega)
          exact ⟨b, o, e3.1.trans h1⟩
        clear fin hfar hd hx2 hx3 hl5
        by_cases hk1 : k < ws.length
        · have hk2 : ¬ (k : Int) < 64 := by omega
          have hk3 : (k : Int) < (ws.length : Int) := by omega
          clear hk hu h8
          go_wp2_with fail
          refine hP5.mono ?_
          rintro e w6 ⟨rfl, h6, -⟩
          have hf6 := hf w6 h6
          clear hf hP5 h6
          go_wp2_with fail
          refine hf6.mono ?_
          rintro e w7 ⟨rfl, h7⟩
          go_wp2_with fail
          go_returns
          exact ⟨mb, rfl, h7⟩
        · have hk3 : ¬ (k : Int) < (ws.length : Int) := by omega
          clear hk hu h8
          go_wp2_with fail
          refine hP5.mono ?_
          rintro e w6 ⟨rfl, h6, -⟩
          have hf6 := hf w6 h6
          clear hf hP5 h6
          go_wp2_with fail
          refine hf6.mono ?_
          rintro e w7 ⟨rfl, h7⟩
          go_wp2_with fail
          go_returns
          exact ⟨mb, rfl, h7⟩
end Go.Proofs.YtbackacbdfgdoaaDoor
namespace Go.Proofs.YtbackacbdfgdoaaDoor
open Go.ChangeShapes Go.WideShapes Go.ChangeAt Go.RowKit
set_option linter.unusedVariables false

theorem mapM_of {α β : Type} {f : α → Option β} {g : α → β} : ∀ {l : List α}, (∀ x ∈ l, f x = some (g x)) → l.mapM f = some (l.map g)
  | [], _ => rfl
  | x :: l, h => by
    rw [List.mapM_cons, h x (by simp), mapM_of (l := l) (fun y hy => h y (by simp [hy]))]
    rfl
theorem eqRefl {P : Program} {t : TypeId} {xs : Array Value} {m D : Nat} {L : List Lit} (hm : m ≤ 10000) (hk : P.keyTypeAt m t = true) (hf : (Value.agg xs).formed P t = true) (hL : P.keyLits D t xs.toList = some L) (w : World) : (Op.equalIn 10000 t (.agg xs) (.agg xs)).run P w = .ok true w := by
  obtain ⟨r, h1, h2⟩ := run_equalIn_deep (10000 - m) m t hk w D D (.agg xs) (.agg xs) L L hf hf hL hL
  rw [show 10000 - m + m = 10000 by omega] at h1
  rw [h2.2 rfl] at h1
  exact h1
theorem eqlRefl {P : Program} {t : TypeId} {xs : Array Value} {m D : Nat} {L : List Lit} (hm : m ≤ 10000) (hk : P.keyTypeAt m t = true) (hf : (Value.agg xs).formed P t = true) (hL : P.keyLits D t xs.toList = some L) (w : World) : (binOp .eql t (.agg xs) (.agg xs)).run P w = .ok (.bool true) w := by
  rw [run_eql_struct, eqRefl hm hk hf hL w]; rfl
theorem neqRefl {P : Program} {t : TypeId} {xs : Array Value} {m D : Nat} {L : List Lit} (hm : m ≤ 10000) (hk : P.keyTypeAt m t = true) (hf : (Value.agg xs).formed P t = true) (hL : P.keyLits D t xs.toList = some L) (w : World) : (binOp .neq t (.agg xs) (.agg xs)).run P w = .ok (.bool false) w := by
  rw [run_neq_struct, eqRefl hm hk hf hL w]; rfl
theorem keyInt {P : Program} {t : TypeId} {k : IntKind} {d : Nat} {x : Int} (ht : P.underlying t = some (.int k)) (hw : (Lit.int k x).wf = true) : P.keyLits (d + 1) t [.int k x] = some [.int k x] := by
  simp [Program.keyLits, ht, hw]
/-- An array of numbers as a key's lits. -/
theorem keyInts {P : Program} {t e : TypeId} {n : Nat} {k : IntKind} {d : Nat} (f : Nat → Int) (ht : P.underlying t = some (.array n e)) (he : P.underlying e = some (.int k)) (hce : P.cellsOf e = 1) (hct : P.cellsOf t = n) (hw : ∀ i, i < n → (Lit.int k (f i)).wf = true) :
    P.keyLits (d + 2) t ((List.range n).map fun i => Value.int k (f i)) = some ((List.range n).map fun i => Lit.int k (f i)) := by
  unfold Program.keyLits
  rw [ht]
  simp only [hct, hce, List.length_map, List.length_range, if_true, Nat.mul_one]
  rw [mapM_of (g := fun i => [Lit.int k (f i)]) (fun i hi => ?_)]
  · simp only [Option.map_some, Option.some.injEq]
    rw [← List.flatMap_def]
    exact List.map_eq_flatMap.symm
  · have hi' : i < n := List.mem_range.1 hi
    have : (((List.range n).map fun i => Value.int k (f i)).drop i).take 1 = [Value.int k (f i)] := by
      apply List.ext_getElem?
      intro j
      cases j with
      | zero => simp [List.getElem?_drop, hi']
      | succ j => simp; omega
    rw [this]
    exact keyInt he (hw i hi')
end Go.Proofs.YtbackacbdfgdoaaDoor
namespace Go.Proofs.YtbackacbdfgdoaaDoor
open Go.ChangeShapes Go.WideShapes Go.ChangeAt Go.RowKit
open Cpu
set_option linter.unusedVariables false

theorem cellsX : Tryd.prog.cellsOf 30 = 32 := by kernel_rfl
theorem cellsU : Tryd.prog.cellsOf 25 = 1 := by kernel_rfl
theorem cellsI64 : Tryd.prog.cellsOf 2 = 1 := by kernel_rfl
theorem cellsS : Tryd.prog.cellsOf 32 = 34 := by kernel_rfl
theorem U4.key {k : Int} (h : U4 k) : (Lit.int .u32 k).wf = true := h.wf
theorem i64_wf {k : Int} (h : -9223372036854775808 ≤ k ∧ k ≤ 9223372036854775807) : (Lit.int .i64 k).wf = true := WalkArith.wf_i64 h
theorem key_x (s : St) (hs : ∀ i, U4 (s.x i)) (d : Nat) : Tryd.prog.keyLits (d + 2) 30 ((List.range 32).map fun i => Value.int .u32 (s.x i)) = some ((List.range 32).map fun i => Lit.int .u32 (s.x i)) :=
  keyInts s.x Tryd.underlying30 Tryd.underlying25 cellsU cellsX (fun i _ => (hs i).wf)
theorem key_st (s : St) (hs : ∀ i, U4 (s.x i)) (hp : U4 s.pc) (hr : -9223372036854775808 ≤ s.ret ∧ s.ret ≤ 9223372036854775807) : ∃ L, Tryd.prog.keyLits 4 32 (cl s) = some L := by
  have hX : ((cl s).drop 0).take 32 = (List.range 32).map fun i => Value.int .u32 (s.x i) := by simp [cl]
  have hP : ((cl s).drop 32).take 1 = [Value.int .u32 s.pc] := by simp [cl]
  have hR : ((cl s).drop 33).take 1 = [Value.int .i64 s.ret] := by
    apply List.ext_getElem?
    intro j
    cases j with
    | zero => rw [List.getElem?_take_of_lt (by omega), List.getElem?_drop]; exact cl_ret s
    | succ j => rw [List.getElem?_eq_none (by simp; omega)]; rfl
  have h1 := key_x s hs 1
  have h2 : Tryd.prog.keyLits 3 25 [Value.int .u32 s.pc] = _ := keyInt Tryd.underlying25 hp.wf
  have h3 : Tryd.prog.keyLits 3 2 [Value.int .i64 s.ret] = _ := keyInt Tryd.underlying2 (i64_wf hr)
  unfold Program.keyLits
  rw [Tryd.underlying32]
  simp only [cl_len, cellsS, true_and]
  rw [if_pos (by kernel_rfl)]
  simp only [List.mapM_cons, List.mapM_nil, cellsX, cellsU, cellsI64, hX, hP, hR, h1, h2, h3, bind, Option.bind, pure, Option.map_some]
  exact ⟨_, rfl⟩
theorem st_eql (s : St) (hs : ∀ i, U4 (s.x i)) (hp : U4 s.pc) (hr : -9223372036854775808 ≤ s.ret ∧ s.ret ≤ 9223372036854775807) (w : World) : (binOp .eql 32 (sv s) (sv s)).run Tryd.prog w = .ok (.bool true) w ∧ (binOp .neq 32 (sv s) (sv s)).run Tryd.prog w = .ok (.bool false) w := by
  obtain ⟨L, hL⟩ := key_st s hs hp hr
  have hk : Tryd.prog.keyTypeAt 4 32 = true := by kernel_rfl
  have hf : (Value.agg (arr s)).formed Tryd.prog 32 = true := by
    simp only [Value.formed, Tryd.underlying32, cellsS, arr_size, beq_self_eq_true]
  exact ⟨eqlRefl (m := 4) (D := 4) (by omega) hk hf (by unfold arr; exact hL) w, neqRefl (m := 4) (D := 4) (by omega) hk hf (by unfold arr; exact hL) w⟩
theorem x_eql (f : Nat → Int) (hs : ∀ i, U4 (f i)) (w : World) : (binOp .eql 30 (.agg ((List.range 32).map fun i => Value.int .u32 (f i)).toArray) (.agg ((List.range 32).map fun i => Value.int .u32 (f i)).toArray)).run Tryd.prog w = .ok (.bool true) w := by
  have hk : Tryd.prog.keyTypeAt 2 30 = true := by kernel_rfl
  have h1 := key_x ⟨f, 0, 0⟩ hs 0
  refine eqlRefl (m := 2) (D := 2) (by omega) hk ?_ h1 w
  simp [Value.formed, Tryd.underlying30, cellsX]
end Go.Proofs.YtbackacbdfgdoaaDoor
namespace Go.Proofs.YtbackacbdfgdoaaDoor
open Go.ChangeShapes Go.WideShapes Go.ChangeAt Go.RowKit
open Cpu
set_option linter.unusedVariables false
set_option linter.unusedSimpArgs false

theorem eqlEv (a b c x y z : Int) (w : World) : (binOp .eql 35 (.agg #[.int .i64 a, .int .u32 b, .int .i64 c]) (.agg #[.int .i64 x, .int .u32 y, .int .i64 z])).run Tryd.prog w = .ok (.bool (a == x && b == y && c == z)) w := by
  have h : (Op.equalIn 10000 35 (.agg #[.int .i64 a, .int .u32 b, .int .i64 c]) (.agg #[.int .i64 x, .int .u32 y, .int .i64 z])).run Tryd.prog w = .ok (a == x && b == y && c == z) w := by
    rw [show (10000 : Nat) = 9999 + 1 from rfl]
    go_simp
    by_cases h0 : a = x <;> by_cases h1 : b = y <;> by_cases h2 : c = z <;> simp [h0, h1, h2]
  rw [run_eql_struct, h]; rfl
theorem zero_eq : (.cells (cl zst).toArray 32 : Obj) = .cells #[.int .u32 0, .int .u32 0, .int .u32 0, .int .u32 0, .int .u32 0, .int .u32 0, .int .u32 0, .int .u32 0, .int .u32 0, .int .u32 0, .int .u32 0, .int .u32 0, .int .u32 0, .int .u32 0, .int .u32 0, .int .u32 0, .int .u32 0, .int .u32 0, .int .u32 0, .int .u32 0, .int .u32 0, .int .u32 0, .int .u32 0, .int .u32 0, .int .u32 0, .int .u32 0, .int .u32 0, .int .u32 0, .int .u32 0, .int .u32 0, .int .u32 0, .int .u32 0, .int .u32 0, .int .i64 0] 32 := rfl
theorem word_c (w : World) (i : Rv.Ins) (ht : Tabs w) (hm : -2147483648 ≤ i.imm ∧ i.imm < 2147483648) (hg : Rv.good i) :
    Calls Tryd.prog 12 #[Rv.iv i] w fun e w' => e = .returned (.int .u32 (Rv.enc i)) ∧ Bw w w' := by
  have hb := Box.new w [.int .i64 i.op, .int .i64 i.rd, .int .i64 i.rs1, .int .i64 i.rs2, .int .i32 i.imm] 28
  have b1 : Bw w (w.alloc (.cells #[.int .i64 i.op, .int .i64 i.rd, .int .i64 i.rs1, .int .i64 i.rs2, .int .i32 i.imm] 28)) := (Bw.refl w).alloc _
  have hE := Encode_good i (w.alloc (.cells #[.int .i64 i.op, .int .i64 i.rd, .int .i64 i.rs1, .int .i64 i.rs2, .int .i32 i.imm] 28)) (ht.bw b1) hm hg
  unfold Rv.iv at hE ⊢
  go_enter Tryd.func12, Tryd.ntmps12
  go_wp2_with (first | (go_at_call 27; refine hE.mono ?_; rintro e w1 ⟨rfl, g1⟩) | (refine wpLoadBox rfl 28 _ rfl w.heap.size rfl hb Tryd.underlying28 rfl (by kernel_rfl) ?_))
  go_returns
  exact ⟨rfl, b1.trans g1.b⟩
/-- A list of words of the law's own. -/
theorem RdW.new (w : World) (l : List Int) (h : l.length ≤ 100000) : RdW (w.alloc (.cells (l.map (Value.int .u32)).toArray 25)) (.slice (some ⟨w.heap.size, 0, none⟩) l.length l.length) l := RdR.new w _ _ (by simp) h
theorem RdW.one (w : World) (a : Int) : RdW (w.alloc (.cells #[.int .u32 a] 25)) (.slice (some ⟨w.heap.size, 0, none⟩) 1 1) [a] := RdW.new w [a] (by simp)
theorem b8_nil : B8s [] := fun _ h => by cases h
/-- A memory of one word. -/
theorem made1_c (w : World) (a : Int) (ha : U4 a) : Calls Tryd.prog 11 #[.slice (some ⟨w.heap.size, 0, none⟩) 1 1, .slice none 0 0] (w.alloc (.cells #[.int .u32 a] 25)) fun e w' => ∃ mb, e = .returned (.pointer (some ⟨mb, 0, none⟩)) ∧ HasB w w' mb 12288 (mkS [a] []) (fun i => i < w.heap.size) := by
  refine (made_c _ _ _ [a] [] (RdW.one w a) (RdR.nil 1 _) (fun y hy => by simp at hy; subst hy; exact ha) b8_nil).mono ?_
  rintro e w' ⟨mb, rfl, F, g, hF, o⟩
  exact ⟨mb, rfl, F, ((Bw.refl w).alloc _).trans g, fun i hi => ⟨by have := (hF i hi).1; simp at this; omega, by have := (hF i hi).2; simp at this; omega⟩, o⟩
theorem im0 : -2147483648 ≤ (0 : Int) ∧ (0 : Int) < 2147483648 := ⟨by decide, by decide⟩
theorem u4096 : U4 4096 := ⟨by decide, by decide⟩
/-- A State as an argument. -/
structure StArg (s : St) : Prop where
  x : ∀ i, U4 (s.x i)
  pc : U4 s.pc
  ret : -9223372036854775808 ≤ s.ret ∧ s.ret ≤ 9223372036854775807
theorem StArg.ok {s : St} (h : StArg s) (h0 : 0 ≤ s.ret) (h1 : s.ret ≤ 1099511627776) : s.Ok := ⟨h.x, h.pc, by omega, by omega⟩
theorem HasB.base {w0 w1 w : World} {mb N : Nat} {S : MS} {P : Nat → Prop} (h : HasB w1 w mb N S P) (g : Bw w0 w1) : HasB w0 w mb N S P := by
  obtain ⟨F, g0, hF, o⟩ := h
  exact ⟨F, g.trans g0, fun i hi => ⟨Nat.le_trans g.size (hF i hi).1, (hF i hi).2⟩, o⟩
theorem zbox (w : World) : Box ((w.alloc (.cells (cl zst).toArray 32)).alloc (.cells #[.int .i64 0, .int .u32 0, .int .i64 0] 35)) w.heap.size (cl zst) ∧ Box ((w.alloc (.cells (cl zst).toArray 32)).alloc (.cells #[.int .i64 0, .int .u32 0, .int .i64 0] 35)) (w.heap.size + 1) [.int .i64 0, .int .u32 0, .int .i64 0] := by
  refine ⟨SB.bw (show SB _ _ zst from Box.new w (cl zst) _) ((Bw.refl _).alloc _), ?_⟩
  have := Box.new (w.alloc (.cells (cl zst).toArray 32)) [.int .i64 0, .int .u32 0, .int .i64 0] 35
  rw [World.size_alloc] at this
  exact this
theorem two_aft {w3 w4 w5 : World} {s : St} {l : List Value} (h4 : Box w4 w3.heap.size (cl s)) (q4 : Bq w3.heap.size ((w3.alloc (.cells (cl zst).toArray 32)).alloc (.cells #[.int .i64 0, .int .u32 0, .int .i64 0] 35)) w4) (h5 : Box w5 (w3.heap.size + 1) l) (q5 : Bq (w3.heap.size + 1) w4 w5) : SB w5 w3.heap.size s ∧ Bw w3 w5 := by
  have hs : SB w4 w3.heap.size s := h4
  refine ⟨hs.blk (q5.block _ hs.lt (by omega)), ?_⟩
  exact q5.toBw (q4.toBw (((Bw.refl w3).alloc _).alloc _) (Nat.le_refl _)) (by omega)
def aw : Rv.Ins := ⟨19, 1, 0, 0, 5⟩
theorem aw_good : Rv.good aw := by unfold Rv.good Rv.reg aw; decide +kernel
def awS : St := ⟨fun _ => 0, 4096, 0⟩
theorem awS_ok : awS.Ok := ⟨fun _ => ⟨Int.le_refl 0, (by decide : (0 : Int) < 4294967296)⟩, ⟨by decide, by decide⟩, by decide, by decide⟩
theorem aw_step : (Cpu.step (mkS [Rv.enc aw] []) awS).ev = nx ∧ (Cpu.step (mkS [Rv.enc aw] []) awS).st.x 1 = 5 ∧ (Cpu.step (mkS [Rv.enc aw] []) awS).st.pc = 4100 ∧ (Cpu.step (mkS [Rv.enc aw] []) awS).st.ret = 1 := by
  rw [step_ins [Rv.enc aw] [] (k := 0) (i := aw) awS (by omega) rfl aw_good ⟨by decide, by decide⟩ rfl]
  refine ⟨rfl, ?_, rfl, rfl⟩
  show Alu.val (Rv.kd 19) 0 (5 % 4294967296) = 5
  decide +kernel
set_option maxRecDepth 100000 in
set_option maxHeartbeats 4000000 in
theorem awake12_c (w : World) (ha : All12 w) : Calls Tryd.prog 10 #[] w fun e w' => e = .returned (.bool true) ∧ Bw w w' := by
  have hW := fun X (g : Bw w X) => word_c X aw (ha.t.bw g) ⟨by decide, by decide⟩ aw_good
  have hu : U4 (Rv.enc aw) := enc_u4 aw_good.1
  have hS := aw_step
  obtain ⟨c, hc⟩ : ∃ c, Rv.enc aw = c := ⟨_, rfl⟩
  rw [hc] at hu hS hW
  obtain ⟨R1, hR⟩ : ∃ R, Cpu.step (mkS [c] []) awS = R := ⟨_, rfl⟩
  rw [hR] at hS
  obtain ⟨h1, h2, h3, h4⟩ := hS
  unfold Rv.iv aw at hW
  dsimp only at hW
  have hE := eqlEv 0 0 0 0 0 0
  go_enter Tryd.func10, Tryd.ntmps10
  go_wp2_with (first
  | (go_at_call 12; refine (hW _ (Bw.refl w)).mono ?_; rintro e w1 ⟨rfl, b1⟩)
  | (go_at_call 11; refine (made1_c w1 c hu).mono ?_; rintro e w2 ⟨mb, rfl, hM⟩))
  have hT1 := Step_c (hM.on (Bw.refl _)) (ha.bw b1) awS awS_ok
  rw [hR, h1] at hT1
  unfold sv Cpu.ev nx at hT1
  dsimp only at hT1
  go_wp2_with (first | (go_at_call 13; refine hT1.mono ?_; rintro e wS1 ⟨rfl, hMS1, kS1⟩; obtain ⟨hZ1, hY1⟩ := zbox wS1) | (refine wpStoreBox rfl 32 _ _ rfl wS1.heap.size (l := cl zst) (l' := cl R1.st) rfl rfl hZ1 (by rw [cl_len, cl_len]) (infoL _) (cl_one _) ?_; intro wT1 h41 q41) | (refine wpStoreBox rfl 35 _ _ rfl (wS1.heap.size + 1) (l := [.int .i64 0, .int .u32 0, .int .i64 0]) (l' := [.int .i64 0, .int .u32 0, .int .i64 0]) rfl rfl (Box.q hY1 q41 (by omega)) rfl (by kernel_rfl) one3e ?_; intro wU1 h51 q51; obtain ⟨hS1, bU1⟩ := two_aft h41 q41 h51 q51; have hM1 := hMS1.on bU1; clear hZ1 hY1 h41 q41 q51 hMS1; have x1 := hS1.c (i := 1) (by omega); have x2 := hS1.pc; have x3 := hS1.ret; rw [h2] at x1; rw [h3] at x2; rw [h4] at x3) | (refine wpLoadBox rfl 35 _ rfl (wS1.heap.size + 1) (l := [.int .i64 0, .int .u32 0, .int .i64 0]) rfl h51 Tryd.underlying35 rfl (by kernel_rfl) ?_))
  go_returns
  exact ⟨rfl, b1.trans hM1.bw⟩
end Go.Proofs.YtbackacbdfgdoaaDoor
