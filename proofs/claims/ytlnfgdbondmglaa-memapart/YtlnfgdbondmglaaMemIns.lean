/- THE WALKS OF LAYER 3: slices.Insert, wherever. -/
import Derived.Test.YtlnfgdbondmglaaMemW5
import Derived.Test.YtlnfgdbondmglaaMemDel
import Derived.Lib.Overlaps
import Derived.Lib.AppendZerosOnto
import Derived.Laws.Externs
import Derived.Laws.CopyRow
namespace Go.Proofs.Ytlnfgdbondmglaa
open Go.ChangeShapes Go.WideShapes Go.ChangeAt Go.RowKit
set_option linter.unusedSimpArgs false
set_option linter.unusedVariables false

theorem step_copy_eq {P : Program} {ops : Array Oper} {o : Oper} {a : Act} {w w' : World} {K : Act → World → Prop} {Q : Exit → Act → World → Prop} {E : Prop}
    (hg : o.guard = none) (s x : Operand) (t : TypeId) (hop : o.op = Op.call { callee := Callee.builtin Builtin.copy, args := #[s, x], argTypes := #[t, t] })
    {v xv v' : Value} (hs : a.eval s = v) (hx : a.eval x = xv) (hr : (Builtin.copy_ #[t, t] o.type #[v, xv]).run P w = .ok v' w') (hK : K (a.put o.dst v') w') :
    if Region.wanted o (yielded ops a.tmps) = true then Oper.wp P o a w K Q else E := by
  have hw : Region.wanted o (yielded ops a.tmps) = true := by simp [Region.wanted, hg]
  rw [if_pos hw]
  unfold Oper.wp
  simp [execOp, hop, resolve, invoke, builtin, hs, hx, hr, Result.andThen]
  exact hK
theorem wpList_append2_eq {P : Program} {w w' : World} {ops : Array Oper} {rest : List Oper} {o : Oper} {a : Act} {Q : Exit → Act → World → Prop} (hgd : o.guard = none) (s x : Operand) (t t2 : TypeId)
    (ho : o.op = .call { callee := .builtin .append, args := #[s, x], argTypes := #[t, t2] }) {v xv v' : Value} (hs : a.eval s = v) (hx : a.eval x = xv)
    (hr : (Builtin.append_ #[t, t2] o.type #[v, xv]).run P w = .ok v' w') (h : wpList P ops Q rest (a.put o.dst v') w') : wpList P ops Q (o :: rest) a w := by
  refine wpList_plain hgd fun K hK => ?_
  unfold Oper.wp execOp
  simp only [ho, resolve, invoke, builtin, Sem.run_bind, Sem.run_pure, Result.andThen_ok, List.map_toArray, List.map_cons, List.map_nil, hs, hx, hr]
  exact hK _ _ h
theorem sz28 : (Try.prog.info? 28).map (·.size) = some 1 := by kernel_rfl
theorem sizeOf28 (w : World) : (Go.sizeOf 28).run Try.prog w = .ok 1 w := by kernel_rfl
theorem ints_one (l : List Int) : ∀ u ∈ l.map (Value.int .u32), u.oneCell' = true := one_u32 l

theorem ins_take {α : Type} {X Y Z : List α} {i : Nat} (h : i ≤ X.length) : List.take i (X ++ Y ++ Z) = X.take i := by
  rw [List.append_assoc, List.take_append_of_le_length h]
theorem ins_drop {α : Type} {X Y Z : List α} {k : Nat} (h : X.length = k) : List.drop k (X ++ Y ++ Z) = Y ++ Z := by
  rw [List.append_assoc, ← h]; exact List.drop_left
set_option maxRecDepth 100000 in
set_option maxHeartbeats 2000000 in
theorem Insert_shift (th : List Int) (i : Nat) (hi : i < th.length) (w : World) (g cap lbk : Nat) (nw : List Int) (cur : Array Value) (hm0 : 0 < nw.length) (hlen : th.length + nw.length ≤ 4096) (hroom : th.length + nw.length ≤ cap)
    (hcm : cap ≤ maxLen) (hg : w.heap[g]? = some (.cells cur 28 (0, 0))) (hcs : cur.size = cap) (htk : cur.toList.take th.length = th.map (Value.int .u32))
    (hl : w.heap[lbk]? = some (.cells (nw.map (Value.int .u32)).toArray 28 (0, 0))) (hne : g ≠ lbk) :
    Calls Try.prog 41 #[.slice (some ⟨g, 0, none⟩) th.length cap, .int .i64 i, .slice (some ⟨lbk, 0, none⟩) nw.length nw.length] w fun e w' => e = .returned (.slice (some ⟨g, 0, none⟩) (th.length + nw.length) cap) ∧
      w'.ownsRow 0 28 1 (.slice (some ⟨g, 0, none⟩) (th.length + nw.length) cap) (th.length + nw.length) ((th.take i ++ nw ++ th.drop i).map (Value.int .u32)) ∧ Fr (fun k => k = g) w w' := by
  obtain ⟨n, hn⟩ : ∃ n, n = th.length := ⟨_, rfl⟩
  obtain ⟨m, hm⟩ : ∃ m, m = nw.length := ⟨_, rfl⟩
  rw [← hn] at hi hlen hroom htk
  rw [← hm] at hm0 hlen hroom
  have hcellG : ∀ k u, (th.map (Value.int .u32))[k]? = some u → w.cell? ⟨g, k, none⟩ = some u := fun k u hu => by
    rw [cell_of_row w g k cur _ (0, 0) hg, ← Array.getElem?_toList]
    rw [← htk, List.getElem?_take] at hu
    split at hu
    · exact hu
    · cases hu
  have hcp1 := run_copy_row (P := Try.prog) w.drew 41 41 3 28 g (i + m) (n + m - (i + m)) (cap - (i + m)) ⟨g, i, none⟩ (n + m - i) (cap - i) cur 28 ((th.drop i).map (Value.int .u32)) Try.underlying41 sz28 hg
    (by simp only [List.length_map, List.length_drop, ← hn]; rw [show Nat.min (n + m - i) (n + m - (i + m)) = n + m - (i + m) from Nat.min_eq_right (by omega)]; omega)
    (fun k u hu => by rw [Addr.add_lit]; exact hcellG (i + k) u (by simpa [List.getElem?_drop] using hu)) (by simp [← hn]; omega) (ints_one _)
  obtain ⟨c1, hc1⟩ : ∃ c1, c1 = (cur.toList.take (i + m) ++ (th.drop i).map (Value.int .u32) ++ cur.toList.drop (i + m + ((th.drop i).map (Value.int .u32)).length)).toArray := ⟨_, rfl⟩
  rw [← hc1] at hcp1
  obtain ⟨w2, hw2⟩ : ∃ w2, w2 = w.drew.setRow g c1 := ⟨_, rfl⟩
  rw [← hw2] at hcp1
  have hg2 : w2.heap[g]? = some (.cells c1 28 (0, 0)) := by rw [hw2]; exact setRow_heap w.drew g cur _ _ _ hg
  have fr2 : Fr (fun k => k = g) w w2 := by rw [hw2]; exact (Fr.refl _ w).drew.trans (setRow_fr w.drew g c1) (fun _ _ h => h)
  have hl2 : w2.heap[lbk]? = some (.cells (nw.map (Value.int .u32)).toArray 28 (0, 0)) := by
    rw [fr2.block lbk (Array.getElem?_eq_some_iff.1 hl).1 (fun e => hne e.symm)]; exact hl
  have hs1 : c1.size = cap := by rw [hc1]; simp [← hn]; omega
  have hcp2 := run_copy_row (P := Try.prog) w2 41 41 3 28 g i (n + m - i) (cap - i) ⟨lbk, 0, none⟩ m m c1 28 (nw.map (Value.int .u32)) Try.underlying41 sz28 hg2
    (by simp only [List.length_map, ← hm]; exact (Nat.min_eq_left (by omega)).symm) (by have := news_of hl2; simpa using this) (by simp [← hm]; omega) (ints_one _)
  obtain ⟨c2, hc2⟩ : ∃ c2, c2 = (c1.toList.take i ++ nw.map (Value.int .u32) ++ c1.toList.drop (i + (nw.map (Value.int .u32)).length)).toArray := ⟨_, rfl⟩
  rw [← hc2] at hcp2
  obtain ⟨w3, hw3⟩ : ∃ w3, w3 = w2.setRow g c2 := ⟨_, rfl⟩
  rw [← hw3] at hcp2
  have hg3 : w3.heap[g]? = some (.cells c2 28 (0, 0)) := by rw [hw3]; exact setRow_heap w2 g c1 _ _ _ hg2
  have fr3 : Fr (fun k => k = g) w w3 := by rw [hw3]; exact fr2.trans (setRow_fr w2 g c2) (fun _ _ h => h)
  have e0 : cur.toList.take i = (th.take i).map (Value.int .u32) := by
    rw [List.map_take, ← htk, List.take_take, Nat.min_eq_left (by omega)]
  have hlcur : cur.toList.length = cap := by simp [hcs]
  have hc2l : c2.toList = ((th.take i ++ nw ++ th.drop i).map (Value.int .u32)) ++ cur.toList.drop (n + m) := by
    rw [hc2, hc1]
    simp only [List.length_map, List.length_drop, ← hn, ← hm]
    show List.take i (cur.toList.take (i + m) ++ (th.drop i).map (Value.int .u32) ++ cur.toList.drop (i + m + (n - i))) ++ nw.map (Value.int .u32) ++ List.drop (i + m) (cur.toList.take (i + m) ++ (th.drop i).map (Value.int .u32) ++ cur.toList.drop (i + m + (n - i))) = _
    have hX : (cur.toList.take (i + m)).length = i + m := by rw [List.length_take, hlcur]; omega
    rw [ins_take (by omega), ins_drop hX, List.take_take, Nat.min_eq_left (by omega), e0, show i + m + (n - i) = n + m by omega]
    simp [List.append_assoc]
  have FIN : w3.ownsRow 0 28 1 (.slice (some ⟨g, 0, none⟩) (n + m) cap) (n + m) ((th.take i ++ nw ++ th.drop i).map (Value.int .u32)) := by
    have hlz : ((th.take i ++ nw ++ th.drop i).map (Value.int .u32)).length = n + m := by simp [← hn, ← hm]; omega
    refine ⟨by rw [hlz, Nat.mul_one], .inr ⟨g, cap, c2, rfl, Nat.zero_le _, hg3, hroom, hcm, ?_, ?_⟩⟩
    · have := congrArg List.length hc2l
      simp only [List.length_append, hlz, List.length_drop, hlcur] at this
      simp at this; omega
    · rw [hc2l, Nat.mul_one, ← hlz]; exact List.take_left
  have hov : ∀ lb cb, (callFunc 59 #[.slice (some ⟨lbk, 0, none⟩) m m, .slice (some ⟨g, i + m, none⟩) lb cb]).run Try.prog w = .ok (.value (.bool false)) w := fun lb cb => by
    rw [run_callFunc_extern Try.func59 (by kernel_rfl) (by kernel_rfl) (by kernel_rfl) (e := Extern.SlicesOverlaps.overlaps #[41, 41] #[4]) (by kernel_rfl),
      Lib.run_overlaps_apart w 41 4 28 Try.underlying41 1 sizeOf28 ⟨lbk, 0, none⟩ ⟨g, i + m, none⟩ m m lb cb (fun e => hne e.symm) 28 28 (nw.map (Value.int .u32)).toArray.size cur.size (by simp [World.shape?, hl]) (by simp [World.shape?, hg]) (by omega) (by simp [World.frozen?, hl]) (by simp [World.frozen?, hl])]
    rfl
  rw [← hn, ← hm]
  have FIN' : Hid _ := FIN
  generalize (List.map (Value.int IntKind.u32) (List.take i th ++ nw ++ List.drop i th)) = zs at FIN' ⊢
  simp only [goInt, List.length_map, List.length_drop, ← hn, ← hm] at hcp1 hcp2
  have hz1 : ((m : Int) == 0) = false := by simp; omega
  have hz2 : ((i : Int) == (n : Int)) = false := by simp; omega
  have hz3 : ¬ (cap : Int) < (n : Int) + (m : Int) := by omega
  have hcim : ¬ cap = i + m := by omega
  have hci : ¬ cap = i := by omega
  have hnc1 : n ≤ cap := by omega
  have hin : i ≤ n := by omega
  have hq1 : IntKind.i64.wrap ((i : Int) + (m : Int)) = (i : Int) + (m : Int) := by rw [IntKind.wrap_i64]; omega
  have hq2 : (0 : Int) ≤ (i : Int) + (m : Int) := by omega
  have hq3 : (i : Int) + (m : Int) ≤ (n : Int) + (m : Int) := by omega
  have hq4 : ((i : Int) + (m : Int)).toNat = i + m := by omega
  have hq5 : (i : Int) ≤ (n : Int) + (m : Int) := by omega
  clear FIN hc2l e0 hlcur hg3 hs1 hg2 hl2 fr2 hw2 hw3 hc1 hc2 hcellG hl hg hcs htk hn hm
  go_enter Try.func41, Try.ntmps41
  go_wp2_with (simp only [hov])
  go_region_law (refine step_copy_eq rfl (.tmp 73) (.tmp 76) 41 rfl (by simp [Act.eval, Act.put]; done) (by simp [Act.eval, Act.put]; done) hcp1 ?_)
  go_wp2_with (first | (at_builtin; refine wpList_copy_eq rfl _ _ 41 rfl rfl rfl hcp2 ?_) | go_in)
  go_returns
  exact ⟨rfl, FIN'.out, fr3⟩

set_option maxRecDepth 100000 in
set_option maxHeartbeats 2000000 in
theorem Insert_grow (th : List Int) (i : Nat) (hi : i < th.length) (w : World) (g cap lbk : Nat) (nw : List Int) (cur : Array Value) (hm0 : 0 < nw.length) (hlen : th.length + nw.length ≤ 4096) (hroom : cap < th.length + nw.length) (hnc : th.length ≤ cap)
    (hcm : cap ≤ maxLen) (hg : w.heap[g]? = some (.cells cur 28 (0, 0))) (hcs : cur.size = cap) (htk : cur.toList.take th.length = th.map (Value.int .u32))
    (hl : w.heap[lbk]? = some (.cells (nw.map (Value.int .u32)).toArray 28 (0, 0))) (hne : g ≠ lbk) :
    Calls Try.prog 41 #[.slice (some ⟨g, 0, none⟩) th.length cap, .int .i64 i, .slice (some ⟨lbk, 0, none⟩) nw.length nw.length] w fun e w' => ∃ G, e = .returned (.slice (some ⟨w.heap.size, 0, none⟩) (th.length + nw.length) G) ∧
      w'.ownsRow 0 28 1 (.slice (some ⟨w.heap.size, 0, none⟩) (th.length + nw.length) G) (th.length + nw.length) ((th.take i ++ nw ++ th.drop i).map (Value.int .u32)) ∧ Gr w w' := by
  obtain ⟨i0, hi0, hz0, hzs, hzb⟩ := info_parts infoU
  obtain ⟨n, hn⟩ : ∃ n, n = th.length := ⟨_, rfl⟩
  obtain ⟨m, hm⟩ : ∃ m, m = nw.length := ⟨_, rfl⟩
  rw [← hn] at hi hlen hroom htk hnc
  rw [← hm] at hm0 hlen hroom
  have hglt : g < w.heap.size := (Array.getElem?_eq_some_iff.1 hg).1
  have hllt : lbk < w.heap.size := (Array.getElem?_eq_some_iff.1 hl).1
  have hcellG : ∀ k u, (th.map (Value.int .u32))[k]? = some u → w.cell? ⟨g, k, none⟩ = some u := fun k u hu => by
    rw [cell_of_row w g k cur _ (0, 0) hg, ← Array.getElem?_toList]
    rw [← htk, List.getElem?_take] at hu
    split at hu
    · exact hu
    · cases hu
  have hold : (Builtin.firstCells i0.size i (.slice (some ⟨g, 0, none⟩) i cap)).run Try.prog w.drew = .ok ((th.take i).map (Value.int .u32)).toArray w.drew := by
    rw [hzs]
    refine run_firstCells_some w.drew 1 i ⟨g, 0, none⟩ i cap ((th.take i).map (Value.int .u32)) (by simp [← hn]; omega) (fun j u hj => ?_)
    rw [Addr.add_lit, Nat.zero_add]
    refine hcellG j u ?_
    rw [List.map_take, List.getElem?_take] at hj
    split at hj
    · exact hj
    · cases hj
  have hrz := Lib.run_append_grow_zeros w 41 3 41 28 i0 _ .i64 .i64 Try.underlying41 Try.underlying3 hi0 hz0 (some ⟨g, 0, none⟩) i cap ((th.take i).map (Value.int .u32)) hold (n + m - i) (by omega) (by omega) (by omega) (by omega) (by rw [hzb]; omega)
    (by rw [hzb, show i + (n + m - i) = n + m by omega]; exact growslice_fits hroom (by omega))
  rw [show i + (n + m - i) = n + m by omega] at hrz
  have hkk : ((n + m - i : Nat) : Int) = (n : Int) + (m : Int) - (i : Int) := by omega
  rw [hkk] at hrz
  obtain ⟨G, hG⟩ : ∃ G, G = grownCap w (n + m) cap 28 := ⟨_, rfl⟩
  have hGn : n + m ≤ G := by rw [hG]; exact grownCap_ge w _ _ _
  have hGm : G ≤ maxLen := by rw [hG]; exact grownCap_le_maxLen w _ _ _ (by unfold maxLen; omega)
  rw [← hG] at hrz
  obtain ⟨ROW, hROW⟩ : ∃ ROW : Array Value, ROW = ((th.take i).map (Value.int .u32)).toArray ++ Builtin.zeroCells (Value.int .u32 0).cells (n + m - i) ++ Builtin.zeroCells (Value.int .u32 0).cells (G - (n + m)) := ⟨_, rfl⟩
  rw [← hROW] at hrz
  have hRs : ROW.size = G := by
    rw [hROW]; simp [Builtin.zeroCells, Value.cells, ← hn]; omega
  have hRt : ROW.toList.take i = (th.take i).map (Value.int .u32) := by
    rw [hROW]
    simp only [Array.toList_append]
    have hx : ((th.take i).map (Value.int .u32)).length = i := by simp [← hn]; omega
    rw [ins_take (by simp [← hn]; omega)]
    simp [List.take_take]
  obtain ⟨w1, hw1⟩ : ∃ w1, w1 = w.drew.alloc (.cells ROW 28) := ⟨_, rfl⟩
  rw [← hw1] at hrz
  have g1 : Gr w w1 := by rw [hw1]; exact (Gr.refl w).drew.alloc _ _
  have hb1 : w1.heap[w.heap.size]? = some (.cells ROW 28 (0, 0)) := by rw [hw1]; exact heap_alloc_new w.drew _
  have hl1 : w1.heap[lbk]? = some (.cells (nw.map (Value.int .u32)).toArray 28 (0, 0)) := (g1.b.block lbk hllt).trans hl
  have hcp1 := run_copy_row (P := Try.prog) w1 41 41 3 28 w.heap.size i (n + m - i) (G - i) ⟨lbk, 0, none⟩ m m ROW 28 (nw.map (Value.int .u32)) Try.underlying41 sz28 hb1
    (by simp only [List.length_map, ← hm]; exact (Nat.min_eq_left (by omega)).symm) (by have := news_of hl1; simpa using this) (by simp [← hm]; omega) (ints_one _)
  obtain ⟨c1, hc1⟩ : ∃ c1, c1 = (ROW.toList.take i ++ nw.map (Value.int .u32) ++ ROW.toList.drop (i + (nw.map (Value.int .u32)).length)).toArray := ⟨_, rfl⟩
  rw [← hc1] at hcp1
  obtain ⟨w2, hw2⟩ : ∃ w2, w2 = w1.setRow w.heap.size c1 := ⟨_, rfl⟩
  rw [← hw2] at hcp1
  have hb2 : w2.heap[w.heap.size]? = some (.cells c1 28 (0, 0)) := by rw [hw2]; exact setRow_heap w1 _ ROW _ _ _ hb1
  have fr2 : Fr (fun k => k = w.heap.size) w1 w2 := by rw [hw2]; exact setRow_fr w1 _ c1
  have hs1 : c1.size = G := by rw [hc1]; simp [← hm, hRs]; omega
  have hcellG2 : ∀ k u, (th.map (Value.int .u32))[k]? = some u → w2.drew.cell? ⟨g, k, none⟩ = some u := fun k u hu => by
    show w2.cell? _ = _
    rw [fr2.cell (p := ⟨g, k, none⟩) (Nat.lt_of_lt_of_le hglt g1.size) (show ¬ g = w.heap.size by omega)]
    exact g1.keep (hcellG k u hu)
  have hcp2 := run_copy_row (P := Try.prog) w2.drew 41 41 3 28 w.heap.size (i + m) (n + m - (i + m)) (G - (i + m)) ⟨g, i, none⟩ (n - i) (cap - i) c1 28 ((th.drop i).map (Value.int .u32)) Try.underlying41 sz28 hb2
    (by simp only [List.length_map, List.length_drop, ← hn]; rw [show Nat.min (n - i) (n + m - (i + m)) = n - i from Nat.min_eq_left (by omega)])
    (fun k u hu => by rw [Addr.add_lit]; exact hcellG2 (i + k) u (by simpa [List.getElem?_drop] using hu)) (by simp [← hn, hs1]; omega) (ints_one _)
  obtain ⟨c2, hc2⟩ : ∃ c2, c2 = (c1.toList.take (i + m) ++ (th.drop i).map (Value.int .u32) ++ c1.toList.drop (i + m + ((th.drop i).map (Value.int .u32)).length)).toArray := ⟨_, rfl⟩
  rw [← hc2] at hcp2
  obtain ⟨w3, hw3⟩ : ∃ w3, w3 = w2.drew.setRow w.heap.size c2 := ⟨_, rfl⟩
  rw [← hw3] at hcp2
  have hb3 : w3.heap[w.heap.size]? = some (.cells c2 28 (0, 0)) := by rw [hw3]; exact setRow_heap w2.drew _ c1 _ _ _ hb2
  have fr3 : Fr (fun k => k = w.heap.size) w1 w3 := by rw [hw3]; exact fr2.drew.trans (setRow_fr w2.drew _ c2) (fun _ _ h => h)
  have GR : Gr w w3 := ((g1.fr (fun k => k = w.heap.size)).trans fr3 (fun _ _ h => h)).gr (fun k hk e => by omega)
  have hc1t : c1.toList.take (i + m) = (th.take i ++ nw).map (Value.int .u32) := by
    rw [hc1]
    show List.take (i + m) (ROW.toList.take i ++ nw.map (Value.int .u32) ++ _) = _
    rw [hRt, ← List.map_append]
    have hx : ((th.take i ++ nw).map (Value.int .u32)).length = i + m := by simp [← hn, ← hm]; omega
    rw [← hx]; exact List.take_left
  have FIN : w3.ownsRow 0 28 1 (.slice (some ⟨w.heap.size, 0, none⟩) (n + m) G) (n + m) ((th.take i ++ nw ++ th.drop i).map (Value.int .u32)) := by
    have hlz : ((th.take i ++ nw ++ th.drop i).map (Value.int .u32)).length = n + m := by simp [← hn, ← hm]; omega
    have hc2l : c2.toList = ((th.take i ++ nw ++ th.drop i).map (Value.int .u32)) ++ c1.toList.drop (n + m) := by
      rw [hc2, hc1t]
      simp only [List.length_map, List.length_drop, ← hn]
      rw [show i + m + (n - i) = n + m by omega]
      simp [List.append_assoc]
    refine ⟨by rw [hlz, Nat.mul_one], .inr ⟨_, G, c2, rfl, Nat.zero_le _, hb3, hGn, hGm, ?_, ?_⟩⟩
    · have := congrArg List.length hc2l
      simp only [List.length_append, hlz, List.length_drop] at this
      simp [hs1] at this; omega
    · rw [hc2l, Nat.mul_one, ← hlz]; exact List.take_left
  rw [← hn, ← hm]
  have FIN' : Hid _ := FIN
  generalize (List.map (Value.int IntKind.u32) (List.take i th ++ nw ++ List.drop i th)) = zs at FIN' ⊢
  simp only [goInt, List.length_map, List.length_drop, ← hn, ← hm] at hcp1 hcp2
  have hz1 : ((m : Int) == 0) = false := by simp; omega
  have hz2 : ((i : Int) == (n : Int)) = false := by simp; omega
  have hz3 : (cap : Int) < (n : Int) + (m : Int) := by omega
  have hGim : ¬ G = i + m := by omega
  have hGi : ¬ G = i := by omega
  have hci : ¬ cap = i := by omega
  have hin : i ≤ n := by omega
  have hic : i ≤ cap := by omega
  have hq1 : IntKind.i64.wrap ((i : Int) + (m : Int)) = (i : Int) + (m : Int) := by rw [IntKind.wrap_i64]; omega
  have hq2 : (0 : Int) ≤ (i : Int) + (m : Int) := by omega
  have hq3 : (i : Int) + (m : Int) ≤ (n : Int) + (m : Int) := by omega
  have hq4 : ((i : Int) + (m : Int)).toNat = i + m := by omega
  have hq5 : (i : Int) ≤ (n : Int) + (m : Int) := by omega
  clear FIN hc1t hRt hRs hb1 hb2 hb3 hl1 g1 fr2 fr3 hs1 hcellG2 hcellG hold hw1 hw2 hw3 hc1 hc2 hROW hl hg hcs htk hn hm hG hkk
  go_enter Try.func41, Try.ntmps41
  go_wp2_with (first
    | (at_builtin; refine wpList_append2_eq rfl _ _ 41 3 rfl rfl rfl hrz ?_)
    | (at_builtin; refine wpList_copy_eq rfl _ _ 41 rfl rfl rfl hcp1 ?_)
    | go_in)
  go_region_law (refine step_copy_eq rfl (.tmp 50) (.tmp 53) 41 rfl (by simp [Act.eval, Act.put]; done) (by simp [Act.eval, Act.put]; done) hcp2 ?_)
  go_wp2_with go_in
  go_returns
  exact ⟨G, rfl, FIN'.out, GR⟩

theorem Insert_any (th : List Int) (i : Nat) (hi : i ≤ th.length) : InsSpec th i := by
  by_cases he : i = th.length
  · subst he; exact Insert_end th
  · intro w v g nw hne hlen hr hg hd
    have hm : 0 < nw.length := List.length_pos_iff.2 hne
    rcases hr.2 with ⟨_, h0⟩ | ⟨b, cap, cur, rfl, _, hb, hnc, hcm, hcs, htk⟩
    · omega
    · simp only [Nat.mul_one] at hcs htk
      have hbg : b ≠ g := fun e => hd (by rw [e]; rfl)
      by_cases hroom : th.length + nw.length ≤ cap
      · refine (Insert_shift th i (by omega) w b cap g nw cur hm hlen hroom hcm hb hcs htk hg hbg).mono (fun e w' ⟨h1, h2, h3⟩ => ⟨_, h1, h2, h3.mono (fun k _ e => by rw [e]; rfl), .inl rfl⟩)
      · refine (Insert_grow th i (by omega) w b cap g nw cur hm hlen (by omega) hnc hcm hb hcs htk hg hbg).mono (fun e w' ⟨G, h1, h2, h3⟩ => ⟨_, h1, h2, h3.fr _, .inr ⟨_, rfl, Nat.le_refl _⟩⟩)
end Go.Proofs.Ytlnfgdbondmglaa
