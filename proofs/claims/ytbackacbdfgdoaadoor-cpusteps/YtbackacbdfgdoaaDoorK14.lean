/- OPENING ARGUMENTS of layer 12: States, words, bytes; the listed tables, off the row's condition; the end of a law. -/
import Derived.Test.YtbackacbdfgdoaaDoorK13
import Derived.Test.YtbackacbdfgdoaaDoorK3
import Derived.ChangeSlices
import Derived.Carry
import Derived.Deep.Slices
import Derived.Deep.Strs
import Derived.ChangeSame
namespace Go.Proofs.YtbackacbdfgdoaaDoor
open Go.ChangeShapes Go.WideShapes Go.ChangeAt Go.WideMaps Go.WideElems Go.RowKit
open Go.ChangeMaps Go.Deep
open Cpu
set_option linter.unusedVariables false
set_option maxRecDepth 100000

theorem all12_of {W : World} {l : List (String × DataW Unit)} (h : laidMetH Tryd.prog l W) (hp : (l.all fun x => x.2.handleName?.isNone) = true) (hs : ∀ x ∈ laid6, x ∈ l)
    (h1 : ("tincture/rv.kinds", Rows.laid_tincture_rv_kinds) ∈ l) (h2 : ("tincture/cpu.tests", Rows.laid_tincture_cpu_tests) ∈ l) (h3 : ("tincture/cpu.loadSizes", Rows.laid_tincture_cpu_loadSizes) ∈ l) (h4 : ("tincture/cpu.loadBits", Rows.laid_tincture_cpu_loadBits) ∈ l) (h5 : ("tincture/cpu.storeSizes", Rows.laid_tincture_cpu_storeSizes) ∈ l) : All12 W := by
  refine ⟨tabs6_of h hp hs, ⟨?_, ?_, ?_, ?_⟩, kinds_of h hp h1⟩
  · exact fun i hi => nat_ints (zs := tsN) (laid_reads h hp h2) (by kernel_rfl) (by kernel_rfl) Tryd.underlying150 Tryd.underlying3 (by kernel_rfl) (by kernel_rfl) i hi
  · exact fun i hi => nat_ints (zs := lsN) (laid_reads h hp h3) (by kernel_rfl) (by kernel_rfl) Tryd.underlying151 Tryd.underlying3 (by kernel_rfl) (by kernel_rfl) i hi
  · exact fun i hi => nat_ints (zs := lbN) (laid_reads h hp h4) (by kernel_rfl) (by kernel_rfl) Tryd.underlying151 Tryd.underlying3 (by kernel_rfl) (by kernel_rfl) i hi
  · exact fun i hi => nat_ints (zs := ssN) (laid_reads h hp h5) (by kernel_rfl) (by kernel_rfl) Tryd.underlying152 Tryd.underlying3 (by kernel_rfl) (by kernel_rfl) i hi
theorem post_of_bw12 {H : Type} {enc : TypeId × Value → H} {P : Program} {f : Func} {s : ChangeSpec} {apart fresh handsOn : Bool} {W W' : World} {args : Array Value} {v : Value} {ds gs : List (DataW H)} {before pa pv : List MemPlace}
    (hW : DataW.Whole enc P f.params.toList s.vars apart W args.toList ds gs before)
    (hres : ∀ (b : Nat) (sp : Nat → Bool) (hd : Bool), DataW.TrodAll enc P W' b sp hd f.resultTypes.toList (v.resultList f.resultTypes.size) (s.fn H (ds ++ gs)).results [])
    (hargs : DataW.TrodAll enc P W' 0 (fun b => decide (b < W.heap.size)) true f.params.toList args.toList (s.fn H (ds ++ gs)).args pa)
    (hvars : ∀ sp : Nat → Bool, (∀ p ∈ before, sp p.block = true) → DataW.TrodVars enc P W' sp s.vars (s.fn H (ds ++ gs)).vars pv)
    (hps : before = pa ++ pv) (hk : W.keptBut W' (· ∈ before)) : s.post enc P f apart fresh handsOn false W args v W' := by
  have hold : ∀ p ∈ before, (fun b => decide (b < W.heap.size)) p.block = true := fun p hp => by simpa using hW.lt p hp
  refine ⟨ds, gs, before, [], pa, pv, hW, hres _ _ _, hargs, hvars _ hold, World.keptBut_mono (fun p hp => ⟨hp, ?_⟩) hk, fun h => by cases h⟩
  rw [hps, List.mem_append] at hp
  exact Or.inr hp
theorem rd_of12 {W : World} {α : Type} (F : α → Value) (g : Nat → α) (a' : Addr) (len cap : Nat) (hl : len ≤ cap) (hm : cap ≤ maxLen) (hcell : ∀ i, i < len → W.cell? (a'.add i) = some (F (g i))) (hlt : 0 < len → a'.block < W.heap.size) :
    RdR 1 W (.slice (some a') len cap) ((List.range len).map g).length (((List.range len).map g).map F) := by
  refine ⟨some a', cap, by simp, by simpa using hl, by unfold maxLen at hm; omega, by simp, fun h0 => ?_⟩
  simp at h0
  have hb := hlt h0
  obtain ⟨b, off, spot⟩ := a'
  have hspot : spot = none := by simpa [Addr.add] using World.cell?_spot (hcell 0 (by omega))
  subst hspot
  refine ⟨b, off, rfl, hb, fun j u hu => ?_⟩
  simp only [List.map_map, List.getElem?_map, Option.map_eq_some_iff] at hu
  obtain ⟨k, hk, rfl⟩ := hu
  have hkl := (List.getElem?_eq_some_iff.1 hk).1
  simp at hkl
  rw [List.getElem?_range hkl] at hk
  simp at hk
  subst hk
  have := hcell j (by omega)
  rw [Addr.add_lit] at this
  exact this
section
variable {H : Type} {enc : TypeId × Value → H} {W : World}
theorem open_kz12 {t e : TypeId} {kd : IntKind} (ht : Tryd.prog.underlying t = some (.slice e)) (he : Tryd.prog.underlying e = some (.int kd)) (hc : Tryd.prog.cellsOf e = 1) {fuel : Nat} {cs : List Value} {x : DataW H × List MemPlace} (hf : DataW.trod enc Tryd.prog W 0 (fun _ => true) true fuel t cs = some x) (hlt : ∀ y ∈ x.2, y.block < W.heap.size) :
    ∃ v, ∃ l : List Int, cs = [v] ∧ RdR 1 W v l.length (l.map (Value.int kd)) ∧ ∀ n ∈ l, (Lit.int kd n).wf = true := by
  rcases open_ints ht he hc hf with ⟨hcs, hx⟩ | ⟨a', len', cap', zs, hcs, _, hl, hm, hz, hx, hcell, hwz⟩
  · exact ⟨_, [], hcs, RdR.nil _ _, fun x hx => by simp at hx⟩
  · simp only [if_true] at hz
    subst hx
    refine ⟨_, (List.range len').map fun i => zs.getD i 0, hcs, rd_of12 (Value.int kd) (fun i => zs.getD i 0) a' len' cap' hl hm (fun i hi => hcell i (by omega)) (fun h0 => hlt (.cell a'.block a'.off) (MemPlace.mem_row.2 ⟨0, by omega, by simp⟩)), fun n hn => ?_⟩
    simp only [List.mem_map, List.mem_range] at hn
    obtain ⟨i, hi, rfl⟩ := hn
    have hi2 : i < zs.length := by omega
    exact hwz _ (by simp [List.getD, List.getElem?_eq_getElem hi2])
def WdArg (W : World) (v : Value) : Prop := ∃ l, RdW W v l ∧ ∀ n ∈ l, U4 n
theorem open_wd {base : Nat} {v : Value} {d : DataW H} {p : List MemPlace} (hv : Value.okWide Tryd.prog W .any base 29 v) (h : DataW.Trod enc Tryd.prog W 0 (fun _ => true) true 29 v d p) (hlt : ∀ x ∈ p, x.block < W.heap.size) : WdArg W v := by
  obtain ⟨a, len, cap, rfl⟩ := okWide_slice Tryd.underlying29 hv
  obtain ⟨fuel, hf⟩ := h
  obtain ⟨v', l, hc, h1, h2⟩ := open_kz12 Tryd.underlying29 Tryd.underlying25 cellsU hf hlt
  simp [Value.cells] at hc
  subst hc
  exact ⟨l, h1, fun n hn => by have := bounds_u32 (h2 n hn); exact ⟨by omega, by omega⟩⟩
def BtArg (W : World) (v : Value) : Prop := ∃ l, Rd8 W v l ∧ B8s l
theorem open_bt {base : Nat} {v : Value} {d : DataW H} {p : List MemPlace} (hv : Value.okWide Tryd.prog W .any base 38 v) (h : DataW.Trod enc Tryd.prog W 0 (fun _ => true) true 38 v d p) (hlt : ∀ x ∈ p, x.block < W.heap.size) : BtArg W v := by
  obtain ⟨a, len, cap, rfl⟩ := okWide_slice Tryd.underlying38 hv
  obtain ⟨fuel, hf⟩ := h
  obtain ⟨v', l, hc, h1, h2⟩ := open_kz12 Tryd.underlying38 Tryd.underlying5 (by kernel_rfl) hf hlt
  simp [Value.cells] at hc
  subst hc
  exact ⟨l, h1, fun n hn => by have := bounds_u8 (h2 n hn); exact ⟨by omega, by omega⟩⟩
/-- The numbers of an array of words. -/
def numAt (cs : List Value) (i : Nat) : Int := match cs[i]? with | some (.int .u32 z) => z % 4294967296 | _ => 0
theorem numAt_u4 (cs : List Value) (i : Nat) : U4 (numAt cs i) := by
  unfold numAt
  split
  · exact ⟨by omega, by omega⟩
  · exact ⟨by decide, by decide⟩
theorem open_x {base : Nat} {sp : Nat → Bool} {held : Bool} {fuel : Nat} {cs : List Value} {x : DataW H × List MemPlace} (hf : DataW.trod enc Tryd.prog W base sp held fuel 30 cs = some x) :
    cs = (List.range 32).map fun i => Value.int .u32 (numAt cs i) := by
  obtain ⟨xs, m, -, -, hl, hxl, hall⟩ := DataW.trod_array Tryd.underlying30 hf
  rw [cellsX] at hl
  apply List.ext_getElem?
  intro i
  by_cases hi : i < 32
  · have h1 := hall i hi
    rw [List.getElem?_eq_getElem (by omega)] at h1
    obtain ⟨z, e, -, w0⟩ := DataW.trod_int Tryd.underlying25 h1
    rw [cellsU, Nat.mul_one] at e
    have hc : cs[i]? = some (.int .u32 z) := by
      have := congrArg (·[0]?) e
      simpa [List.getElem?_take, List.getElem?_drop] using this
    have hb := bounds_u32 w0
    rw [List.getElem?_map, List.getElem?_range hi, hc]
    simp only [Option.map_some, Option.some.injEq, Value.int.injEq, true_and]
    unfold numAt
    rw [hc]
    show z = z % 4294967296
    omega
  · rw [List.getElem?_eq_none (by omega), List.getElem?_eq_none (by simp; omega)]
def SvArg (W : World) (v : Value) : Prop := ∃ s, v = sv s ∧ StArg s
theorem open_sv {base : Nat} {v : Value} {d : DataW H} {p : List MemPlace} (hv : Value.okWide Tryd.prog W .any base 32 v) (h : DataW.Trod enc Tryd.prog W 0 (fun _ => true) true 32 v d p) (hlt : ∀ x ∈ p, x.block < W.heap.size) : SvArg W v := by
  obtain ⟨cs, rfl, hsz, _⟩ : ∃ cs, v = .agg cs ∧ cs.size = Tryd.prog.cellsOf 32 ∧ Row.okWide Tryd.prog W .any base 32 cs := by
    simpa [Value.okWide, Tryd.underlying32] using hv
  rw [cellsS] at hsz
  obtain ⟨fuel, hf⟩ := h
  obtain ⟨y0, y1, y2, n, -, hl, h0, h1, h2⟩ := trod_struct3 Tryd.underlying32 hf
  simp only [Value.cells] at h0 h1 h2
  rw [cellsX] at h0
  have hx := open_x h0
  obtain ⟨z1, e1, -, w1⟩ := DataW.trod_int Tryd.underlying25 h1
  obtain ⟨z2, e2, -, w2⟩ := DataW.trod_int Tryd.underlying2 h2
  rw [cellsU] at e1
  rw [cellsI64] at e2
  have hlen : cs.toList.length = 34 := by simpa using hsz
  refine ⟨⟨numAt ((cs.toList.drop 0).take 32), z1, z2⟩, ?_, ⟨fun i => numAt_u4 _ i, by have := bounds_u32 w1; show U4 z1; exact ⟨by omega, by omega⟩, bounds_i64 w2⟩⟩
  unfold sv arr cl
  congr 1
  apply Array.toList_inj.1
  show cs.toList = _
  have a1 : cs.toList.drop 33 = (cs.toList.drop 33).take 1 ++ cs.toList.drop 34 := by
    rw [show cs.toList.drop 34 = (cs.toList.drop 33).drop 1 by rw [List.drop_drop]]; exact (List.take_append_drop 1 _).symm
  have a2 : cs.toList.drop 32 = (cs.toList.drop 32).take 1 ++ cs.toList.drop 33 := by
    rw [show cs.toList.drop 33 = (cs.toList.drop 32).drop 1 by rw [List.drop_drop]]; exact (List.take_append_drop 1 _).symm
  have a3 : cs.toList = (cs.toList.drop 0).take 32 ++ ((cs.toList.drop 32).take 1 ++ ((cs.toList.drop 33).take 1 ++ cs.toList.drop 34)) := by
    rw [← a1, ← a2]; exact (List.take_append_drop 32 _).symm
  have a4 : cs.toList.drop 34 = [] := List.drop_eq_nil_of_le (by omega)
  rw [e1, e2, a4, hx] at a3
  exact a3
end
end Go.Proofs.YtbackacbdfgdoaaDoor
