/- LAYER 5: the listed tables, off the row's condition. -/
import Derived.Test.YthkampohgbddnaaDoorRvName
import Derived.LaidMore
import Derived.Stop.Joined
import Derived.Lib.LaidTab
namespace Go.Proofs.YthkampohgbddnaaDoor
open Go.ChangeShapes Go.WideShapes Go.ChangeAt Go.WideMaps Go.WideElems Go.RowKit

/-- One listed variable's reading, wherever it stands on the list. -/
def Reads (P : Program) (w : World) (n : String) (d : DataW Unit) : Prop :=
  ∃ g t cs fuel p, P.globalNamed n = some g ∧ (P.globals[g]?).map (·.type) = some t ∧ w.var? P n = some cs ∧ DataW.trod (fun _ => ()) P w 0 (fun _ => true) false fuel t cs.toList = some (d, p)
theorem reads_of {P : Program} {w : World} : ∀ {l : List (String × DataW Unit)} {ps : List MemPlace}, DataW.LaidVars P w l ps → ∀ n d, (n, d) ∈ l → Reads P w n d
  | [], _, _, _, _, hm => by cases hm
  | (n', d') :: r, ps, h, n, d, hm => by
    obtain ⟨g, t, cs, fuel, p, q, h1, h2, h3, h4, h5, _⟩ := h
    rcases List.mem_cons.1 hm with e | e
    · cases e
      exact ⟨g, t, cs, fuel, p, h1, h2, h3, h4⟩
    · exact reads_of h5 n d e
theorem laid_reads {P : Program} {w : World} {l : List (String × DataW Unit)} (h : laidMetH P l w) (hp : (l.all fun x => x.2.handleName?.isNone) = true) {n : String} {d : DataW Unit} (hm : (n, d) ∈ l) : Reads P w n d := by
  rw [MakeChecks.laidMetH_plain _ _ _ hp] at h
  obtain ⟨_, hv, _⟩ := h
  exact reads_of hv n d hm
theorem ints_at {P : Program} {W : World} {name : String} {k : IntKind} {zs : List Int} {g : Nat} {t e : TypeId} {n : Nat} (h : Reads P W name (Lib.tabData k zs))
    (hg : P.globalNamed name = some g) (hty : (P.globals[g]?).map (·.type) = some t) (ht : P.underlying t = some (.array n e)) (he : P.underlying e = some (.int k)) (hce : P.cellsOf e = 1) (hct : P.cellsOf t = n) (i : Nat) (hi : i < zs.length) :
    W.cell? ⟨g, i, none⟩ = some (.int k (zs.getD i 0)) := by
  obtain ⟨g', t', cs, fuel, p, hg', ht', hvar, hd⟩ := h
  obtain rfl := Option.some.inj (hg.symm.trans hg')
  obtain rfl := Option.some.inj (hty.symm.trans ht')
  have hT : Lib.TabIs P W name k zs := by unfold Lib.TabIs; rw [hvar, ← Lib.cells_of_tab ht he hce hct hd]
  exact hT.cell hg i hi
/-- A table of strings. -/
def strData {H : Type} (zs : List (List UInt8)) : DataW H := .agg (zs.map fun z => .lit (.string z))
theorem strs_cells {H : Type} {enc : TypeId × Value → H} {P : Program} {w : World} {base : Nat} {sp : Nat → Bool} {held : Bool} {fuel : Nat} {t e : TypeId} {n : Nat} {cs : List Value} {zs : List (List UInt8)} {p : List MemPlace}
    (ht : P.underlying t = some (.array n e)) (he : P.underlying e = some .string) (hce : P.cellsOf e = 1) (hct : P.cellsOf t = n)
    (h : DataW.trod enc P w base sp held fuel t cs = some (strData zs, p)) : cs = zs.map fun z => Value.string ⟨z.toArray⟩ := by
  cases fuel with
  | zero => simp [DataW.trod] at h
  | succ fuel =>
    simp only [DataW.trod, ht, hce, hct, Nat.mul_one] at h
    split at h
    · rename_i hl
      obtain ⟨xs, hm, hx⟩ := Option.map_eq_some_iff.1 h
      have hxs : xs.map (·.1) = zs.map fun z => (DataW.lit (.string z) : DataW H) := by
        have := congrArg Prod.fst hx
        simpa [strData] using this
      have hxl : xs.length = n := by simpa using Lib.mapM_length hm
      have hzl : zs.length = n := by
        have := congrArg List.length hxs
        simp at this
        omega
      apply List.ext_getElem?
      intro i
      by_cases hi : i < n
      · obtain ⟨b, hb, hf⟩ := Lib.mapM_at hm i i (by simp [hi])
        obtain ⟨z, hc, rfl, _⟩ := DataW.trod_string he hf
        have h1 : cs[i]? = some (.string z) := by
          have := congrArg (·[0]?) hc
          simpa [List.getElem?_take, List.getElem?_drop] using this
        have h2 : (xs.map (·.1))[i]? = some (DataW.lit (.string z.data.toList) : DataW H) := by simp [hb]
        rw [hxs] at h2
        simp only [List.getElem?_map, Option.map_eq_some_iff, DataW.lit.injEq, Lit.string.injEq] at h2
        obtain ⟨z', hz', rfl⟩ := h2
        simp [h1, hz']
      · rw [List.getElem?_eq_none (by omega), List.getElem?_eq_none (by simp; omega)]
    · cases h
theorem strs_at {P : Program} {W : World} {name : String} {zs : List (List UInt8)} {g : Nat} {t e : TypeId} {n : Nat} (h : Reads P W name (strData zs))
    (hg : P.globalNamed name = some g) (hty : (P.globals[g]?).map (·.type) = some t) (ht : P.underlying t = some (.array n e)) (he : P.underlying e = some .string) (hce : P.cellsOf e = 1) (hct : P.cellsOf t = n) (i : Nat) (hi : i < zs.length) :
    W.cell? ⟨g, i, none⟩ = some (.string ⟨(zs.getD i []).toArray⟩) := by
  obtain ⟨g', t', cs, fuel, p, hg', ht', hvar, hd⟩ := h
  obtain rfl := Option.some.inj (hg.symm.trans hg')
  obtain rfl := Option.some.inj (hty.symm.trans ht')
  have := World.var?_cell hg hvar i
  rw [← Array.getElem?_toList, strs_cells ht he hce hct hd] at this
  simpa [List.getD, hi] using this

theorem nat_ints {P : Program} {W : World} {name : String} {k : IntKind} {zs : List Nat} {g : Nat} {t e : TypeId} {n : Nat} (h : Reads P W name (Lib.tabData k (zs.map fun z : Nat => ((z : Nat) : Int))))
    (hg : P.globalNamed name = some g) (hty : (P.globals[g]?).map (·.type) = some t) (ht : P.underlying t = some (.array n e)) (he : P.underlying e = some (.int k)) (hce : P.cellsOf e = 1) (hct : P.cellsOf t = n) (i : Nat) (hi : i < zs.length) :
    W.cell? ⟨g, i, none⟩ = some (.int k ((zs.getD i 0 : Nat) : Int)) := by
  rw [ints_at h hg hty ht he hce hct i (by simpa using hi)]
  simp [List.getD, hi]

/-- The seat's list of seven tables (and of eight) gives the walks' facts. -/
def laid7 : List (String × DataW Unit) := [("tincture/rv.names", Rows.laid_tincture_rv_names), ("tincture/rv.words", Rows.laid_tincture_rv_words), ("tincture/rv.branches", Rows.laid_tincture_rv_branches), ("tincture/rv.loads", Rows.laid_tincture_rv_loads), ("tincture/rv.stores", Rows.laid_tincture_rv_stores), ("tincture/rv.immediates", Rows.laid_tincture_rv_immediates), ("tincture/rv.registers", Rows.laid_tincture_rv_registers)]
theorem tabs_of {W : World} {l : List (String × DataW Unit)} (h : laidMetH Tryd.prog l W) (hp : (l.all fun x => x.2.handleName?.isNone) = true) (hs : ∀ x ∈ laid7, x ∈ l) : Tabs W ∧ NTab W := by
  refine ⟨⟨?_, ?_, ?_, ?_, ?_, ?_⟩, ?_⟩
  · exact fun i hi => nat_ints (zs := Rv.woT) (laid_reads h hp (n := "tincture/rv.words") (d := Rows.laid_tincture_rv_words) (hs _ (by simp [laid7]))) (by kernel_rfl) (by kernel_rfl) Tryd.underlying65 Tryd.underlying35 (by kernel_rfl) (by kernel_rfl) i hi
  · exact fun i hi => nat_ints (zs := Rv.brT) (laid_reads h hp (n := "tincture/rv.branches") (d := Rows.laid_tincture_rv_branches) (hs _ (by simp [laid7]))) (by kernel_rfl) (by kernel_rfl) Tryd.underlying103 Tryd.underlying3 (by kernel_rfl) (by kernel_rfl) i hi
  · exact fun i hi => nat_ints (zs := Rv.ldT) (laid_reads h hp (n := "tincture/rv.loads") (d := Rows.laid_tincture_rv_loads) (hs _ (by simp [laid7]))) (by kernel_rfl) (by kernel_rfl) Tryd.underlying103 Tryd.underlying3 (by kernel_rfl) (by kernel_rfl) i hi
  · exact fun i hi => nat_ints (zs := Rv.stT) (laid_reads h hp (n := "tincture/rv.stores") (d := Rows.laid_tincture_rv_stores) (hs _ (by simp [laid7]))) (by kernel_rfl) (by kernel_rfl) Tryd.underlying103 Tryd.underlying3 (by kernel_rfl) (by kernel_rfl) i hi
  · exact fun i hi => nat_ints (zs := Rv.imT) (laid_reads h hp (n := "tincture/rv.immediates") (d := Rows.laid_tincture_rv_immediates) (hs _ (by simp [laid7]))) (by kernel_rfl) (by kernel_rfl) Tryd.underlying103 Tryd.underlying3 (by kernel_rfl) (by kernel_rfl) i hi
  · exact fun i hi => nat_ints (zs := Rv.rgT) (laid_reads h hp (n := "tincture/rv.registers") (d := Rows.laid_tincture_rv_registers) (hs _ (by simp [laid7]))) (by kernel_rfl) (by kernel_rfl) Tryd.underlying103 Tryd.underlying3 (by kernel_rfl) (by kernel_rfl) i hi
  · exact fun i hi => strs_at (zs := Rv.nmT) (laid_reads h hp (n := "tincture/rv.names") (d := Rows.laid_tincture_rv_names) (hs _ (by simp [laid7]))) (by kernel_rfl) (by kernel_rfl) Tryd.underlying70 Tryd.underlying9 (by kernel_rfl) (by kernel_rfl) i hi
end Go.Proofs.YthkampohgbddnaaDoor
