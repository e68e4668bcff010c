/- THE WALKS OF LAYER 3: slices.Clone, maps.Clone. -/
import Derived.Test.YtlnfgdbondmglaaMemDel
import Derived.Laws.Externs
import Derived.MapKept
namespace Go.Proofs.Ytlnfgdbondmglaa
open Go.ChangeShapes Go.WideShapes Go.ChangeAt Go.RowKit
set_option linter.unusedSimpArgs false
set_option linter.unusedVariables false

theorem UMap.moved {w w' : World} {b b' n : Nat} {f : Int → Int} (h : UMap w b n f) (e : w'.heap[b']? = w.heap[b]?) : UMap w' b' n f := by
  obtain ⟨D, ⟨es, c, hb, r⟩, q⟩ := h
  exact ⟨D, ⟨es, c, e.trans hb, r⟩, q⟩

theorem eqInMap (w : World) (d : Nat) (t k e : TypeId) (p : Option Nat) (h : Try.prog.underlying t = some (.map k e)) : (Op.equalIn (d + 1) t (.map p) (.map none)).run Try.prog w = .ok p.isNone w := by
  cases p <;> simp [Op.equalIn, run_underlying h]
theorem eqMapNil (w : World) (t k e : TypeId) (p : Option Nat) (h : Try.prog.underlying t = some (.map k e)) : (binOp .eql t (.map p) (.map none)).run Try.prog w = .ok (.bool p.isNone) w := by
  simp only [binOp]
  simp [show Op.equal t (.map p) (.map none) = Op.equalIn (9999 + 1) t (.map p) (.map none) from rfl, eqInMap w 9999 t k e p h]
theorem eqInSlice (w : World) (d : Nat) (t e : TypeId) (q : Option Addr) (n c : Nat) (h : Try.prog.underlying t = some (.slice e)) : (Op.equalIn (d + 1) t (.slice q n c) (.slice none 0 0)).run Try.prog w = .ok q.isNone w := by
  cases q <;> simp [Op.equalIn, run_underlying h]
theorem eqSliceNil (w : World) (t e : TypeId) (q : Option Addr) (n c : Nat) (h : Try.prog.underlying t = some (.slice e)) : (binOp .eql t (.slice q n c) (.slice none 0 0)).run Try.prog w = .ok (.bool q.isNone) w := by
  simp only [binOp]
  simp [show Op.equal t (.slice q n c) (.slice none 0 0) = Op.equalIn (9999 + 1) t (.slice q n c) (.slice none 0 0) from rfl, eqInSlice w 9999 t e q n c h]
set_option maxRecDepth 100000 in
theorem Clone_c {w : World} {v : Value} {th : List Int} (hr : w.ownsRow 0 28 1 v th.length (th.map (Value.int .u32))) (hl : th.length ≤ 4096) :
    Calls Try.prog 56 #[v] w fun e w' => ∃ v', e = .returned v' ∧ w'.ownsRow 0 28 1 v' th.length (th.map (Value.int .u32)) ∧ Gr w w' ∧ ∀ g, v'.ownBlock = some g → w.heap.size ≤ g := by
  rcases hr.2 with ⟨hv, hn0⟩ | ⟨g, cap, cur, hv, _, hg, hnc, hcm, hcs, htk⟩
  · have hnil : th = [] := List.length_eq_zero_iff.1 hn0
    subst hnil hv
    have he := eqSliceNil w 41 _ none 0 0 Try.underlying41
    go_enter Try.func56, Try.ntmps56
    go_wp2_with fail
    go_ret
    exact ⟨_, rfl, World.ownsRow_nil _ _ _ _, Gr.refl _, fun g hg => by simp [Value.ownBlock] at hg⟩
  · subst hv
    have hglt : g < w.heap.size := (Array.getElem?_eq_some_iff.1 hg).1
    have g1 : Gr w (w.alloc (.cells #[] 28)) := (Gr.refl w).alloc _ _
    have hown0 : (w.alloc (.cells #[] 28)).ownsRow 0 28 1 (.slice (some ⟨w.heap.size, 0, none⟩) 0 0) 0 [] := World.ownsRow_made w _ 0 (Nat.zero_le _) (Nat.zero_le _) rfl
    obtain ⟨n, hn⟩ : ∃ n, n = th.length := ⟨_, rfl⟩
    obtain ⟨i0, hi, hz0, hz1, hz2⟩ := info_parts infoU
    have hcell := row_cells_at hr
    have hnews : ∀ k u, (th.map (Value.int .u32))[k]? = some u → (w.alloc (.cells #[] 28)).cell? ((⟨g, 0, none⟩ : Addr).add k) = some u := fun k u hu => by
      have hk : k < th.length := by have := (List.getElem?_eq_some_iff.1 hu).1; simpa using this
      rw [Addr.add_lit, Nat.zero_add, g1.cell g k hglt, hcell k hk]
      rw [List.getElem?_map, List.getElem?_eq_getElem hk] at hu
      rw [List.getElem?_eq_getElem hk]
      simpa using hu
    have hap : ∃ v' w', (Builtin.append_ #[41, 41] 41 #[.slice (some ⟨w.heap.size, 0, none⟩) 0 0, .slice (some ⟨g, 0, none⟩) n cap]).run Try.prog (w.alloc (.cells #[] 28)) = .ok v' w' ∧ w'.ownsRow 0 28 1 v' n (th.map (Value.int .u32)) ∧ Gr w w' ∧ ∀ k, v'.ownBlock = some k → w.heap.size ≤ k := by
      by_cases h0 : 0 < n
      · obtain ⟨v', w', hrun, hown, hfr, hat⟩ := append_fr (t := 41) (ty := 41) (w.alloc (.cells #[] 28)) Try.underlying41 hi hz0 hz1 hz2 rfl hown0 ⟨g, 0, none⟩ n cap (th.map (Value.int .u32)) (by simp [hn]) hnews (one_u32 _) h0 (by omega) (by omega)
        refine ⟨v', w', hrun, by simpa using hown, ?_, fun k hk => ?_⟩
        · exact ((g1.fr _).trans hfr (fun _ _ x => x)).gr (fun k hk e => by simp [Value.ownBlock] at e; omega)
        · rcases hat with e | e
          · rw [hk] at e; simp [Value.ownBlock] at e; omega
          · rw [hk] at e; simp at e; omega
      · have hz : th = [] := List.length_eq_zero_iff.1 (by omega)
        obtain rfl : n = 0 := by omega
        have hrun := run_append_room (P := Try.prog) (w.alloc (.cells #[] 28)) 41 41 28 i0 Try.underlying41 hi w.heap.size 0 0 #[] (heap_alloc_new w _) ⟨g, 0, none⟩ 0 cap [] (by simp) (by simp) (by simp) (by omega) (by simp)
        have fr := setRow_fr (w.alloc (.cells #[] 28)) w.heap.size (List.take (0 * i0.size) (#[] : Array Value).toList ++ [] ++ List.drop (0 * i0.size + ([] : List Value).length) (#[] : Array Value).toList).toArray
        refine ⟨_, _, hrun, ?_, ((g1.fr _).trans fr (fun _ _ x => x)).gr (fun k hk e => by omega), fun k hk => by simp [Value.ownBlock] at hk; omega⟩
        rw [hz]
        refine ⟨by simp, .inr ⟨w.heap.size, 0, _, rfl, Nat.zero_le _, setRow_heap _ _ #[] _ _ _ (heap_alloc_new w _), Nat.le_refl _, Nat.zero_le _, by simp, by simp⟩⟩
    obtain ⟨v', w', hrun, hown, hgr, hblk⟩ := hap
    rw [← hn]
    have FIN : Hid _ := hown
    generalize th.map (Value.int .u32) = zs at FIN ⊢
    clear hown hn hr htk hcell hnews
    have he := eqSliceNil w 41 _ (some ⟨g, 0, none⟩) n cap Try.underlying41
    go_enter Try.func56, Try.ntmps56
    go_wp2_with (first | (at_builtin; refine wpList_append_eq rfl _ _ 41 rfl rfl rfl hrun ?_) | go_in)
    go_ret
    exact ⟨v', rfl, FIN.out, hgr, hblk⟩

theorem mapsClone_c {w : World} {b : Nat} {es : Array MapEntry} {c : Nat} (hb : w.heap[b]? = some (.map es c)) :
    Calls Try.prog 57 #[.map (some b)] w fun e w' => e = .returned (.map (some w.heap.size)) ∧ w' = w.alloc (.map es c) := by
  have h1 := eqMapNil w 62 _ _ (some b) Try.underlying62
  have h2 : (callFunc 62 #[.iface 62 (.map (some b))]).run Try.prog w = .ok (.value (.iface 62 (.map (some w.heap.size)))) (w.alloc (.map es c)) := by
    rw [run_callFunc_extern Try.func62 (by kernel_rfl) (by kernel_rfl) (by kernel_rfl) (e := Extern.MapsClone.clone) (by kernel_rfl)]
    have e1 : Extern.MapsClone.clone #[.iface 62 (.map (some b))] = (getObj b >>= fun o => match o with
      | .map entries clock => (newObj (.map entries clock) >>= fun n => pure (.iface 62 (.map (some n))))
      | _ => stuck "maps.clone: a map expected") := rfl
    rw [e1]
    simp [MapKept.run_getObj_map hb, Result.andThen, go_sem]
  have h3 : ∀ w', (Instr.typeAssert (.iface 62 (.map (some w.heap.size))) 20 62 false).run Try.prog w' = .ok (.map (some w.heap.size)) w' := fun w' => by
    simp [Instr.typeAssert, run_underlying Try.underlying62, go_sem, Result.andThen]
  go_enter Try.func57, Try.ntmps57
  go_wp2_with (simp only [h2])
  go_ret
  exact ⟨rfl, rfl⟩
end Go.Proofs.Ytlnfgdbondmglaa
