/- THE WALKS OF LAYER 3: slices.Delete. -/
import Derived.Test.YtlnfgdbondmglaaMemW9
import Derived.Test.YtlnfgdbondmglaaMemRow
import Derived.Lib.SliceRun
import Derived.Deep.RegionLaw
namespace Go.Proofs.Ytlnfgdbondmglaa
open Go.ChangeShapes Go.WideShapes Go.ChangeAt Go.RowKit
set_option linter.unusedSimpArgs false
set_option linter.unusedVariables false

theorem step_append_eq {P : Program} {ops : Array Oper} {o : Oper} {a : Act} {w w' : World} {K : Act → World → Prop} {Q : Exit → Act → World → Prop} {E : Prop}
    (hg : o.guard = none) (s x : Operand) (t : TypeId) (hop : o.op = Op.call { callee := Callee.builtin Builtin.append, args := #[s, x], argTypes := #[t, t] })
    {v xv v' : Value} (hs : a.eval s = v) (hx : a.eval x = xv) (hr : (Builtin.append_ #[t, t] o.type #[v, xv]).run P w = .ok v' w') (hK : K (a.put o.dst v') w') :
    if Region.wanted o (yielded ops a.tmps) = true then Oper.wp P o a w K Q else E := by
  have hw : Region.wanted o (yielded ops a.tmps) = true := by simp [Region.wanted, hg]
  rw [if_pos hw]
  unfold Oper.wp
  simp [execOp, hop, resolve, invoke, builtin, hs, hx, hr, Result.andThen]
  exact hK
theorem wpList_clear_eq {P : Program} {w w' : World} {ops : Array Oper} {rest : List Oper} {o : Oper} {a : Act} {Q : Exit → Act → World → Prop} (hgd : o.guard = none) (s : Operand) (t : TypeId)
    (ho : o.op = .call { callee := .builtin .clear, args := #[s], argTypes := #[t] }) {v v' : Value} (hs : a.eval s = v)
    (hr : (Builtin.clear_ #[t] o.type #[v]).run P w = .ok v' w') (h : wpList P ops Q rest (a.put o.dst v') w') : wpList P ops Q (o :: rest) a w := by
  refine wpList_plain hgd fun K hK => ?_
  unfold Oper.wp execOp
  simp only [ho, resolve, invoke, builtin, Sem.run_bind, Sem.run_pure, Result.andThen_ok, List.map_toArray, List.map_cons, List.map_nil, hs, hr]
  exact hK _ _ h
theorem setCells_fr (b : Nat) : ∀ (vs : List Value) (o : Nat) (w : World), Fr (fun k => k = b) w (w.setCells b o vs)
  | [], _, w => Fr.refl _ _
  | v :: r, o, w => (Fr.setCell (F := fun k => k = b) (p := ⟨b, o, none⟩) (Fr.refl _ w) (.inl rfl) v).trans (setCells_fr b r (o + 1) _) (fun _ _ h => h)
theorem setCells_row (b : Nat) : ∀ (vs : List Value) (o : Nat) (w : World) (cur : Array Value) (e : TypeId) (f : Nat × Nat), w.heap[b]? = some (.cells cur e f) →
    ∃ cur', (w.setCells b o vs).heap[b]? = some (.cells cur' e f) ∧ cur'.size = cur.size ∧ ∀ i, i < o → cur'[i]? = cur[i]?
  | [], _, w, cur, e, f, h => ⟨cur, h, rfl, fun _ _ => rfl⟩
  | v :: r, o, w, cur, e, f, h => by
    obtain ⟨c', h1, h2, h3⟩ := setCells_row b r (o + 1) (w.setCell ⟨b, o, none⟩ v) _ e f (heap_setCell_same h)
    refine ⟨c', h1, by simpa using h2, fun i hi => ?_⟩
    rw [h3 i (by omega), Array.getElem?_setIfInBounds, if_neg (by omega)]

set_option maxRecDepth 100000 in
set_option maxHeartbeats 1000000 in
theorem Delete_c {w : World} {v : Value} {th : List Int} (hr : w.ownsRow 0 28 1 v th.length (th.map (Value.int .u32))) (hl : th.length ≤ 4096) (i j : Nat) (hij : i ≤ j) (hj : j ≤ th.length) :
    Calls Try.prog 46 #[v, .int .i64 i, .int .i64 j] w fun e w' => ∃ v', e = .returned v' ∧ w'.ownsRow 0 28 1 v' (th.length - (j - i)) ((th.take i ++ th.drop j).map (Value.int .u32)) ∧ Fr (fun k => v.ownBlock = some k) w w' ∧ v'.ownBlock = v.ownBlock := by
  rcases hr.2 with ⟨hv, hn0⟩ | ⟨g, cap, cur, hv, _, hg, hnc, hcm, hcs, htk⟩
  · have hnil : th = [] := List.length_eq_zero_iff.1 hn0
    subst hnil
    subst hv
    obtain rfl : j = 0 := by simpa using hj
    obtain rfl : i = 0 := by omega
    go_enter Try.func46, Try.ntmps46
    go_wp2_with fail
    go_returns
    exact ⟨_, rfl, by simpa using World.ownsRow_nil w 0 28 1, Fr.refl _ _, rfl⟩
  · subst hv
    obtain ⟨n, hn⟩ : ∃ n, n = th.length := ⟨_, rfl⟩
    simp only [Nat.mul_one] at hcs htk
    rw [← hn] at hnc htk hj hl
    by_cases he : i = j
    · subst he
      have FIN : Hid (w.ownsRow 0 28 1 (.slice (some ⟨g, 0, none⟩) n cap) n ((th.take i ++ th.drop i).map (Value.int .u32))) := by
        show w.ownsRow _ _ _ _ _ _
        rw [List.take_append_drop, hn]; exact hr
      rw [show th.length - (i - i) = th.length by omega]
      have hji : (i : Int) ≤ (n : Int) := by omega
      rw [← hn]
      generalize (List.map (Value.int IntKind.u32) (List.take i th ++ List.drop i th)) = zs at FIN ⊢
      clear hr hn
      go_enter Try.func46, Try.ntmps46
      go_wp2_with fail
      all_goals go_returns
      · obtain rfl : n = i := by omega
        exact ⟨.slice (some ⟨g, 0, none⟩) n cap, rfl, FIN.out, Fr.refl _ _, rfl⟩
      · exact ⟨.slice (some ⟨g, 0, none⟩) n cap, rfl, FIN.out, Fr.refl _ _, rfl⟩
    · have hlt : i < j := by omega
      obtain ⟨i0, hi, hz0, hz1, hz2⟩ := info_parts infoU
      obtain ⟨A, hA⟩ : ∃ A : Addr, (if cap = j then some (⟨g, 0, none⟩ : Addr) else some ⟨g, j, none⟩) = some A := by
        by_cases c : cap = j
        · exact ⟨_, if_pos c⟩
        · exact ⟨_, if_neg c⟩
      have hcell : ∀ k, k < n → w.cell? ⟨g, k, none⟩ = some (.int .u32 (th[k]?.getD 0)) := fun k hk => row_cells_at hr k (by omega)
      have hnews : ∀ k u, ((th.drop j).map (Value.int .u32))[k]? = some u → w.drew.cell? (A.add k) = some u := by
        intro k u hu
        have hk : j + k < n := by
          have := (List.getElem?_eq_some_iff.1 hu).1
          simp at this; omega
        have c : ¬ cap = j := by omega
        rw [if_neg c] at hA
        cases hA
        rw [Addr.add_lit]
        show w.cell? _ = _
        rw [hcell _ hk]
        simp only [List.getElem?_map, List.getElem?_drop] at hu
        rw [List.getElem?_eq_getElem (by omega)] at hu ⊢
        simpa using hu
      have hrun := run_append_room (P := Try.prog) w.drew 41 41 28 i0 Try.underlying41 hi g i cap cur hg A (n - j) (cap - j) ((th.drop j).map (Value.int .u32)) (by rw [hz1]; simp; omega) hnews (by
        intro u hu
        obtain ⟨x, _, rfl⟩ := List.mem_map.1 hu
        rfl) (by omega) (by rw [hz1]; simp; omega)
      obtain ⟨cu3, hcu3⟩ : ∃ cu3, cu3 = (cur.toList.take (i * i0.size) ++ (th.drop j).map (Value.int .u32) ++ cur.toList.drop (i * i0.size + ((th.drop j).map (Value.int .u32)).length)).toArray := ⟨_, rfl⟩
      rw [← hcu3] at hrun
      rw [hz1, Nat.mul_one] at hcu3
      obtain ⟨w3, hw3⟩ : ∃ w3, w3 = w.drew.setRow g cu3 := ⟨_, rfl⟩
      rw [← hw3] at hrun
      have hb3 : w3.heap[g]? = some (.cells cu3 28 (0, 0)) := by rw [hw3]; exact setRow_heap w.drew g cur _ _ _ hg
      have fr3 : Fr (fun k => k = g) w w3 := by
        rw [hw3]
        exact (Fr.refl _ w).drew.trans (setRow_fr w.drew g cu3) (fun _ _ h => h)
      have hcl3 : cu3.size = cap := by
        rw [hcu3]; simp [← hn]; omega
      have htk3 : cu3.toList.take (i + (n - j)) = (th.take i ++ th.drop j).map (Value.int .u32) := by
        have e1 : cur.toList.take i = (th.take i).map (Value.int .u32) := by
          rw [List.map_take, ← htk, List.take_take, Nat.min_eq_left (by omega)]
        rw [hcu3, e1, ← List.map_append]
        have e2 : ((th.take i ++ th.drop j).map (Value.int .u32)).length = i + (n - j) := by simp [← hn]; omega
        show List.take (i + (n - j)) (List.map (Value.int IntKind.u32) (List.take i th ++ List.drop j th) ++ _) = _
        rw [← e2]
        exact List.take_left
      obtain ⟨m, hm⟩ : ∃ m, m = i + (n - j) := ⟨_, rfl⟩
      have hmn : m < n := by omega
      have hcl : ∀ ty, (Builtin.clear_ #[41] ty #[.slice (some ⟨g, m, none⟩) (n - m) (cap - m)]).run Try.prog w3 = .ok (.tuple #[]) (w3.setCells g m (List.replicate (n - m) (.int .u32 0))) := fun ty =>
        Lib.run_clear_slice w3 41 28 ty (.int .u32 0) Try.underlying41 zeroU32 rfl rfl g m (n - m) (cap - m) (by omega) (fun k hk => by
          rw [cell_of_row w3 g (m + k) cu3 _ (0, 0) hb3, Array.getElem?_eq_getElem (by omega)]; rfl) (fun k _ => by simp [World.frozen?, hb3])
      obtain ⟨c4, hb4, hs4, hk4⟩ := setCells_row g (List.replicate (n - m) (.int .u32 0)) m w3 _ _ _ hb3
      have fr4 := fr3.trans (setCells_fr g (List.replicate (n - m) (.int .u32 0)) m w3) (fun _ _ h => h)
      obtain ⟨w4, hw4⟩ : ∃ w4, w4 = w3.setCells g m (List.replicate (n - m) (.int .u32 0)) := ⟨_, rfl⟩
      rw [← hw4] at hcl hb4 fr4
      have FIN : w4.ownsRow 0 28 1 (.slice (some ⟨g, 0, none⟩) m cap) m ((th.take i ++ th.drop j).map (Value.int .u32)) := by
        refine ⟨by rw [← htk3]; simp [hcl3]; omega, .inr ⟨g, cap, c4, rfl, Nat.zero_le _, hb4, by omega, hcm, by omega, ?_⟩⟩
        rw [Nat.mul_one, ← htk3, ← hm]
        apply List.ext_getElem?
        intro k
        rw [List.getElem?_take, List.getElem?_take]
        by_cases hk : k < m
        · rw [if_pos hk, if_pos hk]
          simpa using hk4 k hk
        · rw [if_neg hk, if_neg hk]
      have hres : th.length - (j - i) = m := by omega
      rw [hres, ← hn]
      have FIN' : Hid _ := FIN
      rw [← hm] at hrun
      have hij1 : (i : Int) ≤ (j : Int) := by omega
      have hjn1 : (j : Int) ≤ (n : Int) := by omega
      have hnc1 : (n : Int) ≤ (cap : Int) := by omega
      have hijne : ((i : Int) == (j : Int)) = false := by simp; omega
      have hcm1 : ¬ cap = m := by omega
      have hmn1 : (m : Int) ≤ (n : Int) := by omega
      have hci : ¬ cap = i := by omega
      have hic : i ≤ cap := by omega
      have hjc : j ≤ cap := by omega
      have FR4 : Fr (fun k => (Value.slice (some ⟨g, 0, none⟩) n cap).ownBlock = some k) w w4 := fr4.mono (fun k _ e => by rw [e]; rfl)
      clear FIN htk3 hk4 hs4 hb4 fr4 fr3 hcl3 hb3 hcu3 hw3 hw4 hnews hcell hr htk hcs hm hn hres
      generalize (List.map (Value.int IntKind.u32) (List.take i th ++ List.drop j th)) = zs at FIN' ⊢
      go_enter Try.func46, Try.ntmps46
      go_wp2_with fail
      go_region_law (refine step_append_eq rfl (.tmp 22) (.tmp 25) 41 rfl (by simp [Act.eval, Act.put]; done) (by simp [Act.eval, Act.put, hA]; done) hrun ?_)
      go_wp2_with (first | (at_builtin; refine wpList_clear_eq rfl _ 41 rfl rfl (hcl _) ?_) | go_in)
      go_returns
      exact ⟨_, rfl, FIN'.out, FR4, rfl⟩
end Go.Proofs.Ytlnfgdbondmglaa
