/- LAYER 9's walks: slices.Clone; Begin. -/
import Derived.Test.YtaepjlaegldkhaaFeeW4
import Derived.Test.YtaepjlaegldkhaaFeeW1
import Derived.Test.YtaepjlaegldkhaaAppS
namespace Go.Proofs.Ytaepjlaegldkhaa
open Go.ChangeShapes Go.WideShapes Go.ChangeAt Go.RowKit

theorem eqInSlice (w : World) (d : Nat) (t e : TypeId) (q : Option Addr) (n c : Nat) (h : Try.prog.underlying t = some (.slice e)) : (Op.equalIn (d + 1) t (.slice q n c) (.slice none 0 0)).run Try.prog w = .ok q.isNone w := by
  cases q <;> simp [Op.equalIn, run_underlying h]
theorem eqSliceNil (w : World) (t e : TypeId) (q : Option Addr) (n c : Nat) (h : Try.prog.underlying t = some (.slice e)) : (binOp .eql t (.slice q n c) (.slice none 0 0)).run Try.prog w = .ok (.bool q.isNone) w := by
  simp only [binOp]
  simp [show Op.equal t (.slice q n c) (.slice none 0 0) = Op.equalIn (9999 + 1) t (.slice q n c) (.slice none 0 0) from rfl, eqInSlice w 9999 t e q n c h]
/-- A slice whose block lies from N on. -/
def Far2 (N : Nat) (v : Value) : Prop := ∀ q k c, v = .slice (some q) k c → 0 < k → N ≤ q.block
theorem Far2.nil (N : Nat) : Far2 N (.slice none 0 0) := fun q k c h => by simp at h
theorem Far2.own {e sz n : Nat} {cs : List Value} {a w : World} {v : Value} (h : OwnR e sz a w v n cs) : Far2 a.heap.size v := h.far
theorem infoCloneI : (Try.prog.info? 3).map (fun i => (i.zero, i.size, i.bytes)) = some (some (.int .i64 0), 1, 8) := by kernel_rfl
set_option maxHeartbeats 1000000 in
set_option maxRecDepth 100000 in
theorem CloneI_c (v : Value) (n : Nat) (cs : List Value) (w : World) (hv : RdR 1 w v n cs) (h1 : ∀ u ∈ cs, u.oneCell' = true) (hn : n ≤ 100000) : Calls Try.prog 42 #[v] w fun e w' => ∃ v', e = .returned v' ∧ RdR 1 w' v' n cs ∧ Bw w w' ∧ Far2 w.heap.size v' := by
  have hv2 := hv
  obtain ⟨q, cap, rfl, hc1, hc2, -⟩ := hv
  have he := eqSliceNil w 30 _ q n cap Try.underlying30
  cases q with
  | none =>
    have h0 : n = 0 := Nat.eq_zero_of_not_pos (fun h => by obtain ⟨q, c, e, _, _, _, h5⟩ := hv2; simp at e; obtain ⟨rfl, _⟩ := e; obtain ⟨b, o, h6, _⟩ := h5 h; simp at h6)
    subst h0
    have hz : cs = [] := by obtain ⟨q, c, e, _, _, h4, _⟩ := hv2; exact List.eq_nil_of_length_eq_zero (by simpa using h4)
    subst hz
    go_enter Try.func42, Try.ntmps42
    go_wp2_with fail
    go_returns
    exact ⟨_, rfl, RdR.nil _ _, Bw.refl _, Far2.nil _⟩
  | some a =>
    have hown := OwnR.empty 3 1 (w0 := w) (Nat.le_refl w.heap.size)
    obtain ⟨v', w', hr, ho, hb⟩ := appS (ty := 30) infoCloneI Try.underlying30 rfl (by omega) (by omega) hown ((Bw.refl w).alloc _) (hv2.bw ((Bw.refl w).alloc _)) h1 (by omega)
    rw [Nat.zero_add, List.nil_append] at ho
    have HFin : Hid _ := (⟨ho.rd, hb, Far2.own ho⟩ : RdR 1 w' v' n cs ∧ Bw w w' ∧ Far2 w.heap.size v')
    clear ho hb hown hv2 h1
    go_enter Try.func42, Try.ntmps42
    go_wp2_with (first | (at_builtin; refine wpApp rfl _ _ 30 rfl rfl rfl hr ?_) | go_in)
    go_returns
    exact ⟨_, rfl, HFin⟩
theorem infoCloneB : (Try.prog.info? 5).map (fun i => (i.zero, i.size, i.bytes)) = some (some (.int .u8 0), 1, 1) := by kernel_rfl
set_option maxHeartbeats 1000000 in
set_option maxRecDepth 100000 in
theorem CloneB_c (v : Value) (n : Nat) (cs : List Value) (w : World) (hv : RdR 1 w v n cs) (h1 : ∀ u ∈ cs, u.oneCell' = true) (hn : n ≤ 100000) : Calls Try.prog 34 #[v] w fun e w' => ∃ v', e = .returned v' ∧ RdR 1 w' v' n cs ∧ Bw w w' ∧ Far2 w.heap.size v' := by
  have hv2 := hv
  obtain ⟨q, cap, rfl, hc1, hc2, -⟩ := hv
  have he := eqSliceNil w 25 _ q n cap Try.underlying25
  cases q with
  | none =>
    have h0 : n = 0 := Nat.eq_zero_of_not_pos (fun h => by obtain ⟨q, c, e, _, _, _, h5⟩ := hv2; simp at e; obtain ⟨rfl, _⟩ := e; obtain ⟨b, o, h6, _⟩ := h5 h; simp at h6)
    subst h0
    have hz : cs = [] := by obtain ⟨q, c, e, _, _, h4, _⟩ := hv2; exact List.eq_nil_of_length_eq_zero (by simpa using h4)
    subst hz
    go_enter Try.func34, Try.ntmps34
    go_wp2_with fail
    go_returns
    exact ⟨_, rfl, RdR.nil _ _, Bw.refl _, Far2.nil _⟩
  | some a =>
    have hown := OwnR.empty 5 1 (w0 := w) (Nat.le_refl w.heap.size)
    obtain ⟨v', w', hr, ho, hb⟩ := appS (ty := 25) infoCloneB Try.underlying25 rfl (by omega) (by omega) hown ((Bw.refl w).alloc _) (hv2.bw ((Bw.refl w).alloc _)) h1 (by omega)
    rw [Nat.zero_add, List.nil_append] at ho
    have HFin : Hid _ := (⟨ho.rd, hb, Far2.own ho⟩ : RdR 1 w' v' n cs ∧ Bw w w' ∧ Far2 w.heap.size v')
    clear ho hb hown hv2 h1
    go_enter Try.func34, Try.ntmps34
    go_wp2_with (first | (at_builtin; refine wpApp rfl _ _ 25 rfl rfl rfl hr ?_) | go_in)
    go_returns
    exact ⟨_, rfl, HFin⟩
theorem infoCloneW : (Try.prog.info? 89).map (fun i => (i.zero, i.size, i.bytes)) = some (some (.int .u32 0), 1, 4) := by kernel_rfl
set_option maxHeartbeats 1000000 in
set_option maxRecDepth 100000 in
theorem CloneW_c (v : Value) (n : Nat) (cs : List Value) (w : World) (hv : RdR 1 w v n cs) (h1 : ∀ u ∈ cs, u.oneCell' = true) (hn : n ≤ 100000) : Calls Try.prog 43 #[v] w fun e w' => ∃ v', e = .returned v' ∧ RdR 1 w' v' n cs ∧ Bw w w' ∧ Far2 w.heap.size v' := by
  have hv2 := hv
  obtain ⟨q, cap, rfl, hc1, hc2, -⟩ := hv
  have he := eqSliceNil w 31 _ q n cap Try.underlying31
  cases q with
  | none =>
    have h0 : n = 0 := Nat.eq_zero_of_not_pos (fun h => by obtain ⟨q, c, e, _, _, _, h5⟩ := hv2; simp at e; obtain ⟨rfl, _⟩ := e; obtain ⟨b, o, h6, _⟩ := h5 h; simp at h6)
    subst h0
    have hz : cs = [] := by obtain ⟨q, c, e, _, _, h4, _⟩ := hv2; exact List.eq_nil_of_length_eq_zero (by simpa using h4)
    subst hz
    go_enter Try.func43, Try.ntmps43
    go_wp2_with fail
    go_returns
    exact ⟨_, rfl, RdR.nil _ _, Bw.refl _, Far2.nil _⟩
  | some a =>
    have hown := OwnR.empty 89 1 (w0 := w) (Nat.le_refl w.heap.size)
    obtain ⟨v', w', hr, ho, hb⟩ := appS (ty := 31) infoCloneW Try.underlying31 rfl (by omega) (by omega) hown ((Bw.refl w).alloc _) (hv2.bw ((Bw.refl w).alloc _)) h1 (by omega)
    rw [Nat.zero_add, List.nil_append] at ho
    have HFin : Hid _ := (⟨ho.rd, hb, Far2.own ho⟩ : RdR 1 w' v' n cs ∧ Bw w w' ∧ Far2 w.heap.size v')
    clear ho hb hown hv2 h1
    go_enter Try.func43, Try.ntmps43
    go_wp2_with (first | (at_builtin; refine wpApp rfl _ _ 31 rfl rfl rfl hr ?_) | go_in)
    go_returns
    exact ⟨_, rfl, HFin⟩
end Go.Proofs.Ytaepjlaegldkhaa
