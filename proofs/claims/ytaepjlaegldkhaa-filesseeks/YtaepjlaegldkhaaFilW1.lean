/- LAYER 11's walks: how a number stands; Use, Out, Close. -/
import Derived.Test.YtaepjlaegldkhaaFil
namespace Go.Proofs.Ytaepjlaegldkhaa
open Go.ChangeShapes Go.WideShapes Go.ChangeAt Go.RowKit

theorem Fil.hd_out {s : Fil.St} {fd : Int} (h : ¬ (0 ≤ fd ∧ fd < 16)) : Fil.hd s fd = Fil.no := by unfold Fil.hd; rw [if_neg h]
theorem Fil.hd_at {s : Fil.St} (hl : s.op.length = 16) {k : Nat} (hk : k < 16) : ∃ x, s.op[k]? = some x ∧ Fil.hd s (k : Int) = x := by
  refine ⟨s.op[k], List.getElem?_eq_getElem (by omega), ?_⟩
  unfold Fil.hd
  rw [if_pos (by omega), Int.toNat_natCast, List.getElem?_eq_getElem (by omega)]; rfl
set_option maxHeartbeats 1000000 in
set_option maxRecDepth 100000 in
theorem CloneR_c {v : Value} {l : List Int} {w : World} (hv : Rd8 w v l) (hn : l.length ≤ 100000) : Calls Try.prog 34 #[v] w fun e w' => ∃ v', e = .returned v' ∧ Own8 w w' v' l ∧ Bw w w' := by
  have hv2 : RdR 1 w v l.length (ints8 l) := hv
  obtain ⟨q, cap, rfl, hc1, hc2, -⟩ := hv
  have he := eqSliceNil w 25 _ q l.length cap Try.underlying25
  cases q with
  | none =>
    have h0 : l.length = 0 := Nat.eq_zero_of_not_pos (fun h => by obtain ⟨q, c, e, _, _, _, h5⟩ := hv2; simp at e; obtain ⟨rfl, _⟩ := e; obtain ⟨b, o, h6, _⟩ := h5 h; simp at h6)
    obtain rfl := List.eq_nil_of_length_eq_zero h0
    rw [List.length_nil] at he
    go_enter Try.func34, Try.ntmps34
    go_wp2_with fail
    go_returns
    exact ⟨_, rfl, Own8.nil _ _, Bw.refl _⟩
  | some a =>
    have hown := OwnR.empty 5 1 (w0 := w) (Nat.le_refl w.heap.size)
    obtain ⟨v', w', hr, ho, hb⟩ := appS (ty := 25) infoCloneB Try.underlying25 rfl (by omega) (by omega) hown ((Bw.refl w).alloc _) (hv2.bw ((Bw.refl w).alloc _)) (one_of (fun _ => rfl) _) (by omega)
    rw [Nat.zero_add, List.nil_append] at ho
    have HFin : Hid _ := (⟨Own8.of ho, hb⟩ : Own8 w w' v' l ∧ Bw w w')
    clear ho hb hown hv2
    go_enter Try.func34, Try.ntmps34
    go_wp2_with (first | (at_builtin; refine wpApp rfl _ _ 25 rfl rfl rfl hr ?_) | go_in)
    go_returns
    exact ⟨_, rfl, HFin⟩
theorem CloneO_c {w0 w : World} {v : Value} {l : List Int} (h : Own8 w0 w v l) (hn : l.length ≤ 65536) : Calls Try.prog 34 #[v] w fun e w' => ∃ v', e = .returned v' ∧ Own8 w w' v' l ∧ Bw w w' := CloneR_c h.rd (by omega)
set_option maxHeartbeats 1000000 in
set_option maxRecDepth 100000 in
theorem fKind_c {w0 w : World} {fb : Nat} {A : Nat → Prop} {s : Fil.St} (h : FS w0 w fb A s) (fd : Int) : Calls Try.prog 32 #[.pointer (some ⟨fb, 0, none⟩), .int .i64 fd] w fun e w' => e = .returned (.int .i64 (Fil.hd s fd).kind) ∧ Bw w w' := by
  by_cases h0 : fd < 0
  · rw [Fil.hd_out (by omega)]
    clear h
    go_enter Try.func32, Try.ntmps32
    go_wp2
    go_returns
    exact ⟨rfl, Bw.refl _⟩
  by_cases h1 : 16 ≤ fd
  · rw [Fil.hd_out (by omega)]
    clear h
    go_enter Try.func32, Try.ntmps32
    go_wp2
    go_returns
    exact ⟨rfl, Bw.refl _⟩
  obtain ⟨k, rfl⟩ : ∃ k : Nat, fd = k := ⟨fd.toNat, by omega⟩
  have hk16 : (k : Int) < 16 := by omega
  obtain ⟨x, hx, hd⟩ := Fil.hd_at (s := s) h.ok.ln (k := k) (by omega)
  rw [hd]
  obtain ⟨ub, v1, v2, vs, us, h⟩ := h
  have c0 := (h.at_ hx).1.1
  clear h hd hx
  go_enter Try.func32, Try.ntmps32
  go_wp2
  go_returns
  exact ⟨rfl, Bw.refl _⟩
set_option maxHeartbeats 1000000 in
set_option maxRecDepth 100000 in
theorem fUse_c {w0 w : World} {fb : Nat} {A : Nat → Prop} {s : Fil.St} (h : FS w0 w fb A s) : Calls Try.prog 26 #[.pointer (some ⟨fb, 0, none⟩)] w fun e w' => ∃ ub, e = .returned (.pointer (some ⟨ub, 0, none⟩)) ∧ UseS w ub s.sh s.rd s.ck s.a s.b s.c ∧ Bw w w' := by
  obtain ⟨ub, v1, v2, vs, us, h⟩ := h
  have c0 := h.box.c 0 _ rfl
  have hU : Hid _ := h.use
  clear h
  go_enter Try.func26, Try.ntmps26
  go_wp2
  go_returns
  exact ⟨_, rfl, hU, Bw.refl _⟩
set_option maxHeartbeats 1000000 in
set_option maxRecDepth 100000 in
theorem fOut_c {w0 w : World} {fb : Nat} {A : Nat → Prop} {s : Fil.St} (h : FS w0 w fb A s) (fd : Int) : Calls Try.prog 16 #[.pointer (some ⟨fb, 0, none⟩), .int .i64 fd] w fun e w' => ∃ v, e = .returned v ∧ Own8 w w' v (Fil.outAt s fd) ∧ Bw w w' := by
  by_cases h0 : fd < 0
  · rw [show Fil.outAt s fd = [] by unfold Fil.outAt; rw [if_neg (by omega), if_neg (by omega)]]
    clear h
    go_enter Try.func16, Try.ntmps16
    go_wp2
    go_returns
    exact ⟨_, rfl, Own8.nil _ _, Bw.refl _⟩
  by_cases h1 : 3 ≤ fd
  · rw [show Fil.outAt s fd = [] by unfold Fil.outAt; rw [if_neg (by omega), if_neg (by omega)]]
    clear h
    go_enter Try.func16, Try.ntmps16
    go_wp2
    go_returns
    exact ⟨_, rfl, Own8.nil _ _, Bw.refl _⟩
  obtain ⟨ub, v1, v2, vs, us, h⟩ := h
  have c50 := h.box.c 50 _ (Fil.cells_hi h.ok.ln).1
  have c51 := h.box.c 51 _ (Fil.cells_hi h.ok.ln).2.1
  have c52 := h.box.c 52 _ (Fil.cells_hi h.ok.ln).2.2
  have hC1 := CloneO_c h.o1 h.ok.p1.1
  have hC2 := CloneO_c h.o2 h.ok.p2.1
  have hC0 := CloneO_c (Own8.nil w w) (by simp)
  clear h
  obtain rfl | rfl | rfl : fd = 0 ∨ fd = 1 ∨ fd = 2 := by omega
  · go_enter Try.func16, Try.ntmps16
    go_wp2_with (go_at_call 34; refine hC0.mono ?_; rintro e w2 ⟨v, rfl, ho, hb⟩)
    go_returns
    exact ⟨_, rfl, ho, hb⟩
  · go_enter Try.func16, Try.ntmps16
    go_wp2_with (go_at_call 34; refine hC1.mono ?_; rintro e w2 ⟨v, rfl, ho, hb⟩)
    go_returns
    exact ⟨_, rfl, ho, hb⟩
  · go_enter Try.func16, Try.ntmps16
    go_wp2_with (go_at_call 34; refine hC2.mono ?_; rintro e w2 ⟨v, rfl, ho, hb⟩)
    go_returns
    exact ⟨_, rfl, ho, hb⟩
end Go.Proofs.Ytaepjlaegldkhaa
