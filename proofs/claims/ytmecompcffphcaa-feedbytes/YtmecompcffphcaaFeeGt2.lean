/- LAYER 9's walks: the reader's texts. -/
import Derived.Test.YtmecompcffphcaaFeeGt1
namespace Go.Proofs.Ytmecompcffphcaa
open Go.ChangeShapes Go.WideShapes Go.ChangeAt Go.RowKit
set_option linter.unusedSimpArgs false

theorem Fee.rw_len (L : List Int) (fl : Bool) : (Fee.rw L fl).2.1.length ≤ L.length := by
  match L with
  | x0 :: x1 :: x2 :: x3 :: r => simp [Fee.rw]; omega
  | [] => simp [Fee.rw]
  | [_] => simp [Fee.rw]
  | [_, _] => simp [Fee.rw]
  | [_, _, _] => simp [Fee.rw]
theorem Fee.rn_len (m : Int) (L : List Int) (fl : Bool) : (Fee.rn m L fl).2.1.length ≤ L.length := by
  unfold Fee.rn
  split
  · simp
  · exact Fee.rw_len L fl
set_option maxHeartbeats 2000000 in
set_option maxRecDepth 100000 in
theorem textA_c (P : Nat → Prop) (w : World) (rb : Nat) (L : List Int) (fl : Bool) (m : Int) (hP : P rb) (h : RdS P w rb L fl) (h8 : B8s L) (hl : L.length ≤ 900000) : Calls Try.prog 34 #[.pointer (some ⟨rb, 0, none⟩), .int .u32 m] w fun e w' => ∃ v, e = .returned v ∧ Own8 w w' v (Fee.rt m L fl).1 ∧ RdS P w' rb (Fee.rt m L fl).2.1 (Fee.rt m L fl).2.2 ∧ Bq rb w w' := by
  have hW := numA_c P w rb L fl m hP h h8
  obtain ⟨b0, -, h8'⟩ := Fee.rn_bd (m := m) fl h8
  have hlen : (Fee.rn m L fl).2.1.length ≤ 900000 := Nat.le_trans (Fee.rn_len m L fl) hl
  unfold Fee.rt
  generalize Fee.rn m L fl = R at *
  obtain ⟨n, r, f⟩ := R
  dsimp only at hW b0 h8' hlen ⊢
  obtain ⟨t, rfl⟩ : ∃ t : Nat, n = t := ⟨n.toNat, by omega⟩
  rw [Int.toNat_natCast]
  clear h h8
  by_cases hm : r.length < t
  · rw [if_pos hm]
    have hmi : decide ((r.length : Int) < (t : Int)) = true := decide_eq_true (by omega)
    go_enter Try.func34, Try.ntmps34
    go_wp2_with fail
    refine hW.mono ?_
    rintro e w2 ⟨rfl, ⟨v2, x2, hR2, hF2⟩, q2⟩
    have hf := failD_c w2 rb _ _ x2
    obtain ⟨q, cap, rfl, -⟩ := hR2.open
    have a0 := x2.c 0 _ rfl
    clear x2 hR2 hF2
    go_wp2_with (go_at_call 40; refine hf.mono ?_; rintro e w3 ⟨rfl, x3, q3⟩)
    go_returns
    exact ⟨_, rfl, Own8.nil _ _, ⟨_, x3, RdR.nil _ _, fun _ _ _ e => by simp at e⟩, q2.trans q3⟩
  · rw [if_neg hm]
    have htl : t ≤ r.length := by omega
    have hmi : decide ((r.length : Int) < (t : Int)) = false := decide_eq_false (by omega)
    go_enter Try.func34, Try.ntmps34
    go_wp2_with fail
    refine hW.mono ?_
    rintro e w2 ⟨rfl, ⟨v2, x2, hR2, hF2⟩, q2⟩
    obtain ⟨q, cap, rfl, hc1, hc2, hcell⟩ := hR2.open
    have hlt := x2.lt
    obtain ⟨q', hsl, hq'⟩ := slice_from q r.length cap t htl hc1
    obtain ⟨vo, w3, hr, ho, hb3, hA3⟩ := app8S (Own8.nil w2 w2) (Bw.refl w2) (hR2.take htl) (by rw [List.length_take, List.length_nil]; omega)
    rw [List.nil_append] at ho
    obtain ⟨qo, co, hvo, -⟩ := Rd8.open ho.rd
    rw [List.length_take, Nat.min_eq_left htl] at hvo
    subst hvo
    have x3 := x2.bw hb3
    have a0 := x2.c 0 _ rfl
    have a3 := x3.c 0 _ rfl; have f3 := x3.f 0 (by simp)
    have htc : (t : Int) ≤ (cap : Int) := by omega
    have hQ : Bq rb w3 (w3.setCell ⟨rb, 0, none⟩ (.slice q' (r.length - t) (cap - t))) := (Bq.refl _ _).set 0 _
    have hFar : ∀ p k c, Value.slice q' (r.length - t) (cap - t) = .slice (some p) k c → 0 < k → ¬ P p.block := fun p k c e hk => by
      simp at e
      obtain ⟨rfl, rfl, rfl⟩ := e
      obtain ⟨b', o, rfl, _⟩ := hcell (by omega)
      have e2 := hq' b' o rfl (by omega)
      simp at e2
      rw [e2]; exact hF2 ⟨b', o, none⟩ r.length cap rfl (by omega)
    have hRd := (hR2.drop htl hq').bw hb3
    have HFin : Hid (Own8 w (w3.setCell ⟨rb, 0, none⟩ (.slice q' (r.length - t) (cap - t))) (.slice qo t co) (r.take t) ∧ RdS P (w3.setCell ⟨rb, 0, none⟩ (.slice q' (r.length - t) (cap - t))) rb (r.drop t) f ∧ Bq rb w (w3.setCell ⟨rb, 0, none⟩ (.slice q' (r.length - t) (cap - t)))) :=
      ⟨((ho.q hlt hQ).le q2.b0.size), ⟨_, x3.set 0 (by simp) _, RdR.q hRd hQ (fun p k c e hk x => hFar p k c e hk (x ▸ hP)), hFar⟩, (q2.bw hb3).trans hQ⟩
    clear hR2 hF2 hcell hQ hFar hRd x2 x3 ho hA3 hq' h8'
    go_wp2_with (first | (at_builtin; refine wpApp rfl _ _ 22 rfl rfl rfl hr ?_) | go_in)
    go_returns
    exact ⟨_, rfl, HFin⟩
end Go.Proofs.Ytmecompcffphcaa
