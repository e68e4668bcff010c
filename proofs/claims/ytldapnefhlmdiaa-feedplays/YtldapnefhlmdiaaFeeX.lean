/- LAYER 9's law FeedPlays: the two feeds that are used, side by side. -/
import Derived.Test.YtldapnefhlmdiaaFeeC
import Derived.Test.YtldapnefhlmdiaaFeeR4
namespace Go.Proofs.Ytldapnefhlmdiaa
open Go.ChangeShapes Go.WideShapes Go.ChangeAt Go.RowKit

set_option maxHeartbeats 1000000 in
set_option maxRecDepth 100000 in
theorem Bytes_no (w : World) (p : Value) (n : Int) (hn : n < 0 ∨ 4096 < n) : Calls Try.prog 13 #[p, .int .i64 n] w fun e w' => e = .returned (.slice none 0 0) ∧ w' = w := by
  by_cases h : n < 0
  · go_enter Try.func13, Try.ntmps13
    go_wp2_with fail
    go_returns
    exact ⟨rfl, rfl⟩
  · have h2 : 4096 < n := by omega
    go_enter Try.func13, Try.ntmps13
    go_wp2_with fail
    go_returns
    exact ⟨rfl, rfl⟩
set_option maxHeartbeats 1000000 in
set_option maxRecDepth 100000 in
theorem rBytes_no (w : World) (p : Value) (n : Int) (hn : n < 0 ∨ 4096 < n) : Calls Try.prog 24 #[p, .int .i64 n] w fun e w' => e = .returned (.slice none 0 0) ∧ w' = w := by
  by_cases h : n < 0
  · go_enter Try.func24, Try.ntmps24
    go_wp2_with fail
    go_returns
    exact ⟨rfl, rfl⟩
  · have h2 : 4096 < n := by omega
    go_enter Try.func24, Try.ntmps24
    go_wp2_with fail
    go_returns
    exact ⟨rfl, rfl⟩
def Fee.bx (rd : List Int) (b : Nat) (n : Int) : List Int := if 0 ≤ n ∧ n ≤ 4096 then Fee.bytes rd b n.toNat else []
def Fee.cx (rd : List Int) (b : Nat) (n : Int) : Nat := if 0 ≤ n ∧ n ≤ 4096 then Fee.cnt rd b n.toNat else 0
theorem BytesX_c (w : World) (ub : Nat) (sh rd ck : List Int) (a b c : Nat) (h : UseS w ub sh rd ck a b c) (n : Int) :
    Calls Try.prog 13 #[.pointer (some ⟨ub, 0, none⟩), .int .i64 n] w fun e w' => ∃ v, e = .returned v ∧ Own8 w w' v (Fee.bx rd b n) ∧ UseS w' ub sh rd ck a (b + Fee.cx rd b n) c ∧ Bq ub w w' ∧ Keep3 ub w w' := by
  unfold Fee.bx Fee.cx
  by_cases hn : 0 ≤ n ∧ n ≤ 4096
  · rw [if_pos hn, if_pos hn]
    obtain ⟨m, rfl⟩ : ∃ m : Nat, n = m := ⟨n.toNat, by omega⟩
    exact Bytes_c w ub sh rd ck a b c h m (by omega)
  · rw [if_neg hn, if_neg hn]
    refine (Bytes_no w _ n (by omega)).mono ?_
    rintro e w' ⟨rfl, rfl⟩
    exact ⟨_, rfl, Own8.nil _ _, h, Bq.refl _ _, Keep3.refl _ _⟩
theorem rBytesX_c (w : World) (ub : Nat) (sh rd ck : List Int) (a b c : Nat) (h : RUse w ub sh rd ck a b c) (hrl : rd.length ≤ 10000) (n : Int) :
    Calls Try.prog 24 #[.pointer (some ⟨ub, 0, none⟩), .int .i64 n] w fun e w' => ∃ v, e = .returned v ∧ Own8 w w' v (Fee.bx rd b n) ∧ RUse w' ub sh rd ck a (b + Fee.cx rd b n) c ∧ Bq ub w w' ∧ KeepR ub w w' := by
  unfold Fee.bx Fee.cx
  by_cases hn : 0 ≤ n ∧ n ≤ 4096
  · rw [if_pos hn, if_pos hn]
    obtain ⟨m, rfl⟩ : ∃ m : Nat, n = m := ⟨n.toNat, by omega⟩
    exact rBytes_c w ub sh rd ck a b c h hrl m (by omega)
  · rw [if_neg hn, if_neg hn]
    refine (rBytes_no w _ n (by omega)).mono ?_
    rintro e w' ⟨rfl, rfl⟩
    exact ⟨_, rfl, Own8.nil _ _, h, Bq.refl _ _, KeepR.refl _ _⟩
/-- A use's slices lie in other blocks. -/
def FarX (w : World) (ub pb : Nat) : Prop := ∀ j v, j < 3 → w.cell? ⟨ub, j, none⟩ = some v → Far pb v
theorem FarX.keep {w w' : World} {ub pb : Nat} (h : FarX w ub pb) (k : Keep3 ub w w') : FarX w' ub pb := fun j v hj e => h j v hj ((k j hj).symm.trans e)
theorem FarR.keep {w w' : World} {rb pb : Nat} (h : FarR w rb pb) (k : KeepR rb w w') : FarR w' rb pb := fun j v h2 h5 e => h j v h2 h5 ((k j (by omega)).symm.trans e)
theorem UseS.farX {w : World} {ub pb : Nat} {sh rd ck : List Int} {a b c : Nat} (h : UseS w ub sh rd ck a b c) (hp : w.heap.size ≤ pb) : FarX w ub pb := by
  obtain ⟨⟨vs, vr, vc, h1, h2, h3, h4, _⟩, _⟩ := h
  intro j v hj e
  obtain rfl | rfl | rfl : j = 0 ∨ j = 1 ∨ j = 2 := by omega
  · rw [h1.c 0 _ rfl] at e; obtain rfl := Option.some.inj e; exact (RdR.lo h2).to hp
  · rw [h1.c 1 _ rfl] at e; obtain rfl := Option.some.inj e; exact (RdR.lo h3).to hp
  · rw [h1.c 2 _ rfl] at e; obtain rfl := Option.some.inj e; exact (RdR.lo h4).to hp
theorem RUse.farR {w : World} {ub pb : Nat} {sh rd ck : List Int} {a b c : Nat} (h : RUse w ub sh rd ck a b c) (hp : w.heap.size ≤ pb) : FarR w ub pb := by
  obtain ⟨⟨va, vi, vs, vr, vc, vf, h1, h2, h3, h4, _⟩, _⟩ := h
  exact FarR.mk h1 ((RdR.lo h2).to hp) ((RdR.lo h3).to hp) ((RdR.lo h4).to hp)
theorem UseS.other {w w' : World} {pb ub : Nat} {sh rd ck : List Int} {a b c : Nat} (h : UseS w ub sh rd ck a b c) (hf : FarX w ub pb) (g : Bq pb w w') (hn : ub ≠ pb) : UseS w' ub sh rd ck a b c ∧ FarX w' ub pb := by
  have hlt := h.lt
  obtain ⟨⟨vs, vr, vc, h1, h2, h3, h4, h5, h6, h7⟩, la, lb, lc⟩ := h
  exact ⟨⟨⟨vs, vr, vc, h1.q g hn, RdR.q h2 g (hf 0 _ (by omega) (h1.c 0 _ rfl)), RdR.q h3 g (hf 1 _ (by omega) (h1.c 1 _ rfl)), RdR.q h4 g (hf 2 _ (by omega) (h1.c 2 _ rfl)), h5, h6, h7⟩, la, lb, lc⟩, fun j v hj e => hf j v hj ((cell_block (p := ⟨ub, j, none⟩) (g.block ub hlt hn)).symm.trans e)⟩
theorem RUse.other {w w' : World} {pb ub : Nat} {sh rd ck : List Int} {a b c : Nat} (h : RUse w ub sh rd ck a b c) (hf : FarR w ub pb) (g : Bq pb w w') (hn : ub ≠ pb) : RUse w' ub sh rd ck a b c ∧ FarR w' ub pb := by
  have hlt := h.lt
  obtain ⟨⟨va, vi, vs, vr, vc, vf, h1, h2, h3, h4, h5, h6, h7⟩, la, lb, lc⟩ := h
  exact ⟨⟨⟨va, vi, vs, vr, vc, vf, h1.q g hn, RdR.q h2 g (hf 2 _ (by omega) (by omega) (h1.c 2 _ rfl)), RdR.q h3 g (hf 3 _ (by omega) (by omega) (h1.c 3 _ rfl)), RdR.q h4 g (hf 4 _ (by omega) (by omega) (h1.c 4 _ rfl)), h5, h6, h7⟩, la, lb, lc⟩, fun j v h2 h5 e => hf j v h2 h5 ((cell_block (p := ⟨ub, j, none⟩) (g.block ub hlt hn)).symm.trans e)⟩
/-- Both, side by side. -/
structure Pr (w : World) (ub rb : Nat) (sh rd ck : List Int) (a b c a' b' c' : Nat) : Prop where
  u : UseS w ub sh rd ck a b c
  v : RUse w rb sh rd ck a' b' c'
  x : FarX w ub rb
  y : FarR w rb ub
  ne : ub ≠ rb
theorem Pr.bw {w w' : World} {ub rb : Nat} {sh rd ck : List Int} {a b c a' b' c' : Nat} (h : Pr w ub rb sh rd ck a b c a' b' c') (g : Bw w w') : Pr w' ub rb sh rd ck a b c a' b' c' :=
  ⟨h.u.bw g, h.v.bw g, h.x.keep ((Keep3.refl _ _).bw h.u.lt g), h.y.keep ((KeepR.refl _ _).bw h.v.lt g), h.ne⟩
theorem Pr.onU {w w' : World} {ub rb : Nat} {sh rd ck : List Int} {a b c a' b' c' x y z : Nat} (h : Pr w ub rb sh rd ck a b c a' b' c') (hU : UseS w' ub sh rd ck x y z) (q : Bq ub w w') (k : Keep3 ub w w') : Pr w' ub rb sh rd ck x y z a' b' c' :=
  ⟨hU, (h.v.other h.y q (Ne.symm h.ne)).1, h.x.keep k, (h.v.other h.y q (Ne.symm h.ne)).2, h.ne⟩
theorem Pr.onV {w w' : World} {ub rb : Nat} {sh rd ck : List Int} {a b c a' b' c' x y z : Nat} (h : Pr w ub rb sh rd ck a b c a' b' c') (hV : RUse w' rb sh rd ck x y z) (q : Bq rb w w') (k : KeepR rb w w') : Pr w' ub rb sh rd ck a b c x y z :=
  ⟨(h.u.other h.x q h.ne).1, hV, (h.u.other h.x q h.ne).2, h.y.keep k, h.ne⟩
/-- .. where the first is copied. -/
theorem Pr.copy {w w' : World} {ub rb ob : Nat} {sh rd ck : List Int} {a b c a' b' c' : Nat} (h : Pr w ub rb sh rd ck a b c a' b' c') (hb : w.heap.size ≤ ob) (g : Bw w w') (hU : UseS w' ob sh rd ck a b c) (hF : FarU w' ob w.heap.size) : Pr w' ob rb sh rd ck a b c a' b' c' :=
  ⟨hU, h.v.bw g, fun j v hj e => (hF j v hj e).to h.v.lt, (h.v.farR hb).keep ((KeepR.refl _ _).bw h.v.lt g), by have := h.v.lt; omega⟩
end Go.Proofs.Ytldapnefhlmdiaa
