/- LAYER 9's walks: Bytes. -/
import Derived.Test.YtldapnefhlmdiaaFeeW6
import Derived.Test.YtldapnefhlmdiaaAppC
namespace Go.Proofs.Ytldapnefhlmdiaa
open Go.ChangeShapes Go.WideShapes Go.ChangeAt Go.RowKit

/-- The next n bytes, then noughts; how many of them are told. -/
def Fee.cnt (rd : List Int) (b n : Nat) : Nat := min (rd.length - b) n
def Fee.bytes (rd : List Int) (b n : Nat) : List Int := (rd.drop b).take (Fee.cnt rd b n) ++ (List.replicate n 0).drop (Fee.cnt rd b n)
theorem Fee.bytes_len (rd : List Int) (b n : Nat) : (Fee.bytes rd b n).length = n := by
  unfold Fee.bytes Fee.cnt
  simp
  omega
theorem Own8.q {w0 w w' : World} {v : Value} {l : List Int} {pb : Nat} (h : Own8 w0 w v l) (hp : pb < w0.heap.size) (k : Bq pb w w') : Own8 w0 w' v l := by
  rcases h with h | ⟨g, cap, rfl, h1, h2, h3, h4, h5, h6⟩
  · exact Or.inl h
  · have hb := k.block g h2 (by omega)
    refine Or.inr ⟨g, cap, rfl, h1, Nat.lt_of_lt_of_le h2 k.b0.size, h3, h4, fun j x hx => ?_, fun j hj => ?_⟩
    · rw [cell_block (p := ⟨g, j, none⟩) hb]; exact h5 j x hx
    · rw [cell_block (p := ⟨g, j, none⟩) hb, frozen_block (p := ⟨g, j, none⟩) hb]; exact h6 j hj
set_option maxHeartbeats 2000000 in
theorem slice_from (q : Option Addr) (n cap b : Nat) (hb : b ≤ n) (hn : n ≤ cap) : ∃ q', (∀ w, (Instr.slice 24 (.slice q n cap) (some (.int .i64 (b : Int))) none none).run Try.prog w = .ok (.slice q' (n - b) (cap - b)) w) ∧ ∀ b' o, q = some ⟨b', o, none⟩ → b < n → q' = some ⟨b', o + b, none⟩ := by
  have hu := run_underlying (P := Try.prog) Try.underlying24
  obtain ⟨i, hi, he⟩ := Option.map_eq_some_iff.1 info8
  have hs8 : i.size = 1 := by simp only [Prod.mk.injEq] at he; exact he.2.1
  cases q with
  | none =>
    refine ⟨none, fun w => ?_, fun b' o h => by simp at h⟩
    simp [Instr.slice, go_sem, hu, sizeOf, typeInfo, hi]
    intro h; omega
  | some a0 =>
    by_cases hcap : cap = b
    · subst hcap
      refine ⟨some a0, fun w => ?_, fun b' o h h2 => by omega⟩
      simp [Instr.slice, go_sem, hu, sizeOf, typeInfo, hi, hs8]
      omega
    · refine ⟨some (a0.add b), fun w => ?_, fun b' o h _ => by simp at h; rw [h, Addr.add_lit]⟩
      simp [Instr.slice, go_sem, hu, sizeOf, typeInfo, hi, hs8, hcap]
      omega
/-- The copy that Bytes makes. -/
theorem bytes_copy {w w1 : World} {rd : List Int} {b n : Nat} (hO : Own8 w w1 (.slice (some ⟨w.heap.size, 0, none⟩) n n) (List.replicate n 0)) (hb : Bw w w1) {q : Option Addr} {cap : Nat} (hR : Rd8 w (.slice q rd.length cap) rd) (lb : b ≤ rd.length) {q' : Option Addr} (hq : ∀ b' o, q = some ⟨b', o, none⟩ → b < rd.length → q' = some ⟨b', o + b, none⟩) :
    ∃ w2, (Builtin.copy_ #[24, 24] 3 #[.slice (some ⟨w.heap.size, 0, none⟩) n n, .slice q' (rd.length - b) (cap - b)]).run Try.prog w1.drew = .ok (goInt (Fee.cnt rd b n)) w2 ∧ Own8 w w2 (.slice (some ⟨w.heap.size, 0, none⟩) n n) (Fee.bytes rd b n) ∧ Bw w w2 := by
  have hb2 : Bw w w1.drew := hb.drew
  unfold Fee.bytes
  by_cases hm : 0 < Fee.cnt rd b n
  · have hbl : b < rd.length ∧ 0 < n := by unfold Fee.cnt at hm; omega
    obtain ⟨q1, cap1, e1, hc1, hc2, hcell⟩ := hR.open
    simp at e1
    obtain ⟨rfl, rfl⟩ := e1
    obtain ⟨b', o, rfl, hb'lt, hcc⟩ := hcell (by omega)
    obtain rfl := hq _ _ rfl hbl.1
    have hlen : ((rd.drop b).take (Fee.cnt rd b n)).length = Fee.cnt rd b n := by rw [List.length_take, List.length_drop]; unfold Fee.cnt; omega
    obtain ⟨hcp, hO2, hB2⟩ := cp8 (l := List.replicate n 0) (by rw [List.length_replicate]; exact hO.bw (Bw.refl w1).drew) ⟨b', o + b, none⟩ (rd.length - b) (cap - b) ((rd.drop b).take (Fee.cnt rd b n)) (by rw [List.length_replicate, hlen]; rfl) (fun j x hx => by
      rw [Addr.add_lit, Nat.add_assoc]
      have hj : j < Fee.cnt rd b n := by have := (List.getElem?_eq_some_iff.1 hx).1; rw [hlen] at this; exact this
      rw [List.getElem?_take_of_lt hj, List.getElem?_drop] at hx
      exact hb2.keep (hcc _ _ hx)) 3
    rw [hlen] at hcp hO2
    rw [List.length_replicate] at hcp hO2
    exact ⟨_, hcp, hO2, hB2 (Nat.le_refl _) hb2⟩
  · have hm0 : Fee.cnt rd b n = 0 := by omega
    rw [hm0]
    exact ⟨_, run_copy_none (P := Try.prog) w1.drew 24 24 3 5 _ _ _ _ _ _ Try.underlying24 sz8 hm0, by simpa using hO.bw (Bw.refl w1).drew, hb2⟩
set_option maxHeartbeats 2000000 in
set_option maxRecDepth 100000 in
theorem Bytes_c (w : World) (ub : Nat) (sh rd ck : List Int) (a b c : Nat) (h : UseS w ub sh rd ck a b c) (n : Nat) (hn : n ≤ 4096) :
    Calls Try.prog 13 #[.pointer (some ⟨ub, 0, none⟩), .int .i64 n] w fun e w' => ∃ v, e = .returned v ∧ Own8 w w' v (Fee.bytes rd b n) ∧ UseS w' ub sh rd ck a (b + Fee.cnt rd b n) c ∧ Bq ub w w' ∧ Keep3 ub w w' := by
  have hub := h.lt
  obtain ⟨w1, hmk, hO1, hb1⟩ := mk8 w n (by omega)
  obtain ⟨⟨vs, vr, vc, hb, hS, hR, hC, f1, f2, f3⟩, la, lb, lc⟩ := h
  obtain ⟨q, cap, rfl, hc1, hc2, -⟩ := hR.open
  have hni : (n : Int) ≤ 4096 := by omega
  have hg : ub ≠ w.heap.size := by omega
  obtain ⟨q', hsl, hq'⟩ := slice_from q rd.length cap b lb hc1
  obtain ⟨w2, hcp, hO2, hB⟩ := bytes_copy hO1 hb1 hR lb hq'
  have hx1 := hb.bw hb1
  have hx2 := hb.bw hB
  have p1 := hx1.c 1 _ rfl; have p4 := hx1.c 4 _ rfl
  have y1 := hx2.c 1 _ rfl; have y4 := hx2.c 4 _ rfl; have y4f := hx2.f 4 (by simp)
  have hml : b + Fee.cnt rd b n ≤ rd.length := by unfold Fee.cnt; omega
  generalize Fee.cnt rd b n = m at *
  have hbx := hx2.set 4 (by simp) (.int .i64 ((b : Int) + (m : Int)))
  have hwr : IntKind.i64.wrap ((b : Int) + (m : Int)) = (b : Int) + (m : Int) := by rw [IntKind.wrap_i64]; omega
  have hq : Bq ub w2 (w2.setCell ⟨ub, 4, none⟩ (.int .i64 ((b : Int) + (m : Int)))) := (Bq.refl _ _).set 4 _
  have HFin : Hid (Own8 w (w2.setCell ⟨ub, 4, none⟩ (.int .i64 ((b : Int) + (m : Int)))) (.slice (some ⟨w.heap.size, 0, none⟩) n n) (Fee.bytes rd b n) ∧ UseS (w2.setCell ⟨ub, 4, none⟩ (.int .i64 ((b : Int) + (m : Int)))) ub sh rd ck a (b + m) c ∧ Bq ub w (w2.setCell ⟨ub, 4, none⟩ (.int .i64 ((b : Int) + (m : Int)))) ∧ Keep3 ub w (w2.setCell ⟨ub, 4, none⟩ (.int .i64 ((b : Int) + (m : Int))))) :=
    ⟨hO2.q hub hq, ⟨⟨vs, _, vc, hbx, RdR.q (RdR.bw hS hB) hq f1, RdR.q (Rd8.bw hR hB) hq f2, RdR.q (RdR.bw hC hB) hq f3, f1, f2, f3⟩, la, hml, lc⟩, ((Bq.refl _ _).bw hB).trans hq, ((Keep3.refl _ _).bw hub hB).set 4 (by omega) _⟩
  clear hx1 hx2 hbx hq hO2 hO1 hS hR hC hb f1 f2 f3 hq' hB
  go_enter Try.func13, Try.ntmps13
  go_wp2_with fail
  go_region_law (refine step_copy_eq rfl (.tmp 18) (.tmp 27) 24 rfl (by simp [Act.eval, Act.put]; done) (by simp [Act.eval, Act.put]; done) hcp ?_)
  all_goals (go_wp2_with fail; go_returns; exact ⟨_, rfl, HFin⟩)
end Go.Proofs.Ytldapnefhlmdiaa
