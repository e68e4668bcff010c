/- LAYER 9's walks: Bytes. -/
import Derived.Test.YtaepjlaegldkhaaFeeW6
import Derived.Test.YtaepjlaegldkhaaAppC
namespace Go.Proofs.Ytaepjlaegldkhaa
open Go.ChangeShapes Go.WideShapes Go.ChangeAt Go.RowKit

/-- The next n bytes, then noughts; how many of them are told. -/
def Fee.cnt (rd : List Int) (b n : Nat) : Nat := min (rd.length - b) n
def Fee.bytes (rd : List Int) (b n : Nat) : List Int := (rd.drop b).take (Fee.cnt rd b n) ++ (List.replicate n 0).drop (Fee.cnt rd b n)
theorem Fee.bytes_len (rd : List Int) (b n : Nat) : (Fee.bytes rd b n).length = n := by
  unfold Fee.bytes Fee.cnt
  simp
  omega
theorem Own8.q {w0 w w' : World} {v : Value} {l : List Int} {pb : Nat} (h : Own8 w0 w v l) (hp : pb < w0.heap.size) (k : Bq pb w w') : Own8 w0 w' v l := by
  rcases h with h | ⟨g, cap, rfl, h1, h2, h3, h4, h5, h6⟩
  · exact Or.inl h
  · have hb := k.block g h2 (by omega)
    refine Or.inr ⟨g, cap, rfl, h1, Nat.lt_of_lt_of_le h2 k.b0.size, h3, h4, fun j x hx => ?_, fun j hj => ?_⟩
    · rw [cell_block (p := ⟨g, j, none⟩) hb]; exact h5 j x hx
    · rw [cell_block (p := ⟨g, j, none⟩) hb, frozen_block (p := ⟨g, j, none⟩) hb]; exact h6 j hj
set_option maxHeartbeats 2000000 in
theorem slice_from (q : Option Addr) (n cap b : Nat) (hb : b ≤ n) (hn : n ≤ cap) : ∃ q', (∀ w, (Instr.slice 25 (.slice q n cap) (some (.int .i64 (b : Int))) none none).run Try.prog w = .ok (.slice q' (n - b) (cap - b)) w) ∧ ∀ b' o, q = some ⟨b', o, none⟩ → b < n → q' = some ⟨b', o + b, none⟩ := by
  have hu := run_underlying (P := Try.prog) Try.underlying25
  obtain ⟨i, hi, he⟩ := Option.map_eq_some_iff.1 info8
  have hs8 : i.size = 1 := by simp only [Prod.mk.injEq] at he; exact he.2.1
  cases q with
  | none =>
    refine ⟨none, fun w => ?_, fun b' o h => by simp at h⟩
    simp [Instr.slice, go_sem, hu, sizeOf, typeInfo, hi]
    intro h; omega
  | some a0 =>
    by_cases hcap : cap = b
    · subst hcap
      refine ⟨some a0, fun w => ?_, fun b' o h h2 => by omega⟩
      simp [Instr.slice, go_sem, hu, sizeOf, typeInfo, hi, hs8]
      omega
    · refine ⟨some (a0.add b), fun w => ?_, fun b' o h _ => by simp at h; rw [h, Addr.add_lit]⟩
      simp [Instr.slice, go_sem, hu, sizeOf, typeInfo, hi, hs8, hcap]
      omega
/-- The copy that Bytes makes. -/
theorem bytes_copy {w w1 : World} {rd : List Int} {b n : Nat} (hO : Own8 w w1 (.slice (some ⟨w.heap.size, 0, none⟩) n n) (List.replicate n 0)) (hb : Bw w w1) {q : Option Addr} {cap : Nat} (hR : Rd8 w (.slice q rd.length cap) rd) (lb : b ≤ rd.length) {q' : Option Addr} (hq : ∀ b' o, q = some ⟨b', o, none⟩ → b < rd.length → q' = some ⟨b', o + b, none⟩) :
    ∃ w2, (Builtin.copy_ #[25, 25] 3 #[.slice (some ⟨w.heap.size, 0, none⟩) n n, .slice q' (rd.length - b) (cap - b)]).run Try.prog w1.drew = .ok (goInt (Fee.cnt rd b n)) w2 ∧ Own8 w w2 (.slice (some ⟨w.heap.size, 0, none⟩) n n) (Fee.bytes rd b n) ∧ Bw w w2 := by
  have hb2 : Bw w w1.drew := hb.drew
  unfold Fee.bytes
  by_cases hm : 0 < Fee.cnt rd b n
  · have hbl : b < rd.length ∧ 0 < n := by unfold Fee.cnt at hm; omega
    obtain ⟨q1, cap1, e1, hc1, hc2, hcell⟩ := hR.open
    simp at e1
    obtain ⟨rfl, rfl⟩ := e1
    obtain ⟨b', o, rfl, hb'lt, hcc⟩ := hcell (by omega)
    obtain rfl := hq _ _ rfl hbl.1
    have hlen : ((rd.drop b).take (Fee.cnt rd b n)).length = Fee.cnt rd b n := by rw [List.length_take, List.length_drop]; unfold Fee.cnt; omega
    obtain ⟨hcp, hO2, hB2⟩ := cp8 (l := List.replicate n 0) (by rw [List.length_replicate]; exact hO.bw (Bw.refl w1).drew) ⟨b', o + b, none⟩ (rd.length - b) (cap - b) ((rd.drop b).take (Fee.cnt rd b n)) (by rw [List.length_replicate, hlen]; rfl) (fun j x hx => by
      rw [Addr.add_lit, Nat.add_assoc]
      have hj : j < Fee.cnt rd b n := by have := (List.getElem?_eq_some_iff.1 hx).1; rw [hlen] at this; exact this
      rw [List.getElem?_take_of_lt hj, List.getElem?_drop] at hx
      exact hb2.keep (hcc _ _ hx)) 3
    rw [hlen] at hcp hO2
    rw [List.length_replicate] at hcp hO2
    exact ⟨_, hcp, hO2, hB2 (Nat.le_refl _) hb2⟩
  · have hm0 : Fee.cnt rd b n = 0 := by omega
    rw [hm0]
    exact ⟨_, run_copy_none (P := Try.prog) w1.drew 25 25 3 5 _ _ _ _ _ _ Try.underlying25 sz8 hm0, by simpa using hO.bw (Bw.refl w1).drew, hb2⟩
end Go.Proofs.Ytaepjlaegldkhaa
