/- LABELS IN BOXES: what lies there stays there. -/
import Derived.Test.YtcpgfogijdmaoaaBase
namespace Go.Proofs.Ytcpgfogijdmaoaa
open Go.RowKit
theorem Gr.drop {w w1 : World} {c : Array Value} {t : TypeId} (h : Gr (w.alloc (.cells c t)) w1) : Gr w w1 := ((Gr.refl w).alloc c t).trans h
theorem Gr.undrew {w w1 : World} (h : Gr w.drew w1) : Gr w w1 := (Gr.refl w).drew.trans h
theorem froz1 {w w1 : World} {c : Array Value} {T : TypeId} (h : Gr (w.alloc (.cells c T)) w1) (o : Nat) : w1.frozen? ⟨w.heap.size, o, none⟩ = false := by
  rw [h.f]; exact World.frozen?_alloc_new w c T o
theorem box1 {w w1 : World} {T : TypeId} {s0 s1 s2 s3 : Int} (h : Gr (w.alloc (.cells #[.int .u8 s0, .int .u8 s1, .int .u8 s2, .int .u8 s3] T)) w1) : w1.cell? ⟨w.heap.size, 0, none⟩ = some (.int .u8 s0) ∧ w1.cell? ⟨w.heap.size, 1, none⟩ = some (.int .u8 s1) ∧ w1.cell? ⟨w.heap.size, 2, none⟩ = some (.int .u8 s2) ∧ w1.cell? ⟨w.heap.size, 3, none⟩ = some (.int .u8 s3) := by
  refine ⟨?_, ?_, ?_, ?_⟩ <;> (apply h.keep; simp [go_sem])
theorem box2 {w w1 : World} {T U : TypeId} {s0 s1 s2 s3 t0 t1 t2 t3 : Int} (h : Gr ((w.alloc (.cells #[.int .u8 s0, .int .u8 s1, .int .u8 s2, .int .u8 s3] T)).alloc (.cells #[.int .u8 t0, .int .u8 t1, .int .u8 t2, .int .u8 t3] U)) w1) : w1.cell? ⟨w.heap.size, 0, none⟩ = some (.int .u8 s0) ∧ w1.cell? ⟨w.heap.size, 1, none⟩ = some (.int .u8 s1) ∧ w1.cell? ⟨w.heap.size, 2, none⟩ = some (.int .u8 s2) ∧ w1.cell? ⟨w.heap.size, 3, none⟩ = some (.int .u8 s3) ∧ w1.cell? ⟨w.heap.size + 1, 0, none⟩ = some (.int .u8 t0) ∧ w1.cell? ⟨w.heap.size + 1, 1, none⟩ = some (.int .u8 t1) ∧ w1.cell? ⟨w.heap.size + 1, 2, none⟩ = some (.int .u8 t2) ∧ w1.cell? ⟨w.heap.size + 1, 3, none⟩ = some (.int .u8 t3) := by
  obtain ⟨a0, a1, a2, a3⟩ := box1 h.drop
  obtain ⟨b0, b1, b2, b3⟩ := box1 h
  simp only [World.size_alloc] at b0 b1 b2 b3
  exact ⟨a0, a1, a2, a3, b0, b1, b2, b3⟩
theorem box3 {w w1 : World} {T U V : TypeId} {s0 s1 s2 s3 t0 t1 t2 t3 u0 u1 u2 u3 : Int} (h : Gr (((w.alloc (.cells #[.int .u8 s0, .int .u8 s1, .int .u8 s2, .int .u8 s3] T)).alloc (.cells #[.int .u8 t0, .int .u8 t1, .int .u8 t2, .int .u8 t3] U)).alloc (.cells #[.int .u8 u0, .int .u8 u1, .int .u8 u2, .int .u8 u3] V)) w1) : w1.cell? ⟨w.heap.size, 0, none⟩ = some (.int .u8 s0) ∧ w1.cell? ⟨w.heap.size, 1, none⟩ = some (.int .u8 s1) ∧ w1.cell? ⟨w.heap.size, 2, none⟩ = some (.int .u8 s2) ∧ w1.cell? ⟨w.heap.size, 3, none⟩ = some (.int .u8 s3) ∧ w1.cell? ⟨w.heap.size + 1, 0, none⟩ = some (.int .u8 t0) ∧ w1.cell? ⟨w.heap.size + 1, 1, none⟩ = some (.int .u8 t1) ∧ w1.cell? ⟨w.heap.size + 1, 2, none⟩ = some (.int .u8 t2) ∧ w1.cell? ⟨w.heap.size + 1, 3, none⟩ = some (.int .u8 t3) ∧ w1.cell? ⟨w.heap.size + 1 + 1, 0, none⟩ = some (.int .u8 u0) ∧ w1.cell? ⟨w.heap.size + 1 + 1, 1, none⟩ = some (.int .u8 u1) ∧ w1.cell? ⟨w.heap.size + 1 + 1, 2, none⟩ = some (.int .u8 u2) ∧ w1.cell? ⟨w.heap.size + 1 + 1, 3, none⟩ = some (.int .u8 u3) := by
  obtain ⟨a0, a1, a2, a3, b0, b1, b2, b3⟩ := box2 h.drop
  obtain ⟨c0, c1, c2, c3⟩ := box1 h
  simp only [World.size_alloc] at c0 c1 c2 c3
  exact ⟨a0, a1, a2, a3, b0, b1, b2, b3, c0, c1, c2, c3⟩
theorem held3r {w w1 : World} {T U V : TypeId} {s0 s1 s2 s3 t0 t1 t2 t3 u0 u1 u2 u3 : Int} (h : Gr (((w.alloc (.cells #[.int .u8 s0, .int .u8 s1, .int .u8 s2, .int .u8 s3] T)).alloc (.cells #[.int .u8 t0, .int .u8 t1, .int .u8 t2, .int .u8 t3] U)).alloc (.cells #[.int .u8 u0, .int .u8 u1, .int .u8 u2, .int .u8 u3] V)) w1) : w1.cell? ⟨w.heap.size, 0, none⟩ = some (.int .u8 s0) ∧ w1.cell? ⟨w.heap.size, 1, none⟩ = some (.int .u8 s1) ∧ w1.cell? ⟨w.heap.size, 2, none⟩ = some (.int .u8 s2) ∧ w1.cell? ⟨w.heap.size, 3, none⟩ = some (.int .u8 s3) ∧ w1.cell? ⟨w.heap.size + 1, 0, none⟩ = some (.int .u8 t0) ∧ w1.cell? ⟨w.heap.size + 1, 1, none⟩ = some (.int .u8 t1) ∧ w1.cell? ⟨w.heap.size + 1, 2, none⟩ = some (.int .u8 t2) ∧ w1.cell? ⟨w.heap.size + 1, 3, none⟩ = some (.int .u8 t3) ∧ w1.cell? ⟨w.heap.size + 1 + 1, 0, none⟩ = some (.int .u8 u0) ∧ w1.cell? ⟨w.heap.size + 1 + 1, 1, none⟩ = some (.int .u8 u1) ∧ w1.cell? ⟨w.heap.size + 1 + 1, 2, none⟩ = some (.int .u8 u2) ∧ w1.cell? ⟨w.heap.size + 1 + 1, 3, none⟩ = some (.int .u8 u3) ∧ w1.frozen? ⟨w.heap.size + 1 + 1, 0, none⟩ = false ∧ w1.frozen? ⟨w.heap.size + 1 + 1, 1, none⟩ = false ∧ w1.frozen? ⟨w.heap.size + 1 + 1, 2, none⟩ = false ∧ w1.frozen? ⟨w.heap.size + 1 + 1, 3, none⟩ = false := by
  obtain ⟨a0, a1, a2, a3, b0, b1, b2, b3, c0, c1, c2, c3⟩ := box3 h
  have f := froz1 h
  simp only [World.size_alloc] at f
  exact ⟨a0, a1, a2, a3, b0, b1, b2, b3, c0, c1, c2, c3, f 0, f 1, f 2, f 3⟩
end Go.Proofs.Ytcpgfogijdmaoaa
