/- THE LAWS OF LAYER 3: the other calls in a law's hands. -/
import Derived.Test.YtlnfgdbondmglaaMemLaws2
import Derived.Test.YtlnfgdbondmglaaMemUnmap
namespace Go.Proofs.Ytlnfgdbondmglaa
open Go.ChangeShapes Go.WideShapes Go.ChangeAt Go.RowKit
set_option linter.unusedSimpArgs false
set_option linter.unusedVariables false

section
variable {w0 w : World} {mb N : Nat} {S : MS}
theorem Protect_h1 (h : Has w0 w mb N S) (a n perm : Int) (ha : U4 a) (hn : U4 n) (hs : ¬ StOk a n ∨ ¬ (0 ≤ perm ∧ perm ≤ 7)) :
    Calls Try.prog 17 #[.pointer (some ⟨mb, 0, none⟩), .int .u32 a, .int .u32 n, .int .i64 perm] w fun e w' => e = .returned (.int .i64 1) ∧ Has w0 w' mb N S :=
  (Protect_bad a n perm ha hn hs).mono (fun e w' ⟨h1, h2⟩ => ⟨h1, h.on h2⟩)
theorem Protect_h4 (h : Has w0 w mb N S) (a n perm : Int) (ha : U4 a) (hn : U4 n) (hs : StOk a n) (hp : 0 ≤ perm ∧ perm ≤ 7) (c : Nat) (hc : (n + 255) / 256 = c) (hne : lb S.th (a / 256 + c) ≠ lb S.th (a / 256) + c) :
    Calls Try.prog 17 #[.pointer (some ⟨mb, 0, none⟩), .int .u32 a, .int .u32 n, .int .i64 perm] w fun e w' => e = .returned (.int .i64 4) ∧ Has w0 w' mb N S := by
  have h' := h
  obtain ⟨F, g, hF, L, o⟩ := h
  exact (Protect_none o a n perm ha hn hs hp c hc _ rfl _ _ rfl rfl hne).mono (fun e w' ⟨h1, h2⟩ => ⟨h1, h'.on h2⟩)
theorem Protect_h0 (h : Has w0 w mb N S) (a n perm : Int) (ha : U4 a) (hn : U4 n) (hs : StOk a n) (hp : 0 ≤ perm ∧ perm ≤ 7) (c : Nat) (hc : (n + 255) / 256 = c) (he : lb S.th (a / 256 + c) = lb S.th (a / 256) + c) :
    Calls Try.prog 17 #[.pointer (some ⟨mb, 0, none⟩), .int .u32 a, .int .u32 n, .int .i64 perm] w fun e w' => e = .returned (.int .i64 0) ∧ Has w0 w' mb N (S.prot (stl S.th (a / 256) c) perm) := by
  obtain ⟨F, g, hF, L, o⟩ := h
  exact (Protect_ok o a n perm ha hn hs hp c hc _ rfl _ rfl he).mono (fun e w' ⟨h1, h2, h3⟩ => ⟨h1, F, Has.step g hF h2, hF, L, h3⟩)
theorem Unmap_h (h : Has w0 w mb N S) (a n : Int) (ha : U4 a) (hn : U4 n) (hs : StOk a n) (c : Nat) (hc : (n + 255) / 256 = c) (hN : N + 4096 < maxLen) :
    Calls Try.prog 21 #[.pointer (some ⟨mb, 0, none⟩), .int .u32 a, .int .u32 n] w fun e w' => e = .returned (.int .i64 0) ∧ Has w0 w' mb (N + 4096) (S.unmap (a / 256) c) := by
  obtain ⟨F, g, hF, L, o⟩ := h
  exact (Unmap_ok o a n ha hn hs c hc _ rfl hN).mono (fun e w' ⟨h1, h2, h3⟩ => ⟨h1, F, Has.step g hF h2, hF, h3⟩)
theorem Perm_h (h : Has w0 w mb N S) (a : Int) (ha : U4 a) :
    Calls Try.prog 19 #[.pointer (some ⟨mb, 0, none⟩), .int .u32 a] w fun e w' => e = .returned (.tuple #[.int .i64 (S.permOf a), .bool (S.pg (a / 256)).isSome]) ∧ w' = w := by
  obtain ⟨F, g, hF, L, o⟩ := h
  exact Perm_c o a ha
theorem Gen_h (h : Has w0 w mb N S) (a : Int) (ha : U4 a) :
    Calls Try.prog 20 #[.pointer (some ⟨mb, 0, none⟩), .int .u32 a] w fun e w' => e = .returned (.int .u32 (S.gen a)) ∧ w' = w := by
  obtain ⟨F, g, hF, L, o⟩ := h
  exact Gen_c o a ha
theorem Pages_h (h : Has w0 w mb N S) :
    Calls Try.prog 22 #[.pointer (some ⟨mb, 0, none⟩)] w fun e w' => e = .returned (.slice (some ⟨w.heap.size, 0, none⟩) S.th.length S.th.length) ∧ Has w0 w' mb N S := by
  have h' := h
  obtain ⟨F, g, hF, L, o⟩ := h
  exact (Pages_c o).mono (fun e w' ⟨h1, h2, h3⟩ => ⟨h1, h'.on h2⟩)
end
theorem mapS_no {S : MS} {a n perm : Int} (h : S.mapE a n perm ≠ 0) : S.mapS a n perm = S := by
  unfold MS.mapS; rw [if_neg h]
theorem Map_hn {w0 w : World} {mb N : Nat} {S : MS} (h : Has w0 w mb N S) (a n perm x : Int) (ha : U4 a) (hn : U4 n) (hN : N + 4096 < maxLen) (hx : S.mapE a n perm = x) (h0 : x ≠ 0) :
    Calls Try.prog 13 #[.pointer (some ⟨mb, 0, none⟩), .int .u32 a, .int .u32 n, .int .i64 perm] w fun e w' => e = .returned (.int .i64 x) ∧ Has w0 w' mb (N + 4096) S := by
  subst hx
  have := Map_h h a n perm ha hn hN (fun e => absurd e h0)
  rw [mapS_no h0] at this
  exact this
end Go.Proofs.Ytlnfgdbondmglaa
