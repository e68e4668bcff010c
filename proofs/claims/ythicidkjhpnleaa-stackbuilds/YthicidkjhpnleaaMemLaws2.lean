/- THE LAWS OF LAYER 3: rows of bytes in a law's hands. -/
import Derived.Test.YthicidkjhpnleaaMemLaws
import Derived.Test.YthicidkjhpnleaaMemPut
namespace Go.Proofs.Ythicidkjhpnleaa
open Go.ChangeShapes Go.WideShapes Go.ChangeAt Go.RowKit
set_option linter.unusedSimpArgs false
set_option linter.unusedVariables false

section
variable {w0 w w1 : World} {mb N : Nat} {S : MS}
theorem Read_hy (h : Has w0 w mb N S) (a : Int) (n : Nat) (ha : U4 a) (hn : n ≤ 4096) (hm : May S a n 1) :
    Calls Try.prog 16 #[.pointer (some ⟨mb, 0, none⟩), .int .u32 a, .int .i64 n] w fun e w' => ∃ v, e = .returned (.tuple #[v, .int .i64 0]) ∧ Gr w w' ∧ Has w0 w' mb N S ∧ w'.ownsRow 0 5 1 v n (S.bytes a n) ∧ ∀ g, v.ownBlock = some g → w.heap.size ≤ g := by
  have h' := h
  obtain ⟨F, g, hF, L, o⟩ := h
  exact (Read_ok o a n ha hn hm).mono (fun e w' ⟨h1, v, h2, h3, h4⟩ => ⟨v, h2, h1, h'.on h1, h3, h4⟩)
theorem Read_hn (h : Has w0 w mb N S) (a : Int) (n : Nat) (ha : U4 a) (hn : n ≤ 4096) (hm : ¬ May S a n 1) :
    Calls Try.prog 16 #[.pointer (some ⟨mb, 0, none⟩), .int .u32 a, .int .i64 n] w fun e w' => e = .returned (.tuple #[.slice none 0 0, .int .i64 8]) ∧ Gr w w' ∧ Has w0 w' mb N S := by
  have h' := h
  obtain ⟨F, g, hF, L, o⟩ := h
  exact (Read_no o a n ha hn hm).mono (fun e w' ⟨h1, h2⟩ => ⟨h1, h2, h'.on h2⟩)
theorem Write_hy (h : Has w0 w mb N S) (g1 : Gr w w1) (a : Int) (n : Nat) (ha : U4 a) (hn0 : 0 < n) (hn : n ≤ 4096) (hm : May S a n 2) (bb bo cap : Nat) (bs : Nat → Int) (hcap : n ≤ cap)
    (hbs : ∀ i, i < n → w1.cell? ⟨bb, bo + i, none⟩ = some (.int .u8 (bs i))) (hb8 : ∀ i, 0 ≤ bs i ∧ bs i < 256) (hbb : bb < w0.heap.size ∨ w.heap.size ≤ bb) :
    Calls Try.prog 25 #[.pointer (some ⟨mb, 0, none⟩), .int .u32 a, .slice (some ⟨bb, bo, none⟩) n cap] w1 fun e w' => e = .returned (.int .i64 0) ∧ Has w0 w' mb N (S.put a n bs) := by
  obtain ⟨F, g, hF, L, o⟩ := h
  refine Write_of a _ n cap 0 _ ((put_ok (o.gr g1) a n 2 4096 ha hn0 (by omega) (by omega) hm bb bo cap bs hcap hbs hb8 (fun x => ?_)).mono (fun e w' ⟨h1, h2, h3⟩ => ⟨h1, F, Has.step (g.trans g1) hF h2, hF, L, h3⟩))
  rcases hbb with hbb | hbb
  · have := hF _ x; omega
  · have := o.lt _ x; omega
theorem Write_hn (h : Has w0 w mb N S) (a : Int) (n : Nat) (ha : U4 a) (hn : n ≤ 4096) (hm : ¬ May S a n 2) (q : Option Addr) (cap : Nat) :
    Calls Try.prog 25 #[.pointer (some ⟨mb, 0, none⟩), .int .u32 a, .slice q n cap] w fun e w' => e = .returned (.int .i64 8) ∧ Has w0 w' mb N S := by
  have h' := h
  obtain ⟨F, g, hF, L, o⟩ := h
  exact Write_of a _ n cap 8 _ ((put_no o a n 2 4096 ha (by omega) (by omega) hm q cap).mono (fun e w' ⟨h1, h2⟩ => ⟨h1, h'.on h2⟩))
theorem Write_h0 (h : Has w0 w mb N S) (a : Int) (ha : U4 a) (q : Option Addr) (cap : Nat) :
    Calls Try.prog 25 #[.pointer (some ⟨mb, 0, none⟩), .int .u32 a, .slice q 0 cap] w fun e w' => e = .returned (.int .i64 0) ∧ Has w0 w' mb N S := by
  have h' := h
  obtain ⟨F, g, hF, L, o⟩ := h
  exact Write_of a _ 0 cap 0 _ ((put_empty o a 2 4096 ha q cap (by omega)).mono (fun e w' ⟨h1, h2⟩ => ⟨h1, h'.on h2⟩))
end
theorem may_one {S : MS} {a need : Int} (h : a < 4294967296) : May S a 1 need ↔ ∃ p, S.pg (a / 256) = some p ∧ (bits .and .i64 p.perm need == need) = true := by
  have h0 : 0 ≤ a % 256 ∧ a % 256 < 256 := by omega
  have hc : cnt a 1 = 1 := by unfold cnt; rw [if_neg (by omega)]; omega
  unfold May
  rw [hc]
  constructor
  · rintro ⟨_, h2⟩
    have := h2 0 (by omega)
    unfold MayAt at this
    simpa using this
  · rintro h2
    refine ⟨by omega, fun j hj => ?_⟩
    obtain rfl : j = 0 := by omega
    unfold MayAt
    simpa using h2
end Go.Proofs.Ythicidkjhpnleaa
