/- A MEMORY in a law's hands where all that is known of the world is that old blocks stand (Bw): its blocks are the law's own and none of P. -/
import Derived.Test.YthicidkjhpnleaaMemLaws2
import Derived.Test.YthicidkjhpnleaaMemW8
import Derived.Test.YthicidkjhpnleaaBoxQ
namespace Go.Proofs.Ythicidkjhpnleaa
open Go.ChangeShapes Go.WideShapes Go.ChangeAt Go.RowKit
set_option linter.unusedVariables false

def HasB (w0 w : World) (mb N : Nat) (S : MS) (P : Nat → Prop) : Prop := ∃ F, Bw w0 w ∧ (∀ i, F i → w0.heap.size ≤ i ∧ ¬ P i) ∧ Own w mb F N S
/-- P's blocks are as they were. -/
def Kp (P : Nat → Prop) (w w' : World) : Prop := w.heap.size ≤ w'.heap.size ∧ ∀ i, i < w.heap.size → P i → w'.heap[i]? = w.heap[i]?
theorem Kp.refl (P : Nat → Prop) (w : World) : Kp P w w := ⟨Nat.le_refl _, fun _ _ _ => rfl⟩
theorem Kp.trans {P : Nat → Prop} {a b c : World} (h : Kp P a b) (k : Kp P b c) : Kp P a c := ⟨Nat.le_trans h.1 k.1, fun i hi hp => (k.2 i (Nat.lt_of_lt_of_le hi h.1) hp).trans (h.2 i hi hp)⟩
theorem Kp.mono {P Q : Nat → Prop} {a b : World} (h : Kp P a b) (hq : ∀ i, Q i → P i) : Kp Q a b := ⟨h.1, fun i hi hp => h.2 i hi (hq i hp)⟩
theorem Kp.bw {P : Nat → Prop} {a b : World} (h : Bw a b) : Kp P a b := ⟨h.size, fun i hi _ => Below.block h i hi⟩
theorem Fr.toBw {F : Nat → Prop} {w0 w w' : World} (fr : Fr F w w') (g : Bw w0 w) (hF : ∀ i, F i → w0.heap.size ≤ i) : Bw w0 w' :=
  Below.trans g ⟨fr.os, fr.tape, fr.output, fr.size, fun i hi => fr.block i (Nat.lt_of_lt_of_le hi g.size) (fun hf => by have := hF i hf; omega)⟩
theorem Fr.kp {F P : Nat → Prop} {w w' : World} (fr : Fr F w w') (hF : ∀ i, F i → ¬ P i) : Kp P w w' := ⟨fr.size, fun i hi hp => fr.block i hi (fun hf => hF i hf hp)⟩
theorem Bw.of_kp {w a b : World} (h : Bw w a) (k : Bw w b) (hk : Kp (fun i => i < a.heap.size) a b) : Bw a b :=
  ⟨k.os.trans h.os.symm, k.tape.trans h.tape.symm, k.output.trans h.output.symm, hk.1, fun i hi => hk.2 i hi hi⟩
section
variable {w0 w w1 : World} {mb N : Nat} {S : MS} {P : Nat → Prop}
theorem HasB.bw (h : HasB w0 w mb N S P) : Bw w0 w := by obtain ⟨F, g, _⟩ := h; exact g
theorem HasB.ok (h : HasB w0 w mb N S P) : S.Ok := by obtain ⟨F, _, _, o⟩ := h; exact o.ok
theorem HasB.on (h : HasB w0 w mb N S P) (g : Bw w w1) : HasB w0 w1 mb N S P := by
  obtain ⟨F, g0, hF, L, o⟩ := h
  exact ⟨F, g0.trans g, hF, L, o.congr g.size (fun i hi => Below.block g i (o.lt i hi))⟩
theorem HasB.more (h : HasB w0 w mb N S P) {Q : Nat → Prop} (hQ : ∀ i, Q i → P i ∨ w.heap.size ≤ i) : HasB w0 w mb N S Q := by
  obtain ⟨F, g0, hF, L, o⟩ := h
  refine ⟨F, g0, fun i hi => ⟨(hF i hi).1, fun hq => ?_⟩, L, o⟩
  rcases hQ i hq with h1 | h1
  · exact (hF i hi).2 h1
  · have := o.lt i hi; omega
theorem New_b (g : Bw w0 w) (n : Int) (hn : 1 ≤ n ∧ n ≤ 4096) :
    Calls Try.prog 10 #[.int .i64 n] w fun e w' => ∃ mb, e = .returned (.tuple #[.pointer (some ⟨mb, 0, none⟩), .int .i64 0]) ∧ HasB w0 w' mb 0 (MS.new n) (fun i => i < w.heap.size) ∧ Bw w w' :=
  (New_c n hn w).mono (fun _ _ ⟨mb, F, h1, h2, h3, h4⟩ => ⟨mb, h1, ⟨F, g.trans h2.b, fun i hi => ⟨Nat.le_trans g.size (h3 i hi), fun h => by have := h3 i hi; omega⟩, h4⟩, h2.b⟩)
theorem Map_b (h : HasB w0 w mb N S P) (hP : ∀ i, P i → i < w.heap.size) (a n perm : Int) (ha : U4 a) (hn : U4 n) (hN : N + 4096 < maxLen) (hI : S.mapE a n perm = 0 → InsSpec S.th (lb S.th (a / 256))) :
    Calls Try.prog 24 #[.pointer (some ⟨mb, 0, none⟩), .int .u32 a, .int .u32 n, .int .i64 perm] w fun e w' => e = .returned (.int .i64 (S.mapE a n perm)) ∧ HasB w0 w' mb (N + 4096) (S.mapS a n perm) P ∧ Kp P w w' := by
  obtain ⟨F, g, hF, o⟩ := h
  refine (Map_c o a n perm ha hn hN hI).mono (fun e w' ⟨h1, h2, h3⟩ => ⟨h1, ⟨_, h2.toBw g (fun i hi => (hF i hi).1), fun i hi => ?_, h3⟩, h2.kp (fun i hi => (hF i hi).2)⟩)
  rcases hi with hi | hi
  · exact hF i hi
  · exact ⟨Nat.le_trans g.size hi.1, fun hp => by have := hP i hp; omega⟩
theorem Load_b (h : HasB w0 w mb N S P) (a size need : Int) (ha : U4 a) :
    Calls Try.prog 17 #[.pointer (some ⟨mb, 0, none⟩), .int .u32 a, .int .i64 size, .int .i64 need] w fun e w' => e = .returned (.tuple #[.int .u32 (S.load a size need), .int .i64 (S.ask a size need)]) ∧ w' = w := by
  obtain ⟨F, g, hF, L, o⟩ := h
  exact Load_c o a size need ha
theorem Perm_b (h : HasB w0 w mb N S P) (a : Int) (ha : U4 a) :
    Calls Try.prog 12 #[.pointer (some ⟨mb, 0, none⟩), .int .u32 a] w fun e w' => e = .returned (.tuple #[.int .i64 (S.permOf a), .bool (S.pg (a / 256)).isSome]) ∧ w' = w := by
  obtain ⟨F, g, hF, L, o⟩ := h
  exact Perm_c o a ha
theorem Pages_b (h : HasB w0 w mb N S P) :
    Calls Try.prog 13 #[.pointer (some ⟨mb, 0, none⟩)] w fun e w' => e = .returned (.slice (some ⟨w.heap.size, 0, none⟩) S.th.length S.th.length) ∧ HasB w0 w' mb N S P ∧ Bw w w' := by
  have h' := h
  obtain ⟨F, g, hF, L, o⟩ := h
  exact (Pages_c o).mono (fun e w' ⟨h1, h2, h3⟩ => ⟨h1, h'.on h2.b, h2.b⟩)
theorem row_rd {e : TypeId} {sz n b0 : Nat} {cs : List Value} {w : World} {v : Value} (h : w.ownsRow b0 e sz v n cs) : RdR sz w v n cs := by
  obtain ⟨h1, h2⟩ := h
  rcases h2 with ⟨rfl, rfl⟩ | ⟨g, cap, cur, rfl, hb, hc, h4, h5, h6, h7⟩
  · exact ⟨none, 0, rfl, Nat.le_refl _, by omega, h1, fun h => by omega⟩
  · refine ⟨_, cap, rfl, h4, by unfold maxLen at h5; omega, h1, fun _ => ⟨g, 0, rfl, (Array.getElem?_eq_some_iff.1 hc).1, fun j u hu => ?_⟩⟩
    have hj : j < n * sz := by rw [← h1]; exact (List.getElem?_eq_some_iff.1 hu).1
    rw [← h7, List.getElem?_take_of_lt hj] at hu
    rw [Nat.zero_add]
    simp [World.cell?, hc] at hu ⊢
    exact hu
def MS.bs (S : MS) (a : Int) (n : Nat) : List Int := (List.range n).map fun i : Nat => S.at (a + (i : Int))
theorem Read_b (h : HasB w0 w mb N S P) (a : Int) (n : Nat) (ha : U4 a) (hn : n ≤ 4096) (hm : May S a n 1) :
    Calls Try.prog 16 #[.pointer (some ⟨mb, 0, none⟩), .int .u32 a, .int .i64 n] w fun e w' => ∃ v, e = .returned (.tuple #[v, .int .i64 0]) ∧ Bw w w' ∧ HasB w0 w' mb N S P ∧ Rd8 w' v (S.bs a n) := by
  have h' := h
  obtain ⟨F, g, hF, L, o⟩ := h
  refine (Read_ok o a n ha hn hm).mono (fun e w' ⟨h1, v, h2, h3, h4⟩ => ⟨v, h2, h1.b, h'.on h1.b, ?_⟩)
  have := row_rd h3
  unfold Rd8
  rw [show (S.bs a n).length = n by simp [MS.bs], show ints8 (S.bs a n) = S.bytes a n by simp [ints8, MS.bs, MS.bytes]]
  exact this
theorem Write_b (h : HasB w0 w mb N S P) (a : Int) (n : Nat) (ha : U4 a) (hn0 : 0 < n) (hn : n ≤ 4096) (hm : May S a n 2) (bb bo cap : Nat) (bs : Nat → Int) (hcap : n ≤ cap)
    (hbs : ∀ i, i < n → w.cell? ⟨bb, bo + i, none⟩ = some (.int .u8 (bs i))) (hb8 : ∀ i, 0 ≤ bs i ∧ bs i < 256) (hbb : P bb) :
    Calls Try.prog 25 #[.pointer (some ⟨mb, 0, none⟩), .int .u32 a, .slice (some ⟨bb, bo, none⟩) n cap] w fun e w' => e = .returned (.int .i64 0) ∧ HasB w0 w' mb N (S.put a n bs) P ∧ Kp P w w' := by
  obtain ⟨F, g, hF, L, o⟩ := h
  exact Write_of a _ n cap 0 _ ((put_ok o a n 2 4096 ha hn0 (by omega) (by omega) hm bb bo cap bs hcap hbs hb8 (fun x => (hF _ x).2 hbb)).mono (fun e w' ⟨h1, h2, h3⟩ => ⟨h1, ⟨F, h2.toBw g (fun i hi => (hF i hi).1), hF, L, h3⟩, h2.kp (fun i hi => (hF i hi).2)⟩))
end
end Go.Proofs.Ythicidkjhpnleaa
