/- Chapter 9, plain: what the reference reads is what Get reads. -/
import Derived.Test.YtmecompcffphcaaFeeGt6
namespace Go.Proofs.Ytmecompcffphcaa
open Go.ChangeShapes Go.WideShapes Go.ChangeAt Go.RowKit
set_option linter.unusedVariables false

theorem Fee.rw_short {L : List Int} (h : L.length < 4) (fl : Bool) : Fee.rw L fl = (0, [], true) := by
  match L, h with
  | [], _ => rfl
  | [_], _ => rfl
  | [_, _], _ => rfl
  | [_, _, _], _ => rfl
  | _ :: _ :: _ :: _ :: _, h => simp at h; omega
theorem Fee.rw_long {L : List Int} (h : 4 ≤ L.length) (fl : Bool) : Fee.rw L fl = ((Fee.rw L false).1, L.drop 4, fl) := by
  match L, h with
  | x0 :: x1 :: x2 :: x3 :: r, _ => rfl
  | [], h => simp at h
  | [_], h => simp at h
  | [_, _], h => simp at h
  | [_, _, _], h => simp at h
theorem Ref.num_fwd {L R : List Int} {n : Int} (h : Fee.rw L false = (n, R, false)) : Ref.num L false = (n, R, false) := by
  unfold Ref.num
  by_cases hl : L.length < 4
  · rw [Fee.rw_short hl] at h; simp at h
  · rw [if_neg (by simp; omega)]
    rw [Fee.rw_long (by omega)] at h
    exact h
theorem Ref.num_back {L R : List Int} {n : Int} {bd : Bool} (h : Ref.num L bd = (n, R, false)) : bd = false ∧ Fee.rw L false = (n, R, false) := by
  unfold Ref.num at h
  by_cases hl : bd = true ∨ L.length < 4
  · rw [if_pos hl] at h; simp at h
  · rw [if_neg hl] at h
    refine ⟨by cases bd; rfl; simp at hl, ?_⟩
    rw [Fee.rw_long (by omega)]
    exact h
theorem Ref.rn_fwd {L R : List Int} {n m : Int} (h : Fee.rn m L false = (n, R, false)) : Ref.num L false = (n, R, false) ∧ n ≤ m := by
  unfold Fee.rn at h
  by_cases hm : m < (Fee.rw L false).1
  · rw [if_pos hm] at h; simp at h
  · rw [if_neg hm] at h
    rw [h] at hm
    exact ⟨Ref.num_fwd h, by dsimp only at hm; omega⟩
theorem Ref.rn_back {L R : List Int} {n m : Int} (h : Ref.num L false = (n, R, false)) (hm : n ≤ m) : Fee.rn m L false = (n, R, false) := by
  have h1 := (Ref.num_back h).2
  unfold Fee.rn
  rw [h1, if_neg (by dsimp only; omega)]
theorem Ref.rt_fwd {L R t : List Int} {m : Int} (h : Fee.rt m L false = (t, R, false)) : Ref.rt L false = (t, R, false) ∧ (t.length : Int) ≤ max m 0 := by
  unfold Fee.rt at h
  by_cases hm : (Fee.rn m L false).2.1.length < (Fee.rn m L false).1.toNat
  · rw [if_pos hm] at h; simp at h
  · rw [if_neg hm] at h
    obtain ⟨n, R1, b, e⟩ : ∃ n R1 b, Fee.rn m L false = (n, R1, b) := ⟨_, _, _, rfl⟩
    rw [e] at h hm
    dsimp only at h hm
    simp only [Prod.mk.injEq] at h
    obtain ⟨rfl, rfl, rfl⟩ := h
    obtain ⟨e1, e2⟩ := Ref.rn_fwd e
    unfold Ref.rt
    rw [e1]
    dsimp only
    unfold Ref.bytes
    rw [if_neg (by simp; omega)]
    refine ⟨rfl, ?_⟩
    rw [List.length_take]
    omega
theorem Ref.rt_back {L R t : List Int} {m : Int} {bd : Bool} (h : Ref.rt L bd = (t, R, false)) (hm : (t.length : Int) ≤ m) : bd = false ∧ Fee.rt m L false = (t, R, false) := by
  unfold Ref.rt at h
  obtain ⟨n, R1, b, e⟩ : ∃ n R1 b, Ref.num L bd = (n, R1, b) := ⟨_, _, _, rfl⟩
  rw [e] at h
  dsimp only at h
  unfold Ref.bytes at h
  by_cases hb : b = true ∨ R1.length < n.toNat
  · rw [if_pos hb] at h; simp at h
  · rw [if_neg hb] at h
    obtain rfl : b = false := by cases b; rfl; simp at hb
    obtain ⟨rfl, -⟩ := Ref.num_back e
    simp only [Prod.mk.injEq] at h
    obtain ⟨rfl, rfl, -⟩ := h
    rw [List.length_take] at hm
    refine ⟨rfl, ?_⟩
    have e2 := Ref.rn_back (m := m) e (by simp at hb; omega)
    unfold Fee.rt
    rw [e2]
    dsimp only
    rw [if_neg (by simp at hb; omega)]
/-- One step of the reference's is one of Get's, where Q holds of what comes out. -/
structure Sim {α : Type} (Q : α → Prop) (r s : List Int → Bool → α × List Int × Bool) : Prop where
  fwd : ∀ L x R, s L false = (x, R, false) → r L false = (x, R, false)
  back : ∀ L x R bd, r L bd = (x, R, false) → Q x → bd = false ∧ s L false = (x, R, false)
theorem sim_arg : Sim (fun s : ByteArray => s.size ≤ 200) Ref.arg Fee.rArg where
  fwd := fun L x R h => by
    obtain ⟨t, R1, b, e⟩ : ∃ n R1 b, Fee.rt 200 L false = (n, R1, b) := ⟨_, _, _, rfl⟩
    unfold Fee.rArg at h
    rw [e] at h
    simp only [Prod.mk.injEq] at h
    obtain ⟨rfl, rfl, rfl⟩ := h
    unfold Ref.arg
    rw [(Ref.rt_fwd e).1]
  back := fun L x R bd h hq => by
    obtain ⟨t, R1, b, e⟩ : ∃ n R1 b, Ref.rt L bd = (n, R1, b) := ⟨_, _, _, rfl⟩
    unfold Ref.arg at h
    rw [e] at h
    simp only [Prod.mk.injEq] at h
    obtain ⟨rfl, rfl, rfl⟩ := h
    obtain ⟨a, b⟩ := Ref.rt_back (m := 200) e (by rw [strOfNums_size] at hq; omega)
    refine ⟨a, ?_⟩
    unfold Fee.rArg
    rw [b]
theorem sim_file : Sim (fun f : Fee.Fl => f.name.size ≤ 40 ∧ f.data.length ≤ 4096) Ref.file Fee.rFile where
  fwd := fun L x R h => by
    obtain ⟨t, R1, b, e⟩ : ∃ n R1 b, Fee.rt 40 L false = (n, R1, b) := ⟨_, _, _, rfl⟩
    obtain ⟨t2, R2, b2, e2⟩ : ∃ n R2 b2, Fee.rt 4096 R1 b = (n, R2, b2) := ⟨_, _, _, rfl⟩
    unfold Fee.rFile at h
    rw [e] at h
    dsimp only at h
    rw [e2] at h
    simp only [Prod.mk.injEq] at h
    obtain ⟨rfl, rfl, rfl⟩ := h
    obtain ⟨rfl, -⟩ := stb_rt 4096 R1 [] b (by rw [e2])
    unfold Ref.file
    rw [(Ref.rt_fwd e).1]
    dsimp only
    rw [(Ref.rt_fwd e2).1]
  back := fun L x R bd h hq => by
    obtain ⟨t, R1, b, e⟩ : ∃ n R1 b, Ref.rt L bd = (n, R1, b) := ⟨_, _, _, rfl⟩
    obtain ⟨t2, R2, b2, e2⟩ : ∃ n R2 b2, Ref.rt R1 b = (n, R2, b2) := ⟨_, _, _, rfl⟩
    unfold Ref.file at h
    rw [e] at h
    dsimp only at h
    rw [e2] at h
    simp only [Prod.mk.injEq] at h
    obtain ⟨rfl, rfl, rfl⟩ := h
    dsimp only at hq
    obtain ⟨rfl, d2⟩ := Ref.rt_back (m := 4096) e2 (by omega)
    obtain ⟨rfl, d1⟩ := Ref.rt_back (m := 40) e (by rw [strOfNums_size] at hq; omega)
    refine ⟨rfl, ?_⟩
    unfold Fee.rFile
    rw [d1]
    dsimp only
    rw [d2]
theorem sim_rn (m : Int) : Sim (fun n => n ≤ m) Ref.num (Fee.rn m) where
  fwd := fun L x R h => (Ref.rn_fwd h).1
  back := fun L x R bd h hq => by
    obtain ⟨rfl, -⟩ := Ref.num_back h
    exact ⟨rfl, Ref.rn_back h hq⟩
theorem sim_rw : Sim (fun _ => True) Ref.num Fee.rw where
  fwd := fun L x R h => Ref.num_fwd h
  back := fun L x R bd h _ => Ref.num_back h
theorem sim_many {α : Type} {Q : α → Prop} {r s : List Int → Bool → α × List Int × Bool} (h : Sim Q r s) (hs : Stb s) : ∀ n, Sim (fun l : List α => ∀ x ∈ l, Q x) (Ref.many r n) (Fee.many s n)
  | 0 => ⟨fun L x R e => by rw [Ref.many]; exact e, fun L x R bd e _ => by rw [Ref.many] at e; simp only [Prod.mk.injEq] at e; obtain ⟨rfl, rfl, rfl⟩ := e; exact ⟨rfl, rfl⟩⟩
  | n + 1 => ⟨fun L x R e => by
      obtain ⟨t, R1, b, e1⟩ : ∃ n R1 b, s L false = (n, R1, b) := ⟨_, _, _, rfl⟩
      obtain ⟨t2, R2, b2, e2⟩ : ∃ l R2 b2, Fee.many s n R1 b = (l, R2, b2) := ⟨_, _, _, rfl⟩
      rw [Fee.many, e1] at e
      dsimp only at e
      rw [e2] at e
      simp only [Prod.mk.injEq] at e
      obtain ⟨rfl, rfl, rfl⟩ := e
      obtain ⟨rfl, -⟩ := stb_many hs n R1 [] b (by rw [e2])
      rw [Ref.many, if_neg (by simp), h.fwd _ _ _ e1]
      dsimp only
      rw [(sim_many h hs n).fwd _ _ _ e2],
    fun L x R bd e hq => by
      cases bd with
      | true => rw [Ref.many_bad] at e; simp at e
      | false =>
        obtain ⟨t, R1, b, e1⟩ : ∃ n R1 b, r L false = (n, R1, b) := ⟨_, _, _, rfl⟩
        obtain ⟨t2, R2, b2, e2⟩ : ∃ l R2 b2, Ref.many r n R1 b = (l, R2, b2) := ⟨_, _, _, rfl⟩
        rw [Ref.many, if_neg (by simp), e1] at e
        dsimp only at e
        rw [e2] at e
        simp only [Prod.mk.injEq] at e
        obtain ⟨rfl, rfl, rfl⟩ := e
        obtain ⟨rfl, d2⟩ := (sim_many h hs n).back _ _ _ _ e2 (fun y hy => hq y (by simp [hy]))
        obtain ⟨-, d1⟩ := h.back _ _ _ _ e1 (hq _ (by simp))
        refine ⟨rfl, ?_⟩
        rw [Fee.many, d1]
        dsimp only
        rw [d2]⟩
theorem pair_inv {α β : Type} {a : List Int → Bool → α × List Int × Bool} {b : List Int → Bool → β × List Int × Bool} (hb : Stb b) {L R : List Int} {x : α} {y : β} (h : Fee.pair a b L false = ((x, y), R, false)) : ∃ L1, a L false = (x, L1, false) ∧ b L1 false = (y, R, false) := by
  obtain ⟨t, R1, b1, e1⟩ : ∃ n R1 b, a L false = (n, R1, b) := ⟨_, _, _, rfl⟩
  obtain ⟨t2, R2, b2, e2⟩ : ∃ l R2 b2, b R1 b1 = (l, R2, b2) := ⟨_, _, _, rfl⟩
  unfold Fee.pair at h
  rw [e1] at h
  dsimp only at h
  rw [e2] at h
  simp only [Prod.mk.injEq] at h
  obtain ⟨⟨rfl, rfl⟩, rfl, rfl⟩ := h
  obtain ⟨rfl, -⟩ := hb R1 [] b1 (by rw [e2])
  exact ⟨R1, e1, e2⟩
theorem pair_mk {α β : Type} {a : List Int → Bool → α × List Int × Bool} {b : List Int → Bool → β × List Int × Bool} {L L1 R : List Int} {x : α} {y : β} (h : a L false = (x, L1, false)) (k : b L1 false = (y, R, false)) : Fee.pair a b L false = ((x, y), R, false) := by
  unfold Fee.pair
  rw [h]
  dsimp only
  rw [k]
theorem some_inv {α : Type} {s : List Int → Bool → α × List Int × Bool} (hs : Stb s) {m : Int} {L R : List Int} {l : List α} (h : Fee.some m s L false = (l, R, false)) : ∃ n La, Ref.num L false = (n, La, false) ∧ n ≤ m ∧ Fee.many s n.toNat La false = (l, R, false) := by
  obtain ⟨n, La, b, e⟩ : ∃ n R1 b, Fee.rn m L false = (n, R1, b) := ⟨_, _, _, rfl⟩
  unfold Fee.some at h
  rw [e] at h
  dsimp only at h
  obtain ⟨rfl, -⟩ := stb_many hs n.toNat La [] b (by rw [h])
  obtain ⟨h1, h2⟩ := Ref.rn_fwd e
  exact ⟨n, La, h1, h2, h⟩
theorem some_mk {α : Type} {s : List Int → Bool → α × List Int × Bool} {m n : Int} {L La R : List Int} {l : List α} (h : Ref.num L false = (n, La, false)) (hm : n ≤ m) (k : Fee.many s n.toNat La false = (l, R, false)) : Fee.some m s L false = (l, R, false) := by
  unfold Fee.some
  rw [Ref.rn_back h hm]
  exact k
end Go.Proofs.Ytmecompcffphcaa
