/- LAYER 10's walks: Lay. -/
import Derived.Test.YthicidkjhpnleaaStkA
import Derived.Test.YthicidkjhpnleaaMemHas
namespace Go.Proofs.Ythicidkjhpnleaa
open Go.ChangeShapes Go.WideShapes Go.ChangeAt Go.RowKit
set_option linter.unusedSimpArgs false

theorem Fee.w4_b8 {x : Int} (x0 : 0 ≤ x) (x1 : x < 4294967296) : B8s (Fee.w4 x) := fun y hy => by
  simp [Fee.w4] at hy
  unfold B8
  omega
theorem Fee.sb_b8 (s : ByteArray) : B8s (Fee.sb s) := fun y hy => by
  unfold Fee.sb at hy
  obtain ⟨b, -, rfl⟩ := List.mem_map.1 hy
  unfold B8
  have := b.toNat_lt
  omega
theorem Stk.txs_b8 (l : List ByteArray) : ∀ b o, B8s b → B8s (Stk.txs b o l) := by
  induction l with
  | nil => intro b o h; exact h
  | cons s r ih => intro b o h; unfold Stk.txs; exact ih _ _ (ovr_b8 h (Fee.sb_b8 s))
theorem Stk.nms_b8 (l : List Int) (hl : ∀ x ∈ l, 0 ≤ x ∧ x < 4294967296) : ∀ b o, B8s b → B8s (Stk.nms b o l) := by
  induction l with
  | nil => intro b o h; exact h
  | cons x r ih =>
    intro b o h
    have hx := hl x (by simp)
    unfold Stk.nms
    exact ih (fun y hy => hl y (by simp [hy])) _ _ (ovr_b8 h (Fee.w4_b8 hx.1 hx.2))
theorem Stk.words_u4 {l : List ByteArray} (h : Stk.err l = 0) : ∀ x ∈ Stk.words l, 0 ≤ x ∧ x < 4294967296 := fun x hx => by
  obtain ⟨h1, -, h2⟩ := Stk.err_ok h
  unfold Stk.words at hx
  rcases List.mem_cons.1 hx with hx | hx
  · subst hx; omega
  · obtain ⟨p, hp, rfl⟩ := List.mem_map.1 hx
    obtain ⟨k, hk⟩ := List.getElem?_of_mem hp
    obtain ⟨s, h3, h4⟩ := Stk.pls_at _ _ _ _ hk
    rw [h4]
    have := Stk.room_take l k
    have : Stk.first l ≤ 4096 := by unfold Stk.first; omega
    dsimp only
    omega
theorem Stk.bytes_b8 {l : List ByteArray} (h : Stk.err l = 0) : B8s (Stk.bytes l) := by
  unfold Stk.bytes
  exact Stk.nms_b8 _ (Stk.words_u4 h) _ _ (Stk.txs_b8 _ _ _ (fun x hx => by rw [(List.mem_replicate.1 hx).2]; exact ⟨by decide, by decide⟩))
theorem mapS_pg {S : MS} {a n perm : Int} (h : S.mapE a n perm = 0) {k : Int} (hn : 0 ≤ n) (hk : a / 256 ≤ k ∧ k < a / 256 + (n + 255) / 256) : (S.mapS a n perm).pg k = some (Pg.fresh perm ((S.gone k + 1) % 4294967296)) := by
  unfold MS.mapS
  rw [if_pos h]
  simp only [MS.map]
  rw [if_pos (by omega)]
/-- The memory behind Lay. -/
def Stk.mem (S : MS) (l : List ByteArray) : MS := (S.mapS 2147475456 4096 3).put 2147475456 4096 (fun i => (Stk.bytes l).getD i 0)
def LayPost (w0 : World) (mb N : Nat) (S : MS) (P : Nat → Prop) (l : List ByteArray) (e : Ending) (w' : World) : Prop :=
  (Stk.err l ≠ 0 ∧ e = .returned (.tuple #[.int .u32 0, .slice none 0 0, .int .i64 (Stk.err l)]) ∧ HasB w0 w' mb (N + 4096) S P) ∨
  (Stk.err l = 0 ∧ S.mapE 2147475456 4096 3 ≠ 0 ∧ e = .returned (.tuple #[.int .u32 0, .slice none 0 0, .int .i64 (S.mapE 2147475456 4096 3)]) ∧ HasB w0 w' mb (N + 4096) S P) ∨
  (Stk.err l = 0 ∧ S.mapE 2147475456 4096 3 = 0 ∧ ∃ pg, e = .returned (.tuple #[.int .u32 (2147475456 + (Stk.sp l : Int)), .slice (some ⟨pg, 0, none⟩) l.length l.length, .int .i64 0]) ∧ HasB w0 w' mb (N + 4096) (Stk.mem S l) P)
theorem HasB.le {w0 w : World} {mb N M : Nat} {S : MS} {P : Nat → Prop} (h : HasB w0 w mb N S P) (hN : N ≤ M) : HasB w0 w mb M S P := by
  obtain ⟨F, g, hF, L, o⟩ := h
  exact ⟨F, g, hF, L, o.mono (fun _ h => h) o.lt hN⟩
set_option maxHeartbeats 2000000 in
set_option maxRecDepth 100000 in
theorem Lay_c {w0 w : World} {mb N : Nat} {S : MS} {P : Nat → Prop} (h : HasB w0 w mb N S P) (hP : ∀ i, P i → i < w.heap.size) (v : Value) (l : List ByteArray) (hv : TxS w v l) (hl : Stk.room l ≤ 1000000000) (hN : N + 4096 < maxLen) (hI : S.mapE 2147475456 4096 3 = 0 → InsSpec S.th (lb S.th (2147475456 / 256))) :
    Calls Try.prog 11 #[.pointer (some ⟨mb, 0, none⟩), v] w fun e w' => LayPost w0 mb N S P l e w' ∧ Kp P w w' := by
  have hB := Build_c w v l hv hl
  obtain ⟨q, cap, rfl, hc1, hc2, -⟩ := RdR.at1 hv
  go_enter Try.func11, Try.ntmps11
  go_wp2_with fail
  refine hB.mono ?_
  rintro e w1 (⟨hE, rfl, b1⟩ | ⟨hE, gb, pg, rfl, hO, hPl, hpg, b1⟩)
  · have h1 : (((Stk.err l : Nat) : Int) == 0) = false := by rw [beq_eq_false_iff_ne]; omega
    have h1' : ¬ (Stk.err l = 0) := hE
    go_wp2_with fail
    go_returns
    exact ⟨Or.inl ⟨hE, rfl, (h.on b1).le (by omega)⟩, Kp.bw b1⟩
  · have hgb := hO.blk gb rfl
    have hM : HasB w0 w1 mb N S (fun i => P i ∨ (w.heap.size ≤ i ∧ i < w1.heap.size)) := (h.more (fun i hi => hi.imp id (fun x => x.1))).on b1
    have hMap := Map_b hM (fun i hi => by rcases hi with hi | hi; exact Nat.lt_of_lt_of_le (hP i hi) b1.size; exact hi.2) 2147475456 4096 3 ⟨by decide, by decide⟩ ⟨by decide, by decide⟩ hN hI
    by_cases hm : S.mapE 2147475456 4096 3 = 0
    · rw [hm] at hMap
      go_wp2_with fail
      refine hMap.mono ?_
      rintro e w2 ⟨rfl, hM2, k2⟩
      have hbl := Stk.bytes_len hE
      have hb8 := Stk.bytes_b8 hE
      have hW := Write_b hM2 2147475456 4096 ⟨by decide, by decide⟩ (by omega) (by omega) ⟨by decide, fun j hj => ⟨_, mapS_pg hm (by omega) (by
          have : cnt 2147475456 4096 = 16 := by decide
          omega), b32⟩⟩ gb 0 4096 (fun i => (Stk.bytes l).getD i 0) (by omega) (fun i hi => by
            rw [Nat.zero_add, cell_block (p := ⟨gb, i, none⟩) (k2.2 gb hgb.2 (Or.inr hgb))]
            refine hO.at ?_
            rw [List.getD_eq_getElem?_getD, List.getElem?_eq_getElem (by omega)]
            rfl) (fun i => by
            rw [List.getD_eq_getElem?_getD]
            cases hx : (Stk.bytes l)[i]? with
            | none => simp
            | some x => exact hb8 x (List.mem_of_getElem? hx)) (Or.inr hgb)
      go_wp2_with fail
      refine hW.mono ?_
      rintro e w3 ⟨rfl, hM3, k3⟩
      go_wp2_with fail
      go_returns
      exact ⟨Or.inr (Or.inr ⟨hE, hm, pg, rfl, hM3.more (fun i hi => Or.inl (Or.inl hi))⟩), ((Kp.bw b1).trans (k2.mono (fun i hi => Or.inl hi))).trans (k3.mono (fun i hi => Or.inl hi))⟩
    · rw [show S.mapS 2147475456 4096 3 = S by unfold MS.mapS; rw [if_neg hm]] at hMap
      obtain ⟨x, hx⟩ : ∃ x, S.mapE 2147475456 4096 3 = x := ⟨_, rfl⟩
      rw [hx] at hMap hm
      have h1 : (x == 0) = false := by rw [beq_eq_false_iff_ne]; exact hm
      go_wp2_with fail
      refine hMap.mono ?_
      rintro e w2 ⟨rfl, hM2, k2⟩
      go_wp2_with fail
      go_returns
      exact ⟨Or.inr (Or.inl ⟨hE, by rw [hx]; exact hm, by rw [hx]; rfl, hM2.more (fun i hi => Or.inl (Or.inl hi))⟩), (Kp.bw b1).trans (k2.mono (fun i hi => Or.inl hi))⟩
end Go.Proofs.Ythicidkjhpnleaa
