/- LAYER 10, plain: what stands in the memory behind Lay. -/
import Derived.Test.YthicidkjhpnleaaStkLay
namespace Go.Proofs.Ythicidkjhpnleaa
open Go.ChangeShapes Go.WideShapes Go.ChangeAt Go.RowKit
set_option linter.unusedVariables false

theorem Stk.txs_low (l : List ByteArray) : ∀ b o, o + Stk.room l ≤ b.length → ∀ j, j < o → (Stk.txs b o l)[j]? = b[j]? := by
  induction l with
  | nil => intro b o _ j _; rfl
  | cons s r ih =>
    intro b o h j hj
    rw [Stk.room_cons] at h
    have hl := Fee.sb_len s
    have h1 : (ovr b o (Fee.sb s)).length = b.length := ovr_len (by omega)
    unfold Stk.txs
    rw [ih _ _ (by omega) j (by omega), ovr_out (by omega) (Or.inl hj)]
theorem Stk.txs_at (l : List ByteArray) : ∀ b o, o + Stk.room l ≤ b.length → ∀ k s, l[k]? = some s → (∀ i, i < s.size → (Stk.txs b o l)[o + Stk.room (l.take k) + i]? = (Fee.sb s)[i]?) ∧ (Stk.txs b o l)[o + Stk.room (l.take k) + s.size]? = b[o + Stk.room (l.take k) + s.size]? := by
  induction l with
  | nil => intro b o _ k s h; simp at h
  | cons s r ih =>
    intro b o h k t hk
    rw [Stk.room_cons] at h
    have hl := Fee.sb_len s
    have h1 : (ovr b o (Fee.sb s)).length = b.length := ovr_len (by omega)
    unfold Stk.txs
    cases k with
    | zero =>
      simp at hk
      subst hk
      simp only [List.take_zero, show Stk.room [] = 0 from rfl, Nat.add_zero]
      refine ⟨fun i hi => ?_, ?_⟩
      · rw [Stk.txs_low _ _ _ (by omega) _ (by omega), ovr_in (by omega) (by omega)]
      · rw [Stk.txs_low _ _ _ (by omega) _ (by omega), ovr_out (by omega) (Or.inr (by omega))]
    | succ k =>
      rw [List.getElem?_cons_succ] at hk
      obtain ⟨h2, h3⟩ := ih (ovr b o (Fee.sb s)) (o + s.size + 1) (by omega) k t hk
      rw [List.take_succ_cons, Stk.room_cons, show o + (s.size + 1 + Stk.room (r.take k)) = o + s.size + 1 + Stk.room (r.take k) by omega]
      exact ⟨h2, by rw [h3, ovr_out (by omega) (Or.inr (by omega))]⟩
section
variable {l : List ByteArray} (hE : Stk.err l = 0)
include hE
theorem Stk.facts : l.length ≤ 16 ∧ Stk.first l + Stk.room l = 4096 ∧ Stk.sp l + 4 * (l.length + 3) ≤ Stk.first l ∧ (Stk.txs (List.replicate 4096 0) (Stk.first l) l).length = 4096 ∧ Stk.sp l % 16 = 0 := by
  obtain ⟨h1, -, h2⟩ := Stk.err_ok hE
  refine ⟨h1, by unfold Stk.first; omega, by unfold Stk.sp Stk.first; omega, ?_, by unfold Stk.sp; omega⟩
  rw [Stk.txs_len _ _ _ (by rw [List.length_replicate]; unfold Stk.first; omega), List.length_replicate]
theorem Stk.bytes_eq : Stk.bytes l = ovr (Stk.txs (List.replicate 4096 0) (Stk.first l) l) (Stk.sp l) ((Stk.words l).flatMap Fee.w4) ∧ ((Stk.words l).flatMap Fee.w4).length = 4 * (l.length + 1) := by
  obtain ⟨h1, h2, h3, h4, -⟩ := Stk.facts hE
  refine ⟨?_, by rw [chunk_len Fee.w4 4 Fee.w4_len, Stk.words_len]; omega⟩
  unfold Stk.bytes
  exact Stk.nms_eq _ _ _ (by rw [h4, Stk.words_len]; omega)
/-- The words from SP on. -/
theorem Stk.word_at {j : Nat} {x : Int} (hx : (Stk.words l)[j]? = some x) {i : Nat} (hi : i < 4) : (Stk.bytes l)[Stk.sp l + 4 * j + i]? = (Fee.w4 x)[i]? := by
  obtain ⟨h1, h2, h3, h4, -⟩ := Stk.facts hE
  obtain ⟨e, hl⟩ := Stk.bytes_eq hE
  have hj := (List.getElem?_eq_some_iff.1 hx).1
  rw [Stk.words_len] at hj
  rw [e, Nat.add_assoc, ovr_in (by omega) (by omega), show 4 * j + i = j * 4 + i by omega]
  exact chunk Fee.w4 4 Fee.w4_len _ _ _ _ hx hi
theorem Stk.zero_at {j : Nat} (h0 : Stk.sp l + 4 * (l.length + 1) ≤ j) (h1 : j < Stk.first l) : (Stk.bytes l)[j]? = some 0 := by
  obtain ⟨_, h2, h3, h4, -⟩ := Stk.facts hE
  obtain ⟨e, hl⟩ := Stk.bytes_eq hE
  rw [e, ovr_out (by omega) (Or.inr (by omega)), Stk.txs_low _ _ _ (by rw [List.length_replicate]; omega) _ h1, List.getElem?_replicate, if_pos (by omega)]
theorem Stk.text_at {k : Nat} {s : ByteArray} (hs : l[k]? = some s) : (∀ i, i < s.size → (Stk.bytes l)[Stk.first l + Stk.room (l.take k) + i]? = (Fee.sb s)[i]?) ∧ (Stk.bytes l)[Stk.first l + Stk.room (l.take k) + s.size]? = some 0 := by
  obtain ⟨_, h2, h3, h4, -⟩ := Stk.facts hE
  obtain ⟨e, hl⟩ := Stk.bytes_eq hE
  have h5 := Stk.room_take l k
  obtain ⟨s', h6, h7⟩ := dropAt (List.getElem?_eq_some_iff.1 hs).1
  rw [hs] at h6
  obtain rfl := Option.some.inj h6
  rw [h7, Stk.room_cons] at h5
  obtain ⟨h8, h9⟩ := Stk.txs_at l (List.replicate 4096 0) (Stk.first l) (by rw [List.length_replicate]; omega) k s hs
  refine ⟨fun i hi => ?_, ?_⟩
  · rw [e, ovr_out (by omega) (Or.inr (by omega)), h8 i hi]
  · rw [e, ovr_out (by omega) (Or.inr (by omega)), h9, List.getElem?_replicate, if_pos (by omega)]
end
theorem cnt_div10 {a : Int} {n i : Nat} (h : i < n) : ∃ j : Nat, j < cnt a n ∧ (a + (i : Int)) / 256 = a / 256 + j := by
  have h0 : 0 ≤ a % 256 ∧ a % 256 < 256 := by omega
  refine ⟨((a % 256 + i) / 256).toNat, ?_, by omega⟩
  unfold cnt
  rw [if_neg (by omega)]
  omega
theorem put_at10 {S : MS} {a : Int} {n : Nat} {need : Int} {bs : Nat → Int} (hm : May S a n need) {i : Nat} (hi : i < n) : (S.put a n bs).at (a + i) = bs i := by
  obtain ⟨j, hj, e⟩ := cnt_div10 (a := a) hi
  obtain ⟨p, hp, _⟩ := hm.2 j hj
  unfold MS.at MS.put MS.putJ
  simp only
  rw [e, if_pos (by omega), hp]
  simp only [Option.map, putPg]
  have h0 : 0 ≤ (a + (i : Int)) % 256 ∧ (a + (i : Int)) % 256 < 256 := by omega
  rw [if_pos (by omega)]
  congr 1; omega
theorem put_pg10 {S : MS} {a : Int} {n : Nat} {bs : Nat → Int} {k : Int} {p : Pg} (hp : S.pg k = some p) : ∃ p', (S.put a n bs).pg k = some p' ∧ p'.perm = p.perm := by
  unfold MS.put MS.putJ
  simp only
  split
  · rw [hp]; exact ⟨_, rfl, rfl⟩
  · exact ⟨p, hp, rfl⟩
theorem load_at10 {S : MS} {a need : Int} {p : Pg} (hp : S.pg (a / 256) = some p) (ha : a % 4 = 0) (hb : (bits .and .i64 p.perm need == need) = true) : S.ask a 4 need = 0 ∧ S.load a 4 need = S.at a + S.at (a + 1) * 256 + S.at (a + 2) * 65536 + S.at (a + 3) * 16777216 := by
  have h0 : S.ask a 4 need = 0 := ask_pg hp ⟨by omega, ha⟩ hb
  refine ⟨h0, ?_⟩
  rw [load_pg hp h0]
  have e : ∀ i : Nat, i < 4 → S.at (a + i) = p.byt ((a % 256).toNat + i) := fun i hi => by
    unfold MS.at
    rw [show (a + (i : Int)) / 256 = a / 256 by omega, hp]
    simp only
    congr 1; omega
  have e0 := e 0 (by omega)
  have e1 := e 1 (by omega)
  have e2 := e 2 (by omega)
  have e3 := e 3 (by omega)
  simp at e0 e1 e2 e3
  unfold Pg.val
  rw [if_neg (by omega), if_neg (by omega), e0, e1, e2, e3]
section
variable {S : MS} {l : List ByteArray} (hm : S.mapE 2147475456 4096 3 = 0)
include hm
theorem Stk.mem_pg {k : Int} (hk : 8388576 ≤ k ∧ k < 8388592) : ∃ p, (Stk.mem S l).pg k = some p ∧ p.perm = 3 := by
  obtain ⟨p', h1, h2⟩ := put_pg10 (S := S.mapS 2147475456 4096 3) (a := 2147475456) (n := 4096) (bs := fun i => (Stk.bytes l).getD i 0) (mapS_pg hm (by omega) (k := k) (by omega))
  exact ⟨p', h1, h2⟩
theorem Stk.mem_at {i : Nat} {x : Int} (hi : i < 4096) (hx : (Stk.bytes l)[i]? = some x) : (Stk.mem S l).at (2147475456 + (i : Int)) = x := by
  unfold Stk.mem
  rw [put_at10 (need := 2) ⟨by decide, fun j hj => ⟨_, mapS_pg hm (by omega) (by
          have : cnt 2147475456 4096 = 16 := by decide
          omega), b32⟩⟩ hi, List.getD_eq_getElem?_getD, hx]
  rfl
theorem Stk.mem_may {o n : Nat} (hn : 0 < n) (ho : o + n ≤ 4096) : May (Stk.mem S l) (2147475456 + (o : Int)) n 1 := by
  refine ⟨by omega, fun j hj => ?_⟩
  have h0 : cnt (2147475456 + (o : Int)) n = ((2147475456 + (o : Int)) % 256).toNat / 1 + 0 ∨ True := Or.inr trivial
  have h1 : (2147475456 + (o : Int)) / 256 + j < 8388592 := by
    unfold cnt at hj
    rw [if_neg (by omega)] at hj
    omega
  obtain ⟨p, h2, h3⟩ := Stk.mem_pg (l := l) hm (k := (2147475456 + (o : Int)) / 256 + j) (by omega)
  exact ⟨p, h2, by rw [h3]; exact b31⟩
theorem Stk.mem_word (hE : Stk.err l = 0) {o : Nat} {x : Int} (ho : o + 4 ≤ 4096) (h4 : o % 4 = 0) (x0 : 0 ≤ x) (x1 : x < 4294967296) (hx : ∀ i, i < 4 → (Stk.bytes l)[o + i]? = (Fee.w4 x)[i]?) : (Stk.mem S l).ask (2147475456 + (o : Int)) 4 1 = 0 ∧ (Stk.mem S l).load (2147475456 + (o : Int)) 4 1 = x := by
  obtain ⟨p, h2, h3⟩ := Stk.mem_pg (l := l) hm (k := (2147475456 + (o : Int)) / 256) (by omega)
  obtain ⟨h5, h6⟩ := load_at10 (need := 1) h2 (by omega) (by rw [h3]; exact b31)
  refine ⟨h5, ?_⟩
  rw [h6]
  have e0 := Stk.mem_at (l := l) hm (i := o) (x := x % 256) (by omega) (hx 0 (by omega))
  have e1 := Stk.mem_at (l := l) hm (i := o + 1) (x := x / 256 % 256) (by omega) (hx 1 (by omega))
  have e2 := Stk.mem_at (l := l) hm (i := o + 2) (x := x / 65536 % 256) (by omega) (hx 2 (by omega))
  have e3 := Stk.mem_at (l := l) hm (i := o + 3) (x := x / 16777216) (by omega) (hx 3 (by omega))
  rw [show 2147475456 + (o : Int) + 1 = 2147475456 + ((o + 1 : Nat) : Int) by omega, show 2147475456 + (o : Int) + 2 = 2147475456 + ((o + 2 : Nat) : Int) by omega, show 2147475456 + (o : Int) + 3 = 2147475456 + ((o + 3 : Nat) : Int) by omega, e0, e1, e2, e3]
  omega
theorem Stk.mem_text (hE : Stk.err l = 0) {k : Nat} {s : ByteArray} (hs : l[k]? = some s) : Stk.first l + Stk.room (l.take k) + s.size + 1 ≤ 4096 ∧ (Stk.mem S l).bs (2147475456 + ((Stk.first l + Stk.room (l.take k) : Nat) : Int)) (s.size + 1) = Fee.sb s ++ [0] := by
  obtain ⟨_, h2, h3, h4, -⟩ := Stk.facts hE
  obtain ⟨t1, t2⟩ := Stk.text_at hE hs
  have h5 := Stk.room_take l k
  obtain ⟨s', h6, h7⟩ := dropAt (List.getElem?_eq_some_iff.1 hs).1
  rw [hs] at h6
  obtain rfl := Option.some.inj h6
  rw [h7, Stk.room_cons] at h5
  refine ⟨by omega, ?_⟩
  have hl := Fee.sb_len s
  apply List.ext_getElem?
  intro i
  unfold MS.bs
  rw [List.getElem?_map]
  by_cases hi : i < s.size
  · rw [List.getElem?_range (by omega), List.getElem?_append_left (by omega)]
    obtain ⟨x, hx⟩ : ∃ x, (Fee.sb s)[i]? = some x := ⟨_, List.getElem?_eq_getElem (by omega)⟩
    rw [hx]
    simp only [Option.map_some, Option.some.injEq]
    have := Stk.mem_at (l := l) hm (i := Stk.first l + Stk.room (l.take k) + i) (x := x) (by omega) (by rw [t1 i hi, hx])
    rw [← this]
    congr 1; omega
  · by_cases hi2 : i = s.size
    · subst hi2
      rw [List.getElem?_range (by omega), List.getElem?_append_right (by omega), hl, Nat.sub_self]
      simp only [Option.map_some, List.getElem?_cons_zero, Option.some.injEq]
      have := Stk.mem_at (l := l) hm (i := Stk.first l + Stk.room (l.take k) + s.size) (x := 0) (by omega) t2
      rw [← this]
      congr 1; omega
    · rw [List.getElem?_eq_none (by simp; omega), List.getElem?_eq_none (by simp; omega)]
      rfl
end
end Go.Proofs.Ythicidkjhpnleaa
