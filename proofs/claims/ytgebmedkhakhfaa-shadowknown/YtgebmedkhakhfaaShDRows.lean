/- THE ROWS OF A STRETCH THAT ARE NOT CLEAN: dirtyRows. -/
import Derived.Test.YtgebmedkhakhfaaShBetween
import Derived.Test.YtgebmedkhakhfaaShRange
import Derived.Test.YtgebmedkhakhfaaShTag
namespace Go.Proofs.Ytgebmedkhakhfaa
open Go.ChangeShapes Go.WideShapes Go.ChangeAt Go.RowKit Go.Shelf
set_option linter.unusedSimpArgs false
set_option linter.unusedVariables false
attribute [local go_sem] Oper.semAt_some wide_fn

/-- What the body keeps: from B0 on all cells but pages' and single bytes. -/
def KpS (B0 : Nat) (A B : World) : Prop := ∀ (i : Nat) (cs : Array Value) (t : TypeId) (z : Nat × Nat), B0 ≤ i → A.heap[i]? = some (.cells cs t z) → t ≠ 135 → t ≠ 5 → B.heap[i]? = some (.cells cs t z)
theorem KpS.refl (B0 : Nat) (A : World) : KpS B0 A A := fun _ _ _ _ _ h _ _ => h
theorem KpS.trans {B0 : Nat} {A B C : World} (h : KpS B0 A B) (k : KpS B0 B C) : KpS B0 A C := fun i cs t z hi ha h1 h2 => k i cs t z hi (h i cs t z hi ha h1 h2) h1 h2
theorem KpS.put {B0 : Nat} (W : World) (l : Nat) (o o' : Obj) (ho : W.heap[l]? = some o) (hc : o.isCells = false) (_ : o.isWalk = false) : KpS B0 W (W.putObj l o') := fun i cs t z _ hi _ _ => by
  rw [World.putObj_heap_other (fun e => by subst e; rw [ho] at hi; cases hi; cases hc)]; exact hi
theorem KpS.bl {B0 : Nat} {A B : World} (h : Below A.heap.size A B) : KpS B0 A B := fun i cs t z _ hi _ _ => (h.block i (Array.getElem?_eq_some_iff.1 hi).1).trans hi
/-- The shadow as the iterator needs it: what has not come yet lies where it lay. -/
def DR (sb : Nat) (L : SLay) (pre : List Int) (W : World) : Prop := ∃ (L' : SLay) (G : Nat → Prop) (N : Nat) (S : SS), ShL W sb G N S L' ∧ L'.ks.length ≤ 4096 ∧ ∀ k, k ∉ pre → L'.bk k = L.bk k
def dEnc (L : SLay) (A : Int) (m : Nat) (k : Int) : Array Value :=
  #[.int .u32 (max A (k * 256)), .slice (some ⟨(L.bk k).getD 0, (max A (k * 256) - k * 256).toNat, none⟩) (min (A + m) (k * 256 + 256) - max A (k * 256)).toNat (256 - (max A (k * 256) - k * 256).toNat)]

theorem dirtyRows_in (n : Nat) (sb : Nat) (A c : Int) (w : World) :
    CallsIn Fence.wide n Try.prog 83 #[.pointer (some ⟨sb, 0, none⟩), .int .u32 A, .int .i64 c] w fun e w' => e = .returned (.func (.func 100) #[] #[.pointer (some ⟨w.heap.size + 1, 0, none⟩), .pointer (some ⟨w.heap.size + 1 + 1, 0, none⟩), .pointer (some ⟨w.heap.size, 0, none⟩)]) ∧
      w' = ((w.alloc (.cells #[.pointer (some ⟨sb, 0, none⟩)] 52)).alloc (.cells #[.int .u32 A] 33)).alloc (.cells #[.int .i64 c] 3) := by
  refine callsIn_of_wp Try.func83 rfl trivial ?_ rfl
  simp only [Try.ntmps83, List.size_toArray, List.length_cons, List.length_nil, Nat.reduceAdd, Nat.reduceSub, Array.replicate_succ, Array.replicate_zero, List.push_toArray, List.append_toArray, List.nil_append, List.cons_append]
  gi_wp2
  go_ret
  exact ⟨rfl, rfl⟩
set_option maxRecDepth 100000 in
set_option maxHeartbeats 2000000 in
theorem dRows1_in (n : Nat) (hn : 1 ≤ n) (l B0 B1 B2 B3 sb : Nat) (L : SLay) (A c : Int) (hA : U4 A) (hc0 : -9223372036854775808 ≤ c) (hc1 : c ≤ 9223372036854775807) (m : Nat) (hm : (m : Int) = max 0 (min c (4294967296 - A))) (b1 : B0 ≤ B1) (b2 : B0 ≤ B2) (b3 : B0 ≤ B3)
    (J : List Int → World → Prop) (hJI : ∀ pre W, J pre W → DR sb L pre W)
    (hY : ∀ pre x W1, J pre W1 → (x ∉ pre ∧ A / 256 ≤ x ∧ x < (A + m + 255) / 256 ∧ (L.bk x).isSome) → YieldAt Fence.wide (n - 1) Try.prog l (dEnc L A m x) W1 fun e W' => e = .returned (.bool true) ∧ J (pre ++ [x]) W' ∧ KpS B0 W1 W')
    (W : World) (hB0 : B0 ≤ W.heap.size) (hJ : AbidesFrom W.heap.size J) (x1 : BoxN W B1 33 #[.int .u32 A]) (x2 : BoxN W B2 3 #[.int .i64 c]) (x3 : BoxN W B3 52 #[.pointer (some ⟨sb, 0, none⟩)]) (h0 : J [] W) :
    CallsIn Fence.wide n Try.prog 100 #[.func (.yield l) #[] #[], .pointer (some ⟨B1, 0, none⟩), .pointer (some ⟨B2, 0, none⟩), .pointer (some ⟨B3, 0, none⟩)] W fun e W' => (∃ v, e = .returned v) ∧ ∃ ss, Betw L.bk (A / 256) ((A + m + 255) / 256) ss ∧ J ss W' := by
  obtain ⟨a0, a1⟩ := hA
  have hmA : A + m ≤ 4294967296 := by omega
  have HR : ∀ wx, Calls Try.prog 78 #[.int .u32 A, .int .i64 c] wx fun e w' => e = .returned (.int .i64 m) ∧ w' = wx := fun wx => by
    rw [hm]; exact reach_c A c ⟨a0, a1⟩ hc0 hc1 wx
  clear hm
  obtain ⟨L0, G0, N0, S0, hS0, hk0, hL0⟩ := hJI _ _ h0
  have HB := between_c hS0 A (A + m) a0 (by omega) hmA hk0
  have c1 := x1.c0
  have c2 := x2.c0
  have c3 := x3.c0
  refine callsIn_of_wp Try.func100 rfl trivial ?_ rfl
  simp only [Try.ntmps100, List.size_toArray, List.length_cons, List.length_nil, Nat.reduceAdd, Nat.reduceSub, Array.replicate_succ, Array.replicate_zero, List.push_toArray, List.append_toArray, List.nil_append, List.cons_append]
  gi_wp2_with (first
    | (gi_at_call 78; refine (callsIn_wide.2 (HR _)).mono ?_; rintro e w' ⟨rfl, rfl⟩)
    | (gi_at_call 101; refine (callsIn_wide.2 HB).mono ?_; rintro e w1 ⟨v, ss, rfl, hl, hbt⟩; obtain ⟨q, cap, rfl⟩ := listB_shape hl))
  have hbt' : Betw L.bk (A / 256) ((A + m + 255) / 256) ss := ⟨hbt.1, fun k => by rw [hbt.2, hL0 k (by simp)]⟩
  have J1 : J [] w1 := hJ [] _ w1 none h0 ⟨hl.2.os, hl.2.tape, hl.2.output, hl.2.size, fun k hk _ => hl.2.block k hk⟩ (fun r e => by cases e)
  have y1 := x1.bl hl.2
  have y2 := x2.bl hl.2
  have y3 := x3.bl hl.2
  have hlen9 : ss.length ≤ 4096 := Nat.le_trans (hbt.len hS0.mem) hk0
  have hg : ss.length ≠ 0 → ∃ g cur, q = some ⟨g, 0, none⟩ ∧ B0 ≤ g ∧ w1.heap[g]? = some (.cells cur 33 (0, 0)) ∧ ∀ i (hi : i < ss.length), cur[i]? = some (.int .u32 ss[i]) := fun hne => by
    rcases hl.1.2 with ⟨_, h⟩ | ⟨g, cap', cur, e, hb, hgg, _, _, _, ht⟩
    · exact absurd h hne
    · cases e
      refine ⟨g, cur, rfl, by omega, hgg, fun i hi => ?_⟩
      have : cur.toList[i]? = (ss.map (Value.int .u32))[i]? := by rw [← ht, List.getElem?_take_of_lt (by omega)]
      rw [Array.getElem?_toList] at this
      rw [this, List.getElem?_map, List.getElem?_eq_getElem hi]
      rfl
  clear HB c1 c2 c3 hS0 hk0 hL0 hJ x1 x2 x3 h0 hl hbt
  gi_loopw [24] (fun x wr => ∃ (i : Nat), i ≤ ss.length ∧ x = .int .i64 i ∧ J (ss.take i) wr ∧ KpS B0 w1 wr) (fun x _ => ss.length - (intOf x).toNat)
  case atStart => exact ⟨0, Nat.zero_le _, rfl, by simpa using J1, KpS.refl _ _⟩
  case round =>
    obtain ⟨i, hi, rfl, hJi, hK⟩ := hrel
    by_cases hlt : (i : Int) < ss.length
    · have hin : i < ss.length := by omega
      obtain ⟨g, cur, rfl, hgB, hgg, hcur⟩ := hg (by omega)
      have hgr := hK g _ _ _ hgB hgg (by decide) (by decide)
      obtain ⟨k, hk⟩ : ∃ k, ss[i] = k := ⟨_, rfl⟩
      have hcell : wr.cell? ⟨g, i, none⟩ = some (.int .u32 k) := by simp [World.cell?, hgr, hcur i hin, hk]
      have hmem : k ∈ ss := hk ▸ List.getElem_mem _
      obtain ⟨k0, k1, hbk⟩ := (hbt'.2 k).1 hmem
      obtain ⟨b, hb⟩ := Option.isSome_iff_exists.1 hbk
      have hnot : k ∉ ss.take i := fun hx => by
        obtain ⟨j, hj, ej⟩ := List.getElem_of_mem hx
        rw [List.getElem_take] at ej
        simp at hj
        exact List.pairwise_iff_getElem.1 hbt'.1 j i (by omega) hin (by omega) (ej.trans hk.symm)
      have hyy := hY _ k wr hJi ⟨hnot, k0, k1, hbk⟩
      obtain ⟨L', G, N, S, hS, hks, hLk⟩ := hJI _ _ hJi
      have hlook := hS.pm.look (k := k) ⟨by omega, by omega⟩
      rw [hLk k hnot, hb] at hlook
      simp only [pv] at hlook
      have c3 : wr.cell? ⟨B3, 0, none⟩ = some (.pointer (some ⟨sb, 0, none⟩)) := BoxN.c0 (W := wr) (t := 52) (hK B3 _ _ _ b3 y3 (by decide) (by decide))
      have cc1 := hS.c1
      unfold dEnc at hyy
      rw [hb] at hyy
      have hsn : ss.take (i + 1) = ss.take i ++ [k] := by rw [List.take_succ_eq_append_getElem hin, hk]
      obtain ⟨X, hX⟩ : ∃ X, max A (k * 256) = X := ⟨_, rfl⟩
      obtain ⟨Y, hYY⟩ : ∃ Y, min (A + m) (k * 256 + 256) = Y := ⟨_, rfl⟩
      rw [hX, hYY] at hyy
      have q1 : 0 ≤ X := by omega
      have q2 : X < 4294967296 := by omega
      obtain ⟨o, ho⟩ : ∃ o, X - k * 256 = o := ⟨_, rfl⟩
      obtain ⟨u, hu⟩ : ∃ u, Y - k * 256 = u := ⟨_, rfl⟩
      have q3 : 0 ≤ o := by omega
      have q4 : o ≤ u := by omega
      have q5 : u ≤ 256 := by omega
      have q6 : (Y - X).toNat = u.toNat - o.toNat := by omega
      have q7 : ¬ (256 = o.toNat) := by omega
      rw [q6, ho] at hyy
      clear q6
      simp only [Option.getD_some] at hyy
      have kk0 : 0 ≤ k := by omega
      have kk1 : k < 16777216 := by omega
      have HSN : Hid _ := hsn
      have HKK : Hid (KpS B0 w1 wr) := hK
      clear hsn hcur hgg hK hgr hk hY
      obtain ⟨fn, tmps, assign, body, hy, hR⟩ := hyy
      gi_wp2
      refine hR.mono ?_
      rintro e W3 ⟨rfl, hJ3, hK3⟩
      gi_wp2
      go_roundw
      case rel => exact ⟨i + 1, by omega, by simp, by rw [HSN.out]; exact hJ3, HKK.out.trans hK3⟩
      case measure => simp only [intOf]; omega
    · have hie : i = ss.length := by omega
      subst hie
      gi_wp2
      go_end0
      rw [List.take_length] at hJi
      exact ⟨⟨_, rfl⟩, ss, hbt', hJi⟩
/-- The iterator's value, in the world behind dirtyRows. -/
theorem dRows_seq (n : Nat) (hn : 1 ≤ n) (sb : Nat) (L : SLay) (A c : Int) (hA : U4 A) (hc0 : -9223372036854775808 ≤ c) (hc1 : c ≤ 9223372036854775807) (m : Nat) (hm : (m : Int) = max 0 (min c (4294967296 - A)))
    (I : List Int → World → Prop) (hI : ∀ pre W, I pre W → DR sb L pre W) (B0 : Nat) (w : World) (h0 : B0 ≤ w.heap.size) :
    SeqI Fence.wide n Try.prog 100 #[.pointer (some ⟨w.heap.size + 1, 0, none⟩), .pointer (some ⟨w.heap.size + 1 + 1, 0, none⟩), .pointer (some ⟨w.heap.size, 0, none⟩)] (dEnc L A m) (KpS B0)
      (fun pre x => x ∉ pre ∧ A / 256 ≤ x ∧ x < (A + m + 255) / 256 ∧ (L.bk x).isSome) I (Betw L.bk (A / 256) ((A + m + 255) / 256))
      (((w.alloc (.cells #[.pointer (some ⟨sb, 0, none⟩)] 52)).alloc (.cells #[.int .u32 A] 33)).alloc (.cells #[.int .i64 c] 3)) := by
  intro l J W hJI hW hJ hY hJ0
  have x3 : BoxN (((w.alloc (.cells #[.pointer (some ⟨sb, 0, none⟩)] 52)).alloc (.cells #[.int .u32 A] 33)).alloc (.cells #[.int .i64 c] 3)) w.heap.size 52 #[.pointer (some ⟨sb, 0, none⟩)] :=
    BoxN.bl (BoxN.bl (BoxN.new w _ _) (bl_alloc (Below.refl _ _) _)) (bl_alloc (Below.refl _ _) _)
  have x1 : BoxN (((w.alloc (.cells #[.pointer (some ⟨sb, 0, none⟩)] 52)).alloc (.cells #[.int .u32 A] 33)).alloc (.cells #[.int .i64 c] 3)) (w.heap.size + 1) 33 #[.int .u32 A] := by
    have := BoxN.new (w.alloc (.cells #[.pointer (some ⟨sb, 0, none⟩)] 52)) 33 #[.int .u32 A]
    rw [World.size_alloc] at this
    exact this.bl (bl_alloc (Below.refl _ _) _)
  have x2 : BoxN (((w.alloc (.cells #[.pointer (some ⟨sb, 0, none⟩)] 52)).alloc (.cells #[.int .u32 A] 33)).alloc (.cells #[.int .i64 c] 3)) (w.heap.size + 1 + 1) 3 #[.int .i64 c] := by
    have := BoxN.new ((w.alloc (.cells #[.pointer (some ⟨sb, 0, none⟩)] 52)).alloc (.cells #[.int .u32 A] 33)) 3 #[.int .i64 c]
    rwa [World.size_alloc, World.size_alloc] at this
  have sz := hW.size
  simp only [World.size_alloc] at sz
  exact dRows1_in n hn l B0 (w.heap.size + 1) (w.heap.size + 1 + 1) w.heap.size sb L A c hA hc0 hc1 m hm (by omega) (by omega) h0 J (fun pre W h => hI pre W (hJI pre W h)) hY W (by omega) hJ (x1.bl hW) (x2.bl hW) (x3.bl hW) hJ0
end Go.Proofs.Ytgebmedkhakhfaa
