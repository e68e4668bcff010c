/- LAYER 7's walks: Put. -/
import Derived.Test.YtkffkmiegmaoiaaPolApp
namespace Go.Proofs.Ytkffkmiegmaoiaa
open Go.ChangeShapes Go.WideShapes Go.ChangeAt Go.RowKit

theorem Pol.take_flat {α β : Type} (f : α → List β) {l : List α} {k : Nat} {x : α} (h : l[k]? = some x) : (l.take (k + 1)).flatMap f = (l.take k).flatMap f ++ f x := by
  rw [List.take_add_one, h]; simp
set_option maxHeartbeats 1000000 in
set_option maxRecDepth 100000 in
theorem appendWord_c {w0 wr : World} {v : Value} {l : List Int} (x : Int) (x0 : 0 ≤ x) (x1 : x < 4294967296) (hown : Own8 w0 wr v l) (hbw : Bw w0 wr) (hn : l.length ≤ 10000) :
    Calls Try.prog 26 #[v, .int .u32 x] wr fun e w' => ∃ v', e = .returned v' ∧ Own8 w0 w' v' (l ++ Pol.le4 x) ∧ Bw w0 w' ∧ Ap wr w' v v' := by
  obtain ⟨v', w', hr, h2, h3, h4⟩ := app8 hown hbw (Pol.le4 x) (by simp [Pol.le4]) (by simp [Pol.le4]; omega) 4
  have hr2 : (Builtin.append_ #[30, 30] 30 #[v, .slice (some ⟨wr.heap.size, 0, none⟩) 4 4]).run Try.prog (wr.alloc (.cells #[.int .u8 (x % 256), .int .u8 (x / 256 % 256), .int .u8 (x / 65536 % 256), .int .u8 (x / 16777216)] 5)) = .ok v' w' := hr
  clear hr
  go_enter Try.func26, Try.ntmps26
  go_wp2_with (first | (at_builtin; refine wpApp rfl _ _ 30 rfl rfl rfl hr2 ?_) | go_in)
  go_returns
  exact ⟨v', rfl, h2, h3, h4⟩
set_option maxHeartbeats 4000000 in
set_option maxRecDepth 100000 in
theorem Put_c (v : Value) (p : Pol.Plc) (w : World) (hv : IsPol w v p) (hl : p.srcs.length ≤ 1000 ∧ p.snks.length ≤ 1000) :
    Calls Try.prog 11 #[v] w fun e w' => ∃ u, e = .returned (.tuple #[u, .int .i64 (if Pol.ok p then 0 else 1)]) ∧ Own8 w w' u (if Pol.ok p then Pol.put p else []) ∧ Bw w w' := by
  have hS := fun w' (h : Bw w w') => stands_c v p w' (hv.bw h)
  obtain ⟨v1, v2, rfl, h1, h2⟩ := hv
  have hw1 := h1.2
  have hw2 := h2.2
  obtain ⟨q1, cap1, rfl, hc1, hc2, hcell1⟩ := h1.open
  obtain ⟨q2, cap2, rfl, hd1, hd2, hcell2⟩ := h2.open
  clear h1 h2
  by_cases hok : Pol.ok p = true
  rotate_left
  · rw [if_neg hok, if_neg hok]
    rw [Bool.eq_false_iff.2 hok] at hS
    clear hok
    go_enter Try.func11, Try.ntmps11
    go_wp2_with (go_at_call 25; refine (hS _ ((Bw.refl _).alloc _)).mono ?_; rintro e w2 ⟨rfl, hb2⟩)
    go_returns
    exact ⟨_, rfl, Own8.nil _ _, ((Bw.refl _).alloc _).trans hb2⟩
  · rw [if_pos hok, if_pos hok]
    rw [hok] at hS
    go_enter Try.func11, Try.ntmps11
    go_wp2_with fail
    refine (hS _ ((Bw.refl _).alloc _)).mono ?_
    rintro e w2 ⟨rfl, hb2⟩
    obtain ⟨wB, hwB, hb2, hx0, hx1, hx2⟩ : ∃ wB, Bw w wB ∧ Bw wB w2 ∧ wB.cell? ⟨w.heap.size, 0, none⟩ = some (.bool p.ptr) ∧ wB.cell? ⟨w.heap.size, 1, none⟩ = some (.slice q1 p.srcs.length cap1) ∧ wB.cell? ⟨w.heap.size, 2, none⟩ = some (.slice q2 p.snks.length cap2) :=
      ⟨_, (Bw.refl w).alloc _, hb2, by rw [World.cell?_alloc_at _ _ _ _ (by simp)]; rfl, by rw [World.cell?_alloc_at _ _ _ _ (by simp)]; rfl, by rw [World.cell?_alloc_at _ _ _ _ (by simp)]; rfl⟩
    have kc := Lib.run_convert_bytes_const (P := Try.prog) w2 30 5 #[.int .u8 84, .int .u8 80, .int .u8 49] 3 3 Try.underlying30 Try.underlying5
    have hbB := hb2.alloc (.cells #[.int .u8 84, .int .u8 80, .int .u8 49] 5 (3, 4))
    have hb1 := hbB.keep hx1
    have ho : Own8 wB (w2.alloc (.cells #[.int .u8 84, .int .u8 80, .int .u8 49] 5 (3, 4))) (.slice (some ⟨w2.heap.size, 0, none⟩) 3 3) [84, 80, 49] := Own8.marked hb2.size [84, 80, 49] (by decide) (3, 4) (Or.inr rfl)
    obtain ⟨v3, w3, hr3, ho3, hb3, ha3⟩ := app8 ho hbB [0, (p.srcs.length : Int)] (by simp) (by simp) 2
    simp only [World.size_alloc] at hr3
    have hr4 : (Builtin.append_ #[30, 30] 30 #[.slice (some ⟨w2.heap.size, 0, none⟩) 3 3, .slice (some ⟨w2.heap.size + 1, 0, none⟩) 2 2]).run Try.prog ((w2.alloc (.cells #[.int .u8 84, .int .u8 80, .int .u8 49] 5 (3, 4))).alloc (.cells #[.int .u8 0, .int .u8 (p.srcs.length : Int)] 5)) = .ok v3 w3 := hr3
    have hl32 : p.srcs.length ≤ 32 ∧ p.snks.length ≤ 32 := by
      unfold Pol.ok at hok; simp only [Bool.and_eq_true, decide_eq_true_eq] at hok; exact ⟨hok.1.1.1, hok.1.1.2⟩
    obtain ⟨l1, l2⟩ := hl32
    obtain ⟨l1i, l2i⟩ : (p.srcs.length : Int) ≤ 32 ∧ (p.snks.length : Int) ≤ 32 := by omega
    have hl8 : (p.srcs.length : Int) % 256 = p.srcs.length := by omega
    have hk8 : (p.snks.length : Int) % 256 = p.snks.length := by omega
    obtain ⟨g, cap, rfl, hg1, hg2, hg3, hg4, hgc, hgf⟩ := ho3.form (by simp)
    simp only [List.length_append, List.length_cons, List.length_nil, Nat.reduceAdd] at *
    have hy0 := hb3.keep hx0
    have hf3 := hgf 3 (by omega)
    have hc3 := hgc 3 0 rfl
    clear hS hr3 hgf hgc
    have hQ : ∃ wx, (if p.ptr then w3.setCell ⟨g, 3, none⟩ (.int .u8 1) else w3) = wx ∧ Own8 wB wx (.slice (some ⟨g, 0, none⟩) 5 cap) (Pol.head p) ∧ Bw wB wx := by
      by_cases hp : p.ptr = true
      · refine ⟨_, rfl, ?_, ?_⟩
        · rw [if_pos hp]
          have := Own8.set (l := [84, 80, 49] ++ [0, (p.srcs.length : Int)]) ho3 3 (by simp) 1
          unfold Pol.head
          rw [if_pos hp]
          exact this
        · rw [if_pos hp]; exact hb3.setCell (by exact hg1) _
      · refine ⟨_, rfl, ?_, ?_⟩
        · rw [if_neg hp]; unfold Pol.head; rw [if_neg hp]; exact ho3
        · rw [if_neg hp]; exact hb3
    obtain ⟨wx, hwx, hox, hbx⟩ := hQ
    have hz1 := hbx.keep hx1
    have HW : Hid (p.srcs.all Pol.srcOk = true) := by unfold Pol.ok at hok; simp only [Bool.and_eq_true] at hok; exact hok.1.2
    have HW2 : Hid (p.snks.all Pol.snkOk = true) := by unfold Pol.ok at hok; simp only [Bool.and_eq_true] at hok; exact hok.2
    clear hok
    rcases hp : p.ptr
    all_goals
      rw [hp] at hy0 hwx
      simp only [if_true, if_false, Bool.false_eq_true] at hwx
    · subst hwx
      go_wp2_with (first | (at_builtin; refine wpApp rfl _ _ 30 rfl rfl rfl hr4 ?_) | go_in)
      have HP : Hid _ := hp
      clear hp hr4 ho hbB ha3 hy0 hb1 hz1 kc hf3 hc3 hg3 hg4 hl
      go_loopg [4, 27] p.srcs.length (fun g u i wr => ∃ k : Nat, k + g = p.srcs.length ∧ i = .int .i64 k ∧ Own8 wB wr u (Pol.head p ++ (p.srcs.take k).flatMap Pol.srcB) ∧ Bw wB wr)
      case atStart => exact ⟨0, by omega, rfl, by simpa using hox, hbx⟩
      case round =>
        obtain ⟨k, hkg, rfl, hown, hbw⟩ := hrel
        have hlen : (Pol.head p ++ (p.srcs.take k).flatMap Pol.srcB).length = 5 + k * 10 := by
          rw [List.length_append, chunk_len Pol.srcB 10 Pol.srcB_len, List.length_take]; simp [Pol.head]; omega
        by_cases hk : k = p.srcs.length
        · subst hk
          rw [List.take_length] at hown hlen
          have hz2 := hbw.keep hx2
          obtain ⟨v5, w5, hr5, ho5, hb5, ha5⟩ := app8 hown hbw [(p.snks.length : Int)] (by simp) (by rw [hlen]; simp; omega) 1
          have hr6 : (Builtin.append_ #[30, 30] 30 #[u4, .slice (some ⟨wr.heap.size, 0, none⟩) 1 1]).run Try.prog (wr.alloc (.cells #[.int .u8 (p.snks.length : Int)] 5)) = .ok v5 w5 := hr5
          have hz5 := hb5.keep hx2
          clear hr5
          go_wp2_with (at_builtin; refine wpApp rfl _ _ 30 rfl rfl rfl hr6 ?_)
          have hcell3 := fun i s (h : p.snks[i]? = some s) => hcell2 i s h
          clear hz2 hr6 ha5 hcell2
          go_loopg [4, 61] p.snks.length (fun g u i wy => ∃ k : Nat, k + g = p.snks.length ∧ i = .int .i64 k ∧ Own8 wB wy u (Pol.head p ++ p.srcs.flatMap Pol.srcB ++ [(p.snks.length : Int)] ++ (p.snks.take k).flatMap Pol.snkB) ∧ Bw wB wy)
          case atStart => exact ⟨0, by omega, rfl, by simpa using ho5, hb5⟩
          case round =>
            obtain ⟨k, hkg, rfl, hown2, hbw2⟩ := hrel
            have hlen2 : (Pol.head p ++ p.srcs.flatMap Pol.srcB ++ [(p.snks.length : Int)] ++ (p.snks.take k).flatMap Pol.snkB).length = 6 + p.srcs.length * 10 + k * 3 := by
              rw [List.length_append, List.length_append, hlen, chunk_len Pol.snkB 3 Pol.snkB_len, List.length_take]; simp; omega
            by_cases hk : k = p.snks.length
            · subst hk
              rw [List.take_length] at hown2
              go_wp2_with fail
              go_returns
              exact ⟨_, rfl, hown2.le hwB.size, hwB.trans hbw2⟩
            · have hkl : k < p.snks.length := by omega
              have hki : (k : Int) < (p.snks.length : Int) := by omega
              obtain ⟨s, hs, hd⟩ := Pol.drop_at hkl
              obtain ⟨b, o, rfl, hb, c0, c1, c2⟩ := hcell3 k s hs
              have hbR := hwB.trans hbw2
              replace c0 := hbR.keep c0
              replace c1 := hbR.keep c1
              replace c2 := hbR.keep c2
              have hso := Pol.snkOk_bd ((List.all_eq_true.1 HW2) s (List.mem_of_getElem? hs))
              obtain ⟨v6, w6, hr7, ho6, hb6, ha6⟩ := app8 (hown2.bw ((Bw.refl _).alloc (.cells #[.int .i64 s.kind, .int .i64 s.arg, .int .u8 s.mask] 37))) (hbw2.alloc _) (Pol.snkB s) (by simp [Pol.snkB]) (by rw [hlen2]; simp [Pol.snkB]; omega) 3
              simp only [World.size_alloc] at hr7
              have hr8 : (Builtin.append_ #[30, 30] 30 #[u4, .slice (some ⟨wr.heap.size + 1, 0, none⟩) 3 3]).run Try.prog ((wr.alloc (.cells #[.int .i64 s.kind, .int .i64 s.arg, .int .u8 s.mask] 37)).alloc (.cells #[.int .u8 (s.kind % 256), .int .u8 (s.arg % 256), .int .u8 s.mask] 5)) = .ok v6 w6 := hr7
              have HT : Hid _ := Pol.take_flat Pol.snkB hs
              clear hr7 hd hs hso
              go_wp2_with (first | (at_builtin; refine wpApp rfl _ _ 30 rfl rfl rfl hr8 ?_) | go_in)
              go_roundg (p.snks.length - (k + 1))
              case measure => omega
              case rel => exact ⟨k + 1, by omega, by simp, by rw [show _ = _ from HT, ← List.append_assoc]; exact ho6, hb6⟩
        · have hkl : k < p.srcs.length := by omega
          have hki : (k : Int) < (p.srcs.length : Int) := by omega
          obtain ⟨s, hs, hd⟩ := Pol.drop_at hkl
          obtain ⟨b, o, rfl, hb, c0, c1, c2, c3⟩ := hcell1 k s hs
          have hbR := hwB.trans hbw
          replace c0 := hbR.keep c0
          replace c1 := hbR.keep c1
          replace c2 := hbR.keep c2
          replace c3 := hbR.keep c3
          obtain ⟨_, _, sa0, sa1, sl0, sl1, _, _⟩ := hw1 s (List.mem_of_getElem? hs)
          have HT : Hid _ := Pol.take_flat Pol.srcB hs
          have hno : u4.ownBlock ≠ some wr.heap.size := fun e => by have := (hown.blk _ e).2; omega
          have HNo : Hid _ := hno
          clear hno hd hs
          have d1 : (wr.alloc (.cells #[.int .i64 s.kind, .int .u32 s.arg, .int .u32 s.len, .int .u8 s.label] 35)).cell? ⟨wr.heap.size, 1, none⟩ = some (.int .u32 s.arg) := by rw [World.cell?_alloc_at _ _ _ _ (by simp)]; rfl
          have d2 : (wr.alloc (.cells #[.int .i64 s.kind, .int .u32 s.arg, .int .u32 s.len, .int .u8 s.label] 35)).cell? ⟨wr.heap.size, 2, none⟩ = some (.int .u32 s.len) := by rw [World.cell?_alloc_at _ _ _ _ (by simp)]; rfl
          have d3 : (wr.alloc (.cells #[.int .i64 s.kind, .int .u32 s.arg, .int .u32 s.len, .int .u8 s.label] 35)).cell? ⟨wr.heap.size, 3, none⟩ = some (.int .u8 s.label) := by rw [World.cell?_alloc_at _ _ _ _ (by simp)]; rfl
          obtain ⟨v5, w5, hr5, ho5, hb5, ha5⟩ := app8 (hown.bw ((Bw.refl _).alloc (.cells #[.int .i64 s.kind, .int .u32 s.arg, .int .u32 s.len, .int .u8 s.label] 35))) (hbw.alloc _) [s.kind % 256] (by simp) (by rw [hlen]; simp; omega) 1
          simp only [World.size_alloc] at hr5
          have hr6 : (Builtin.append_ #[30, 30] 30 #[u4, .slice (some ⟨wr.heap.size + 1, 0, none⟩) 1 1]).run Try.prog ((wr.alloc (.cells #[.int .i64 s.kind, .int .u32 s.arg, .int .u32 s.len, .int .u8 s.label] 35)).alloc (.cells #[.int .u8 (s.kind % 256)] 5)) = .ok v5 w5 := hr5
          have e1 := (ha5.cell (p := ⟨wr.heap.size, 1, none⟩) (by simp) HNo).trans d1
          have e2 := (ha5.cell (p := ⟨wr.heap.size, 2, none⟩) (by simp) HNo).trans d2
          have e3 := (ha5.cell (p := ⟨wr.heap.size, 3, none⟩) (by simp) HNo).trans d3
          have hA1 := appendWord_c s.arg sa0 sa1 ho5 hb5 (by rw [List.length_append, hlen]; simp; omega)
          clear hr5
          go_wp2_with (at_builtin; refine wpApp rfl _ _ 30 rfl rfl rfl hr6 ?_)
          refine hA1.mono ?_
          rintro e w6 ⟨v6, rfl, ho6, hb6, ha6⟩
          clear hA1
          have ha6' := ha5.trans ha6
          have f2 := (ha6'.cell (p := ⟨wr.heap.size, 2, none⟩) (by simp) HNo).trans d2
          have f3 := (ha6'.cell (p := ⟨wr.heap.size, 3, none⟩) (by simp) HNo).trans d3
          have hA2 := appendWord_c s.len sl0 sl1 ho6 hb6 (by rw [List.length_append, List.length_append, hlen]; simp [Pol.le4]; omega)
          clear e1 e2 e3
          go_wp2_with fail
          refine hA2.mono ?_
          rintro e w7 ⟨v7, rfl, ho7, hb7, ha7⟩
          clear hA2
          have ha7' := ha6'.trans ha7
          have g3 := (ha7'.cell (p := ⟨wr.heap.size, 3, none⟩) (by simp) HNo).trans d3
          obtain ⟨v8, w8, hr9, ho8, hb8, ha8⟩ := app8 ho7 hb7 [s.label] (by simp) (by rw [List.length_append, List.length_append, List.length_append, hlen]; simp [Pol.le4]; omega) 1
          have hr10 : (Builtin.append_ #[30, 30] 30 #[v7, .slice (some ⟨w7.heap.size, 0, none⟩) 1 1]).run Try.prog (w7.alloc (.cells #[.int .u8 s.label] 5)) = .ok v8 w8 := hr9
          clear f2 f3 hr9
          go_wp2_with (at_builtin; refine wpApp rfl _ _ 30 rfl rfl rfl hr10 ?_)
          go_roundg (p.srcs.length - (k + 1))
          case measure => omega
          case rel => exact ⟨k + 1, by omega, by simp, by rw [show _ = _ from HT, ← List.append_assoc]; simpa [Pol.srcB, List.append_assoc] using ho8, hb8⟩
    · go_wp2_with (first | (at_builtin; refine wpApp rfl _ _ 30 rfl rfl rfl hr4 ?_) | go_in)
      have HP : Hid _ := hp
      clear hp hr4 ho hbB ha3 hy0 hb1 hz1 kc hf3 hc3 hg3 hg4 hl
      go_loopg [4, 27] p.srcs.length (fun g u i wr => ∃ k : Nat, k + g = p.srcs.length ∧ i = .int .i64 k ∧ Own8 wB wr u (Pol.head p ++ (p.srcs.take k).flatMap Pol.srcB) ∧ Bw wB wr)
      case atStart => exact ⟨0, by omega, rfl, by simpa using hox, hbx⟩
      case round =>
        obtain ⟨k, hkg, rfl, hown, hbw⟩ := hrel
        have hlen : (Pol.head p ++ (p.srcs.take k).flatMap Pol.srcB).length = 5 + k * 10 := by
          rw [List.length_append, chunk_len Pol.srcB 10 Pol.srcB_len, List.length_take]; simp [Pol.head]; omega
        by_cases hk : k = p.srcs.length
        · subst hk
          rw [List.take_length] at hown hlen
          have hz2 := hbw.keep hx2
          obtain ⟨v5, w5, hr5, ho5, hb5, ha5⟩ := app8 hown hbw [(p.snks.length : Int)] (by simp) (by rw [hlen]; simp; omega) 1
          have hr6 : (Builtin.append_ #[30, 30] 30 #[u4, .slice (some ⟨wr.heap.size, 0, none⟩) 1 1]).run Try.prog (wr.alloc (.cells #[.int .u8 (p.snks.length : Int)] 5)) = .ok v5 w5 := hr5
          have hz5 := hb5.keep hx2
          clear hr5
          go_wp2_with (at_builtin; refine wpApp rfl _ _ 30 rfl rfl rfl hr6 ?_)
          have hcell3 := fun i s (h : p.snks[i]? = some s) => hcell2 i s h
          clear hz2 hr6 ha5 hcell2
          go_loopg [4, 61] p.snks.length (fun g u i wy => ∃ k : Nat, k + g = p.snks.length ∧ i = .int .i64 k ∧ Own8 wB wy u (Pol.head p ++ p.srcs.flatMap Pol.srcB ++ [(p.snks.length : Int)] ++ (p.snks.take k).flatMap Pol.snkB) ∧ Bw wB wy)
          case atStart => exact ⟨0, by omega, rfl, by simpa using ho5, hb5⟩
          case round =>
            obtain ⟨k, hkg, rfl, hown2, hbw2⟩ := hrel
            have hlen2 : (Pol.head p ++ p.srcs.flatMap Pol.srcB ++ [(p.snks.length : Int)] ++ (p.snks.take k).flatMap Pol.snkB).length = 6 + p.srcs.length * 10 + k * 3 := by
              rw [List.length_append, List.length_append, hlen, chunk_len Pol.snkB 3 Pol.snkB_len, List.length_take]; simp; omega
            by_cases hk : k = p.snks.length
            · subst hk
              rw [List.take_length] at hown2
              go_wp2_with fail
              go_returns
              exact ⟨_, rfl, hown2.le hwB.size, hwB.trans hbw2⟩
            · have hkl : k < p.snks.length := by omega
              have hki : (k : Int) < (p.snks.length : Int) := by omega
              obtain ⟨s, hs, hd⟩ := Pol.drop_at hkl
              obtain ⟨b, o, rfl, hb, c0, c1, c2⟩ := hcell3 k s hs
              have hbR := hwB.trans hbw2
              replace c0 := hbR.keep c0
              replace c1 := hbR.keep c1
              replace c2 := hbR.keep c2
              have hso := Pol.snkOk_bd ((List.all_eq_true.1 HW2) s (List.mem_of_getElem? hs))
              obtain ⟨v6, w6, hr7, ho6, hb6, ha6⟩ := app8 (hown2.bw ((Bw.refl _).alloc (.cells #[.int .i64 s.kind, .int .i64 s.arg, .int .u8 s.mask] 37))) (hbw2.alloc _) (Pol.snkB s) (by simp [Pol.snkB]) (by rw [hlen2]; simp [Pol.snkB]; omega) 3
              simp only [World.size_alloc] at hr7
              have hr8 : (Builtin.append_ #[30, 30] 30 #[u4, .slice (some ⟨wr.heap.size + 1, 0, none⟩) 3 3]).run Try.prog ((wr.alloc (.cells #[.int .i64 s.kind, .int .i64 s.arg, .int .u8 s.mask] 37)).alloc (.cells #[.int .u8 (s.kind % 256), .int .u8 (s.arg % 256), .int .u8 s.mask] 5)) = .ok v6 w6 := hr7
              have HT : Hid _ := Pol.take_flat Pol.snkB hs
              clear hr7 hd hs hso
              go_wp2_with (first | (at_builtin; refine wpApp rfl _ _ 30 rfl rfl rfl hr8 ?_) | go_in)
              go_roundg (p.snks.length - (k + 1))
              case measure => omega
              case rel => exact ⟨k + 1, by omega, by simp, by rw [show _ = _ from HT, ← List.append_assoc]; exact ho6, hb6⟩
        · have hkl : k < p.srcs.length := by omega
          have hki : (k : Int) < (p.srcs.length : Int) := by omega
          obtain ⟨s, hs, hd⟩ := Pol.drop_at hkl
          obtain ⟨b, o, rfl, hb, c0, c1, c2, c3⟩ := hcell1 k s hs
          have hbR := hwB.trans hbw
          replace c0 := hbR.keep c0
          replace c1 := hbR.keep c1
          replace c2 := hbR.keep c2
          replace c3 := hbR.keep c3
          obtain ⟨_, _, sa0, sa1, sl0, sl1, _, _⟩ := hw1 s (List.mem_of_getElem? hs)
          have HT : Hid _ := Pol.take_flat Pol.srcB hs
          have hno : u4.ownBlock ≠ some wr.heap.size := fun e => by have := (hown.blk _ e).2; omega
          have HNo : Hid _ := hno
          clear hno hd hs
          have d1 : (wr.alloc (.cells #[.int .i64 s.kind, .int .u32 s.arg, .int .u32 s.len, .int .u8 s.label] 35)).cell? ⟨wr.heap.size, 1, none⟩ = some (.int .u32 s.arg) := by rw [World.cell?_alloc_at _ _ _ _ (by simp)]; rfl
          have d2 : (wr.alloc (.cells #[.int .i64 s.kind, .int .u32 s.arg, .int .u32 s.len, .int .u8 s.label] 35)).cell? ⟨wr.heap.size, 2, none⟩ = some (.int .u32 s.len) := by rw [World.cell?_alloc_at _ _ _ _ (by simp)]; rfl
          have d3 : (wr.alloc (.cells #[.int .i64 s.kind, .int .u32 s.arg, .int .u32 s.len, .int .u8 s.label] 35)).cell? ⟨wr.heap.size, 3, none⟩ = some (.int .u8 s.label) := by rw [World.cell?_alloc_at _ _ _ _ (by simp)]; rfl
          obtain ⟨v5, w5, hr5, ho5, hb5, ha5⟩ := app8 (hown.bw ((Bw.refl _).alloc (.cells #[.int .i64 s.kind, .int .u32 s.arg, .int .u32 s.len, .int .u8 s.label] 35))) (hbw.alloc _) [s.kind % 256] (by simp) (by rw [hlen]; simp; omega) 1
          simp only [World.size_alloc] at hr5
          have hr6 : (Builtin.append_ #[30, 30] 30 #[u4, .slice (some ⟨wr.heap.size + 1, 0, none⟩) 1 1]).run Try.prog ((wr.alloc (.cells #[.int .i64 s.kind, .int .u32 s.arg, .int .u32 s.len, .int .u8 s.label] 35)).alloc (.cells #[.int .u8 (s.kind % 256)] 5)) = .ok v5 w5 := hr5
          have e1 := (ha5.cell (p := ⟨wr.heap.size, 1, none⟩) (by simp) HNo).trans d1
          have e2 := (ha5.cell (p := ⟨wr.heap.size, 2, none⟩) (by simp) HNo).trans d2
          have e3 := (ha5.cell (p := ⟨wr.heap.size, 3, none⟩) (by simp) HNo).trans d3
          have hA1 := appendWord_c s.arg sa0 sa1 ho5 hb5 (by rw [List.length_append, hlen]; simp; omega)
          clear hr5
          go_wp2_with (at_builtin; refine wpApp rfl _ _ 30 rfl rfl rfl hr6 ?_)
          refine hA1.mono ?_
          rintro e w6 ⟨v6, rfl, ho6, hb6, ha6⟩
          clear hA1
          have ha6' := ha5.trans ha6
          have f2 := (ha6'.cell (p := ⟨wr.heap.size, 2, none⟩) (by simp) HNo).trans d2
          have f3 := (ha6'.cell (p := ⟨wr.heap.size, 3, none⟩) (by simp) HNo).trans d3
          have hA2 := appendWord_c s.len sl0 sl1 ho6 hb6 (by rw [List.length_append, List.length_append, hlen]; simp [Pol.le4]; omega)
          clear e1 e2 e3
          go_wp2_with fail
          refine hA2.mono ?_
          rintro e w7 ⟨v7, rfl, ho7, hb7, ha7⟩
          clear hA2
          have ha7' := ha6'.trans ha7
          have g3 := (ha7'.cell (p := ⟨wr.heap.size, 3, none⟩) (by simp) HNo).trans d3
          obtain ⟨v8, w8, hr9, ho8, hb8, ha8⟩ := app8 ho7 hb7 [s.label] (by simp) (by rw [List.length_append, List.length_append, List.length_append, hlen]; simp [Pol.le4]; omega) 1
          have hr10 : (Builtin.append_ #[30, 30] 30 #[v7, .slice (some ⟨w7.heap.size, 0, none⟩) 1 1]).run Try.prog (w7.alloc (.cells #[.int .u8 s.label] 5)) = .ok v8 w8 := hr9
          clear f2 f3 hr9
          go_wp2_with (at_builtin; refine wpApp rfl _ _ 30 rfl rfl rfl hr10 ?_)
          go_roundg (p.srcs.length - (k + 1))
          case measure => omega
          case rel => exact ⟨k + 1, by omega, by simp, by rw [show _ = _ from HT, ← List.append_assoc]; simpa [Pol.srcB, List.append_assoc] using ho8, hb8⟩
end Go.Proofs.Ytkffkmiegmaoiaa
