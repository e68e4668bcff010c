/- LAYER 8's walks: Get. -/
import Derived.Test.YtaejcbmmapcpgaaImgW7
import Derived.Test.YtaejcbmmapcpgaaImgSeg
namespace Go.Proofs.Ytaejcbmmapcpgaa
open Go.ChangeShapes Go.WideShapes Go.ChangeAt Go.RowKit

/-- Get's answer. -/
def IGetPost (L : List Int) (w : World) (e : Ending) (w' : World) : Prop := ∃ u, e = .returned (.tuple #[u, .int .i64 (Img.get L).2]) ∧ IsImg w' u (Img.get L).1 ∧ Bw w w'
theorem iget_bad {L : List Int} {w w' : World} {E : Int} (h : Img.get L = (Img.none0, E)) (g : Bw w w') : IGetPost L w (.returned (.tuple #[.agg #[.int .u32 0, .slice none 0 0], .int .i64 E])) w' := by
  refine ⟨_, by rw [h], ?_, g⟩
  rw [h]
  exact ⟨_, rfl, SegS.nil _, Int.le_refl 0, by show (0 : Int) < _; decide⟩
theorem SegQ.form {T : Nat} {a w : World} {v : Value} {l : List Img.Seg} (h : SegQ T a w v l) (h0 : 0 < l.length) : ∃ g c, v = .slice (some ⟨g, 0, none⟩) l.length c := by
  obtain ⟨us, h1, h2, h3, h4⟩ := h
  exact OwnR.form h2 h0
theorem iget_ok {T : Nat} {L : List Int} {w w6 wA : World} {E : Int} {l : List Img.Seg} {u : Value} (h : Img.get L = (⟨E, l⟩, 0)) (hS : SegQ T wA w6 u l) (hp : w.heap.size < wA.heap.size) (e0 : 0 ≤ E) (e1 : E < 4294967296) (g : Bw w w6) (v0 v1 : Value) :
    IGetPost L w (.returned (.tuple #[.agg #[.int .u32 E, u], .int .i64 0])) ((w6.setCell ⟨w.heap.size, 0, none⟩ v0).setCell ⟨w.heap.size, 1, none⟩ v1) := by
  have hQ := ((Bq.refl w.heap.size w6).set 0 v0).set 1 v1
  refine ⟨_, by rw [h], ?_, hQ.toBw g (Nat.le_refl _)⟩
  rw [h]
  exact ⟨u, rfl, hS.q hp hQ, e0, e1⟩
set_option maxHeartbeats 4000000 in
set_option maxRecDepth 100000 in
theorem IGet_c (v : Value) (L : List Int) (w : World) (hv : Rd8 w v L) (h8 : B8s L) : Calls Try.prog 10 #[v] w (IGetPost L w) := by
  have hHS := fun X (g : Bw w X) => headStands_c v L X (hv.bw g) h8
  have hRS := fun X (g : Bw w X) k hl hk => readSegment_c v L k X (hv.bw g) h8 hl hk
  have hGet : Img.get L = (if 65536 < L.length then (Img.none0, 2) else if Img.headOk L = false then (Img.none0, 3) else if 8 < Img.half L 44 then (Img.none0, 2)
    else match Img.segsTo L (Img.half L 44).toNat with
      | none => (Img.none0, 3)
      | some l => if Img.good ⟨Img.word L 24, l⟩ ≠ 0 then (Img.none0, Img.good ⟨Img.word L 24, l⟩) else (⟨Img.word L 24, l⟩, 0)) := rfl
  have HGet : Hid _ := hGet
  clear hGet
  obtain ⟨q, cap, rfl, hc1, hc2, hcell⟩ := hv.open
  have hRB := Box.new w [.int .u32 0, .slice none 0 0] 26
  have hbw0 : Bw w (w.alloc (.cells #[.int .u32 0, .slice none 0 0] 26)) := (Bw.refl w).alloc _
  by_cases hbig : 65536 < L.length
  · have hbi : (65536 : Int) < L.length := by omega
    have HN : Hid (Img.get L = (Img.none0, 2)) := by show _ = _; rw [show _ = _ from HGet, if_pos hbig]
    go_enter Try.func10, Try.ntmps10
    go_wp2_with fail
    go_returns
    exact iget_bad HN (by (repeat' (first | (with_reducible assumption) | (with_reducible exact Bw.refl _) | (with_reducible refine Bw.alloc ?_ _) | (with_reducible refine Bw.drew ?_) | (with_reducible refine Bw.drewN ?_ _) | (with_reducible refine Bw.setCell ?_ ?_ _) | exact Nat.le_refl _)))
  have hbi : (L.length : Int) ≤ 65536 := by omega
  obtain ⟨w1, hw1⟩ : ∃ w1, w.alloc (Obj.cells #[Value.int IntKind.u32 0, Value.slice none 0 0] 26) = w1 := ⟨_, rfl⟩
  have hRB : Box w1 w.heap.size [.int .u32 0, .slice none 0 0] := hw1 ▸ hRB
  have hbw0 : Bw w w1 := hw1 ▸ hbw0
  have hH := hHS _ hbw0
  obtain ⟨HO, hHO⟩ : ∃ x, Img.headOk L = x := ⟨_, rfl⟩
  rw [hHO] at hH
  go_enter Try.func10, Try.ntmps10
  go_wp2_with fail
  refine hH.mono ?_
  rintro e w2 ⟨rfl, hb2⟩
  replace hbw0 := hbw0.trans hb2
  replace hRB := hRB.bw hb2
  clear hw1 hH hHS hb2
  have r0 := hRB.c 0 _ rfl; have r1 := hRB.c 1 _ rfl
  have q0 := hRB.f 0 (by simp); have q1 := hRB.f 1 (by simp)
  have hrl := hRB.lt
  cases HO
  · have HN : Hid (Img.get L = (Img.none0, 3)) := by show _ = _; rw [show _ = _ from HGet, if_neg hbig, if_pos hHO]
    go_wp2_with fail
    (try simp only [Exit.inBlock, Exit.then]); refine bodyPost_ret (by simp [results, Try.results10, go_sem, r0, r1]; try rfl) rfl ?_
    exact iget_bad HN (by (repeat' (first | (with_reducible assumption) | (with_reducible exact Bw.refl _) | (with_reducible refine Bw.alloc ?_ _) | (with_reducible refine Bw.drew ?_) | (with_reducible refine Bw.drewN ?_ _) | (with_reducible refine Bw.setCell ?_ ?_ _) | exact Nat.le_refl _)))
  have h52 : 52 ≤ L.length := by
    unfold Img.headOk at hHO
    simp only [Bool.and_eq_true, decide_eq_true_eq] at hHO
    exact hHO.1.1
  obtain ⟨b, o, rfl, hbl, hcl⟩ := hcell (by omega)
  obtain ⟨f1, f2, f3, f4⟩ : (24 : Int) ≤ L.length ∧ (44 : Int) ≤ L.length ∧ (24 : Int) ≤ cap ∧ (44 : Int) ≤ cap := by omega
  obtain ⟨f5, f6, f7⟩ : cap ≠ 24 ∧ cap ≠ 44 ∧ (L.length : Int) ≤ cap := by omega
  obtain ⟨E, hE⟩ : ∃ E, Img.word L 24 = E := ⟨_, rfl⟩
  obtain ⟨C, hC⟩ : ∃ C, Img.half L 44 = C := ⟨_, rfl⟩
  obtain ⟨e0, e1⟩ := Img.word_bd h8 24
  obtain ⟨k0, k1⟩ := Img.half_bd h8 44
  rw [hE] at e0 e1
  rw [hC] at k0 k1
  have hW : ∀ X, Bw w X → Calls Try.prog 21 #[.slice (some ⟨b, o + 24, none⟩) (L.length - 24) (cap - 24)] X fun e w' => e = .returned (.int .u32 E) ∧ Bw X w' := fun X g => by
    have := readWord_at w L b o h8 hcl X g (o + 24) (L.length - 24) (cap - 24) (by omega) (by omega) (by omega) (by omega)
    rwa [Nat.add_sub_cancel_left, hE] at this
  have hH : ∀ X, Bw w X → Calls Try.prog 20 #[.slice (some ⟨b, o + 44, none⟩) (L.length - 44) (cap - 44)] X fun e w' => e = .returned (.int .u16 C) ∧ Bw X w' := fun X g => by
    have := readHalf_at w L b o h8 hcl X g (o + 44) (L.length - 44) (cap - 44) (by omega) (by omega) (by omega)
    rwa [Nat.add_sub_cancel_left, hC] at this
  have hG2 : Hid (Img.get L = (if 8 < C then (Img.none0, 2) else match Img.segsTo L C.toNat with
      | none => (Img.none0, 3)
      | some l => if Img.good ⟨E, l⟩ ≠ 0 then (Img.none0, Img.good ⟨E, l⟩) else (⟨E, l⟩, 0))) := by
    show _ = _
    rw [show _ = _ from HGet, if_neg hbig, if_neg (by rw [hHO]; decide), hC, hE]
  have n1 : IntKind.i64.wrap C = C := by rw [IntKind.wrap_i64]; omega
  clear HGet hHO hcl hcell hE hC hv
  have hH2 := hH _ hbw0
  go_wp2_with fail
  refine hH2.mono ?_
  rintro e w3 ⟨rfl, hb3⟩
  replace hbw0 := hbw0.trans hb3
  replace hRB := hRB.bw hb3
  clear hH2 hb3 r0 r1 q0 q1 hrl
  have r0 := hRB.c 0 _ rfl; have r1 := hRB.c 1 _ rfl
  have q0 := hRB.f 0 (by simp); have q1 := hRB.f 1 (by simp)
  have hrl := hRB.lt
  by_cases hc8 : 8 < C
  · have HN : Hid (Img.get L = (Img.none0, 2)) := by show _ = _; rw [show _ = _ from hG2, if_pos hc8]
    go_wp2_with fail
    (try simp only [Exit.inBlock, Exit.then]); refine bodyPost_ret (by simp [results, Try.results10, go_sem, r0, r1]; try rfl) rfl ?_
    exact iget_bad HN (by (repeat' (first | (with_reducible assumption) | (with_reducible exact Bw.refl _) | (with_reducible refine Bw.alloc ?_ _) | (with_reducible refine Bw.drew ?_) | (with_reducible refine Bw.drewN ?_ _) | (with_reducible refine Bw.setCell ?_ ?_ _) | exact Nat.le_refl _)))
  obtain ⟨N, rfl⟩ := Int.eq_ofNat_of_zero_le k0
  have hG3 : Hid (Img.get L = (match Img.segsTo L N with
      | none => (Img.none0, 3)
      | some l => if Img.good ⟨E, l⟩ ≠ 0 then (Img.none0, Img.good ⟨E, l⟩) else (⟨E, l⟩, 0))) := by
    show _ = _
    rw [show _ = _ from hG2, if_neg hc8, Int.toNat_natCast]
  have hN8 : N ≤ 8 := by omega
  have hW2 := hW _ hbw0
  clear hG2 k0 k1
  go_wp2_with fail
  refine hW2.mono ?_
  rintro e w4 ⟨rfl, hb4⟩
  replace hbw0 := hbw0.trans hb4
  replace hRB := hRB.bw hb4
  clear hW2 hb4 r0 r1 q0 q1 hrl hW hH
  go_wp2_with fail
  have hIB := Box.new w4 [.int .u32 E, .slice none 0 0] 26
  obtain ⟨wA, hwA⟩ : ∃ x, w4.alloc (Obj.cells #[Value.int IntKind.u32 E, Value.slice none 0 0] 26) = x := ⟨_, rfl⟩
  rw [hwA]
  have hIB : Box wA w4.heap.size [.int .u32 E, .slice none 0 0] := hwA ▸ hIB
  have hb4A : Bw w4 wA := hwA ▸ ((Bw.refl w4).alloc _)
  have hrl4 := hRB.lt
  have hbwA := hbw0.trans hb4A
  replace hRB := hRB.bw hb4A
  clear hwA
  generalize w4.heap.size = ib at *
  have hrn : w.heap.size ≠ ib := by omega
  have hibl := hIB.lt
  have hbi2 : L.length ≤ 70000 := by omega
  replace hRS := fun X g k hk => hRS X g k hbi2 hk
  clear hb4A hbw0 hbi2
  go_loopg [30] N (fun g j wr => ∃ k : Nat, ∃ u1 : Value, ∃ l : List Img.Seg, k + g = N ∧ j = .int .i64 k ∧ l.length = k ∧ Img.segsTo L k = some l ∧ Bq ib wA wr ∧ SegQ 30 wA wr u1 l ∧ Box wr ib [.int .u32 E, u1])
  case atStart => exact ⟨0, _, [], by omega, rfl, rfl, rfl, Bq.refl _ _, SegQ.nil _ _ _, hIB⟩
  case round =>
    obtain ⟨k, u1, l, hkg, rfl, hlk, hsg, hbq, hSQ, hBX⟩ := hrel
    have hbwr := hbq.toBw hbwA (by omega)
    have hRBr := hRB.blk (hbq.block w.heap.size hRB.lt hrn)
    have hszA : wA.heap.size ≤ wr.heap.size := hbq.b0.size
    by_cases hk : k = N
    · subst hk
      subst hlk
      have r0 := hRBr.c 0 _ rfl; have r1 := hRBr.c 1 _ rfl
      have q0 := hRBr.f 0 (by simp); have q1 := hRBr.f 1 (by simp)
      have x0 := hBX.c 0 _ rfl; have x1 := hBX.c 1 _ rfl
      have hIs : IsImg wr (.agg #[.int .u32 E, u1]) ⟨E, l⟩ := ⟨u1, rfl, hSQ.s, e0, e1⟩
      have hGd := Good_c _ _ wr hIs
      obtain ⟨us, hus, hOr, -, -⟩ := id hSQ
      obtain ⟨q1', c1', rfl, -⟩ := (OwnR.rd hOr)
      have hG4 : Hid (Img.get L = (if Img.good ⟨E, l⟩ ≠ 0 then (Img.none0, Img.good ⟨E, l⟩) else (⟨E, l⟩, 0))) := by show _ = _; rw [show _ = _ from hG3, hsg]
      have hrl := hRBr.lt
      clear hG3 hus hOr
      generalize hGE : Img.good ⟨E, l⟩ = GE at *
      by_cases hz : GE = 0
      · subst hz
        go_wp2_with fail
        refine hGd.mono ?_
        rintro e w6 ⟨rfl, hb6⟩
        have HOk : Hid (Img.get L = (⟨E, l⟩, 0)) := by show _ = _; rw [show _ = _ from hG4, if_neg (by simp)]
        replace hRBr := hRBr.bw hb6
        replace hBX := hBX.bw hb6
        replace hSQ := hSQ.bw hb6
        replace hbwr := hbwr.trans hb6
        clear r0 r1 q0 q1 x0 x1 hGE hG4 hGd hIs
        have r0 := hRBr.c 0 _ rfl; have r1 := hRBr.c 1 _ rfl
        have q0 := hRBr.f 0 (by simp); have q1 := hRBr.f 1 (by simp)
        have x0 := hBX.c 0 _ rfl; have x1 := hBX.c 1 _ rfl
        go_wp2_with fail
        (try simp only [Exit.inBlock, Exit.then]); refine bodyPost_ret (by simp [results, Try.results10, go_sem, r0, r1]; try rfl) rfl ?_
        exact iget_ok HOk hSQ (by omega) e0 e1 hbwr _ _
      · have hzb : (GE != 0) = true := by simpa using hz
        have HN : Hid (Img.get L = (Img.none0, GE)) := by show _ = _; rw [show _ = _ from hG4, if_pos hz]
        have HZ : Hid _ := hz
        clear hz hGE
        go_wp2_with fail
        refine hGd.mono ?_
        rintro e w6 ⟨rfl, hb6⟩
        replace hRBr := hRBr.bw hb6
        replace hbwr := hbwr.trans hb6
        clear r0 r1 q0 q1 x0 x1
        have r0 := hRBr.c 0 _ rfl; have r1 := hRBr.c 1 _ rfl
        have q0 := hRBr.f 0 (by simp); have q1 := hRBr.f 1 (by simp)
        go_wp2_with fail
        (try simp only [Exit.inBlock, Exit.then]); refine bodyPost_ret (by simp [results, Try.results10, go_sem, r0, r1]; try rfl) rfl ?_
        exact iget_bad HN (by (repeat' (first | (with_reducible assumption) | (with_reducible exact Bw.refl _) | (with_reducible refine Bw.alloc ?_ _) | (with_reducible refine Bw.drew ?_) | (with_reducible refine Bw.drewN ?_ _) | (with_reducible refine Bw.setCell ?_ ?_ _) | exact Nat.le_refl _)))
    · have hki : (k : Int) < (N : Int) := by omega
      have hkn : k < N := by omega
      subst hlk
      have hR := hRS _ hbwr (52 + l.length * 32) (by omega)
      have hcast : (((52 + l.length * 32 : Nat)) : Int) = 52 + (l.length : Int) * 32 := by omega
      rw [hcast] at hR
      have HSg : Hid _ := hsg
      have HKn : Hid _ := hkn
      clear hcast hsg hkn
      go_wp2_with fail
      refine hR.mono ?_
      rintro e w5 ⟨hb5, ⟨hn, rfl⟩ | ⟨s, q, c, hs, rfl, hR8, hwf, hfar⟩⟩
      · have HN : Hid (Img.get L = (Img.none0, 3)) := by show _ = _; rw [show _ = _ from hG3, Img.segsTo_none hn N HKn]
        replace hRBr := hRBr.bw hb5
        replace hbwr := hbwr.trans hb5
        have r0 := hRBr.c 0 _ rfl; have r1 := hRBr.c 1 _ rfl
        have q0 := hRBr.f 0 (by simp); have q1 := hRBr.f 1 (by simp)
        have hrl := hRBr.lt
        have hD := (((hRBr.set 0 (by simp) (.int .u32 0)).set 1 (by simp) (.slice none 0 0))).bw ((Bw.refl _).alloc (.cells #[.int .u32 0, .int .u32 0, .int .i64 0, .slice none 0 0] 30))
        have t0 := hD.c 0 _ rfl; have t1 := hD.c 1 _ rfl
        clear hn hR hD
        unfold Img.seg0
        go_wp2_with fail
        (try simp only [Exit.inBlock, Exit.then]); refine bodyPost_ret (by simp [results, Try.results10, go_sem, t0, t1]; try rfl) rfl ?_
        exact iget_bad HN (by (repeat' (first | (with_reducible assumption) | (with_reducible exact Bw.refl _) | (with_reducible refine Bw.alloc ?_ _) | (with_reducible refine Bw.drew ?_) | (with_reducible refine Bw.drewN ?_ _) | (with_reducible refine Bw.setCell ?_ ?_ _) | exact Nat.le_refl _)))
      · have hown := hSQ.own
        have hbx5 := hBX.bw hb5
        have hbxB := hbx5.bw ((Bw.refl w5).alloc (.cells #[.int .u32 s.addr, .int .u32 s.size, .int .i64 s.perm, .slice q s.bytes.length c] 30))
        have x0 := hbx5.c 0 _ rfl; have x1 := hbx5.c 1 _ rfl
        have y1 := hbxB.c 1 _ rfl
        obtain ⟨v6, w6, hr6, hS6, hA6⟩ := SegQ.push (ty := 24) infoSeg rfl (by omega) Try.underlying24 ((hSQ.bw hb5).bw ((Bw.refl w5).alloc (.cells #[.int .u32 s.addr, .int .u32 s.size, .int .i64 s.perm, .slice q s.bytes.length c] 30))) (by have := hb5.sz; simp; omega) (by omega) s hwf q s.bytes.length c (hR8.bw ((Bw.refl _).alloc _)) (fun b e h0 => by have := hfar b e; exact ⟨by omega, fun e2 => by have := (hown _ e2).2; omega⟩) 1
        obtain ⟨g6, cp6, rfl⟩ := hS6.form (by simp)
        rw [List.length_append, List.length_singleton] at hr6 hS6 hA6
        have hbx6 := hbxB.blk (hA6.block ib hbxB.lt (fun e => by have := (hown _ e).1; omega))
        have z1 := hbx6.c 1 _ rfl; have z1f := hbx6.f 1 (by simp)
        have hbq6 := Bq.ap ((hbq.bw hb5).bw ((Bw.refl w5).alloc (.cells #[.int .u32 s.addr, .int .u32 s.size, .int .i64 s.perm, .slice q s.bytes.length c] 30))) hA6 (fun j e => (hown j e).1)
        have HS : Hid _ := hs
        have hr7 : (Builtin.append_ #[24, 24] 24 #[u1, .slice (some ⟨w5.heap.size + 1, 0, none⟩) 1 1]).run Try.prog ((w5.alloc (.cells #[.int .u32 s.addr, .int .u32 s.size, .int .i64 s.perm, .slice q s.bytes.length c] 30)).alloc (.cells #[.int .u32 s.addr, .int .u32 s.size, .int .i64 s.perm, .slice q s.bytes.length c] 30)) = .ok (.slice (some ⟨g6, 0, none⟩) (l.length + 1) cp6) w6 := by
          have := hr6; rw [World.size_alloc] at this; exact this
        clear hR hs hr6 hbxB hbx5
        unfold Img.segV
        go_wp2_with (first | (at_builtin; refine wpApp rfl _ _ 24 rfl rfl rfl hr7 ?_) | go_in)
        go_roundg (N - (l.length + 1))
        case measure => have := HKn; omega
        case rel => exact ⟨l.length + 1, _, l ++ [s], by have : l.length < N := HKn; omega, by simp, by simp, by rw [Img.segsTo, show _ = _ from HSg, show _ = _ from HS], hbq6.set _ _, hS6.set hibl _ _, hbx6.set 1 (by simp) _⟩
end Go.Proofs.Ytaejcbmmapcpgaa
