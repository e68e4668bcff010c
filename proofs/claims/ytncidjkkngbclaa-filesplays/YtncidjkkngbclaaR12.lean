/- LAYER 11, the document's own open files: Close. · LAYER 11, the document's own open files: Write. -/
import Derived.Test.YtncidjkkngbclaaR11
import Derived.Deep.RegionLaw
import Derived.Test.YtncidjkkngbclaaR5
namespace Go.Proofs.Ytncidjkkngbclaa
open Go.ChangeShapes Go.WideShapes Go.ChangeAt Go.RowKit

/-- A number less in the list. -/
theorem RS.less {w0 w X : World} {rb : Nat} {G B : Nat → Prop} {s : Fil.St} {l : List Nat} (h : RS w0 w rb G B s l) (g : Bw w X) {k i : Nat} {x : Fil.H} (hx : s.op[k]? = some x) (hk : x.kind ≠ 0) (hi : l[i]? = some k) {v : Value} (ho : OwnR 74 3 w X v (i + (l.length - (i + 1))) ((l.take i).flatMap (Fil.eC s.op) ++ (l.drop (i + 1)).flatMap (Fil.eC s.op))) :
    ∃ G', RS w0 (X.setCell ⟨rb, 1, none⟩ v) rb G' B { s with op := s.op.set k Fil.no } (l.eraseIdx i) ∧ Stp G G' w (X.setCell ⟨rb, 1, none⟩ v) := by
  have hkl := (List.getElem?_eq_some_iff.1 hx).1
  obtain ⟨hil, hie⟩ := List.getElem?_eq_some_iff.1 hi
  have hok := h.ok
  obtain ⟨hmem, hnd, hlen⟩ : (∀ fd : Nat, fd ∈ l ↔ ∃ x, s.op[fd]? = some x ∧ x.kind ≠ 0) ∧ l.Nodup ∧ l.length = Fil.cnt s.op := by
    obtain ⟨ru, va, vi, vs, vr, vc, vf, lv, u1, u2, us, inp, fs, h⟩ := h
    exact ⟨h.mem, h.nd, h.len⟩
  have he := List.eraseIdx_eq_take_drop_succ l i
  have hkn : k ∉ l.eraseIdx i := fun hm => by
    rw [List.mem_eraseIdx_iff_getElem] at hm
    obtain ⟨j, hj, hne, e⟩ := hm
    have := (List.getElem_inj hnd).1 (e.trans hie.symm)
    exact hne this
  have hfl : (l.eraseIdx i).flatMap (Fil.eC (s.op.set k Fil.no)) = (l.take i).flatMap (Fil.eC s.op) ++ (l.drop (i + 1)).flatMap (Fil.eC s.op) := by
    rw [flat_same (f := Fil.eC s.op) (fun e he => by unfold Fil.eC; rw [Fil.at_set hkl, if_neg (fun e2 : e = k => hkn (e2 ▸ he))]), he, List.flatMap_append]
  have hle : (l.eraseIdx i).length = i + (l.length - (i + 1)) := by rw [he, List.length_append, List.length_take, List.length_drop]; omega
  refine RS.setL h g (l' := l.eraseIdx i) (by rw [hle, hfl]; exact ho) (hok.set k _ (Or.inl rfl)) (hnd.eraseIdx i) (fun fd => ?_) ?_
  · by_cases e : fd = k
    · subst e
      rw [List.getElem?_set_self hkl]
      exact ⟨fun hm => absurd hm hkn, fun ⟨z, hz, hzk⟩ => by obtain rfl := Option.some.inj hz; exact absurd rfl hzk⟩
    · rw [List.getElem?_set_ne (Ne.symm e), ← hmem fd, List.mem_eraseIdx_iff_getElem]
      constructor
      · rintro ⟨j, hj, _, rfl⟩; exact List.getElem_mem hj
      · intro hm
        obtain ⟨j, hj, rfl⟩ := List.getElem_of_mem hm
        exact ⟨j, hj, fun e2 => e (by subst e2; exact hie), rfl⟩
  · rw [hle, Fil.cnt_set hx, (Fil.isO_iff _).2 hk, ← hlen]
    have := Fil.cnt_pos hx ((Fil.isO_iff _).2 hk)
    simp [show Fil.isO Fil.no = false from rfl]; omega
theorem rd3_to {w : World} {f : Nat → List Value} (hf : ∀ e, (f e).length = 3) {l : List Nat} {q : Option Addr} {n c i : Nat} (hn : n = l.length) (hR : RdR 3 w (.slice q n c) n (l.flatMap f)) (hi : i ≤ l.length) : RdR 3 w (.slice q i c) i ((l.take i).flatMap f) := by
  obtain ⟨q', cap, e, h2, h3, h4, h5⟩ := hR
  simp at e
  obtain ⟨rfl, rfl⟩ := e
  refine ⟨q, c, rfl, by omega, h3, by rw [chunk_len f 3 hf, List.length_take]; omega, fun h0 => ?_⟩
  obtain ⟨b, o, rfl, h7, h8⟩ := h5 (by omega)
  refine ⟨b, o, rfl, h7, fun j u hu => h8 j u ?_⟩
  have hs : l.flatMap f = (l.take i).flatMap f ++ (l.drop i).flatMap f := by rw [← List.flatMap_append, List.take_append_drop]
  rw [hs, List.getElem?_append_left (List.getElem?_eq_some_iff.1 hu).1]
  exact hu
theorem rd3_from {w : World} {f : Nat → List Value} (hf : ∀ e, (f e).length = 3) {l : List Nat} {g n c i : Nat} (hn : n = l.length) (hR : RdR 3 w (.slice (some ⟨g, 0, none⟩) n c) n (l.flatMap f)) (hi : i ≤ l.length) (q : Option Addr) (hq : i < l.length → q = some ⟨g, i * 3, none⟩) : RdR 3 w (.slice q (n - i) (c - i)) (n - i) ((l.drop i).flatMap f) := by
  obtain ⟨q', cap, e, h2, h3, h4, h5⟩ := hR
  simp at e
  obtain ⟨rfl, rfl⟩ := e
  refine ⟨q, c - i, rfl, by omega, by omega, by rw [chunk_len f 3 hf, List.length_drop]; omega, fun h0 => ?_⟩
  obtain ⟨b, o, e, h7, h8⟩ := h5 (by omega)
  simp at e
  obtain ⟨rfl, rfl⟩ := e
  refine ⟨g, i * 3, hq (by omega), h7, fun j u hu => ?_⟩
  have hs : l.flatMap f = (l.take i).flatMap f ++ (l.drop i).flatMap f := by rw [← List.flatMap_append, List.take_append_drop]
  have ht : ((l.take i).flatMap f).length = i * 3 := by rw [chunk_len f 3 hf, List.length_take]; omega
  have := h8 (i * 3 + j) u (by rw [hs, List.getElem?_append_right (by omega), ht, Nat.add_sub_cancel_left]; exact hu)
  rw [Nat.zero_add] at this
  exact this
theorem app_more {w w1 : World} {v1 : Value} {n m : Nat} {cs ds : List Value} {q : Option Addr} {c : Nat} (ho : OwnR 74 3 w w1 v1 n cs) (hb : Bw w w1) (hR : RdR 3 w1 (.slice q m c) m ds) (h1 : ∀ u ∈ ds, u.oneCell' = true) (hn : n + m ≤ 100) : ∃ v2 w2, (Builtin.append_ #[57, 57] 57 #[v1, .slice q m c]).run Try.prog w1 = .ok v2 w2 ∧ OwnR 74 3 w w2 v2 (n + m) (cs ++ ds) ∧ Bw w w2 ∧ ∃ q2 c2, v2 = .slice q2 (n + m) c2 := by
  obtain ⟨v', w', hr, ho2, hbw⟩ := appS (ty := 57) infoOp Try.underlying57 rfl (by omega) (by omega) ho hb hR h1 (by omega)
  refine ⟨_, _, hr, ho2, hbw, ?_⟩
  rcases OwnR.box' ho2 with ⟨rfl, h3⟩ | ⟨g', c', rfl, _⟩
  · exact ⟨none, 0, by rw [h3]⟩
  · exact ⟨_, _, rfl⟩
set_option maxHeartbeats 8000000 in
set_option maxRecDepth 100000 in
theorem rClose_c {w0 w : World} {rb : Nat} {G B : Nat → Prop} {s : Fil.St} {l : List Nat} (h : RS w0 w rb G B s l) (fd : Int) : Calls Try.prog 12 #[.pointer (some ⟨rb, 0, none⟩), .int .i64 fd] w fun e w' => e = .returned (.int .i64 (Fil.close s fd).1) ∧ ∃ G' l', RS w0 w' rb G' B (Fil.close s fd).2 l' ∧ Stp G G' w w' := by
  have hK := rFind_c h fd
  have HFS : Hid _ := h
  rcases h.num fd with ⟨h0, hfx⟩ | ⟨k, i, x, rfl, hk16, hx, hd, h0, hi, hfx⟩
  · rw [show Fil.close s fd = (-9, s) by unfold Fil.close; rw [if_pos h0]]
    rw [hfx] at hK
    clear h h0
    go_enter Try.func12, Try.ntmps12
    go_wp2_with (go_at_call 28; refine hK.mono ?_; rintro e w2 ⟨rfl, hb⟩)
    go_returns
    exact ⟨rfl, G, l, RS.bw HFS hb, Stp.of_bw hb⟩
  rw [hfx] at hK
  rw [show Fil.close s (k : Int) = (0, { s with op := s.op.set k Fil.no }) by unfold Fil.close; rw [hd, if_neg h0, Int.toNat_natCast]]
  have hil := (List.getElem?_eq_some_iff.1 hi).1
  obtain ⟨ql, cl, d1, d2, d3, d4, d5, d6, d7, d8⟩ := h.lst
  obtain ⟨g, c', -, -, -, e1, -, -, -⟩ := h.ent hx hi
  rw [d1] at e1
  simp at e1
  obtain ⟨rfl, rfl⟩ := e1
  have hil2 : (i : Int) < (l.length : Int) := by omega
  have hicl : (i : Int) ≤ (cl : Int) := by omega
  have hLess := fun X (gX : Bw w X) v => RS.less (v := v) h gX hx h0 hi
  have HLess : Hid _ := hLess
  clear h hx hd h0 hi hLess d7
  have hAll : ∀ w2, Bw w w2 → ∀ q3 : Option Addr, (i + 1 < l.length → q3 = some ⟨g, (i + 1) * 3, none⟩) → ∃ v1 w1 q2 c2 wz, (Builtin.append_ #[57, 57] 57 #[.slice (some ⟨w2.heap.size, 0, none⟩) 0 0, .slice (some ⟨g, 0, none⟩) i cl]).run Try.prog (w2.alloc (.cells #[] 74)) = .ok v1 w1 ∧ (Builtin.append_ #[57, 57] 57 #[v1, .slice q3 (l.length - (i + 1)) (cl - (i + 1))]).run Try.prog w1 = .ok (.slice q2 (i + (l.length - (i + 1))) c2) wz ∧
      (∃ q1 n1 c1, v1 = .slice q1 n1 c1) ∧ (w1.cell? ⟨rb, 1, none⟩ = some (.slice (some ⟨g, 0, none⟩) l.length cl) ∧ wz.cell? ⟨rb, 1, none⟩ = some (.slice (some ⟨g, 0, none⟩) l.length cl) ∧ wz.frozen? ⟨rb, 1, none⟩ = false) ∧ ∃ G', RS w0 (wz.setCell ⟨rb, 1, none⟩ (.slice q2 (i + (l.length - (i + 1))) c2)) rb G' B { s with op := s.op.set k Fil.no } (l.eraseIdx i) ∧ Stp G G' w (wz.setCell ⟨rb, 1, none⟩ (.slice q2 (i + (l.length - (i + 1))) c2)) := fun w2 hb q3 hq3 => by
    have hR2 := RdR.bw d4 hb
    obtain ⟨v1, w1, hr1, ho1, hb1⟩ := app_list hb (rd3_to (i := i) (Fil.eC_len s.op) rfl hR2 (by omega)) (Fil.eC_one _ _) (by omega)
    have hb21 : Bw w w1 := hb1
    obtain ⟨v2, wz, hr2, ho2, hbz, q2, c2, rfl⟩ := app_more ho1 hb1 (rd3_from (i := i + 1) (Fil.eC_len s.op) rfl (RdR.bw d4 hb1) (by omega) q3 hq3) (Fil.eC_one _ _) (by omega)
    refine ⟨v1, w1, q2, c2, wz, hr1, hr2, ?_, ⟨hb1.keep d1, hbz.keep d1, by rw [frozen_block (p := ⟨rb, 1, none⟩) (Below.block hbz rb d6)]; exact d5⟩, (show ∀ X, Bw w X → ∀ v, _ → _ from HLess) wz hbz _ ho2⟩
    rcases OwnR.box' ho1 with ⟨rfl, h3⟩ | ⟨g', c', rfl, _⟩
    · exact ⟨none, 0, 0, rfl⟩
    · exact ⟨_, _, _, rfl⟩
  have HAll : Hid _ := hAll
  clear hAll d4
  go_enter Try.func12, Try.ntmps12
  go_wp2_with (go_at_call 28; refine hK.mono ?_; rintro e w2 ⟨rfl, hb⟩)
  by_cases hcl : cl = i + 1
  · subst hcl
    have hic : (i : Int) ≤ (i : Int) + 1 := by omega
    obtain ⟨v1, w1, q2, c2, wz, hr1, hr2, ⟨q1, n1, c1, rfl⟩, ⟨x1, x2, x3⟩, hfin⟩ := (show ∀ w2, Bw w w2 → _ from HAll) w2.drew hb.drew (some ⟨g, 0, none⟩) (fun h => by omega)
    have hz : l.length - (i + 1) = 0 := by omega
    rw [hz] at hr2 hfin
    rw [Nat.add_zero] at hr2 hfin
    rw [Nat.sub_self] at hr2
    have HFin : Hid _ := hfin
    clear hz
    have x0 : w2.drew.cell? ⟨rb, 1, none⟩ = some (.slice (some ⟨g, 0, none⟩) l.length (i + 1)) := hb.drew.keep d1
    have x0a : (w2.drew.alloc (.cells #[] 74)).cell? ⟨rb, 1, none⟩ = some (.slice (some ⟨g, 0, none⟩) l.length (i + 1)) := ((Bw.refl _).alloc _).keep x0
    have x0b : (w2.alloc (.cells #[] 74)).cell? ⟨rb, 1, none⟩ = some (.slice (some ⟨g, 0, none⟩) l.length (i + 1)) := x0a
    have x0c : w2.cell? ⟨rb, 1, none⟩ = some (.slice (some ⟨g, 0, none⟩) l.length (i + 1)) := x0
    have hi1 : (i : Int) + 1 ≤ (l.length : Int) := by omega
    have hi2 : 0 ≤ (i : Int) + 1 := by omega
    have hwr : IntKind.i64.wrap ((i : Int) + 1) = (i : Int) + 1 := by rw [IntKind.wrap_i64]; omega
    have hr1' : (Builtin.append_ #[57, 57] 57 #[.slice (some ⟨w2.heap.size, 0, none⟩) 0 0, .slice (some ⟨g, 0, none⟩) i (i + 1)]).run Try.prog (w2.alloc (.cells #[] 74)).drew = .ok (.slice q1 n1 c1) w1 := hr1
    clear hfin HAll HLess x0 x0a hr1
    go_region_law (first | (refine stepApp rfl (.tmp 12) (.tmp 18) 57 rfl (by simp [Act.eval, Act.put]; done) (by simp [Act.eval, Act.put]; done) hr1' ?_) | (refine stepApp rfl (.tmp 19) (.tmp 26) 57 rfl (by simp [Act.eval, Act.put]; done) (by simp [Act.eval, Act.put]; done) hr2 ?_))
    all_goals (go_wp2_with fail; go_returns; obtain ⟨G', f1, f2⟩ := (show ∃ G', _ from HFin); exact ⟨rfl, G', _, f1, f2⟩)
  · obtain ⟨v1, w1, q2, c2, wz, hr1, hr2, ⟨q1, n1, c1, rfl⟩, ⟨x1, x2, x3⟩, hfin⟩ := (show ∀ w2, Bw w w2 → _ from HAll) w2.drew hb.drew (some ⟨g, (i + 1) * 3, none⟩) (fun _ => rfl)
    have HFin : Hid _ := hfin
    have x0 : w2.drew.cell? ⟨rb, 1, none⟩ = some (.slice (some ⟨g, 0, none⟩) l.length cl) := hb.drew.keep d1
    have x0a : (w2.drew.alloc (.cells #[] 74)).cell? ⟨rb, 1, none⟩ = some (.slice (some ⟨g, 0, none⟩) l.length cl) := ((Bw.refl _).alloc _).keep x0
    have x0b : (w2.alloc (.cells #[] 74)).cell? ⟨rb, 1, none⟩ = some (.slice (some ⟨g, 0, none⟩) l.length cl) := x0a
    have x0c : w2.cell? ⟨rb, 1, none⟩ = some (.slice (some ⟨g, 0, none⟩) l.length cl) := x0
    have hi1 : (i : Int) + 1 ≤ (l.length : Int) := by omega
    have hi2 : 0 ≤ (i : Int) + 1 := by omega
    have hwr : IntKind.i64.wrap ((i : Int) + 1) = (i : Int) + 1 := by rw [IntKind.wrap_i64]; omega
    have hr1' : (Builtin.append_ #[57, 57] 57 #[.slice (some ⟨w2.heap.size, 0, none⟩) 0 0, .slice (some ⟨g, 0, none⟩) i cl]).run Try.prog (w2.alloc (.cells #[] 74)).drew = .ok (.slice q1 n1 c1) w1 := hr1
    clear hfin HAll HLess x0 x0a hr1
    go_region_law (first | (refine stepApp rfl (.tmp 12) (.tmp 18) 57 rfl (by simp [Act.eval, Act.put]; done) (by simp [Act.eval, Act.put]; done) hr1' ?_) | (refine stepApp rfl (.tmp 19) (.tmp 26) 57 rfl (by simp [Act.eval, Act.put]; done) (by simp [Act.eval, Act.put]; done) hr2 ?_))
    all_goals (go_wp2_with fail; go_returns; obtain ⟨G', f1, f2⟩ := (show ∃ G', _ from HFin); exact ⟨rfl, G', _, f1, f2⟩)
end Go.Proofs.Ytncidjkkngbclaa
namespace Go.Proofs.Ytncidjkkngbclaa
set_option linter.unusedSimpArgs false
open Go.ChangeShapes Go.WideShapes Go.ChangeAt Go.RowKit

/-- More is written at 1, at 2. -/
theorem RS.setO {w0 w X : World} {rb : Nat} {G B : Nat → Prop} {s : Fil.St} {l : List Nat} (h : RS w0 w rb G B s l) (g : Bw w X) {fd : Nat} (hfd : fd = 1 ∨ fd = 2) {v : Value} {bs : List Int} (hb : B8s bs) (hl : (Fil.outAt s fd ++ bs).length ≤ 65536) (ho : Own8 w X v (Fil.outAt s fd ++ bs)) :
    ∃ G', RS w0 (X.setCell ⟨rb, fd + 1, none⟩ v) rb G' B (if (fd : Int) = 1 then { s with o1 := s.o1 ++ bs } else { s with o2 := s.o2 ++ bs }) l ∧ Stp G G' w (X.setCell ⟨rb, fd + 1, none⟩ v) := by
  obtain ⟨ru, va, vi, vs, vr, vc, vf, lv, u1, u2, us, inp, fs, h⟩ := h
  have hX := h.bw g
  have hsz := g.size
  have hrb := (h.in_ rb h.g1.1).2
  have hru := (h.in_ ru h.g1.2.1).2
  have h0w : w0.heap.size ≤ w.heap.size := by have := (h.in_ rb h.g1.1).1; omega
  have hown : ∀ j, v.ownBlock = some j → w.heap.size ≤ j ∧ j < X.heap.size := fun j hj => ho.blk j hj
  have hlt1 : ∀ j, u1.ownBlock = some j → j < w.heap.size := fun j hj => (h.in_ j (h.n1 j hj).1).2
  have hlt2 : ∀ j, u2.ownBlock = some j → j < w.heap.size := fun j hj => (h.in_ j (h.n2 j hj).1).2
  have hltl : ∀ j, lv.ownBlock = some j → j < w.heap.size := fun j hj => (h.in_ j (h.ll.n j hj).1).2
  have hsm := h.same
  rcases hfd with rfl | rfl
  · have hq : Bq rb X (X.setCell ⟨rb, 2, none⟩ v) := (Bq.refl _ _).set _ _
    have hFz : Fz G w (X.setCell ⟨rb, 2, none⟩ v) := (Fz.of_bw g).trans (Fz.of_bq hq h.g1.1)
    have ho' : Own8 w X v (s.o1 ++ bs) := ho
    rw [if_pos (show ((1 : Nat) : Int) = 1 from rfl)]
    have hmv := h.mv (s' := { s with o1 := s.o1 ++ bs }) (l' := l) (lv' := lv) (u1' := v) (u2' := u2) hFz (h.ok.w1 bs hb hl) ⟨rfl, rfl, rfl, rfl⟩ (hX.box.set 2 (by simp) v) (hX.ubx.blk (hq.block ru (Nat.lt_of_lt_of_le hru hsz) (Ne.symm h.g1.2.2))) h.la
      ⟨(hX.ll.blk hq.b0.size (fun g' e => hq.block g' (Nat.lt_of_lt_of_le (hltl g' e) hsz) (h.ll.n g' e).2.1)).f, fun j hj => ⟨Or.inl (h.ll.n j hj).1, (h.ll.n j hj).2⟩⟩
      ((ho'.heap fun j hj => hq.block j (hown j hj).2 (by have := hown j hj; omega)).le h0w) (hX.o2.heap fun j hj => hq.block j (Nat.lt_of_lt_of_le (hlt2 j hj) hsz) (h.n2 j hj).2.1)
      (fun j hj => ⟨(h.in_ j (h.ll.n j hj).1).1, Nat.lt_of_lt_of_le (hltl j hj) (Nat.le_trans hsz hq.b0.size), fun _ => (h.ll.n j hj).1⟩)
      (fun j hj => ⟨by have := hown j hj; omega, by have := hown j hj; omega, fun e => by have := hown j hj; have := hltl j e; omega, fun e => by have := hown j hj; omega⟩) (fun j hj => ⟨(h.n2 j hj).2.1, (h.n2 j hj).2.2.1, (h.n2 j hj).2.2.2, fun _ => (h.n2 j hj).1⟩)
      h.nd h.mem h.len
    exact ⟨_, ⟨_, _, _, _, _, _, _, _, _, _, _, _, _, hmv.1⟩, hmv.2⟩
  · have hq : Bq rb X (X.setCell ⟨rb, 3, none⟩ v) := (Bq.refl _ _).set _ _
    have hFz : Fz G w (X.setCell ⟨rb, 3, none⟩ v) := (Fz.of_bw g).trans (Fz.of_bq hq h.g1.1)
    have ho' : Own8 w X v (s.o2 ++ bs) := ho
    rw [if_neg (show ¬ ((2 : Nat) : Int) = 1 by decide)]
    have hmv := h.mv (s' := { s with o2 := s.o2 ++ bs }) (l' := l) (lv' := lv) (u1' := u1) (u2' := v) hFz (h.ok.w2 bs hb hl) ⟨rfl, rfl, rfl, rfl⟩ (hX.box.set 3 (by simp) v) (hX.ubx.blk (hq.block ru (Nat.lt_of_lt_of_le hru hsz) (Ne.symm h.g1.2.2))) h.la
      ⟨(hX.ll.blk hq.b0.size (fun g' e => hq.block g' (Nat.lt_of_lt_of_le (hltl g' e) hsz) (h.ll.n g' e).2.1)).f, fun j hj => ⟨Or.inl (h.ll.n j hj).1, (h.ll.n j hj).2⟩⟩
      (hX.o1.heap fun j hj => hq.block j (Nat.lt_of_lt_of_le (hlt1 j hj) hsz) (h.n1 j hj).2.1) ((ho'.heap fun j hj => hq.block j (hown j hj).2 (by have := hown j hj; omega)).le h0w)
      (fun j hj => ⟨(h.in_ j (h.ll.n j hj).1).1, Nat.lt_of_lt_of_le (hltl j hj) (Nat.le_trans hsz hq.b0.size), fun _ => (h.ll.n j hj).1⟩)
      (fun j hj => ⟨(h.n1 j hj).2.1, (h.n1 j hj).2.2.1, (h.n1 j hj).2.2.2, fun _ => (h.n1 j hj).1⟩) (fun j hj => ⟨by have := hown j hj; omega, by have := hown j hj; omega, fun e => by have := hown j hj; have := hltl j e; omega, fun e => by have := hown j hj; omega⟩)
      h.nd h.mem h.len
    exact ⟨_, ⟨_, _, _, _, _, _, _, _, _, _, _, _, _, hmv.1⟩, hmv.2⟩
theorem RS.out {w0 w : World} {rb : Nat} {G B : Nat → Prop} {s : Fil.St} {l : List Nat} (h : RS w0 w rb G B s l) {fd : Nat} (hfd : fd = 1 ∨ fd = 2) : ∃ q c, w.cell? ⟨rb, fd + 1, none⟩ = some (.slice q (Fil.outAt s fd).length c) ∧ w.frozen? ⟨rb, fd + 1, none⟩ = false ∧ Rd8 w (.slice q (Fil.outAt s fd).length c) (Fil.outAt s fd) ∧ (Fil.outAt s fd).length ≤ 65536 ∧ rb < w.heap.size := by
  obtain ⟨ru, va, vi, vs, vr, vc, vf, lv, u1, u2, us, inp, fs, h⟩ := h
  have hrb := (h.in_ rb h.g1.1).2
  rcases hfd with rfl | rfl
  · have c := h.box.c 2 _ rfl
    have hr := h.o1.rd
    obtain ⟨q, cp, rfl⟩ := h.o1.sl
    exact ⟨q, cp, c, h.box.f 2 (by simp), hr, h.ok.p1.1, hrb⟩
  · have c := h.box.c 3 _ rfl
    have hr := h.o2.rd
    obtain ⟨q, cp, rfl⟩ := h.o2.sl
    exact ⟨q, cp, c, h.box.f 3 (by simp), hr, h.ok.p2.1, hrb⟩
theorem app_two {w X : World} {u v : Value} {l bs : List Int} (hb : Bw w X) (hu : Rd8 X u l) (hv : Rd8 X v bs) (hn : l.length + bs.length ≤ 1000000) : ∃ v1 w1 q2 c2 w2, (Builtin.append_ #[23, 23] 23 #[.slice (some ⟨X.heap.size, 0, none⟩) 0 0, u]).run Try.prog (X.alloc (.cells #[] 5)) = .ok v1 w1 ∧ (Builtin.append_ #[23, 23] 23 #[v1, v]).run Try.prog w1 = .ok (.slice q2 (l ++ bs).length c2) w2 ∧ Own8 w w2 (.slice q2 (l ++ bs).length c2) (l ++ bs) ∧ Bw w w1 ∧ Bw w w2 ∧ ∃ q1 c1, v1 = .slice q1 l.length c1 := by
  have hown := OwnR.empty 5 1 (w0 := w) (w := X) hb.size
  obtain ⟨v1, w1, hr1, ho1, hb1, ha1⟩ := app8S (Own8.of (l := []) hown) (hb.alloc _) (hu.bw ((Bw.refl X).alloc _)) (by rw [List.length_nil]; omega)
  rw [List.nil_append] at ho1
  have hX1 : Rd8 w1 v bs := by
    refine Rd8.ap (hv.bw ((Bw.refl X).alloc (.cells #[] 5))) ha1 (fun b n c e hn => ?_)
    have := Rd8.lt hv b n c e hn
    intro e2
    have e3 : X.heap.size = b.block := by simpa [Value.ownBlock] using e2
    omega
  obtain ⟨v2, w2, hr2, ho2, hb2, -⟩ := app8S ho1 hb1 hX1 (by omega)
  obtain ⟨q2, c2, rfl⟩ := ho2.sl
  exact ⟨v1, w1, q2, c2, w2, hr1, hr2, ho2, hb1, hb2, ho1.sl⟩
set_option maxHeartbeats 8000000 in
set_option maxRecDepth 100000 in
theorem rWrite_c {w0 w : World} {rb : Nat} {G B : Nat → Prop} {s : Fil.St} {l : List Nat} (h : RS w0 w rb G B s l) (fd : Int) {v : Value} {bs : List Int} (hv : Rd8 w v bs) (h8 : B8s bs) (_hbl : bs.length ≤ 900000) : Calls Try.prog 16 #[.pointer (some ⟨rb, 0, none⟩), .int .i64 fd, v] w fun e w' => e = .returned (.int .i64 (Fil.write s fd bs).1) ∧ ∃ G', RS w0 w' rb G' B (Fil.write s fd bs).2 l ∧ Stp G G' w w' := by
  have hK := rFind_c h fd
  have HFS : Hid _ := h
  have HV : Hid _ := hv
  obtain ⟨qv, cv, rfl, hv1, hv2, -⟩ := Rd8.open hv
  clear hv
  rcases h.num fd with ⟨h0, hfx⟩ | ⟨k, i, x, hfk, hk16, hx, hd, h0, hi, hfx⟩
  · rw [show Fil.write s fd bs = (-9, s) by unfold Fil.write; rw [if_pos (by rw [h0]; decide)]]
    rw [hfx] at hK
    clear h h0
    go_enter Try.func16, Try.ntmps16
    go_wp2_with (go_at_call 28; refine hK.mono ?_; rintro e w2 ⟨rfl, hb⟩)
    go_returns
    exact ⟨rfl, G, RS.bw HFS hb, Stp.of_bw hb⟩
  rw [hfx] at hK
  have hE := fun X (g : Bw w X) => (h.bw g).ent hx hi
  by_cases h2 : x.kind = 2
  rotate_left
  · rw [show Fil.write s fd bs = (-9, s) by unfold Fil.write; rw [if_pos (by rw [hd]; exact h2)]]
    have hfl : Fil.file x = (x.src : Int) - 1 := by unfold Fil.file; rw [if_neg h2]
    have hf2 : ((Fil.file x == -2) = false) := by rw [hfl]; simp; omega
    have hf3 : ((Fil.file x != -2) = true) := by rw [hfl]; simp; omega
    generalize Fil.file x = fl at *
    clear h h0 hd h2 hfl hfk hfx hk16
    go_enter Try.func16, Try.ntmps16
    go_wp2_with (go_at_call 28; refine hK.mono ?_; rintro e w2 ⟨rfl, hb⟩; obtain ⟨g, c, i1, i2, i3, d0, ⟨d1, d2, d3⟩, d4, -⟩ := hE _ hb; have i4 : (i : Int) < (l.length : Int) := (by omega); clear hE)
    go_returns
    exact ⟨rfl, G, RS.bw HFS hb, Stp.of_bw hb⟩
  have hfd : fd = 1 ∨ fd = 2 := by
    rcases h.ok.kd k x hx with e | e | e
    · exact absurd e h0
    · rw [e.1] at h2; simp at h2
    · omega
  clear hfk hfx
  rcases hfd with rfl | rfl
  · have hfl : Fil.file x = -2 := by unfold Fil.file; rw [if_pos h2]
    rw [hfl] at hE
    obtain ⟨qo, co, r1, r2, r3, r4, r5⟩ := h.out (fd := 1) (by omega)
    have r1' : w.cell? ⟨rb, 2, none⟩ = some (.slice qo (Fil.outAt s 1).length co) := r1
    have r4i : ((Fil.outAt s 1).length : Int) ≤ 65536 := by have r4' : (Fil.outAt s 1).length ≤ 65536 := r4; clear r4; omega
    have hSetO := fun X (gX : Bw w X) v (bs' : List Int) (e : bs' = bs) (hlb : (Fil.outAt s 1 ++ bs').length ≤ 65536) (ho : Own8 w X v (Fil.outAt s 1 ++ bs')) => RS.setO (v := v) (bs := bs') h gX (fd := 1) (by omega) (e ▸ h8) hlb ho
    have HSetO : Hid _ := hSetO
    have hS : Fil.write s 1 bs = if 65536 < (Fil.outAt s 1).length + bs.length then (-28, s) else ((bs.length : Int), if (1 : Int) = 1 then { s with o1 := s.o1 ++ bs } else { s with o2 := s.o2 ++ bs }) := by
      unfold Fil.write; rw [if_neg (by rw [hd]; exact fun e => e h2)]
    clear h hd h0 h2 hSetO
    by_cases hbig : 65536 < (Fil.outAt s 1).length + bs.length
    · rw [hS, if_pos hbig]
      have hbi : (65536 : Int) - ((Fil.outAt s 1).length : Int) < (bs.length : Int) := by omega
      clear hS
      go_enter Try.func16, Try.ntmps16
      go_wp2_with (go_at_call 28; refine hK.mono ?_; rintro e w2 ⟨rfl, hb⟩; obtain ⟨g, c, i1, i2, i3, d0, ⟨d1, d2, d3⟩, d4, -⟩ := hE _ hb; have i4 : (i : Int) < (l.length : Int) := (by omega); have t1 := hb.keep r1'; clear hE)
      go_returns
      exact ⟨rfl, G, RS.bw HFS hb, Stp.of_bw hb⟩
    · rw [hS, if_neg hbig]
      have hbi : ¬ (65536 : Int) - ((Fil.outAt s 1).length : Int) < (bs.length : Int) := by omega
      clear hS
      have hAll : ∀ w2, Bw w w2 → ∃ v1 w1 q2 c2 wz, (Builtin.append_ #[23, 23] 23 #[.slice (some ⟨w2.heap.size, 0, none⟩) 0 0, .slice qo (Fil.outAt s 1).length co]).run Try.prog (w2.alloc (.cells #[] 5)) = .ok v1 w1 ∧ (Builtin.append_ #[23, 23] 23 #[v1, .slice qv bs.length cv]).run Try.prog w1 = .ok (.slice q2 (Fil.outAt s 1 ++ bs).length c2) wz ∧
          (∃ q1 n1 c1, v1 = .slice q1 n1 c1) ∧ (w1.cell? ⟨rb, 2, none⟩ = some (.slice qo (Fil.outAt s 1).length co) ∧ wz.cell? ⟨rb, 2, none⟩ = some (.slice qo (Fil.outAt s 1).length co) ∧ wz.frozen? ⟨rb, 2, none⟩ = false) ∧ ∃ G', RS w0 (wz.setCell ⟨rb, 2, none⟩ (.slice q2 ((Fil.outAt s 1).length + bs.length : Nat) c2)) rb G' B { s with o1 := s.o1 ++ bs } l ∧ Stp G G' w (wz.setCell ⟨rb, 2, none⟩ (.slice q2 ((Fil.outAt s 1).length + bs.length : Nat) c2)) := fun w2 hb => by
        obtain ⟨v1, w1, q2, c2, wz, hr1, hr2, ho2, hb1, hbz, q1, c1, rfl⟩ := app_two hb (Rd8.bw r3 hb) (Rd8.bw HV hb) (by omega)
        have hz := (show ∀ X, Bw w X → ∀ v (bs' : List Int), _ → _ → _ → _ from HSetO) wz hbz _ bs rfl (by rw [List.length_append]; omega) ho2
        rw [List.length_append] at hz
        exact ⟨_, w1, q2, c2, wz, hr1, hr2, ⟨_, _, _, rfl⟩, ⟨hb1.keep r1', hbz.keep r1', by rw [frozen_block (p := ⟨rb, 2, none⟩) (Below.block hbz rb r5)]; exact r2⟩, hz⟩
      have HAll : Hid _ := hAll
      clear hAll HSetO r3
      go_enter Try.func16, Try.ntmps16
      go_wp2_with (go_at_call 28; refine hK.mono ?_; rintro e w2 ⟨rfl, hb⟩; obtain ⟨g, c, i1, i2, i3, d0, ⟨d1, d2, d3⟩, d4, -⟩ := hE _ hb; have i4 : (i : Int) < (l.length : Int) := (by omega); have t1 := hb.keep r1'; clear hE)
      obtain ⟨v1, w1, q2, c2, wz, hr1, hr2, ⟨q1, n1, c1, rfl⟩, ⟨x1, x2, x3⟩, hfin⟩ := (show ∀ w2, Bw w w2 → _ from HAll) w2.drew hb.drew
      have HFin : Hid _ := hfin
      have x0b : (w2.alloc (.cells #[] 5)).cell? ⟨rb, 2, none⟩ = some (.slice qo (Fil.outAt s 1).length co) := ((Bw.refl _).alloc _).keep t1
      have hr1' : (Builtin.append_ #[23, 23] 23 #[.slice (some ⟨w2.heap.size, 0, none⟩) 0 0, .slice qo (Fil.outAt s 1).length co]).run Try.prog (w2.alloc (.cells #[] 5)).drew = .ok (.slice q1 n1 c1) w1 := hr1
      have hw0 : IntKind.i64.wrap 0 = 0 := by rw [IntKind.wrap_i64]; decide
      have hw1 : IntKind.i64.wrap 1 = 1 := by rw [IntKind.wrap_i64]; decide
      clear hfin HAll hr1
      go_region_law (first | (refine stepApp rfl (.tmp 39) (.tmp 46) 23 rfl (by simp [Act.eval, Act.put]; done) (by simp [Act.eval, Act.put]; done) hr1' ?_) | (refine stepApp rfl (.tmp 47) (.tmp 48) 23 rfl (by simp [Act.eval, Act.put]; done) (by simp [Act.eval, Act.put]; done) hr2 ?_))
      all_goals (go_wp2_with fail; go_returns; exact ⟨rfl, HFin⟩)
  · have hfl : Fil.file x = -2 := by unfold Fil.file; rw [if_pos h2]
    rw [hfl] at hE
    obtain ⟨qo, co, r1, r2, r3, r4, r5⟩ := h.out (fd := 2) (by omega)
    have r1' : w.cell? ⟨rb, 3, none⟩ = some (.slice qo (Fil.outAt s 2).length co) := r1
    have r4i : ((Fil.outAt s 2).length : Int) ≤ 65536 := by have r4' : (Fil.outAt s 2).length ≤ 65536 := r4; clear r4; omega
    have hSetO := fun X (gX : Bw w X) v (bs' : List Int) (e : bs' = bs) (hlb : (Fil.outAt s 2 ++ bs').length ≤ 65536) (ho : Own8 w X v (Fil.outAt s 2 ++ bs')) => RS.setO (v := v) (bs := bs') h gX (fd := 2) (by omega) (e ▸ h8) hlb ho
    have HSetO : Hid _ := hSetO
    have hS : Fil.write s 2 bs = if 65536 < (Fil.outAt s 2).length + bs.length then (-28, s) else ((bs.length : Int), if (2 : Int) = 1 then { s with o1 := s.o1 ++ bs } else { s with o2 := s.o2 ++ bs }) := by
      unfold Fil.write; rw [if_neg (by rw [hd]; exact fun e => e h2)]
    clear h hd h0 h2 hSetO
    by_cases hbig : 65536 < (Fil.outAt s 2).length + bs.length
    · rw [hS, if_pos hbig]
      have hbi : (65536 : Int) - ((Fil.outAt s 2).length : Int) < (bs.length : Int) := by omega
      clear hS
      go_enter Try.func16, Try.ntmps16
      go_wp2_with (go_at_call 28; refine hK.mono ?_; rintro e w2 ⟨rfl, hb⟩; obtain ⟨g, c, i1, i2, i3, d0, ⟨d1, d2, d3⟩, d4, -⟩ := hE _ hb; have i4 : (i : Int) < (l.length : Int) := (by omega); have t1 := hb.keep r1'; clear hE)
      go_returns
      exact ⟨rfl, G, RS.bw HFS hb, Stp.of_bw hb⟩
    · rw [hS, if_neg hbig]
      have hbi : ¬ (65536 : Int) - ((Fil.outAt s 2).length : Int) < (bs.length : Int) := by omega
      clear hS
      have hAll : ∀ w2, Bw w w2 → ∃ v1 w1 q2 c2 wz, (Builtin.append_ #[23, 23] 23 #[.slice (some ⟨w2.heap.size, 0, none⟩) 0 0, .slice qo (Fil.outAt s 2).length co]).run Try.prog (w2.alloc (.cells #[] 5)) = .ok v1 w1 ∧ (Builtin.append_ #[23, 23] 23 #[v1, .slice qv bs.length cv]).run Try.prog w1 = .ok (.slice q2 (Fil.outAt s 2 ++ bs).length c2) wz ∧
          (∃ q1 n1 c1, v1 = .slice q1 n1 c1) ∧ (w1.cell? ⟨rb, 3, none⟩ = some (.slice qo (Fil.outAt s 2).length co) ∧ wz.cell? ⟨rb, 3, none⟩ = some (.slice qo (Fil.outAt s 2).length co) ∧ wz.frozen? ⟨rb, 3, none⟩ = false) ∧ ∃ G', RS w0 (wz.setCell ⟨rb, 3, none⟩ (.slice q2 ((Fil.outAt s 2).length + bs.length : Nat) c2)) rb G' B { s with o2 := s.o2 ++ bs } l ∧ Stp G G' w (wz.setCell ⟨rb, 3, none⟩ (.slice q2 ((Fil.outAt s 2).length + bs.length : Nat) c2)) := fun w2 hb => by
        obtain ⟨v1, w1, q2, c2, wz, hr1, hr2, ho2, hb1, hbz, q1, c1, rfl⟩ := app_two hb (Rd8.bw r3 hb) (Rd8.bw HV hb) (by omega)
        have hz := (show ∀ X, Bw w X → ∀ v (bs' : List Int), _ → _ → _ → _ from HSetO) wz hbz _ bs rfl (by rw [List.length_append]; omega) ho2
        rw [List.length_append] at hz
        exact ⟨_, w1, q2, c2, wz, hr1, hr2, ⟨_, _, _, rfl⟩, ⟨hb1.keep r1', hbz.keep r1', by rw [frozen_block (p := ⟨rb, 3, none⟩) (Below.block hbz rb r5)]; exact r2⟩, hz⟩
      have HAll : Hid _ := hAll
      clear hAll HSetO r3
      go_enter Try.func16, Try.ntmps16
      go_wp2_with (go_at_call 28; refine hK.mono ?_; rintro e w2 ⟨rfl, hb⟩; obtain ⟨g, c, i1, i2, i3, d0, ⟨d1, d2, d3⟩, d4, -⟩ := hE _ hb; have i4 : (i : Int) < (l.length : Int) := (by omega); have t1 := hb.keep r1'; clear hE)
      obtain ⟨v1, w1, q2, c2, wz, hr1, hr2, ⟨q1, n1, c1, rfl⟩, ⟨x1, x2, x3⟩, hfin⟩ := (show ∀ w2, Bw w w2 → _ from HAll) w2.drew hb.drew
      have HFin : Hid _ := hfin
      have x0b : (w2.alloc (.cells #[] 5)).cell? ⟨rb, 3, none⟩ = some (.slice qo (Fil.outAt s 2).length co) := ((Bw.refl _).alloc _).keep t1
      have hr1' : (Builtin.append_ #[23, 23] 23 #[.slice (some ⟨w2.heap.size, 0, none⟩) 0 0, .slice qo (Fil.outAt s 2).length co]).run Try.prog (w2.alloc (.cells #[] 5)).drew = .ok (.slice q1 n1 c1) w1 := hr1
      have hw0 : IntKind.i64.wrap 0 = 0 := by rw [IntKind.wrap_i64]; decide
      have hw1 : IntKind.i64.wrap 1 = 1 := by rw [IntKind.wrap_i64]; decide
      clear hfin HAll hr1
      go_region_law (first | (refine stepApp rfl (.tmp 39) (.tmp 46) 23 rfl (by simp [Act.eval, Act.put]; done) (by simp [Act.eval, Act.put]; done) hr1' ?_) | (refine stepApp rfl (.tmp 47) (.tmp 48) 23 rfl (by simp [Act.eval, Act.put]; done) (by simp [Act.eval, Act.put]; done) hr2 ?_))
      all_goals (go_wp2_with fail; go_returns; exact ⟨rfl, HFin⟩)
end Go.Proofs.Ytncidjkkngbclaa
