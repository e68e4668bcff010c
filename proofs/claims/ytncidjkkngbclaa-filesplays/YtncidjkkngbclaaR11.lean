/- LAYER 11, the document's own open files: the list made anew. · LAYER 11, the document's own open files: Open. -/
import Derived.Test.YtncidjkkngbclaaR10
namespace Go.Proofs.Ytncidjkkngbclaa
open Go.ChangeShapes Go.WideShapes Go.ChangeAt Go.RowKit

theorem infoOp : (Try.prog.info? 74).map (fun i => (i.zero, i.size, i.bytes)) = some (some (.agg #[.int .i64 0, .int .i64 0, .int .i64 0]), 3, 24) := by kernel_rfl
theorem Fil.eC_one (op : List Fil.H) (l : List Nat) : ∀ u ∈ l.flatMap (Fil.eC op), u.oneCell' = true := fun u hu => by
  obtain ⟨e, _, h⟩ := List.mem_flatMap.1 hu
  simp [Fil.eC] at h
  rcases h with rfl | rfl | rfl <;> rfl
theorem OwnR.box' {e sz n : Nat} {cs : List Value} {a w : World} {v : Value} (h : OwnR e sz a w v n cs) : (v = .slice none 0 0 ∧ n = 0) ∨ ∃ g c, v = .slice (some ⟨g, 0, none⟩) n c ∧ Box w g cs ∧ a.heap.size ≤ g ∧ g < w.heap.size ∧ n ≤ c ∧ c ≤ 9223372036854775807 := by
  rcases h.2 with ⟨h2, h3⟩ | ⟨b, cap, cur, rfl, h4, h5, h6, h7, _⟩
  · exact Or.inl ⟨h2, h3⟩
  · exact Or.inr ⟨b, cap, rfl, (OwnR.box h).1, h4, (Array.getElem?_eq_some_iff.1 h5).1, h6, by unfold maxLen at h7; omega⟩
/-- The list is made anew. -/
theorem RS.setL {w0 w X : World} {rb : Nat} {G B : Nat → Prop} {s : Fil.St} {l : List Nat} (h : RS w0 w rb G B s l) (g : Bw w X) {v : Value} {l' : List Nat} {op' : List Fil.H} (ho : OwnR 74 3 w X v l'.length (l'.flatMap (Fil.eC op'))) (hok : Fil.Ok { s with op := op' }) (hnd : l'.Nodup) (hmem : ∀ fd : Nat, fd ∈ l' ↔ ∃ x, op'[fd]? = some x ∧ x.kind ≠ 0) (hlen : l'.length = Fil.cnt op') :
    ∃ G', RS w0 (X.setCell ⟨rb, 1, none⟩ v) rb G' B { s with op := op' } l' ∧ Stp G G' w (X.setCell ⟨rb, 1, none⟩ v) := by
  obtain ⟨ru, va, vi, vs, vr, vc, vf, lv, u1, u2, us, inp, fs, h⟩ := h
  have hX := h.bw g
  have hsz := g.size
  have hq : Bq rb X (X.setCell ⟨rb, 1, none⟩ v) := (Bq.refl _ _).set _ _
  have hrb := (h.in_ rb h.g1.1).2
  have hru := (h.in_ ru h.g1.2.1).2
  have h0w : w0.heap.size ≤ w.heap.size := by have := (h.in_ rb h.g1.1).1; omega
  have hown : ∀ j, v.ownBlock = some j → w.heap.size ≤ j ∧ j < X.heap.size := fun j hj => OwnR.own ho j hj
  have hFz : Fz G w (X.setCell ⟨rb, 1, none⟩ v) := (Fz.of_bw g).trans (Fz.of_bq hq h.g1.1)
  have hlt1 : ∀ j, u1.ownBlock = some j → j < w.heap.size := fun j hj => (h.in_ j (h.n1 j hj).1).2
  have hlt2 : ∀ j, u2.ownBlock = some j → j < w.heap.size := fun j hj => (h.in_ j (h.n2 j hj).1).2
  have hbx := hX.box.set 1 (by simp) v
  have hmv := h.mv (s' := { s with op := op' }) (l' := l') (lv' := v) (u1' := u1) (u2' := u2) hFz hok ⟨rfl, rfl, rfl, rfl⟩ hbx (hX.ubx.blk (hq.block ru (Nat.lt_of_lt_of_le hru hsz) (Ne.symm h.g1.2.2))) h.la
    ⟨by
      rcases OwnR.box' ho with ⟨rfl, h3⟩ | ⟨g', c, rfl, h4, h5, h6, h7, h8⟩
      · exact ⟨none, 0, by rw [h3], by omega, by omega, fun h0 => by omega⟩
      · exact ⟨_, c, rfl, h7, h8, fun _ => ⟨g', rfl, Nat.lt_of_lt_of_le h6 hq.b0.size, h4.ne (by omega) _ _⟩⟩, fun j hj => ⟨Or.inr (Or.inl hj), by have := hown j hj; omega, by have := hown j hj; omega⟩⟩
    (hX.o1.heap fun j hj => hq.block j (Nat.lt_of_lt_of_le (hlt1 j hj) hsz) (h.n1 j hj).2.1) (hX.o2.heap fun j hj => hq.block j (Nat.lt_of_lt_of_le (hlt2 j hj) hsz) (h.n2 j hj).2.1)
    (fun j hj => ⟨by have := hown j hj; omega, Nat.lt_of_lt_of_le (hown j hj).2 hq.b0.size, fun e => by have := hown j hj; omega⟩)
    (fun j hj => ⟨(h.n1 j hj).2.1, (h.n1 j hj).2.2.1, fun e => by have := hown j e; have := hlt1 j hj; omega, fun _ => (h.n1 j hj).1⟩) (fun j hj => ⟨(h.n2 j hj).2.1, (h.n2 j hj).2.2.1, fun e => by have := hown j e; have := hlt2 j hj; omega, fun _ => (h.n2 j hj).1⟩)
    hnd hmem hlen
  exact ⟨_, ⟨_, _, _, _, _, _, _, _, _, _, _, _, _, hmv.1⟩, hmv.2⟩
theorem flat_same {f f' : Nat → List Value} {l : List Nat} (h : ∀ e ∈ l, f' e = f e) : l.flatMap f' = l.flatMap f := by
  induction l with
  | nil => rfl
  | cons x r ih => rw [List.flatMap_cons, List.flatMap_cons, h x List.mem_cons_self, ih (fun e he => h e (List.mem_cons_of_mem _ he))]
theorem LvS.rd {w0 w : World} {lv : Value} {G : Nat → Prop} {rb ru : Nat} {op : List Fil.H} {l : List Nat} (h : LvS w0 w lv G rb ru op l) : RdR 3 w lv l.length (l.flatMap (Fil.eC op)) := by
  obtain ⟨⟨q, cap, rfl, h2, h3, h4⟩, _⟩ := h
  refine ⟨q, cap, rfl, h2, h3, by rw [chunk_len (Fil.eC op) 3 (Fil.eC_len op)], fun h0 => ?_⟩
  obtain ⟨g, rfl, h5, h6⟩ := h4 h0
  exact ⟨g, 0, rfl, h5, fun j u hu => by rw [Nat.zero_add]; exact h6.c j u hu⟩
/-- The list, as it is read. -/
theorem RS.lst {w0 w : World} {rb : Nat} {G B : Nat → Prop} {s : Fil.St} {l : List Nat} (h : RS w0 w rb G B s l) : ∃ q c, w.cell? ⟨rb, 1, none⟩ = some (.slice q l.length c) ∧ l.length ≤ c ∧ c ≤ 9223372036854775807 ∧ RdR 3 w (.slice q l.length c) l.length (l.flatMap (Fil.eC s.op)) ∧ w.frozen? ⟨rb, 1, none⟩ = false ∧ rb < w.heap.size ∧ l.length = Fil.cnt s.op ∧ l.length ≤ 16 := by
  obtain ⟨ru, va, vi, vs, vr, vc, vf, lv, u1, u2, us, inp, fs, h⟩ := h
  have c1 := h.box.c 1 _ rfl
  have hr := h.ll.rd
  obtain ⟨⟨q, cap, rfl, h2, h3, _⟩, _⟩ := h.ll
  exact ⟨q, cap, c1, h2, h3, hr, h.box.f 1 (by simp), (h.in_ rb h.g1.1).2, h.len, by rw [h.len, ← h.ok.ln]; exact Fil.cnt_le _⟩
end Go.Proofs.Ytncidjkkngbclaa
namespace Go.Proofs.Ytncidjkkngbclaa
open Go.ChangeShapes Go.WideShapes Go.ChangeAt Go.RowKit

/-- What the loop over the Files has found. -/
def Fil.lastOk (fs : List Fee.Fl) (name : ByteArray) (k : Nat) (v : Int) : Prop := (v = -1 ∧ ∀ (i : Nat) y, i < k → fs[i]? = some y → Fil.same name y = false) ∨ ∃ (j : Nat) (y : Fee.Fl), v = j ∧ j < k ∧ fs[j]? = some y ∧ Fil.same name y = true
theorem Fil.last_find {fs : List Fee.Fl} {name : ByteArray} {v : Int} {z : Fee.Fl} (hu : ∀ (i j : Nat) x y, fs[i]? = some x → fs[j]? = some y → x.name.toList = y.name.toList → i = j) (h : Fil.lastOk fs name fs.length v) : Fil.find (z :: fs) name = v + 1 := by
  rw [Fil.find_idx]
  unfold Fil.idx
  rw [show (z :: fs).drop 1 = fs from rfl]
  rcases h with ⟨rfl, h⟩ | ⟨j, y, rfl, hj, hy, hs⟩
  · rw [idx_none h]; rfl
  · rw [idx_hit hy hs (fun i x hi hx => ?_)]
    · dsimp only; omega
    · cases hq : Fil.same name x with
      | false => rfl
      | true =>
        exfalso
        unfold Fil.same at hq hs
        have := hu i j x y hx hy (by rw [beq_iff_eq] at hq hs; rw [hq, hs])
        omega
theorem RS.fls {w0 w : World} {rb : Nat} {G B : Nat → Prop} {s : Fil.St} {l : List Nat} (h : RS w0 w rb G B s l) : ∃ ru z fs q c, s.srcs = z :: fs ∧ fs.length ≤ 1000 ∧ fs.length ≤ c ∧ (∀ (i j : Nat) x y, fs[i]? = some x → fs[j]? = some y → x.name.toList = y.name.toList → i = j) ∧ w.cell? ⟨rb, 0, none⟩ = some (.pointer (some ⟨ru, 0, none⟩)) ∧ w.cell? ⟨ru, 5, none⟩ = some (.slice q fs.length c) ∧ ∀ (i : Nat) f, fs[i]? = some f → ∃ b o, q = some ⟨b, o, none⟩ ∧ w.cell? ⟨b, o + i * 2, none⟩ = some (.string f.name) := by
  obtain ⟨ru, va, vi, vs, vr, vc, vf, lv, u1, u2, us, inp, fs, h⟩ := h
  have c0 := h.box.c 0 _ rfl
  have c5 := h.ubx.c 5 _ rfl
  obtain ⟨f1, ⟨q, cap, rfl, h2, h3, h4, h5⟩, f3⟩ := h.hf
  have hls := h.ok.ls.2
  rw [h.src] at hls
  refine ⟨ru, _, fs, q, cap, h.src, by simp at hls; omega, h2, h.uq, c0, c5, fun i f hf => ?_⟩
  have hi := (List.getElem?_eq_some_iff.1 hf).1
  obtain ⟨b, o, rfl, _, hc⟩ := h5 (by omega)
  obtain ⟨u, hu⟩ : ∃ u, us[i]? = some u := ⟨_, List.getElem?_eq_getElem (by omega)⟩
  exact ⟨b, o, rfl, hc _ _ (Fee.cells_at hf hu).1⟩
/-- A number more in the list. -/
theorem RS.more {w0 w X : World} {rb : Nat} {G B : Nat → Prop} {s : Fil.St} {l : List Nat} (h : RS w0 w rb G B s l) (g : Bw w X) {k p : Nat} (hk : Fil.free s.op = some k) (hp : p < s.srcs.length) {v : Value} (ho : OwnR 74 3 w X v (l.length + 1) (l.flatMap (Fil.eC s.op) ++ [.int .i64 k, .int .i64 ((p : Int) - 1), .int .i64 0])) :
    ∃ G', RS w0 (X.setCell ⟨rb, 1, none⟩ v) rb G' B { s with op := s.op.set k ⟨1, p, 0⟩ } (l ++ [k]) ∧ Stp G G' w (X.setCell ⟨rb, 1, none⟩ v) := by
  obtain ⟨hkl, hk0, hk1⟩ : ∃ hk : k < s.op.length, (s.op[k].kind == 0) = true ∧ True := by
    unfold Fil.free at hk
    rw [List.findIdx?_eq_some_iff_getElem] at hk
    obtain ⟨a, b, _⟩ := hk
    exact ⟨a, b, trivial⟩
  have hkx : s.op[k]? = some s.op[k] := List.getElem?_eq_getElem hkl
  have hk00 : s.op[k].kind = 0 := by simpa using hk0
  have hok := h.ok
  obtain ⟨hmem, hnd, hlen⟩ : (∀ fd : Nat, fd ∈ l ↔ ∃ x, s.op[fd]? = some x ∧ x.kind ≠ 0) ∧ l.Nodup ∧ l.length = Fil.cnt s.op := by
    obtain ⟨ru, va, vi, vs, vr, vc, vf, lv, u1, u2, us, inp, fs, h⟩ := h
    exact ⟨h.mem, h.nd, h.len⟩
  have hkn : k ∉ l := fun hm => by
    obtain ⟨x, hx, hxk⟩ := (hmem k).1 hm
    rw [hkx] at hx
    obtain rfl := Option.some.inj hx
    exact hxk hk00
  have hfl : (l ++ [k]).flatMap (Fil.eC (s.op.set k ⟨1, p, 0⟩)) = l.flatMap (Fil.eC s.op) ++ [.int .i64 k, .int .i64 ((p : Int) - 1), .int .i64 0] := by
    rw [List.flatMap_append, flat_same (fun e he => by unfold Fil.eC; rw [Fil.at_set hkl, if_neg (fun e2 : e = k => hkn (e2 ▸ he))])]
    congr 1
    rw [List.flatMap_cons, List.flatMap_nil, List.append_nil]
    unfold Fil.eC
    rw [Fil.at_set hkl, if_pos rfl]; rfl
  refine RS.setL h g (l' := l ++ [k]) (by rw [List.length_append, List.length_singleton, hfl]; exact ho) (hok.set k _ (Or.inr (Or.inl ⟨rfl, hp⟩))) ?_ (fun fd => ?_) ?_
  · rw [List.nodup_append]
    exact ⟨hnd, by simp, fun a ha b hb e => by simp at hb; subst hb; subst e; exact hkn ha⟩
  · rw [List.mem_append, List.mem_singleton, hmem fd]
    by_cases e : fd = k
    · subst e
      rw [List.getElem?_set_self hkl]
      exact ⟨fun _ => ⟨_, rfl, show (1 : Int) ≠ 0 by decide⟩, fun _ => Or.inr rfl⟩
    · rw [List.getElem?_set_ne (Ne.symm e)]
      exact ⟨fun h => h.resolve_right e, Or.inl⟩
  · rw [List.length_append, List.length_singleton, hlen, Fil.cnt_set hkx, (Fil.isO_no _).2 hk00]
    simp [show Fil.isO ⟨1, p, 0⟩ = true from rfl]
theorem app_list {w X : World} {q : Option Addr} {n c : Nat} {cs : List Value} (hb : Bw w X) (hR : RdR 3 X (.slice q n c) n cs) (h1 : ∀ u ∈ cs, u.oneCell' = true) (hn : n ≤ 100) : ∃ v1 w1, (Builtin.append_ #[57, 57] 57 #[.slice (some ⟨X.heap.size, 0, none⟩) 0 0, .slice q n c]).run Try.prog (X.alloc (.cells #[] 74)) = .ok v1 w1 ∧ OwnR 74 3 w w1 v1 n cs ∧ Bw w w1 := by
  have hown := OwnR.empty 74 3 (w0 := w) (w := X) hb.size
  obtain ⟨v1, w1, hr, ho, hbw⟩ := appS (ty := 57) infoOp Try.underlying57 rfl (by omega) (by omega) hown (hb.alloc _) (hR.bw ((Bw.refl X).alloc _)) h1 (by omega)
  rw [Nat.zero_add, List.nil_append] at ho
  exact ⟨v1, w1, hr, ho, hbw⟩
theorem app_one {w w1 : World} {v1 : Value} {n : Nat} {cs : List Value} (ho : OwnR 74 3 w w1 v1 n cs) (hb : Bw w w1) (a b c : Int) (hn : n ≤ 100) : ∃ q2 c2 w2, (Builtin.append_ #[57, 57] 57 #[v1, .slice (some ⟨w1.heap.size, 0, none⟩) 1 1]).run Try.prog (w1.alloc (.cells #[.int .i64 a, .int .i64 b, .int .i64 c] 74)) = .ok (.slice q2 (n + 1) c2) w2 ∧ OwnR 74 3 w w2 (.slice q2 (n + 1) c2) (n + 1) (cs ++ [.int .i64 a, .int .i64 b, .int .i64 c]) ∧ Bw w w2 := by
  obtain ⟨v', w', hr, ho2, hbw⟩ := appS (ty := 57) infoOp Try.underlying57 rfl (by omega) (by omega) (ho.bw ((Bw.refl w1).alloc (.cells #[.int .i64 a, .int .i64 b, .int .i64 c] 74))) (hb.alloc _) (RdR.new (sz := 3) (n := 1) w1 [.int .i64 a, .int .i64 b, .int .i64 c] 74 rfl (by omega)) (by intro u hu; simp at hu; rcases hu with rfl | rfl | rfl <;> rfl) (by omega)
  obtain ⟨g2, c2, rfl⟩ := ho2.form (by omega)
  exact ⟨_, _, _, hr, ho2, hbw⟩
set_option maxHeartbeats 8000000 in
set_option maxRecDepth 100000 in
theorem rOpen_c {w0 w : World} {rb : Nat} {G B : Nat → Prop} {s : Fil.St} {l : List Nat} (h : RS w0 w rb G B s l) (name : ByteArray) : Calls Try.prog 10 #[.pointer (some ⟨rb, 0, none⟩), .string name] w fun e w' => e = .returned (.int .i64 (Fil.open s name).1) ∧ ∃ G' l', RS w0 w' rb G' B (Fil.open s name).2 l' ∧ Stp G G' w w' := by
  obtain ⟨ru, z, fs, q, cf, hsrc, hf1, hf2, hu, c0, c5, hcell⟩ := h.fls
  obtain ⟨ql, cl, d1, d2, d3, d4, d5, d6, d7, d8⟩ := h.lst
  have HCell : Hid _ := hcell
  have HU : Hid _ := hu
  have HLen : Hid (l.length = Fil.cnt s.op) := d7
  clear d7
  have HFS : Hid _ := h
  have hln := h.ok.ln
  have HFind : Hid (∀ X, Bw w X → ∀ fd : Int, Calls Try.prog 28 #[.pointer (some ⟨rb, 0, none⟩), .int .i64 fd] X fun e w' => e = .returned (.int .i64 (Fil.fx l fd)) ∧ Bw X w') := fun X g fd => rFind_c (h.bw g) fd
  have hfl : (fs.length : Int) ≤ 1000 := by omega
  generalize hR : Fil.open s name = R
  have HR0 : Hid _ := hR
  clear h hcell hu hR
  go_enter Try.func10, Try.ntmps10
  go_wp2_with fail
  go_loopg [5, 6] fs.length (fun g fv j wr => ∃ k : Nat, ∃ v : Int, k + g = fs.length ∧ j = .int .i64 k ∧ fv = .int .i64 v ∧ w = wr ∧ Hid (Fil.lastOk fs name k v))
  case atStart => exact ⟨0, -1, by omega, rfl, rfl, rfl, Or.inl ⟨rfl, fun i y h => by omega⟩⟩
  case round =>
    obtain ⟨k, v, hkg, rfl, rfl, rfl, HL⟩ := hrel
    by_cases hk : k = fs.length
    rotate_left
    · have hkl : k < fs.length := by omega
      have hki : (k : Int) < (fs.length : Int) := by omega
      obtain ⟨f, hs, -⟩ := dropAt hkl
      obtain ⟨b, o, rfl, e0⟩ := (show ∀ (i : Nat) f, fs[i]? = some f → _ from HCell) k f hs
      cases hq : Fil.same name f with
      | true =>
        have hqn : (f.name.toList == name.toList) = true := hq
        have HL2 : Hid (Fil.lastOk fs name (k + 1) (k : Int)) := Or.inr ⟨k, f, rfl, by omega, hs, hq⟩
        clear hs hq
        go_wp2_with fail
        go_roundg (fs.length - (k + 1))
        case measure => omega
        case rel => exact ⟨k + 1, _, by omega, by simp, rfl, rfl, HL2⟩
      | false =>
        have hqn : (f.name.toList == name.toList) = false := hq
        have HL2 : Hid (Fil.lastOk fs name (k + 1) v) := by
          rcases (show Fil.lastOk fs name k v from HL) with ⟨e, hn⟩ | ⟨j, y, e, hj, hy, hsm⟩
          · refine Or.inl ⟨e, fun i y hi hy => ?_⟩
            by_cases e2 : i = k
            · subst e2; rw [hs] at hy; obtain rfl := Option.some.inj hy; exact hq
            · exact hn i y (by omega) hy
          · exact Or.inr ⟨j, y, e, by omega, hy, hsm⟩
        clear hs hq
        go_wp2_with fail
        go_roundg (fs.length - (k + 1))
        case measure => omega
        case rel => exact ⟨k + 1, _, by omega, by simp, rfl, rfl, HL2⟩
    · subst hk
      have hfind : Fil.find s.srcs name = v + 1 := by rw [hsrc]; exact Fil.last_find (show ∀ (i j : Nat) x y, _ → _ → _ → i = j from HU) HL
      have hvr : v = -1 ∨ ∃ j : Nat, v = j ∧ j < fs.length := by
        rcases (show Fil.lastOk fs name fs.length v from HL) with ⟨e, _⟩ | ⟨j, _, e, hj, _⟩
        · exact Or.inl e
        · exact Or.inr ⟨j, e, hj⟩
      clear HL HCell
      rcases hvr with rfl | ⟨j, rfl, hj⟩
      · have hRe : Fil.open s name = (-2, s) := by unfold Fil.open; rw [if_pos (by rw [hfind]; rfl)]
        rw [show Fil.open s name = R from HR0] at hRe
        clear hfind
        go_wp2_with fail
        go_returns
        rw [hRe]
        exact ⟨rfl, G, l, HFS, Stp.refl _ _⟩
      have hpl : j + 1 < s.srcs.length := by rw [hsrc, List.length_cons]; omega
      have HR : Hid (R = Fil.opened s (j + 1) (Fil.free s.op)) := by
        show R = _
        rw [← (show Fil.open s name = R from HR0)]; unfold Fil.open; rw [if_neg (by rw [hfind]; omega), hfind, show ((j : Int) + 1).toNat = j + 1 by omega]
      clear hfind HR0
      by_cases hfull : 16 ≤ l.length
      · have hfi : (16 : Int) ≤ (l.length : Int) := by omega
        have hRe : R = (-24, s) := by
          rw [show R = _ from HR, Fil.free_full (fun i y hi hy => by
            cases hq : Fil.isO y with
            | true => rfl
            | false => have := Fil.cnt_lt hy hq; have := (show l.length = Fil.cnt s.op from HLen); omega)]; rfl
        go_wp2_with fail
        go_returns
        rw [hRe]
        exact ⟨rfl, G, l, HFS, Stp.refl _ _⟩
      have hfi : ¬ (16 : Int) ≤ (l.length : Int) := by omega
      have hNum := (show RS w0 w rb G B s l from HFS).num
      have HNum : Hid _ := hNum
      clear hNum
      go_wp2_with fail
      go_loopg [7] 17 (fun g fv wr => ∃ m : Nat, m + g = 17 ∧ fv = .int .i64 m ∧ Bw w wr ∧ m ≤ 16 ∧ Hid (∀ (i : Nat) y, i < m → s.op[i]? = some y → Fil.isO y = true))
      case atStart => exact ⟨0, by omega, rfl, Bw.refl _, by omega, fun i y h => by omega⟩
      case round =>
        obtain ⟨m, hmg, rfl, hbq, hm16, HNo⟩ := hrel
        have hm : m < 16 := by
          apply Decidable.byContradiction
          intro hn
          have hall := Fil.cnt_all (op := s.op) (fun i y hi hy => (show ∀ (i : Nat) y, i < m → s.op[i]? = some y → Fil.isO y = true from HNo) i y (by omega) hy)
          have := (show l.length = Fil.cnt s.op from HLen)
          omega
        have hFd := (show ∀ X, Bw w X → ∀ fd : Int, _ from HFind) wr hbq m
        obtain ⟨y, hy⟩ : ∃ y, s.op[m]? = some y := ⟨_, List.getElem?_eq_getElem (by omega)⟩
        have hhd : Fil.hd s (m : Int) = y := by
          obtain ⟨y', hy', e⟩ := Fil.hd_at (s := s) hln hm
          rw [hy] at hy'; rw [e]; exact (Option.some.inj hy').symm
        rcases (show ∀ fd : Int, _ from HNum) (m : Int) with ⟨h0, hfx⟩ | ⟨k, i, x, hk, -, hx, hd, h0, -, hfx⟩
        · rw [hfx] at hFd
          rw [hhd] at h0
          have hfree : Fil.free s.op = some m := Fil.free_tab hy ((Fil.isO_no y).2 h0) (show ∀ (i : Nat) y, i < m → s.op[i]? = some y → Fil.isO y = true from HNo)
          have hRe : R = ((m : Int), { s with op := s.op.set m ⟨1, j + 1, 0⟩ }) := by rw [show R = _ from HR, hfree]; rfl
          have HMore := fun X (g : Bw w X) v => RS.more (v := v) (show RS w0 w rb G B s l from HFS) g hfree hpl
          have HMore2 : Hid _ := HMore
          clear HMore
          go_wp2_with fail
          refine hFd.mono ?_
          rintro e w2 ⟨rfl, hb2⟩
          have hb := hbq.trans hb2
          have d1' := hb.keep d1
          have d1a := fun o => ((Bw.refl w2).alloc o).keep d1'
          have hR2 := RdR.bw d4 hb
          obtain ⟨v1, w1, hr1, ho1, hb1⟩ := app_list hb hR2 (Fil.eC_one _ _) (by omega)
          obtain ⟨q2, c2, wz, hr2, ho2, hbz⟩ := app_one ho1 hb1 (m : Int) (j : Int) 0 (by omega)
          have hfin := (show ∀ X, Bw w X → ∀ v, _ → _ from HMore2) wz hbz (.slice q2 (l.length + 1) c2) (by rw [show (((j + 1 : Nat) : Int) - 1) = (j : Int) by omega]; exact ho2)
          have HFin : Hid _ := hfin
          have z1 := hbz.keep d1
          have z1f : wz.frozen? ⟨rb, 1, none⟩ = false := by
            rw [frozen_block (p := ⟨rb, 1, none⟩) (Below.block hbz rb d6)]; exact d5
          clear hfin ho1 ho2 hR2 HMore2
          go_wp2_with (first | (at_builtin; refine wpApp rfl _ _ 57 rfl rfl rfl hr1 ?_) | (at_builtin; refine wpApp rfl _ _ 57 rfl rfl rfl hr2 ?_) | go_in)
          go_returns
          rw [hRe]
          obtain ⟨G', f1, f2⟩ := (show ∃ G', _ from HFin)
          exact ⟨rfl, G', _, f1, f2⟩
        · obtain rfl : m = k := by omega
          rw [hfx] at hFd
          rw [hy] at hx
          obtain rfl := Option.some.inj hx
          have hi0 : (0 : Int) ≤ (i : Int) := by omega
          have HN2 : Hid (∀ (i : Nat) y, i < m + 1 → s.op[i]? = some y → Fil.isO y = true) := fun t y' ht hy' => by
            by_cases e : t = m
            · subst e; rw [hy] at hy'; obtain rfl := Option.some.inj hy'; exact (Fil.isO_iff _).2 h0
            · exact (show ∀ (i : Nat) y, i < m → s.op[i]? = some y → Fil.isO y = true from HNo) t y' (by omega) hy'
          clear hy h0 hd hhd
          go_wp2_with fail
          refine hFd.mono ?_
          rintro e w2 ⟨rfl, hb2⟩
          go_wp2_with fail
          go_roundg (17 - (m + 1))
          case measure => omega
          case rel => exact ⟨m + 1, by omega, by simp, hbq.trans hb2, by omega, HN2⟩
end Go.Proofs.Ytncidjkkngbclaa
