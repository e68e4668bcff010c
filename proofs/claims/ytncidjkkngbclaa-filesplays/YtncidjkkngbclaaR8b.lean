/- LAYER 11, the document's own open files: as Go holds them. · LAYER 11, the document's own open files: find, data, Out. -/
import Derived.Test.YtncidjkkngbclaaR7
import Derived.Test.YtncidjkkngbclaaR8
namespace Go.Proofs.Ytncidjkkngbclaa
open Go.ChangeShapes Go.WideShapes Go.ChangeAt Go.RowKit

/-- What the document's own list says of a number. -/
def Fil.file (h : Fil.H) : Int := if h.kind = 2 then -2 else (h.src : Int) - 1
def Fil.at_ (op : List Fil.H) (fd : Nat) : Fil.H := op[fd]?.getD Fil.no
def Fil.eC (op : List Fil.H) (fd : Nat) : List Value := [.int .i64 fd, .int .i64 (Fil.file (Fil.at_ op fd)), .int .i64 (Fil.at_ op fd).pos]
def Fil.fx (l : List Nat) (fd : Int) : Int := match l.findIdx? (fun e : Nat => decide ((e : Int) = fd)) with | some i => i | none => -1
/-- A slice whose block is of B. -/
def InB (B : Nat → Prop) (v : Value) : Prop := ∀ q k c, v = .slice (some q) k c → 0 < k → B q.block
/-- The list, as Go holds it. -/
structure LvS (w0 w : World) (lv : Value) (G : Nat → Prop) (rb ru : Nat) (op : List Fil.H) (l : List Nat) : Prop where
  f : ∃ q cap, lv = .slice q l.length cap ∧ l.length ≤ cap ∧ cap ≤ 9223372036854775807 ∧ (0 < l.length → ∃ g, q = some ⟨g, 0, none⟩ ∧ g < w.heap.size ∧ Box w g (l.flatMap (Fil.eC op)))
  n : ∀ g, lv.ownBlock = some g → G g ∧ g ≠ rb ∧ g ≠ ru
structure RsX (w0 w : World) (rb ru : Nat) (va vi vs vr vc vf lv u1 u2 : Value) (us : List Value) (inp : List Int) (fs : List Fee.Fl) (G B : Nat → Prop) (s : Fil.St) (l : List Nat) : Prop where
  ok : Fil.Ok s
  src : s.srcs = ⟨⟨#[]⟩, inp⟩ :: fs
  uq : ∀ (i j : Nat) x y, fs[i]? = some x → fs[j]? = some y → x.name.toList = y.name.toList → i = j
  box : Box w rb [.pointer (some ⟨ru, 0, none⟩), lv, u1, u2]
  ubx : Box w ru [va, vi, vs, vr, vc, vf, .int .i64 s.a, .int .i64 s.b, .int .i64 s.c]
  la : s.a ≤ s.sh.length ∧ s.b ≤ s.rd.length ∧ s.c ≤ s.ck.length
  hs : NsS w vs s.sh ∧ Rd8 w vr s.rd ∧ WsS w vc s.ck ∧ Rd8 w vi inp
  hf : us.length = fs.length ∧ RdR 2 w vf fs.length (Fee.cells fs us) ∧ (∀ (i : Nat) f u, fs[i]? = some f → us[i]? = some u → Rd8 w u f.data)
  hb : InB B vs ∧ InB B vr ∧ InB B vc ∧ InB B vi ∧ InB B vf ∧ ∀ u ∈ us, InB B u
  lo : ∀ i, B i → i < w0.heap.size
  in_ : ∀ i, G i → w0.heap.size ≤ i ∧ i < w.heap.size
  g1 : G rb ∧ G ru ∧ rb ≠ ru
  ll : LvS w0 w lv G rb ru s.op l
  o1 : Own8 w0 w u1 s.o1
  o2 : Own8 w0 w u2 s.o2
  n1 : ∀ g, u1.ownBlock = some g → G g ∧ g ≠ rb ∧ g ≠ ru ∧ lv.ownBlock ≠ some g
  n2 : ∀ g, u2.ownBlock = some g → G g ∧ g ≠ rb ∧ g ≠ ru ∧ lv.ownBlock ≠ some g
  nd : l.Nodup
  mem : ∀ fd : Nat, fd ∈ l ↔ ∃ h, s.op[fd]? = some h ∧ h.kind ≠ 0
  len : l.length = Fil.cnt s.op
def RS (w0 w : World) (rb : Nat) (G B : Nat → Prop) (s : Fil.St) (l : List Nat) : Prop := ∃ ru va vi vs vr vc vf lv u1 u2 us inp fs, RsX w0 w rb ru va vi vs vr vc vf lv u1 u2 us inp fs G B s l
theorem InB.fz {B A : Nat → Prop} {v : Value} (h : InB B v) (hd : ∀ i, B i → ¬ A i) : ∀ q k c, v = .slice (some q) k c → 0 < k → ¬ A q.block := fun q k c e hk => hd _ (h q k c e hk)
theorem LvS.blk {w0 w w' : World} {lv : Value} {G : Nat → Prop} {rb ru : Nat} {op : List Fil.H} {l : List Nat} (h : LvS w0 w lv G rb ru op l) (hs : w.heap.size ≤ w'.heap.size) (hk : ∀ g, lv.ownBlock = some g → w'.heap[g]? = w.heap[g]?) : LvS w0 w' lv G rb ru op l := by
  obtain ⟨⟨q, cap, rfl, h2, h3, h4⟩, hn⟩ := h
  refine ⟨⟨q, cap, rfl, h2, h3, fun h0 => ?_⟩, hn⟩
  obtain ⟨g, rfl, h5, h6⟩ := h4 h0
  exact ⟨g, rfl, Nat.lt_of_lt_of_le h5 hs, h6.blk (hk g rfl)⟩
/-- Whatever writes other blocks alone leaves it as it is. -/
theorem RsX.fz {w0 w w' : World} {rb ru : Nat} {va vi vs vr vc vf lv u1 u2 : Value} {us : List Value} {inp : List Int} {fs : List Fee.Fl} {G B A : Nat → Prop} {s : Fil.St} {l : List Nat} (h : RsX w0 w rb ru va vi vs vr vc vf lv u1 u2 us inp fs G B s l) (g : Fz A w w') (hG : ∀ i, G i → ¬ A i) (hB : ∀ i, B i → ¬ A i) : RsX w0 w' rb ru va vi vs vr vc vf lv u1 u2 us inp fs G B s l := by
  have hsz := g.b0.size
  have hblk : ∀ i, G i → w'.heap[i]? = w.heap[i]? := fun i hi => g.block i (h.in_ i hi).2 (hG i hi)
  obtain ⟨b1, b2, b3, b4, b5, b6⟩ := h.hb
  obtain ⟨s1, s2, s3, s4⟩ := h.hs
  obtain ⟨f1, f2, f3⟩ := h.hf
  refine ⟨h.ok, h.src, h.uq, h.box.blk (hblk rb h.g1.1), h.ubx.blk (hblk ru h.g1.2.1), h.la, ⟨RdR.fz s1 g (b1.fz hB), Rd8.fz s2 g (b2.fz hB), RdR.fz s3 g (b3.fz hB), Rd8.fz s4 g (b4.fz hB)⟩, ⟨f1, RdR.fz f2 g (b5.fz hB), fun i f u a b => (f3 i f u a b).fz g ((b6 u (List.mem_of_getElem? b)).fz hB)⟩, h.hb, h.lo, fun i hi => ⟨(h.in_ i hi).1, Nat.lt_of_lt_of_le (h.in_ i hi).2 hsz⟩, h.g1, h.ll.blk hsz (fun g' e => hblk g' (h.ll.n g' e).1), h.o1.heap (fun j hj => hblk j (h.n1 j hj).1), h.o2.heap (fun j hj => hblk j (h.n2 j hj).1), h.n1, h.n2, h.nd, h.mem, h.len⟩
theorem RsX.bw {w0 w w' : World} {rb ru : Nat} {va vi vs vr vc vf lv u1 u2 : Value} {us : List Value} {inp : List Int} {fs : List Fee.Fl} {G B : Nat → Prop} {s : Fil.St} {l : List Nat} (h : RsX w0 w rb ru va vi vs vr vc vf lv u1 u2 us inp fs G B s l) (g : Bw w w') : RsX w0 w' rb ru va vi vs vr vc vf lv u1 u2 us inp fs G B s l := h.fz (A := fun _ => False) (Fz.of_bw g) (fun _ _ h => h) (fun _ _ h => h)
theorem RS.fz {w0 w w' : World} {rb : Nat} {G B A : Nat → Prop} {s : Fil.St} {l : List Nat} (h : RS w0 w rb G B s l) (g : Fz A w w') (hG : ∀ i, G i → ¬ A i) (hB : ∀ i, B i → ¬ A i) : RS w0 w' rb G B s l := by
  obtain ⟨ru, va, vi, vs, vr, vc, vf, lv, u1, u2, us, inp, fs, h⟩ := h
  exact ⟨_, _, _, _, _, _, _, _, _, _, _, _, _, h.fz g hG hB⟩
theorem RS.bw {w0 w w' : World} {rb : Nat} {G B : Nat → Prop} {s : Fil.St} {l : List Nat} (h : RS w0 w rb G B s l) (g : Bw w w') : RS w0 w' rb G B s l := h.fz (A := fun _ => False) (Fz.of_bw g) (fun _ _ h => h) (fun _ _ h => h)
/-- A step within: a box, the use, the list, what is written. -/
theorem RsX.mv {w0 w w' : World} {rb ru : Nat} {va vi vs vr vc vf lv u1 u2 lv' u1' u2' : Value} {us : List Value} {inp : List Int} {fs : List Fee.Fl} {G B : Nat → Prop} {s s' : Fil.St} {l l' : List Nat} (h : RsX w0 w rb ru va vi vs vr vc vf lv u1 u2 us inp fs G B s l)
    (g : Fz G w w') (hok : Fil.Ok s') (hs : s'.srcs = s.srcs ∧ s'.sh = s.sh ∧ s'.rd = s.rd ∧ s'.ck = s.ck) (hbx : Box w' rb [.pointer (some ⟨ru, 0, none⟩), lv', u1', u2']) (hux : Box w' ru [va, vi, vs, vr, vc, vf, .int .i64 s'.a, .int .i64 s'.b, .int .i64 s'.c])
    (hla : s'.a ≤ s.sh.length ∧ s'.b ≤ s.rd.length ∧ s'.c ≤ s.ck.length) (hlv : LvS w0 w' lv' (fun i => G i ∨ lv'.ownBlock = some i ∨ u1'.ownBlock = some i ∨ u2'.ownBlock = some i) rb ru s'.op l') (ho1 : Own8 w0 w' u1' s'.o1) (ho2 : Own8 w0 w' u2' s'.o2)
    (hl : ∀ i, lv'.ownBlock = some i → w0.heap.size ≤ i ∧ i < w'.heap.size ∧ (i < w.heap.size → G i))
    (h1 : ∀ i, u1'.ownBlock = some i → i ≠ rb ∧ i ≠ ru ∧ lv'.ownBlock ≠ some i ∧ (i < w.heap.size → G i)) (h2 : ∀ i, u2'.ownBlock = some i → i ≠ rb ∧ i ≠ ru ∧ lv'.ownBlock ≠ some i ∧ (i < w.heap.size → G i))
    (hnd : l'.Nodup) (hmem : ∀ fd : Nat, fd ∈ l' ↔ ∃ x, s'.op[fd]? = some x ∧ x.kind ≠ 0) (hlen : l'.length = Fil.cnt s'.op) :
    RsX w0 w' rb ru va vi vs vr vc vf lv' u1' u2' us inp fs (fun i => G i ∨ lv'.ownBlock = some i ∨ u1'.ownBlock = some i ∨ u2'.ownBlock = some i) B s' l' ∧ Stp G (fun i => G i ∨ lv'.ownBlock = some i ∨ u1'.ownBlock = some i ∨ u2'.ownBlock = some i) w w' := by
  have hsz := g.b0.size
  have hB : ∀ i, B i → ¬ G i := fun i hi e => by have := h.lo i hi; have := (h.in_ i e).1; omega
  obtain ⟨b1, b2, b3, b4, b5, b6⟩ := h.hb
  obtain ⟨s1, s2, s3, s4⟩ := h.hs
  obtain ⟨f1, f2, f3⟩ := h.hf
  obtain ⟨e1, e2, e3, e4⟩ := hs
  refine ⟨⟨hok, e1 ▸ h.src, h.uq, hbx, hux, by rw [e2, e3, e4]; exact hla, by rw [e2, e3, e4]; exact ⟨RdR.fz s1 g (b1.fz hB), Rd8.fz s2 g (b2.fz hB), RdR.fz s3 g (b3.fz hB), Rd8.fz s4 g (b4.fz hB)⟩, ⟨f1, RdR.fz f2 g (b5.fz hB), fun i f u a b => (f3 i f u a b).fz g ((b6 u (List.mem_of_getElem? b)).fz hB)⟩, h.hb, h.lo, ?_, ⟨Or.inl h.g1.1, Or.inl h.g1.2.1, h.g1.2.2⟩, hlv, ho1, ho2, ?_, ?_, hnd, hmem, hlen⟩, ⟨g, ?_⟩⟩
  · rintro i (hi | hi | hi | hi)
    · exact ⟨(h.in_ i hi).1, Nat.lt_of_lt_of_le (h.in_ i hi).2 hsz⟩
    · exact ⟨(hl i hi).1, (hl i hi).2.1⟩
    · exact ho1.blk i hi
    · exact ho2.blk i hi
  · intro i hi; obtain ⟨a, b, c, _⟩ := h1 i hi; exact ⟨Or.inr (Or.inr (Or.inl hi)), a, b, c⟩
  · intro i hi; obtain ⟨a, b, c, _⟩ := h2 i hi; exact ⟨Or.inr (Or.inr (Or.inr hi)), a, b, c⟩
  · rintro i hi (e | e | e | e)
    · exact e
    · exact (hl i e).2.2 hi
    · exact (h1 i e).2.2.2 hi
    · exact (h2 i e).2.2.2 hi
end Go.Proofs.Ytncidjkkngbclaa
namespace Go.Proofs.Ytncidjkkngbclaa
open Go.ChangeShapes Go.WideShapes Go.ChangeAt Go.RowKit

theorem Fil.fx_at {l : List Nat} (hn : l.Nodup) {i k : Nat} (h : l[i]? = some k) : Fil.fx l (k : Int) = i := by
  unfold Fil.fx
  rw [idx_hit (p := fun e : Nat => decide ((e : Int) = (k : Int))) h (by simp) (fun j y hj hy => ?_)]
  rw [decide_eq_false_iff_not]
  intro e
  have e2 : y = k := by omega
  subst e2
  obtain ⟨h1, h2⟩ := List.getElem?_eq_some_iff.1 h
  obtain ⟨h3, h4⟩ := List.getElem?_eq_some_iff.1 hy
  have := (List.getElem_inj hn).1 (h4.trans h2.symm)
  omega
theorem Fil.fx_no {l : List Nat} {fd : Int} (h : ∀ k ∈ l, (k : Int) ≠ fd) : Fil.fx l fd = -1 := by
  unfold Fil.fx
  rw [idx_none (p := fun e : Nat => decide ((e : Int) = fd)) (fun j y _ hy => by rw [decide_eq_false_iff_not]; exact h y (List.mem_of_getElem? hy))]
/-- A number in the document's own list, or not there. -/
theorem RsX.num {w0 w : World} {rb ru : Nat} {va vi vs vr vc vf lv u1 u2 : Value} {us : List Value} {inp : List Int} {fs : List Fee.Fl} {G B : Nat → Prop} {s : Fil.St} {l : List Nat} (h : RsX w0 w rb ru va vi vs vr vc vf lv u1 u2 us inp fs G B s l) (fd : Int) :
    ((Fil.hd s fd).kind = 0 ∧ Fil.fx l fd = -1) ∨ ∃ (k i : Nat) (x : Fil.H), fd = k ∧ k < 16 ∧ s.op[k]? = some x ∧ Fil.hd s fd = x ∧ x.kind ≠ 0 ∧ l[i]? = some k ∧ Fil.fx l fd = i := by
  by_cases h0 : (Fil.hd s fd).kind = 0
  · refine Or.inl ⟨h0, Fil.fx_no (fun k hk e => ?_)⟩
    obtain ⟨x, hx, hxk⟩ := (h.mem k).1 hk
    have hk16 : k < 16 := by rw [← h.ok.ln]; exact (List.getElem?_eq_some_iff.1 hx).1
    obtain ⟨y, hy, hd⟩ := Fil.hd_at (s := s) h.ok.ln hk16
    rw [hx] at hy
    obtain rfl := Option.some.inj hy
    rw [← e, hd] at h0
    exact hxk h0
  · have hfd : 0 ≤ fd ∧ fd < 16 := by
      apply Decidable.byContradiction
      intro hn
      rw [Fil.hd_out hn] at h0
      exact h0 rfl
    obtain ⟨k, rfl⟩ : ∃ k : Nat, fd = k := ⟨fd.toNat, by omega⟩
    obtain ⟨x, hx, hd⟩ := Fil.hd_at (s := s) h.ok.ln (k := k) (by omega)
    rw [hd] at h0
    have hm := (h.mem k).2 ⟨x, hx, h0⟩
    obtain ⟨i, hi, he⟩ := List.getElem_of_mem hm
    have hik : l[i]? = some k := by rw [List.getElem?_eq_getElem hi, he]
    exact Or.inr ⟨k, i, x, rfl, by omega, hx, hd, h0, hik, Fil.fx_at h.nd hik⟩
theorem Fil.eC_len (op : List Fil.H) (e : Nat) : (Fil.eC op e).length = 3 := rfl
/-- The cells of one of the list. -/
theorem LvS.at_ {w0 w : World} {lv : Value} {G : Nat → Prop} {rb ru : Nat} {op : List Fil.H} {l : List Nat} (h : LvS w0 w lv G rb ru op l) : ∃ q cap, lv = .slice q l.length cap ∧ l.length ≤ cap ∧ cap ≤ 9223372036854775807 ∧ ∀ (i k : Nat), l[i]? = some k → ∃ g, q = some ⟨g, 0, none⟩ ∧ g < w.heap.size ∧ G g ∧ g ≠ rb ∧ g ≠ ru ∧
    (w.cell? ⟨g, i * 3, none⟩ = some (.int .i64 k) ∧ w.cell? ⟨g, i * 3 + 1, none⟩ = some (.int .i64 (Fil.file (Fil.at_ op k))) ∧ w.cell? ⟨g, i * 3 + 2, none⟩ = some (.int .i64 (Fil.at_ op k).pos)) ∧ w.frozen? ⟨g, i * 3 + 2, none⟩ = false := by
  obtain ⟨⟨q, cap, rfl, h2, h3, h4⟩, hn⟩ := h
  refine ⟨q, cap, rfl, h2, h3, fun i k hi => ?_⟩
  have hil := (List.getElem?_eq_some_iff.1 hi).1
  obtain ⟨g, rfl, h5, h6⟩ := h4 (by omega)
  obtain ⟨n1, n2, n3⟩ := hn g rfl
  have c : ∀ j u, (Fil.eC op k)[j]? = some u → w.cell? ⟨g, i * 3 + j, none⟩ = some u := fun j u hu =>
    h6.c _ u (by rw [chunk (Fil.eC op) 3 (Fil.eC_len op) l i k j hi (List.getElem?_eq_some_iff.1 hu).1]; exact hu)
  exact ⟨g, rfl, h5, n1, n2, n3, ⟨c 0 _ rfl, c 1 _ rfl, c 2 _ rfl⟩, h6.f _ (by rw [chunk_len (Fil.eC op) 3 (Fil.eC_len op)]; omega)⟩
set_option maxHeartbeats 4000000 in
set_option maxRecDepth 100000 in
theorem rFind_c {w0 w : World} {rb : Nat} {G B : Nat → Prop} {s : Fil.St} {l : List Nat} (h : RS w0 w rb G B s l) (fd : Int) : Calls Try.prog 28 #[.pointer (some ⟨rb, 0, none⟩), .int .i64 fd] w fun e w' => e = .returned (.int .i64 (Fil.fx l fd)) ∧ Bw w w' := by
  obtain ⟨ru, va, vi, vs, vr, vc, vf, lv, u1, u2, us, inp, fs, h⟩ := h
  have c1 := h.box.c 1 _ rfl
  obtain ⟨q, cap, rfl, hc1, hc2, hcell⟩ := h.ll.at_
  have HCell : Hid _ := hcell
  have hl16 : l.length ≤ 16 := by rw [h.len, ← h.ok.ln]; exact Fil.cnt_le _
  generalize hR : Fil.fx l fd = R
  have HR : Hid _ := hR
  clear hR h hcell
  go_enter Try.func28, Try.ntmps28
  go_wp2_with fail
  go_loopg [5] l.length (fun g j wr => ∃ k : Nat, k + g = l.length ∧ j = .int .i64 k ∧ Bw w wr ∧ Hid (∀ (i : Nat) y, i < k → l[i]? = some y → decide ((y : Int) = fd) = false))
  case atStart => exact ⟨0, by omega, rfl, Bw.refl _, fun i y h => by omega⟩
  case round =>
    obtain ⟨k, hkg, rfl, hbw, HNo⟩ := hrel
    have c1' := hbw.keep c1
    by_cases hk : k = l.length
    · subst hk
      have HF : Hid (-1 = R) := by
        have h := (show _ = R from HR)
        unfold Fil.fx at h
        rw [idx_none (show ∀ (i : Nat) y, i < l.length → l[i]? = some y → decide ((y : Int) = fd) = false from HNo)] at h
        exact h
      go_wp2_with fail
      go_returns
      exact ret_i HF hbw
    · have hkl : k < l.length := by omega
      have hki : (k : Int) < (l.length : Int) := by omega
      obtain ⟨e, hs, -⟩ := dropAt hkl
      obtain ⟨g, rfl, -, -, -, -, ⟨d0, -, -⟩, -⟩ := (show ∀ (i k : Nat), l[i]? = some k → _ from HCell) k e hs
      have d0' := hbw.keep d0
      by_cases he : (e : Int) = fd
      · have HF : Hid ((k : Int) = R) := by
          have h := (show _ = R from HR)
          unfold Fil.fx at h
          rw [idx_hit (p := fun e : Nat => decide ((e : Int) = fd)) hs (by simp [he]) (show ∀ (i : Nat) y, i < k → l[i]? = some y → decide ((y : Int) = fd) = false from HNo)] at h
          exact h
        have heb : ((e : Int) == fd) = true := by simp [he]
        go_wp2_with fail
        go_returns
        exact ret_i HF hbw
      · have heb : ((e : Int) == fd) = false := by simp [he]
        have HN2 : Hid (∀ (i : Nat) y, i < k + 1 → l[i]? = some y → decide ((y : Int) = fd) = false) := fun i y hi hy => by
          by_cases e2 : i = k
          · subst e2; rw [hs] at hy; obtain rfl := Option.some.inj hy; exact decide_eq_false he
          · exact (show ∀ (i : Nat) y, i < k → l[i]? = some y → decide ((y : Int) = fd) = false from HNo) i y (by omega) hy
        clear he
        go_wp2_with fail
        go_roundg (l.length - (k + 1))
        case measure => omega
        case rel => exact ⟨k + 1, by omega, by simp, hbw, HN2⟩
/-- What one reads, of the document's own. -/
theorem RsX.data {w0 w : World} {rb ru : Nat} {va vi vs vr vc vf lv u1 u2 : Value} {us : List Value} {inp : List Int} {fs : List Fee.Fl} {G B : Nat → Prop} {s : Fil.St} {l : List Nat} (h : RsX w0 w rb ru va vi vs vr vc vf lv u1 u2 us inp fs G B s l) {x : Fil.H} (hx : x.src < s.srcs.length) :
    (x.src = 0 ∧ Fil.data s x = inp ∧ ∃ q c, vi = .slice q inp.length c) ∨ ∃ i f q cap b o qs cs, x.src = i + 1 ∧ i < fs.length ∧ fs[i]? = some f ∧ Fil.data s x = f.data ∧ vf = .slice q fs.length cap ∧ q = some ⟨b, o, none⟩ ∧ w.cell? ⟨b, o + i * 2 + 1, none⟩ = some (.slice qs f.data.length cs) ∧ Rd8 w (.slice qs f.data.length cs) f.data ∧ InB B (.slice qs f.data.length cs) := by
  unfold Fil.data
  rw [h.src] at hx ⊢
  cases hs : x.src with
  | zero =>
    obtain ⟨q, c, e, _⟩ := Rd8.open h.hs.2.2.2
    exact Or.inl ⟨rfl, rfl, q, c, e⟩
  | succ i =>
    rw [hs] at hx
    simp at hx
    obtain ⟨f1, f2, f3⟩ := h.hf
    obtain ⟨f, hf⟩ : ∃ f, fs[i]? = some f := ⟨_, List.getElem?_eq_getElem hx⟩
    obtain ⟨u, hu⟩ : ∃ u, us[i]? = some u := ⟨_, List.getElem?_eq_getElem (by omega)⟩
    have h8 := f3 i f u hf hu
    obtain ⟨qs, cs, rfl, _⟩ := Rd8.open h8
    obtain ⟨q, cap, rfl, _, _, _, h6⟩ := f2
    obtain ⟨b, o, rfl, _, hc⟩ := h6 (by omega)
    refine Or.inr ⟨i, f, _, cap, b, o, qs, cs, rfl, hx, hf, by simp [hf], rfl, rfl, ?_, h8, h.hb.2.2.2.2.2 _ (List.mem_of_getElem? hu)⟩
    rw [Nat.add_assoc]
    exact hc _ _ (Fee.cells_at hf hu).2
set_option maxHeartbeats 4000000 in
set_option maxRecDepth 100000 in
theorem rData_c {w0 w : World} {rb : Nat} {G B : Nat → Prop} {s : Fil.St} {l : List Nat} (h : RS w0 w rb G B s l) {x : Fil.H} (hx : x.src < s.srcs.length) (h1 : x.kind = 1) (fd : Int) : Calls Try.prog 32 #[.pointer (some ⟨rb, 0, none⟩), .agg #[.int .i64 fd, .int .i64 (Fil.file x), .int .i64 x.pos]] w fun e w' => ∃ v, e = .returned v ∧ Rd8 w' v (Fil.data s x) ∧ InB B v ∧ Bw w w' := by
  obtain ⟨ru, va, vi, vs, vr, vc, vf, lv, u1, u2, us, inp, fs, h⟩ := h
  have hfl : Fil.file x = (x.src : Int) - 1 := by unfold Fil.file; rw [if_neg (by rw [h1]; decide)]
  have hbx := Box.new w [.int .i64 fd, .int .i64 (Fil.file x), .int .i64 x.pos] 74
  have gA : Bw w (w.alloc (.cells #[.int .i64 fd, .int .i64 (Fil.file x), .int .i64 x.pos] 74)) := (Bw.refl _).alloc _
  have x1 := hbx.c 1 _ rfl
  have c0 := gA.keep (h.box.c 0 _ rfl)
  have d1 := gA.keep (h.ubx.c 1 _ rfl)
  have d5 := gA.keep (h.ubx.c 5 _ rfl)
  rcases h.data hx with ⟨e0, e1, q, c, e2⟩ | ⟨i, f, q, cap, b, o, qs, cs, e0, e1, e2, e3, e4, e5, e6, e7, e8⟩
  · rw [e1]
    have HI : Hid _ := h.hs.2.2.2
    have HB : Hid _ := h.hb.2.2.2.1
    have hm1 : Fil.file x = -1 := by rw [hfl, e0]; rfl
    rw [hm1] at x1 ⊢
    rw [hm1] at gA c0 d1 d5
    clear h d5 hbx e0 e1 hfl
    subst e2
    go_enter Try.func32, Try.ntmps32
    go_wp2_with fail
    go_returns
    exact ⟨_, rfl, Rd8.bw HI (by first | exact gA | exact gA.drew), HB, by first | exact gA | exact gA.drew⟩
  · rw [e3]
    have hfi : Fil.file x = (i : Int) := by have := hfl; rw [e0] at this; omega
    rw [hfi] at x1 gA c0 d1 d5 ⊢
    have hne : ((i : Int) == -1) = false := by first | (simp; done) | (simp; omega)
    have hil : (i : Int) < (fs.length : Int) := by omega
    have e6' := gA.keep e6
    have HI : Hid _ := e7
    have HB : Hid _ := e8
    subst e4 e5
    have hcap : fs.length ≤ cap := by obtain ⟨_, ⟨_, _, e, hh, _⟩, _⟩ := h.hf; simp at e; omega
    clear h d1 hbx e0 e1 e3 e6 e7 e8 hfl
    go_enter Try.func32, Try.ntmps32
    go_wp2_with fail
    go_region
    go_wp2_with fail
    go_returns
    exact ⟨_, rfl, Rd8.bw HI (by first | exact gA | exact gA.drew), HB, by first | exact gA | exact gA.drew⟩
set_option maxHeartbeats 4000000 in
set_option maxRecDepth 100000 in
theorem rOut_c {w0 w : World} {rb : Nat} {G B : Nat → Prop} {s : Fil.St} {l : List Nat} (h : RS w0 w rb G B s l) (fd : Int) : Calls Try.prog 23 #[.pointer (some ⟨rb, 0, none⟩), .int .i64 fd] w fun e w' => ∃ v, e = .returned v ∧ Own8 w0 w' v (Fil.outAt s fd) ∧ (∀ g, v.ownBlock = some g → G g) ∧ Bw w w' := by
  obtain ⟨ru, va, vi, vs, vr, vc, vf, lv, u1, u2, us, inp, fs, h⟩ := h
  have c2 := h.box.c 2 _ rfl
  have c3 := h.box.c 3 _ rfl
  have HO1 : Hid _ := h.o1
  have HO2 : Hid _ := h.o2
  have HN1 : Hid (∀ g, u1.ownBlock = some g → G g) := fun g e => (h.n1 g e).1
  have HN2 : Hid (∀ g, u2.ownBlock = some g → G g) := fun g e => (h.n2 g e).1
  clear h
  by_cases h1 : fd = 1
  · subst h1
    go_enter Try.func23, Try.ntmps23
    go_wp2_with fail
    go_returns
    exact ⟨_, rfl, HO1, HN1, Bw.refl _⟩
  by_cases h2 : fd = 2
  · subst h2
    go_enter Try.func23, Try.ntmps23
    go_wp2_with fail
    go_returns
    exact ⟨_, rfl, HO2, HN2, Bw.refl _⟩
  · have b1 : (fd != 1) = true := by simpa using h1
    have b2 : (fd != 2) = true := by simpa using h2
    rw [show Fil.outAt s fd = [] by unfold Fil.outAt; rw [if_neg h1, if_neg h2]]
    go_enter Try.func23, Try.ntmps23
    go_wp2_with fail
    go_returns
    exact ⟨_, rfl, Own8.nil _ _, fun g e => by simp [Value.ownBlock] at e, Bw.refl _⟩
end Go.Proofs.Ytncidjkkngbclaa
