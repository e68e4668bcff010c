/- LAYER 11's law FilesPlays: what its walk wants. · LAYER 11's law FilesPlays: both sides side by side, beside the law's own box; how far a place may come. · LAYER 11's law FilesPlays: a text's bytes, made anew. -/
import Derived.Test.YtncidjkkngbclaaR9
import Derived.Test.YtncidjkkngbclaaR10
import Derived.Test.YtncidjkkngbclaaR11
import Derived.Test.YtncidjkkngbclaaR12
import Derived.Lib.ConvBytes
namespace Go.Proofs.Ytncidjkkngbclaa
open Go.ChangeShapes Go.WideShapes Go.ChangeAt Go.RowKit

/-- The blocks that the document's side reads: the arguments', and its own slice of files. -/
def Fil.Bk (W : World) (u : Value) (i : Nat) : Prop := i < W.heap.size ∨ ∃ q k c, u = .slice (some q) k c ∧ 0 < k ∧ i = q.block
theorem Fil.Bk.lo {W : World} {u v : Value} (h : Lo W.heap.size v) : InB (Fil.Bk W u) v := fun q k c e hk => Or.inl (h q k c e hk)
theorem Fil.Bk.u (W : World) (u : Value) : InB (Fil.Bk W u) u := fun q k c e hk => Or.inr ⟨q, k, c, e, hk, rfl⟩
theorem Fil.Bk.lt {W w : World} {u : Value} (h : W.heap.size ≤ w.heap.size) (hu : Lo w.heap.size u) : ∀ i, Fil.Bk W u i → i < w.heap.size := by
  rintro i (hi | ⟨q, k, c, e, hk, rfl⟩)
  · omega
  · exact hu q k c e hk
theorem Fil.new_pos (f : Fee.Fd) : ∀ x ∈ (Fil.new f).op, x.pos ≤ 0 := by
  show ∀ x ∈ ([⟨1, 0, 0⟩, ⟨2, 0, 0⟩, ⟨2, 0, 0⟩] ++ List.replicate 13 Fil.no : List Fil.H), x.pos ≤ 0
  decide +kernel
theorem Tw.new {W w3 w4 w5 : World} {fb : Nat} {A : Nat → Prop} {f : Fee.Fd} {uf : Value} (hL : LF W w3 fb A (Fil.new f)) (h4 : Bw w3 w4) (hA : ∀ i, A i → W.heap.size ≤ i) (hu : ∀ q k c, uf = .slice (some q) k c → 0 < k → w3.heap.size ≤ q.block) (rb : Nat) (G : Nat → Prop) (hR : RS w4 w5 rb G (Fil.Bk W uf) (Fil.new f) [0, 1, 2]) (h5 : Bw w4 w5) (hG : ∀ i, G i → w4.heap.size ≤ i) : Tw W w4 w5 fb rb A G (Fil.Bk W uf) (Fil.new f) [0, 1, 2] := by
  have s4 := h4.size
  refine ⟨(hL.bw h4).bw h5, hR, (hL.bw h4).b.size, fun i ha hg => ?_, ?_⟩
  · have := (hL.f.in_ i ha).2
    have := hG i hg
    omega
  · rintro i ha (hi | ⟨q, k, c, e, hk, rfl⟩)
    · have := hA i ha; omega
    · have := (hL.f.in_ _ ha).2
      have := hu q k c e hk
      omega
end Go.Proofs.Ytncidjkkngbclaa
namespace Go.Proofs.Ytncidjkkngbclaa
open Go.ChangeShapes Go.WideShapes Go.ChangeAt Go.RowKit

/-- Both sides, each in its state, beside a box of the law's own. -/
structure Tx (W w0 w : World) (fb rb : Nat) (A G B : Nat → Prop) (s t : Fil.St) (l : List Nat) (xb : Nat) (cs : List Value) : Prop where
  lf : LF W w fb A s
  rs : RS w0 w rb G B t l
  w0 : W.heap.size ≤ w0.heap.size
  ag : ∀ i, A i → ¬ G i
  ab : ∀ i, A i → ¬ B i
  bx : Box w xb cs
  xl : xb < w.heap.size
  na : ¬ A xb
  ng : ¬ G xb
theorem Tx.tw {W w0 w : World} {fb rb : Nat} {A G B : Nat → Prop} {s : Fil.St} {l : List Nat} {xb : Nat} {cs : List Value} (h : Tx W w0 w fb rb A G B s s l xb cs) : Tw W w0 w fb rb A G B s l := ⟨h.lf, h.rs, h.w0, h.ag, h.ab⟩
theorem Tx.bw {W w0 w w' : World} {fb rb : Nat} {A G B : Nat → Prop} {s t : Fil.St} {l : List Nat} {xb : Nat} {cs : List Value} (h : Tx W w0 w fb rb A G B s t l xb cs) (g : Bw w w') : Tx W w0 w' fb rb A G B s t l xb cs :=
  ⟨h.lf.bw g, h.rs.bw g, h.w0, h.ag, h.ab, h.bx.blk (Below.block g xb h.xl), Nat.lt_of_lt_of_le h.xl g.size, h.na, h.ng⟩
theorem Tx.onA {W w0 w w' : World} {fb rb : Nat} {A A' G B : Nat → Prop} {s s' t : Fil.St} {l : List Nat} {xb : Nat} {cs : List Value} (h : Tx W w0 w fb rb A G B s t l xb cs) (hL : LF W w' fb A' s') (k : Stp A A' w w') : Tx W w0 w' fb rb A' G B s' t l xb cs := by
  obtain ⟨g1, g2, g3⟩ := h.rs.inG
  exact ⟨hL, h.rs.fz k.fz (fun i hi ha => h.ag i ha hi) (fun i hi ha => h.ab i ha hi), h.w0, fun i ha hi => h.ag i (k.le i (g1 i hi).2 ha) hi, fun i ha hi => h.ab i (k.le i (by have := g2 i hi; omega) ha) hi,
    h.bx.blk (k.fz.block xb h.xl h.na), Nat.lt_of_lt_of_le h.xl k.fz.b0.size, fun e => h.na (k.le xb h.xl e), h.ng⟩
theorem Tx.onG {W w0 w w' : World} {fb rb : Nat} {A G G' B : Nat → Prop} {s t t' : Fil.St} {l l' : List Nat} {xb : Nat} {cs : List Value} (h : Tx W w0 w fb rb A G B s t l xb cs) (hR : RS w0 w' rb G' B t' l') (k : Stp G G' w w') : Tx W w0 w' fb rb A G' B s t' l' xb cs := by
  obtain ⟨h1, h2⟩ := Tw.stepG (s := t) h.lf h.rs h.w0 h.ag k
  exact ⟨h1, hR, h.w0, h2, h.ab, h.bx.blk (k.fz.block xb h.xl h.ng), Nat.lt_of_lt_of_le h.xl k.fz.b0.size, h.na, fun e => h.ng (k.le xb h.xl e)⟩
/-- A copy in its place. -/
theorem Tx.copy {W w0 w w' : World} {fb ob rb : Nat} {A A' G B : Nat → Prop} {s t : Fil.St} {l : List Nat} {xb : Nat} {cs : List Value} (h : Tx W w0 w fb rb A G B s t l xb cs) (hL : LF W w' ob A' s) (g : Bw w w') (hA : ∀ i, A' i → w.heap.size ≤ i) : Tx W w0 w' ob rb A' G B s t l xb cs := by
  obtain ⟨g1, g2, g3⟩ := h.rs.inG
  have hx := h.xl
  exact ⟨hL, h.rs.bw g, h.w0, fun i ha hi => by have := hA i ha; have := g1 i hi; omega, fun i ha hi => by have := hA i ha; have := g2 i hi; omega, h.bx.blk (Below.block g xb h.xl), Nat.lt_of_lt_of_le h.xl g.size, fun e => by have := hA xb e; omega, h.ng⟩
theorem Tw.tx {W w0 w w' : World} {fb rb : Nat} {A G B : Nat → Prop} {s : Fil.St} {l : List Nat} {cs : List Value} (h : Tw W w0 w fb rb A G B s l) (g : Bw w w') (hb : Box w' w.heap.size cs) (hl : w.heap.size < w'.heap.size) : Tx W w0 w' fb rb A G B s s l w.heap.size cs :=
  ⟨h.lf.bw g, h.rs.bw g, h.w0, h.ag, h.ab, hb, hl, fun e => by have := (h.lf.f.in_ _ e).2; omega, fun e => by have := (h.rs.inG.1 _ e).2; omega⟩
theorem RS.used {w0 w : World} {rb : Nat} {G B : Nat → Prop} {s : Fil.St} {l : List Nat} (h : RS w0 w rb G B s l) : ∃ ru, w.cell? ⟨rb, 0, none⟩ = some (.pointer (some ⟨ru, 0, none⟩)) ∧ w.cell? ⟨ru, 6, none⟩ = some (.int .i64 s.a) ∧ w.cell? ⟨ru, 7, none⟩ = some (.int .i64 s.b) ∧ w.cell? ⟨ru, 8, none⟩ = some (.int .i64 s.c) := by
  obtain ⟨ru, va, vi, vs, vr, vc, vf, lv, u1, u2, us, inp, fs, h⟩ := h
  exact ⟨ru, h.box.c 0 _ rfl, h.ubx.c 6 _ rfl, h.ubx.c 7 _ rfl, h.ubx.c 8 _ rfl⟩
theorem Fil.set_pos {M N : Nat} {op : List Fil.H} (h : ∀ y ∈ op, y.pos ≤ M) (hMN : M ≤ N) {i : Nat} {x : Fil.H} (hx : x.pos ≤ N) : ∀ y ∈ op.set i x, y.pos ≤ N := fun y hy => by
  rcases List.mem_or_eq_of_mem_set hy with h' | rfl
  · have := h y h'; omega
  · exact hx
theorem Fil.hd_pos {M : Nat} {s : Fil.St} (h : ∀ y ∈ s.op, y.pos ≤ M) (fd : Int) : (Fil.hd s fd).pos ≤ M := by
  unfold Fil.hd
  split
  · cases e : s.op[fd.toNat]? with
    | none => exact Nat.zero_le _
    | some x => exact h x (List.mem_of_getElem? e)
  · exact Nat.zero_le _
theorem Fil.data_le {s : Fil.St} (hok : Fil.Ok s) (h : Fil.H) : (Fil.data s h).length ≤ 4096 := by
  unfold Fil.data
  cases e : s.srcs[h.src]? with
  | none => exact Nat.zero_le _
  | some x => exact (hok.ld x (List.mem_of_getElem? e)).1
theorem Fil.pos_open {M : Nat} {s : Fil.St} (h : ∀ y ∈ s.op, y.pos ≤ M) (nm : ByteArray) : ∀ y ∈ (Fil.open s nm).2.op, y.pos ≤ M + 8589934592 := by
  have h' : ∀ y ∈ s.op, y.pos ≤ M + 8589934592 := fun y hy => by have := h y hy; omega
  unfold Fil.open
  split
  · exact h'
  · cases Fil.free s.op with
    | none => exact h'
    | some k => exact Fil.set_pos h (by omega) (Nat.zero_le _)
theorem Fil.pos_close {M : Nat} {s : Fil.St} (h : ∀ y ∈ s.op, y.pos ≤ M) (fd : Int) : ∀ y ∈ (Fil.close s fd).2.op, y.pos ≤ M + 8589934592 := by
  unfold Fil.close
  split
  · exact fun y hy => by have := h y hy; omega
  · exact Fil.set_pos h (by omega) (Nat.zero_le _)
theorem Fil.pos_read {M : Nat} {s : Fil.St} (hok : Fil.Ok s) (h : ∀ y ∈ s.op, y.pos ≤ M) (fd n : Int) : ∀ y ∈ (Fil.read s fd n).2.2.op, y.pos ≤ M + 8589934592 := by
  have h1 := Fil.hd_pos h fd
  have h2 : (Fil.got s (Fil.hd s fd) n).length ≤ 4096 := by
    have := Fil.data_le hok (Fil.hd s fd)
    unfold Fil.got
    rw [List.length_take, List.length_drop]
    omega
  unfold Fil.read
  split
  · exact fun y hy => by have := h y hy; omega
  · exact Fil.set_pos h (by omega) (show (Fil.hd s fd).pos + (Fil.got s (Fil.hd s fd) n).length ≤ _ by omega)
theorem Fil.pos_write {M : Nat} {s : Fil.St} (h : ∀ y ∈ s.op, y.pos ≤ M) (fd : Int) (bs : List Int) : ∀ y ∈ (Fil.write s fd bs).2.op, y.pos ≤ M + 8589934592 := by
  have h' : ∀ y ∈ s.op, y.pos ≤ M + 8589934592 := fun y hy => by have := h y hy; omega
  unfold Fil.write
  split
  · exact h'
  · split
    · exact h'
    · split <;> exact h'
theorem Fil.pos_seek {M : Nat} {s : Fil.St} (hok : Fil.Ok s) (h : ∀ y ∈ s.op, y.pos ≤ M) (fd off wh : Int) (ho : off ≤ 2147483647) : ∀ y ∈ (Fil.seek s fd off wh).2.op, y.pos ≤ M + 8589934592 := by
  have h' : ∀ y ∈ s.op, y.pos ≤ M + 8589934592 := fun y hy => by have := h y hy; omega
  have h1 := Fil.hd_pos h fd
  have h2 := Fil.data_le hok (Fil.hd s fd)
  have h3 : (Fil.place s (Fil.hd s fd) off wh).toNat ≤ M + 8589934592 := by
    unfold Fil.place
    split
    · omega
    · split <;> omega
  unfold Fil.seek
  split
  · exact h'
  · split
    · exact h'
    · split
      · exact h'
      · split
        · exact h'
        · exact Fil.set_pos h (by omega) h3
end Go.Proofs.Ytncidjkkngbclaa
namespace Go.Proofs.Ytncidjkkngbclaa
open Go.ChangeShapes Go.WideShapes Go.ChangeAt Go.RowKit

def Fil.bsOf (s : ByteArray) : List Int := s.data.toList.map fun b => (b.toNat : Int)
theorem Fil.bsOf_len (s : ByteArray) : (Fil.bsOf s).length = s.size := by unfold Fil.bsOf; rw [List.length_map]; rfl
theorem Fil.bsOf_8 (s : ByteArray) : B8s (Fil.bsOf s) := by
  intro x hx
  unfold Fil.bsOf at hx
  obtain ⟨b, _, rfl⟩ := List.mem_map.1 hx
  have := b.toNat_lt
  unfold B8
  omega
theorem bwStr (w : World) (s : ByteArray) : Bw w (Lib.bytesWorld w 5 s) :=
  ⟨rfl, rfl, rfl, by rw [Lib.bytesWorld_size]; omega, fun k hk => Lib.bytesWorld_at_old w 5 s k hk⟩
theorem cvStr (w : World) (s : ByteArray) : (convert 9 23 (.string s)).run Try.prog w = .ok (.slice (some ⟨w.heap.size, 0, none⟩) s.size (grownCap w s.size 0 5)) (Lib.bytesWorld w 5 s) := Lib.run_convert_string_bytes (P := Try.prog) w 9 23 5 s Try.underlying9 Try.underlying23 Try.underlying5
theorem rdStr (w : World) (s : ByteArray) (hc : s.size ≤ grownCap w s.size 0 5 ∧ grownCap w s.size 0 5 ≤ 9223372036854775807) : Rd8 (Lib.bytesWorld w 5 s) (.slice (some ⟨w.heap.size, 0, none⟩) s.size (grownCap w s.size 0 5)) (Fil.bsOf s) := by
  refine ⟨some ⟨w.heap.size, 0, none⟩, grownCap w s.size 0 5, by rw [Fil.bsOf_len], by rw [Fil.bsOf_len]; exact hc.1, hc.2, by unfold ints8; rw [List.length_map, Nat.mul_one], fun h0 => ⟨w.heap.size, 0, rfl, by rw [Lib.bytesWorld_size]; omega, fun j u hj => ?_⟩⟩
  have hl := (List.getElem?_eq_some_iff.1 hj).1
  unfold ints8 at hl hj
  rw [List.length_map, Fil.bsOf_len] at hl
  rw [Nat.zero_add, Lib.bytesWorld_cell w 5 s j hl, ← hj]
  unfold Fil.bsOf
  have hl2 : j < s.data.toList.length := hl
  rw [List.getElem?_map, List.getElem?_map, List.getD, List.getElem?_eq_getElem hl2]
  rfl
theorem capStr (w : World) (s : ByteArray) (h : s.size ≤ 100) : s.size ≤ grownCap w s.size 0 5 ∧ grownCap w s.size 0 5 ≤ 9223372036854775807 := ⟨grownCap_ge w s.size 0 5, by have := grownCap_le_maxLen w s.size 0 5 (by unfold maxLen; omega); unfold maxLen at this; omega⟩
end Go.Proofs.Ytncidjkkngbclaa
