/- LAYER 11: what is open, plain; what a call may write; open files as Go holds them. · LAYER 11's walks: how a number stands; Use, Out, Close. · LAYER 11: the steps that its calls make: a number's cells, the use, what is written. · LAYER 11's walks: Close, Open. · LAYER 11's walks: which File has that Name. · LAYER 11's walks: the sources behind the first; find. · LAYER 11's walks: Open. -/
import Derived.Test.YtncidjkkngbclaaR3
namespace Go.Proofs.Ytncidjkkngbclaa
open Go.ChangeShapes Go.WideShapes Go.ChangeAt Go.RowKit

/-- From a to b: of the blocks that were there those of A alone may be others. -/
structure Fz (A : Nat → Prop) (a b : World) : Prop where
  b0 : Below 0 a b
  block : ∀ i, i < a.heap.size → ¬ A i → b.heap[i]? = a.heap[i]?
theorem Fz.refl (A : Nat → Prop) (a : World) : Fz A a a := ⟨Below.refl _ _, fun _ _ _ => rfl⟩
theorem Fz.of_bw {A : Nat → Prop} {a b : World} (h : Bw a b) : Fz A a b := ⟨Below.mono h (Nat.zero_le _), fun i hi _ => Below.block h i hi⟩
theorem Fz.of_bq {A : Nat → Prop} {a b : World} {pb : Nat} (h : Bq pb a b) (hp : A pb) : Fz A a b := ⟨h.b0, fun i hi hn => h.block i hi (fun e => hn (e ▸ hp))⟩
theorem Fz.toBw {A : Nat → Prop} {w a b : World} (h : Fz A a b) (g : Bw w a) (hA : ∀ i, A i → w.heap.size ≤ i) : Bw w b :=
  Below.trans g ⟨h.b0.os, h.b0.tape, h.b0.output, h.b0.size, fun i hi => h.block i (Nat.lt_of_lt_of_le hi g.size) (fun e => by have := hA i e; omega)⟩
/-- A step: blocks of A were written; A' holds of the elder blocks none but A's. -/
structure Stp (A A' : Nat → Prop) (a b : World) : Prop where
  fz : Fz A a b
  le : ∀ i, i < a.heap.size → A' i → A i
theorem Stp.refl (A : Nat → Prop) (a : World) : Stp A A a a := ⟨Fz.refl _ _, fun _ _ h => h⟩
theorem Stp.trans {A B C : Nat → Prop} {a b c : World} (h : Stp A B a b) (k : Stp B C b c) : Stp A C a c :=
  ⟨⟨h.fz.b0.trans k.fz.b0, fun i hi hn => (k.fz.block i (Nat.lt_of_lt_of_le hi h.fz.b0.size) (fun e => hn (h.le i hi e))).trans (h.fz.block i hi hn)⟩, fun i hi e => h.le i hi (k.le i (Nat.lt_of_lt_of_le hi h.fz.b0.size) e)⟩
theorem Stp.bw {A B : Nat → Prop} {a b c : World} (h : Stp A B a b) (k : Bw b c) : Stp A B a c := h.trans ⟨Fz.of_bw k, fun _ _ h => h⟩
theorem Fz.stp {A : Nat → Prop} {a b : World} (h : Fz A a b) : Stp A A a b := ⟨h, fun _ _ h => h⟩
theorem Fz.bw {A : Nat → Prop} {a b c : World} (h : Fz A a b) (k : Bw b c) : Fz A a c := (h.stp.bw k).fz
theorem Stp.of_bw {A : Nat → Prop} {a b : World} (k : Bw a b) : Stp A A a b := ⟨Fz.of_bw k, fun _ _ h => h⟩

structure Fil.H where
  kind : Int
  src : Nat
  pos : Nat
def Fil.no : Fil.H := ⟨0, 0, 0⟩
structure Fil.St where
  srcs : List Fee.Fl
  op : List Fil.H
  o1 : List Int
  o2 : List Int
  sh : List Int
  rd : List Int
  ck : List Int
  a : Nat
  b : Nat
  c : Nat
/-- How the number fd stands. -/
def Fil.hd (s : Fil.St) (fd : Int) : Fil.H := if 0 ≤ fd ∧ fd < 16 then s.op[fd.toNat]?.getD Fil.no else Fil.no
def Fil.hC (h : Fil.H) : List Value := [.int .i64 h.kind, .int .i64 h.src, .int .i64 h.pos]
def Fil.cells (ub : Nat) (vs v1 v2 : Value) (op : List Fil.H) : List Value := .pointer (some ⟨ub, 0, none⟩) :: vs :: (op.flatMap Fil.hC ++ [.slice none 0 0, v1, v2])
def Fil.new (f : Fee.Fd) : Fil.St := ⟨⟨⟨#[]⟩, (Fee.beg f).input⟩ :: (Fee.beg f).files, [⟨1, 0, 0⟩, ⟨2, 0, 0⟩, ⟨2, 0, 0⟩] ++ List.replicate 13 Fil.no, [], [], (Fee.beg f).short, (Fee.beg f).random, (Fee.beg f).clock, 0, 0, 0⟩
/-- The place of the source of that name. -/
def Fil.find (l : List Fee.Fl) (name : ByteArray) : Int := match (l.drop 1).findIdx? (fun f => f.name.toList == name.toList) with | some i => (i : Int) + 1 | none => 0
def Fil.free (op : List Fil.H) : Option Nat := op.findIdx? (fun h => h.kind == 0)
def Fil.opened (s : Fil.St) (p : Nat) : Option Nat → Int × Fil.St
  | some k => ((k : Int), { s with op := s.op.set k ⟨1, p, 0⟩ })
  | none => (-24, s)
def Fil.open (s : Fil.St) (name : ByteArray) : Int × Fil.St := if Fil.find s.srcs name = 0 then (-2, s) else Fil.opened s (Fil.find s.srcs name).toNat (Fil.free s.op)
def Fil.close (s : Fil.St) (fd : Int) : Int × Fil.St := if (Fil.hd s fd).kind = 0 then (-9, s) else (0, { s with op := s.op.set fd.toNat Fil.no })
def Fil.data (s : Fil.St) (h : Fil.H) : List Int := match s.srcs[h.src]? with | some f => f.data | none => []
def Fil.got (s : Fil.St) (h : Fil.H) (n : Int) : List Int := ((Fil.data s h).drop h.pos).take (Fee.take s.sh s.a (min (max n 0) 4096)).1.toNat
def Fil.read (s : Fil.St) (fd n : Int) : List Int × Int × Fil.St :=
  if (Fil.hd s fd).kind ≠ 1 then ([], -9, s)
  else (Fil.got s (Fil.hd s fd) n, (Fil.got s (Fil.hd s fd) n).length, { s with op := s.op.set fd.toNat { Fil.hd s fd with pos := (Fil.hd s fd).pos + (Fil.got s (Fil.hd s fd) n).length }, a := (Fee.take s.sh s.a (min (max n 0) 4096)).2 })
def Fil.outAt (s : Fil.St) (fd : Int) : List Int := if fd = 1 then s.o1 else if fd = 2 then s.o2 else []
def Fil.write (s : Fil.St) (fd : Int) (bs : List Int) : Int × Fil.St :=
  if (Fil.hd s fd).kind ≠ 2 then (-9, s) else if 65536 < (Fil.outAt s fd).length + bs.length then (-28, s)
  else ((bs.length : Int), if fd = 1 then { s with o1 := s.o1 ++ bs } else { s with o2 := s.o2 ++ bs })
def Fil.place (s : Fil.St) (h : Fil.H) (off wh : Int) : Int := if wh = 0 then off else if wh = 1 then off + h.pos else off + (Fil.data s h).length
def Fil.seek (s : Fil.St) (fd off wh : Int) : Int × Fil.St :=
  if (Fil.hd s fd).kind = 0 then (-9, s) else if (Fil.hd s fd).kind = 2 then (-29, s) else if wh ≠ 0 ∧ wh ≠ 1 ∧ wh ≠ 2 then (-22, s)
  else if Fil.place s (Fil.hd s fd) off wh < 0 then (-22, s)
  else (Fil.place s (Fil.hd s fd) off wh, { s with op := s.op.set fd.toNat { Fil.hd s fd with pos := (Fil.place s (Fil.hd s fd) off wh).toNat } })
/-- What every state keeps. -/
structure Fil.Ok (s : Fil.St) : Prop where
  ln : s.op.length = 16
  kd : ∀ (i : Nat) h, s.op[i]? = some h → h.kind = 0 ∨ (h.kind = 1 ∧ h.src < s.srcs.length) ∨ (h.kind = 2 ∧ (i = 1 ∨ i = 2))
  sh : ∀ x ∈ s.sh, 0 ≤ x
  l1 : s.sh.length ≤ 10000
  l2 : s.rd.length ≤ 10000
  l3 : s.ck.length ≤ 10000
  ls : 1 ≤ s.srcs.length ∧ s.srcs.length ≤ 1000
  ld : ∀ f ∈ s.srcs, f.data.length ≤ 4096 ∧ B8s f.data
  p1 : s.o1.length ≤ 65536 ∧ B8s s.o1
  p2 : s.o2.length ≤ 65536 ∧ B8s s.o2
theorem Fil.hC_len (h : Fil.H) : (Fil.hC h).length = 3 := rfl
theorem Fil.cells_at {ub : Nat} {vs v1 v2 : Value} {op : List Fil.H} {k j : Nat} {h : Fil.H} {v : Value} (hk : op[k]? = some h) (hj : (Fil.hC h)[j]? = some v) : (Fil.cells ub vs v1 v2 op)[2 + k * 3 + j]? = some v := by
  have hj3 : j < 3 := (List.getElem?_eq_some_iff.1 hj).1
  have hkl : k < op.length := (List.getElem?_eq_some_iff.1 hk).1
  unfold Fil.cells
  rw [show 2 + k * 3 + j = (k * 3 + j) + 1 + 1 by omega, List.getElem?_cons_succ, List.getElem?_cons_succ, List.getElem?_append_left (by rw [chunk_len Fil.hC 3 Fil.hC_len]; omega), chunk Fil.hC 3 Fil.hC_len op k h j hk hj3]
  exact hj
theorem Fil.cells_len {ub : Nat} {vs v1 v2 : Value} {op : List Fil.H} (h : op.length = 16) : (Fil.cells ub vs v1 v2 op).length = 53 := by
  unfold Fil.cells; simp [chunk_len Fil.hC 3 Fil.hC_len, h]
theorem Fil.flat_set (j : Nat) (hj : j < 3) (v : Value) : ∀ (op : List Fil.H) (k : Nat) (h h' : Fil.H), op[k]? = some h → Fil.hC h' = (Fil.hC h).set j v → (op.flatMap Fil.hC).set (k * 3 + j) v = (op.set k h').flatMap Fil.hC := by
  intro op
  induction op with
  | nil => intro k h h' e; simp at e
  | cons x r ih =>
    intro k h h' e e2
    cases k with
    | zero =>
      simp at e; subst e
      rw [List.flatMap_cons, List.set_cons_zero, List.flatMap_cons, e2, Nat.zero_mul, Nat.zero_add, List.set_append_left _ _ (by rw [Fil.hC_len]; exact hj)]
    | succ k =>
      rw [List.flatMap_cons, List.set_cons_succ, List.flatMap_cons, List.set_append_right _ _ (by rw [Fil.hC_len]; omega), Fil.hC_len, show (k + 1) * 3 + j - 3 = k * 3 + j by omega, ih k h h' (by simpa using e) e2]
theorem Fil.cells_set {ub : Nat} {vs v1 v2 v : Value} {op : List Fil.H} {k j : Nat} {h h' : Fil.H} (hj : j < 3) (hk : op[k]? = some h) (e : Fil.hC h' = (Fil.hC h).set j v) : (Fil.cells ub vs v1 v2 op).set (2 + k * 3 + j) v = Fil.cells ub vs v1 v2 (op.set k h') := by
  have hkl : k < op.length := (List.getElem?_eq_some_iff.1 hk).1
  unfold Fil.cells
  rw [show 2 + k * 3 + j = (k * 3 + j) + 1 + 1 by omega, List.set_cons_succ, List.set_cons_succ, List.set_append_left _ _ (by rw [chunk_len Fil.hC 3 Fil.hC_len]; omega), Fil.flat_set j hj v op k h h' hk e]
theorem Fil.cells_hi {ub : Nat} {vs v1 v2 : Value} {op : List Fil.H} (h : op.length = 16) : (Fil.cells ub vs v1 v2 op)[50]? = some (.slice none 0 0) ∧ (Fil.cells ub vs v1 v2 op)[51]? = some v1 ∧ (Fil.cells ub vs v1 v2 op)[52]? = some v2 := by
  have hl := chunk_len Fil.hC 3 Fil.hC_len op
  unfold Fil.cells
  refine ⟨?_, ?_, ?_⟩ <;> (rw [List.getElem?_cons_succ, List.getElem?_cons_succ, List.getElem?_append_right (by omega), hl, h]; rfl)
theorem Fil.cells_set0 {ub : Nat} {vs v1 v2 : Value} {op : List Fil.H} (h : op.length = 16) : (Fil.cells ub vs v1 v2 op).set 50 (.slice none 0 0) = Fil.cells ub vs v1 v2 op := by
  have hl := chunk_len Fil.hC 3 Fil.hC_len op
  unfold Fil.cells
  rw [List.set_cons_succ, List.set_cons_succ, List.set_append_right _ _ (by omega), hl, h]; rfl
theorem Fil.cells_set1 {ub : Nat} {vs v1 v2 v : Value} {op : List Fil.H} (h : op.length = 16) : (Fil.cells ub vs v1 v2 op).set 51 v = Fil.cells ub vs v v2 op := by
  have hl := chunk_len Fil.hC 3 Fil.hC_len op
  unfold Fil.cells
  rw [List.set_cons_succ, List.set_cons_succ, List.set_append_right _ _ (by omega), hl, h]; rfl
theorem Fil.cells_set2 {ub : Nat} {vs v1 v2 v : Value} {op : List Fil.H} (h : op.length = 16) : (Fil.cells ub vs v1 v2 op).set 52 v = Fil.cells ub vs v1 v op := by
  have hl := chunk_len Fil.hC 3 Fil.hC_len op
  unfold Fil.cells
  rw [List.set_cons_succ, List.set_cons_succ, List.set_append_right _ _ (by omega), hl, h]; rfl

/-- Read alone: a block of A that is none of F's. -/
def RdA (A F : Nat → Prop) (v : Value) : Prop := ∀ q k c, v = .slice (some q) k c → 0 < k → A q.block ∧ ¬ F q.block
def Fil.F (fb ub : Nat) (v1 v2 : Value) : Nat → Prop := fun i => i = fb ∨ i = ub ∨ v1.ownBlock = some i ∨ v2.ownBlock = some i
/-- Open files as Go holds them; all their blocks are A's. -/
structure FsX (w0 w : World) (fb ub : Nat) (v1 v2 vs : Value) (us : List Value) (A : Nat → Prop) (s : Fil.St) : Prop where
  ok : Fil.Ok s
  ne : fb ≠ ub
  in_ : ∀ i, A i → w0.heap.size ≤ i ∧ i < w.heap.size
  af : A fb
  au : A ub
  box : Box w fb (Fil.cells ub vs v1 v2 s.op)
  use : UseS w ub s.sh s.rd s.ck s.a s.b s.c
  far : ∀ j v, j < 3 → w.cell? ⟨ub, j, none⟩ = some v → RdA A (Fil.F fb ub v1 v2) v
  ul : us.length = s.srcs.length
  rd : RdR 2 w vs s.srcs.length (Fee.cells s.srcs us)
  rf : RdA A (Fil.F fb ub v1 v2) vs
  r8 : ∀ (i : Nat) f u, s.srcs[i]? = some f → us[i]? = some u → Rd8 w u f.data ∧ RdA A (Fil.F fb ub v1 v2) u
  o1 : Own8 w0 w v1 s.o1
  o2 : Own8 w0 w v2 s.o2
  n1 : ∀ g, v1.ownBlock = some g → A g ∧ g ≠ fb ∧ g ≠ ub ∧ v2.ownBlock ≠ some g
  n2 : ∀ g, v2.ownBlock = some g → A g ∧ g ≠ fb ∧ g ≠ ub
/-- Open files as Go holds them. -/
def FS (w0 w : World) (fb : Nat) (A : Nat → Prop) (s : Fil.St) : Prop := ∃ ub v1 v2 vs us, FsX w0 w fb ub v1 v2 vs us A s
theorem RdR.fz {sz n : Nat} {cs : List Value} {a b : World} {v : Value} {F : Nat → Prop} (h : RdR sz a v n cs) (g : Fz F a b) (hn : ∀ q k c, v = .slice (some q) k c → 0 < k → ¬ F q.block) : RdR sz b v n cs := by
  obtain ⟨q, cap, h1, h2, h3, h4, h5⟩ := h
  refine ⟨q, cap, h1, h2, h3, h4, fun h0 => ?_⟩
  obtain ⟨b', o, rfl, h7, h8⟩ := h5 h0
  have hb := hn _ _ _ h1 h0
  exact ⟨b', o, rfl, Nat.lt_of_lt_of_le h7 g.b0.size, fun j u hu => by rw [cell_block (p := ⟨b', o + j, none⟩) (g.block b' h7 hb)]; exact h8 j u hu⟩
theorem Rd8.fz {l : List Int} {a b : World} {v : Value} {F : Nat → Prop} (h : Rd8 a v l) (g : Fz F a b) (hn : ∀ q k c, v = .slice (some q) k c → 0 < k → ¬ F q.block) : Rd8 b v l := RdR.fz h g hn
/-- A step within. -/
theorem FsX.mv {w0 w w' : World} {fb ub : Nat} {v1 v2 vs v1' v2' : Value} {us : List Value} {A : Nat → Prop} {s s' : Fil.St} (h : FsX w0 w fb ub v1 v2 vs us A s) (g : Fz (Fil.F fb ub v1 v2) w w')
    (hs : s'.srcs = s.srcs) (hok : Fil.Ok s') (hbox : Box w' fb (Fil.cells ub vs v1' v2' s'.op)) (hx : UseS w' ub s'.sh s'.rd s'.ck s'.a s'.b s'.c) (hk : Keep3 ub w w')
    (ho1 : Own8 w0 w' v1' s'.o1) (ho2 : Own8 w0 w' v2' s'.o2) (h1 : v1'.ownBlock = v1.ownBlock ∨ ∃ n, w.heap.size ≤ n ∧ v1'.ownBlock = some n) (h2 : v2'.ownBlock = v2.ownBlock ∨ ∃ n, w.heap.size ≤ n ∧ v2'.ownBlock = some n) (h12 : ∀ n, v1'.ownBlock = some n → v2'.ownBlock ≠ some n) :
    FsX w0 w' fb ub v1' v2' vs us (fun i => A i ∨ v1'.ownBlock = some i ∨ v2'.ownBlock = some i) s' ∧ Stp A (fun i => A i ∨ v1'.ownBlock = some i ∨ v2'.ownBlock = some i) w w' := by
  have hsz := g.b0.size
  have hFA : ∀ i, Fil.F fb ub v1 v2 i → A i := fun i hi => by
    rcases hi with rfl | rfl | hi | hi
    · exact h.af
    · exact h.au
    · exact (h.n1 i hi).1
    · exact (h.n2 i hi).1
  have hRd : ∀ v, RdA A (Fil.F fb ub v1 v2) v → RdA (fun i => A i ∨ v1'.ownBlock = some i ∨ v2'.ownBlock = some i) (Fil.F fb ub v1' v2') v := fun v hv q k c e hk => by
    obtain ⟨a1, a2⟩ := hv q k c e hk
    have hlt := (h.in_ _ a1).2
    refine ⟨Or.inl a1, fun hF => a2 ?_⟩
    rcases hF with hF | hF | hF | hF
    · exact Or.inl hF
    · exact Or.inr (Or.inl hF)
    · rcases h1 with h1 | ⟨n, hn, h1⟩
      · exact Or.inr (Or.inr (Or.inl (h1 ▸ hF)))
      · rw [h1] at hF; have := Option.some.inj hF; omega
    · rcases h2 with h2 | ⟨n, hn, h2⟩
      · exact Or.inr (Or.inr (Or.inr (h2 ▸ hF)))
      · rw [h2] at hF; have := Option.some.inj hF; omega
  have hfb := (h.in_ _ h.af).2
  have hub := (h.in_ _ h.au).2
  refine ⟨⟨hok, h.ne, ?_, Or.inl h.af, Or.inl h.au, hbox, hx, ?_, hs ▸ h.ul, ?_, hRd _ h.rf, ?_, ho1, ho2, ?_, ?_⟩, ⟨⟨g.b0, fun i hi hn => g.block i hi (fun e => hn (hFA i e))⟩, ?_⟩⟩
  · rintro i (hi | hi | hi)
    · exact ⟨(h.in_ i hi).1, Nat.lt_of_lt_of_le (h.in_ i hi).2 hsz⟩
    · exact ho1.blk i hi
    · exact ho2.blk i hi
  · intro j v hj hc
    exact hRd v (h.far j v hj ((hk j hj).symm.trans hc))
  · rw [hs]; exact RdR.fz h.rd g (fun q k c e hk => (h.rf q k c e hk).2)
  · rw [hs]; intro i f u a b
    obtain ⟨c1, c2⟩ := h.r8 i f u a b
    exact ⟨c1.fz g (fun q k c e hk => (c2 q k c e hk).2), hRd u c2⟩
  · intro n hn
    refine ⟨Or.inr (Or.inl hn), ?_, ?_, h12 n hn⟩
    · rcases h1 with h1 | ⟨m, hm, h1⟩
      · exact (h.n1 n (h1 ▸ hn)).2.1
      · rw [h1] at hn; have := Option.some.inj hn; omega
    · rcases h1 with h1 | ⟨m, hm, h1⟩
      · exact (h.n1 n (h1 ▸ hn)).2.2.1
      · rw [h1] at hn; have := Option.some.inj hn; omega
  · intro n hn
    refine ⟨Or.inr (Or.inr hn), ?_, ?_⟩
    · rcases h2 with h2 | ⟨m, hm, h2⟩
      · exact (h.n2 n (h2 ▸ hn)).2.1
      · rw [h2] at hn; have := Option.some.inj hn; omega
    · rcases h2 with h2 | ⟨m, hm, h2⟩
      · exact (h.n2 n (h2 ▸ hn)).2.2
      · rw [h2] at hn; have := Option.some.inj hn; omega
  · rintro i hi (e | e | e)
    · exact e
    · rcases h1 with h1 | ⟨m, hm, h1⟩
      · exact (h.n1 i (h1 ▸ e)).1
      · rw [h1] at e; have := Option.some.inj e; omega
    · rcases h2 with h2 | ⟨m, hm, h2⟩
      · exact (h.n2 i (h2 ▸ e)).1
      · rw [h2] at e; have := Option.some.inj e; omega
/-- The cells of one number; how many there are. -/
theorem FsX.at_ {w0 w : World} {fb ub : Nat} {v1 v2 vs : Value} {us : List Value} {A : Nat → Prop} {s : Fil.St} (h : FsX w0 w fb ub v1 v2 vs us A s) {k : Nat} {x : Fil.H} (hx : s.op[k]? = some x) :
    (w.cell? ⟨fb, 2 + k * 3, none⟩ = some (.int .i64 x.kind) ∧ w.cell? ⟨fb, 2 + k * 3 + 1, none⟩ = some (.int .i64 x.src) ∧ w.cell? ⟨fb, 2 + k * 3 + 2, none⟩ = some (.int .i64 x.pos)) ∧
    (w.frozen? ⟨fb, 2 + k * 3, none⟩ = false ∧ w.frozen? ⟨fb, 2 + k * 3 + 1, none⟩ = false ∧ w.frozen? ⟨fb, 2 + k * 3 + 2, none⟩ = false) := by
  have hl := Fil.cells_len (ub := ub) (vs := vs) (v1 := v1) (v2 := v2) h.ok.ln
  have hk : k < 16 := by rw [← h.ok.ln]; exact (List.getElem?_eq_some_iff.1 hx).1
  refine ⟨⟨h.box.c (2 + k * 3) _ (Fil.cells_at hx (j := 0) rfl), h.box.c _ _ (Fil.cells_at hx (j := 1) rfl), h.box.c _ _ (Fil.cells_at hx (j := 2) rfl)⟩, h.box.f _ (by omega), h.box.f _ (by omega), h.box.f _ (by omega)⟩
/-- Whatever writes other blocks alone leaves it as it is. -/
theorem FsX.fz {w0 w w' : World} {fb ub : Nat} {v1 v2 vs : Value} {us : List Value} {A B : Nat → Prop} {s : Fil.St} (h : FsX w0 w fb ub v1 v2 vs us A s) (g : Fz B w w') (hd : ∀ i, A i → ¬ B i) : FsX w0 w' fb ub v1 v2 vs us A s := by
  have hsz := g.b0.size
  have hblk : ∀ i, A i → w'.heap[i]? = w.heap[i]? := fun i hi => g.block i (h.in_ i hi).2 (hd i hi)
  have hR : ∀ v, RdA A (Fil.F fb ub v1 v2) v → ∀ q k c, v = .slice (some q) k c → 0 < k → ¬ B q.block := fun v hv q k c e hk => hd _ (hv q k c e hk).1
  refine ⟨h.ok, h.ne, fun i hi => ⟨(h.in_ i hi).1, Nat.lt_of_lt_of_le (h.in_ i hi).2 hsz⟩, h.af, h.au, h.box.blk (hblk fb h.af), ?_, ?_, h.ul, RdR.fz h.rd g (hR _ h.rf), ?_, ?_, ?_, ?_, h.n1, h.n2⟩
  · have hfar := h.far
    obtain ⟨⟨a, b, c, h1, h2, h3, h4, h5, h6, h7⟩, la, lb, lc⟩ := h.use
    exact ⟨⟨a, b, c, h1.blk (hblk ub h.au), RdR.fz h2 g (hR _ (hfar 0 _ (by omega) (h1.c 0 _ rfl))), Rd8.fz h3 g (hR _ (hfar 1 _ (by omega) (h1.c 1 _ rfl))), RdR.fz h4 g (hR _ (hfar 2 _ (by omega) (h1.c 2 _ rfl))), h5, h6, h7⟩, la, lb, lc⟩
  · intro j v hj hc
    exact h.far j v hj ((cell_block (p := ⟨ub, j, none⟩) (hblk ub h.au)).symm.trans hc)
  · exact h.rf
  · intro i f u a b
    obtain ⟨c1, c2⟩ := h.r8 i f u a b
    exact ⟨c1.fz g (hR _ c2), c2⟩
  · exact h.o1.heap (fun j hj => hblk j (h.n1 j hj).1)
  · exact h.o2.heap (fun j hj => hblk j (h.n2 j hj).1)
theorem FsX.bw {w0 w w' : World} {fb ub : Nat} {v1 v2 vs : Value} {us : List Value} {A : Nat → Prop} {s : Fil.St} (h : FsX w0 w fb ub v1 v2 vs us A s) (g : Bw w w') : FsX w0 w' fb ub v1 v2 vs us A s := h.fz (B := fun _ => False) (Fz.of_bw g) (fun _ _ h => h)
theorem FS.fz {w0 w w' : World} {fb : Nat} {A B : Nat → Prop} {s : Fil.St} (h : FS w0 w fb A s) (g : Fz B w w') (hd : ∀ i, A i → ¬ B i) : FS w0 w' fb A s := by
  obtain ⟨ub, v1, v2, vs, us, h⟩ := h
  exact ⟨ub, v1, v2, vs, us, h.fz g hd⟩
theorem FS.bw {w0 w w' : World} {fb : Nat} {A : Nat → Prop} {s : Fil.St} (h : FS w0 w fb A s) (g : Bw w w') : FS w0 w' fb A s := h.fz (B := fun _ => False) (Fz.of_bw g) (fun _ _ h => h)
theorem FS.in_ {w0 w : World} {fb : Nat} {A : Nat → Prop} {s : Fil.St} (h : FS w0 w fb A s) : ∀ i, A i → w0.heap.size ≤ i ∧ i < w.heap.size := by
  obtain ⟨ub, v1, v2, vs, us, h⟩ := h; exact h.in_
theorem FS.af {w0 w : World} {fb : Nat} {A : Nat → Prop} {s : Fil.St} (h : FS w0 w fb A s) : A fb := by
  obtain ⟨ub, v1, v2, vs, us, h⟩ := h; exact h.af
theorem FS.ok {w0 w : World} {fb : Nat} {A : Nat → Prop} {s : Fil.St} (h : FS w0 w fb A s) : Fil.Ok s := by
  obtain ⟨ub, v1, v2, vs, us, h⟩ := h; exact h.ok
theorem FS.le {w0 w1 w : World} {fb : Nat} {A : Nat → Prop} {s : Fil.St} (h : FS w1 w fb A s) (k : w0.heap.size ≤ w1.heap.size) : FS w0 w fb A s := by
  obtain ⟨ub, v1, v2, vs, us, h⟩ := h
  exact ⟨ub, v1, v2, vs, us, h.ok, h.ne, fun i hi => ⟨Nat.le_trans k (h.in_ i hi).1, (h.in_ i hi).2⟩, h.af, h.au, h.box, h.use, h.far, h.ul, h.rd, h.rf, h.r8, h.o1.le k, h.o2.le k, h.n1, h.n2⟩
end Go.Proofs.Ytncidjkkngbclaa
namespace Go.Proofs.Ytncidjkkngbclaa
open Go.ChangeShapes Go.WideShapes Go.ChangeAt Go.RowKit

theorem Fil.hd_out {s : Fil.St} {fd : Int} (h : ¬ (0 ≤ fd ∧ fd < 16)) : Fil.hd s fd = Fil.no := by unfold Fil.hd; rw [if_neg h]
theorem Fil.hd_at {s : Fil.St} (hl : s.op.length = 16) {k : Nat} (hk : k < 16) : ∃ x, s.op[k]? = some x ∧ Fil.hd s (k : Int) = x := by
  refine ⟨s.op[k], List.getElem?_eq_getElem (by omega), ?_⟩
  unfold Fil.hd
  rw [if_pos (by omega), Int.toNat_natCast, List.getElem?_eq_getElem (by omega)]; rfl
set_option maxHeartbeats 1000000 in
set_option maxRecDepth 100000 in
theorem CloneR_c {v : Value} {l : List Int} {w : World} (hv : Rd8 w v l) (hn : l.length ≤ 100000) : Calls Try.prog 35 #[v] w fun e w' => ∃ v', e = .returned v' ∧ Own8 w w' v' l ∧ Bw w w' := by
  have hv2 : RdR 1 w v l.length (ints8 l) := hv
  obtain ⟨q, cap, rfl, hc1, hc2, -⟩ := hv
  have he := eqSliceNil w 23 _ q l.length cap Try.underlying23
  cases q with
  | none =>
    have h0 : l.length = 0 := Nat.eq_zero_of_not_pos (fun h => by obtain ⟨q, c, e, _, _, _, h5⟩ := hv2; simp at e; obtain ⟨rfl, _⟩ := e; obtain ⟨b, o, h6, _⟩ := h5 h; simp at h6)
    obtain rfl := List.eq_nil_of_length_eq_zero h0
    rw [List.length_nil] at he
    go_enter Try.func35, Try.ntmps35
    go_wp2_with fail
    go_returns
    exact ⟨_, rfl, Own8.nil _ _, Bw.refl _⟩
  | some a =>
    have hown := OwnR.empty 5 1 (w0 := w) (Nat.le_refl w.heap.size)
    obtain ⟨v', w', hr, ho, hb⟩ := appS (ty := 23) infoCloneB Try.underlying23 rfl (by omega) (by omega) hown ((Bw.refl w).alloc _) (hv2.bw ((Bw.refl w).alloc _)) (one_of (fun _ => rfl) _) (by omega)
    rw [Nat.zero_add, List.nil_append] at ho
    have HFin : Hid _ := (⟨Own8.of ho, hb⟩ : Own8 w w' v' l ∧ Bw w w')
    clear ho hb hown hv2
    go_enter Try.func35, Try.ntmps35
    go_wp2_with (first | (at_builtin; refine wpApp rfl _ _ 23 rfl rfl rfl hr ?_) | go_in)
    go_returns
    exact ⟨_, rfl, HFin⟩
theorem CloneO_c {w0 w : World} {v : Value} {l : List Int} (h : Own8 w0 w v l) (hn : l.length ≤ 65536) : Calls Try.prog 35 #[v] w fun e w' => ∃ v', e = .returned v' ∧ Own8 w w' v' l ∧ Bw w w' := CloneR_c h.rd (by omega)
set_option maxHeartbeats 1000000 in
set_option maxRecDepth 100000 in
theorem fKind_c {w0 w : World} {fb : Nat} {A : Nat → Prop} {s : Fil.St} (h : FS w0 w fb A s) (fd : Int) : Calls Try.prog 29 #[.pointer (some ⟨fb, 0, none⟩), .int .i64 fd] w fun e w' => e = .returned (.int .i64 (Fil.hd s fd).kind) ∧ Bw w w' := by
  by_cases h0 : fd < 0
  · rw [Fil.hd_out (by omega)]
    clear h
    go_enter Try.func29, Try.ntmps29
    go_wp2
    go_returns
    exact ⟨rfl, Bw.refl _⟩
  by_cases h1 : 16 ≤ fd
  · rw [Fil.hd_out (by omega)]
    clear h
    go_enter Try.func29, Try.ntmps29
    go_wp2
    go_returns
    exact ⟨rfl, Bw.refl _⟩
  obtain ⟨k, rfl⟩ : ∃ k : Nat, fd = k := ⟨fd.toNat, by omega⟩
  have hk16 : (k : Int) < 16 := by omega
  obtain ⟨x, hx, hd⟩ := Fil.hd_at (s := s) h.ok.ln (k := k) (by omega)
  rw [hd]
  obtain ⟨ub, v1, v2, vs, us, h⟩ := h
  have c0 := (h.at_ hx).1.1
  clear h hd hx
  go_enter Try.func29, Try.ntmps29
  go_wp2
  go_returns
  exact ⟨rfl, Bw.refl _⟩
set_option maxHeartbeats 1000000 in
set_option maxRecDepth 100000 in
theorem fUse_c {w0 w : World} {fb : Nat} {A : Nat → Prop} {s : Fil.St} (h : FS w0 w fb A s) : Calls Try.prog 20 #[.pointer (some ⟨fb, 0, none⟩)] w fun e w' => ∃ ub, e = .returned (.pointer (some ⟨ub, 0, none⟩)) ∧ UseS w ub s.sh s.rd s.ck s.a s.b s.c ∧ Bw w w' := by
  obtain ⟨ub, v1, v2, vs, us, h⟩ := h
  have c0 := h.box.c 0 _ rfl
  have hU : Hid _ := h.use
  clear h
  go_enter Try.func20, Try.ntmps20
  go_wp2
  go_returns
  exact ⟨_, rfl, hU, Bw.refl _⟩
set_option maxHeartbeats 1000000 in
set_option maxRecDepth 100000 in
theorem fOut_c {w0 w : World} {fb : Nat} {A : Nat → Prop} {s : Fil.St} (h : FS w0 w fb A s) (fd : Int) : Calls Try.prog 22 #[.pointer (some ⟨fb, 0, none⟩), .int .i64 fd] w fun e w' => ∃ v, e = .returned v ∧ Own8 w w' v (Fil.outAt s fd) ∧ Bw w w' := by
  by_cases h0 : fd < 0
  · rw [show Fil.outAt s fd = [] by unfold Fil.outAt; rw [if_neg (by omega), if_neg (by omega)]]
    clear h
    go_enter Try.func22, Try.ntmps22
    go_wp2
    go_returns
    exact ⟨_, rfl, Own8.nil _ _, Bw.refl _⟩
  by_cases h1 : 3 ≤ fd
  · rw [show Fil.outAt s fd = [] by unfold Fil.outAt; rw [if_neg (by omega), if_neg (by omega)]]
    clear h
    go_enter Try.func22, Try.ntmps22
    go_wp2
    go_returns
    exact ⟨_, rfl, Own8.nil _ _, Bw.refl _⟩
  obtain ⟨ub, v1, v2, vs, us, h⟩ := h
  have c50 := h.box.c 50 _ (Fil.cells_hi h.ok.ln).1
  have c51 := h.box.c 51 _ (Fil.cells_hi h.ok.ln).2.1
  have c52 := h.box.c 52 _ (Fil.cells_hi h.ok.ln).2.2
  have hC1 := CloneO_c h.o1 h.ok.p1.1
  have hC2 := CloneO_c h.o2 h.ok.p2.1
  have hC0 := CloneO_c (Own8.nil w w) (by simp)
  clear h
  obtain rfl | rfl | rfl : fd = 0 ∨ fd = 1 ∨ fd = 2 := by omega
  · go_enter Try.func22, Try.ntmps22
    go_wp2_with (go_at_call 35; refine hC0.mono ?_; rintro e w2 ⟨v, rfl, ho, hb⟩)
    go_returns
    exact ⟨_, rfl, ho, hb⟩
  · go_enter Try.func22, Try.ntmps22
    go_wp2_with (go_at_call 35; refine hC1.mono ?_; rintro e w2 ⟨v, rfl, ho, hb⟩)
    go_returns
    exact ⟨_, rfl, ho, hb⟩
  · go_enter Try.func22, Try.ntmps22
    go_wp2_with (go_at_call 35; refine hC2.mono ?_; rintro e w2 ⟨v, rfl, ho, hb⟩)
    go_returns
    exact ⟨_, rfl, ho, hb⟩
end Go.Proofs.Ytncidjkkngbclaa
namespace Go.Proofs.Ytncidjkkngbclaa
open Go.ChangeShapes Go.WideShapes Go.ChangeAt Go.RowKit

theorem Fil.Ok.set {s : Fil.St} (h : Fil.Ok s) (k : Nat) (x : Fil.H) (hx : x.kind = 0 ∨ (x.kind = 1 ∧ x.src < s.srcs.length) ∨ (x.kind = 2 ∧ (k = 1 ∨ k = 2))) : Fil.Ok { s with op := s.op.set k x } := by
  refine ⟨by show (s.op.set k x).length = 16; rw [List.length_set]; exact h.ln, fun i y hy => ?_, h.sh, h.l1, h.l2, h.l3, h.ls, h.ld, h.p1, h.p2⟩
  have hy' : (s.op.set k x)[i]? = some y := hy
  by_cases e : k = i
  · subst e
    by_cases hk : k < s.op.length
    · rw [List.getElem?_set_self hk] at hy'
      obtain rfl := Option.some.inj hy'
      exact hx
    · rw [List.getElem?_eq_none (by rw [List.length_set]; omega)] at hy'; simp at hy'
  · rw [List.getElem?_set_ne e] at hy'
    exact h.kd i y hy'
theorem Fil.Ok.useA {s : Fil.St} (h : Fil.Ok s) (a : Nat) : Fil.Ok { s with a := a } := ⟨h.ln, h.kd, h.sh, h.l1, h.l2, h.l3, h.ls, h.ld, h.p1, h.p2⟩
theorem Fil.Ok.w1 {s : Fil.St} (h : Fil.Ok s) (bs : List Int) (hb : B8s bs) (hl : (s.o1 ++ bs).length ≤ 65536) : Fil.Ok { s with o1 := s.o1 ++ bs } := ⟨h.ln, h.kd, h.sh, h.l1, h.l2, h.l3, h.ls, h.ld, ⟨hl, h.p1.2.app hb⟩, h.p2⟩
theorem Fil.Ok.w2 {s : Fil.St} (h : Fil.Ok s) (bs : List Int) (hb : B8s bs) (hl : (s.o2 ++ bs).length ≤ 65536) : Fil.Ok { s with o2 := s.o2 ++ bs } := ⟨h.ln, h.kd, h.sh, h.l1, h.l2, h.l3, h.ls, h.ld, h.p1, ⟨hl, h.p2.2.app hb⟩⟩
/-- A use where another box was written. -/
theorem FsX.useQ {w0 w w' : World} {fb ub : Nat} {v1 v2 vs : Value} {us : List Value} {A : Nat → Prop} {s : Fil.St} (h : FsX w0 w fb ub v1 v2 vs us A s) {B : Nat → Prop} (g : Fz B w w') (hB : ∀ i, B i → Fil.F fb ub v1 v2 i) (hu : ¬ B ub) : UseS w' ub s.sh s.rd s.ck s.a s.b s.c ∧ Keep3 ub w w' := by
  have hblk := g.block ub (h.in_ ub h.au).2 hu
  have hfar := h.far
  have hR : ∀ v, RdA A (Fil.F fb ub v1 v2) v → ∀ q k c, v = .slice (some q) k c → 0 < k → ¬ B q.block := fun v hv q k c e hk e2 => (hv q k c e hk).2 (hB _ e2)
  obtain ⟨⟨a, b, c, h1, h2, h3, h4, h5, h6, h7⟩, la, lb, lc⟩ := h.use
  exact ⟨⟨⟨a, b, c, h1.blk hblk, RdR.fz h2 g (hR _ (hfar 0 _ (by omega) (h1.c 0 _ rfl))), Rd8.fz h3 g (hR _ (hfar 1 _ (by omega) (h1.c 1 _ rfl))), RdR.fz h4 g (hR _ (hfar 2 _ (by omega) (h1.c 2 _ rfl))), h5, h6, h7⟩, la, lb, lc⟩, fun j _ => cell_block (p := ⟨ub, j, none⟩) hblk⟩
theorem FsX.same {w0 w : World} {fb ub : Nat} {v1 v2 vs : Value} {us : List Value} {A : Nat → Prop} {s : Fil.St} (h : FsX w0 w fb ub v1 v2 vs us A s) : (fun i => A i ∨ v1.ownBlock = some i ∨ v2.ownBlock = some i) = A := by
  funext i
  refine propext ⟨fun e => ?_, Or.inl⟩
  rcases e with e | e | e
  · exact e
  · exact (h.n1 i e).1
  · exact (h.n2 i e).1
/-- The files' own box is written. -/
theorem FsX.onFb {w0 w w' : World} {fb ub : Nat} {v1 v2 vs : Value} {us : List Value} {A : Nat → Prop} {s : Fil.St} (h : FsX w0 w fb ub v1 v2 vs us A s) (g : Bq fb w w') {op : List Fil.H} (hbox : Box w' fb (Fil.cells ub vs v1 v2 op)) (hok : Fil.Ok { s with op := op }) :
    FsX w0 w' fb ub v1 v2 vs us A { s with op := op } ∧ Fz A w w' := by
  have hF : Fz (Fil.F fb ub v1 v2) w w' := Fz.of_bq g (Or.inl rfl)
  obtain ⟨hu, hk⟩ := h.useQ (B := fun i => i = fb) (Fz.of_bq g rfl) (fun i e => Or.inl e) (fun e => h.ne e.symm)
  have hA := h.same
  obtain ⟨r1, r2⟩ := h.mv hF (s' := { s with op := op }) rfl hok hbox hu hk (h.o1.heap fun j hj => g.block j (h.in_ j (h.n1 j hj).1).2 (h.n1 j hj).2.1) (h.o2.heap fun j hj => g.block j (h.in_ j (h.n2 j hj).1).2 (h.n2 j hj).2.1) (Or.inl rfl) (Or.inl rfl) (fun n hn => (h.n1 n hn).2.2.2)
  rw [hA] at r1 r2; exact ⟨r1, r2.fz⟩
/-- The use is written. -/
theorem FsX.onUb {w0 w w' : World} {fb ub : Nat} {v1 v2 vs : Value} {us : List Value} {A : Nat → Prop} {s : Fil.St} (h : FsX w0 w fb ub v1 v2 vs us A s) (g : Bq ub w w') {a : Nat} (hu : UseS w' ub s.sh s.rd s.ck a s.b s.c) (hk : Keep3 ub w w') :
    FsX w0 w' fb ub v1 v2 vs us A { s with a := a } ∧ Fz A w w' := by
  have hF : Fz (Fil.F fb ub v1 v2) w w' := Fz.of_bq g (Or.inr (Or.inl rfl))
  have hA := h.same
  obtain ⟨r1, r2⟩ := h.mv hF (s' := { s with a := a }) rfl (h.ok.useA a) (h.box.blk (g.block fb (h.in_ fb h.af).2 h.ne)) hu hk (h.o1.heap fun j hj => g.block j (h.in_ j (h.n1 j hj).1).2 (h.n1 j hj).2.2.1) (h.o2.heap fun j hj => g.block j (h.in_ j (h.n2 j hj).1).2 (h.n2 j hj).2.2) (Or.inl rfl) (Or.inl rfl) (fun n hn => (h.n1 n hn).2.2.2)
  rw [hA] at r1 r2; exact ⟨r1, r2.fz⟩
theorem Fz.trans {A : Nat → Prop} {a b c : World} (h : Fz A a b) (k : Fz A b c) : Fz A a c := ⟨h.b0.trans k.b0, fun i hi hn => (k.block i (Nat.lt_of_lt_of_le hi h.b0.size) hn).trans (h.block i hi hn)⟩
theorem Fz.of_ap {A : Nat → Prop} {a b : World} {v v' : Value} (h : Ap a b v v') (hp : ∀ i, v.ownBlock = some i → A i) : Fz A a b := ⟨h.b, fun i hi hn => h.block i hi (fun e => hn (hp i e))⟩
/-- More is written at 1. -/
theorem FsX.onO1 {w0 w wm : World} {fb ub : Nat} {v1 v2 vs v' : Value} {us : List Value} {A : Nat → Prop} {s : Fil.St} (h : FsX w0 w fb ub v1 v2 vs us A s) (g : Ap w wm v1 v') {bs : List Int} (hb : B8s bs) (hl : (s.o1 ++ bs).length ≤ 65536) (ho : Own8 w0 wm v' (s.o1 ++ bs)) :
    ∃ A', FsX w0 (wm.setCell ⟨fb, 51, none⟩ v') fb ub v' v2 vs us A' { s with o1 := s.o1 ++ bs } ∧ Stp A A' w (wm.setCell ⟨fb, 51, none⟩ v') := by
  have hfb := (h.in_ _ h.af).2
  have hv'fb : v'.ownBlock ≠ some fb := fun e => by
    rcases g.own with h1 | ⟨n, hn, h1⟩
    · exact (h.n1 fb (h1 ▸ e)).2.1 rfl
    · rw [h1] at e; have := Option.some.inj e; omega
  have hq : Bq fb wm (wm.setCell ⟨fb, 51, none⟩ v') := (Bq.refl _ _).set 51 _
  have hF : Fz (Fil.F fb ub v1 v2) w (wm.setCell ⟨fb, 51, none⟩ v') := (Fz.of_ap g (fun i e => Or.inr (Or.inr (Or.inl e)))).trans (Fz.of_bq hq (Or.inl rfl))
  have hB : Fz (fun i => i = fb ∨ v1.ownBlock = some i) w (wm.setCell ⟨fb, 51, none⟩ v') := (Fz.of_ap g (fun i e => Or.inr e)).trans (Fz.of_bq hq (Or.inl rfl))
  obtain ⟨hu, hk⟩ := h.useQ hB (fun i e => by rcases e with e | e; exact Or.inl e; exact Or.inr (Or.inr (Or.inl e))) (fun e => by rcases e with e | e; exact h.ne e.symm; exact (h.n1 _ e).2.2.1 rfl)
  have hbm : Box wm fb (Fil.cells ub vs v1 v2 s.op) := h.box.blk (g.block fb hfb (fun e => (h.n1 fb e).2.1 rfl))
  have hbx := hbm.set 51 (by rw [Fil.cells_len h.ok.ln]; omega) v'
  rw [Fil.cells_set1 h.ok.ln] at hbx
  refine ⟨_, h.mv hF rfl (h.ok.w1 bs hb hl) hbx hu hk (ho.heap fun j hj => ?_) (h.o2.heap fun j hj => ?_) g.own (Or.inl rfl) (fun n hn e2 => ?_)⟩
  · exact Below.heap_setCell _ _ _ _ (by show j ≠ fb; rintro rfl; exact hv'fb hj)
  · exact hB.block j (h.in_ j (h.n2 j hj).1).2 (fun e => by rcases e with e | e; exact (h.n2 j hj).2.1 e; exact (h.n1 j e).2.2.2 hj)
  · rcases g.own with h1 | ⟨m, hm, h1⟩
    · exact (h.n1 n (h1 ▸ hn)).2.2.2 e2
    · rw [h1] at hn; have := Option.some.inj hn; have := (h.in_ n (h.n2 n e2).1).2; omega
/-- More is written at 2. -/
theorem FsX.onO2 {w0 w wm : World} {fb ub : Nat} {v1 v2 vs v' : Value} {us : List Value} {A : Nat → Prop} {s : Fil.St} (h : FsX w0 w fb ub v1 v2 vs us A s) (g : Ap w wm v2 v') {bs : List Int} (hb : B8s bs) (hl : (s.o2 ++ bs).length ≤ 65536) (ho : Own8 w0 wm v' (s.o2 ++ bs)) :
    ∃ A', FsX w0 (wm.setCell ⟨fb, 52, none⟩ v') fb ub v1 v' vs us A' { s with o2 := s.o2 ++ bs } ∧ Stp A A' w (wm.setCell ⟨fb, 52, none⟩ v') := by
  have hfb := (h.in_ _ h.af).2
  have hv'fb : v'.ownBlock ≠ some fb := fun e => by
    rcases g.own with h1 | ⟨n, hn, h1⟩
    · exact (h.n2 fb (h1 ▸ e)).2.1 rfl
    · rw [h1] at e; have := Option.some.inj e; omega
  have hq : Bq fb wm (wm.setCell ⟨fb, 52, none⟩ v') := (Bq.refl _ _).set 52 _
  have hF : Fz (Fil.F fb ub v1 v2) w (wm.setCell ⟨fb, 52, none⟩ v') := (Fz.of_ap g (fun i e => Or.inr (Or.inr (Or.inr e)))).trans (Fz.of_bq hq (Or.inl rfl))
  have hB : Fz (fun i => i = fb ∨ v2.ownBlock = some i) w (wm.setCell ⟨fb, 52, none⟩ v') := (Fz.of_ap g (fun i e => Or.inr e)).trans (Fz.of_bq hq (Or.inl rfl))
  obtain ⟨hu, hk⟩ := h.useQ hB (fun i e => by rcases e with e | e; exact Or.inl e; exact Or.inr (Or.inr (Or.inr e))) (fun e => by rcases e with e | e; exact h.ne e.symm; exact (h.n2 _ e).2.2 rfl)
  have hbm : Box wm fb (Fil.cells ub vs v1 v2 s.op) := h.box.blk (g.block fb hfb (fun e => (h.n2 fb e).2.1 rfl))
  have hbx := hbm.set 52 (by rw [Fil.cells_len h.ok.ln]; omega) v'
  rw [Fil.cells_set2 h.ok.ln] at hbx
  refine ⟨_, h.mv hF rfl (h.ok.w2 bs hb hl) hbx hu hk (h.o1.heap fun j hj => ?_) (ho.heap fun j hj => ?_) (Or.inl rfl) g.own (fun n hn e2 => ?_)⟩
  · exact hB.block j (h.in_ j (h.n1 j hj).1).2 (fun e => by rcases e with e | e; exact (h.n1 j hj).2.1 e; exact (h.n1 j hj).2.2.2 e)
  · exact Below.heap_setCell _ _ _ _ (by show j ≠ fb; rintro rfl; exact hv'fb hj)
  · rcases g.own with h1 | ⟨m, hm, h1⟩
    · exact (h.n1 n hn).2.2.2 (h1 ▸ e2)
    · rw [h1] at e2; have := Option.some.inj e2; have := (h.in_ n (h.n1 n hn).1).2; omega
/-- A number's three cells are written. -/
theorem FsX.set3 {w0 w : World} {fb ub : Nat} {v1 v2 vs : Value} {us : List Value} {A : Nat → Prop} {s : Fil.St} (h : FsX w0 w fb ub v1 v2 vs us A s) {k : Nat} {x : Fil.H} (hx : s.op[k]? = some x) (y : Fil.H) (hy : y.kind = 0 ∨ (y.kind = 1 ∧ y.src < s.srcs.length) ∨ (y.kind = 2 ∧ (k = 1 ∨ k = 2))) :
    FsX w0 (((w.setCell ⟨fb, 2 + k * 3, none⟩ (.int .i64 y.kind)).setCell ⟨fb, 2 + k * 3 + 1, none⟩ (.int .i64 y.src)).setCell ⟨fb, 2 + k * 3 + 2, none⟩ (.int .i64 y.pos)) fb ub v1 v2 vs us A { s with op := s.op.set k y } ∧ Fz A w (((w.setCell ⟨fb, 2 + k * 3, none⟩ (.int .i64 y.kind)).setCell ⟨fb, 2 + k * 3 + 1, none⟩ (.int .i64 y.src)).setCell ⟨fb, 2 + k * 3 + 2, none⟩ (.int .i64 y.pos)) := by
  have hk : k < s.op.length := (List.getElem?_eq_some_iff.1 hx).1
  have hln := h.ok.ln
  have b1 := h.box.set (2 + k * 3 + 0) (by rw [Fil.cells_len hln]; omega) (.int .i64 y.kind)
  rw [Fil.cells_set (j := 0) (h' := ⟨y.kind, x.src, x.pos⟩) (by omega) hx rfl] at b1
  have hx1 : (s.op.set k ⟨y.kind, x.src, x.pos⟩)[k]? = some ⟨y.kind, x.src, x.pos⟩ := List.getElem?_set_self hk
  have b2 := b1.set (2 + k * 3 + 1) (by rw [Fil.cells_len (by rw [List.length_set]; exact hln)]; omega) (.int .i64 y.src)
  rw [Fil.cells_set (j := 1) (h' := ⟨y.kind, y.src, x.pos⟩) (by omega) hx1 rfl, List.set_set] at b2
  have hx2 : (s.op.set k ⟨y.kind, y.src, x.pos⟩)[k]? = some ⟨y.kind, y.src, x.pos⟩ := List.getElem?_set_self hk
  have b3 := b2.set (2 + k * 3 + 2) (by rw [Fil.cells_len (by rw [List.length_set]; exact hln)]; omega) (.int .i64 y.pos)
  rw [Fil.cells_set (j := 2) (h' := y) (by omega) hx2 rfl, List.set_set] at b3
  exact h.onFb ((((Bq.refl _ _).set _ _).set _ _).set _ _) b3 (h.ok.set k y hy)
/-- A number's place is written. -/
theorem FsX.set1 {w0 w : World} {fb ub : Nat} {v1 v2 vs : Value} {us : List Value} {A : Nat → Prop} {s : Fil.St} (h : FsX w0 w fb ub v1 v2 vs us A s) {k : Nat} {x : Fil.H} (hx : s.op[k]? = some x) (n : Nat) :
    FsX w0 (w.setCell ⟨fb, 2 + k * 3 + 2, none⟩ (.int .i64 n)) fb ub v1 v2 vs us A { s with op := s.op.set k { x with pos := n } } ∧ Fz A w (w.setCell ⟨fb, 2 + k * 3 + 2, none⟩ (.int .i64 n)) := by
  have hk : k < s.op.length := (List.getElem?_eq_some_iff.1 hx).1
  have hln := h.ok.ln
  have b1 := h.box.set (2 + k * 3 + 2) (by rw [Fil.cells_len h.ok.ln]; omega) (.int .i64 n)
  rw [Fil.cells_set (j := 2) (h' := { x with pos := n }) (by omega) hx rfl] at b1
  exact h.onFb ((Bq.refl _ _).set _ _) b1 (h.ok.set k _ (h.ok.kd k x hx))
end Go.Proofs.Ytncidjkkngbclaa
namespace Go.Proofs.Ytncidjkkngbclaa
open Go.ChangeShapes Go.WideShapes Go.ChangeAt Go.RowKit

set_option maxHeartbeats 1000000 in
set_option maxRecDepth 100000 in
theorem fClose_c {w0 w : World} {fb : Nat} {A : Nat → Prop} {s : Fil.St} (h : FS w0 w fb A s) (fd : Int) : Calls Try.prog 11 #[.pointer (some ⟨fb, 0, none⟩), .int .i64 fd] w fun e w' => e = .returned (.int .i64 (Fil.close s fd).1) ∧ FS w0 w' fb A (Fil.close s fd).2 ∧ Fz A w w' := by
  have hK := fKind_c h fd
  by_cases h0 : (Fil.hd s fd).kind = 0
  · rw [show Fil.close s fd = (-9, s) by unfold Fil.close; rw [if_pos h0]]
    rw [h0] at hK
    have HF : Hid _ := h
    clear h h0
    go_enter Try.func11, Try.ntmps11
    go_wp2_with (go_at_call 29; refine hK.mono ?_; rintro e w2 ⟨rfl, hb⟩)
    go_returns
    exact ⟨rfl, FS.bw HF hb, Fz.of_bw hb⟩
  · have hfd : 0 ≤ fd ∧ fd < 16 := by
      apply Decidable.byContradiction
      intro hn
      rw [Fil.hd_out hn] at h0
      exact h0 rfl
    obtain ⟨k, rfl⟩ : ∃ k : Nat, fd = k := ⟨fd.toNat, by omega⟩
    rw [show Fil.close s (k : Int) = (0, { s with op := s.op.set k Fil.no }) by unfold Fil.close; rw [if_neg h0, Int.toNat_natCast]]
    obtain ⟨x, hx, hd⟩ := Fil.hd_at (s := s) h.ok.ln (k := k) (by omega)
    have hk16 : (k : Int) < 16 := by omega
    have h0b : ((Fil.hd s k).kind == 0) = false := by simpa using h0
    generalize (Fil.hd s k).kind = kd at *
    have hX : ∀ X, Bw w X → FS w0 (((X.setCell ⟨fb, 2 + k * 3, none⟩ (.int .i64 0)).setCell ⟨fb, 2 + k * 3 + 1, none⟩ (.int .i64 0)).setCell ⟨fb, 2 + k * 3 + 2, none⟩ (.int .i64 0)) fb A { s with op := s.op.set k Fil.no } ∧ Fz A w (((X.setCell ⟨fb, 2 + k * 3, none⟩ (.int .i64 0)).setCell ⟨fb, 2 + k * 3 + 1, none⟩ (.int .i64 0)).setCell ⟨fb, 2 + k * 3 + 2, none⟩ (.int .i64 0)) := fun X g => by
      obtain ⟨ub, v1, v2, vs, us, hf⟩ := h.bw g
      obtain ⟨h1, h2⟩ := hf.set3 hx Fil.no (Or.inl rfl)
      exact ⟨⟨_, _, _, _, _, h1⟩, (Fz.of_bw g).trans h2⟩
    have hC : ∀ X, Bw w X → (X.cell? ⟨fb, 2 + k * 3, none⟩ = some (.int .i64 x.kind) ∧ X.cell? ⟨fb, 2 + k * 3 + 1, none⟩ = some (.int .i64 x.src) ∧ X.cell? ⟨fb, 2 + k * 3 + 2, none⟩ = some (.int .i64 x.pos)) ∧ (X.frozen? ⟨fb, 2 + k * 3, none⟩ = false ∧ X.frozen? ⟨fb, 2 + k * 3 + 1, none⟩ = false ∧ X.frozen? ⟨fb, 2 + k * 3 + 2, none⟩ = false) := fun X g => by
      obtain ⟨ub, v1, v2, vs, us, hf⟩ := h.bw g
      exact hf.at_ hx
    clear h h0 hd hx
    go_enter Try.func11, Try.ntmps11
    go_wp2_with (go_at_call 29; refine hK.mono ?_; rintro e w2 ⟨rfl, hb⟩; obtain ⟨⟨c0, c1, c2⟩, f0, f1, f2⟩ := hC _ hb)
    go_returns
    exact ⟨rfl, hX _ hb⟩
end Go.Proofs.Ytncidjkkngbclaa
namespace Go.Proofs.Ytncidjkkngbclaa
open Go.ChangeShapes Go.WideShapes Go.ChangeAt Go.RowKit

theorem idx_hit {α : Type} {p : α → Bool} {l : List α} {k : Nat} {x : α} (hx : l[k]? = some x) (hp : p x = true) (hno : ∀ (i : Nat) y, i < k → l[i]? = some y → p y = false) : l.findIdx? p = some k := by
  rw [List.findIdx?_eq_some_iff_getElem]
  obtain ⟨hk, he⟩ := List.getElem?_eq_some_iff.1 hx
  refine ⟨hk, by rw [he]; exact hp, fun j hj => ?_⟩
  rw [hno j l[j] hj (List.getElem?_eq_getElem (by omega))]; simp
theorem idx_none {α : Type} {p : α → Bool} {l : List α} (hno : ∀ (i : Nat) y, i < l.length → l[i]? = some y → p y = false) : l.findIdx? p = none := by
  rw [List.findIdx?_eq_none_iff]
  intro y hy
  obtain ⟨i, hi, rfl⟩ := List.getElem_of_mem hy
  exact hno i _ hi (List.getElem?_eq_getElem hi)
theorem ret_i {a b : Int} {w w' : World} (h : a = b) (g : Bw w w') : Ending.returned (.int .i64 a) = .returned (.int .i64 b) ∧ Bw w w' := ⟨by rw [h], g⟩
def Fil.same (name : ByteArray) (f : Fee.Fl) : Bool := f.name.toList == name.toList
def Fil.idx (l : List Fee.Fl) (name : ByteArray) : Int := match l.findIdx? (Fil.same name) with | some i => i | none => -1
theorem Fil.find_idx (l : List Fee.Fl) (name : ByteArray) : Fil.find l name = 1 + Fil.idx (l.drop 1) name := by
  unfold Fil.find Fil.idx
  rw [show (fun f : Fee.Fl => f.name.toList == name.toList) = Fil.same name from rfl]
  cases (l.drop 1).findIdx? (Fil.same name) with
  | none => rfl
  | some i => dsimp only; omega
set_option maxHeartbeats 1000000 in
set_option maxRecDepth 100000 in
theorem find1_c {w : World} {B : Nat} {name : ByteArray} (hB : w.cell? ⟨B, 0, none⟩ = some (.string name)) (nm : ByteArray) (u : Value) : Calls Try.prog 41 #[.agg #[.string nm, u], .pointer (some ⟨B, 0, none⟩)] w fun e w' => e = .returned (.bool (nm.toList == name.toList)) ∧ Bw w w' := by
  have h1 := ((Bw.refl w).alloc (.cells #[.string nm, u] 63)).keep hB
  have h2 := (Box.new w [.string nm, u] 63).c 0 _ rfl
  go_enter Try.func41, Try.ntmps41
  go_wp2
  go_returns
  exact ⟨rfl, by (repeat' (first | (with_reducible assumption) | (with_reducible exact Bw.refl _) | (with_reducible refine Bw.alloc ?_ _) | (with_reducible refine Bw.drew ?_) | (with_reducible refine Bw.drewN ?_ _) | (with_reducible refine Bw.setCell ?_ ?_ _) | exact Nat.le_refl _))⟩
set_option maxHeartbeats 2000000 in
set_option maxRecDepth 100000 in
theorem idxFunc_c {w : World} {B : Nat} {name : ByteArray} (hB : w.cell? ⟨B, 0, none⟩ = some (.string name)) (l : List Fee.Fl) (b o cap : Nat) (hl : l.length ≤ 10000)
    (hc : ∀ (i : Nat) f, l[i]? = some f → ∃ qs cs, w.cell? ⟨b, o + i * 2, none⟩ = some (.string f.name) ∧ w.cell? ⟨b, o + i * 2 + 1, none⟩ = some (.slice qs f.data.length cs)) :
    Calls Try.prog 40 #[.slice (some ⟨b, o, none⟩) l.length cap, .func (.func 41) #[] #[.pointer (some ⟨B, 0, none⟩)]] w fun e w' => e = .returned (.int .i64 (Fil.idx l name)) ∧ Bw w w' := by
  have hl2 : (l.length : Int) ≤ 10000 := by omega
  generalize hR : Fil.idx l name = R
  have HR : Hid _ := hR
  clear hR
  go_enter Try.func40, Try.ntmps40
  go_wp2
  go_loopg [5, 8] l.length (fun gg _ s8 wr => ∃ k : Nat, k + gg = l.length ∧ s8 = .int .i64 k ∧ Bw w wr ∧ Hid (∀ (i : Nat) y, i < k → l[i]? = some y → Fil.same name y = false))
  case atStart => exact ⟨0, by omega, rfl, Bw.refl _, fun i y h => by omega⟩
  case round =>
    obtain ⟨k, hkg, rfl, hbw, HNo⟩ := hrel
    by_cases hk : k = l.length
    · subst hk
      have HF : Hid (-1 = R) := by
        have h := (show _ = R from HR)
        unfold Fil.idx at h
        rw [idx_none (show ∀ (i : Nat) y, i < l.length → l[i]? = some y → Fil.same name y = false from HNo)] at h
        exact h
      clear hc
      go_wp2
      go_returns
      exact ret_i HF hbw
    · have hkl : k < l.length := by omega
      have hki : (k : Int) < (l.length : Int) := by omega
      obtain ⟨f, hs, -⟩ := dropAt hkl
      obtain ⟨qs, cs, c0, c1⟩ := hc k f hs
      replace c0 := hbw.keep c0
      replace c1 := hbw.keep c1
      have hcall := find1_c (hbw.keep hB) f.name (.slice qs f.data.length cs)
      clear hc
      cases hq : Fil.same name f with
      | true =>
        rw [show (f.name.toList == name.toList) = true from hq] at hcall
        have HF : Hid ((k : Int) = R) := by
          have h := (show _ = R from HR)
          unfold Fil.idx at h
          rw [idx_hit hs hq (show ∀ (i : Nat) y, i < k → l[i]? = some y → Fil.same name y = false from HNo)] at h
          exact h
        clear hs hq
        go_wp2_with fail
        refine hcall.mono ?_
        rintro e w' ⟨rfl, hb'⟩
        go_wp2_with fail
        go_returns
        exact ret_i HF (hbw.trans hb')
      | false =>
        rw [show (f.name.toList == name.toList) = false from hq] at hcall
        have HN2 : Hid (∀ (i : Nat) y, i < k + 1 → l[i]? = some y → Fil.same name y = false) := fun i y hi hy => by
          by_cases e : i = k
          · subst e; rw [hs] at hy; obtain rfl := Option.some.inj hy; exact hq
          · exact (show ∀ (i : Nat) y, i < k → l[i]? = some y → Fil.same name y = false from HNo) i y (by omega) hy
        clear hs hq HNo
        go_wp2_with fail
        refine hcall.mono ?_
        rintro e w' ⟨rfl, hb'⟩
        go_wp2_with fail
        go_roundg (l.length - (k + 1))
        case measure => omega
        case rel => exact ⟨k + 1, by omega, by simp, hbw.trans hb', HN2⟩
end Go.Proofs.Ytncidjkkngbclaa
namespace Go.Proofs.Ytncidjkkngbclaa
open Go.ChangeShapes Go.WideShapes Go.ChangeAt Go.RowKit

theorem Fil.idx_range (l : List Fee.Fl) (name : ByteArray) : -1 ≤ Fil.idx l name ∧ Fil.idx l name ≤ l.length := by
  unfold Fil.idx
  cases h : l.findIdx? (Fil.same name) with
  | none => dsimp only; omega
  | some i =>
    rw [List.findIdx?_eq_some_iff_getElem] at h
    obtain ⟨h, _⟩ := h
    dsimp only; omega
/-- The sources behind the first. -/
theorem FsX.src {w0 w : World} {fb ub : Nat} {v1 v2 vs : Value} {us : List Value} {A : Nat → Prop} {s : Fil.St} (h : FsX w0 w fb ub v1 v2 vs us A s) : FlS w vs s.srcs := ⟨us, h.ul, h.rd, fun i f u a b => (h.r8 i f u a b).1, fun f hf => (h.ok.ld f hf).2⟩
set_option maxHeartbeats 2000000 in
set_option maxRecDepth 100000 in
theorem fFind_c {w0 w : World} {fb : Nat} {A : Nat → Prop} {s : Fil.St} (h : FS w0 w fb A s) (name : ByteArray) : Calls Try.prog 27 #[.pointer (some ⟨fb, 0, none⟩), .string name] w fun e w' => e = .returned (.int .i64 (Fil.find s.srcs name)) ∧ Bw w w' := by
  have hok := h.ok
  obtain ⟨l1, l2⟩ := hok.ls
  obtain ⟨ub, v1, v2, vs, us, h⟩ := h
  have c1 := h.box.c 1 _ rfl
  have hlo := (h.in_ _ h.af).2
  obtain ⟨q, cap, rfl, hc1, hc2, hcell⟩ := h.src.open
  obtain ⟨f0, hf0⟩ : ∃ f, s.srcs[0]? = some f := ⟨_, List.getElem?_eq_getElem (by omega)⟩
  obtain ⟨b, o, _, _, rfl, hb, _⟩ := hcell 0 f0 hf0
  have e1 : (s.srcs.drop 1).length = s.srcs.length - 1 := List.length_drop
  have hR := Fil.find_idx s.srcs name
  have hI : ∀ X, Bw w X → X.cell? ⟨w.heap.size, 0, none⟩ = some (.string name) → ∀ b2 o2 c2, (cap = 1 ∨ (b2 = b ∧ o2 = o + 2)) → Calls Try.prog 40 #[.slice (some ⟨b2, o2, none⟩) (s.srcs.drop 1).length c2, .func (.func 41) #[] #[.pointer (some ⟨w.heap.size, 0, none⟩)]] X fun e w' => e = .returned (.int .i64 (Fil.idx (s.srcs.drop 1) name)) ∧ Bw X w' := fun X g hB b2 o2 c2 hc => idxFunc_c hB (s.srcs.drop 1) b2 o2 c2 (by omega) (fun i f hi => by
    have hi2 := (List.getElem?_eq_some_iff.1 hi).1
    rcases hc with hc | ⟨rfl, rfl⟩
    · omega
    rw [List.getElem?_drop] at hi
    obtain ⟨b', o', qs, cs, e, _, d0, d1, _⟩ := hcell (1 + i) f hi
    simp at e
    obtain ⟨rfl, rfl⟩ := e
    exact ⟨qs, cs, by rw [show o + 2 + i * 2 = o + (1 + i) * 2 by omega]; exact g.keep d0, by rw [show o + 2 + i * 2 + 1 = o + (1 + i) * 2 + 1 by omega]; exact g.keep d1⟩)
  rw [e1] at hI
  clear h hcell hok hf0
  obtain ⟨hr1, hr2⟩ := Fil.idx_range (s.srcs.drop 1) name
  rw [e1] at hr2
  generalize s.srcs.length = n at *
  clear e1
  generalize Fil.idx (s.srcs.drop 1) name = r at *
  rw [hR]
  clear hR
  obtain ⟨m, rfl⟩ : ∃ m, n = m + 1 := ⟨n - 1, by omega⟩
  rw [Nat.add_sub_cancel] at hI
  have c1' := ((Bw.refl w).alloc (.cells #[.string name] 9)).keep c1
  have hB := hI _ ((Bw.refl w).alloc (.cells #[.string name] 9)) ((Box.new w [.string name] 9).c 0 _ rfl)
  clear hI
  go_enter Try.func27, Try.ntmps27
  go_wp2_with fail
  · refine (hB _ _ _ (by first | exact Or.inr ⟨rfl, rfl⟩ | exact Or.inl (by assumption))).mono ?_
    rintro e w' ⟨rfl, hb'⟩
    go_wp2_with fail
    go_returns
    exact ret_i rfl (((Bw.refl w).alloc _).trans hb')
  · refine (hB _ _ _ (by first | exact Or.inr ⟨rfl, rfl⟩ | exact Or.inl (by assumption))).mono ?_
    rintro e w' ⟨rfl, hb'⟩
    go_wp2_with fail
    go_returns
    exact ret_i rfl (((Bw.refl w).alloc _).trans hb')
end Go.Proofs.Ytncidjkkngbclaa
namespace Go.Proofs.Ytncidjkkngbclaa
open Go.ChangeShapes Go.WideShapes Go.ChangeAt Go.RowKit

theorem Fil.free_hit {op : List Fil.H} {k : Nat} {x : Fil.H} (hx : op[k]? = some x) (h0 : x.kind = 0) (hno : ∀ (i : Nat) y, i < k → op[i]? = some y → y.kind ≠ 0) : Fil.free op = some k :=
  idx_hit hx (by simp [h0]) (fun i y hi hy => by simpa using hno i y hi hy)
theorem Fil.free_none {op : List Fil.H} (hno : ∀ (i : Nat) y, i < op.length → op[i]? = some y → y.kind ≠ 0) : Fil.free op = none :=
  idx_none (fun i y hi hy => by simpa using hno i y hi hy)
set_option maxHeartbeats 4000000 in
set_option maxRecDepth 100000 in
theorem fOpen_c {w0 w : World} {fb : Nat} {A : Nat → Prop} {s : Fil.St} (h : FS w0 w fb A s) (name : ByteArray) : Calls Try.prog 9 #[.pointer (some ⟨fb, 0, none⟩), .string name] w fun e w' => e = .returned (.int .i64 (Fil.open s name).1) ∧ FS w0 w' fb A (Fil.open s name).2 ∧ Fz A w w' := by
  have hF := fFind_c h name
  obtain ⟨hr1, hr2⟩ := Fil.idx_range (s.srcs.drop 1) name
  have hfi := Fil.find_idx s.srcs name
  by_cases h0 : Fil.find s.srcs name = 0
  · rw [show Fil.open s name = (-2, s) by unfold Fil.open; rw [if_pos h0]]
    rw [h0] at hF
    have HF : Hid _ := h
    clear h h0 hfi hr1 hr2
    go_enter Try.func9, Try.ntmps9
    go_wp2_with (go_at_call 27; refine hF.mono ?_; rintro e w2 ⟨rfl, hb⟩)
    go_returns
    exact ⟨rfl, FS.bw HF hb, Fz.of_bw hb⟩
  · obtain ⟨p, hp⟩ : ∃ p : Nat, Fil.find s.srcs name = p := ⟨(Fil.find s.srcs name).toNat, by omega⟩
    have hpl : p < s.srcs.length := by
      unfold Fil.find at hp
      cases hd : (s.srcs.drop 1).findIdx? (fun f => f.name.toList == name.toList) with
      | none => rw [hd] at hp; unfold Fil.find at h0; rw [hd] at h0; exact absurd rfl h0
      | some i =>
        rw [hd] at hp
        rw [List.findIdx?_eq_some_iff_getElem] at hd
        obtain ⟨h1, _⟩ := hd
        rw [List.length_drop] at h1
        dsimp only at hp; omega
    generalize hR : Fil.open s name = R
    have HR : Hid (R = Fil.opened s p (Fil.free s.op)) := by
      show R = _
      rw [← hR]; unfold Fil.open; rw [if_neg h0, hp, Int.toNat_natCast]
    rw [hp] at hF h0
    have h0b : ((p : Int) == 0) = false := by simpa using h0
    have hln := h.ok.ln
    have hX : ∀ X k, Bw w X → k < 16 → FS w0 (((X.setCell ⟨fb, 2 + k * 3, none⟩ (.int .i64 1)).setCell ⟨fb, 2 + k * 3 + 1, none⟩ (.int .i64 p)).setCell ⟨fb, 2 + k * 3 + 2, none⟩ (.int .i64 0)) fb A { s with op := s.op.set k ⟨1, p, 0⟩ } ∧ Fz A w (((X.setCell ⟨fb, 2 + k * 3, none⟩ (.int .i64 1)).setCell ⟨fb, 2 + k * 3 + 1, none⟩ (.int .i64 p)).setCell ⟨fb, 2 + k * 3 + 2, none⟩ (.int .i64 0)) := fun X k g hk => by
      obtain ⟨ub, v1, v2, vs, us, hf⟩ := h.bw g
      obtain ⟨x, hx⟩ : ∃ x, s.op[k]? = some x := ⟨_, List.getElem?_eq_getElem (by omega)⟩
      obtain ⟨h1, h2⟩ := hf.set3 hx ⟨1, p, 0⟩ (Or.inr (Or.inl ⟨rfl, hpl⟩))
      exact ⟨⟨_, _, _, _, _, h1⟩, (Fz.of_bw g).trans h2⟩
    have hC : ∀ X k x, Bw w X → s.op[k]? = some x → (X.cell? ⟨fb, 2 + k * 3, none⟩ = some (.int .i64 x.kind) ∧ X.cell? ⟨fb, 2 + k * 3 + 1, none⟩ = some (.int .i64 x.src) ∧ X.cell? ⟨fb, 2 + k * 3 + 2, none⟩ = some (.int .i64 x.pos)) ∧ (X.frozen? ⟨fb, 2 + k * 3, none⟩ = false ∧ X.frozen? ⟨fb, 2 + k * 3 + 1, none⟩ = false ∧ X.frozen? ⟨fb, 2 + k * 3 + 2, none⟩ = false) := fun X k x g hx => by
      obtain ⟨ub, v1, v2, vs, us, hf⟩ := h.bw g
      exact hf.at_ hx
    have HFS : Hid _ := h
    clear h h0 hfi hr1 hr2 hp hpl hR
    go_enter Try.func9, Try.ntmps9
    go_wp2_with (go_at_call 27; refine hF.mono ?_; rintro e w2 ⟨rfl, hb⟩)
    go_loopg [12] 16 (fun g j wr => ∃ k : Nat, k + g = 16 ∧ j = .int .i64 k ∧ Bw w wr ∧ Hid (∀ (i : Nat) y, i < k → s.op[i]? = some y → y.kind ≠ 0))
    case atStart => exact ⟨0, by omega, rfl, hb, fun i y h => by omega⟩
    case round =>
      obtain ⟨k, hkg, rfl, hbw, HNo⟩ := hrel
      by_cases hk : k = 16
      · subst hk
        have HE : Hid (R = (-24, s)) := by
          show R = _
          rw [show R = _ from HR, Fil.free_none (fun i y hi => (show ∀ (i : Nat) y, i < 16 → s.op[i]? = some y → y.kind ≠ 0 from HNo) i y (by omega))]; rfl
        go_wp2
        go_returns
        rw [show R = _ from HE]
        exact ⟨rfl, FS.bw HFS hbw, Fz.of_bw hbw⟩
      · have hkl : k < 16 := by omega
        have hki : (k : Int) < 16 := by omega
        obtain ⟨x, hx⟩ : ∃ x, s.op[k]? = some x := ⟨_, List.getElem?_eq_getElem (by omega)⟩
        obtain ⟨⟨c0, c1, c2⟩, f0, f1, f2⟩ := hC wr k x hbw hx
        by_cases h0 : x.kind = 0
        · rw [h0] at c0
          have HE : Hid (R = ((k : Int), { s with op := s.op.set k ⟨1, p, 0⟩ })) := by
            show R = _
            rw [show R = _ from HR, Fil.free_hit hx h0 (show ∀ (i : Nat) y, i < k → s.op[i]? = some y → y.kind ≠ 0 from HNo)]; rfl
          have HX : Hid _ := hX wr k hbw hkl
          clear hX hC hx h0
          go_wp2
          go_returns
          rw [show R = _ from HE]
          exact ⟨rfl, HX⟩
        · have h0b : (x.kind == 0) = false := by simpa using h0
          have HN2 : Hid (∀ (i : Nat) y, i < k + 1 → s.op[i]? = some y → y.kind ≠ 0) := fun i y hi hy => by
            by_cases e : i = k
            · subst e; rw [hx] at hy; obtain rfl := Option.some.inj hy; exact h0
            · exact (show ∀ (i : Nat) y, i < k → s.op[i]? = some y → y.kind ≠ 0 from HNo) i y (by omega) hy
          clear hX hC hx h0 HNo
          generalize x.kind = kd at *
          go_wp2
          go_roundg (16 - (k + 1))
          case measure => omega
          case rel => exact ⟨k + 1, by omega, by simp, hbw, HN2⟩
end Go.Proofs.Ytncidjkkngbclaa
