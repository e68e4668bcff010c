/- LAYER 11: what is open, plain; what a call may write; open files as Go holds them. -/
import Derived.Test.YtaepjlaegldkhaaFeeC
import Derived.Test.YtaepjlaegldkhaaAppA
namespace Go.Proofs.Ytaepjlaegldkhaa
open Go.ChangeShapes Go.WideShapes Go.ChangeAt Go.RowKit

/-- From a to b: of the blocks that were there those of A alone may be others. -/
structure Fz (A : Nat → Prop) (a b : World) : Prop where
  b0 : Below 0 a b
  block : ∀ i, i < a.heap.size → ¬ A i → b.heap[i]? = a.heap[i]?
theorem Fz.refl (A : Nat → Prop) (a : World) : Fz A a a := ⟨Below.refl _ _, fun _ _ _ => rfl⟩
theorem Fz.of_bw {A : Nat → Prop} {a b : World} (h : Bw a b) : Fz A a b := ⟨Below.mono h (Nat.zero_le _), fun i hi _ => Below.block h i hi⟩
theorem Fz.of_bq {A : Nat → Prop} {a b : World} {pb : Nat} (h : Bq pb a b) (hp : A pb) : Fz A a b := ⟨h.b0, fun i hi hn => h.block i hi (fun e => hn (e ▸ hp))⟩
theorem Fz.toBw {A : Nat → Prop} {w a b : World} (h : Fz A a b) (g : Bw w a) (hA : ∀ i, A i → w.heap.size ≤ i) : Bw w b :=
  Below.trans g ⟨h.b0.os, h.b0.tape, h.b0.output, h.b0.size, fun i hi => h.block i (Nat.lt_of_lt_of_le hi g.size) (fun e => by have := hA i e; omega)⟩
/-- A step: blocks of A were written; A' holds of the elder blocks none but A's. -/
structure Stp (A A' : Nat → Prop) (a b : World) : Prop where
  fz : Fz A a b
  le : ∀ i, i < a.heap.size → A' i → A i
theorem Stp.refl (A : Nat → Prop) (a : World) : Stp A A a a := ⟨Fz.refl _ _, fun _ _ h => h⟩
theorem Stp.trans {A B C : Nat → Prop} {a b c : World} (h : Stp A B a b) (k : Stp B C b c) : Stp A C a c :=
  ⟨⟨h.fz.b0.trans k.fz.b0, fun i hi hn => (k.fz.block i (Nat.lt_of_lt_of_le hi h.fz.b0.size) (fun e => hn (h.le i hi e))).trans (h.fz.block i hi hn)⟩, fun i hi e => h.le i hi (k.le i (Nat.lt_of_lt_of_le hi h.fz.b0.size) e)⟩
theorem Stp.bw {A B : Nat → Prop} {a b c : World} (h : Stp A B a b) (k : Bw b c) : Stp A B a c := h.trans ⟨Fz.of_bw k, fun _ _ h => h⟩
theorem Fz.stp {A : Nat → Prop} {a b : World} (h : Fz A a b) : Stp A A a b := ⟨h, fun _ _ h => h⟩
theorem Fz.bw {A : Nat → Prop} {a b c : World} (h : Fz A a b) (k : Bw b c) : Fz A a c := (h.stp.bw k).fz
theorem Stp.of_bw {A : Nat → Prop} {a b : World} (k : Bw a b) : Stp A A a b := ⟨Fz.of_bw k, fun _ _ h => h⟩

structure Fil.H where
  kind : Int
  src : Nat
  pos : Nat
def Fil.no : Fil.H := ⟨0, 0, 0⟩
structure Fil.St where
  srcs : List Fee.Fl
  op : List Fil.H
  o1 : List Int
  o2 : List Int
  sh : List Int
  rd : List Int
  ck : List Int
  a : Nat
  b : Nat
  c : Nat
/-- How the number fd stands. -/
def Fil.hd (s : Fil.St) (fd : Int) : Fil.H := if 0 ≤ fd ∧ fd < 16 then s.op[fd.toNat]?.getD Fil.no else Fil.no
def Fil.hC (h : Fil.H) : List Value := [.int .i64 h.kind, .int .i64 h.src, .int .i64 h.pos]
def Fil.cells (ub : Nat) (vs v1 v2 : Value) (op : List Fil.H) : List Value := .pointer (some ⟨ub, 0, none⟩) :: vs :: (op.flatMap Fil.hC ++ [.slice none 0 0, v1, v2])
def Fil.new (f : Fee.Fd) : Fil.St := ⟨⟨⟨#[]⟩, (Fee.beg f).input⟩ :: (Fee.beg f).files, [⟨1, 0, 0⟩, ⟨2, 0, 0⟩, ⟨2, 0, 0⟩] ++ List.replicate 13 Fil.no, [], [], (Fee.beg f).short, (Fee.beg f).random, (Fee.beg f).clock, 0, 0, 0⟩
/-- The place of the source of that name. -/
def Fil.find (l : List Fee.Fl) (name : ByteArray) : Int := match (l.drop 1).findIdx? (fun f => f.name.toList == name.toList) with | some i => (i : Int) + 1 | none => 0
def Fil.free (op : List Fil.H) : Option Nat := op.findIdx? (fun h => h.kind == 0)
def Fil.opened (s : Fil.St) (p : Nat) : Option Nat → Int × Fil.St
  | some k => ((k : Int), { s with op := s.op.set k ⟨1, p, 0⟩ })
  | none => (-24, s)
def Fil.open (s : Fil.St) (name : ByteArray) : Int × Fil.St := if Fil.find s.srcs name = 0 then (-2, s) else Fil.opened s (Fil.find s.srcs name).toNat (Fil.free s.op)
def Fil.close (s : Fil.St) (fd : Int) : Int × Fil.St := if (Fil.hd s fd).kind = 0 then (-9, s) else (0, { s with op := s.op.set fd.toNat Fil.no })
def Fil.data (s : Fil.St) (h : Fil.H) : List Int := match s.srcs[h.src]? with | some f => f.data | none => []
def Fil.got (s : Fil.St) (h : Fil.H) (n : Int) : List Int := ((Fil.data s h).drop h.pos).take (Fee.take s.sh s.a (min (max n 0) 4096)).1.toNat
def Fil.read (s : Fil.St) (fd n : Int) : List Int × Int × Fil.St :=
  if (Fil.hd s fd).kind ≠ 1 then ([], -9, s)
  else (Fil.got s (Fil.hd s fd) n, (Fil.got s (Fil.hd s fd) n).length, { s with op := s.op.set fd.toNat { Fil.hd s fd with pos := (Fil.hd s fd).pos + (Fil.got s (Fil.hd s fd) n).length }, a := (Fee.take s.sh s.a (min (max n 0) 4096)).2 })
def Fil.outAt (s : Fil.St) (fd : Int) : List Int := if fd = 1 then s.o1 else if fd = 2 then s.o2 else []
def Fil.write (s : Fil.St) (fd : Int) (bs : List Int) : Int × Fil.St :=
  if (Fil.hd s fd).kind ≠ 2 then (-9, s) else if 65536 < (Fil.outAt s fd).length + bs.length then (-28, s)
  else ((bs.length : Int), if fd = 1 then { s with o1 := s.o1 ++ bs } else { s with o2 := s.o2 ++ bs })
def Fil.place (s : Fil.St) (h : Fil.H) (off wh : Int) : Int := if wh = 0 then off else if wh = 1 then off + h.pos else off + (Fil.data s h).length
def Fil.seek (s : Fil.St) (fd off wh : Int) : Int × Fil.St :=
  if (Fil.hd s fd).kind = 0 then (-9, s) else if (Fil.hd s fd).kind = 2 then (-29, s) else if wh ≠ 0 ∧ wh ≠ 1 ∧ wh ≠ 2 then (-22, s)
  else if Fil.place s (Fil.hd s fd) off wh < 0 then (-22, s)
  else (Fil.place s (Fil.hd s fd) off wh, { s with op := s.op.set fd.toNat { Fil.hd s fd with pos := (Fil.place s (Fil.hd s fd) off wh).toNat } })
/-- What every state keeps. -/
structure Fil.Ok (s : Fil.St) : Prop where
  ln : s.op.length = 16
  kd : ∀ (i : Nat) h, s.op[i]? = some h → h.kind = 0 ∨ (h.kind = 1 ∧ h.src < s.srcs.length) ∨ (h.kind = 2 ∧ (i = 1 ∨ i = 2))
  sh : ∀ x ∈ s.sh, 0 ≤ x
  l1 : s.sh.length ≤ 10000
  l2 : s.rd.length ≤ 10000
  l3 : s.ck.length ≤ 10000
  ls : 1 ≤ s.srcs.length ∧ s.srcs.length ≤ 1000
  ld : ∀ f ∈ s.srcs, f.data.length ≤ 4096 ∧ B8s f.data
  p1 : s.o1.length ≤ 65536 ∧ B8s s.o1
  p2 : s.o2.length ≤ 65536 ∧ B8s s.o2
theorem Fil.hC_len (h : Fil.H) : (Fil.hC h).length = 3 := rfl
theorem Fil.cells_at {ub : Nat} {vs v1 v2 : Value} {op : List Fil.H} {k j : Nat} {h : Fil.H} {v : Value} (hk : op[k]? = some h) (hj : (Fil.hC h)[j]? = some v) : (Fil.cells ub vs v1 v2 op)[2 + k * 3 + j]? = some v := by
  have hj3 : j < 3 := (List.getElem?_eq_some_iff.1 hj).1
  have hkl : k < op.length := (List.getElem?_eq_some_iff.1 hk).1
  unfold Fil.cells
  rw [show 2 + k * 3 + j = (k * 3 + j) + 1 + 1 by omega, List.getElem?_cons_succ, List.getElem?_cons_succ, List.getElem?_append_left (by rw [chunk_len Fil.hC 3 Fil.hC_len]; omega), chunk Fil.hC 3 Fil.hC_len op k h j hk hj3]
  exact hj
theorem Fil.cells_len {ub : Nat} {vs v1 v2 : Value} {op : List Fil.H} (h : op.length = 16) : (Fil.cells ub vs v1 v2 op).length = 53 := by
  unfold Fil.cells; simp [chunk_len Fil.hC 3 Fil.hC_len, h]
theorem Fil.flat_set (j : Nat) (hj : j < 3) (v : Value) : ∀ (op : List Fil.H) (k : Nat) (h h' : Fil.H), op[k]? = some h → Fil.hC h' = (Fil.hC h).set j v → (op.flatMap Fil.hC).set (k * 3 + j) v = (op.set k h').flatMap Fil.hC := by
  intro op
  induction op with
  | nil => intro k h h' e; simp at e
  | cons x r ih =>
    intro k h h' e e2
    cases k with
    | zero =>
      simp at e; subst e
      rw [List.flatMap_cons, List.set_cons_zero, List.flatMap_cons, e2, Nat.zero_mul, Nat.zero_add, List.set_append_left _ _ (by rw [Fil.hC_len]; exact hj)]
    | succ k =>
      rw [List.flatMap_cons, List.set_cons_succ, List.flatMap_cons, List.set_append_right _ _ (by rw [Fil.hC_len]; omega), Fil.hC_len, show (k + 1) * 3 + j - 3 = k * 3 + j by omega, ih k h h' (by simpa using e) e2]
theorem Fil.cells_set {ub : Nat} {vs v1 v2 v : Value} {op : List Fil.H} {k j : Nat} {h h' : Fil.H} (hj : j < 3) (hk : op[k]? = some h) (e : Fil.hC h' = (Fil.hC h).set j v) : (Fil.cells ub vs v1 v2 op).set (2 + k * 3 + j) v = Fil.cells ub vs v1 v2 (op.set k h') := by
  have hkl : k < op.length := (List.getElem?_eq_some_iff.1 hk).1
  unfold Fil.cells
  rw [show 2 + k * 3 + j = (k * 3 + j) + 1 + 1 by omega, List.set_cons_succ, List.set_cons_succ, List.set_append_left _ _ (by rw [chunk_len Fil.hC 3 Fil.hC_len]; omega), Fil.flat_set j hj v op k h h' hk e]
theorem Fil.cells_hi {ub : Nat} {vs v1 v2 : Value} {op : List Fil.H} (h : op.length = 16) : (Fil.cells ub vs v1 v2 op)[50]? = some (.slice none 0 0) ∧ (Fil.cells ub vs v1 v2 op)[51]? = some v1 ∧ (Fil.cells ub vs v1 v2 op)[52]? = some v2 := by
  have hl := chunk_len Fil.hC 3 Fil.hC_len op
  unfold Fil.cells
  refine ⟨?_, ?_, ?_⟩ <;> (rw [List.getElem?_cons_succ, List.getElem?_cons_succ, List.getElem?_append_right (by omega), hl, h]; rfl)
theorem Fil.cells_set0 {ub : Nat} {vs v1 v2 : Value} {op : List Fil.H} (h : op.length = 16) : (Fil.cells ub vs v1 v2 op).set 50 (.slice none 0 0) = Fil.cells ub vs v1 v2 op := by
  have hl := chunk_len Fil.hC 3 Fil.hC_len op
  unfold Fil.cells
  rw [List.set_cons_succ, List.set_cons_succ, List.set_append_right _ _ (by omega), hl, h]; rfl
theorem Fil.cells_set1 {ub : Nat} {vs v1 v2 v : Value} {op : List Fil.H} (h : op.length = 16) : (Fil.cells ub vs v1 v2 op).set 51 v = Fil.cells ub vs v v2 op := by
  have hl := chunk_len Fil.hC 3 Fil.hC_len op
  unfold Fil.cells
  rw [List.set_cons_succ, List.set_cons_succ, List.set_append_right _ _ (by omega), hl, h]; rfl
theorem Fil.cells_set2 {ub : Nat} {vs v1 v2 v : Value} {op : List Fil.H} (h : op.length = 16) : (Fil.cells ub vs v1 v2 op).set 52 v = Fil.cells ub vs v1 v op := by
  have hl := chunk_len Fil.hC 3 Fil.hC_len op
  unfold Fil.cells
  rw [List.set_cons_succ, List.set_cons_succ, List.set_append_right _ _ (by omega), hl, h]; rfl

/-- Read alone: a block of A that is none of F's. -/
def RdA (A F : Nat → Prop) (v : Value) : Prop := ∀ q k c, v = .slice (some q) k c → 0 < k → A q.block ∧ ¬ F q.block
def Fil.F (fb ub : Nat) (v1 v2 : Value) : Nat → Prop := fun i => i = fb ∨ i = ub ∨ v1.ownBlock = some i ∨ v2.ownBlock = some i
/-- Open files as Go holds them; all their blocks are A's. -/
structure FsX (w0 w : World) (fb ub : Nat) (v1 v2 vs : Value) (us : List Value) (A : Nat → Prop) (s : Fil.St) : Prop where
  ok : Fil.Ok s
  ne : fb ≠ ub
  in_ : ∀ i, A i → w0.heap.size ≤ i ∧ i < w.heap.size
  af : A fb
  au : A ub
  box : Box w fb (Fil.cells ub vs v1 v2 s.op)
  use : UseS w ub s.sh s.rd s.ck s.a s.b s.c
  far : ∀ j v, j < 3 → w.cell? ⟨ub, j, none⟩ = some v → RdA A (Fil.F fb ub v1 v2) v
  ul : us.length = s.srcs.length
  rd : RdR 2 w vs s.srcs.length (Fee.cells s.srcs us)
  rf : RdA A (Fil.F fb ub v1 v2) vs
  r8 : ∀ (i : Nat) f u, s.srcs[i]? = some f → us[i]? = some u → Rd8 w u f.data ∧ RdA A (Fil.F fb ub v1 v2) u
  o1 : Own8 w0 w v1 s.o1
  o2 : Own8 w0 w v2 s.o2
  n1 : ∀ g, v1.ownBlock = some g → A g ∧ g ≠ fb ∧ g ≠ ub ∧ v2.ownBlock ≠ some g
  n2 : ∀ g, v2.ownBlock = some g → A g ∧ g ≠ fb ∧ g ≠ ub
/-- Open files as Go holds them. -/
def FS (w0 w : World) (fb : Nat) (A : Nat → Prop) (s : Fil.St) : Prop := ∃ ub v1 v2 vs us, FsX w0 w fb ub v1 v2 vs us A s
theorem RdR.fz {sz n : Nat} {cs : List Value} {a b : World} {v : Value} {F : Nat → Prop} (h : RdR sz a v n cs) (g : Fz F a b) (hn : ∀ q k c, v = .slice (some q) k c → 0 < k → ¬ F q.block) : RdR sz b v n cs := by
  obtain ⟨q, cap, h1, h2, h3, h4, h5⟩ := h
  refine ⟨q, cap, h1, h2, h3, h4, fun h0 => ?_⟩
  obtain ⟨b', o, rfl, h7, h8⟩ := h5 h0
  have hb := hn _ _ _ h1 h0
  exact ⟨b', o, rfl, Nat.lt_of_lt_of_le h7 g.b0.size, fun j u hu => by rw [cell_block (p := ⟨b', o + j, none⟩) (g.block b' h7 hb)]; exact h8 j u hu⟩
theorem Rd8.fz {l : List Int} {a b : World} {v : Value} {F : Nat → Prop} (h : Rd8 a v l) (g : Fz F a b) (hn : ∀ q k c, v = .slice (some q) k c → 0 < k → ¬ F q.block) : Rd8 b v l := RdR.fz h g hn
/-- A step within. -/
theorem FsX.mv {w0 w w' : World} {fb ub : Nat} {v1 v2 vs v1' v2' : Value} {us : List Value} {A : Nat → Prop} {s s' : Fil.St} (h : FsX w0 w fb ub v1 v2 vs us A s) (g : Fz (Fil.F fb ub v1 v2) w w')
    (hs : s'.srcs = s.srcs) (hok : Fil.Ok s') (hbox : Box w' fb (Fil.cells ub vs v1' v2' s'.op)) (hx : UseS w' ub s'.sh s'.rd s'.ck s'.a s'.b s'.c) (hk : Keep3 ub w w')
    (ho1 : Own8 w0 w' v1' s'.o1) (ho2 : Own8 w0 w' v2' s'.o2) (h1 : v1'.ownBlock = v1.ownBlock ∨ ∃ n, w.heap.size ≤ n ∧ v1'.ownBlock = some n) (h2 : v2'.ownBlock = v2.ownBlock ∨ ∃ n, w.heap.size ≤ n ∧ v2'.ownBlock = some n) (h12 : ∀ n, v1'.ownBlock = some n → v2'.ownBlock ≠ some n) :
    FsX w0 w' fb ub v1' v2' vs us (fun i => A i ∨ v1'.ownBlock = some i ∨ v2'.ownBlock = some i) s' ∧ Stp A (fun i => A i ∨ v1'.ownBlock = some i ∨ v2'.ownBlock = some i) w w' := by
  have hsz := g.b0.size
  have hFA : ∀ i, Fil.F fb ub v1 v2 i → A i := fun i hi => by
    rcases hi with rfl | rfl | hi | hi
    · exact h.af
    · exact h.au
    · exact (h.n1 i hi).1
    · exact (h.n2 i hi).1
  have hRd : ∀ v, RdA A (Fil.F fb ub v1 v2) v → RdA (fun i => A i ∨ v1'.ownBlock = some i ∨ v2'.ownBlock = some i) (Fil.F fb ub v1' v2') v := fun v hv q k c e hk => by
    obtain ⟨a1, a2⟩ := hv q k c e hk
    have hlt := (h.in_ _ a1).2
    refine ⟨Or.inl a1, fun hF => a2 ?_⟩
    rcases hF with hF | hF | hF | hF
    · exact Or.inl hF
    · exact Or.inr (Or.inl hF)
    · rcases h1 with h1 | ⟨n, hn, h1⟩
      · exact Or.inr (Or.inr (Or.inl (h1 ▸ hF)))
      · rw [h1] at hF; have := Option.some.inj hF; omega
    · rcases h2 with h2 | ⟨n, hn, h2⟩
      · exact Or.inr (Or.inr (Or.inr (h2 ▸ hF)))
      · rw [h2] at hF; have := Option.some.inj hF; omega
  have hfb := (h.in_ _ h.af).2
  have hub := (h.in_ _ h.au).2
  refine ⟨⟨hok, h.ne, ?_, Or.inl h.af, Or.inl h.au, hbox, hx, ?_, hs ▸ h.ul, ?_, hRd _ h.rf, ?_, ho1, ho2, ?_, ?_⟩, ⟨⟨g.b0, fun i hi hn => g.block i hi (fun e => hn (hFA i e))⟩, ?_⟩⟩
  · rintro i (hi | hi | hi)
    · exact ⟨(h.in_ i hi).1, Nat.lt_of_lt_of_le (h.in_ i hi).2 hsz⟩
    · exact ho1.blk i hi
    · exact ho2.blk i hi
  · intro j v hj hc
    exact hRd v (h.far j v hj ((hk j hj).symm.trans hc))
  · rw [hs]; exact RdR.fz h.rd g (fun q k c e hk => (h.rf q k c e hk).2)
  · rw [hs]; intro i f u a b
    obtain ⟨c1, c2⟩ := h.r8 i f u a b
    exact ⟨c1.fz g (fun q k c e hk => (c2 q k c e hk).2), hRd u c2⟩
  · intro n hn
    refine ⟨Or.inr (Or.inl hn), ?_, ?_, h12 n hn⟩
    · rcases h1 with h1 | ⟨m, hm, h1⟩
      · exact (h.n1 n (h1 ▸ hn)).2.1
      · rw [h1] at hn; have := Option.some.inj hn; omega
    · rcases h1 with h1 | ⟨m, hm, h1⟩
      · exact (h.n1 n (h1 ▸ hn)).2.2.1
      · rw [h1] at hn; have := Option.some.inj hn; omega
  · intro n hn
    refine ⟨Or.inr (Or.inr hn), ?_, ?_⟩
    · rcases h2 with h2 | ⟨m, hm, h2⟩
      · exact (h.n2 n (h2 ▸ hn)).2.1
      · rw [h2] at hn; have := Option.some.inj hn; omega
    · rcases h2 with h2 | ⟨m, hm, h2⟩
      · exact (h.n2 n (h2 ▸ hn)).2.2
      · rw [h2] at hn; have := Option.some.inj hn; omega
  · rintro i hi (e | e | e)
    · exact e
    · rcases h1 with h1 | ⟨m, hm, h1⟩
      · exact (h.n1 i (h1 ▸ e)).1
      · rw [h1] at e; have := Option.some.inj e; omega
    · rcases h2 with h2 | ⟨m, hm, h2⟩
      · exact (h.n2 i (h2 ▸ e)).1
      · rw [h2] at e; have := Option.some.inj e; omega
/-- The cells of one number; how many there are. -/
theorem FsX.at_ {w0 w : World} {fb ub : Nat} {v1 v2 vs : Value} {us : List Value} {A : Nat → Prop} {s : Fil.St} (h : FsX w0 w fb ub v1 v2 vs us A s) {k : Nat} {x : Fil.H} (hx : s.op[k]? = some x) :
    (w.cell? ⟨fb, 2 + k * 3, none⟩ = some (.int .i64 x.kind) ∧ w.cell? ⟨fb, 2 + k * 3 + 1, none⟩ = some (.int .i64 x.src) ∧ w.cell? ⟨fb, 2 + k * 3 + 2, none⟩ = some (.int .i64 x.pos)) ∧
    (w.frozen? ⟨fb, 2 + k * 3, none⟩ = false ∧ w.frozen? ⟨fb, 2 + k * 3 + 1, none⟩ = false ∧ w.frozen? ⟨fb, 2 + k * 3 + 2, none⟩ = false) := by
  have hl := Fil.cells_len (ub := ub) (vs := vs) (v1 := v1) (v2 := v2) h.ok.ln
  have hk : k < 16 := by rw [← h.ok.ln]; exact (List.getElem?_eq_some_iff.1 hx).1
  refine ⟨⟨h.box.c (2 + k * 3) _ (Fil.cells_at hx (j := 0) rfl), h.box.c _ _ (Fil.cells_at hx (j := 1) rfl), h.box.c _ _ (Fil.cells_at hx (j := 2) rfl)⟩, h.box.f _ (by omega), h.box.f _ (by omega), h.box.f _ (by omega)⟩
/-- Whatever writes other blocks alone leaves it as it is. -/
theorem FsX.fz {w0 w w' : World} {fb ub : Nat} {v1 v2 vs : Value} {us : List Value} {A B : Nat → Prop} {s : Fil.St} (h : FsX w0 w fb ub v1 v2 vs us A s) (g : Fz B w w') (hd : ∀ i, A i → ¬ B i) : FsX w0 w' fb ub v1 v2 vs us A s := by
  have hsz := g.b0.size
  have hblk : ∀ i, A i → w'.heap[i]? = w.heap[i]? := fun i hi => g.block i (h.in_ i hi).2 (hd i hi)
  have hR : ∀ v, RdA A (Fil.F fb ub v1 v2) v → ∀ q k c, v = .slice (some q) k c → 0 < k → ¬ B q.block := fun v hv q k c e hk => hd _ (hv q k c e hk).1
  refine ⟨h.ok, h.ne, fun i hi => ⟨(h.in_ i hi).1, Nat.lt_of_lt_of_le (h.in_ i hi).2 hsz⟩, h.af, h.au, h.box.blk (hblk fb h.af), ?_, ?_, h.ul, RdR.fz h.rd g (hR _ h.rf), ?_, ?_, ?_, ?_, h.n1, h.n2⟩
  · have hfar := h.far
    obtain ⟨⟨a, b, c, h1, h2, h3, h4, h5, h6, h7⟩, la, lb, lc⟩ := h.use
    exact ⟨⟨a, b, c, h1.blk (hblk ub h.au), RdR.fz h2 g (hR _ (hfar 0 _ (by omega) (h1.c 0 _ rfl))), Rd8.fz h3 g (hR _ (hfar 1 _ (by omega) (h1.c 1 _ rfl))), RdR.fz h4 g (hR _ (hfar 2 _ (by omega) (h1.c 2 _ rfl))), h5, h6, h7⟩, la, lb, lc⟩
  · intro j v hj hc
    exact h.far j v hj ((cell_block (p := ⟨ub, j, none⟩) (hblk ub h.au)).symm.trans hc)
  · exact h.rf
  · intro i f u a b
    obtain ⟨c1, c2⟩ := h.r8 i f u a b
    exact ⟨c1.fz g (hR _ c2), c2⟩
  · exact h.o1.heap (fun j hj => hblk j (h.n1 j hj).1)
  · exact h.o2.heap (fun j hj => hblk j (h.n2 j hj).1)
theorem FsX.bw {w0 w w' : World} {fb ub : Nat} {v1 v2 vs : Value} {us : List Value} {A : Nat → Prop} {s : Fil.St} (h : FsX w0 w fb ub v1 v2 vs us A s) (g : Bw w w') : FsX w0 w' fb ub v1 v2 vs us A s := h.fz (B := fun _ => False) (Fz.of_bw g) (fun _ _ h => h)
theorem FS.fz {w0 w w' : World} {fb : Nat} {A B : Nat → Prop} {s : Fil.St} (h : FS w0 w fb A s) (g : Fz B w w') (hd : ∀ i, A i → ¬ B i) : FS w0 w' fb A s := by
  obtain ⟨ub, v1, v2, vs, us, h⟩ := h
  exact ⟨ub, v1, v2, vs, us, h.fz g hd⟩
theorem FS.bw {w0 w w' : World} {fb : Nat} {A : Nat → Prop} {s : Fil.St} (h : FS w0 w fb A s) (g : Bw w w') : FS w0 w' fb A s := h.fz (B := fun _ => False) (Fz.of_bw g) (fun _ _ h => h)
theorem FS.in_ {w0 w : World} {fb : Nat} {A : Nat → Prop} {s : Fil.St} (h : FS w0 w fb A s) : ∀ i, A i → w0.heap.size ≤ i ∧ i < w.heap.size := by
  obtain ⟨ub, v1, v2, vs, us, h⟩ := h; exact h.in_
theorem FS.af {w0 w : World} {fb : Nat} {A : Nat → Prop} {s : Fil.St} (h : FS w0 w fb A s) : A fb := by
  obtain ⟨ub, v1, v2, vs, us, h⟩ := h; exact h.af
theorem FS.ok {w0 w : World} {fb : Nat} {A : Nat → Prop} {s : Fil.St} (h : FS w0 w fb A s) : Fil.Ok s := by
  obtain ⟨ub, v1, v2, vs, us, h⟩ := h; exact h.ok
theorem FS.le {w0 w1 w : World} {fb : Nat} {A : Nat → Prop} {s : Fil.St} (h : FS w1 w fb A s) (k : w0.heap.size ≤ w1.heap.size) : FS w0 w fb A s := by
  obtain ⟨ub, v1, v2, vs, us, h⟩ := h
  exact ⟨ub, v1, v2, vs, us, h.ok, h.ne, fun i hi => ⟨Nat.le_trans k (h.in_ i hi).1, (h.in_ i hi).2⟩, h.af, h.au, h.box, h.use, h.far, h.ul, h.rd, h.rf, h.r8, h.o1.le k, h.o2.le k, h.n1, h.n2⟩
end Go.Proofs.Ytaepjlaegldkhaa
