/- PLAIN MATHEMATICS OF LAYER 12 (a step): what Fetch, Address, Step come to. · LAYER 12: a State as Go holds it (34 cells), events, instructions. · LAYER 12's walks: register, Address, jump, link. · A memory in a law's or a function's hands beside boxes that are written; Store, Poke. -/
import Derived.Test.YtbackacbdfgdoaaDoorK4
import Derived.Test.YtbackacbdfgdoaaDoorK3
import Derived.Test.YtbackacbdfgdoaaDoorK7
import Derived.Deep.MidRow
import Derived.Deep.RegionHeld3
namespace Go.Proofs.YtbackacbdfgdoaaDoor
namespace Cpu
/-- A machine's registers, place, count. -/
structure St where
  x : Nat → Int
  pc : Int
  ret : Int
/-- What a step came to. -/
structure Ev where
  kind : Int
  addr : Int
  why : Int
structure St.Ok (s : St) : Prop where
  x : ∀ i, U4 (s.x i)
  pc : U4 s.pc
  ret : -4611686018427387904 ≤ s.ret ∧ s.ret ≤ 4611686018427387904
def St.put (s : St) (r : Nat) (v : Int) : St := { s with x := fun i => if i = r then v else s.x i }
def reg (s : St) (r : Int) : Int := if r < 1 ∨ 32 ≤ r then 0 else s.x r.toNat
/-- Rs1 and Imm. -/
def adr (i : Rv.Ins) (s : St) : Int := (reg s i.rs1 + i.imm) % 4294967296
def nx : Ev := ⟨0, 0, 0⟩
def noIns : Rv.Ins := ⟨0, 0, 0, 0, 0⟩
def fetch (S : MS) (pc : Int) : Rv.Ins × Ev :=
  if S.ask pc 4 4 = 0 then (if (Rv.dec (S.load pc 4 4)).op = 0 then (noIns, ⟨2, pc, 0⟩) else (Rv.dec (S.load pc 4 4), nx)) else (noIns, ⟨1, pc, S.ask pc 4 4⟩)
/-- What a step leaves. -/
structure Res where
  st : St
  ev : Ev
  mem : MS
/-- A register set (x0 stays nought), the next place, one more retired. -/
def done (s : St) (r v pc : Int) : St := ⟨fun i => if i = 0 then 0 else if i = r.toNat then v else s.x i, pc, s.ret + 1⟩
def next (s : St) : Int := (s.pc + 4) % 4294967296
def rel (i : Rv.Ins) (s : St) : Int := (s.pc + i.imm) % 4294967296
def hop (S : MS) (s : St) (r v to : Int) : Res := if to % 4 = 0 then ⟨done s r v to, nx, S⟩ else ⟨s, ⟨7, to, 0⟩, S⟩
def tsN : List Nat := [0, 1, 4, 5, 6, 7]
def lsN : List Nat := [1, 2, 4, 1, 2]
def lbN : List Nat := [8, 16, 32, 32, 32]
def ssN : List Nat := [1, 2, 4]
def tk (op : Int) : Int := ((tsN.getD (op - 5).toNat 0 : Nat) : Int)
def lsz (op : Int) : Int := ((lsN.getD (op - 11).toNat 0 : Nat) : Int)
def lbt (op : Int) : Int := ((lbN.getD (op - 11).toNat 0 : Nat) : Int)
def ssz (op : Int) : Int := ((ssN.getD (op - 16).toNat 0 : Nat) : Int)
def brn (S : MS) (s : St) (i : Rv.Ins) : Res := if Alu.tst (tk i.op) (reg s i.rs1) (reg s i.rs2) = true then hop S s 0 0 (rel i s) else ⟨done s 0 0 (next s), nx, S⟩
def lod (S : MS) (s : St) (i : Rv.Ins) : Res :=
  if S.ask (adr i s) (lsz i.op) 1 = 0 then ⟨done s i.rd (Alu.ext (S.load (adr i s) (lsz i.op) 1) (lbt i.op)) (next s), nx, S⟩ else ⟨s, ⟨3, adr i s, S.ask (adr i s) (lsz i.op) 1⟩, S⟩
def sto (S : MS) (s : St) (i : Rv.Ins) : Res :=
  if S.ask (adr i s) (ssz i.op) 2 = 0 then ⟨done s 0 0 (next s), nx, S.store (adr i s) (ssz i.op) (reg s i.rs2)⟩ else ⟨s, ⟨4, adr i s, S.ask (adr i s) (ssz i.op) 2⟩, S⟩
def rck (S : MS) (s : St) (i : Rv.Ins) : Res :=
  ⟨done s i.rd (Alu.val (Rv.kd i.op) (reg s i.rs1) (if i.op ≤ 27 then i.imm % 4294967296 else reg s i.rs2)) (next s), nx, S⟩
/-- An instruction (its Op from 1 to 49) done. -/
def run (S : MS) (i : Rv.Ins) (s : St) : Res :=
  if i.op = 1 then ⟨done s i.rd (i.imm % 4294967296) (next s), nx, S⟩
  else if i.op = 2 then ⟨done s i.rd (rel i s) (next s), nx, S⟩
  else if i.op = 3 then hop S s i.rd (next s) (rel i s)
  else if i.op = 4 then hop S s i.rd (next s) (adr i s - adr i s % 2)
  else if i.op ≤ 10 then brn S s i
  else if i.op ≤ 15 then lod S s i
  else if i.op ≤ 18 then sto S s i
  else if i.op ≤ 45 then rck S s i
  else if i.op ≤ 47 then ⟨done s 0 0 (next s), nx, S⟩
  else if i.op = 48 then ⟨s, ⟨5, s.pc, 0⟩, S⟩
  else ⟨s, ⟨6, s.pc, 0⟩, S⟩
def step (S : MS) (s : St) : Res := if (fetch S s.pc).2.kind = 0 then run S (fetch S s.pc).1 s else ⟨s, (fetch S s.pc).2, S⟩

theorem U4.mod (x : Int) : U4 (x % 4294967296) := by constructor <;> omega
theorem reg_u4 {s : St} (h : s.Ok) (r : Int) : U4 (reg s r) := by
  unfold reg; split
  · exact ⟨by omega, by omega⟩
  · exact h.x _
theorem adr_u4 (i : Rv.Ins) (s : St) : U4 (adr i s) := U4.mod _
theorem rel_u4 (i : Rv.Ins) (s : St) : U4 (rel i s) := U4.mod _
theorem next_u4 (s : St) : U4 (next s) := U4.mod _
/-- Decode's answer, its bounds. -/
structure InsOk (i : Rv.Ins) : Prop where
  op : 0 ≤ i.op ∧ i.op ≤ 49
  rd : 0 ≤ i.rd ∧ i.rd < 32
  rs1 : 0 ≤ i.rs1 ∧ i.rs1 < 32
  rs2 : 0 ≤ i.rs2 ∧ i.rs2 < 32
  imm : -2147483648 ≤ i.imm ∧ i.imm < 2147483648
theorem dec_ok {w : Int} (h : U4 w) : InsOk (Rv.dec w) := by
  have ho := Rv.opI_bd (w := w) h
  obtain ⟨h0, h1⟩ := h
  have a : 0 ≤ Rv.fd w ∧ Rv.fd w < 32 := by unfold Rv.fd; omega
  have b : 0 ≤ Rv.fs w ∧ Rv.fs w < 32 := by unfold Rv.fs; omega
  have c : 0 ≤ Rv.ft w ∧ Rv.ft w < 32 := by unfold Rv.ft; omega
  unfold Rv.dec
  repeat' split
  all_goals refine ⟨?_, ?_, ?_, ?_, ?_⟩ <;> dsimp only <;> first | omega | (unfold Rv.immU; omega) | (unfold Rv.immJ; omega) | (unfold Rv.immB; omega) | (unfold Rv.immS; omega) | (unfold Rv.immI; omega)
end Cpu
end Go.Proofs.YtbackacbdfgdoaaDoor
namespace Go.Proofs.YtbackacbdfgdoaaDoor
open Go.ChangeShapes Go.WideShapes Go.ChangeAt Go.RowKit
set_option linter.unusedVariables false

namespace Cpu
/-- A State's cells. -/
def cl (s : St) : List Value := (List.range 32).map (fun i => Value.int .u32 (s.x i)) ++ [Value.int .u32 s.pc, Value.int .i64 s.ret]
def arr (s : St) : Array Value := (cl s).toArray
def sv (s : St) : Value := .agg (arr s)
def ev (e : Ev) : Value := .agg #[.int .i64 e.kind, .int .u32 e.addr, .int .i64 e.why]
theorem cl_len (s : St) : (cl s).length = 34 := by simp [cl]
theorem arr_size (s : St) : (arr s).size = 34 := by simp [arr, cl_len]
theorem cl_x (s : St) {i : Nat} (h : i < 32) : (cl s)[i]? = some (.int .u32 (s.x i)) := by simp [cl, List.getElem?_append, h]
theorem cl_pc (s : St) : (cl s)[32]? = some (.int .u32 s.pc) := by simp [cl]
theorem cl_ret (s : St) : (cl s)[33]? = some (.int .i64 s.ret) := by simp [cl]
theorem cl_put (s : St) {r : Nat} (h : r < 32) (v : Int) : (cl s).set r (.int .u32 v) = cl (s.put r v) := by
  apply List.ext_getElem?
  intro j
  by_cases hj : j = r
  · subst hj
    rw [List.getElem?_set_self (by rw [cl_len]; omega), cl_x _ h]
    simp [St.put]
  · rw [List.getElem?_set_ne (by omega)]
    by_cases h1 : j < 32
    · rw [cl_x _ h1, cl_x _ h1]; simp [St.put, hj]
    · by_cases h2 : j = 32
      · subst h2; rw [cl_pc, cl_pc]; rfl
      · by_cases h3 : j = 33
        · subst h3; rw [cl_ret, cl_ret]; rfl
        · rw [List.getElem?_eq_none (by rw [cl_len]; omega), List.getElem?_eq_none (by rw [cl_len]; omega)]
theorem cl_set_pc (s : St) (v : Int) : (cl s).set 32 (.int .u32 v) = cl { s with pc := v } := by
  unfold cl
  rw [List.set_append_right _ _ (by simp)]
  simp
theorem cl_set_ret (s : St) (v : Int) : (cl s).set 33 (.int .i64 v) = cl { s with ret := v } := by
  unfold cl
  rw [List.set_append_right _ _ (by simp)]
  simp
theorem cl_one (s : St) : ∀ u ∈ cl s, u.oneCell' = true := by
  intro u hu
  simp [cl] at hu
  rcases hu with ⟨i, _, rfl⟩ | rfl | rfl <;> rfl
theorem arr_one (s : St) : (arr s).all (·.oneCell') = true := by
  rw [Array.all_eq_true_iff_forall_mem]
  intro u hu
  exact cl_one s u (by simpa [arr] using hu)
theorem cl_cons (s : St) : ∃ v vs, cl s = v :: vs := ⟨_, _, by unfold cl; rw [List.range_succ_eq_map]; rfl⟩
theorem info : (Tryd.prog.info? 32).map (·.size) = some 34 := by kernel_rfl
theorem infoA (s : St) : (Tryd.prog.info? 32).map (·.size) = some (arr s).size := by rw [arr_size]; exact info
theorem infoL (s : St) : (Tryd.prog.info? 32).map (·.size) = some (cl s).length := by rw [cl_len]; exact info
end Cpu
open Cpu
/-- A State's box. -/
def SB (w : World) (b : Nat) (s : St) : Prop := Box w b (cl s)
theorem SB.c {w : World} {b : Nat} {s : St} (h : SB w b s) {i : Nat} (hi : i < 32) : w.cell? ⟨b, i, none⟩ = some (.int .u32 (s.x i)) := Box.c h i _ (cl_x s hi)
theorem SB.pc {w : World} {b : Nat} {s : St} (h : SB w b s) : w.cell? ⟨b, 32, none⟩ = some (.int .u32 s.pc) := Box.c h _ _ (cl_pc s)
theorem SB.ret {w : World} {b : Nat} {s : St} (h : SB w b s) : w.cell? ⟨b, 33, none⟩ = some (.int .i64 s.ret) := Box.c h _ _ (cl_ret s)
theorem SB.f {w : World} {b : Nat} {s : St} (h : SB w b s) {i : Nat} (hi : i < 34) : w.frozen? ⟨b, i, none⟩ = false := Box.f h i (by rw [cl_len]; exact hi)
theorem SB.lt {w : World} {b : Nat} {s : St} (h : SB w b s) : b < w.heap.size := by
  obtain ⟨v, vs, e⟩ := cl_cons s
  unfold SB at h
  rw [e] at h
  exact h.lt
theorem SB.blk {w w' : World} {b : Nat} {s : St} (h : SB w b s) (e : w'.heap[b]? = w.heap[b]?) : SB w' b s := Box.blk h e
theorem SB.bw {w w' : World} {b : Nat} {s : St} (h : SB w b s) (g : Bw w w') : SB w' b s := h.blk (Below.block g b h.lt)
theorem SB.new (w : World) (s : St) : SB (w.alloc (.cells (arr s) 32)) w.heap.size s := Box.new w (cl s) _
theorem SB.ne {w : World} {b c : Nat} {s : St} (h : SB w b s) (hn : b ≠ c) (j : Nat) (v : Value) : SB (w.setCell ⟨c, j, none⟩ v) b s := Box.ne h hn j v
theorem SB.put {w : World} {b : Nat} {s : St} (h : SB w b s) {r : Nat} (hr : r < 32) (v : Int) : SB (w.setCell ⟨b, r, none⟩ (.int .u32 v)) b (s.put r v) := by
  have := Box.set h r (by rw [cl_len]; omega) (.int .u32 v)
  rw [cl_put s hr] at this
  exact this
theorem SB.setPc {w : World} {b : Nat} {s : St} (h : SB w b s) (v : Int) : SB (w.setCell ⟨b, 32, none⟩ (.int .u32 v)) b { s with pc := v } := by
  have := Box.set h 32 (by rw [cl_len]; omega) (.int .u32 v)
  rw [cl_set_pc] at this
  exact this
theorem SB.setRet {w : World} {b : Nat} {s : St} (h : SB w b s) (v : Int) : SB (w.setCell ⟨b, 33, none⟩ (.int .i64 v)) b { s with ret := v } := by
  have := Box.set h 33 (by rw [cl_len]; omega) (.int .i64 v)
  rw [cl_set_ret] at this
  exact this
theorem SB.al {w : World} {b : Nat} {s : St} (h : SB w b s) (o : Obj) : SB (w.alloc o) b s := h.bw ((Bw.refl w).alloc o)
theorem SB.dr {w : World} {b : Nat} {s : St} (h : SB w b s) : SB w.drew b s := h.bw (Bw.refl w).drew
theorem SB.drN {w : World} {b : Nat} {s : St} (h : SB w b s) (n : Nat) : SB (w.drewN n) b s := h.bw ((Bw.refl w).drewN n)
theorem Bq.hi {pb : Nat} {a b : World} (h : Bq pb a b) {j : Nat} (hj : a.heap.size ≤ j) (k : Nat) (v : Value) : Bq pb a (b.setCell ⟨j, k, none⟩ v) :=
  ⟨h.b0.setCell (Nat.zero_le _) v, fun i hi hn => (Below.heap_setCell _ _ _ _ (by show i ≠ j; omega)).trans (h.block i hi hn)⟩
theorem Bq.al {pb : Nat} {a b : World} (h : Bq pb a b) (o : Obj) : Bq pb a (b.alloc o) := h.bw ((Bw.refl b).alloc o)
theorem Bq.dr {pb : Nat} {a b : World} (h : Bq pb a b) : Bq pb a b.drew := h.bw (Bw.refl b).drew
theorem Bq.drN {pb : Nat} {a b : World} (h : Bq pb a b) (n : Nat) : Bq pb a (b.drewN n) := h.bw ((Bw.refl b).drewN n)
theorem SB.range {w : World} {b : Nat} {s : St} (h : SB w b s) : w.rangeAt b 0 (cl s) := fun j v hv => by rw [Nat.zero_add]; exact Box.c h j v hv
/-- The whole State read, in any world where its box stands so. -/
theorem SB.load {w : World} {b : Nat} {s : St} (h : SB w b s) : (Instr.loadAt 32 (.pointer (some ⟨b, 0, none⟩))).run Tryd.prog w = .ok (sv s) w :=
  run_loadAt_mid w b 0 32 (cl s) _ h.range Tryd.underlying32 rfl (infoL s)
theorem evNew (Y : World) (x y z : Value) (t : TypeId) (w2 : World) (e : w2.heap[Y.heap.size]? = (Y.alloc (.cells #[x, y, z] t)).heap[Y.heap.size]?) :
    w2.cell? ⟨Y.heap.size, 0, none⟩ = some x ∧ w2.cell? ⟨Y.heap.size, 1, none⟩ = some y ∧ w2.cell? ⟨Y.heap.size, 2, none⟩ = some z ∧ w2.frozen? ⟨Y.heap.size, 0, none⟩ = false ∧ w2.frozen? ⟨Y.heap.size, 1, none⟩ = false ∧ w2.frozen? ⟨Y.heap.size, 2, none⟩ = false := by
  have h := (Box.new Y [x, y, z] t).blk e
  exact ⟨h.c 0 _ rfl, h.c 1 _ rfl, h.c 2 _ rfl, h.f 0 (by simp), h.f 1 (by simp), h.f 2 (by simp)⟩
theorem evB {Y w2 : World} {b : Nat} {x y z : Value} {t : TypeId} (h : Bq b (Y.alloc (.cells #[x, y, z] t)).drew w2) (hb : Y.heap.size ≠ b) :
    w2.cell? ⟨Y.heap.size, 0, none⟩ = some x ∧ w2.cell? ⟨Y.heap.size, 1, none⟩ = some y ∧ w2.cell? ⟨Y.heap.size, 2, none⟩ = some z ∧ w2.frozen? ⟨Y.heap.size, 0, none⟩ = false ∧ w2.frozen? ⟨Y.heap.size, 1, none⟩ = false ∧ w2.frozen? ⟨Y.heap.size, 2, none⟩ = false :=
  evNew Y x y z t w2 (h.block _ (by simp) hb)
theorem evBn {Y w2 : World} {b : Nat} {x y z : Value} {t : TypeId} {n : Nat} (h : Bq b ((Y.alloc (.cells #[x, y, z] t)).drewN n) w2) (hb : Y.heap.size ≠ b) :
    w2.cell? ⟨Y.heap.size, 0, none⟩ = some x ∧ w2.cell? ⟨Y.heap.size, 1, none⟩ = some y ∧ w2.cell? ⟨Y.heap.size, 2, none⟩ = some z ∧ w2.frozen? ⟨Y.heap.size, 0, none⟩ = false ∧ w2.frozen? ⟨Y.heap.size, 1, none⟩ = false ∧ w2.frozen? ⟨Y.heap.size, 2, none⟩ = false :=
  evNew Y x y z t w2 (h.block _ (by simp) hb)
theorem evB0 {Y w2 : World} {b : Nat} {x y z : Value} {t : TypeId} (h : Bq b (Y.alloc (.cells #[x, y, z] t)) w2) (hb : Y.heap.size ≠ b) :
    w2.cell? ⟨Y.heap.size, 0, none⟩ = some x ∧ w2.cell? ⟨Y.heap.size, 1, none⟩ = some y ∧ w2.cell? ⟨Y.heap.size, 2, none⟩ = some z ∧ w2.frozen? ⟨Y.heap.size, 0, none⟩ = false ∧ w2.frozen? ⟨Y.heap.size, 1, none⟩ = false ∧ w2.frozen? ⟨Y.heap.size, 2, none⟩ = false :=
  evNew Y x y z t w2 (h.block _ (by simp) hb)
theorem evSet {w : World} {b : Nat} {x y z : Value} (e0 : w.cell? ⟨b, 0, none⟩ = some x) (e1 : w.cell? ⟨b, 1, none⟩ = some y) (e2 : w.cell? ⟨b, 2, none⟩ = some z) :
    (∀ u, (w.setCell ⟨b, 0, none⟩ u).cell? ⟨b, 0, none⟩ = some u) ∧ (∀ u v, ((w.setCell ⟨b, 0, none⟩ u).setCell ⟨b, 1, none⟩ v).cell? ⟨b, 1, none⟩ = some v) ∧ (∀ u v t, (((w.setCell ⟨b, 0, none⟩ u).setCell ⟨b, 1, none⟩ v).setCell ⟨b, 2, none⟩ t).cell? ⟨b, 2, none⟩ = some t) := by
  have h : ∀ (X : World) (i j : Nat) (v : Value), i ≠ j → (X.setCell ⟨b, i, none⟩ v).cell? ⟨b, j, none⟩ = X.cell? ⟨b, j, none⟩ := fun X i j v hn => World.cell?_setCell_other _ _ _ _ (fun e => hn (by simpa [eq_comm] using congrArg Addr.off e))
  refine ⟨fun u => ?_, fun u v => ?_, fun u v t => ?_⟩
  · exact World.cell?_setCell_same _ _ _ e0
  · exact World.cell?_setCell_same _ _ _ (by rw [h _ 0 1 _ (by decide)]; exact e1)
  · exact World.cell?_setCell_same _ _ _ (by rw [h _ 1 2 _ (by decide), h _ 0 2 _ (by decide)]; exact e2)
theorem MS.load_u4 {S : MS} (h : S.Ok) (a size need : Int) : U4 (S.load a size need) := by
  unfold MS.load
  split
  · split
    · rename_i p e
      have hb := fun i => (h.pg _ _ e).byt i
      have h0 := hb (a % 256).toNat
      have h1 := hb ((a % 256).toNat + 1)
      have h2 := hb ((a % 256).toNat + 2)
      have h3 := hb ((a % 256).toNat + 3)
      unfold Pg.val
      split
      · exact ⟨by omega, by omega⟩
      · split
        · exact ⟨by omega, by omega⟩
        · exact ⟨by omega, by omega⟩
    · exact ⟨by omega, by omega⟩
  · exact ⟨by omega, by omega⟩
/-- Package cpu's tables. -/
structure CTab (w : World) : Prop where
  ts : ∀ i : Nat, i < 6 → w.cell? ⟨2, i, none⟩ = some (.int .i64 ((tsN.getD i 0 : Nat) : Int))
  ls : ∀ i : Nat, i < 5 → w.cell? ⟨3, i, none⟩ = some (.int .i64 ((lsN.getD i 0 : Nat) : Int))
  lb : ∀ i : Nat, i < 5 → w.cell? ⟨4, i, none⟩ = some (.int .i64 ((lbN.getD i 0 : Nat) : Int))
  ss : ∀ i : Nat, i < 3 → w.cell? ⟨5, i, none⟩ = some (.int .i64 ((ssN.getD i 0 : Nat) : Int))
theorem CTab.bw {w w' : World} (h : CTab w) (g : Bw w w') : CTab w' := ⟨fun i hi => g.keep (h.ts i hi), fun i hi => g.keep (h.ls i hi), fun i hi => g.keep (h.lb i hi), fun i hi => g.keep (h.ss i hi)⟩
end Go.Proofs.YtbackacbdfgdoaaDoor
namespace Go.Proofs.YtbackacbdfgdoaaDoor
open Go.ChangeShapes Go.WideShapes Go.ChangeAt Go.RowKit
open Cpu
set_option linter.unusedVariables false
set_option linter.unusedSimpArgs false

theorem register_c {w : World} {b : Nat} {s : St} (h : SB w b s) (r : Int) :
    Calls Tryd.prog 35 #[.int .i64 r, .pointer (some ⟨b, 0, none⟩)] w fun e w' => e = .returned (.int .u32 (reg s r)) ∧ w' = w := by
  by_cases hr : r < 1 ∨ 32 ≤ r
  · have e : reg s r = 0 := by unfold reg; rw [if_pos hr]
    rw [e]
    have h1 : (decide (r < 1) || decide (32 ≤ r)) = true := by simpa using hr
    clear h
    by_cases h0 : r < 1
    · go_enter Tryd.func35, Tryd.ntmps35
      go_wp2_with fail
      go_returns
      exact ⟨rfl, rfl⟩
    · have h2 : 32 ≤ r := by omega
      go_enter Tryd.func35, Tryd.ntmps35
      go_wp2_with fail
      go_returns
      exact ⟨rfl, rfl⟩
  · obtain ⟨k, rfl⟩ : ∃ k : Nat, r = k := ⟨r.toNat, by omega⟩
    have hk : k < 32 := by omega
    have e : reg s k = s.x k := by unfold reg; rw [if_neg hr]; simp
    rw [e]
    have hc := h.c hk
    have h0 : ¬ (k : Int) < 1 := by omega
    have h2 : ¬ 32 ≤ (k : Int) := by omega
    clear h hr e
    go_enter Tryd.func35, Tryd.ntmps35
    go_wp2_with fail
    go_returns
    exact ⟨rfl, rfl⟩
set_option maxRecDepth 100000 in
theorem Address_c (i : Rv.Ins) (s : St) (w : World) :
    Calls Tryd.prog 17 #[Rv.iv i, sv s] w fun e w' => e = .returned (.int .u32 (adr i s)) ∧ Bw w w' := by
  unfold Rv.iv sv
  obtain ⟨op, rd, rs1, rs2, imm⟩ := i
  have hS := SB.new (w.alloc (.cells #[.int .i64 op, .int .i64 rd, .int .i64 rs1, .int .i64 rs2, .int .i32 imm] 28)) s
  simp only [World.size_alloc] at hS
  have hb : Bw w ((w.alloc (.cells #[.int .i64 op, .int .i64 rd, .int .i64 rs1, .int .i64 rs2, .int .i32 imm] 28)).alloc (.cells (arr s) 32)) := ((Bw.refl w).alloc _).alloc _
  go_enter Tryd.func17, Tryd.ntmps17
  go_wp2_with fail
  go_quiet (first | (go_at_call 35; refine Calls.quiet_of_same (register_c (hS.bw ((Bw.refl _).drewN _)) _)))
  go_wp2
  go_returns
  exact ⟨congrArg (fun x => Ending.returned (Value.int .u32 x)) (Int.add_emod_emod _ _ _), hb.drewN _⟩
namespace Cpu
def jmpE (to : Int) : Ev := if to % 4 = 0 then nx else ⟨7, to, 0⟩
def jmpS (s : St) (to : Int) : St := if to % 4 = 0 then { s with pc := to } else s
end Cpu
set_option maxRecDepth 100000 in
theorem jump_c {w : World} {b : Nat} {s : St} (h : SB w b s) (to : Int) (ht : U4 to) :
    Calls Tryd.prog 84 #[.int .u32 to, .pointer (some ⟨b, 0, none⟩)] w fun e w' => e = .returned (Cpu.ev (jmpE to)) ∧ SB w' b (jmpS s to) ∧ Bq b w w' := by
  obtain ⟨t0, t1⟩ := ht
  have hl := h.lt
  by_cases ht : to % 4 = 0
  · rw [show jmpE to = nx by unfold jmpE; rw [if_pos ht], show jmpS s to = { s with pc := to } by unfold jmpS; rw [if_pos ht]]
    have hf := h.f (i := 32) (by omega)
    have hc := h.pc
    go_enter Tryd.func84, Tryd.ntmps84
    go_wp2_with fail
    go_returns
    exact ⟨rfl, by (repeat' (first | (with_reducible assumption) | (with_reducible refine SB.put ?_ (by assumption) _) | (with_reducible refine SB.setPc ?_ _) | (with_reducible refine SB.setRet ?_ _) | (with_reducible refine SB.al ?_ _) | (with_reducible refine SB.dr ?_) | (with_reducible refine SB.drN ?_ _) | (with_reducible refine SB.ne ?_ (by omega) _ _) | (with_reducible refine SB.bw ?_ (by assumption)))), by (repeat' (first | (with_reducible assumption) | (with_reducible exact Bq.refl _ _) | (with_reducible refine Bq.set ?_ _ _) | (with_reducible refine Bq.al ?_ _) | (with_reducible refine Bq.dr ?_) | (with_reducible refine Bq.drN ?_ _) | (with_reducible refine Bq.hi ?_ (by omega) _ _) | (with_reducible refine Bq.trans ?_ (by assumption)) | (with_reducible refine Bq.bw ?_ (by assumption))))⟩
  · rw [show jmpE to = ⟨7, to, 0⟩ by unfold jmpE; rw [if_neg ht], show jmpS s to = s by unfold jmpS; rw [if_neg ht]]
    have ht' : (to % 4 == 0) = false := by simpa using ht
    go_enter Tryd.func84, Tryd.ntmps84
    go_wp2_with fail
    go_returns
    exact ⟨rfl, by (repeat' (first | (with_reducible assumption) | (with_reducible refine SB.put ?_ (by assumption) _) | (with_reducible refine SB.setPc ?_ _) | (with_reducible refine SB.setRet ?_ _) | (with_reducible refine SB.al ?_ _) | (with_reducible refine SB.dr ?_) | (with_reducible refine SB.drN ?_ _) | (with_reducible refine SB.ne ?_ (by omega) _ _) | (with_reducible refine SB.bw ?_ (by assumption)))), by (repeat' (first | (with_reducible assumption) | (with_reducible exact Bq.refl _ _) | (with_reducible refine Bq.set ?_ _ _) | (with_reducible refine Bq.al ?_ _) | (with_reducible refine Bq.dr ?_) | (with_reducible refine Bq.drN ?_ _) | (with_reducible refine Bq.hi ?_ (by omega) _ _) | (with_reducible refine Bq.trans ?_ (by assumption)) | (with_reducible refine Bq.bw ?_ (by assumption))))⟩
set_option maxRecDepth 100000 in
theorem link_c {w : World} {b : Nat} {s : St} (h : SB w b s) (rd : Nat) (hrd : rd < 32) (to : Int) (ht : U4 to) :
    Calls Tryd.prog 60 #[.int .i64 rd, .int .u32 to, .pointer (some ⟨b, 0, none⟩)] w fun e w' => e = .returned (Cpu.ev (jmpE to)) ∧ SB w' b (jmpS (s.put rd s.pc) to) ∧ Bq b w w' := by
  have hl := h.lt
  have c1 := h.pc
  have c2 := h.c hrd
  have f2 := h.f (i := rd) (by omega)
  have h0 : (rd : Int) < 32 := by omega
  unfold Cpu.ev
  generalize hE : jmpE to = E
  go_enter Tryd.func60, Tryd.ntmps60
  go_wp2_with fail
  go_region
  all_goals go_wp2_with (go_at_call 84; refine (jump_c (s := s.put rd s.pc) (by (repeat' (first | (with_reducible assumption) | (with_reducible refine SB.put ?_ (by assumption) _) | (with_reducible refine SB.setPc ?_ _) | (with_reducible refine SB.setRet ?_ _) | (with_reducible refine SB.al ?_ _) | (with_reducible refine SB.dr ?_) | (with_reducible refine SB.drN ?_ _) | (with_reducible refine SB.ne ?_ (by omega) _ _) | (with_reducible refine SB.bw ?_ (by assumption))))) to ht).mono ?_; rintro e w2 ⟨rfl, hs2, hq2⟩; rw [hE]; unfold Cpu.ev; (obtain ⟨ev0, ev1, ev2, eg0, eg1, eg2⟩ := evB hq2 (by simp; omega); simp only [World.size_setCell, World.size_drew, World.size_alloc] at ev0 ev1 ev2 eg0 eg1 eg2))
  ((try simp only [Exit.inBlock, Exit.then]); obtain ⟨r0, r1, r2⟩ := evSet ev0 ev1 ev2; refine bodyPost_ret (by simp [results, Tryd.results60, go_sem, r0, r1, r2]; try rfl) rfl ?_)
  exact ⟨rfl, by (repeat' (first | (with_reducible assumption) | (with_reducible refine SB.put ?_ (by assumption) _) | (with_reducible refine SB.setPc ?_ _) | (with_reducible refine SB.setRet ?_ _) | (with_reducible refine SB.al ?_ _) | (with_reducible refine SB.dr ?_) | (with_reducible refine SB.drN ?_ _) | (with_reducible refine SB.ne ?_ (by omega) _ _) | (with_reducible refine SB.bw ?_ (by assumption)))), by (repeat' (first | (with_reducible assumption) | (with_reducible exact Bq.refl _ _) | (with_reducible refine Bq.set ?_ _ _) | (with_reducible refine Bq.al ?_ _) | (with_reducible refine Bq.dr ?_) | (with_reducible refine Bq.drN ?_ _) | (with_reducible refine Bq.hi ?_ (by omega) _ _) | (with_reducible refine Bq.trans ?_ (by assumption)) | (with_reducible refine Bq.bw ?_ (by assumption))))⟩
end Go.Proofs.YtbackacbdfgdoaaDoor
namespace Go.Proofs.YtbackacbdfgdoaaDoor
open Go.ChangeShapes Go.WideShapes Go.ChangeAt Go.RowKit
set_option linter.unusedVariables false

theorem Kp.al {P : Nat → Prop} {a b : World} (h : Kp P a b) (o : Obj) : Kp P a (b.alloc o) := h.trans (Kp.bw ((Bw.refl b).alloc o))
theorem Kp.dr {P : Nat → Prop} {a b : World} (h : Kp P a b) : Kp P a b.drew := h.trans (Kp.bw (Bw.refl b).drew)
theorem Kp.drN {P : Nat → Prop} {a b : World} (h : Kp P a b) (n : Nat) : Kp P a (b.drewN n) := h.trans (Kp.bw ((Bw.refl b).drewN n))
theorem Kp.hi {P : Nat → Prop} {a b : World} (h : Kp P a b) {j : Nat} (hj : a.heap.size ≤ j) (k : Nat) (v : Value) : Kp P a (b.setCell ⟨j, k, none⟩ v) :=
  ⟨by simpa using h.1, fun i hi hp => (Below.heap_setCell _ _ _ _ (by show i ≠ j; omega)).trans (h.2 i hi hp)⟩
theorem Kp.no {P : Nat → Prop} {a b : World} (h : Kp P a b) {j : Nat} (hj : ¬ P j) (k : Nat) (v : Value) : Kp P a (b.setCell ⟨j, k, none⟩ v) :=
  ⟨by simpa using h.1, fun i hi hp => (Below.heap_setCell _ _ _ _ (by show i ≠ j; intro e; subst e; exact hj hp)).trans (h.2 i hi hp)⟩
theorem Kp.toBq {P : Nat → Prop} {a b c : World} {pb : Nat} (h : Kp P a b) (k : Bq pb b c) (hn : ¬ P pb) : Kp P a c :=
  ⟨Nat.le_trans h.1 k.b0.size, fun i hi hp => (k.block i (Nat.lt_of_lt_of_le hi h.1) (fun e => by subst e; exact hn hp)).trans (h.2 i hi hp)⟩
theorem Kp.q {P : Nat → Prop} {a b c : World} (h : Kp P a b) {j : Nat} (k : Bq j b c) (hj : a.heap.size ≤ j) : Kp P a c :=
  ⟨Nat.le_trans h.1 k.b0.size, fun i hi hp => (k.block i (Nat.lt_of_lt_of_le hi h.1) (by omega)).trans (h.2 i hi hp)⟩
theorem Kp.or {P : Nat → Prop} {w0 a b : World} (h : Kp P a b) (ga : Bw w0 a) (gb : Bw w0 b) : Kp (fun i => i < w0.heap.size ∨ P i) a b :=
  ⟨h.1, fun i hi hp => by
    rcases hp with hp | hp
    · exact (Below.block gb i hp).trans (Below.block ga i hp).symm
    · exact h.2 i hi hp⟩
section
variable {w0 w w1 : World} {mb N : Nat} {S : MS} {P : Nat → Prop}
theorem HasB.set (h : HasB w0 w mb N S P) {j : Nat} (hp : P j) (hj : w0.heap.size ≤ j) (k : Nat) (v : Value) : HasB w0 (w.setCell ⟨j, k, none⟩ v) mb N S P := by
  obtain ⟨F, g, hF, L, o⟩ := h
  exact ⟨F, g.setCell hj v, hF, L, o.congr (by simp) (fun i hi => Below.heap_setCell _ _ _ _ (by show i ≠ j; intro e; subst e; exact (hF i hi).2 hp))⟩
theorem HasB.q (h : HasB w0 w mb N S P) {j : Nat} (hp : P j) (hj : w0.heap.size ≤ j) (k : Bq j w w1) : HasB w0 w1 mb N S P := by
  obtain ⟨F, g, hF, L, o⟩ := h
  exact ⟨F, k.toBw g hj, hF, L, o.congr k.b0.size (fun i hi => k.block i (o.lt i hi) (fun e => by subst e; exact (hF i hi).2 hp))⟩
theorem Store_b (h : HasB w0 w mb N S P) (a size v : Int) (ha : U4 a) (hv : U4 v) :
    Calls Tryd.prog 86 #[.pointer (some ⟨mb, 0, none⟩), .int .u32 a, .int .i64 size, .int .u32 v] w fun e w' => e = .returned (.int .i64 (S.ask a size 2)) ∧ HasB w0 w' mb N (S.store a size v) P ∧ Kp P w w' := by
  obtain ⟨F, g, hF, o⟩ := h
  exact (Store_c o a size v ha hv).mono (fun e w' ⟨h1, h2, h3, _⟩ => ⟨h1, ⟨F, h2.toBw g (fun i hi => (hF i hi).1), hF, h3⟩, h2.kp (fun i hi => (hF i hi).2)⟩)
theorem Poke_b (h : HasB w0 w mb N S P) (a : Int) (n : Nat) (ha : U4 a) (hn0 : 0 < n) (hn : n ≤ 65536) (hm : May S a n 0) (bb bo cap : Nat) (bs : Nat → Int) (hcap : n ≤ cap)
    (hbs : ∀ i, i < n → w.cell? ⟨bb, bo + i, none⟩ = some (.int .u8 (bs i))) (hb8 : ∀ i, 0 ≤ bs i ∧ bs i < 256) (hbb : P bb) :
    Calls Tryd.prog 26 #[.pointer (some ⟨mb, 0, none⟩), .int .u32 a, .slice (some ⟨bb, bo, none⟩) n cap] w fun e w' => e = .returned (.int .i64 0) ∧ HasB w0 w' mb N (S.put a n bs) P ∧ Kp P w w' := by
  obtain ⟨F, g, hF, L, o⟩ := h
  exact Poke_of a _ n cap 0 _ ((put_ok o a n 0 65536 ha hn0 (by omega) (by omega) hm bb bo cap bs hcap hbs hb8 (fun x => (hF _ x).2 hbb)).mono (fun e w' ⟨h1, h2, h3⟩ => ⟨h1, ⟨F, h2.toBw g (fun i hi => (hF i hi).1), hF, L, h3⟩, h2.kp (fun i hi => (hF i hi).2)⟩))
theorem Poke_b0 (h : HasB w0 w mb N S P) (a : Int) (ha : U4 a) (q : Option Addr) (cap : Nat) :
    Calls Tryd.prog 26 #[.pointer (some ⟨mb, 0, none⟩), .int .u32 a, .slice q 0 cap] w fun e w' => e = .returned (.int .i64 0) ∧ Bw w w' := by
  obtain ⟨F, g, hF, L, o⟩ := h
  exact Poke_of a _ 0 cap 0 _ ((put_empty o a 0 65536 ha q cap (by omega)).mono (fun e w' ⟨h1, h2⟩ => ⟨h1, h2.b⟩))
end
end Go.Proofs.YtbackacbdfgdoaaDoor
