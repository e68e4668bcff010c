/- LAYER 9, plain: feeds: what may be, what is used. · OPENING ARGUMENTS that are feeds, numbers, bytes. · LAYER 9's walks: hasNought, argsStand, shortStands. · LAYER 9's walks: fileStands, hasName, filesStand. · LAYER 9's walks: Good. · LAYER 9's walks: Take, Time, Used. -/
import Derived.Test.YtncidjkkngbclaaR1
import Derived.Test.YtncidjkkngbclaaShelf
import Derived.ChangeSlices
import Derived.Carry
import Derived.Deep.Slices
import Derived.Deep.Strs
import Derived.Deep.RegionWith
namespace Go.Proofs.Ytncidjkkngbclaa
open Go.ChangeShapes Go.WideShapes Go.ChangeAt Go.RowKit

structure Fee.Fl where
  name : ByteArray
  data : List Int
structure Fee.Fd where
  args : List ByteArray
  input : List Int
  short : List Int
  random : List Int
  clock : List Int
  files : List Fee.Fl
def Fee.noFd : Fee.Fd := ⟨[], [], [], [], [], []⟩
def Fee.nul (s : ByteArray) : Bool := decide (0 ≤ Lib.indexByte s.data.toList 0)
def Fee.argOk (s : ByteArray) : Bool := decide (s.size ≤ 200) && !Fee.nul s
def Fee.argsOk (l : List ByteArray) : Bool := decide (l.length ≤ 16) && l.all Fee.argOk
def Fee.shOk (n : Int) : Bool := decide (0 ≤ n) && decide (n ≤ 4096)
def Fee.shortOk (l : List Int) : Bool := decide (l.length ≤ 64) && l.all Fee.shOk
def Fee.fileOk (f : Fee.Fl) : Bool := decide (f.name.size ≠ 0) && decide (f.name.size ≤ 40) && !Fee.nul f.name && decide (f.data.length ≤ 4096)
def Fee.has (l : List Fee.Fl) (name : ByteArray) : Bool := l.any fun f => f.name.toList == name.toList
/-- The files of l from place k on stand. -/
def Fee.filesFrom (l : List Fee.Fl) (k : Nat) : List Fee.Fl → Bool
  | [] => true
  | f :: r => Fee.fileOk f && !Fee.has (l.take k) f.name && Fee.filesFrom l (k + 1) r
def Fee.filesOk (l : List Fee.Fl) : Bool := decide (l.length ≤ 8) && Fee.filesFrom l 0 l
def Fee.good (f : Fee.Fd) : Bool := Fee.argsOk f.args && decide (f.input.length ≤ 4096) && Fee.shortOk f.short && decide (f.random.length ≤ 4096) && decide (f.clock.length ≤ 64) && Fee.filesOk f.files
/-- Slices of texts, of ints, of words, that read so. -/
def TxS (w : World) (v : Value) (l : List ByteArray) : Prop := RdR 1 w v l.length (l.map Value.string)
def NsS (w : World) (v : Value) (l : List Int) : Prop := RdR 1 w v l.length (l.map (Value.int .i64))
def WsS (w : World) (v : Value) (l : List Int) : Prop := RdR 1 w v l.length (l.map (Value.int .u32))
def Fee.flC (f : Fee.Fl) (u : Value) : List Value := [.string f.name, u]
def Fee.cells (l : List Fee.Fl) (us : List Value) : List Value := (l.zip us).flatMap fun p => Fee.flC p.1 p.2
/-- A slice of files that reads so. -/
def FlS (w : World) (v : Value) (l : List Fee.Fl) : Prop :=
  ∃ us : List Value, us.length = l.length ∧ RdR 2 w v l.length (Fee.cells l us) ∧ (∀ (i : Nat) f u, l[i]? = some f → us[i]? = some u → Rd8 w u f.data) ∧ ∀ f ∈ l, B8s f.data
structure Fee.Wf (f : Fee.Fd) : Prop where
  i8 : B8s f.input
  sh : ∀ n ∈ f.short, -9223372036854775808 ≤ n ∧ n ≤ 9223372036854775807
  r8 : B8s f.random
  ck : ∀ n ∈ f.clock, 0 ≤ n ∧ n < 4294967296
/-- A feed as Go holds it. -/
def IsFd (w : World) (v : Value) (f : Fee.Fd) : Prop :=
  ∃ va vi vs vr vc vf, v = .agg #[va, vi, vs, vr, vc, vf] ∧ TxS w va f.args ∧ Rd8 w vi f.input ∧ NsS w vs f.short ∧ Rd8 w vr f.random ∧ WsS w vc f.clock ∧ FlS w vf f.files ∧ Fee.Wf f
theorem FlS.bw {w w' : World} {v : Value} {l : List Fee.Fl} (h : FlS w v l) (g : Bw w w') : FlS w' v l := by
  obtain ⟨us, h1, h2, h3, h4⟩ := h
  exact ⟨us, h1, h2.bw g, fun i f u a b => (h3 i f u a b).bw g, h4⟩
theorem FlS.nil (w : World) : FlS w (.slice none 0 0) [] := ⟨[], rfl, RdR.nil _ _, by simp, by simp⟩
theorem IsFd.bw {w w' : World} {v : Value} {f : Fee.Fd} (h : IsFd w v f) (g : Bw w w') : IsFd w' v f := by
  obtain ⟨va, vi, vs, vr, vc, vf, h0, h1, h2, h3, h4, h5, h6, h7⟩ := h
  exact ⟨va, vi, vs, vr, vc, vf, h0, RdR.bw h1 g, Rd8.bw h2 g, RdR.bw h3 g, Rd8.bw h4 g, RdR.bw h5 g, h6.bw g, h7⟩
theorem RdR.at1 {α : Type} {F : α → Value} {w : World} {v : Value} {l : List α} (h : RdR 1 w v l.length (l.map F)) : ∃ q cap, v = .slice q l.length cap ∧ l.length ≤ cap ∧ cap ≤ 9223372036854775807 ∧
    ∀ (i : Nat) s, l[i]? = some s → ∃ b o, q = some ⟨b, o, none⟩ ∧ b < w.heap.size ∧ w.cell? ⟨b, o + i, none⟩ = some (F s) := by
  obtain ⟨q, cap, h1, h2, h3, h4, h5⟩ := h
  refine ⟨q, cap, h1, h2, h3, fun i s hs => ?_⟩
  obtain ⟨b, o, h6, h7, h8⟩ := h5 (by have := (List.getElem?_eq_some_iff.1 hs).1; omega)
  exact ⟨b, o, h6, h7, h8 i _ (by rw [List.getElem?_map, hs]; rfl)⟩
theorem FlS.open {w : World} {v : Value} {l : List Fee.Fl} (h : FlS w v l) : ∃ q cap, v = .slice q l.length cap ∧ l.length ≤ cap ∧ cap ≤ 9223372036854775807 ∧
    ∀ (i : Nat) f, l[i]? = some f → ∃ b o qs cs, q = some ⟨b, o, none⟩ ∧ b < w.heap.size ∧ w.cell? ⟨b, o + i * 2, none⟩ = some (.string f.name) ∧ w.cell? ⟨b, o + i * 2 + 1, none⟩ = some (.slice qs f.data.length cs) ∧ f.data.length ≤ cs ∧ cs ≤ 9223372036854775807 ∧ Rd8 w (.slice qs f.data.length cs) f.data := by
  obtain ⟨us, hus, ⟨q, cap, h1, h2, h3, h4, h5⟩, hr, hw⟩ := h
  refine ⟨q, cap, h1, h2, h3, fun i f hf => ?_⟩
  have hi : i < l.length := (List.getElem?_eq_some_iff.1 hf).1
  obtain ⟨b, o, h6, h7, h8⟩ := h5 (by omega)
  have hu : us[i]? = some us[i] := List.getElem?_eq_getElem (by omega)
  have hz : (l.zip us)[i]? = some (f, us[i]) := by rw [List.getElem?_zip_eq_some]; exact ⟨hf, hu⟩
  have c : ∀ j u, (Fee.flC f us[i])[j]? = some u → w.cell? ⟨b, o + i * 2 + j, none⟩ = some u := fun j u hj => by
    rw [Nat.add_assoc]
    exact h8 _ u (by unfold Fee.cells; rw [chunk (fun p : Fee.Fl × Value => Fee.flC p.1 p.2) 2 (fun _ => rfl) (l.zip us) i (f, us[i]) j hz (List.getElem?_eq_some_iff.1 hj).1]; exact hj)
  have hR := hr i f _ hf hu
  obtain ⟨qs, cs, e, e1, e2, _⟩ := hR.open
  rw [e] at hR
  exact ⟨b, o, qs, cs, h6, h7, c 0 _ rfl, by rw [← e]; exact c 1 _ rfl, e1, e2, hR⟩
theorem ret_bool {a b : Bool} {w w' : World} (h : a = b) (g : Bw w w') : Ending.returned (.bool a) = .returned (.bool b) ∧ Bw w w' := ⟨by rw [h], g⟩
theorem dropAt {α : Type} {l : List α} {k : Nat} (h : k < l.length) : ∃ s, l[k]? = some s ∧ l.drop k = s :: l.drop (k + 1) := ⟨l[k], List.getElem?_eq_getElem h, List.drop_eq_getElem_cons h⟩
end Go.Proofs.Ytncidjkkngbclaa
namespace Go.Proofs.Ytncidjkkngbclaa
open Go.ChangeShapes Go.WideShapes Go.ChangeAt Go.RowKit
open Go.ChangeMaps Go.Deep
set_option linter.unusedVariables false

theorem cells64 : Try.prog.cellsOf 3 = 1 := by kernel_rfl
theorem cells32 : Try.prog.cellsOf 84 = 1 := by kernel_rfl
theorem cells8 : Try.prog.cellsOf 5 = 1 := by kernel_rfl
theorem cellsT : Try.prog.cellsOf 9 = 1 := by kernel_rfl
theorem fldAt {fs : Array Field} {L : List (TypeId × Nat)} (h : fs.toList.map (fun f => (f.type, f.offset)) = L) (i : Nat) (t : TypeId) (o : Nat) (hi : L[i]? = some (t, o)) : ∃ f : Field, fs[i]? = some f ∧ f.type = t ∧ f.offset = o := by
  rw [← h, List.getElem?_map] at hi
  obtain ⟨f, h1, h2⟩ := Option.map_eq_some_iff.1 hi
  simp only [Prod.mk.injEq] at h2
  exact ⟨f, by simpa using h1, h2.1, h2.2⟩
theorem cellsFile : Try.prog.cellsOf 63 = 2 := by kernel_rfl
theorem cellsFeed : Try.prog.cellsOf 28 = 6 := by kernel_rfl
theorem cellsS1 : Try.prog.cellsOf 22 = 1 := by kernel_rfl
theorem cellsS2 : Try.prog.cellsOf 23 = 1 := by kernel_rfl
theorem cellsS3 : Try.prog.cellsOf 24 = 1 := by kernel_rfl
theorem cellsS4 : Try.prog.cellsOf 25 = 1 := by kernel_rfl
theorem cellsS5 : Try.prog.cellsOf 26 = 1 := by kernel_rfl
theorem fileFs : ∃ fs, Try.prog.underlying 63 = some (.struct fs) ∧ fs.toList.map (fun f => (f.type, f.offset)) = [(9, 0), (23, 1)] := ⟨_, Try.underlying63, rfl⟩
theorem feedFs : ∃ fs, Try.prog.underlying 28 = some (.struct fs) ∧ fs.toList.map (fun f => (f.type, f.offset)) = [(22, 0), (23, 1), (24, 2), (23, 3), (25, 4), (26, 5)] := ⟨_, Try.underlying28, rfl⟩
section
variable {H : Type} {enc : TypeId × Value → H} {W : World}
theorem open_b8 {fuel : Nat} {cs : List Value} {x : DataW H × List MemPlace} (hf : DataW.trod enc Try.prog W 0 (fun _ => true) true fuel 23 cs = some x) (hlt : ∀ y ∈ x.2, y.block < W.heap.size) : ∃ v l, cs = [v] ∧ Rd8 W v l ∧ B8s l := by
  rcases open_ints Try.underlying23 Try.underlying5 cells8 hf with ⟨hcs, hx⟩ | ⟨a', len', cap', zs, hcs, _, hl, hm, hz, hx, hcell, hwz⟩
  · exact ⟨_, [], hcs, RdR.nil _ _, fun x hx => by simp at hx⟩
  · simp only [if_true] at hz
    have hb : ∀ i, B8 (zs.getD i 0) := fun i => by
      by_cases hi : i < zs.length
      · have hm : zs.getD i 0 ∈ zs := by simp [List.getD, List.getElem?_eq_getElem hi]
        have := bounds_u8 (hwz _ hm)
        exact ⟨by omega, by omega⟩
      · simp [List.getD, List.getElem?_eq_none (Nat.le_of_not_lt hi)]; exact ⟨by decide, by decide⟩
    refine ⟨_, (List.range len').map fun i => zs.getD i 0, hcs, ⟨some a', cap', by simp, by simpa using hl, by unfold maxLen at hm; omega, by simp [ints8], fun h0 => ?_⟩, fun x hx => ?_⟩
    · simp at h0
      obtain ⟨b, off, spot⟩ := a'
      have hspot : spot = none := by simpa [Addr.add] using World.cell?_spot (hcell 0 (by omega))
      subst hspot
      subst hx
      refine ⟨b, off, rfl, hlt (.cell b off) (MemPlace.mem_row.2 ⟨0, by omega, by simp⟩), fun j u hu => ?_⟩
      simp only [ints8, List.map_map, List.getElem?_map, Option.map_eq_some_iff] at hu
      obtain ⟨k, hk, rfl⟩ := hu
      have hkl := (List.getElem?_eq_some_iff.1 hk).1
      simp at hkl
      rw [List.getElem?_range hkl] at hk
      simp at hk
      subst hk
      have := hcell j (by omega)
      rw [Addr.add_lit] at this
      exact this
    · simp at hx
      obtain ⟨i, _, rfl⟩ := hx
      exact hb i
theorem row_of {α : Type} (f : α → List Value) (sz : Nat) (hsz : ∀ x, (f x).length = sz) (F : Nat → α) (b o n : Nat) (h : ∀ i, i < n → ∀ j u, (f (F i))[j]? = some u → W.cell? ⟨b, o + i * sz + j, none⟩ = some u) :
    ∀ j u, (((List.range n).map F).flatMap f)[j]? = some u → W.cell? ⟨b, o + j, none⟩ = some u := fun j u hu => by
  have hl : j < n * sz := by
    have := (List.getElem?_eq_some_iff.1 hu).1
    rw [chunk_len f sz hsz] at this
    simpa using this
  have hs0 : 0 < sz := Nat.pos_of_ne_zero (fun h0 => by rw [h0] at hl; simp at hl)
  have hi : j / sz < n := Nat.div_lt_of_lt_mul (by rw [Nat.mul_comm]; exact hl)
  have hj : j % sz < sz := Nat.mod_lt _ hs0
  have e : j = j / sz * sz + j % sz := by rw [Nat.mul_comm]; exact (Nat.div_add_mod j sz).symm
  have hg : ((List.range n).map F)[j / sz]? = some (F (j / sz)) := by rw [List.getElem?_map, List.getElem?_range hi]; rfl
  rw [e, chunk f sz hsz _ _ (F (j / sz)) _ hg hj] at hu
  have := h (j / sz) hi (j % sz) u hu
  rwa [Nat.add_assoc, ← e] at this
/-- A slice of one-cell elements, from its cells. -/
theorem rd_of {α : Type} (F : α → Value) (g : Nat → α) (a' : Addr) (len cap : Nat) (hl : len ≤ cap) (hm : cap ≤ maxLen) (hcell : ∀ i, i < len → W.cell? (a'.add i) = some (F (g i))) (hlt : 0 < len → a'.block < W.heap.size) :
    RdR 1 W (.slice (some a') len cap) ((List.range len).map g).length (((List.range len).map g).map F) := by
  refine ⟨some a', cap, by simp, by simpa using hl, by unfold maxLen at hm; omega, by simp, fun h0 => ?_⟩
  simp at h0
  have hb := hlt h0
  obtain ⟨b, off, spot⟩ := a'
  have hspot : spot = none := by simpa [Addr.add] using World.cell?_spot (hcell 0 (by omega))
  subst hspot
  refine ⟨b, off, rfl, hb, fun j u hu => ?_⟩
  simp only [List.map_map, List.getElem?_map, Option.map_eq_some_iff] at hu
  obtain ⟨k, hk, rfl⟩ := hu
  have hkl := (List.getElem?_eq_some_iff.1 hk).1
  simp at hkl
  rw [List.getElem?_range hkl] at hk
  simp at hk
  subst hk
  have := hcell j (by omega)
  rw [Addr.add_lit] at this
  exact this
theorem open_kz {t e : TypeId} {kd : IntKind} (ht : Try.prog.underlying t = some (.slice e)) (he : Try.prog.underlying e = some (.int kd)) (hc : Try.prog.cellsOf e = 1) {fuel : Nat} {cs : List Value} {x : DataW H × List MemPlace} (hf : DataW.trod enc Try.prog W 0 (fun _ => true) true fuel t cs = some x) (hlt : ∀ y ∈ x.2, y.block < W.heap.size) :
    ∃ v, ∃ l : List Int, cs = [v] ∧ RdR 1 W v l.length (l.map (Value.int kd)) ∧ ∀ n ∈ l, (Lit.int kd n).wf = true := by
  rcases open_ints ht he hc hf with ⟨hcs, hx⟩ | ⟨a', len', cap', zs, hcs, _, hl, hm, hz, hx, hcell, hwz⟩
  · exact ⟨_, [], hcs, RdR.nil _ _, fun x hx => by simp at hx⟩
  · simp only [if_true] at hz
    subst hx
    refine ⟨_, (List.range len').map fun i => zs.getD i 0, hcs, rd_of (Value.int kd) (fun i => zs.getD i 0) a' len' cap' hl hm (fun i hi => hcell i (by omega)) (fun h0 => hlt (.cell a'.block a'.off) (MemPlace.mem_row.2 ⟨0, by omega, by simp⟩)), fun n hn => ?_⟩
    simp only [List.mem_map, List.mem_range] at hn
    obtain ⟨i, hi, rfl⟩ := hn
    have hi2 : i < zs.length := by omega
    exact hwz _ (by simp [List.getD, List.getElem?_eq_getElem hi2])
def NsArg (W : World) (v : Value) : Prop := ∃ l, NsS W v l ∧ ∀ n ∈ l, -9223372036854775808 ≤ n ∧ n ≤ 9223372036854775807
theorem open_ns {base : Nat} {v : Value} {d : DataW H} {p : List MemPlace} (hv : Value.okWide Try.prog W .any base 24 v) (h : DataW.Trod enc Try.prog W 0 (fun _ => true) true 24 v d p) (hlt : ∀ x ∈ p, x.block < W.heap.size) : NsArg W v := by
  obtain ⟨a, len, cap, rfl⟩ := okWide_slice Try.underlying24 hv
  obtain ⟨fuel, hf⟩ := h
  obtain ⟨v', l, hc, h1, h2⟩ := open_kz Try.underlying24 Try.underlying3 cells64 hf hlt
  simp [Value.cells] at hc
  subst hc
  exact ⟨l, h1, fun n hn => by have := bounds_i64 (h2 n hn); omega⟩
def B8Arg (W : World) (v : Value) : Prop := ∃ l, Rd8 W v l ∧ B8s l
theorem open_bs {base : Nat} {v : Value} {d : DataW H} {p : List MemPlace} (hv : Value.okWide Try.prog W .any base 23 v) (h : DataW.Trod enc Try.prog W 0 (fun _ => true) true 23 v d p) (hlt : ∀ x ∈ p, x.block < W.heap.size) : B8Arg W v := by
  obtain ⟨a, len, cap, rfl⟩ := okWide_slice Try.underlying23 hv
  obtain ⟨fuel, hf⟩ := h
  obtain ⟨v', l, hc, h1, h2⟩ := open_b8 hf hlt
  simp [Value.cells] at hc
  subst hc
  exact ⟨l, h1, h2⟩
theorem open_txt {fuel : Nat} {cs : List Value} {x : DataW H × List MemPlace} (hf : DataW.trod enc Try.prog W 0 (fun _ => true) true fuel 22 cs = some x) (hlt : ∀ y ∈ x.2, y.block < W.heap.size) : ∃ v l, cs = [v] ∧ TxS W v l := by
  rcases open_strs Try.underlying22 Try.underlying9 cellsT hf with ⟨hcs, hx⟩ | ⟨a', len', cap', m, Sx, hcs, _, hl, hm, hmm, hx, hcell⟩
  · exact ⟨_, [], hcs, RdR.nil _ _⟩
  · simp only [if_true] at hmm
    subst hx
    exact ⟨_, (List.range len').map Sx, hcs, rd_of Value.string Sx a' len' cap' hl hm (fun i hi => (hcell i (by omega)).1) (fun h0 => hlt (.cell a'.block a'.off) (MemPlace.mem_row.2 ⟨0, by omega, by simp⟩))⟩
set_option maxRecDepth 100000 in
theorem file_cells {fuel : Nat} {cs : List Value} {x : DataW H × List MemPlace} (h : DataW.trod enc Try.prog W 0 (fun _ => true) true fuel 63 cs = some x) (hlt : ∀ y ∈ x.2, y.block < W.heap.size) : ∃ (f : Fee.Fl) (u : Value), B8s f.data ∧ Rd8 W u f.data ∧ cs = Fee.flC f u := by
  obtain ⟨fs, hfs, hfm⟩ := fileFs
  obtain ⟨xs, k, hk, hxy, hl, hxl, hff⟩ := DataW.trod_struct hfs h
  rw [cellsFile] at hl
  match cs, hl, hff with
  | [v0, v1], _, hff =>
    have fsz : fs.size = 2 := by have := congrArg List.length hfm; simpa using this
    rw [fsz] at hxl
    match xs, hxl, hxy, hff with
    | [y0, y1], _, hxy, hff =>
      obtain ⟨f0, e0, t0, o0⟩ := fldAt hfm 0 _ _ rfl
      obtain ⟨f1, e1, t1, o1⟩ := fldAt hfm 1 _ _ rfl
      have g0 := hff 0 f0 e0
      have g1 := hff 1 f1 e1
      rw [t0, o0, cellsT] at g0
      rw [t1, o1, cellsS2] at g1
      (try simp at g0); (try simp at g1)
      obtain ⟨s0, q0, _, _⟩ := DataW.trod_string Try.underlying9 g0
      obtain ⟨u1, l1, q1, hR, hb⟩ := open_b8 g1 (fun y hy => hlt y (by rw [hxy]; simp [hy]))
      (try simp at q0); (try simp at q1)
      subst q0 q1
      exact ⟨⟨s0, l1⟩, v1, hb, hR, rfl⟩
set_option maxRecDepth 100000 in
theorem open_files {fuel : Nat} {cs : List Value} {x : DataW H × List MemPlace} (hf : DataW.trod enc Try.prog W 0 (fun _ => true) true fuel 26 cs = some x) (hlt : ∀ y ∈ x.2, y.block < W.heap.size) : ∃ v l, cs = [v] ∧ FlS W v l := by
  rcases open_slice Try.underlying26 hf with ⟨hcs, hx⟩ | ⟨a', len', cap', m, n, D, Pl, hcs, _, hl, hm, hmm, hx, hel⟩
  · exact ⟨_, [], hcs, FlS.nil _⟩
  · simp only [if_true] at hmm
    subst hx
    have each : ∀ i, ∃ s : Fee.Fl × Value, i < len' → B8s s.1.data ∧ Rd8 W s.2 s.1.data ∧ W.cells? 0 (a'.add (i * 2)) 2 = some (Fee.flC s.1 s.2) := fun i => by
      by_cases hi : i < len'
      · obtain ⟨cs', h1, h2⟩ := hel i (by omega)
        rw [cellsFile] at h1
        obtain ⟨s, u, hs, hu, rfl⟩ := file_cells h2 (fun y hy => hlt y (List.mem_append.2 (.inr (List.mem_flatMap.2 ⟨i, by simp; omega, hy⟩))))
        exact ⟨(s, u), fun _ => ⟨hs, hu, h1⟩⟩
      · exact ⟨(⟨⟨#[]⟩, []⟩, .slice none 0 0), fun h => absurd h hi⟩
    obtain ⟨F, hF⟩ := Classical.axiomOfChoice each
    obtain ⟨b, off, spot⟩ := a'
    have hcells : Fee.cells ((List.range len').map fun i => (F i).1) ((List.range len').map fun i => (F i).2) = ((List.range len').map F).flatMap (fun p : Fee.Fl × Value => Fee.flC p.1 p.2) := by
      unfold Fee.cells; rw [List.zip_map']
    have hln : ((List.range len').map fun i => (F i).1).length = len' := by simp
    refine ⟨_, (List.range len').map fun i => (F i).1, hcs, ⟨(List.range len').map fun i => (F i).2, by simp, ⟨some ⟨b, off, spot⟩, cap', by rw [hln], by simpa using hl, by unfold maxLen at hm; omega, by rw [hcells, chunk_len (fun p : Fee.Fl × Value => Fee.flC p.1 p.2) 2 (fun _ => rfl)]; simp, fun h0 => ?_⟩, fun i s u hs hu => ?_, fun s hs => ?_⟩⟩
    · simp at h0
      have hcell : ∀ i, i < len' → ∀ j u, (Fee.flC (F i).1 (F i).2)[j]? = some u → W.cell? (((⟨b, off, spot⟩ : Addr).add (i * 2)).add j) = some u := fun i hi j u hu => by
        obtain ⟨_, hlen, hc⟩ := World.cells?_some (hF i hi).2.2
        have hj := (List.getElem?_eq_some_iff.1 hu)
        have := hc j (by have := hj.1; simp [Fee.flC] at this; omega)
        have h9 : W.cell? (((⟨b, off, spot⟩ : Addr).add (i * 2)).add j) = (Fee.flC (F i).1 (F i).2)[j]? := by simpa using this
        exact h9.trans hu
      have hspot : spot = none := by
        have := hcell 0 h0 0 _ rfl
        simpa [Addr.add] using World.cell?_spot this
      subst hspot
      rw [hcells]
      refine ⟨b, off, rfl, hlt (.cell b off) (List.mem_append.2 (.inl (MemPlace.mem_row.2 ⟨0, by rw [cellsFile]; omega, by simp⟩))), row_of (fun p : Fee.Fl × Value => Fee.flC p.1 p.2) 2 (fun _ => rfl) F b off len' (fun i hi j u hu => ?_)⟩
      have := hcell i hi j u hu
      simpa only [Addr.add_lit] using this
    · have hi : i < len' := by have := (List.getElem?_eq_some_iff.1 hs).1; simpa using this
      rw [List.getElem?_map, List.getElem?_range hi] at hs hu
      simp at hs hu
      subst hs hu
      exact (hF i hi).2.1
    · simp at hs
      obtain ⟨i, hi, rfl⟩ := hs
      exact (hF i hi).1
def FdArg (W : World) (v : Value) : Prop := ∃ f, IsFd W v f
set_option maxRecDepth 100000 in
theorem open_fd {base : Nat} {v : Value} {d : DataW H} {p : List MemPlace} (hv : Value.okWide Try.prog W .any base 28 v) (h : DataW.Trod enc Try.prog W 0 (fun _ => true) true 28 v d p) (hlt : ∀ x ∈ p, x.block < W.heap.size) : FdArg W v := by
  obtain ⟨cs, rfl, hsz, _⟩ : ∃ cs, v = .agg cs ∧ cs.size = Try.prog.cellsOf 28 ∧ Row.okWide Try.prog W .any base 28 cs := by
    simpa [Value.okWide, Try.underlying28] using hv
  rw [cellsFeed] at hsz
  obtain ⟨l⟩ := cs
  obtain ⟨fuel, hf⟩ := h
  obtain ⟨fs, hfs, hfm⟩ := feedFs
  obtain ⟨xs, k, hk, hxy, hl, hxl, hff⟩ := DataW.trod_struct hfs hf
  have fsz : fs.size = 6 := by have := congrArg List.length hfm; simpa using this
  rw [fsz] at hxl
  match l, hsz, hff with
  | [v0, v1, v2, v3, v4, v5], _, hff =>
    match xs, hxl, hxy, hff with
    | [y0, y1, y2, y3, y4, y5], _, hxy, hff =>
      obtain ⟨f0, e0, t0, o0⟩ := fldAt hfm 0 _ _ rfl
      obtain ⟨f1, e1, t1, o1⟩ := fldAt hfm 1 _ _ rfl
      obtain ⟨f2, e2, t2, o2⟩ := fldAt hfm 2 _ _ rfl
      obtain ⟨f3, e3, t3, o3⟩ := fldAt hfm 3 _ _ rfl
      obtain ⟨f4, e4, t4, o4⟩ := fldAt hfm 4 _ _ rfl
      obtain ⟨f5, e5, t5, o5⟩ := fldAt hfm 5 _ _ rfl
      have g0 := hff 0 f0 e0
      have g1 := hff 1 f1 e1
      have g2 := hff 2 f2 e2
      have g3 := hff 3 f3 e3
      have g4 := hff 4 f4 e4
      have g5 := hff 5 f5 e5
      rw [t0, o0, cellsS1] at g0
      rw [t1, o1, cellsS2] at g1
      rw [t2, o2, cellsS3] at g2
      rw [t3, o3, cellsS2] at g3
      rw [t4, o4, cellsS4] at g4
      rw [t5, o5, cellsS5] at g5
      simp [Value.cells] at g0 g1 g2 g3 g4 g5
      simp only [Prod.mk.injEq] at hxy
      obtain ⟨rfl, rfl⟩ := hxy
      obtain ⟨u0, l0, q0, hA⟩ := open_txt g0 (fun y hy => hlt y (by simp [hy]))
      obtain ⟨u1, l1, q1, hI, hI8⟩ := open_b8 g1 (fun y hy => hlt y (by simp [hy]))
      obtain ⟨u2, l2, q2, hS, hSw⟩ := open_kz Try.underlying24 Try.underlying3 cells64 g2 (fun y hy => hlt y (by simp [hy]))
      obtain ⟨u3, l3, q3, hR, hR8⟩ := open_b8 g3 (fun y hy => hlt y (by simp [hy]))
      obtain ⟨u4, l4, q4, hC, hCw⟩ := open_kz Try.underlying25 Try.underlying84 cells32 g4 (fun y hy => hlt y (by simp [hy]))
      obtain ⟨u5, l5, q5, hF⟩ := open_files g5 (fun y hy => hlt y (by simp [hy]))
      simp at q0 q1 q2 q3 q4 q5
      subst q0 q1 q2 q3 q4 q5
      exact ⟨⟨l0, l1, l2, l3, l4, l5⟩, _, _, _, _, _, _, rfl, hA, hI, hS, hR, hC, hF, ⟨hI8, fun n hn => by have := bounds_i64 (hSw n hn); omega, hR8, fun n hn => by have := bounds_u32 (hCw n hn); omega⟩⟩
end
end Go.Proofs.Ytncidjkkngbclaa
namespace Go.Proofs.Ytncidjkkngbclaa
open Go.ChangeShapes Go.WideShapes Go.ChangeAt Go.RowKit

set_option maxHeartbeats 1000000 in
set_option maxRecDepth 100000 in
theorem hasNought_c (s : ByteArray) (w : World) : Calls Try.prog 47 #[.string s] w fun e w' => e = .returned (.bool (Fee.nul s)) ∧ w' = w := by
  go_enter Try.func47, Try.ntmps47
  go_wp2_with fail
  refine (Any.strings_IndexByte Try.lays137 s 0 w).mono ?_
  rintro e w1 ⟨rfl, rfl⟩
  go_wp2_with fail
  go_returns
  exact ⟨rfl, rfl⟩
set_option maxHeartbeats 1000000 in
set_option maxRecDepth 100000 in
theorem argsStand_c (v : Value) (l : List ByteArray) (w : World) (hv : TxS w v l) : Calls Try.prog 43 #[v] w fun e w' => e = .returned (.bool (Fee.argsOk l)) ∧ Bw w w' := by
  obtain ⟨q, cap, rfl, hc1, hc2, hcell⟩ := RdR.at1 hv
  generalize hR : Fee.argsOk l = R
  unfold Fee.argsOk at hR
  by_cases h8 : 16 < l.length
  · rw [decide_eq_false (by omega), Bool.false_and] at hR
    have h8i : (16 : Int) < l.length := by omega
    subst hR
    go_enter Try.func43, Try.ntmps43
    go_wp2_with fail
    go_returns
    exact ⟨rfl, by (repeat' (first | (with_reducible assumption) | (with_reducible exact Bw.refl _) | (with_reducible refine Bw.alloc ?_ _) | (with_reducible refine Bw.drew ?_) | (with_reducible refine Bw.drewN ?_ _) | (with_reducible refine Bw.setCell ?_ ?_ _) | exact Nat.le_refl _))⟩
  rw [decide_eq_true (by omega), Bool.true_and] at hR
  have h8i : (l.length : Int) ≤ 16 := by omega
  have HR : Hid _ := hR
  clear hR hv
  go_enter Try.func43, Try.ntmps43
  go_wp2_with fail
  go_loopg [10] l.length (fun g j wr => ∃ k : Nat, k + g = l.length ∧ j = .int .i64 k ∧ Bw w wr ∧ (l.drop k).all Fee.argOk = R)
  case atStart => exact ⟨0, by omega, rfl, Bw.refl _, HR⟩
  case round =>
    obtain ⟨k, hkg, rfl, hbw, hrun⟩ := hrel
    have HRun : Hid _ := hrun
    clear hrun HR
    by_cases hk : k = l.length
    · subst hk
      have hRe : Hid (true = R) := by rw [List.drop_length] at HRun; exact HRun
      go_wp2_with fail
      go_returns
      exact ret_bool hRe hbw
    · have hkl : k < l.length := by omega
      have hki : (k : Int) < (l.length : Int) := by omega
      obtain ⟨s, hs, hd⟩ := dropAt hkl
      rw [hd, List.all_cons] at HRun
      obtain ⟨b, o, rfl, hb, c0⟩ := hcell k s hs
      replace c0 := hbw.keep c0
      have hN := hasNought_c s
      unfold Fee.argOk at HRun
      clear hd hs
      by_cases h2 : 200 < s.size
      · rw [decide_eq_false (by omega), Bool.false_and, Bool.false_and] at HRun
        have h2i : (200 : Int) < s.size := by omega
        obtain rfl : false = R := HRun
        go_wp2_with fail
        go_returns
        exact ⟨rfl, hbw⟩
      · rw [decide_eq_true (by omega), Bool.true_and] at HRun
        have h2i : (s.size : Int) ≤ 200 := by omega
        cases hnu : Fee.nul s with
        | true =>
          rw [hnu] at HRun hN
          obtain rfl : false = R := HRun
          go_wp2_with (go_at_call 47; refine (hN _).mono ?_; rintro e w2 ⟨rfl, rfl⟩)
          go_returns
          exact ⟨rfl, hbw⟩
        | false =>
          rw [hnu, Bool.not_false, Bool.true_and] at HRun
          rw [hnu] at hN
          go_wp2_with (go_at_call 47; refine (hN _).mono ?_; rintro e w2 ⟨rfl, rfl⟩)
          go_roundg (l.length - (k + 1))
          case measure => omega
          case rel => exact ⟨k + 1, by omega, by simp, hbw, HRun⟩
set_option maxHeartbeats 1000000 in
set_option maxRecDepth 100000 in
theorem shortStands_c (v : Value) (l : List Int) (w : World) (hv : NsS w v l) : Calls Try.prog 44 #[v] w fun e w' => e = .returned (.bool (Fee.shortOk l)) ∧ Bw w w' := by
  obtain ⟨q, cap, rfl, hc1, hc2, hcell⟩ := RdR.at1 hv
  generalize hR : Fee.shortOk l = R
  unfold Fee.shortOk at hR
  by_cases h8 : 64 < l.length
  · rw [decide_eq_false (by omega), Bool.false_and] at hR
    have h8i : (64 : Int) < l.length := by omega
    subst hR
    go_enter Try.func44, Try.ntmps44
    go_wp2_with fail
    go_returns
    exact ⟨rfl, by (repeat' (first | (with_reducible assumption) | (with_reducible exact Bw.refl _) | (with_reducible refine Bw.alloc ?_ _) | (with_reducible refine Bw.drew ?_) | (with_reducible refine Bw.drewN ?_ _) | (with_reducible refine Bw.setCell ?_ ?_ _) | exact Nat.le_refl _))⟩
  rw [decide_eq_true (by omega), Bool.true_and] at hR
  have h8i : (l.length : Int) ≤ 64 := by omega
  have HR : Hid _ := hR
  clear hR hv
  go_enter Try.func44, Try.ntmps44
  go_wp2_with fail
  go_loopg [10] l.length (fun g j wr => ∃ k : Nat, k + g = l.length ∧ j = .int .i64 k ∧ Bw w wr ∧ (l.drop k).all Fee.shOk = R)
  case atStart => exact ⟨0, by omega, rfl, Bw.refl _, HR⟩
  case round =>
    obtain ⟨k, hkg, rfl, hbw, hrun⟩ := hrel
    have HRun : Hid _ := hrun
    clear hrun HR
    by_cases hk : k = l.length
    · subst hk
      have hRe : Hid (true = R) := by rw [List.drop_length] at HRun; exact HRun
      go_wp2_with fail
      go_returns
      exact ret_bool hRe hbw
    · have hkl : k < l.length := by omega
      have hki : (k : Int) < (l.length : Int) := by omega
      obtain ⟨n, hs, hd⟩ := dropAt hkl
      rw [hd, List.all_cons] at HRun
      obtain ⟨b, o, rfl, hb, c0⟩ := hcell k n hs
      replace c0 := hbw.keep c0
      unfold Fee.shOk at HRun
      clear hd hs
      by_cases h2 : n < 0
      · rw [decide_eq_false (by omega), Bool.false_and, Bool.false_and] at HRun
        obtain rfl : false = R := HRun
        go_wp2_with fail
        go_returns
        exact ⟨rfl, hbw⟩
      · rw [decide_eq_true (by omega), Bool.true_and] at HRun
        by_cases h3 : 4096 < n
        · rw [decide_eq_false (by omega), Bool.false_and] at HRun
          obtain rfl : false = R := HRun
          go_wp2_with fail
          go_returns
          exact ⟨rfl, hbw⟩
        · rw [decide_eq_true (by omega), Bool.true_and] at HRun
          go_wp2_with fail
          go_roundg (l.length - (k + 1))
          case measure => omega
          case rel => exact ⟨k + 1, by omega, by simp, hbw, HRun⟩
end Go.Proofs.Ytncidjkkngbclaa
namespace Go.Proofs.Ytncidjkkngbclaa
open Go.ChangeShapes Go.WideShapes Go.ChangeAt Go.RowKit

theorem bytes_empty {s : ByteArray} (h : s.size = 0) : s = ⟨#[]⟩ := by
  cases s with
  | mk d =>
    have : d = #[] := Array.eq_empty_of_size_eq_zero h
    rw [this]
theorem bytes_ne {s : ByteArray} (h : s.size ≠ 0) : s.toList.isEmpty = false := by
  rw [Lib.toList_data]
  cases hs : s.data.toList with
  | nil => exact absurd (by have := congrArg List.length hs; simpa using this) h
  | cons a r => rfl
def Fee.flV (f : Fee.Fl) (u : Value) : Value := .agg #[.string f.name, u]
set_option maxHeartbeats 1000000 in
set_option maxRecDepth 100000 in
theorem fileStands_c (f : Fee.Fl) (q : Option Addr) (cs : Nat) (w : World) : Calls Try.prog 48 #[Fee.flV f (.slice q f.data.length cs)] w fun e w' => e = .returned (.bool (Fee.fileOk f)) ∧ Bw w w' := by
  obtain ⟨s, d⟩ := f
  generalize hR : Fee.fileOk ⟨s, d⟩ = R
  unfold Fee.fileOk at hR
  unfold Fee.flV
  dsimp only at hR ⊢
  generalize d.length = n at *
  by_cases h0 : s.size = 0
  · obtain rfl := bytes_empty h0
    rw [decide_eq_false (by decide), Bool.false_and, Bool.false_and, Bool.false_and] at hR
    subst hR
    clear h0
    go_enter Try.func48, Try.ntmps48
    go_wp2_with fail
    go_returns
    exact ⟨rfl, by (repeat' (first | (with_reducible assumption) | (with_reducible exact Bw.refl _) | (with_reducible refine Bw.alloc ?_ _) | (with_reducible refine Bw.drew ?_) | (with_reducible refine Bw.drewN ?_ _) | (with_reducible refine Bw.setCell ?_ ?_ _) | exact Nat.le_refl _))⟩
  rw [decide_eq_true h0, Bool.true_and] at hR
  have hne := bytes_ne h0
  by_cases h1 : 40 < s.size
  · rw [decide_eq_false (by omega), Bool.false_and, Bool.false_and] at hR
    have h1i : (40 : Int) < s.size := by omega
    subst hR
    go_enter Try.func48, Try.ntmps48
    go_wp2_with fail
    go_returns
    exact ⟨rfl, by (repeat' (first | (with_reducible assumption) | (with_reducible exact Bw.refl _) | (with_reducible refine Bw.alloc ?_ _) | (with_reducible refine Bw.drew ?_) | (with_reducible refine Bw.drewN ?_ _) | (with_reducible refine Bw.setCell ?_ ?_ _) | exact Nat.le_refl _))⟩
  rw [decide_eq_true (by omega), Bool.true_and] at hR
  have h1i : (s.size : Int) ≤ 40 := by omega
  have hN := hasNought_c s
  cases hnu : Fee.nul s with
  | true =>
    rw [hnu] at hN hR
    simp only [Bool.not_true, Bool.false_and] at hR
    subst hR
    go_enter Try.func48, Try.ntmps48
    go_wp2_with (go_at_call 47; refine (hN _).mono ?_; rintro e w2 ⟨rfl, rfl⟩)
    go_returns
    exact ⟨rfl, by (repeat' (first | (with_reducible assumption) | (with_reducible exact Bw.refl _) | (with_reducible refine Bw.alloc ?_ _) | (with_reducible refine Bw.drew ?_) | (with_reducible refine Bw.drewN ?_ _) | (with_reducible refine Bw.setCell ?_ ?_ _) | exact Nat.le_refl _))⟩
  | false =>
    rw [hnu] at hN hR
    simp only [Bool.not_false, Bool.true_and] at hR
    by_cases h2 : n ≤ 4096
    · rw [decide_eq_true h2] at hR
      have h2i : (n : Int) ≤ 4096 := by omega
      subst hR
      go_enter Try.func48, Try.ntmps48
      go_wp2_with (go_at_call 47; refine (hN _).mono ?_; rintro e w2 ⟨rfl, rfl⟩)
      go_returns
      exact ⟨rfl, by (repeat' (first | (with_reducible assumption) | (with_reducible exact Bw.refl _) | (with_reducible refine Bw.alloc ?_ _) | (with_reducible refine Bw.drew ?_) | (with_reducible refine Bw.drewN ?_ _) | (with_reducible refine Bw.setCell ?_ ?_ _) | exact Nat.le_refl _))⟩
    · rw [decide_eq_false h2] at hR
      have h2i : decide ((n : Int) ≤ 4096) = false := decide_eq_false (by omega)
      subst hR
      go_enter Try.func48, Try.ntmps48
      go_wp2_with (go_at_call 47; refine (hN _).mono ?_; rintro e w2 ⟨rfl, rfl⟩)
      go_returns
      exact ⟨rfl, by (repeat' (first | (with_reducible assumption) | (with_reducible exact Bw.refl _) | (with_reducible refine Bw.alloc ?_ _) | (with_reducible refine Bw.drew ?_) | (with_reducible refine Bw.drewN ?_ _) | (with_reducible refine Bw.setCell ?_ ?_ _) | exact Nat.le_refl _))⟩
set_option maxHeartbeats 1000000 in
set_option maxRecDepth 100000 in
theorem hasName_c (v : Value) (l : List Fee.Fl) (s : ByteArray) (w : World) (hv : FlS w v l) : Calls Try.prog 49 #[v, .string s] w fun e w' => e = .returned (.bool (Fee.has l s)) ∧ Bw w w' := by
  obtain ⟨q, cap, rfl, hc1, hc2, hcell⟩ := hv.open
  generalize hR : Fee.has l s = R
  have HR : Hid _ := hR
  clear hR hv
  go_enter Try.func49, Try.ntmps49
  go_wp2_with fail
  go_loopg [9] l.length (fun g j wr => ∃ k : Nat, k + g = l.length ∧ j = .int .i64 k ∧ Bw w wr ∧ Fee.has (l.drop k) s = R)
  case atStart => exact ⟨0, by omega, rfl, Bw.refl _, HR⟩
  case round =>
    obtain ⟨k, hkg, rfl, hbw, hrun⟩ := hrel
    have HRun : Hid _ := hrun
    clear hrun HR
    by_cases hk : k = l.length
    · subst hk
      have hRe : Hid (false = R) := by rw [List.drop_length] at HRun; exact HRun
      go_wp2_with fail
      go_returns
      exact ret_bool hRe hbw
    · have hkl : k < l.length := by omega
      have hki : (k : Int) < (l.length : Int) := by omega
      obtain ⟨f, hs, hd⟩ := dropAt hkl
      obtain ⟨b, o, qs, cs, rfl, hb, c0, c1, -, -, -⟩ := hcell k f hs
      replace c0 := hbw.keep c0
      replace c1 := hbw.keep c1
      have HRun2 : Hid ((f.name.toList == s.toList || Fee.has (l.drop (k + 1)) s) = R) := by
        have h := (show _ = R from HRun)
        rw [hd] at h
        exact h
      clear hd hs HRun
      cases hnu : f.name.toList == s.toList with
      | true =>
        rw [hnu, Bool.true_or] at HRun2
        go_wp2_with fail
        go_returns
        exact ret_bool HRun2 (hbw.alloc _)
      | false =>
        rw [hnu, Bool.false_or] at HRun2
        go_wp2_with fail
        go_roundg (l.length - (k + 1))
        case measure => omega
        case rel => exact ⟨k + 1, by omega, by simp, hbw.alloc _, HRun2⟩
theorem FlS.take {w : World} {q : Option Addr} {cap : Nat} {l : List Fee.Fl} (h : FlS w (.slice q l.length cap) l) {k : Nat} (hk : k ≤ l.length) : FlS w (.slice q k cap) (l.take k) := by
  obtain ⟨us, h1, ⟨q', cap', e, h2, h3, h4, h5⟩, h6, h7⟩ := h
  simp at e
  obtain ⟨rfl, rfl⟩ := e
  have hcl : (Fee.cells l us).length = l.length * 2 := by
    unfold Fee.cells
    rw [chunk_len (fun p : Fee.Fl × Value => Fee.flC p.1 p.2) 2 (fun _ => rfl)]
    simp [h1]
  have hct : Fee.cells (l.take k) (us.take k) = (Fee.cells l us).take (k * 2) := by
    unfold Fee.cells
    rw [show (l.take k).zip (us.take k) = (l.zip us).take k by simp only [List.zip, List.take_zipWith]]
    generalize l.zip us = z
    clear h1 h2 h3 h4 h5 h6 h7 hk hcl
    induction z generalizing k with
    | nil => simp
    | cons a r ih =>
      cases k with
      | zero => simp
      | succ k =>
        rw [List.take_succ_cons, List.flatMap_cons, List.flatMap_cons, ih, show (k + 1) * 2 = (Fee.flC a.1 a.2).length + k * 2 by simp [Fee.flC]; omega, List.take_length_add_append]
  refine ⟨us.take k, by simp [h1], ⟨q, cap, by rw [List.length_take, Nat.min_eq_left hk], by rw [List.length_take]; omega, h3, by rw [hct, List.length_take, List.length_take, hcl]; omega, fun h0 => ?_⟩, fun i f u a b => ?_, fun f hf => h7 f (List.mem_of_mem_take hf)⟩
  · rw [List.length_take] at h0
    obtain ⟨b, o, e1, e2, e3⟩ := h5 (by omega)
    refine ⟨b, o, e1, e2, fun j u hu => e3 j u ?_⟩
    rw [hct, List.getElem?_take] at hu
    split at hu
    · exact hu
    · simp at hu
  · rw [List.getElem?_take] at a b
    split at a
    · rename_i hik
      rw [if_pos hik] at b
      exact h6 i f u a b
    · simp at a
set_option maxHeartbeats 2000000 in
set_option maxRecDepth 100000 in
theorem filesStand_c (v : Value) (l : List Fee.Fl) (w : World) (hv : FlS w v l) : Calls Try.prog 45 #[v] w fun e w' => e = .returned (.bool (Fee.filesOk l)) ∧ Bw w w' := by
  have hT := hv
  obtain ⟨q, cap, rfl, hc1, hc2, hcell⟩ := hv.open
  generalize hR : Fee.filesOk l = R
  unfold Fee.filesOk at hR
  by_cases h8 : 8 < l.length
  · rw [decide_eq_false (by omega), Bool.false_and] at hR
    have h8i : (8 : Int) < l.length := by omega
    subst hR
    go_enter Try.func45, Try.ntmps45
    go_wp2_with fail
    go_returns
    exact ⟨rfl, by (repeat' (first | (with_reducible assumption) | (with_reducible exact Bw.refl _) | (with_reducible refine Bw.alloc ?_ _) | (with_reducible refine Bw.drew ?_) | (with_reducible refine Bw.drewN ?_ _) | (with_reducible refine Bw.setCell ?_ ?_ _) | exact Nat.le_refl _))⟩
  rw [decide_eq_true (by omega), Bool.true_and] at hR
  have h8i : (l.length : Int) ≤ 8 := by omega
  have hHas : ∀ w1, Bw w w1 → ∀ k, k ≤ l.length → ∀ s, Calls Try.prog 49 #[.slice q k cap, .string s] w1 fun e w' => e = .returned (.bool (Fee.has (l.take k) s)) ∧ Bw w1 w' := fun w1 g k hk s => hasName_c _ _ s w1 ((hT.take hk).bw g)
  have HR : Hid _ := hR
  clear hR hv hT
  go_enter Try.func45, Try.ntmps45
  go_wp2_with fail
  go_loopg [10] l.length (fun g j wr => ∃ k : Nat, k + g = l.length ∧ j = .int .i64 k ∧ Bw w wr ∧ Fee.filesFrom l k (l.drop k) = R)
  case atStart => exact ⟨0, by omega, rfl, Bw.refl _, HR⟩
  case round =>
    obtain ⟨k, hkg, rfl, hbw, hrun⟩ := hrel
    have HRun : Hid _ := hrun
    clear hrun HR
    by_cases hk : k = l.length
    · subst hk
      have hRe : Hid (true = R) := by rw [List.drop_length] at HRun; exact HRun
      go_wp2_with fail
      go_returns
      exact ret_bool hRe hbw
    · have hkl : k < l.length := by omega
      have hki : (k : Int) < (l.length : Int) := by omega
      have hkc : (k : Int) ≤ (cap : Int) := by omega
      obtain ⟨f, hs, hd⟩ := dropAt hkl
      have hH := fun w1 g => hHas w1 g k (by omega) f.name
      obtain ⟨b, o, qs, cs, rfl, hb, c0, c1, -, -, -⟩ := hcell k f hs
      have HRun2 : Hid ((Fee.fileOk f && !Fee.has (l.take k) f.name && Fee.filesFrom l (k + 1) (l.drop (k + 1))) = R) := by
        have h := (show _ = R from HRun)
        rw [hd] at h
        exact h
      have hF := fileStands_c f qs cs
      unfold Fee.flV at hF
      clear hd hs HRun hcell hHas
      replace c0 := hbw.keep c0
      replace c1 := hbw.keep c1
      cases hok : Fee.fileOk f with
      | false =>
        rw [hok] at hF HRun2
        simp only [Bool.false_and] at HRun2
        go_wp2_with fail
        obtain ⟨wB, hwB, hbB, hBx⟩ : ∃ wB, wr.alloc (.cells #[.string f.name, .slice qs f.data.length cs] 63) = wB ∧ Bw w wB ∧ Box wB wr.heap.size [.string f.name, .slice qs f.data.length cs] := ⟨_, rfl, hbw.alloc _, Box.new wr _ _⟩
        rw [hwB]
        clear hwB hbw c0 c1
        generalize wr.heap.size = fb at *
        have hB : Bw wB wB.drew := (Bw.refl wB).drew
        have hHold : ∀ X, Bw wB X → (X.cell? ⟨fb, 0, none⟩ = some (.string f.name) ∧ X.cell? ⟨fb, 1, none⟩ = some (.slice qs f.data.length cs)) := fun X g => ⟨g.keep (hBx.c 0 _ rfl), g.keep (hBx.c 1 _ rfl)⟩
        refine wp_region_held_drew (S := fun X => X.cell? ⟨fb, 0, none⟩ = some (.string f.name) ∧ X.cell? ⟨fb, 1, none⟩ = some (.slice qs f.data.length cs)) (by kernel_rfl) (hHold _ hB) (fun hHeld => ?_)
        refine wpAnyH_take (i := 0) (oi := ⟨some 15, _, _, _, _, _⟩) (v := ?_) rfl (by kernel_rfl) (by kernel_rfl) (by kernel_rfl) (fun _ _ _ h => h) (Or.inl ⟨by rfl, ?_⟩) (by assumption) ?_; (rotate_left 1); (focus (intro wz hSw; (try dsimp only at hSw); go_simp; try (with_reducible rfl))); simp only [Act.put, List.setIfInBounds_toArray, List.set_cons_zero, List.set_cons_succ]
        refine wpAnyH_ready (rs := [1]) (by kernel_rfl) (by simp) ?_; refine AllReadyH.cons rfl (fun K hK => ?_) AllReadyH.nil; go_simp
        refine (hF _).mono ?_
        rintro e w2 ⟨rfl, h2⟩
        replace hB := hB.trans h2
        (try clear hHeld); refine hK.out _ _ ?_ (fun hHeld => ?_)
        · exact hHold _ hB
        refine wpAnyH_take (i := 2) (oi := ⟨some 17, _, _, _, _, _⟩) (v := ?_) rfl (by kernel_rfl) (by kernel_rfl) (by kernel_rfl) (fun _ _ _ h => h) (Or.inl ⟨by rfl, ?_⟩) (by assumption) ?_; (rotate_left 1); (focus (intro wz hSw; (try dsimp only at hSw); go_simp; try (with_reducible rfl))); simp only [Act.put, List.setIfInBounds_toArray, List.set_cons_zero, List.set_cons_succ]
        refine wpAnyH_take (i := 3) (oi := ⟨some 18, _, _, _, _, _⟩) (v := ?_) rfl (by kernel_rfl) (by kernel_rfl) (by kernel_rfl) (fun _ _ _ h => h) (Or.inl ⟨by rfl, ?_⟩) (by assumption) ?_; (rotate_left 1); (focus (intro wz hSw; (try dsimp only at hSw); go_simp; try (with_reducible rfl))); simp only [Act.put, List.setIfInBounds_toArray, List.set_cons_zero, List.set_cons_succ]
        refine wpAnyH_take (i := 4) (oi := ⟨some 19, _, _, _, _, _⟩) (v := undef) rfl (by kernel_rfl) (by kernel_rfl) (by kernel_rfl) (fun _ _ _ h => h) (Or.inr ⟨by rfl, rfl⟩) (by assumption) ?_; simp only [Act.put, List.setIfInBounds_toArray, List.set_cons_zero, List.set_cons_succ]
        refine wpAnyH_take (i := 5) (oi := ⟨some 20, _, _, _, _, _⟩) (v := undef) rfl (by kernel_rfl) (by kernel_rfl) (by kernel_rfl) (fun _ _ _ h => h) (Or.inr ⟨by rfl, rfl⟩) (by assumption) ?_; simp only [Act.put, List.setIfInBounds_toArray, List.set_cons_zero, List.set_cons_succ]
        refine wpAnyH_take (i := 6) (oi := ⟨some 21, _, _, _, _, _⟩) (v := undef) rfl (by kernel_rfl) (by kernel_rfl) (by kernel_rfl) (fun _ _ _ h => h) (Or.inr ⟨by rfl, rfl⟩) (by assumption) ?_; simp only [Act.put, List.setIfInBounds_toArray, List.set_cons_zero, List.set_cons_succ]
        refine wpAnyH_take (i := 7) (oi := ⟨some 22, _, _, _, _, _⟩) (v := undef) rfl (by kernel_rfl) (by kernel_rfl) (by kernel_rfl) (fun _ _ _ h => h) (Or.inr ⟨by rfl, rfl⟩) (by assumption) ?_; simp only [Act.put, List.setIfInBounds_toArray, List.set_cons_zero, List.set_cons_succ]
        refine wpAnyH_take (i := 8) (oi := ⟨some 23, _, _, _, _, _⟩) (v := undef) rfl (by kernel_rfl) (by kernel_rfl) (by kernel_rfl) (fun _ _ _ h => h) (Or.inr ⟨by rfl, rfl⟩) (by assumption) ?_; simp only [Act.put, List.setIfInBounds_toArray, List.set_cons_zero, List.set_cons_succ]
        refine wpAnyH_take (i := 9) (oi := ⟨some 24, _, _, _, _, _⟩) (v := undef) rfl (by kernel_rfl) (by kernel_rfl) (by kernel_rfl) (fun _ _ _ h => h) (Or.inr ⟨by rfl, rfl⟩) (by assumption) ?_; simp only [Act.put, List.setIfInBounds_toArray, List.set_cons_zero, List.set_cons_succ]
        refine wpAnyH_take (i := 10) (oi := ⟨some 25, _, _, _, _, _⟩) (v := ?_) rfl (by kernel_rfl) (by kernel_rfl) (by kernel_rfl) (fun _ _ _ h => h) (Or.inl ⟨by rfl, ?_⟩) (by assumption) ?_; (rotate_left 1); (focus (intro wz hSw; (try dsimp only at hSw); go_simp; try (with_reducible rfl))); simp only [Act.put, List.setIfInBounds_toArray, List.set_cons_zero, List.set_cons_succ]
        refine wpAnyH_done (by kernel_rfl) ?_ _
        go_wp2_with fail
        go_returns
        exact ret_bool HRun2 (hbB.trans hB)
      | true =>
        rw [hok, Bool.true_and] at HRun2
        rw [hok] at hF
        go_wp2_with fail
        obtain ⟨wB, hwB, hbB, hBx⟩ : ∃ wB, wr.alloc (.cells #[.string f.name, .slice qs f.data.length cs] 63) = wB ∧ Bw w wB ∧ Box wB wr.heap.size [.string f.name, .slice qs f.data.length cs] := ⟨_, rfl, hbw.alloc _, Box.new wr _ _⟩
        rw [hwB]
        clear hwB hbw c0 c1
        generalize wr.heap.size = fb at *
        have hB : Bw wB wB.drew := (Bw.refl wB).drew
        have hHold : ∀ X, Bw wB X → (X.cell? ⟨fb, 0, none⟩ = some (.string f.name) ∧ X.cell? ⟨fb, 1, none⟩ = some (.slice qs f.data.length cs)) := fun X g => ⟨g.keep (hBx.c 0 _ rfl), g.keep (hBx.c 1 _ rfl)⟩
        refine wp_region_held_drew (S := fun X => X.cell? ⟨fb, 0, none⟩ = some (.string f.name) ∧ X.cell? ⟨fb, 1, none⟩ = some (.slice qs f.data.length cs)) (by kernel_rfl) (hHold _ hB) (fun hHeld => ?_)
        refine wpAnyH_take (i := 0) (oi := ⟨some 15, _, _, _, _, _⟩) (v := ?_) rfl (by kernel_rfl) (by kernel_rfl) (by kernel_rfl) (fun _ _ _ h => h) (Or.inl ⟨by rfl, ?_⟩) (by assumption) ?_; (rotate_left 1); (focus (intro wz hSw; (try dsimp only at hSw); go_simp; try (with_reducible rfl))); simp only [Act.put, List.setIfInBounds_toArray, List.set_cons_zero, List.set_cons_succ]
        refine wpAnyH_ready (rs := [1]) (by kernel_rfl) (by simp) ?_; refine AllReadyH.cons rfl (fun K hK => ?_) AllReadyH.nil; go_simp
        refine (hF _).mono ?_
        rintro e w2 ⟨rfl, h2⟩
        replace hB := hB.trans h2
        (try clear hHeld); refine hK.out _ _ ?_ (fun hHeld => ?_)
        · exact hHold _ hB
        refine wpAnyH_take (i := 2) (oi := ⟨some 17, _, _, _, _, _⟩) (v := ?_) rfl (by kernel_rfl) (by kernel_rfl) (by kernel_rfl) (fun _ _ _ h => h) (Or.inl ⟨by rfl, ?_⟩) (by assumption) ?_; (rotate_left 1); (focus (intro wz hSw; (try dsimp only at hSw); go_simp; try (with_reducible rfl))); simp only [Act.put, List.setIfInBounds_toArray, List.set_cons_zero, List.set_cons_succ]
        refine wpAnyH_take (i := 3) (oi := ⟨some 18, _, _, _, _, _⟩) (v := ?_) rfl (by kernel_rfl) (by kernel_rfl) (by kernel_rfl) (fun _ _ _ h => h) (Or.inl ⟨by rfl, ?_⟩) (by assumption) ?_; (rotate_left 1); (focus (intro wz hSw; (try dsimp only at hSw); go_simp; try (with_reducible rfl))); simp only [Act.put, List.setIfInBounds_toArray, List.set_cons_zero, List.set_cons_succ]
        refine wpAnyH_take (i := 4) (oi := ⟨some 19, _, _, _, _, _⟩) (v := ?_) rfl (by kernel_rfl) (by kernel_rfl) (by kernel_rfl) (fun _ _ _ h => h) (Or.inl ⟨by rfl, ?_⟩) (by assumption) ?_; (rotate_left 1); (focus (intro wz hSw; (try dsimp only at hSw); go_simp; try (with_reducible rfl))); simp only [Act.put, List.setIfInBounds_toArray, List.set_cons_zero, List.set_cons_succ]
        refine wpAnyH_take (i := 5) (oi := ⟨some 20, _, _, _, _, _⟩) (v := ?_) rfl (by kernel_rfl) (by kernel_rfl) (by kernel_rfl) (fun _ _ _ h => h) (Or.inl ⟨by rfl, ?_⟩) (by assumption) ?_; (rotate_left 1); (focus (intro wz hSw; (try dsimp only at hSw); go_simp; try (with_reducible rfl))); simp only [Act.put, List.setIfInBounds_toArray, List.set_cons_zero, List.set_cons_succ]
        refine wpAnyH_take (i := 6) (oi := ⟨some 21, _, _, _, _, _⟩) (v := ?_) rfl (by kernel_rfl) (by kernel_rfl) (by kernel_rfl) (fun _ _ _ h => h) (Or.inl ⟨by rfl, ?_⟩) (by assumption) ?_; (rotate_left 1); (focus (intro wz hSw; (try dsimp only at hSw); go_simp; try (with_reducible rfl))); simp only [Act.put, List.setIfInBounds_toArray, List.set_cons_zero, List.set_cons_succ]
        refine wpAnyH_take (i := 7) (oi := ⟨some 22, _, _, _, _, _⟩) (v := ?_) rfl (by kernel_rfl) (by kernel_rfl) (by kernel_rfl) (fun _ _ _ h => h) (Or.inl ⟨by rfl, ?_⟩) (by assumption) ?_; (rotate_left 1); (focus (intro wz hSw; (try dsimp only at hSw); go_simp; try (with_reducible rfl))); simp only [Act.put, List.setIfInBounds_toArray, List.set_cons_zero, List.set_cons_succ]
        refine wpAnyH_take (i := 8) (oi := ⟨some 23, _, _, _, _, _⟩) (v := ?_) rfl (by kernel_rfl) (by kernel_rfl) (by kernel_rfl) (fun _ _ _ h => h) (Or.inl ⟨by rfl, ?_⟩) (by assumption) ?_; (rotate_left 1); (focus (intro wz hSw; (try dsimp only at hSw); go_simp; try (with_reducible rfl))); simp only [Act.put, List.setIfInBounds_toArray, List.set_cons_zero, List.set_cons_succ]
        refine wpAnyH_ready (rs := [9]) (by kernel_rfl) (by simp) ?_; refine AllReadyH.cons rfl (fun K hK => ?_) AllReadyH.nil; go_simp
        refine (hH _ (hbB.trans hB)).mono ?_
        rintro e w3 ⟨rfl, h3⟩
        replace hB := hB.trans h3
        (try clear hHeld); refine hK.out _ _ ?_ (fun hHeld => ?_)
        · exact hHold _ hB
        refine wpAnyH_take (i := 10) (oi := ⟨some 25, _, _, _, _, _⟩) (v := ?_) rfl (by kernel_rfl) (by kernel_rfl) (by kernel_rfl) (fun _ _ _ h => h) (Or.inl ⟨by rfl, ?_⟩) (by assumption) ?_; (rotate_left 1); (focus (intro wz hSw; (try dsimp only at hSw); go_simp; try (with_reducible rfl))); simp only [Act.put, List.setIfInBounds_toArray, List.set_cons_zero, List.set_cons_succ]
        refine wpAnyH_done (by kernel_rfl) ?_ _
        cases hha : Fee.has (l.take k) f.name with
        | true =>
          rw [hha] at HRun2
          simp only [Bool.not_true, Bool.false_and] at HRun2
          go_wp2_with fail
          go_returns
          exact ret_bool HRun2 (hbB.trans hB)
        | false =>
          rw [hha] at HRun2
          simp only [Bool.not_false, Bool.true_and] at HRun2
          go_wp2_with fail
          go_roundg (l.length - (k + 1))
          case measure => omega
          case rel => exact ⟨k + 1, by omega, by simp, hbB.trans hB, HRun2⟩
end Go.Proofs.Ytncidjkkngbclaa
namespace Go.Proofs.Ytncidjkkngbclaa
open Go.ChangeShapes Go.WideShapes Go.ChangeAt Go.RowKit

theorem RdR.form {sz n : Nat} {w : World} {v : Value} {cs : List Value} (h : RdR sz w v n cs) : ∃ q c, v = .slice q n c ∧ n ≤ c ∧ c ≤ 9223372036854775807 := by
  obtain ⟨q, c, rfl, h1, h2, _⟩ := h
  exact ⟨q, c, rfl, h1, h2⟩
theorem FlS.form {w : World} {v : Value} {l : List Fee.Fl} (h : FlS w v l) : ∃ q c, v = .slice q l.length c ∧ l.length ≤ c ∧ c ≤ 9223372036854775807 := by
  obtain ⟨us, _, h, _⟩ := h
  exact RdR.form h
set_option maxHeartbeats 2000000 in
set_option maxRecDepth 100000 in
theorem Good_c (v : Value) (f : Fee.Fd) (w : World) (hv : IsFd w v f) : Calls Try.prog 36 #[v] w fun e w' => e = .returned (.bool (Fee.good f)) ∧ Bw w w' := by
  obtain ⟨va, vi, vs, vr, vc, vf, rfl, ha, hi, hs, hr, hc, hf, -⟩ := hv
  obtain ⟨qi, ci, rfl, -⟩ := Rd8.open hi
  obtain ⟨qr, cr, rfl, -⟩ := Rd8.open hr
  obtain ⟨qc, cc, rfl, -⟩ := RdR.form hc
  have hA := fun X (g : Bw w X) => argsStand_c va f.args X (RdR.bw ha g)
  have hS := fun X (g : Bw w X) => shortStands_c vs f.short X (RdR.bw hs g)
  have hF := fun X (g : Bw w X) => filesStand_c vf f.files X (hf.bw g)
  obtain ⟨qa, ca, rfl, -⟩ := RdR.form ha
  obtain ⟨qs, cs, rfl, -⟩ := RdR.form hs
  obtain ⟨qf, cf, rfl, -⟩ := hf.form
  generalize hR : Fee.good f = R
  unfold Fee.good at hR
  clear ha hi hs hr hc hf
  generalize Fee.argsOk f.args = A at *
  generalize Fee.shortOk f.short = S at *
  generalize Fee.filesOk f.files = F at *
  generalize f.args.length = na at *
  generalize f.input.length = ni at *
  generalize f.short.length = ns at *
  generalize f.random.length = nr at *
  generalize f.clock.length = nc at *
  generalize f.files.length = nf at *
  clear f
  obtain ⟨wB, hwB, hbB, hBx⟩ : ∃ wB, w.alloc (.cells #[.slice qa na ca, .slice qi ni ci, .slice qs ns cs, .slice qr nr cr, .slice qc nc cc, .slice qf nf cf] 28) = wB ∧ Bw w wB ∧ Box wB w.heap.size [.slice qa na ca, .slice qi ni ci, .slice qs ns cs, .slice qr nr cr, .slice qc nc cc, .slice qf nf cf] := ⟨_, rfl, (Bw.refl w).alloc _, Box.new w _ _⟩
  have x0 := hBx.c 0 _ rfl; have x1 := hBx.c 1 _ rfl; have x2 := hBx.c 2 _ rfl; have x3 := hBx.c 3 _ rfl; have x4 := hBx.c 4 _ rfl; have x5 := hBx.c 5 _ rfl
  cases A with
  | false =>
    simp only [Bool.false_and] at hR
    subst hR
    go_enter Try.func36, Try.ntmps36
    go_wp2_with (first | (go_at_call 43; refine (hA _ hbB).mono ?_; rintro e w2 ⟨rfl, h2⟩; have y1 := h2.keep x1; have y2 := h2.keep x2; have hS2 := hS _ (hbB.trans h2)) | (go_at_call 44; refine hS2.mono ?_; rintro e w3 ⟨rfl, h3⟩; have z3 := h3.keep (h2.keep x3); have z4 := h3.keep (h2.keep x4); have z5 := h3.keep (h2.keep x5); have hF3 := hF _ ((hbB.trans h2).trans h3)) | (go_at_call 45; refine hF3.mono ?_; rintro e w4 ⟨rfl, h4⟩))
    go_returns
    exact ⟨rfl, hbB.trans h2⟩
  | true =>
    rw [Bool.true_and] at hR
    by_cases hi : ni ≤ 4096
    rotate_left
    · rw [decide_eq_false hi] at hR
      simp only [Bool.false_and] at hR
      have hii : decide ((ni : Int) ≤ 4096) = false := decide_eq_false (by omega)
      clear hi
      subst hR
      go_enter Try.func36, Try.ntmps36
      go_wp2_with (first | (go_at_call 43; refine (hA _ hbB).mono ?_; rintro e w2 ⟨rfl, h2⟩; have y1 := h2.keep x1; have y2 := h2.keep x2; have hS2 := hS _ (hbB.trans h2)) | (go_at_call 44; refine hS2.mono ?_; rintro e w3 ⟨rfl, h3⟩; have z3 := h3.keep (h2.keep x3); have z4 := h3.keep (h2.keep x4); have z5 := h3.keep (h2.keep x5); have hF3 := hF _ ((hbB.trans h2).trans h3)) | (go_at_call 45; refine hF3.mono ?_; rintro e w4 ⟨rfl, h4⟩))
      go_returns
      exact ⟨rfl, hbB.trans h2⟩
    rw [decide_eq_true hi, Bool.true_and] at hR
    have hii : decide ((ni : Int) ≤ 4096) = true := decide_eq_true (by omega)
    clear hi
    cases S with
    | false =>
      simp only [Bool.false_and] at hR
      subst hR
      go_enter Try.func36, Try.ntmps36
      go_wp2_with (first | (go_at_call 43; refine (hA _ hbB).mono ?_; rintro e w2 ⟨rfl, h2⟩; have y1 := h2.keep x1; have y2 := h2.keep x2; have hS2 := hS _ (hbB.trans h2)) | (go_at_call 44; refine hS2.mono ?_; rintro e w3 ⟨rfl, h3⟩; have z3 := h3.keep (h2.keep x3); have z4 := h3.keep (h2.keep x4); have z5 := h3.keep (h2.keep x5); have hF3 := hF _ ((hbB.trans h2).trans h3)) | (go_at_call 45; refine hF3.mono ?_; rintro e w4 ⟨rfl, h4⟩))
      go_returns
      exact ⟨rfl, (hbB.trans h2).trans h3⟩
    | true =>
      rw [Bool.true_and] at hR
      by_cases hr : nr ≤ 4096
      rotate_left
      · rw [decide_eq_false hr] at hR
        simp only [Bool.false_and] at hR
        have hri : decide ((nr : Int) ≤ 4096) = false := decide_eq_false (by omega)
        clear hr
        subst hR
        go_enter Try.func36, Try.ntmps36
        go_wp2_with (first | (go_at_call 43; refine (hA _ hbB).mono ?_; rintro e w2 ⟨rfl, h2⟩; have y1 := h2.keep x1; have y2 := h2.keep x2; have hS2 := hS _ (hbB.trans h2)) | (go_at_call 44; refine hS2.mono ?_; rintro e w3 ⟨rfl, h3⟩; have z3 := h3.keep (h2.keep x3); have z4 := h3.keep (h2.keep x4); have z5 := h3.keep (h2.keep x5); have hF3 := hF _ ((hbB.trans h2).trans h3)) | (go_at_call 45; refine hF3.mono ?_; rintro e w4 ⟨rfl, h4⟩))
        go_returns
        exact ⟨rfl, (hbB.trans h2).trans h3⟩
      rw [decide_eq_true hr, Bool.true_and] at hR
      have hri : decide ((nr : Int) ≤ 4096) = true := decide_eq_true (by omega)
      clear hr
      by_cases hc : nc ≤ 64
      rotate_left
      · rw [decide_eq_false hc] at hR
        simp only [Bool.false_and] at hR
        have hci : decide ((nc : Int) ≤ 64) = false := decide_eq_false (by omega)
        clear hc
        subst hR
        go_enter Try.func36, Try.ntmps36
        go_wp2_with (first | (go_at_call 43; refine (hA _ hbB).mono ?_; rintro e w2 ⟨rfl, h2⟩; have y1 := h2.keep x1; have y2 := h2.keep x2; have hS2 := hS _ (hbB.trans h2)) | (go_at_call 44; refine hS2.mono ?_; rintro e w3 ⟨rfl, h3⟩; have z3 := h3.keep (h2.keep x3); have z4 := h3.keep (h2.keep x4); have z5 := h3.keep (h2.keep x5); have hF3 := hF _ ((hbB.trans h2).trans h3)) | (go_at_call 45; refine hF3.mono ?_; rintro e w4 ⟨rfl, h4⟩))
        go_returns
        exact ⟨rfl, (hbB.trans h2).trans h3⟩
      rw [decide_eq_true hc, Bool.true_and] at hR
      have hci : decide ((nc : Int) ≤ 64) = true := decide_eq_true (by omega)
      clear hc
      subst hR
      go_enter Try.func36, Try.ntmps36
      go_wp2_with (first | (go_at_call 43; refine (hA _ hbB).mono ?_; rintro e w2 ⟨rfl, h2⟩; have y1 := h2.keep x1; have y2 := h2.keep x2; have hS2 := hS _ (hbB.trans h2)) | (go_at_call 44; refine hS2.mono ?_; rintro e w3 ⟨rfl, h3⟩; have z3 := h3.keep (h2.keep x3); have z4 := h3.keep (h2.keep x4); have z5 := h3.keep (h2.keep x5); have hF3 := hF _ ((hbB.trans h2).trans h3)) | (go_at_call 45; refine hF3.mono ?_; rintro e w4 ⟨rfl, h4⟩))
      go_returns
      exact ⟨rfl, ((hbB.trans h2).trans h3).trans h4⟩
end Go.Proofs.Ytncidjkkngbclaa
namespace Go.Proofs.Ytncidjkkngbclaa
open Go.ChangeShapes Go.WideShapes Go.ChangeAt Go.RowKit

/-- A slice whose block is another. -/
def Far (ub : Nat) (v : Value) : Prop := ∀ q k c, v = .slice (some q) k c → 0 < k → q.block ≠ ub
/-- A feed that is used: how far. -/
structure UseS (w : World) (ub : Nat) (sh rd ck : List Int) (a b c : Nat) : Prop where
  x : ∃ vs vr vc, Box w ub [vs, vr, vc, .int .i64 a, .int .i64 b, .int .i64 c] ∧ NsS w vs sh ∧ Rd8 w vr rd ∧ WsS w vc ck ∧ Far ub vs ∧ Far ub vr ∧ Far ub vc
  la : a ≤ sh.length
  lb : b ≤ rd.length
  lc : c ≤ ck.length
theorem UseS.bw {w w' : World} {ub : Nat} {sh rd ck : List Int} {a b c : Nat} (h : UseS w ub sh rd ck a b c) (g : Bw w w') : UseS w' ub sh rd ck a b c := by
  obtain ⟨⟨vs, vr, vc, h1, h2, h3, h4, h5, h6, h7⟩, la, lb, lc⟩ := h
  exact ⟨⟨vs, vr, vc, h1.bw g, RdR.bw h2 g, Rd8.bw h3 g, RdR.bw h4 g, h5, h6, h7⟩, la, lb, lc⟩
theorem UseS.lt {w : World} {ub : Nat} {sh rd ck : List Int} {a b c : Nat} (h : UseS w ub sh rd ck a b c) : ub < w.heap.size := by
  obtain ⟨⟨vs, vr, vc, h1, _⟩, _⟩ := h
  exact h1.lt
/-- A use's slices are the same. -/
def Keep3 (ub : Nat) (w w' : World) : Prop := ∀ j, j < 3 → w'.cell? ⟨ub, j, none⟩ = w.cell? ⟨ub, j, none⟩
theorem Keep3.refl (ub : Nat) (w : World) : Keep3 ub w w := fun _ _ => rfl
theorem Keep3.bw {ub : Nat} {a w w' : World} (h : Keep3 ub a w) (hl : ub < w.heap.size) (g : Bw w w') : Keep3 ub a w' := fun j hj => (Below.cell g (p := ⟨ub, j, none⟩) hl).trans (h j hj)
theorem Keep3.set {ub : Nat} {a w : World} (h : Keep3 ub a w) (k : Nat) (hk : 3 ≤ k) (v : Value) : Keep3 ub a (w.setCell ⟨ub, k, none⟩ v) := fun j hj => by
  rw [World.cell?_setCell_other _ _ _ _ (fun e => by have := congrArg Addr.off e; simp at this; omega)]; exact h j hj
theorem Keep3.trans {ub : Nat} {a b c : World} (h : Keep3 ub a b) (k : Keep3 ub b c) : Keep3 ub a c := fun j hj => (k j hj).trans (h j hj)
/-- What Take gives, and whether one is used. -/
def Fee.take (sh : List Int) (a : Nat) (n : Int) : Int × Nat := if n < 0 then (0, a) else match sh[a]? with | some m => (min n m, a + 1) | none => (n, a)
def Fee.time (ck : List Int) (c : Nat) : Int × Nat := match ck[c]? with | some m => (m, c + 1) | none => (ck.getLastD 0, c)
set_option maxHeartbeats 2000000 in
set_option maxRecDepth 100000 in
theorem Used_c (w : World) (ub : Nat) (sh rd ck : List Int) (a b c : Nat) (h : UseS w ub sh rd ck a b c) : Calls Try.prog 21 #[.pointer (some ⟨ub, 0, none⟩)] w fun e w' => e = .returned (.tuple #[.int .i64 a, .int .i64 b, .int .i64 c]) ∧ Bw w w' := by
  obtain ⟨⟨vs, vr, vc, hb, _⟩, _⟩ := h
  have b3 := hb.c 3 _ rfl; have b4 := hb.c 4 _ rfl; have b5 := hb.c 5 _ rfl
  clear hb
  go_enter Try.func21, Try.ntmps21
  go_wp2
  go_region
  go_wp2
  go_returns
  exact ⟨rfl, by (repeat' (first | (with_reducible assumption) | (with_reducible exact Bw.refl _) | (with_reducible refine Bw.alloc ?_ _) | (with_reducible refine Bw.drew ?_) | (with_reducible refine Bw.drewN ?_ _) | (with_reducible refine Bw.setCell ?_ ?_ _) | exact Nat.le_refl _))⟩
set_option maxHeartbeats 2000000 in
set_option maxRecDepth 100000 in
theorem Take_c (w : World) (ub : Nat) (sh rd ck : List Int) (a b c : Nat) (h : UseS w ub sh rd ck a b c) (hl : sh.length ≤ 10000) (n : Int) :
    Calls Try.prog 30 #[.pointer (some ⟨ub, 0, none⟩), .int .i64 n] w fun e w' => e = .returned (.int .i64 (Fee.take sh a n).1) ∧ UseS w' ub sh rd ck (Fee.take sh a n).2 b c ∧ Bq ub w w' ∧ Keep3 ub w w' := by
  have hU := h
  have HLT := h.lt
  obtain ⟨⟨vs, vr, vc, hb, hS, hR, hC, f1, f2, f3⟩, la, lb, lc⟩ := h
  by_cases hn : n < 0
  · have hF : Fee.take sh a n = (0, a) := by unfold Fee.take; rw [if_pos hn]
    rw [hF]
    go_enter Try.func30, Try.ntmps30
    go_wp2
    go_returns
    exact ⟨rfl, hU, Bq.refl _ _, Keep3.refl _ _⟩
  have hn0 : ¬ n < 0 := hn
  have hS2 := hS
  obtain ⟨q, cap, rfl, hc1, hc2, hcell⟩ := RdR.at1 hS
  have b0 := hb.c 0 _ rfl; have b3 := hb.c 3 _ rfl; have b3f := hb.f 3 (by simp)
  by_cases ha : a = sh.length
  · have hF : Fee.take sh a n = (n, a) := by unfold Fee.take; rw [if_neg hn, ha, List.getElem?_eq_none (Nat.le_refl _)]
    rw [hF]
    subst ha
    have HU : Hid _ := hU
    clear hU hb hS hS2 hR hC hcell
    go_enter Try.func30, Try.ntmps30
    go_wp2
    go_region
    go_wp2
    go_returns
    exact ⟨rfl, UseS.bw HU (by (repeat' (first | (with_reducible assumption) | (with_reducible exact Bw.refl _) | (with_reducible refine Bw.alloc ?_ _) | (with_reducible refine Bw.drew ?_) | (with_reducible refine Bw.drewN ?_ _) | (with_reducible refine Bw.setCell ?_ ?_ _) | exact Nat.le_refl _))), (Bq.refl _ _).bw (by (repeat' (first | (with_reducible assumption) | (with_reducible exact Bw.refl _) | (with_reducible refine Bw.alloc ?_ _) | (with_reducible refine Bw.drew ?_) | (with_reducible refine Bw.drewN ?_ _) | (with_reducible refine Bw.setCell ?_ ?_ _) | exact Nat.le_refl _))), (Keep3.refl _ _).bw HLT (by (repeat' (first | (with_reducible assumption) | (with_reducible exact Bw.refl _) | (with_reducible refine Bw.alloc ?_ _) | (with_reducible refine Bw.drew ?_) | (with_reducible refine Bw.drewN ?_ _) | (with_reducible refine Bw.setCell ?_ ?_ _) | exact Nat.le_refl _)))⟩
  · have hal : a < sh.length := by omega
    obtain ⟨m, hm⟩ : ∃ m, sh[a]? = some m := ⟨_, List.getElem?_eq_getElem hal⟩
    have hF : Fee.take sh a n = (min n m, a + 1) := by unfold Fee.take; rw [if_neg hn, hm]
    rw [hF]
    obtain ⟨b', o, rfl, hbl, c0⟩ := hcell a m hm
    have hne : b' ≠ ub := f1 _ _ _ rfl (by omega)
    have hai : ((a : Int) = (sh.length : Int)) = False := by simp; omega
    have hali : (a : Int) < (sh.length : Int) := by omega
    have hbx := hb.set 3 (by simp) (.int .i64 ((a : Int) + 1))
    have HFin : Hid (UseS (w.setCell ⟨ub, 3, none⟩ (.int .i64 ((a : Int) + 1))) ub sh rd ck (a + 1) b c ∧ Bq ub w (w.setCell ⟨ub, 3, none⟩ (.int .i64 ((a : Int) + 1))) ∧ Keep3 ub w (w.setCell ⟨ub, 3, none⟩ (.int .i64 ((a : Int) + 1)))) := by
      have hq : Bq ub w (w.setCell ⟨ub, 3, none⟩ (.int .i64 ((a : Int) + 1))) := (Bq.refl _ _).set 3 _
      exact ⟨⟨⟨_, vr, vc, hbx, RdR.q hS2 hq f1, RdR.q hR hq f2, RdR.q hC hq f3, f1, f2, f3⟩, hal, lb, lc⟩, hq, (Keep3.refl _ _).set 3 (by omega) _⟩
    clear hbx hU hb hS hS2 hR hC hcell
    go_enter Try.func30, Try.ntmps30
    go_wp2
    go_region
    go_wp2
    go_region
    go_wp2
    go_returns
    exact ⟨rfl, UseS.bw (show _ ∧ _ ∧ _ from HFin).1 (by (repeat' (first | (with_reducible assumption) | (with_reducible exact Bw.refl _) | (with_reducible refine Bw.alloc ?_ _) | (with_reducible refine Bw.drew ?_) | (with_reducible refine Bw.drewN ?_ _) | (with_reducible refine Bw.setCell ?_ ?_ _) | exact Nat.le_refl _))), Bq.bw (show _ ∧ _ ∧ _ from HFin).2.1 (by (repeat' (first | (with_reducible assumption) | (with_reducible exact Bw.refl _) | (with_reducible refine Bw.alloc ?_ _) | (with_reducible refine Bw.drew ?_) | (with_reducible refine Bw.drewN ?_ _) | (with_reducible refine Bw.setCell ?_ ?_ _) | exact Nat.le_refl _))), Keep3.bw (show _ ∧ _ ∧ _ from HFin).2.2 (by simpa [World.setCell] using HLT) (by (repeat' (first | (with_reducible assumption) | (with_reducible exact Bw.refl _) | (with_reducible refine Bw.alloc ?_ _) | (with_reducible refine Bw.drew ?_) | (with_reducible refine Bw.drewN ?_ _) | (with_reducible refine Bw.setCell ?_ ?_ _) | exact Nat.le_refl _)))⟩
end Go.Proofs.Ytncidjkkngbclaa
