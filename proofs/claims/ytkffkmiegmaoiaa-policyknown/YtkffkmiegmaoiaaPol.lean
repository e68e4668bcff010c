/- PLAIN MATHEMATICS OF LAYER 7 (policies): which may be, their bytes, what they label and watch for. -/
import Derived.Test.YtkffkmiegmaoiaaPolBase
import Derived.Laws.BitsAllLaws
namespace Go.Proofs.Ytkffkmiegmaoiaa.Pol

/-- A source, a sink, plain. -/
structure Src where
  kind : Int
  arg : Int
  len : Int
  label : Int
structure Snk where
  kind : Int
  arg : Int
  mask : Int
structure Plc where
  ptr : Bool
  srcs : List Src
  snks : List Snk
theorem Src.ext_iff {a b : Src} : a = b ↔ a.kind = b.kind ∧ a.arg = b.arg ∧ a.len = b.len ∧ a.label = b.label := by
  obtain ⟨_, _, _, _⟩ := a; obtain ⟨_, _, _, _⟩ := b; simp
theorem Snk.ext_iff {a b : Snk} : a = b ↔ a.kind = b.kind ∧ a.arg = b.arg ∧ a.mask = b.mask := by
  obtain ⟨_, _, _⟩ := a; obtain ⟨_, _, _⟩ := b; simp
/-- What their kinds of numbers hold. -/
structure SWf (s : Src) : Prop where
  k0 : -9223372036854775808 ≤ s.kind
  k1 : s.kind ≤ 9223372036854775807
  a0 : 0 ≤ s.arg
  a1 : s.arg < 4294967296
  l0 : 0 ≤ s.len
  l1 : s.len < 4294967296
  b0 : 0 ≤ s.label
  b1 : s.label < 256
structure KWf (s : Snk) : Prop where
  k0 : -9223372036854775808 ≤ s.kind
  k1 : s.kind ≤ 9223372036854775807
  a0 : -9223372036854775808 ≤ s.arg
  a1 : s.arg ≤ 9223372036854775807
  b0 : 0 ≤ s.mask
  b1 : s.mask < 256
/-- May a source be; may a sink. -/
def srcOk (s : Src) : Bool := s.label != 0 && (if s.kind = 1 then s.len == 0 else if s.kind = 2 ∨ s.kind = 3 ∨ s.kind = 5 then s.arg == 0 && s.len == 0 else if s.kind = 4 then s.len != 0 && decide (s.arg + s.len ≤ 4294967296) else false)
def snkOk (s : Snk) : Bool := s.mask != 0 && decide (1 ≤ s.kind) && decide (s.kind ≤ 5) && (if s.kind = 4 then decide (0 ≤ s.arg) && decide (s.arg ≤ 6) else s.arg == 0)
def ok (p : Plc) : Bool := decide (p.srcs.length ≤ 32) && decide (p.snks.length ≤ 32) && p.srcs.all srcOk && p.snks.all snkOk
/-- The bytes. -/
def le4 (w : Int) : List Int := [w % 256, w / 256 % 256, w / 65536 % 256, w / 16777216]
def srcB (s : Src) : List Int := [s.kind % 256] ++ le4 s.arg ++ le4 s.len ++ [s.label]
def snkB (s : Snk) : List Int := [s.kind % 256, s.arg % 256, s.mask]
def head (p : Plc) : List Int := [84, 80, 49, if p.ptr then 1 else 0, (p.srcs.length : Int)]
def put (p : Plc) : List Int := head p ++ p.srcs.flatMap srcB ++ [(p.snks.length : Int)] ++ p.snks.flatMap snkB
def w4 (a b c d : Int) : Int := a + b * 256 + c * 65536 + d * 16777216
def g (B : List Int) (i : Nat) : Int := B.getD i 0
def srcAt (B : List Int) (i : Nat) : Src := ⟨g B i, w4 (g B (i + 1)) (g B (i + 2)) (g B (i + 3)) (g B (i + 4)), w4 (g B (i + 5)) (g B (i + 6)) (g B (i + 7)) (g B (i + 8)), g B (i + 9)⟩
def snkAt (B : List Int) (i : Nat) : Snk := ⟨g B i, g B (i + 1), g B (i + 2)⟩
def srcsAt (B : List Int) (o n : Nat) : List Src := (List.range n).map fun i => srcAt B (o + i * 10)
def snksAt (B : List Int) (o n : Nat) : List Snk := (List.range n).map fun i => snkAt B (o + i * 3)
def n1 (B : List Int) : Nat := (g B 4).toNat
def p2 (B : List Int) : Nat := 5 + n1 B * 10
def n2 (B : List Int) : Nat := (g B (p2 B)).toNat
def read (B : List Int) : Plc := ⟨g B 3 == 1, srcsAt B 5 (n1 B), snksAt B (p2 B + 1) (n2 B)⟩
def lies (B : List Int) : Prop := 4 ≤ B.length ∧ g B 0 = 84 ∧ g B 1 = 80 ∧ g B 2 = 49 ∧ g B 3 ≤ 1 ∧ p2 B < B.length ∧ p2 B + 1 + n2 B * 3 = B.length
def isP (B : List Int) : Prop := lies B ∧ ok (read B) = true
def none : Plc := ⟨false, [], []⟩
def isPb (B : List Int) : Bool := decide (4 ≤ B.length) && (g B 0 == 84) && (g B 1 == 80) && (g B 2 == 49) && decide (g B 3 ≤ 1) && decide (p2 B < B.length) && (p2 B + 1 + n2 B * 3 == B.length) && ok (read B)
theorem isPb_iff (B : List Int) : isPb B = true ↔ isP B := by
  unfold isPb isP lies; simp only [Bool.and_eq_true, decide_eq_true_eq, beq_iff_eq]
  constructor
  · rintro ⟨⟨⟨⟨⟨⟨⟨a, b⟩, c⟩, d⟩, e⟩, f⟩, h⟩, i⟩; exact ⟨⟨a, b, c, d, e, f, h⟩, i⟩
  · rintro ⟨⟨a, b, c, d, e, f, h⟩, i⟩; exact ⟨⟨⟨⟨⟨⟨⟨a, b⟩, c⟩, d⟩, e⟩, f⟩, h⟩, i⟩
def get (B : List Int) : Plc := if isPb B then read B else none
/-- What is labelled, what is watched for. -/
def gives (kind arg : Int) (s : Src) : Bool := s.kind == kind && (if kind = 1 then s.arg == arg else decide (kind = 2 ∨ kind = 3 ∨ kind = 5))
def lab (kind arg : Int) : List Src → Int → Int
  | [], a => a
  | s :: r, a => lab kind arg r (if gives kind arg s then bits .or .u8 a s.label else a)
def hit (kind arg l : Int) (s : Snk) : Bool := s.kind == kind && (kind != 4 || s.arg == arg) && (bits .and .u8 s.mask l != 0)
def hits (kind arg l : Int) : List Snk → Int → List Int
  | [], _ => []
  | s :: r, i => if hit kind arg l s then i :: hits kind arg l r (i + 1) else hits kind arg l r (i + 1)

theorem srcB_len (s : Src) : (srcB s).length = 10 := rfl
theorem snkB_len (s : Snk) : (snkB s).length = 3 := rfl
theorem le4_w4 (a : Int) : w4 (a % 256) (a / 256 % 256) (a / 65536 % 256) (a / 16777216) = a := by unfold w4; omega
theorem put_len (p : Plc) : (put p).length = 6 + p.srcs.length * 10 + p.snks.length * 3 := by
  unfold put
  simp only [List.length_append, chunk_len srcB 10 srcB_len, chunk_len snkB 3 snkB_len, head, List.length_cons, List.length_nil]
  omega
theorem g_put_src {p : Plc} {k j : Nat} {s : Src} (hs : p.srcs[k]? = some s) (hj : j < 10) : g (put p) (5 + k * 10 + j) = g (srcB s) j := by
  have hk : k < p.srcs.length := (List.getElem?_eq_some_iff.1 hs).1
  unfold g put
  rw [List.getD_eq_getElem?_getD, List.getD_eq_getElem?_getD, List.append_assoc, List.append_assoc, List.getElem?_append_right (by simp [head]; omega), List.getElem?_append_left (by rw [chunk_len srcB 10 srcB_len]; simp [head]; omega)]
  rw [show 5 + k * 10 + j - (head p).length = k * 10 + j by simp [head]; omega, chunk srcB 10 srcB_len _ _ s _ hs hj]
theorem g_put_n2 (p : Plc) : g (put p) (5 + p.srcs.length * 10) = p.snks.length := by
  unfold g put
  rw [List.getD_eq_getElem?_getD, List.append_assoc, List.getElem?_append_right (by simp [head, chunk_len srcB 10 srcB_len]; omega), List.getElem?_append_left (by simp [head, chunk_len srcB 10 srcB_len]; omega)]
  simp [head, chunk_len srcB 10 srcB_len]
  rw [show 5 + p.srcs.length * 10 - (p.srcs.length * 10 + 5) = 0 by omega]; rfl
theorem g_put_snk {p : Plc} {k j : Nat} {s : Snk} (hs : p.snks[k]? = some s) (hj : j < 3) : g (put p) (5 + p.srcs.length * 10 + 1 + k * 3 + j) = g (snkB s) j := by
  have hk : k < p.snks.length := (List.getElem?_eq_some_iff.1 hs).1
  unfold g put
  rw [List.getD_eq_getElem?_getD, List.getD_eq_getElem?_getD, List.getElem?_append_right (by simp [head, chunk_len srcB 10 srcB_len]; omega)]
  rw [show 5 + p.srcs.length * 10 + 1 + k * 3 + j - (head p ++ List.flatMap srcB p.srcs ++ [(p.snks.length : Int)]).length = k * 3 + j by simp [head, chunk_len srcB 10 srcB_len]; omega, chunk snkB 3 snkB_len _ _ s _ hs hj]
theorem srcOk_kind {s : Src} (h : srcOk s = true) : 1 ≤ s.kind ∧ s.kind ≤ 5 := by
  unfold srcOk at h
  rw [Bool.and_eq_true] at h
  have h2 := h.2
  split at h2
  · omega
  · split at h2
    · omega
    · split at h2
      · omega
      · simp at h2
theorem snkOk_bd {s : Snk} (h : snkOk s = true) : 1 ≤ s.kind ∧ s.kind ≤ 5 ∧ 0 ≤ s.arg ∧ s.arg ≤ 6 := by
  unfold snkOk at h
  simp only [Bool.and_eq_true, decide_eq_true_eq] at h
  obtain ⟨⟨⟨_, h1⟩, h2⟩, h3⟩ := h
  split at h3
  · simp only [Bool.and_eq_true, decide_eq_true_eq] at h3; omega
  · simp at h3; omega
def Wf (p : Plc) : Prop := (∀ s ∈ p.srcs, SWf s) ∧ ∀ s ∈ p.snks, KWf s
theorem srcAt_put {p : Plc} {k : Nat} {s : Src} (hs : p.srcs[k]? = some s) (ho : srcOk s = true) : srcAt (put p) (5 + k * 10) = s := by
  have := srcOk_kind ho
  unfold srcAt
  rw [show g (put p) (5 + k * 10) = s.kind by rw [show 5 + k * 10 = 5 + k * 10 + 0 by omega, g_put_src hs (by omega)]; show s.kind % 256 = _; omega]
  rw [g_put_src hs (by omega), g_put_src hs (by omega), g_put_src hs (by omega), g_put_src hs (by omega), g_put_src hs (by omega), g_put_src hs (by omega), g_put_src hs (by omega), g_put_src hs (by omega), g_put_src hs (by omega)]
  show (⟨s.kind, w4 (s.arg % 256) (s.arg / 256 % 256) (s.arg / 65536 % 256) (s.arg / 16777216), w4 (s.len % 256) (s.len / 256 % 256) (s.len / 65536 % 256) (s.len / 16777216), s.label⟩ : Src) = s
  rw [le4_w4, le4_w4]
theorem snkAt_put {p : Plc} {k : Nat} {s : Snk} (hs : p.snks[k]? = some s) (ho : snkOk s = true) : snkAt (put p) (5 + p.srcs.length * 10 + 1 + k * 3) = s := by
  have := snkOk_bd ho
  unfold snkAt
  rw [show g (put p) (5 + p.srcs.length * 10 + 1 + k * 3) = s.kind by rw [show 5 + p.srcs.length * 10 + 1 + k * 3 = 5 + p.srcs.length * 10 + 1 + k * 3 + 0 by omega, g_put_snk hs (by omega)]; show s.kind % 256 = _; omega]
  rw [g_put_snk hs (by omega), g_put_snk hs (by omega)]
  show (⟨s.kind, s.arg % 256, s.mask⟩ : Snk) = s
  rw [show s.arg % 256 = s.arg by omega]
theorem map_range_eq {α : Type} {f : Nat → α} {l : List α} (h : ∀ i x, l[i]? = some x → f i = x) : (List.range l.length).map f = l := by
  apply List.ext_getElem?
  intro i
  rw [List.getElem?_map]
  by_cases hi : i < l.length
  · rw [List.getElem?_range hi, List.getElem?_eq_getElem hi]
    simp [h i _ (List.getElem?_eq_getElem hi)]
  · rw [List.getElem?_eq_none (by simpa using hi), List.getElem?_eq_none (by omega)]; rfl
theorem n1_put (p : Plc) : n1 (put p) = p.srcs.length := rfl
theorem p2_put (p : Plc) : p2 (put p) = 5 + p.srcs.length * 10 := rfl
theorem n2_put (p : Plc) : n2 (put p) = p.snks.length := by
  unfold n2; rw [p2_put, g_put_n2]; rfl
theorem read_put {p : Plc} (ho : ok p = true) : read (put p) = p := by
  unfold ok at ho
  simp only [Bool.and_eq_true, decide_eq_true_eq, List.all_eq_true] at ho
  obtain ⟨⟨⟨_, _⟩, h1⟩, h2⟩ := ho
  unfold read
  rw [n1_put, n2_put, p2_put]
  have e1 : srcsAt (put p) 5 p.srcs.length = p.srcs := map_range_eq fun i x hx => srcAt_put hx (h1 x (List.mem_of_getElem? hx))
  have e2 : snksAt (put p) (5 + p.srcs.length * 10 + 1) p.snks.length = p.snks := map_range_eq fun i x hx => snkAt_put hx (h2 x (List.mem_of_getElem? hx))
  rw [e1, e2]
  have e3 : (g (put p) 3 == 1) = p.ptr := by
    show ((if p.ptr = true then (1 : Int) else 0) == 1) = p.ptr
    cases p.ptr <;> rfl
  rw [e3]
theorem lies_put (p : Plc) : lies (put p) := by
  refine ⟨by rw [put_len]; omega, rfl, rfl, rfl, ?_, by rw [p2_put, put_len]; omega, by rw [p2_put, n2_put, put_len]; omega⟩
  show (if p.ptr = true then (1 : Int) else 0) ≤ 1
  split <;> omega
theorem isP_put {p : Plc} (ho : ok p = true) : isP (put p) := ⟨lies_put p, by rw [read_put ho]; exact ho⟩
theorem get_put {p : Plc} (ho : ok p = true) : get (put p) = p := by
  unfold get; rw [if_pos ((isPb_iff _).2 (isP_put ho)), read_put ho]
theorem put_inj {p q : Plc} (op : ok p = true) (oq : ok q = true) : put p = put q ↔ p = q :=
  ⟨fun h => by rw [← get_put op, h, get_put oq], fun h => by rw [h]⟩
theorem g_take {B : List Int} {n i : Nat} (h : i < n) : g (B.take n) i = g B i := by
  unfold g; rw [List.getD_eq_getElem?_getD, List.getD_eq_getElem?_getD, List.getElem?_take_of_lt h]
theorem cut_none {B : List Int} (h : lies B) {n : Nat} (hn : n < B.length) : ¬ isP (B.take n) := by
  intro ⟨⟨a0, _, _, _, _, a1, a2⟩, _⟩
  obtain ⟨_, _, _, _, _, b1, b2⟩ := h
  have hl : (B.take n).length = n := by rw [List.length_take]; omega
  rw [hl] at a0 a1 a2
  have h5 : 4 < n := by unfold p2 at a1; omega
  have e1 : n1 (B.take n) = n1 B := by unfold n1; rw [g_take h5]
  have e2 : p2 (B.take n) = p2 B := by unfold p2; rw [e1]
  rw [e2] at a1 a2
  have e3 : n2 (B.take n) = n2 B := by unfold n2; rw [e2, g_take a1]
  rw [e3] at a2
  omega
end Go.Proofs.Ytkffkmiegmaoiaa.Pol
