/- PLAIN MATHEMATICS OF LAYER 8 (images): which may be, their bytes, what bytes are. -/
import Derived.Test.YtmecompcffphcaaImgApp
import Derived.Laws.BitsAllLaws
namespace Go.Proofs.Ytmecompcffphcaa.Img

structure Seg where
  addr : Int
  size : Int
  perm : Int
  bytes : List Int
structure Im where
  entry : Int
  segs : List Seg
structure Wf (s : Seg) : Prop where
  a0 : 0 ≤ s.addr
  a1 : s.addr < 4294967296
  z0 : 0 ≤ s.size
  z1 : s.size < 4294967296
  p0 : -9223372036854775808 ≤ s.perm
  p1 : s.perm ≤ 9223372036854775807
  b8 : B8s s.bytes
/-- May one be? -/
def fin (s : Seg) : Int := s.addr + s.size
def segOk (s : Seg) : Bool := s.addr % 256 == 0 && s.size != 0 && decide ((s.bytes.length : Int) ≤ s.size) && decide (fin s ≤ 4294967296) && decide (0 ≤ s.perm) && decide (s.perm ≤ 7)
def share (s t : Seg) : Bool := decide (s.addr < fin t) && decide (t.addr < fin s)
def sizes : List Seg → Int
  | [] => 0
  | s :: r => s.size + sizes r
def lens : List Seg → Nat
  | [] => 0
  | s :: r => s.bytes.length + lens r
def anyShare : List Seg → Bool
  | [] => false
  | s :: r => r.any (fun t => share t s) || anyShare r
def inX (e : Int) (s : Seg) : Bool := (bits .and .i64 s.perm 4 != 0) && decide (s.addr ≤ e) && decide (e < fin s)
def entryOk (i : Im) : Bool := i.entry % 4 == 0 && i.segs.any (inX i.entry)
def good (i : Im) : Int :=
  if 8 < i.segs.length then 2 else if i.segs.length = 0 then 1 else if i.segs.all segOk = false then 1 else if 65536 < sizes i.segs then 2 else if anyShare i.segs || !entryOk i then 1 else 0
/-- The bytes. -/
def le2 (h : Int) : List Int := [h % 256, h / 256]
def le4 (w : Int) : List Int := [w % 256, w / 256 % 256, w / 65536 % 256, w / 16777216]
def head (entry count : Int) : List Int := [127, 69, 76, 70, 1, 1, 1, 0, 0, 0, 0, 0, 0, 0, 0, 0, 2, 0, 243, 0, 1, 0, 0, 0] ++ le4 entry ++ [52, 0, 0, 0, 0, 0, 0, 0, 0, 0, 0, 0, 52, 0, 32, 0] ++ le2 count ++ [0, 0, 0, 0, 0, 0]
def row (place addr count size perm : Int) : List Int := [1, 0, 0, 0] ++ le4 place ++ le4 addr ++ le4 addr ++ le4 count ++ le4 size ++ le4 perm ++ [0, 1, 0, 0]
def swap (p : Int) : Int := p / 4 % 2 + p / 2 % 2 * 2 + p % 2 * 4
def rowOf (place : Nat) (s : Seg) : List Int := row place s.addr s.bytes.length s.size (swap s.perm)
def rows : Nat → List Seg → List Int
  | _, [] => []
  | p, s :: r => rowOf p s ++ rows (p + s.bytes.length) r
def data (l : List Seg) : List Int := l.flatMap (·.bytes)
def put (i : Im) : List Int := head i.entry i.segs.length ++ rows (52 + 32 * i.segs.length) i.segs ++ data i.segs
def putE (i : Im) : Int := if good i ≠ 0 then good i else if 65536 < 52 + 32 * i.segs.length + lens i.segs then 2 else 0
/-- What bytes are. -/
def g (B : List Int) (i : Nat) : Int := B.getD i 0
def half (B : List Int) (i : Nat) : Int := g B i + g B (i + 1) * 256
def word (B : List Int) (i : Nat) : Int := half B i + half B (i + 2) * 65536
def cut (B : List Int) (i n : Nat) : List Int := (B.drop i).take n
def headOk (B : List Int) : Bool := decide (52 ≤ B.length) && (cut (head (word B 24) (half B 44)) 0 32 == cut B 0 32) && (cut (head (word B 24) (half B 44)) 40 6 == cut B 40 6)
def segAt (B : List Int) (i : Nat) : Option Seg :=
  if B.length < i + 32 then none
  else if 7 < word B (i + 24) then none
  else if row (word B (i + 4)) (word B (i + 8)) (word B (i + 16)) (word B (i + 20)) (word B (i + 24)) ≠ cut B i 32 then none
  else if (B.length : Int) < word B (i + 4) + word B (i + 16) then none
  else some ⟨word B (i + 8), word B (i + 20), swap (word B (i + 24)), cut B (word B (i + 4)).toNat (word B (i + 16)).toNat⟩
def segsTo (B : List Int) : Nat → Option (List Seg)
  | 0 => some []
  | k + 1 => match segsTo B k, segAt B (52 + k * 32) with
    | some l, some s => some (l ++ [s])
    | _, _ => none
def none0 : Im := ⟨0, []⟩
def get (B : List Int) : Im × Int :=
  if 65536 < B.length then (none0, 2) else if headOk B = false then (none0, 3) else if 8 < half B 44 then (none0, 2)
  else match segsTo B (half B 44).toNat with
    | none => (none0, 3)
    | some l => if good ⟨word B 24, l⟩ ≠ 0 then (none0, good ⟨word B 24, l⟩) else (⟨word B 24, l⟩, 0)
/-- Plain facts. -/
theorem le2_len (x : Int) : (le2 x).length = 2 := rfl
theorem le4_len (x : Int) : (le4 x).length = 4 := rfl
theorem head_len (e c : Int) : (head e c).length = 52 := rfl
theorem row_len (a b c d e : Int) : (row a b c d e).length = 32 := rfl
theorem rows_len : ∀ (l : List Seg) (p : Nat), (rows p l).length = l.length * 32
  | [], _ => rfl
  | s :: r, p => by rw [rows, List.length_append, rows_len r]; simp [rowOf, row_len]; omega
theorem data_len : ∀ l : List Seg, (data l).length = lens l
  | [] => rfl
  | s :: r => by rw [lens, ← data_len r]; simp [data]
theorem put_len (i : Im) : (put i).length = 52 + 32 * i.segs.length + lens i.segs := by
  unfold put; rw [List.length_append, List.length_append, head_len, rows_len, data_len]; omega
theorem rows_app : ∀ (a b : List Seg) (p : Nat), rows p (a ++ b) = rows p a ++ rows (p + lens a) b
  | [], b, p => by simp [rows, lens]
  | s :: r, b, p => by simp [rows, lens, rows_app r b, Nat.add_assoc]
theorem lens_app : ∀ (a b : List Seg), lens (a ++ b) = lens a + lens b
  | [], b => by simp [lens]
  | s :: r, b => by simp [lens, lens_app r b, Nat.add_assoc]
theorem sizes_app : ∀ (a b : List Seg), sizes (a ++ b) = sizes a + sizes b
  | [], b => by simp [sizes]
  | s :: r, b => by simp [sizes, sizes_app r b, Int.add_assoc]
theorem sizes_pos : ∀ l : List Seg, (∀ s ∈ l, Wf s) → 0 ≤ sizes l
  | [], _ => by simp [sizes]
  | s :: r, h => by have := sizes_pos r (fun x hx => h x (by simp [hx])); have := (h s (by simp)).z0; simp only [sizes]; omega
theorem share_comm (s t : Seg) : share s t = share t s := by unfold share; rw [Bool.and_comm]
theorem anyShare_iff : ∀ l : List Seg, anyShare l = true ↔ ∃ (n m : Nat) (s t : Seg), m < n ∧ l[n]? = some s ∧ l[m]? = some t ∧ share s t = true
  | [] => by simp [anyShare]
  | a :: r => by
    rw [anyShare, Bool.or_eq_true, List.any_eq_true, anyShare_iff r]
    constructor
    · rintro (⟨t, ht, hs⟩ | ⟨n, m, s, t, h1, h2, h3, h4⟩)
      · obtain ⟨n, hn⟩ := List.getElem?_of_mem ht
        exact ⟨n + 1, 0, t, a, by omega, by simpa using hn, rfl, hs⟩
      · exact ⟨n + 1, m + 1, s, t, by omega, by simpa using h2, by simpa using h3, h4⟩
    · rintro ⟨n, m, s, t, h1, h2, h3, h4⟩
      cases m with
      | zero =>
        simp at h3; subst h3
        cases n with
        | zero => omega
        | succ n => exact Or.inl ⟨s, List.mem_of_getElem? (by simpa using h2), h4⟩
      | succ m =>
        cases n with
        | zero => omega
        | succ n => exact Or.inr ⟨n, m, s, t, by omega, by simpa using h2, by simpa using h3, h4⟩
theorem g_at {l : List Int} {i : Nat} (hi : i < l.length) : l[i]? = some (g l i) := by
  unfold g; rw [List.getD_eq_getElem?_getD, List.getElem?_eq_getElem hi]; rfl
theorem b8_g {l : List Int} (h : B8s l) (i : Nat) : B8 (g l i) := by
  unfold g
  rw [List.getD_eq_getElem?_getD]
  cases hx : l[i]? with
  | none => exact ⟨by simp, by simp⟩
  | some x => exact h x (List.mem_of_getElem? hx)
theorem half_bd {B : List Int} (h : B8s B) (i : Nat) : 0 ≤ half B i ∧ half B i < 65536 := by
  have a := b8_g h i; have b := b8_g h (i + 1); unfold half; unfold B8 at a b; omega
theorem word_bd {B : List Int} (h : B8s B) (i : Nat) : 0 ≤ word B i ∧ word B i < 4294967296 := by
  have a := half_bd h i; have b := half_bd h (i + 2); unfold word; omega
theorem le2_b8 {x : Int} (h : 0 ≤ x ∧ x < 65536) : B8s (le2 x) := fun y hy => by simp [le2] at hy; unfold B8; omega
theorem le4_b8 {x : Int} (h : 0 ≤ x ∧ x < 4294967296) : B8s (le4 x) := fun y hy => by simp [le4] at hy; unfold B8; omega
theorem head_b8 {e c : Int} (he : 0 ≤ e ∧ e < 4294967296) (hc : 0 ≤ c ∧ c < 65536) : B8s (head e c) := by
  unfold head
  refine ((((?_ : B8s _).app (le4_b8 he)).app ?_).app (le2_b8 hc)).app ?_
  all_goals (intro x hx; simp at hx; unfold B8; omega)
theorem row_b8 {a b c d e : Int} (ha : 0 ≤ a ∧ a < 4294967296) (hb : 0 ≤ b ∧ b < 4294967296) (hc : 0 ≤ c ∧ c < 4294967296) (hd : 0 ≤ d ∧ d < 4294967296) (he : 0 ≤ e ∧ e < 4294967296) : B8s (row a b c d e) := by
  unfold row
  refine (((((((?_ : B8s _).app (le4_b8 ha)).app (le4_b8 hb)).app (le4_b8 hb)).app (le4_b8 hc)).app (le4_b8 hd)).app (le4_b8 he)).app ?_
  all_goals (intro x hx; simp at hx; unfold B8; omega)
theorem swap_bd {p : Int} : 0 ≤ swap p ∧ swap p ≤ 7 := by unfold swap; omega
theorem swap_swap {p : Int} (h0 : 0 ≤ p) (h1 : p ≤ 7) : swap (swap p) = p := by
  obtain rfl | rfl | rfl | rfl | rfl | rfl | rfl | rfl : p = 0 ∨ p = 1 ∨ p = 2 ∨ p = 3 ∨ p = 4 ∨ p = 5 ∨ p = 6 ∨ p = 7 := by omega
  all_goals decide
theorem cut_len {B : List Int} {i n : Nat} (h : i + n ≤ B.length) : (cut B i n).length = n := by unfold cut; rw [List.length_take, List.length_drop]; omega
theorem cut_b8 {B : List Int} (h : B8s B) (i n : Nat) : B8s (cut B i n) := fun x hx => h x (List.mem_of_mem_drop (List.mem_of_mem_take hx))
theorem segsTo_none {B : List Int} {k : Nat} (h : segAt B (52 + k * 32) = none) : ∀ n, k < n → segsTo B n = none := by
  intro n
  induction n with
  | zero => intro h; omega
  | succ n ih =>
    intro hk
    rw [segsTo]
    by_cases e : k = n
    · subst e; rw [h]; split <;> simp_all
    · rw [ih (by omega)]
theorem segsTo_all {B : List Int} {l : List Seg} (h : ∀ k s, l[k]? = some s → segAt B (52 + k * 32) = some s) : ∀ n, n ≤ l.length → segsTo B n = some (l.take n) := by
  intro n
  induction n with
  | zero => intro _; simp [segsTo]
  | succ n ih =>
    intro hn
    rw [segsTo, ih (by omega), h n l[n] (List.getElem?_eq_getElem (by omega)), List.take_add_one, List.getElem?_eq_getElem (by omega)]
    simp
end Go.Proofs.Ytmecompcffphcaa.Img
