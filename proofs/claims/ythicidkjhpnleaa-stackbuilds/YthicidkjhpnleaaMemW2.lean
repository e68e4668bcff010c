/- THE WALKS OF LAYER 3: Load, Store. -/
import Derived.Test.YthicidkjhpnleaaMemW1
import Derived.Lib.EndianBits
namespace Go.Proofs.Ythicidkjhpnleaa
open Go.ChangeShapes Go.WideShapes Go.ChangeAt Go.RowKit
set_option linter.unusedSimpArgs false
set_option linter.unusedVariables false

/-- The number of size bytes at a page's place o. -/
def Pg.val (p : Pg) (o : Nat) (size : Int) : Int :=
  if size = 1 then p.byt o else if size = 2 then p.byt o + p.byt (o + 1) * 256 else p.byt o + p.byt (o + 1) * 256 + p.byt (o + 2) * 65536 + p.byt (o + 3) * 16777216
def MS.load (S : MS) (a size need : Int) : Int :=
  if S.ask a size need = 0 then (match S.pg (a / 256) with | some p => p.val (a % 256).toNat size | none => 0) else 0
/-- The first k bytes of v laid in at o. -/
def Pg.wrt (p : Pg) (o : Nat) (v : Int) (k : Nat) : Pg := { p with byt := fun i => if o ≤ i ∧ i < o + k then v / 256 ^ (i - o) % 256 else p.byt i }
def MS.store (S : MS) (a size v : Int) : MS :=
  if S.ask a size 2 = 0 then (match S.pg (a / 256) with | some p => { S with pg := upd S.pg (a / 256) (some { p.wrt (a % 256).toNat v size.toNat with gen := (p.gen + 1) % 4294967296 }) } | none => S) else S
theorem Pg.wrt_zero (p : Pg) (o : Nat) (v : Int) : p.wrt o v 0 = p := by
  unfold Pg.wrt
  have : (fun i => if o ≤ i ∧ i < o + 0 then v / 256 ^ (i - o) % 256 else p.byt i) = p.byt := by
    funext i; rw [if_neg (by omega)]
  rw [this]
theorem Pg.wrt_succ (p : Pg) (o : Nat) (v x : Int) (k : Nat) (hx : x = v / 256 ^ k % 256) : (p.wrt o v k).setByt (o + k) x = p.wrt o v (k + 1) := by
  subst hx
  unfold Pg.wrt Pg.setByt
  simp only [Pg.mk.injEq, and_true]
  funext i
  by_cases e : i = o + k
  · subst e; simp
  · rw [if_neg e]
    by_cases e2 : o ≤ i ∧ i < o + k
    · rw [if_pos e2, if_pos (by omega)]
    · rw [if_neg e2, if_neg (by omega)]
theorem Pg.wrt_ok {p : Pg} (h : p.Ok) (o : Nat) (v : Int) (k : Nat) {g : Int} (hg : U4 g) : ({ p.wrt o v k with gen := g } : Pg).Ok := by
  refine ⟨fun i => ?_, h.perm, hg⟩
  simp only [Pg.wrt]
  split
  · omega
  · exact h.byt i
theorem or1 {x : Int} (h : 0 ≤ x ∧ x < 256) : bits .or .u32 0 (x % 4294967296) = x := by
  rw [show x % 4294967296 = x by omega, u32_or 0 x (by omega) (by omega) h.1 (by omega)]; simp; omega
theorem or2 {y x : Int} (h : 0 ≤ x ∧ x < 256) (hy : 0 ≤ y ∧ y < 256) : bits .or .u32 y (x % 4294967296 * 256 % 4294967296) = y + x * 256 := by
  rw [show x % 4294967296 * 256 % 4294967296 = x * 256 by omega]
  exact u32_or8 _ _ hy.1 hy.2 (by omega) (by omega) (by omega)
theorem or3 {y x : Int} (h : 0 ≤ x ∧ x < 256) (hy : 0 ≤ y ∧ y < 65536) : bits .or .u32 y (x % 4294967296 * 65536 % 4294967296) = y + x * 65536 := by
  rw [show x % 4294967296 * 65536 % 4294967296 = x * 65536 by omega]
  exact u32_or16 _ _ hy.1 hy.2 (by omega) (by omega) (by omega)
theorem or4 {y x : Int} (h : 0 ≤ x ∧ x < 256) (hy : 0 ≤ y ∧ y < 16777216) : bits .or .u32 y (x % 4294967296 * 16777216 % 4294967296) = y + x * 16777216 := by
  rw [show x % 4294967296 * 16777216 % 4294967296 = x * 16777216 by omega]
  exact u32_or24 _ _ hy.1 hy.2 (by omega) (by omega) (by omega)
theorem ret_ue {a b c d : Int} (h : a = b) (h2 : c = d) : Ending.returned (.tuple #[.int .u32 a, .int .i64 c]) = .returned (.tuple #[.int .u32 b, .int .i64 d]) := by rw [h, h2]

section
variable {w : World} {mb : Nat} {F : Nat → Prop} {N : Nat} {S : MS} {L : Lay}
theorem Load_no (h : OwnL w mb F N S L) (a size need : Int) (ha : U4 a) (hn : S.ask a size need ≠ 0) :
    Calls Try.prog 17 #[.pointer (some ⟨mb, 0, none⟩), .int .u32 a, .int .i64 size, .int .i64 need] w fun e w' => e = .returned (.tuple #[.int .u32 0, .int .i64 (S.ask a size need)]) ∧ w' = w := by
  have hc := cell_c h a size need ha
  have hn' : (S.ask a size need == 0) = false := by simpa using hn
  go_enter Try.func17, Try.ntmps17
  go_wp2_with fail
  refine hc.mono ?_
  rintro e w1 ⟨rfl, rfl⟩
  clear hc
  go_wp2
  go_returns
  exact ⟨rfl, rfl⟩
theorem ask_zero {a size need : Int} (hn : S.ask a size need = 0) : (size = 1 ∨ size = 2 ∨ size = 4) ∧ a % size = 0 ∧ ∃ p, S.pg (a / 256) = some p ∧ (bits .and .i64 p.perm need == need) = true := by
  unfold MS.ask at hn
  split at hn
  · rename_i hc
    refine ⟨hc.1, hc.2, ?_⟩
    cases hp : S.pg (a / 256) with
    | none => simp [hp] at hn
    | some p =>
      refine ⟨p, rfl, ?_⟩
      simp only [hp] at hn
      split at hn
      · assumption
      · omega
  · omega
theorem Load_yes (h : OwnL w mb F N S L) (a size need : Int) (ha : U4 a) (hn : S.ask a size need = 0) :
    Calls Try.prog 17 #[.pointer (some ⟨mb, 0, none⟩), .int .u32 a, .int .i64 size, .int .i64 need] w fun e w' => e = .returned (.tuple #[.int .u32 (S.load a size need), .int .i64 0]) ∧ w' = w := by
  obtain ⟨hs, hm, p, hp, _⟩ := ask_zero hn
  obtain ⟨b, hb, hq, hF⟩ := h.pgb hp
  have hc := cell_c h a size need ha
  rw [show S.fnd L a size need = some b by simp [MS.fnd, hn, hb], hn] at hc
  have e0 : S.load a size need = p.val (a % 256).toNat size := by simp [MS.load, hn, hp]
  rw [e0]
  have hk := h.ok.pg _ _ hp
  clear e0 hn hp hb h
  simp only [pv] at hc
  obtain ⟨a0, a1⟩ := ha
  have e1 : (a % 256 + 1).toNat = (a % 256).toNat + 1 := by omega
  have e2 : (a % 256 + 2).toNat = (a % 256).toNat + 2 := by omega
  have e3 : (a % 256 + 3).toNat = (a % 256).toNat + 3 := by omega
  have E1 : Hid _ := e1
  have E2 : Hid _ := e2
  have E3 : Hid _ := e3
  clear e1 e2 e3
  rcases hs with rfl | rfl | rfl
  · have d0 := hq.byt (i := (a % 256).toNat) (by omega)
    go_enter Try.func17, Try.ntmps17
    go_wp2_with fail
    refine hc.mono ?_
    rintro e w1 ⟨rfl, rfl⟩
    clear hc
    go_wp2
    refine wp_loop_rounds 2 ?_
    iterate 2 (rw [rounds_succ]; go_wp2)
    go_returns
    refine ⟨ret_ue ?_ rfl, rfl⟩
    rw [or1 (hk.byt _)]; simp [Pg.val]
  · have d0 := hq.byt (i := (a % 256).toNat) (by omega)
    have d1 := hq.byt (i := (a % 256 + 1).toNat) (by omega)
    go_enter Try.func17, Try.ntmps17
    go_wp2_with fail
    refine hc.mono ?_
    rintro e w1 ⟨rfl, rfl⟩
    clear hc
    go_wp2
    refine wp_loop_rounds 3 ?_
    iterate 3 (rw [rounds_succ]; go_wp2)
    go_returns
    refine ⟨ret_ue ?_ rfl, rfl⟩
    have q0 := hk.byt (a % 256).toNat
    have q1 := hk.byt (a % 256 + 1).toNat
    rw [or1 q0, or2 q1 q0, E1.out]; simp [Pg.val]
  · have d0 := hq.byt (i := (a % 256).toNat) (by omega)
    have d1 := hq.byt (i := (a % 256 + 1).toNat) (by omega)
    have d2 := hq.byt (i := (a % 256 + 2).toNat) (by omega)
    have d3 := hq.byt (i := (a % 256 + 3).toNat) (by omega)
    go_enter Try.func17, Try.ntmps17
    go_wp2_with fail
    refine hc.mono ?_
    rintro e w1 ⟨rfl, rfl⟩
    clear hc
    go_wp2
    refine wp_loop_rounds 5 ?_
    iterate 5 (rw [rounds_succ]; go_wp2)
    go_returns
    refine ⟨ret_ue ?_ rfl, rfl⟩
    have q0 := hk.byt (a % 256).toNat
    have q1 := hk.byt (a % 256 + 1).toNat
    have q2 := hk.byt (a % 256 + 2).toNat
    have q3 := hk.byt (a % 256 + 3).toNat
    rw [or1 q0, or2 q1 q0, or3 q2 (by omega), or4 q3 (by omega), E1.out, E2.out, E3.out]; simp [Pg.val]
theorem Load_c (h : OwnL w mb F N S L) (a size need : Int) (ha : U4 a) :
    Calls Try.prog 17 #[.pointer (some ⟨mb, 0, none⟩), .int .u32 a, .int .i64 size, .int .i64 need] w fun e w' => e = .returned (.tuple #[.int .u32 (S.load a size need), .int .i64 (S.ask a size need)]) ∧ w' = w := by
  by_cases hn : S.ask a size need = 0
  · rw [hn]; exact Load_yes h a size need ha hn
  · rw [show S.load a size need = 0 by simp [MS.load, hn]]; exact Load_no h a size need ha hn

end
end Go.Proofs.Ythicidkjhpnleaa
