/- LAYER 8's walks: readSegment. -/
import Derived.Test.YtaejcbmmapcpgaaImgW6
import Derived.Test.YtaejcbmmapcpgaaBoxQ
import Derived.Deep.CutRange
import Derived.Deep.RegionWith
namespace Go.Proofs.Ytaejcbmmapcpgaa
open Go.ChangeShapes Go.WideShapes Go.ChangeAt Go.RowKit

theorem Box.fill5 {a w : World} {b : Nat} {a0 a1 a2 a3 a4 : Value} (h : Box w b [a0, a1, a2, a3, a4]) (g : Bw a w) (hle : a.heap.size ≤ b) (v0 v1 v2 v3 v4 : Value) :
    a.heap.size ≤ b ∧ Bw a (((((w.setCell ⟨b, 0, none⟩ v0).setCell ⟨b, 1, none⟩ v1).setCell ⟨b, 2, none⟩ v2).setCell ⟨b, 3, none⟩ v3).setCell ⟨b, 4, none⟩ v4) ∧ Box (((((w.setCell ⟨b, 0, none⟩ v0).setCell ⟨b, 1, none⟩ v1).setCell ⟨b, 2, none⟩ v2).setCell ⟨b, 3, none⟩ v3).setCell ⟨b, 4, none⟩ v4) b [v0, v1, v2, v3, v4] :=
  ⟨hle, (((((g.setCell hle v0).setCell hle v1).setCell hle v2).setCell hle v3).setCell hle v4), ((((h.set 0 (by simp) v0).set 1 (by simp) v1).set 2 (by simp) v2).set 3 (by simp) v3).set 4 (by simp) v4⟩
theorem Bw.sz {a b : World} (h : Bw a b) : a.heap.size ≤ b.heap.size := Below.size h
def Img.seg0 : Value := .agg #[.int .u32 0, .int .u32 0, .int .i64 0, .slice none 0 0]
/-- readSegment's answer. -/
def SegPost (L : List Int) (i : Nat) (w : World) (e : Ending) (w' : World) : Prop :=
  Bw w w' ∧ ((Img.segAt L i = none ∧ e = .returned (.tuple #[Img.seg0, .bool false])) ∨
    ∃ s q c, Img.segAt L i = some s ∧ e = .returned (.tuple #[Img.segV s (.slice q s.bytes.length c), .bool true]) ∧ Rd8 w' (.slice q s.bytes.length c) s.bytes ∧ Img.Wf s ∧ ∀ a, q = some a → w.heap.size ≤ a.block)
theorem seg_bad {L : List Int} {i : Nat} {w w' : World} (h : Img.segAt L i = none) (g : Bw w w') : SegPost L i w (.returned (.tuple #[.agg #[.int .u32 0, .int .u32 0, .int .i64 0, .slice none 0 0], .bool false])) w' := ⟨g, Or.inl ⟨h, rfl⟩⟩
theorem seg_good {L : List Int} {i : Nat} {w w5 w6 : World} {s : Img.Seg} {q : Option Addr} {c : Nat} (hS : Img.segAt L i = some s) (hlt : w.heap.size < w5.heap.size) (g5 : Bw w w5) (hb6 : Bw w5 w6) (ho : Own8 w5 w6 (.slice q s.bytes.length c) s.bytes) (hwf : Img.Wf s) (v0 v1 v2 v3 : Value) :
    SegPost L i w (.returned (.tuple #[.agg #[.int .u32 s.addr, .int .u32 s.size, .int .i64 s.perm, .slice q s.bytes.length c], .bool true])) (((((w6.setCell ⟨w.heap.size, 0, none⟩ v0).setCell ⟨w.heap.size, 1, none⟩ v1).setCell ⟨w.heap.size, 2, none⟩ v2).setCell ⟨w.heap.size, 3, none⟩ v3).drew) := by
  have hQ := (((((Bq.refl w.heap.size w6).set 0 v0).set 1 v1).set 2 v2).set 3 v3).bw ((Bw.refl _).drew)
  refine ⟨hQ.toBw (g5.trans hb6) (Nat.le_refl _), Or.inr ⟨s, q, c, hS, rfl, RdR.q ho.rd hQ (fun a k c' e hk => ?_), hwf, fun a e => ?_⟩⟩
  · have := ho.blk a.block (by rw [e]; rfl)
    omega
  · have := ho.blk a.block (by rw [e]; rfl)
    omega
theorem Rd8.cutS {w : World} {b o cap : Nat} {l : List Int} (hbl : b < w.heap.size) (hc : ∀ i x, l[i]? = some x → w.cell? ⟨b, o + i, none⟩ = some (.int .u8 x)) (hcap : l.length ≤ cap) (hc2 : cap ≤ 9223372036854775807) (i m : Nat) (him : i + m ≤ l.length) :
    Rd8 w (.slice (if cap = i then some ⟨b, o, none⟩ else some ⟨b, o + i, none⟩) m (cap - i)) (Img.cut l i m) := by
  by_cases h : cap = i
  · obtain rfl : m = 0 := by omega
    rw [if_pos h]
    have : Img.cut l i 0 = [] := by simp [Img.cut]
    rw [this]
    exact ⟨_, cap - i, rfl, by simp, by omega, by simp [ints8], fun h => by simp at h⟩
  · rw [if_neg h]
    exact Rd8.part hbl hc i m him (by omega) (by omega)
set_option maxHeartbeats 4000000 in
set_option maxRecDepth 100000 in
theorem readSegment_c (v : Value) (L : List Int) (i : Nat) (w : World) (hv : Rd8 w v L) (h8 : B8s L) (hl : L.length ≤ 70000) (hi : i ≤ 10000) : Calls Try.prog 22 #[v, .int .i64 i] w (SegPost L i w) := by
  obtain ⟨q, cap, rfl, hc1, hc2, hcell⟩ := hv.open
  have hRB := Box.new w [.int .u32 0, .int .u32 0, .int .i64 0, .slice none 0 0] 30
  have hbw0 : Bw w (w.alloc (.cells [.int .u32 0, .int .u32 0, .int .i64 0, .slice none 0 0].toArray 30)) := (Bw.refl w).alloc _
  by_cases h32 : L.length < i + 32
  · have h32i : (L.length : Int) < i + 32 := by omega
    have hn : Img.segAt L i = none := by unfold Img.segAt; rw [if_pos h32]
    go_enter Try.func22, Try.ntmps22
    go_wp2_with fail
    go_returns
    exact seg_bad hn (by (repeat' (first | (with_reducible assumption) | (with_reducible exact Bw.refl _) | (with_reducible refine Bw.alloc ?_ _) | (with_reducible refine Bw.drew ?_) | (with_reducible refine Bw.drewN ?_ _) | (with_reducible refine Bw.setCell ?_ ?_ _) | exact Nat.le_refl _)))
  have h32i : (i : Int) + 32 ≤ L.length := by omega
  obtain ⟨b, o, rfl, hbl, hcl⟩ := hcell (by omega)
  go_enter Try.func22, Try.ntmps22
  go_wp2_with fail
  simp only [Nat.add_sub_cancel_left]
  obtain ⟨C1, hC1⟩ : ∃ C1, cap - i = C1 := ⟨_, rfl⟩
  rw [hC1]
  have hC1b : 32 ≤ C1 ∧ C1 ≤ 9223372036854775807 := by omega
  obtain ⟨c32, cmx⟩ := hC1b
  obtain ⟨f, hf⟩ : ∃ f : Nat → Int, ∀ k, Img.word L (i + k) = f k := ⟨_, fun _ => rfl⟩
  have hW : ∀ X, Bw w X → ∀ k n c : Nat, k + 4 ≤ 32 → 4 ≤ n → n ≤ c → Calls Try.prog 21 #[.slice (some ⟨b, o + i + k, none⟩) n c] X fun e w' => e = .returned (.int .u32 (f k)) ∧ Bw X w' := fun X g k n c hk hn hc => by
    have := readWord_at w L b o h8 hcl X g (o + i + k) n c hn hc (by omega) (by omega)
    rwa [show o + i + k - o = i + k by omega, hf] at this
  obtain ⟨k1, k2, k3, k4, k5⟩ : C1 ≠ 4 ∧ C1 ≠ 8 ∧ C1 ≠ 16 ∧ C1 ≠ 20 ∧ C1 ≠ 24 := by omega
  obtain ⟨j1, j2, j3, j4, j5⟩ : (4 : Int) ≤ C1 ∧ (8 : Int) ≤ C1 ∧ (16 : Int) ≤ C1 ∧ (20 : Int) ≤ C1 ∧ (24 : Int) ≤ C1 := by omega
  have j6 : (32 : Int) ≤ C1 := by omega
  obtain ⟨w1, hw1⟩ : ∃ w1, w.alloc (Obj.cells #[Value.int IntKind.u32 0, Value.int IntKind.u32 0, Value.int IntKind.i64 0, Value.slice none 0 0] 30) = w1 := ⟨_, rfl⟩
  have hRB : Box w1 w.heap.size [.int .u32 0, .int .u32 0, .int .i64 0, .slice none 0 0] := hw1 ▸ hRB
  have hbw0 : Bw w w1 := hw1 ▸ hbw0
  rw [hw1]
  have hSeg : Img.segAt L i = (if 7 < f 24 then none else if Img.row (f 4) (f 8) (f 16) (f 20) (f 24) ≠ Img.cut L i 32 then none else if (L.length : Int) < f 4 + f 16 then none else some ⟨f 8, f 20, Img.swap (f 24), Img.cut L (f 4).toNat (f 16).toNat⟩) := by
    unfold Img.segAt; rw [if_neg h32]; simp only [hf]
  have hfb : ∀ k, 0 ≤ f k ∧ f k < 4294967296 := fun k => hf k ▸ Img.word_bd h8 (i + k)
  have hTold : Rd8 w (.slice (some ⟨b, o + i, none⟩) 32 C1) (Img.cut L i 32) := Rd8.part hbl hcl i 32 (by omega) (by omega) (by omega)
  clear hw1 hcell hv
  go_cut [7] from 21 to 36 (fun s7 wx => ∃ rb, s7 = .pointer (some ⟨rb, 0, none⟩) ∧ w1.heap.size ≤ rb ∧ Bw w1 wx ∧ Box wx rb [.int .u32 (f 4), .int .u32 (f 8), .int .u32 (f 16), .int .u32 (f 20), .int .u32 (f 24)])
  case first =>
    have hB1 : Bw w1 w1.drew := (Bw.refl w1).drew
    go_region_held3 (fun wr => True) (exact trivial)
      (first | (go_at_call 21; refine (hW _ (hbw0.trans (by (repeat' (first | (with_reducible assumption) | (with_reducible exact Bw.refl _) | (with_reducible refine Bw.alloc ?_ _) | (with_reducible refine Bw.drew ?_) | (with_reducible refine Bw.drewN ?_ _) | (with_reducible refine Bw.setCell ?_ ?_ _) | exact Nat.le_refl _)))) _ _ _ (by omega) (by omega) (by omega)).mono ?_; rintro e w3 ⟨rfl, hb3⟩
                (first
                  | with_reducible (have hbx := (Box.new _ _ _).bw hb3); have hle := Bw.sz hB1; with_reducible (replace hB1 := (hB1.alloc _).trans hb3); have x0 := hbx.c 0 _ rfl; have x1 := hbx.c 1 _ rfl; have x2 := hbx.c 2 _ rfl; have x3 := hbx.c 3 _ rfl; have x4 := hbx.c 4 _ rfl; have z0 := hbx.f 0 (by simp); have z1 := hbx.f 1 (by simp); have z2 := hbx.f 2 (by simp); have z3 := hbx.f 3 (by simp); have z4 := hbx.f 4 (by simp)
                  | with_reducible (replace hB1 := hB1.trans hb3; replace hbx := hbx.bw hb3); clear x0 x1 x2 x3 x4 z0 z1 z2 z3 z4; have x0 := hbx.c 0 _ rfl; have x1 := hbx.c 1 _ rfl; have x2 := hbx.c 2 _ rfl; have x3 := hbx.c 3 _ rfl; have x4 := hbx.c 4 _ rfl; have z0 := hbx.f 0 (by simp); have z1 := hbx.f 1 (by simp); have z2 := hbx.f 2 (by simp); have z3 := hbx.f 3 (by simp); have z4 := hbx.f 4 (by simp)
                  | with_reducible (replace hB1 := hB1.trans hb3)
                  | with_reducible (have hbx := ((Box.new _ _ _).bw ((Bw.refl _).drew)).bw hb3); have hle := Nat.le_refl w1.heap.size; with_reducible (replace hB1 := (((Bw.refl _).alloc _).drew).trans hb3); have x0 := hbx.c 0 _ rfl; have x1 := hbx.c 1 _ rfl; have x2 := hbx.c 2 _ rfl; have x3 := hbx.c 3 _ rfl; have x4 := hbx.c 4 _ rfl; have z0 := hbx.f 0 (by simp); have z1 := hbx.f 1 (by simp); have z2 := hbx.f 2 (by simp); have z3 := hbx.f 3 (by simp); have z4 := hbx.f 4 (by simp))
                clear hb3))
    · go_wp2_with fail
      go_meet
      exact ⟨_, rfl, hB1.sz, hB1.alloc _, Box.new _ _ _⟩
    all_goals
      go_wp2_with fail
      go_meet
      exact ⟨_, rfl, hbx.fill5 hB1 hle _ _ _ _ _⟩
  case rest =>
    obtain ⟨rb, rfl, hle, hB, hbx⟩ := hcut
    have hBw := hbw0.trans hB
    have hrl1 := hRB.lt
    have hrl : w.heap.size < wc.heap.size := Nat.lt_of_lt_of_le hrl1 hB.sz
    have hrn : w.heap.size ≠ rb := by omega
    replace hRB := hRB.bw hB
    have HSeg : Hid _ := hSeg
    clear hSeg hf hB hle hrl1 hbw0
    have r0 := hRB.c 0 _ rfl; have r1 := hRB.c 1 _ rfl; have r2 := hRB.c 2 _ rfl; have r3 := hRB.c 3 _ rfl
    have q0 := hRB.f 0 (by simp); have q1 := hRB.f 1 (by simp); have q2 := hRB.f 2 (by simp); have q3 := hRB.f 3 (by simp)
    have x0 := hbx.c 0 _ rfl; have x1 := hbx.c 1 _ rfl; have x2 := hbx.c 2 _ rfl; have x3 := hbx.c 3 _ rfl; have x4 := hbx.c 4 _ rfl
    obtain ⟨b4, b4'⟩ := hfb 4
    obtain ⟨b16, b16'⟩ := hfb 16
    obtain ⟨b24, b24'⟩ := hfb 24
    by_cases h7 : 7 < f 24
    · have hn : Img.segAt L i = none := by rw [show _ = _ from HSeg, if_pos h7]
      have HN : Hid _ := hn
      clear hn
      go_wp2_with fail
      (try simp only [Exit.inBlock, Exit.then]); refine bodyPost_ret (by simp [results, Try.results22, go_sem, r0, r1, r2, r3]; try rfl) rfl ?_
      exact seg_bad HN (by (repeat' (first | (with_reducible assumption) | (with_reducible exact Bw.refl _) | (with_reducible refine Bw.alloc ?_ _) | (with_reducible refine Bw.drew ?_) | (with_reducible refine Bw.drewN ?_ _) | (with_reducible refine Bw.setCell ?_ ?_ _) | exact Nat.le_refl _)))
    have h7' : f 24 ≤ 7 := by omega
    have HN7 : Hid _ := h7
    have hAR := appendRow_c (w0 := w) (wr := wc) (v := .slice none 0 0) (l := []) (f 4) (f 8) (f 16) (f 20) (f 24) (hfb 4) (hfb 8) (hfb 16) (hfb 20) (hfb 24) (Own8.nil _ _) hBw (by simp)
    rw [List.nil_append] at hAR
    have hr8 := Img.row_b8 (hfb 4) (hfb 8) (hfb 16) (hfb 20) (hfb 24)
    go_wp2_with fail
    refine hAR.mono ?_
    rintro e w4 ⟨v4, rfl, hO, hB4, hA4⟩
    have hB5 : Bw wc w4 := hA4.toBw (Bw.refl wc) (by simp [Value.ownBlock])
    have hEq := Equal_c _ _ _ _ w4 hO.rd (hTold.bw hB4) hr8 (Img.cut_b8 h8 i 32)
    obtain ⟨EB, hEB⟩ : ∃ EB : Bool, decide (Img.row (f 4) (f 8) (f 16) (f 20) (f 24) = Img.cut L i 32) = EB := ⟨_, rfl⟩
    rw [hEB] at hEq
    have HEB : Hid _ := hEB
    clear hAR hA4 hO hEB hTold hr8 r0 r1 r2 r3 q0 q1 q2 q3 x0 x1 x2 x3 x4
    go_wp2_with fail
    refine hEq.mono ?_
    rintro e w5 ⟨rfl, hb5⟩
    replace hB5 := hB5.trans hb5
    replace hBw := hBw.trans hB5
    replace hrl := Nat.lt_of_lt_of_le hrl hB5.sz
    replace hRB := hRB.bw hB5
    replace hbx := hbx.bw hB5
    clear hB4 hEq hb5
    have r0 := hRB.c 0 _ rfl; have r1 := hRB.c 1 _ rfl; have r2 := hRB.c 2 _ rfl; have r3 := hRB.c 3 _ rfl
    have q0 := hRB.f 0 (by simp); have q1 := hRB.f 1 (by simp); have q2 := hRB.f 2 (by simp); have q3 := hRB.f 3 (by simp)
    have x0 := hbx.c 0 _ rfl; have x1 := hbx.c 1 _ rfl; have x2 := hbx.c 2 _ rfl; have x3 := hbx.c 3 _ rfl; have x4 := hbx.c 4 _ rfl
    cases EB
    · have hn : Img.segAt L i = none := by rw [show _ = _ from HSeg, if_neg (show ¬ 7 < f 24 from HN7), if_pos (of_decide_eq_false HEB)]
      have HN : Hid _ := hn
      clear hn
      go_wp2_with fail
      (try simp only [Exit.inBlock, Exit.then]); refine bodyPost_ret (by simp [results, Try.results22, go_sem, r0, r1, r2, r3]; try rfl) rfl ?_
      exact seg_bad HN (by (repeat' (first | (with_reducible assumption) | (with_reducible exact Bw.refl _) | (with_reducible refine Bw.alloc ?_ _) | (with_reducible refine Bw.drew ?_) | (with_reducible refine Bw.drewN ?_ _) | (with_reducible refine Bw.setCell ?_ ?_ _) | exact Nat.le_refl _)))
    have hrow : Img.row (f 4) (f 8) (f 16) (f 20) (f 24) = Img.cut L i 32 := of_decide_eq_true HEB
    have hS2 : Hid (Img.segAt L i = if (L.length : Int) < f 4 + f 16 then none else some ⟨f 8, f 20, Img.swap (f 24), Img.cut L (f 4).toNat (f 16).toNat⟩) := by
      show _ = _
      rw [show _ = _ from HSeg, if_neg (show ¬ 7 < f 24 from HN7), if_neg (by simpa using hrow)]
    clear hrow HSeg HEB
    have m1 : IntKind.u64.wrap (f 4) = f 4 := by rw [IntKind.wrap_u64]; omega
    have m2 : IntKind.u64.wrap (f 16) = f 16 := by rw [IntKind.wrap_u64]; omega
    have m3 : IntKind.u64.wrap (f 4 + f 16) = f 4 + f 16 := by rw [IntKind.wrap_u64]; omega
    have m4 : IntKind.u64.wrap (L.length : Int) = L.length := by rw [IntKind.wrap_u64]; omega
    by_cases hbig : (L.length : Int) < f 4 + f 16
    · have hn : Hid (Img.segAt L i = none) := by show _ = _; rw [show _ = _ from hS2, if_pos hbig]
      clear hS2
      go_wp2_with fail
      (try simp only [Exit.inBlock, Exit.then]); refine bodyPost_ret (by simp [results, Try.results22, go_sem, r0, r1, r2, r3]; try rfl) rfl ?_
      exact seg_bad hn (by (repeat' (first | (with_reducible assumption) | (with_reducible exact Bw.refl _) | (with_reducible refine Bw.alloc ?_ _) | (with_reducible refine Bw.drew ?_) | (with_reducible refine Bw.drewN ?_ _) | (with_reducible refine Bw.setCell ?_ ?_ _) | exact Nat.le_refl _)))
    have hsm : f 4 + f 16 ≤ L.length := by omega
    have hS3 : Hid (Img.segAt L i = some ⟨f 8, f 20, Img.swap (f 24), Img.cut L (f 4).toNat (f 16).toNat⟩) := by show _ = _; rw [show _ = _ from hS2, if_neg hbig]
    clear hS2 hbig
    have hM : (f 4 + f 16).toNat - (f 4).toNat = (f 16).toNat := by omega
    have hPC : (f 4).toNat + (f 16).toNat ≤ L.length := by omega
    have hR8 := Rd8.cutS (Nat.lt_of_lt_of_le hbl hBw.sz) (fun j x (h : L[j]? = some x) => hBw.keep (hcl j x h)) hc1 hc2 (f 4).toNat (f 16).toNat hPC
    obtain ⟨v6, w6, hr6, ho6, hb6, ha6⟩ := app8S (w0 := w5) (Own8.nil _ _) (Bw.refl _) hR8 (by rw [Img.cut_len hPC]; simp; omega)
    rw [List.nil_append] at ho6
    have i1 : f 4 ≤ f 4 + f 16 := by omega
    have i2 : f 4 + f 16 ≤ (cap : Int) := by omega
    have HF : Hid ((0 : Int) ≤ f 8 ∧ f 8 < 4294967296) := hfb 8
    have HF2 : Hid ((0 : Int) ≤ f 20 ∧ f 20 < 4294967296) := hfb 20
    have HO6 : Hid _ := ho6
    have HPC : Hid _ := hPC
    clear hfb hcl ho6 hR8 hPC
    go_wp2_with (first | (at_builtin; (try simp only [hM]); refine wpApp rfl _ _ 28 rfl rfl rfl hr6 ?_) | go_in)
    all_goals
      have hB6 : Bw w5 w6 := hb6
      obtain ⟨q6, c6, rfl, -⟩ := (show Own8 _ _ _ _ from HO6).rd.open
      replace hbx := hbx.bw hB6
      replace hRB := hRB.bw hB6
      have hrl6 := hRB.lt
      clear r0 r1 r2 r3 q0 q1 q2 q3 x0 x1 x2 x3 x4 hr6 ha6
      have r0 := hRB.c 0 _ rfl; have r1 := hRB.c 1 _ rfl; have r2 := hRB.c 2 _ rfl; have r3 := hRB.c 3 _ rfl
      have q0 := hRB.f 0 (by simp); have q1 := hRB.f 1 (by simp); have q2 := hRB.f 2 (by simp); have q3 := hRB.f 3 (by simp)
      have x1 := hbx.c 1 _ rfl; have x3 := hbx.c 3 _ rfl; have x4 := hbx.c 4 _ rfl
      have hSw := fun X => swapPerm_c (f 24) b24 h7' X
      obtain ⟨s0, s1⟩ := Img.swap_bd (p := f 24)
      obtain ⟨SW, hSW⟩ : ∃ x, Img.swap (f 24) = x := ⟨_, rfl⟩
      rw [hSW] at s0 s1
      simp only [hSW] at hSw
      have HSW : Hid _ := hSW
      have n1 : IntKind.i64.wrap SW = SW := by rw [IntKind.wrap_i64]; omega
      have hrn2 : rb ≠ w.heap.size := fun e => hrn e.symm
      clear hSW
      refine wp_region_held_drew (S := fun wx => wx.cell? ⟨rb, 1, none⟩ = some (.int .u32 (f 8)) ∧ wx.cell? ⟨rb, 3, none⟩ = some (.int .u32 (f 20)) ∧ wx.cell? ⟨rb, 4, none⟩ = some (.int .u32 (f 24))) (by kernel_rfl) ⟨x1, x3, x4⟩ (fun hHeld => ?_)
      refine wpAnyH_take (i := 0) (oi := ⟨some 67, _, _, _, _, _⟩) (v := ?_) rfl (by kernel_rfl) (by kernel_rfl) (by kernel_rfl) (fun _ _ _ h => h) (Or.inl ⟨by rfl, ?_⟩) (by assumption) ?_; (rotate_left 1); (focus (intro wz hSw; (try dsimp only at hSw); go_simp; try (with_reducible rfl))); simp only [Act.put, List.setIfInBounds_toArray, List.set_cons_zero, List.set_cons_succ]
      refine wpAnyH_take (i := 1) (oi := ⟨some 68, _, _, _, _, _⟩) (v := ?_) rfl (by kernel_rfl) (by kernel_rfl) (by kernel_rfl) (fun _ _ _ h => h) (Or.inl ⟨by rfl, ?_⟩) (by assumption) ?_; (rotate_left 1); (focus (intro wz hSw; (try dsimp only at hSw); go_simp; try (with_reducible rfl))); simp only [Act.put, List.setIfInBounds_toArray, List.set_cons_zero, List.set_cons_succ]
      refine wpAnyH_take (i := 2) (oi := ⟨some 69, _, _, _, _, _⟩) (v := ?_) rfl (by kernel_rfl) (by kernel_rfl) (by kernel_rfl) (fun _ _ _ h => h) (Or.inl ⟨by rfl, ?_⟩) (by assumption) ?_; (rotate_left 1); (focus (intro wz hSw; (try dsimp only at hSw); go_simp; try (with_reducible rfl))); simp only [Act.put, List.setIfInBounds_toArray, List.set_cons_zero, List.set_cons_succ]
      refine wpAnyH_take (i := 3) (oi := ⟨some 70, _, _, _, _, _⟩) (v := ?_) rfl (by kernel_rfl) (by kernel_rfl) (by kernel_rfl) (fun _ _ _ h => h) (Or.inl ⟨by rfl, ?_⟩) (by assumption) ?_; (rotate_left 1); (focus (intro wz hSw; (try dsimp only at hSw); go_simp; try (with_reducible rfl))); simp only [Act.put, List.setIfInBounds_toArray, List.set_cons_zero, List.set_cons_succ]
      refine wpAnyH_take (i := 4) (oi := ⟨some 71, _, _, _, _, _⟩) (v := ?_) rfl (by kernel_rfl) (by kernel_rfl) (by kernel_rfl) (fun _ _ _ h => h) (Or.inl ⟨by rfl, ?_⟩) (by assumption) ?_; (rotate_left 1); (focus (intro wz hSw; (try dsimp only at hSw); go_simp; try (with_reducible rfl))); simp only [Act.put, List.setIfInBounds_toArray, List.set_cons_zero, List.set_cons_succ]
      refine wpAnyH_take (i := 5) (oi := ⟨some 72, _, _, _, _, _⟩) (v := ?_) rfl (by kernel_rfl) (by kernel_rfl) (by kernel_rfl) (fun _ _ _ h => h) (Or.inl ⟨by rfl, ?_⟩) (by assumption) ?_; (rotate_left 1); (focus (intro wz hSw; (try dsimp only at hSw); go_simp; try (with_reducible rfl))); simp only [Act.put, List.setIfInBounds_toArray, List.set_cons_zero, List.set_cons_succ]
      refine wpAnyH_take (i := 8) (oi := ⟨some 75, _, _, _, _, _⟩) (v := ?_) rfl (by kernel_rfl) (by kernel_rfl) (by kernel_rfl) (fun _ _ _ h => h) (Or.inl ⟨by rfl, ?_⟩) (by assumption) ?_; (rotate_left 1); (focus (intro wz hSw; (try dsimp only at hSw); go_simp; try (with_reducible rfl))); simp only [Act.put, List.setIfInBounds_toArray, List.set_cons_zero, List.set_cons_succ]
      refine wpAnyH_ready (rs := [6]) (by kernel_rfl) (by simp) ?_; refine AllReadyH.cons rfl (fun K hK => ?_) AllReadyH.nil; go_simp
      refine (hSw _).mono ?_
      rintro e w7 ⟨rfl, rfl⟩
      (try clear hHeld); refine hK.out _ _ ?_ (fun hHeld => ?_)
      · exact ⟨x1, x3, x4⟩
      refine wpAnyH_take (i := 7) (oi := ⟨some 74, _, _, _, _, _⟩) (v := ?_) rfl (by kernel_rfl) (by kernel_rfl) (by kernel_rfl) (fun _ _ _ h => h) (Or.inl ⟨by rfl, ?_⟩) (by assumption) ?_; (rotate_left 1); (focus (intro wz hSw; (try dsimp only at hSw); go_simp; try (with_reducible rfl))); simp only [Act.put, List.setIfInBounds_toArray, List.set_cons_zero, List.set_cons_succ]
      refine wpAnyH_take (i := 9) (oi := ⟨some 76, _, _, _, _, _⟩) (v := ?_) rfl (by kernel_rfl) (by kernel_rfl) (by kernel_rfl) (fun _ _ _ h => h) (Or.inl ⟨by rfl, ?_⟩) (by assumption) ?_; (rotate_left 1); (focus (intro wz hSw; (try dsimp only at hSw); go_simp; try (with_reducible rfl))); simp only [Act.put, List.setIfInBounds_toArray, List.set_cons_zero, List.set_cons_succ]
      refine wpAnyH_ready (rs := [10]) (by kernel_rfl) (by simp) ?_; refine AllReadyH.cons rfl (fun K hK => ?_) AllReadyH.nil; go_simp
      (try clear hHeld); refine hK.out _ _ ?_ (fun hHeld => ?_)
      · have g := (((hbx.ne hrn2 0 (.int .u32 (f 8))).ne hrn2 1 (.int .u32 (f 20))).ne hrn2 2 (.int .i64 SW)).ne hrn2 3 (.slice q6 (Img.cut L (f 4).toNat (f 16).toNat).length c6)
        have g2 := g.bw ((Bw.refl _).drew)
        exact ⟨g2.c 1 _ rfl, g2.c 3 _ rfl, g2.c 4 _ rfl⟩
      refine wpAnyH_take (i := 11) (oi := ⟨some 5, _, _, _, _, _⟩) (v := ?_) rfl (by kernel_rfl) (by kernel_rfl) (by kernel_rfl) (fun _ _ _ h => h) (Or.inl ⟨by rfl, ?_⟩) (by assumption) ?_; (rotate_left 1); (focus (intro wz hSw; (try dsimp only at hSw); go_simp; try (with_reducible rfl))); simp only [Act.put, List.setIfInBounds_toArray, List.set_cons_zero, List.set_cons_succ]
      refine wpAnyH_done (by kernel_rfl) ?_ _
      have hD := hRB
      clear hbx x1 x3 x4 hRB
      go_wp2_with fail
      (try simp only [Exit.inBlock, Exit.then]); refine bodyPost_ret (by simp [results, Try.results22, go_sem, r0, r1, r2, r3]; try rfl) rfl ?_
      have hfin := seg_good (show _ = _ from hS3) hrl hBw hb6 HO6 ⟨(show _ ∧ _ from HF).1, (show _ ∧ _ from HF).2, (show _ ∧ _ from HF2).1, (show _ ∧ _ from HF2).2, by show _ ≤ Img.swap _; rw [show Img.swap (f 24) = SW from HSW]; omega, by show Img.swap _ ≤ _; rw [show Img.swap (f 24) = SW from HSW]; omega, Img.cut_b8 h8 _ _⟩ (.int .u32 (f 8)) (.int .u32 (f 20)) (.int .i64 SW) (.slice q6 (Img.cut L (f 4).toNat (f 16).toNat).length c6)
      simp only [show Img.swap (f 24) = SW from HSW] at hfin
      exact hfin
end Go.Proofs.Ytaejcbmmapcpgaa
