/- LAYER 7's walks: Get. -/
import Derived.Test.YtkffkmiegmaoiaaPolQ
namespace Go.Proofs.Ytkffkmiegmaoiaa
open Go.ChangeShapes Go.WideShapes Go.ChangeAt Go.RowKit

/-- Get's answer. -/
def GetPost (L : List Int) (w : World) (e : Ending) (w' : World) : Prop := ∃ u, e = .returned (.tuple #[u, .int .i64 (if Pol.isPb L then 0 else 3)]) ∧ IsPol w' u (Pol.get L) ∧ Bw w w'
theorem get_bad {L : List Int} {w w' : World} (h : ¬ Pol.isP L) (g : Bw w w') : GetPost L w (.returned (.tuple #[.agg #[.bool false, .slice none 0 0, .slice none 0 0], .int .i64 3])) w' := by
  have hb : ¬ Pol.isPb L = true := fun e => h ((Pol.isPb_iff L).1 e)
  refine ⟨_, by rw [if_neg hb], ?_, g⟩
  unfold Pol.get; rw [if_neg hb]
  exact ⟨_, _, rfl, SrcS.nil _, SnkS.nil _⟩
theorem sl_eq {q : Option Addr} {a b c : Nat} (h : a = b) : Value.slice q a c = .slice q b c := by rw [h]
theorem strOf_list (a : List Int) : (strOfNums a).toList = a.map fun n => UInt8.ofNat n.toNat := by
  rw [Lib.toList_data]; simp [strOfNums]
theorem u8_of {x y : Int} (hx : B8 x) (hy : B8 y) : UInt8.ofNat x.toNat = UInt8.ofNat y.toNat ↔ x = y := by
  obtain ⟨a, b⟩ := hx; obtain ⟨c, d⟩ := hy
  constructor
  · intro h
    have := congrArg UInt8.toNat h
    simp only [UInt8.toNat_ofNat'] at this
    omega
  · intro h; rw [h]
theorem strOf_map {a b : List Int} (ha : B8s a) (hb : B8s b) : (a.map fun n => UInt8.ofNat n.toNat) = (b.map fun n => UInt8.ofNat n.toNat) ↔ a = b := by
  constructor
  · intro h
    apply List.ext_getElem?
    intro i
    have := congrArg (·[i]?) h
    simp only [List.getElem?_map] at this
    cases hx : a[i]? with
    | none =>
      cases hy : b[i]? with
      | none => rfl
      | some y => rw [hx, hy] at this; simp at this
    | some x =>
      cases hy : b[i]? with
      | none => rw [hx, hy] at this; simp at this
      | some y =>
        rw [hx, hy] at this
        simp only [Option.map_some, Option.some.injEq] at this
        rw [(u8_of (ha x (List.mem_of_getElem? hx)) (hb y (List.mem_of_getElem? hy))).1 this]
  · intro h; rw [h]
theorem strOf_inj {a b : List Int} (ha : B8s a) (hb : B8s b) : strOfNums a = strOfNums b ↔ a = b := by
  constructor
  · intro h
    have := congrArg ByteArray.toList h
    rw [strOf_list, strOf_list] at this
    exact (strOf_map ha hb).1 this
  · intro h; rw [h]
theorem Pol.str3 {L : List Int} (h8 : B8s L) (hl : 4 ≤ L.length) : (strOfNums (L.take 3)).toList = [84, 80, 49] ↔ (Pol.g L 0 = 84 ∧ Pol.g L 1 = 80 ∧ Pol.g L 2 = 49) := by
  rw [strOf_list]
  match L, hl with
  | a :: b :: c :: d :: r, _ =>
    have e := strOf_map (a := [a, b, c]) (b := [84, 80, 49]) (fun x hx => h8 x (by simp at hx ⊢; omega)) (fun x hx => by simp at hx; unfold B8; omega)
    simp only [List.take_succ_cons, List.take_zero]
    refine Iff.trans e ?_
    show _ ↔ a = 84 ∧ b = 80 ∧ c = 49
    simp
set_option maxHeartbeats 4000000 in
set_option maxRecDepth 100000 in
theorem Get_c (v : Value) (L : List Int) (w : World) (hv : Rd8 w v L) (h8 : B8s L) (hl : L.length ≤ 100000) : Calls Try.prog 10 #[v] w (GetPost L w) := by
  obtain ⟨q, cap, rfl, hc1, hc2, hcell⟩ := hv.open
  by_cases h4 : L.length < 4
  · have h4i : (L.length : Int) < 4 := by omega
    go_enter Try.func10, Try.ntmps10
    go_wp2_with fail
    go_returns
    exact get_bad (fun h => by have := h.1.1; omega) (by (repeat' (first | (with_reducible assumption) | (with_reducible exact Bw.refl _) | (with_reducible refine Bw.alloc ?_ _) | (with_reducible refine Bw.drew ?_) | (with_reducible refine Bw.drewN ?_ _) | (with_reducible refine Bw.setCell ?_ ?_ _) | exact Nat.le_refl _)))
  have h4i : (4 : Int) ≤ L.length := by omega
  obtain ⟨b, o, rfl, hbl, hcl⟩ := hcell (by omega)
  have hlt : ¬ ((L.length : Int) < 4) := by omega
  have hc3 : (3 : Int) ≤ cap := by omega
  have hcv0 := conv8R (w := w.alloc (.cells #[.bool false, .slice none 0 0, .slice none 0 0] 26)) (b := b) (o := o) (n := 3) (cap := cap) (l := L.take 3) (by rw [List.length_take]; omega) (fun i x hx => ((Bw.refl w).alloc _).keep (hcl i x (by rw [List.getElem?_take] at hx; split at hx; exact hx; simp at hx)))
  have hd3 := ((Bw.refl w).alloc (.cells #[.bool false, .slice none 0 0, .slice none 0 0] 26)).keep (hcl 3 _ (Pol.g_at (l := L) (i := 3) (by omega)))
  have hstr := Pol.str3 h8 (by omega : 4 ≤ L.length)
  have hgb := h8.g 3
  clear hv hcell
  by_cases hh : Pol.g L 0 = 84 ∧ Pol.g L 1 = 80 ∧ Pol.g L 2 = 49
  rotate_left
  · have hs1 := fun h => hh (hstr.1 h)
    have hs2 : ((strOfNums (L.take 3)).toList == [84, 80, 49]) = false := by simpa using hs1
    have hs3 : ((strOfNums (L.take 3)).toList != [84, 80, 49]) = true := by simpa using hs1
    clear hstr
    generalize strOfNums (L.take 3) = str at *
    go_enter Try.func10, Try.ntmps10
    go_wp2_with fail
    go_returns
    exact get_bad (fun h => hh ⟨h.1.2.1, h.1.2.2.1, h.1.2.2.2.1⟩) (by (repeat' (first | (with_reducible assumption) | (with_reducible exact Bw.refl _) | (with_reducible refine Bw.alloc ?_ _) | (with_reducible refine Bw.drew ?_) | (with_reducible refine Bw.drewN ?_ _) | (with_reducible refine Bw.setCell ?_ ?_ _) | exact Nat.le_refl _)))
  replace hstr := hstr.2 hh
  generalize strOfNums (L.take 3) = str at *
  obtain ⟨g0, g1⟩ := hgb
  by_cases h31 : 1 < Pol.g L 3
  · go_enter Try.func10, Try.ntmps10
    go_wp2_with fail
    go_returns
    exact get_bad (fun h => by have := h.1.2.2.2.2.1; omega) (by (repeat' (first | (with_reducible assumption) | (with_reducible exact Bw.refl _) | (with_reducible refine Bw.alloc ?_ _) | (with_reducible refine Bw.drew ?_) | (with_reducible refine Bw.drewN ?_ _) | (with_reducible refine Bw.setCell ?_ ?_ _) | exact Nat.le_refl _)))
  have h31' : Pol.g L 3 ≤ 1 := by omega
  by_cases h44 : L.length = 4
  · have hz : L.length - 4 = 0 := by omega
    go_enter Try.func10, Try.ntmps10
    go_wp2_with fail
    all_goals
      refine (cutRows_none _ _ _ _).mono ?_
      rintro e w2 ⟨rfl, rfl⟩
      go_wp2_with fail
      go_returns
      exact get_bad (fun h => by have := h.1.2.2.2.2.2.1; unfold Pol.p2 at this; omega) (by (repeat' (first | (with_reducible assumption) | (with_reducible exact Bw.refl _) | (with_reducible refine Bw.alloc ?_ _) | (with_reducible refine Bw.drew ?_) | (with_reducible refine Bw.drewN ?_ _) | (with_reducible refine Bw.setCell ?_ ?_ _) | exact Nat.le_refl _)))
  have hc4 : cap ≠ 4 := by omega
  have hd4 := ((Bw.refl w).alloc (.cells #[.bool false, .slice none 0 0, .slice none 0 0] 26)).keep (hcl 4 _ (Pol.g_at (l := L) (i := 4) (by omega)))
  have hN1 : Pol.g L 4 = ((Pol.n1 L : Nat) : Int) := by have := h8.g 4; unfold B8 at this; unfold Pol.n1; omega
  have hN1b : Pol.n1 L < 256 := by have := h8.g 4; unfold B8 at this; omega
  rw [hN1] at hd4
  by_cases hp2 : L.length < Pol.p2 L
  · have hC := cutRows_far _ b (o + 4) (L.length - 4) (cap - 4) (Pol.n1 L) 10 hN1b (by omega) (by omega) (by unfold Pol.p2 at hp2; omega) hd4
    go_enter Try.func10, Try.ntmps10
    go_wp2_with fail
    refine hC.mono ?_
    rintro e w2 ⟨rfl, rfl⟩
    go_wp2_with fail
    go_returns
    exact get_bad (fun h => by have := h.1.2.2.2.2.2.1; omega) (by (repeat' (first | (with_reducible assumption) | (with_reducible exact Bw.refl _) | (with_reducible refine Bw.alloc ?_ _) | (with_reducible refine Bw.drew ?_) | (with_reducible refine Bw.drewN ?_ _) | (with_reducible refine Bw.setCell ?_ ?_ _) | exact Nat.le_refl _)))
  have hC := cutRows_ok _ b (o + 4) (L.length - 4) (cap - 4) (Pol.n1 L) 10 hN1b (by omega) (by unfold Pol.p2 at hp2; omega) (by omega) (by omega) hd4
  go_enter Try.func10, Try.ntmps10
  go_wp2_with fail
  refine hC.mono ?_
  rintro e w2 ⟨q1, q2, rfl, hq1, hq2, hb2⟩
  clear hC
  obtain ⟨R, hR⟩ : ∃ R, L.length - 4 - (1 + Pol.n1 L * 10) = R := ⟨_, rfl⟩
  obtain ⟨C2, hC2⟩ : ∃ C, cap - 4 - (1 + Pol.n1 L * 10) = C := ⟨_, rfl⟩
  have hRp : L.length = Pol.p2 L + R := by unfold Pol.p2 at hp2 ⊢; omega
  have hCR : R ≤ C2 ∧ C2 ≤ 9223372036854775807 := by omega
  obtain ⟨hCR1, hCR2⟩ := hCR
  have rb2 := (PBox.new w false (.slice none 0 0) (.slice none 0 0) 26).bw hb2
  have r0 := rb2.c0; have r1 := rb2.c1; have r2 := rb2.c2; have z0 := rb2.f0; have z1 := rb2.f1; have z2 := rb2.f2
  simp only [hR, hC2] at hq2 ⊢
  have hadr : o + 4 + (1 + Pol.n1 L * 10) = o + Pol.p2 L := by unfold Pol.p2; omega
  rw [hadr] at hq2
  have hbw2 := ((Bw.refl w).alloc (.cells #[.bool false, .slice none 0 0, .slice none 0 0] 26)).trans hb2
  have HR : Hid _ := hR
  clear hR hC2
  by_cases hR0 : R = 0
  · subst hR0
    go_wp2_with fail
    refine (cutRows_none _ _ _ _).mono ?_
    rintro e w3 ⟨rfl, rfl⟩
    go_wp2_with fail
    (try simp only [Exit.inBlock, Exit.then]); refine bodyPost_ret (by simp [results, Try.results10, go_sem, r0, r1, r2]; try rfl) rfl ?_
    exact get_bad (fun h => by have := h.1.2.2.2.2.2.1; omega) (by (repeat' (first | (with_reducible assumption) | (with_reducible exact Bw.refl _) | (with_reducible refine Bw.alloc ?_ _) | (with_reducible refine Bw.drew ?_) | (with_reducible refine Bw.drewN ?_ _) | (with_reducible refine Bw.setCell ?_ ?_ _) | exact Nat.le_refl _)))
  obtain rfl := hq2 (by omega)
  have hd5 := hbw2.keep (hcl (Pol.p2 L) _ (Pol.g_at (l := L) (i := Pol.p2 L) (by omega)))
  have hN2 : Pol.g L (Pol.p2 L) = ((Pol.n2 L : Nat) : Int) := by have := h8.g (Pol.p2 L); unfold B8 at this; unfold Pol.n2; omega
  have hN2b : Pol.n2 L < 256 := by have := h8.g (Pol.p2 L); unfold B8 at this; omega
  rw [hN2] at hd5
  by_cases hp3 : R < 1 + Pol.n2 L * 3
  · have hC := cutRows_far w2 b (o + Pol.p2 L) R C2 (Pol.n2 L) 3 hN2b (by omega) (by omega) hp3 hd5
    go_wp2_with fail
    refine hC.mono ?_
    rintro e w3 ⟨rfl, rfl⟩
    go_wp2_with fail
    (try simp only [Exit.inBlock, Exit.then]); refine bodyPost_ret (by simp [results, Try.results10, go_sem, r0, r1, r2]; try rfl) rfl ?_
    exact get_bad (fun h => by have := h.1.2.2.2.2.2.2; omega) (by (repeat' (first | (with_reducible assumption) | (with_reducible exact Bw.refl _) | (with_reducible refine Bw.alloc ?_ _) | (with_reducible refine Bw.drew ?_) | (with_reducible refine Bw.drewN ?_ _) | (with_reducible refine Bw.setCell ?_ ?_ _) | exact Nat.le_refl _)))
  have hC := cutRows_ok w2 b (o + Pol.p2 L) R C2 (Pol.n2 L) 3 hN2b (by omega) (by omega) hCR1 hCR2 hd5
  go_wp2_with fail
  refine hC.mono ?_
  rintro e w3 ⟨q3, q4, rfl, hq3, hq4, hb3⟩
  clear hC
  have hbw3 := hbw2.trans hb3
  have rb3 := rb2.bw hb3
  have hbw3' := hb2.trans hb3
  clear r0 r1 r2 z0 z1 z2 rb2
  have r0 := rb3.c0; have r1 := rb3.c1; have r2 := rb3.c2; have z0 := rb3.f0; have z1 := rb3.f1; have z2 := rb3.f2
  by_cases hp3' : R - (1 + Pol.n2 L * 3) = 0
  rotate_left
  · have hpos : (0 : Int) < ((R - (1 + Pol.n2 L * 3) : Nat) : Int) := by omega
    have hposn : 0 < R - (1 + Pol.n2 L * 3) := by omega
    go_wp2_with fail
    (try simp only [Exit.inBlock, Exit.then]); refine bodyPost_ret (by simp [results, Try.results10, go_sem, r0, r1, r2]; try rfl) rfl ?_
    exact get_bad (fun h => by have := h.1.2.2.2.2.2.2; omega) (by (repeat' (first | (with_reducible assumption) | (with_reducible exact Bw.refl _) | (with_reducible refine Bw.alloc ?_ _) | (with_reducible refine Bw.drew ?_) | (with_reducible refine Bw.drewN ?_ _) | (with_reducible refine Bw.setCell ?_ ?_ _) | exact Nat.le_refl _)))
  rw [hp3']
  have hlies : Pol.lies L := ⟨by omega, hh.1, hh.2.1, hh.2.2, h31', by omega, by omega⟩
  have HL : Hid _ := hlies
  clear hlies hb3 hb2 hq4 hd4 hd5 hcv0 hstr
  have hd3' := hbw3.keep (hcl 3 _ (Pol.g_at (l := L) (i := 3) (by omega)))
  have HRp : Hid _ := hRp
  have hq1' : 0 < Pol.n1 L → q1 = some ⟨b, o + 5, none⟩ := fun h => by rw [hq1 (by omega)]
  have hq3' : 0 < Pol.n2 L → q3 = some ⟨b, o + (Pol.p2 L + 1), none⟩ := fun h => by rw [hq3 (by omega), Nat.add_assoc]
  have hpl : Pol.p2 L + 1 + Pol.n2 L * 3 = L.length := HL.2.2.2.2.2.2
  have HPl : Hid _ := hpl
  have hp2v : Pol.p2 L = 5 + Pol.n1 L * 10 := rfl
  have HP2 : Hid _ := hp2v
  have hcapb : Pol.n1 L * 10 ≤ cap - 4 - 1 ∧ cap - 4 - 1 ≤ 9223372036854775807 := by omega
  have hcapc : Pol.n2 L * 3 ≤ C2 - 1 ∧ C2 - 1 ≤ 9223372036854775807 := by omega
  have hrb : w.heap.size < w3.heap.size := Nat.lt_of_lt_of_le (by simp) hbw3'.size
  clear hRp hq1 hq3 hpl hp2v hN1 hN2 hd3 hp3 hp3' hp2 hCR1 hCR2 HR
  go_wp2_with fail
  obtain ⟨wA, hwA, hpb, hrbA, hbwA⟩ : ∃ wA, w3.alloc (.cells #[.bool (Pol.g L 3 == 1), .slice none 0 0, .slice none 0 0] 26) = wA ∧ PBox wA w3.heap.size (Pol.g L 3 == 1) (.slice none 0 0) (.slice none 0 0) ∧ PBox wA w.heap.size false (.slice none 0 0) (.slice none 0 0) ∧ Bw w wA :=
    ⟨_, rfl, PBox.new w3 _ _ _ _, rb3.bw ((Bw.refl w3).alloc _), hbw3.alloc _⟩
  have hpl3 := hpb.lt
  generalize w3.heap.size = pb at *
  rw [hwA]
  clear hwA r0 r1 r2 z0 z1 z2 rb3 hbw3' hbw3 hbw2 hd3'
  go_loopg [4] (Pol.n1 L) (fun g v wr => ∃ k : Nat, ∃ qk : Option Addr, ∃ ck : Nat, ∃ u1 : Value, k + g = Pol.n1 L ∧ v = .slice qk (g * 10) ck ∧ (0 < g → qk = some ⟨b, o + (5 + k * 10), none⟩) ∧ g * 10 ≤ ck ∧ ck ≤ 9223372036854775807 ∧ Bq pb wA wr ∧ OwnSrc 35 wA wr u1 (Pol.srcsAt L 5 k) ∧ PBox wr pb (Pol.g L 3 == 1) u1 (.slice none 0 0))
  case atStart => exact ⟨0, q1, cap - 4 - 1, .slice none 0 0, by omega, rfl, fun h => by rw [hq1' h], hcapb.1, hcapb.2, Bq.refl _ _, OwnR.nil _ _ _ _, hpb⟩
  case round =>
    obtain ⟨k, qk, ck, u1, hkg, rfl, hqk, hck, hcm, hbq, hown, hbox⟩ := hrel
    have hbwr := hbq.toBw hbwA (by omega)
    cases gk with
    | zero =>
      obtain rfl : k = Pol.n1 L := by omega
      simp only [Nat.zero_mul] at *
      go_wp2_with fail
      have hlie := Pol.srcsAt_len L 5 (Pol.n1 L)
      have hS1 : SrcS wr u1 (Pol.srcsAt L 5 (Pol.n1 L)) := OwnSrc.s hown h8
      have hne1 := OwnR.far hown
      have hwAl := hrbA.lt
      have hwOl : wA.heap.size ≤ wr.heap.size := hbq.b0.size
      have hrbr := hrbA.blk (hbq.block w.heap.size hrbA.lt (by omega))
      have hplr : pb < wr.heap.size := Nat.lt_of_lt_of_le hpl3 hbq.b0.size
      have HS1 : Hid _ := hS1
      clear hS1 hown hlie hq1' hcapb
      obtain ⟨wO, hwO⟩ : ∃ x, x = wr := ⟨_, rfl⟩
      subst hwO
      go_loopg [7] (Pol.n2 L) (fun g v wx => ∃ k : Nat, ∃ qk : Option Addr, ∃ ck : Nat, ∃ u2 : Value, k + g = Pol.n2 L ∧ v = .slice qk (g * 3) ck ∧ (0 < g → qk = some ⟨b, o + (Pol.p2 L + 1 + k * 3), none⟩) ∧ g * 3 ≤ ck ∧ ck ≤ 9223372036854775807 ∧ Bq pb wO wx ∧ OwnSnk 37 wO wx u2 (Pol.snksAt L (Pol.p2 L + 1) k) ∧ PBox wx pb (Pol.g L 3 == 1) u1 u2)
      case atStart => exact ⟨0, q3, C2 - 1, .slice none 0 0, by omega, rfl, fun h => by rw [hq3' h], hcapc.1, hcapc.2, Bq.refl _ _, OwnR.nil _ _ _ _, hbox⟩
      case round =>
        obtain ⟨k, qk, ck, u2, hkg, rfl, hqk, hck, hcm, hbq2, hown2, hbox2⟩ := hrel
        have hbwx := hbq2.toBw hbwr (by omega)
        cases gk with
        | zero =>
          obtain rfl : k = Pol.n2 L := by omega
          simp only [Nat.zero_mul] at *
          have hS2 : SnkS wr u2 (Pol.snksAt L (Pol.p2 L + 1) (Pol.n2 L)) := OwnSnk.s hown2 h8
          have hS1 : SrcS wr u1 (Pol.srcsAt L 5 (Pol.n1 L)) := SrcS.q HS1 hbq2 (fun q n c e hn => by have := hne1 q n c e hn; omega)
          have hne2 := OwnR.far hown2
          have hIs : IsPol wr (.agg #[.bool (Pol.g L 3 == 1), u1, u2]) (Pol.read L) := ⟨u1, u2, rfl, hS1, hS2⟩
          have hrx := hrbr.blk (hbq2.block w.heap.size hrbr.lt (by omega))
          have hSt := stands_c _ _ wr hIs
          have b0 := hbox2.c0; have b1 := hbox2.c1; have b2 := hbox2.c2
          have HIs : Hid _ := hIs
          clear hS1 hS2 hIs hown2 HS1
          obtain ⟨qa, na, ca, rfl⟩ : ∃ q n c, u1 = .slice q n c := by
            obtain ⟨_, _, h, hA, _⟩ := HIs; simp at h; obtain ⟨⟨q, c, h1, _⟩, _⟩ := hA; exact ⟨q, _, c, h.2.1.trans h1⟩
          obtain ⟨qb, nb, cb, rfl⟩ : ∃ q n c, u2 = .slice q n c := by
            obtain ⟨_, _, h, _, hB⟩ := HIs; simp at h; obtain ⟨⟨q, c, h1, _⟩, _⟩ := hB; exact ⟨q, _, c, h.2.2.trans h1⟩
          by_cases hok : Pol.ok (Pol.read L) = true
          · rw [hok] at hSt
            have HOk : Hid (Pol.isP L) := ⟨HL, hok⟩
            clear hok
            go_wp2_with fail
            refine hSt.mono ?_
            rintro e w7 ⟨rfl, hb7⟩
            have hrx7 := hrx.bw hb7
            have hbox7 := hbox2.bw hb7
            clear b0 b1 b2
            have r0 := hrx7.c0; have r1 := hrx7.c1; have r2 := hrx7.c2; have z0 := hrx7.f0; have z1 := hrx7.f1; have z2 := hrx7.f2
            have b0 := hbox7.c0; have b1 := hbox7.c1; have b2 := hbox7.c2
            go_wp2_with fail
            (try simp only [Exit.inBlock, Exit.then]); refine bodyPost_ret (by simp [results, Try.results10, go_sem, r0, r1, r2]; try rfl) rfl ?_
            refine ⟨_, by rw [if_pos ((Pol.isPb_iff L).2 HOk)], ?_, ?_⟩
            · have hQ := (((Bq.refl w.heap.size w7).set 0 (.bool (Pol.g L 3 == 1))).set 1 (.slice qa na ca)).set 2 (.slice qb nb cb)
              obtain ⟨va, vb, he, hA, hB⟩ := IsPol.bw (p := Pol.read L) HIs hb7
              simp only [Value.agg.injEq, Array.mk.injEq, List.cons.injEq, and_true] at he
              obtain ⟨_, rfl, rfl⟩ := he
              unfold Pol.get
              rw [if_pos ((Pol.isPb_iff L).2 HOk)]
              exact ⟨_, _, rfl, hA.q hQ (fun q n c e hn => by have := hne1 q n c e hn; omega), hB.q hQ (fun q n c e hn => by have := hne2 q n c e hn; omega)⟩
            · have hbw7 := hbwx.trans hb7
              (repeat' (first | (with_reducible assumption) | (with_reducible exact Bw.refl _) | (with_reducible refine Bw.alloc ?_ _) | (with_reducible refine Bw.drew ?_) | (with_reducible refine Bw.drewN ?_ _) | (with_reducible refine Bw.setCell ?_ ?_ _) | exact Nat.le_refl _))
          · rw [Bool.eq_false_iff.2 hok] at hSt
            have HNo : Hid (¬ Pol.isP L) := fun h => hok h.2
            clear hok
            go_wp2_with fail
            refine hSt.mono ?_
            rintro e w7 ⟨rfl, hb7⟩
            have hrx7 := hrx.bw hb7
            clear b0 b1 b2
            have r0 := hrx7.c0; have r1 := hrx7.c1; have r2 := hrx7.c2; have z0 := hrx7.f0; have z1 := hrx7.f1; have z2 := hrx7.f2
            have hbw7 := hbwx.trans hb7
            go_wp2_with fail
            (try simp only [Exit.inBlock, Exit.then]); refine bodyPost_ret (by simp [results, Try.results10, go_sem, r0, r1, r2]; try rfl) rfl ?_
            exact get_bad HNo (by (repeat' (first | (with_reducible assumption) | (with_reducible exact Bw.refl _) | (with_reducible refine Bw.alloc ?_ _) | (with_reducible refine Bw.drew ?_) | (with_reducible refine Bw.drewN ?_ _) | (with_reducible refine Bw.setCell ?_ ?_ _) | exact Nat.le_refl _)))
        | succ g =>
          obtain rfl := hqk (by omega)
          have hpl : Pol.p2 L + 1 + Pol.n2 L * 3 = L.length := HPl
          have hRS := fun w' (g' : Bw wr w') => readSink_c w' L b o (Pol.p2 L + 1 + k * 3) ((g + 1) * 3) ck h8 (by omega) (by omega) (fun j x hx => (hbwx.trans g').keep (hcl j x hx))
          unfold Pol.snkV at hRS
          have hposI : (0 : Int) < (((g + 1) * 3 : Nat) : Int) := by omega
          have hposN : 0 < (g + 1) * 3 := by omega
          have hle10 : (3 : Int) ≤ (((g + 1) * 3 : Nat) : Int) := by omega
          have hckI : (((g + 1) * 3 : Nat) : Int) ≤ (ck : Int) := by omega
          have hlenS := Pol.snksAt_len L (Pol.p2 L + 1) k
          have b1 := hbox2.c2; have b1f := hbox2.f2
          have HX : Hid ((g + 1) * 3 - 3 = g * 3) := by show _ = _; omega
          have HK1 : Hid (o + (Pol.p2 L + 1 + k * 3) + 3 = o + (Pol.p2 L + 1 + (k + 1) * 3)) := by show _ = _; omega
          have HC : Hid (g * 3 ≤ ck - 3 ∧ ck - 3 ≤ 9223372036854775807 ∧ (0 < g → ck ≠ 3)) := by show _ ∧ _; omega
          clear hpl
          generalize (g + 1) * 3 = G at *
          go_wp2_with fail
          go_region_law (first
            | (refine stepApp rfl _ _ 24 rfl rfl rfl hr6 ?_)
            | (go_simp; go_at_call 24; refine (hRS _ (by (repeat' (first | (with_reducible assumption) | (with_reducible exact Bw.refl _) | (with_reducible refine Bw.alloc ?_ _) | (with_reducible refine Bw.drew ?_) | (with_reducible refine Bw.drewN ?_ _) | (with_reducible refine Bw.setCell ?_ ?_ _) | exact Nat.le_refl _)))).mono ?_; rintro e w5 ⟨rfl, hb5⟩
               have hq5 : Bq pb wO w5 := (hbq2.bw ((Bw.refl _).drew)).bw hb5
               have hbox5 : PBox w5 pb (Pol.g L 3 == 1) u1 u2 := (hbox2.bw ((Bw.refl _).drew)).bw hb5
               have d1 := hbox5.c2
               have d1a := fun o => ((Bw.refl w5).alloc o).keep d1
               obtain ⟨v6, w6, hr6, ho6, hq6, hpb6⟩ := appQ (ty := 24) infoSnk Try.underlying24 rfl (by omega) (by omega) (OwnR.bw (OwnR.bw hown2 ((Bw.refl _).drew)) hb5) hq5 hplr 1 (Pol.snkC (Pol.snkAt L (Pol.p2 L + 1 + k * 3))) rfl (Pol.snkC_one _) (by omega)
               rw [hlenS] at ho6
               obtain ⟨g6, cp6, rfl⟩ := OwnR.form ho6 (by omega)
               have hbox6 := hbox5.blk hpb6
               have e1 := hbox6.c2; have e1f := hbox6.f2))
          all_goals (go_wp2_with fail)
          all_goals
            go_roundg g
            case measure => omega
            case rel => exact ⟨k + 1, _, _, _, by omega, sl_eq HX, fun h => by first | exact congrArg (fun x => some (⟨b, x, none⟩ : Addr)) HK1 | (exfalso; exact ((show _ ∧ _ ∧ _ from HC).2.2 h) (by assumption)), by have := (show _ ∧ _ ∧ _ from HC).1; omega, by have := (show _ ∧ _ ∧ _ from HC).2.1; omega, hq6.set _ _, OwnSnk.next (ho6.set hplr _ _), hbox6.set2 _⟩
    | succ g =>
      obtain rfl := hqk (by omega)
      have hpl : Pol.p2 L + 1 + Pol.n2 L * 3 = L.length := HPl
      have hp2v : Pol.p2 L = 5 + Pol.n1 L * 10 := HP2
      have hRS := fun w' (g' : Bw wr w') => readSource_c w' L b o (5 + k * 10) ((g + 1) * 10) ck h8 (by omega) (by omega) (fun j x hx => (hbwr.trans g').keep (hcl j x hx)) hck
      unfold Pol.srcV at hRS
      have hposI : (0 : Int) < (((g + 1) * 10 : Nat) : Int) := by omega
      have hposN : 0 < (g + 1) * 10 := by omega
      have hle10 : (10 : Int) ≤ (((g + 1) * 10 : Nat) : Int) := by omega
      have hckI : (((g + 1) * 10 : Nat) : Int) ≤ (ck : Int) := by omega
      have HSu : Hid _ := Pol.srcsAt_succ L 5 k
      have hlenS := Pol.srcsAt_len L 5 k
      have b1 := hbox.c1; have b1f := hbox.f1
      have HX : Hid ((g + 1) * 10 - 10 = g * 10) := by show _ = _; omega
      have HK1 : Hid (o + (5 + k * 10) + 10 = o + (5 + (k + 1) * 10)) := by show _ = _; omega
      have HC : Hid (g * 10 ≤ ck - 10 ∧ ck - 10 ≤ 9223372036854775807 ∧ (0 < g → ck ≠ 10)) := by show _ ∧ _; omega
      clear hpl hp2v
      generalize (g + 1) * 10 = G at *
      go_wp2_with fail
      go_region_law (first
        | (refine stepApp rfl _ _ 23 rfl rfl rfl hr6 ?_)
        | (go_simp; go_at_call 23; refine (hRS _ (by (repeat' (first | (with_reducible assumption) | (with_reducible exact Bw.refl _) | (with_reducible refine Bw.alloc ?_ _) | (with_reducible refine Bw.drew ?_) | (with_reducible refine Bw.drewN ?_ _) | (with_reducible refine Bw.setCell ?_ ?_ _) | exact Nat.le_refl _)))).mono ?_; rintro e w5 ⟨rfl, hb5⟩
           have hq5 : Bq pb wA w5 := (hbq.bw ((Bw.refl _).drew)).bw hb5
           have hbox5 : PBox w5 pb (Pol.g L 3 == 1) u1 (.slice none 0 0) := (hbox.bw ((Bw.refl _).drew)).bw hb5
           have d1 := hbox5.c1
           have d1a := fun o => ((Bw.refl w5).alloc o).keep d1
           obtain ⟨v6, w6, hr6, ho6, hq6, hpb6⟩ := appQ (ty := 23) infoSrc Try.underlying23 rfl (by omega) (by omega) (OwnR.bw (OwnR.bw hown ((Bw.refl _).drew)) hb5) hq5 hpl3 1 (Pol.srcC (Pol.srcAt L (5 + k * 10))) rfl (Pol.srcC_one _) (by omega)
           rw [hlenS] at ho6
           obtain ⟨g6, cp6, rfl⟩ := OwnR.form ho6 (by omega)
           have hbox6 := hbox5.blk hpb6
           have e1 := hbox6.c1; have e1f := hbox6.f1))
      all_goals (go_wp2_with fail)
      all_goals
        go_roundg g
        case measure => omega
        case rel => exact ⟨k + 1, _, _, _, by omega, sl_eq HX, fun h => by first | exact congrArg (fun x => some (⟨b, x, none⟩ : Addr)) HK1 | (exfalso; exact ((show _ ∧ _ ∧ _ from HC).2.2 h) (by assumption)), by have := (show _ ∧ _ ∧ _ from HC).1; omega, by have := (show _ ∧ _ ∧ _ from HC).2.1; omega, hq6.set _ _, OwnSrc.next (ho6.set hpl3 _ _), hbox6.set1 _⟩
end Go.Proofs.Ytkffkmiegmaoiaa
