/- The reference's reader of chapter 9: GetFeed (made by fee6.py). -/
import Derived.Test.YtmecompcffphcaaFeeGt6
import Derived.Test.YtmecompcffphcaaFeeA
import Derived.Test.YtmecompcffphcaaFeeR2
import Derived.Deep.CutBlock
import Derived.Deep.CutRange
namespace Go.Proofs.Ytmecompcffphcaa
open Go.ChangeShapes Go.WideShapes Go.ChangeAt Go.RowKit
set_option linter.unusedSimpArgs false
set_option linter.unusedVariables false

def Ref.fin (n k c q : Int) (L : List Int) (bd : Bool) (f : Fee.Fd) : Fee.Fd × Bool :=
  if bd = true ∨ 0 < L.length ∨ 16 < n ∨ 64 < k ∨ 64 < c ∨ 8 < q ∨ Fee.good f = false then (Fee.noFd, false) else (f, true)
/-- All that GetFeed reads, in its order. -/
def Ref.Parts (L : List Int) (n k c q : Int) (A : List ByteArray) (I S R C : List Int) (F : List Fee.Fl) (L7 : List Int) (f7 : Bool) : Prop :=
  ∃ La fa L2 f2 L3 f3 Lb fb L4 f4 L5 f5 Lc fc L6 f6 Ld fd,
    Ref.num L false = (n, La, fa) ∧ Ref.many Ref.arg (min n.toNat 20) La fa = (A, L2, f2) ∧ Ref.rt L2 f2 = (I, L3, f3) ∧
    Ref.num L3 f3 = (k, Lb, fb) ∧ Ref.many Ref.num (min k.toNat 70) Lb fb = (S, L4, f4) ∧ Ref.rt L4 f4 = (R, L5, f5) ∧
    Ref.num L5 f5 = (c, Lc, fc) ∧ Ref.many Ref.num (min c.toNat 70) Lc fc = (C, L6, f6) ∧
    Ref.num L6 f6 = (q, Ld, fd) ∧ Ref.many Ref.file (min q.toNat 20) Ld fd = (F, L7, f7)
set_option maxHeartbeats 40000000 in
set_option maxRecDepth 100000 in
theorem rGet_c (w : World) (v : Value) (L : List Int) (hv : Rd8 w v L) (h8 : B8s L) (hl : L.length ≤ 900000) (n k c q : Nat) (A : List ByteArray) (I S R C : List Int) (F : List Fee.Fl) (L7 : List Int) (f7 : Bool) (hP : Ref.Parts L n k c q A I S R C F L7 f7) (hO : B8s I ∧ (∀ n ∈ S, 0 ≤ n ∧ n < 4294967296) ∧ B8s R ∧ (∀ n ∈ C, 0 ≤ n ∧ n < 4294967296) ∧ ∀ f ∈ F, B8s f.data) (hSz : Fee.Sz ⟨A, I, S, R, C, F⟩) :
    Calls Try.prog 8 #[v] w fun e w' => ∃ u, e = .returned (.tuple #[u, .bool (Ref.fin n k c q L7 f7 ⟨A, I, S, R, C, F⟩).2]) ∧ IsFd w' u (Ref.fin n k c q L7 f7 ⟨A, I, S, R, C, F⟩).1 ∧ Bw w w' := by
  obtain ⟨La, fa, L2, f2, L3, f3, Lb, fb, L4, f4, L5, f5, Lc, fc, L6, f6, Ld, fd, en, eA, eI, ek, eS, eR, ec, eC, eq, eF⟩ := hP
  rw [Int.toNat_natCast] at eA eS eC eF
  have h80 := h8
  have hl0 := hl
  obtain ⟨q0, cap, rfl, hc1, hc2, hc3⟩ := hv.open
  have hA := Box.new w [.slice none 0 0, .slice none 0 0, .slice none 0 0, .slice none 0 0, .slice none 0 0, .slice none 0 0] 36
  have hR := Box.new (w.alloc (.cells #[.slice none 0 0, .slice none 0 0, .slice none 0 0, .slice none 0 0, .slice none 0 0, .slice none 0 0] 36)) [.slice q0 L.length cap, .int .i64 0, .bool false] 62
  have hBn := Box.new ((w.alloc (.cells #[.slice none 0 0, .slice none 0 0, .slice none 0 0, .slice none 0 0, .slice none 0 0, .slice none 0 0] 36)).alloc (.cells #[.slice q0 L.length cap, .int .i64 0, .bool false] 62)) [.slice none 0 0, .slice none 0 0, .slice none 0 0, .slice none 0 0, .slice none 0 0, .slice none 0 0] 36
  have g2 : Bw w (((w.alloc (.cells #[.slice none 0 0, .slice none 0 0, .slice none 0 0, .slice none 0 0, .slice none 0 0, .slice none 0 0] 36)).alloc (.cells #[.slice q0 L.length cap, .int .i64 0, .bool false] 62)).alloc (.cells #[.slice none 0 0, .slice none 0 0, .slice none 0 0, .slice none 0 0, .slice none 0 0, .slice none 0 0] 36)) := (((Bw.refl w).alloc _).alloc _).alloc _
  have hA2 := hA.bw (((Bw.refl _).alloc (.cells #[.slice q0 L.length cap, .int .i64 0, .bool false] 62)).alloc (.cells #[.slice none 0 0, .slice none 0 0, .slice none 0 0, .slice none 0 0, .slice none 0 0, .slice none 0 0] 36))
  have hR2 := hR.bw ((Bw.refl _).alloc (.cells #[.slice none 0 0, .slice none 0 0, .slice none 0 0, .slice none 0 0, .slice none 0 0, .slice none 0 0] 36))
  rw [World.size_alloc] at hR2 hBn
  rw [World.size_alloc] at hBn
  obtain ⟨X, hX⟩ : ∃ X, ((w.alloc (.cells #[.slice none 0 0, .slice none 0 0, .slice none 0 0, .slice none 0 0, .slice none 0 0, .slice none 0 0] 36)).alloc (.cells #[.slice q0 L.length cap, .int .i64 0, .bool false] 62)).alloc (.cells #[.slice none 0 0, .slice none 0 0, .slice none 0 0, .slice none 0 0, .slice none 0 0, .slice none 0 0] 36) = X := ⟨_, rfl⟩
  have hF : RT w X L L false [.slice none 0 0, .slice none 0 0, .slice none 0 0, .slice none 0 0, .slice none 0 0, .slice none 0 0] := by
    rw [← hX]
    refine ⟨⟨q0, cap, 0, hR2, Nat.zero_le _, by simp, hv.bw g2, fun b hb h0 => ?_⟩, hBn, hA2, g2, by simp⟩
    obtain ⟨b', o, e2, h3, -⟩ := hc3 h0
    rw [hb] at e2
    simp at e2
    subst e2
    dsimp only
    omega
  have HX : Hid _ := hX
  clear hA hR hR2 hBn g2 hA2 hv hc3 hX
  have hN := numT_c _ X _ L L false (by omega) hF.rd h80 hl0
  rw [en] at hN
  dsimp only at hN
  have hnb := Ref.num_bd false h8
  rw [en] at hnb
  dsimp only at hnb
  have h8a := hnb.2.2.1
  have hla : La.length ≤ 900000 := by omega
  have hnm : n < 4294967296 := by omega
  clear hnb h8 hl en
  go_enter Try.func8, Try.ntmps8
  go_wp2_with fail
  have hX := HX
  unfold Hid at hX
  rw [hX, show w.heap.size + 1 + 1 = w.heap.size + 2 from rfl]
  clear hX HX
  refine hN.mono ?_
  rintro e wL ⟨rfl, hr, hq⟩
  have hFy := hF.call hr hq
  clear hN hr hq hF
  obtain ⟨m, hm⟩ : ∃ m, min n 20 = m := ⟨_, rfl⟩
  rw [hm] at eA
  have hm1 : m ≤ n := by omega
  have hm2 : m ≤ 20 := by omega
  have hm3 : m = n ∨ m = 20 := by omega
  have HE : Hid ((([] : List ByteArray) ++ (Ref.many Ref.arg m La fa).1, (Ref.many Ref.arg m La fa).2) = (A, L2, f2)) := by
    show _ = _
    rw [eA]
    rfl
  clear hm eA
  have hszL : w.heap.size + 3 ≤ wL.heap.size := hFy.sz
  go_upto_block 0 with fail
  go_cut [7] from 21 to 46 (fun s7 wx => ∃ v, (RT w wx L L2 f2 [v, .slice none 0 0, .slice none 0 0, .slice none 0 0, .slice none 0 0, .slice none 0 0] ∧ RdR 1 wx v A.length (A.map Value.string) ∧ Hi (w.heap.size + 3) v ∧ B8s L2 ∧ L2.length ≤ 900000))
  case first =>
    go_wp2_with fail
    go_loopg [7] m (fun g j X => ∃ (k0 : Nat) (Lk : List Int) (fk : Bool) (l : List ByteArray) (v : Value), k0 + g = m ∧ j = .int .u32 k0 ∧ RT w X L Lk fk [v, .slice none 0 0, .slice none 0 0, .slice none 0 0, .slice none 0 0, .slice none 0 0] ∧ B8s Lk ∧ Lk.length ≤ 900000 ∧ OwnR 9 1 wL X v k0 (l.map Value.string) ∧ l.length = k0 ∧ Bx (w.heap.size + 1) (w.heap.size + 2) wL X ∧ Hid ((l ++ (Ref.many Ref.arg g Lk fk).1, (Ref.many Ref.arg g Lk fk).2) = (A, L2, f2)))
    case atStart => exact ⟨0, La, fa, [], _, by omega, rfl, hFy, h8a, hla, OwnR.nil _ _ _ _, rfl, Bx.refl _ _ _, HE⟩
    case round =>
      obtain ⟨X, hXX⟩ : ∃ X, X = wr := ⟨wr, rfl⟩
      subst hXX
      obtain ⟨k0, Lk, fk, l, v, hkg, rfl, hFr, h8, hl, hO, hll, hx, hres⟩ := hrel
      clear hFy h8a hla HE
      obtain ⟨q9, c9, a9, hbb, -⟩ := hFr.rd
      have ldb := hbb.c 2 _ rfl
      clear hbb
      cases gk with
      | succ g =>
        have tn : decide ((k0 : Int) < (n : Int)) = true := decide_eq_true (by omega)
        have tc : decide ((k0 : Int) < 20) = true := decide_eq_true (by omega)
        cases fk with
        | true =>
          have hres2 : (l ++ (Ref.many Ref.arg (g + 1) Lk true).1, (Ref.many Ref.arg (g + 1) Lk true).2) = (A, L2, f2) := hres
          rw [Ref.many_bad, List.append_nil] at hres2
          simp only [Prod.mk.injEq] at hres2
          obtain ⟨h1, h2, h3⟩ := hres2
          have kv := hO.rd
          have hv2 : Hi (w.heap.size + 3) v := hO.hi.le hszL
          rw [← hll, h1] at kv
          rw [h2, h3] at hFr
          have HE2 : Hid (RT w X L L2 f2 [v, .slice none 0 0, .slice none 0 0, .slice none 0 0, .slice none 0 0, .slice none 0 0] ∧ RdR 1 X v A.length (A.map Value.string) ∧ Hi (w.heap.size + 3) v ∧ B8s L2 ∧ L2.length ≤ 900000) := ⟨hFr, kv, hv2, by rw [← h2]; exact h8, by rw [← h2]; exact hl⟩
          clear hres hO hll hx h8 hl h1 h2 h3 kv hv2 hFr
          go_wp2_with fail
          go_meet
          case rel => exact ⟨v, HE2⟩
        | false =>
          obtain ⟨n1, L1, f1, hst1⟩ : ∃ t1 L' f', Ref.num Lk false = (t1, L', f') := ⟨_, _, _, rfl⟩
          have hT := numT_c _ X.drew _ L Lk false (by show w.heap.size ≤ w.heap.size + 1; omega) (hFr.bw (Bw.refl X).drew).rd h80 hl0
          have hb1 := Ref.num_bd false h8
          rw [hst1] at hT hb1
          dsimp only at hT hb1
          have hn0 := hb1.1
          have hn1 := hb1.2.1
          obtain ⟨t1, L', f', hst2⟩ : ∃ t1 L' f', Ref.bytes n1 L1 f1 = (t1, L', f') := ⟨_, _, _, rfl⟩
          have hb2 := Ref.bytes_bd (n := n1) f1 hb1.2.2.1
          rw [hst2] at hb2
          dsimp only at hb2
          have h8' := hb2.2.1
          have hl' : L'.length ≤ 900000 := by omega
          have hst : Ref.arg Lk false = (strOfNums t1, L', f') := by unfold Ref.arg Ref.rt; rw [hst1]; dsimp only; rw [hst2]
          have HR2 : Hid (((l ++ [strOfNums t1]) ++ (Ref.many Ref.arg g L' f').1, (Ref.many Ref.arg g L' f').2) = (A, L2, f2)) := by
            have h1 : (l ++ (Ref.many Ref.arg (g + 1) Lk false).1, (Ref.many Ref.arg (g + 1) Lk false).2) = (A, L2, f2) := hres
            rw [Ref.many, if_neg (by simp), hst] at h1
            show _ = _
            rw [List.append_assoc]
            exact h1
          clear hb1 hb2 hst hst1 hres h8 hl
          have ldX := hFr.bx.c 0 _ rfl
          go_wp2_with fail
          refine wp_region_held_drew (S := fun _ => True) (by kernel_rfl) trivial (fun hHeld => ?_)
          refine wpAnyH_take (i := 0) (oi := ⟨some 37, _, _, _, _, _⟩) (v := ?_) rfl (by kernel_rfl) (by kernel_rfl) (by kernel_rfl) (fun _ _ _ h => h) (Or.inl ⟨by rfl, ?_⟩) (by assumption) ?_; (rotate_left 1); (focus (intro wz hSw; (try dsimp only at hSw); go_simp; try (with_reducible rfl))); simp only [Act.put, List.setIfInBounds_toArray, List.set_cons_zero, List.set_cons_succ]
          refine wpAnyH_take (i := 2) (oi := ⟨some 39, _, _, _, _, _⟩) (v := ?_) rfl (by kernel_rfl) (by kernel_rfl) (by kernel_rfl) (fun _ _ _ h => h) (Or.inl ⟨by rfl, ?_⟩) (by assumption) ?_; (rotate_left 1); (focus (intro wz hSw; (try dsimp only at hSw); go_simp; try (with_reducible rfl))); simp only [Act.put, List.setIfInBounds_toArray, List.set_cons_zero, List.set_cons_succ]
          refine wpAnyH_take (i := 3) (oi := ⟨some 40, _, _, _, _, _⟩) (v := ?_) rfl (by kernel_rfl) (by kernel_rfl) (by kernel_rfl) (fun _ _ _ h => h) (Or.inl ⟨by rfl, ?_⟩) (by assumption) ?_; (rotate_left 1); (focus (intro wz hSw; (try dsimp only at hSw); go_simp; try (with_reducible rfl))); simp only [Act.put, List.setIfInBounds_toArray, List.set_cons_zero, List.set_cons_succ]
          refine wpAnyH_ready (rs := [1, 4]) (by kernel_rfl) (by simp) ?_
          refine AllReadyH.cons rfl (fun K hK => ?_) (AllReadyH.cons rfl (fun K hK => ?_) AllReadyH.nil)
          · go_simp
            (try clear hHeld); refine hK.out _ _ ?_ (fun hHeld => ?_)
            · trivial
            refine wpAnyH_ready (rs := [4]) (by kernel_rfl) (by simp) ?_; refine AllReadyH.cons rfl (fun K hK => ?_) AllReadyH.nil; go_simp
            refine hT.mono ?_
            rintro e Y1 ⟨rfl, hr1, hq1⟩
            have hF1 := (hFr.bw (Bw.refl X).drew).call hr1 hq1
            have hT2 := bytesT_c _ Y1 _ n1 L L1 f1 (by show w.heap.size ≤ w.heap.size + 1; omega) hF1.rd hl0 hn0 hn1
            rw [hst2] at hT2
            dsimp only at hT2
            have ld1 := hF1.bx.c 0 _ rfl
            clear hr1
            (try clear hHeld); refine hK.out _ _ ?_ (fun hHeld => ?_)
            · trivial
            refine wpAnyH_ready (rs := [5]) (by kernel_rfl) (by simp) ?_; refine AllReadyH.cons rfl (fun K hK => ?_) AllReadyH.nil; go_simp
            refine hT2.mono ?_
            rintro e Y ⟨vt, rfl, hot, hr, hq⟩
            have hFY := hF1.call hr hq
            have hq0 : Bq (w.heap.size + 1) X Y := (((Bq.refl (w.heap.size + 1) X).bw (Bw.refl X).drew).trans hq1).trans hq
            clear ld1 hT2 hF1
            obtain ⟨v', Z, happ, hFZ, hO2, hx2, hFW, -⟩ := accT_step (ty := 23) infoS Try.underlying23 rfl (by decide) (by decide) hFY hszL hO hx hq0 0 (by simp) 1 [.string (strOfNums t1)] rfl (fun u hu => by simp at hu; subst hu; rfl) (by omega)
            have happ' : (Builtin.append_ #[23, 23] 23 #[v, .slice (some ⟨Y.heap.size, 0, none⟩) 1 1]).run Try.prog (Y.alloc (.cells #[.string (strOfNums t1)] 9)) = .ok v' Z := happ
            have hcv := conv8 hot
            obtain ⟨qt, ct, rfl, -⟩ := Rd8.open hot.rd
            have ldY := hFY.bx.c 0 _ rfl
            have ldA := (hFY.bw ((Bw.refl Y).alloc (.cells #[.string (strOfNums t1)] 9))).bx.c 0 _ rfl
            have zc := hFZ.bx.c 0 _ rfl
            have zf := hFZ.bx.f 0 (by simp)
            have HFin : Hid (RT w (Z.setCell ⟨w.heap.size + 2, 0, none⟩ v') L L' f' [v', .slice none 0 0, .slice none 0 0, .slice none 0 0, .slice none 0 0, .slice none 0 0] ∧ OwnR 9 1 wL (Z.setCell ⟨w.heap.size + 2, 0, none⟩ v') v' (k0 + 1) ((l ++ [strOfNums t1]).map Value.string) ∧ Bx (w.heap.size + 1) (w.heap.size + 2) wL (Z.setCell ⟨w.heap.size + 2, 0, none⟩ v')) := ⟨hFW, by rw [List.map_append]; exact hO2, hx2⟩
            obtain ⟨gv, cv, rfl⟩ := hO2.form (by omega)
            clear happ hFZ hO2 hx2 hFW hFY hr hq hq0
            clear hot hq1
            (try clear hHeld); refine hK.out _ _ ?_ (fun hHeld => ?_)
            · trivial
            refine wpAnyH_ready (rs := [6]) (by kernel_rfl) (by simp) ?_; refine AllReadyH.cons rfl (fun K hK => ?_) AllReadyH.nil; go_simp
            (try clear hHeld); refine hK.out _ _ ?_ (fun hHeld => ?_)
            · trivial
            refine wpAnyH_ready (rs := [7]) (by kernel_rfl) (by simp) ?_; refine AllReadyH.cons rfl (fun K hK => ?_) AllReadyH.nil; go_simp
            (try clear hHeld); refine hK.out _ _ ?_ (fun hHeld => ?_)
            · trivial
            refine wpAnyH_ready (rs := [8]) (by kernel_rfl) (by simp) ?_; refine AllReadyH.cons (o := ⟨some 45, _, _, _, _, _⟩) rfl (fun K hK => ?_) AllReadyH.nil; refine stepApp rfl _ _ 23 rfl rfl rfl happ' ?_
            (try clear hHeld); refine hK.out _ _ ?_ (fun hHeld => ?_)
            · trivial
            simp only [Act.put, List.setIfInBounds_toArray, List.set_cons_zero, List.set_cons_succ]
            refine wpAnyH_take (i := 9) (oi := ⟨some 46, _, _, _, _, _⟩) (v := ?_) rfl (by kernel_rfl) (by kernel_rfl) (by kernel_rfl) (fun _ _ _ h => h) (Or.inl ⟨by rfl, ?_⟩) (by assumption) ?_; (rotate_left 1); (focus (intro wz hSw; (try dsimp only at hSw); go_simp; try (with_reducible rfl))); simp only [Act.put, List.setIfInBounds_toArray, List.set_cons_zero, List.set_cons_succ]
            refine wpAnyH_ready (rs := [10]) (by kernel_rfl) (by simp) ?_; refine AllReadyH.cons rfl (fun K hK => ?_) AllReadyH.nil; go_simp
            (try clear hHeld); refine hK.out _ _ ?_ (fun hHeld => ?_)
            · trivial
            refine wpAnyH_done (by kernel_rfl) ?_ _
            go_wp2_with fail
            go_roundg g
            case measure => omega
            case rel => exact ⟨k0 + 1, L', f', l ++ [strOfNums t1], _, by omega, rfl, HFin.1, h8', hl', HFin.2.1, by rw [List.length_append, hll]; rfl, HFin.2.2, HR2⟩
          · go_simp
            refine hT.mono ?_
            rintro e Y1 ⟨rfl, hr1, hq1⟩
            have hF1 := (hFr.bw (Bw.refl X).drew).call hr1 hq1
            have hT2 := bytesT_c _ Y1 _ n1 L L1 f1 (by show w.heap.size ≤ w.heap.size + 1; omega) hF1.rd hl0 hn0 hn1
            rw [hst2] at hT2
            dsimp only at hT2
            have ld1 := hF1.bx.c 0 _ rfl
            clear hr1
            (try clear hHeld); refine hK.out _ _ ?_ (fun hHeld => ?_)
            · trivial
            refine wpAnyH_ready (rs := [1, 5]) (by kernel_rfl) (by simp) ?_
            refine AllReadyH.cons rfl (fun K hK => ?_) (AllReadyH.cons rfl (fun K hK => ?_) AllReadyH.nil)
            · go_simp
              (try clear hHeld); refine hK.out _ _ ?_ (fun hHeld => ?_)
              · trivial
              refine wpAnyH_ready (rs := [5]) (by kernel_rfl) (by simp) ?_; refine AllReadyH.cons rfl (fun K hK => ?_) AllReadyH.nil; go_simp
              refine hT2.mono ?_
              rintro e Y ⟨vt, rfl, hot, hr, hq⟩
              have hFY := hF1.call hr hq
              have hq0 : Bq (w.heap.size + 1) X Y := (((Bq.refl (w.heap.size + 1) X).bw (Bw.refl X).drew).trans hq1).trans hq
              clear ld1 hT2 hF1
              obtain ⟨v', Z, happ, hFZ, hO2, hx2, hFW, -⟩ := accT_step (ty := 23) infoS Try.underlying23 rfl (by decide) (by decide) hFY hszL hO hx hq0 0 (by simp) 1 [.string (strOfNums t1)] rfl (fun u hu => by simp at hu; subst hu; rfl) (by omega)
              have happ' : (Builtin.append_ #[23, 23] 23 #[v, .slice (some ⟨Y.heap.size, 0, none⟩) 1 1]).run Try.prog (Y.alloc (.cells #[.string (strOfNums t1)] 9)) = .ok v' Z := happ
              have hcv := conv8 hot
              obtain ⟨qt, ct, rfl, -⟩ := Rd8.open hot.rd
              have ldY := hFY.bx.c 0 _ rfl
              have ldA := (hFY.bw ((Bw.refl Y).alloc (.cells #[.string (strOfNums t1)] 9))).bx.c 0 _ rfl
              have zc := hFZ.bx.c 0 _ rfl
              have zf := hFZ.bx.f 0 (by simp)
              have HFin : Hid (RT w (Z.setCell ⟨w.heap.size + 2, 0, none⟩ v') L L' f' [v', .slice none 0 0, .slice none 0 0, .slice none 0 0, .slice none 0 0, .slice none 0 0] ∧ OwnR 9 1 wL (Z.setCell ⟨w.heap.size + 2, 0, none⟩ v') v' (k0 + 1) ((l ++ [strOfNums t1]).map Value.string) ∧ Bx (w.heap.size + 1) (w.heap.size + 2) wL (Z.setCell ⟨w.heap.size + 2, 0, none⟩ v')) := ⟨hFW, by rw [List.map_append]; exact hO2, hx2⟩
              obtain ⟨gv, cv, rfl⟩ := hO2.form (by omega)
              clear happ hFZ hO2 hx2 hFW hFY hr hq hq0
              clear hot hq1
              (try clear hHeld); refine hK.out _ _ ?_ (fun hHeld => ?_)
              · trivial
              refine wpAnyH_ready (rs := [6]) (by kernel_rfl) (by simp) ?_; refine AllReadyH.cons rfl (fun K hK => ?_) AllReadyH.nil; go_simp
              (try clear hHeld); refine hK.out _ _ ?_ (fun hHeld => ?_)
              · trivial
              refine wpAnyH_ready (rs := [7]) (by kernel_rfl) (by simp) ?_; refine AllReadyH.cons rfl (fun K hK => ?_) AllReadyH.nil; go_simp
              (try clear hHeld); refine hK.out _ _ ?_ (fun hHeld => ?_)
              · trivial
              refine wpAnyH_ready (rs := [8]) (by kernel_rfl) (by simp) ?_; refine AllReadyH.cons (o := ⟨some 45, _, _, _, _, _⟩) rfl (fun K hK => ?_) AllReadyH.nil; refine stepApp rfl _ _ 23 rfl rfl rfl happ' ?_
              (try clear hHeld); refine hK.out _ _ ?_ (fun hHeld => ?_)
              · trivial
              simp only [Act.put, List.setIfInBounds_toArray, List.set_cons_zero, List.set_cons_succ]
              refine wpAnyH_take (i := 9) (oi := ⟨some 46, _, _, _, _, _⟩) (v := ?_) rfl (by kernel_rfl) (by kernel_rfl) (by kernel_rfl) (fun _ _ _ h => h) (Or.inl ⟨by rfl, ?_⟩) (by assumption) ?_; (rotate_left 1); (focus (intro wz hSw; (try dsimp only at hSw); go_simp; try (with_reducible rfl))); simp only [Act.put, List.setIfInBounds_toArray, List.set_cons_zero, List.set_cons_succ]
              refine wpAnyH_ready (rs := [10]) (by kernel_rfl) (by simp) ?_; refine AllReadyH.cons rfl (fun K hK => ?_) AllReadyH.nil; go_simp
              (try clear hHeld); refine hK.out _ _ ?_ (fun hHeld => ?_)
              · trivial
              refine wpAnyH_done (by kernel_rfl) ?_ _
              go_wp2_with fail
              go_roundg g
              case measure => omega
              case rel => exact ⟨k0 + 1, L', f', l ++ [strOfNums t1], _, by omega, rfl, HFin.1, h8', hl', HFin.2.1, by rw [List.length_append, hll]; rfl, HFin.2.2, HR2⟩
            · go_simp
              refine hT2.mono ?_
              rintro e Y ⟨vt, rfl, hot, hr, hq⟩
              have hFY := hF1.call hr hq
              have hq0 : Bq (w.heap.size + 1) X Y := (((Bq.refl (w.heap.size + 1) X).bw (Bw.refl X).drew).trans hq1).trans hq
              clear ld1 hT2 hF1
              obtain ⟨v', Z, happ, hFZ, hO2, hx2, hFW, -⟩ := accT_step (ty := 23) infoS Try.underlying23 rfl (by decide) (by decide) hFY hszL hO hx hq0 0 (by simp) 1 [.string (strOfNums t1)] rfl (fun u hu => by simp at hu; subst hu; rfl) (by omega)
              have happ' : (Builtin.append_ #[23, 23] 23 #[v, .slice (some ⟨Y.heap.size, 0, none⟩) 1 1]).run Try.prog (Y.alloc (.cells #[.string (strOfNums t1)] 9)) = .ok v' Z := happ
              have hcv := conv8 hot
              obtain ⟨qt, ct, rfl, -⟩ := Rd8.open hot.rd
              have ldY := hFY.bx.c 0 _ rfl
              have ldA := (hFY.bw ((Bw.refl Y).alloc (.cells #[.string (strOfNums t1)] 9))).bx.c 0 _ rfl
              have zc := hFZ.bx.c 0 _ rfl
              have zf := hFZ.bx.f 0 (by simp)
              have HFin : Hid (RT w (Z.setCell ⟨w.heap.size + 2, 0, none⟩ v') L L' f' [v', .slice none 0 0, .slice none 0 0, .slice none 0 0, .slice none 0 0, .slice none 0 0] ∧ OwnR 9 1 wL (Z.setCell ⟨w.heap.size + 2, 0, none⟩ v') v' (k0 + 1) ((l ++ [strOfNums t1]).map Value.string) ∧ Bx (w.heap.size + 1) (w.heap.size + 2) wL (Z.setCell ⟨w.heap.size + 2, 0, none⟩ v')) := ⟨hFW, by rw [List.map_append]; exact hO2, hx2⟩
              obtain ⟨gv, cv, rfl⟩ := hO2.form (by omega)
              clear happ hFZ hO2 hx2 hFW hFY hr hq hq0
              clear hot hq1
              (try clear hHeld); refine hK.out _ _ ?_ (fun hHeld => ?_)
              · trivial
              refine wpAnyH_ready (rs := [1, 6]) (by kernel_rfl) (by simp) ?_
              refine AllReadyH.cons rfl (fun K hK => ?_) (AllReadyH.cons rfl (fun K hK => ?_) AllReadyH.nil)
              · go_simp
                (try clear hHeld); refine hK.out _ _ ?_ (fun hHeld => ?_)
                · trivial
                refine wpAnyH_ready (rs := [6]) (by kernel_rfl) (by simp) ?_; refine AllReadyH.cons rfl (fun K hK => ?_) AllReadyH.nil; go_simp
                (try clear hHeld); refine hK.out _ _ ?_ (fun hHeld => ?_)
                · trivial
                refine wpAnyH_ready (rs := [7]) (by kernel_rfl) (by simp) ?_; refine AllReadyH.cons rfl (fun K hK => ?_) AllReadyH.nil; go_simp
                (try clear hHeld); refine hK.out _ _ ?_ (fun hHeld => ?_)
                · trivial
                refine wpAnyH_ready (rs := [8]) (by kernel_rfl) (by simp) ?_; refine AllReadyH.cons (o := ⟨some 45, _, _, _, _, _⟩) rfl (fun K hK => ?_) AllReadyH.nil; refine stepApp rfl _ _ 23 rfl rfl rfl happ' ?_
                (try clear hHeld); refine hK.out _ _ ?_ (fun hHeld => ?_)
                · trivial
                simp only [Act.put, List.setIfInBounds_toArray, List.set_cons_zero, List.set_cons_succ]
                refine wpAnyH_take (i := 9) (oi := ⟨some 46, _, _, _, _, _⟩) (v := ?_) rfl (by kernel_rfl) (by kernel_rfl) (by kernel_rfl) (fun _ _ _ h => h) (Or.inl ⟨by rfl, ?_⟩) (by assumption) ?_; (rotate_left 1); (focus (intro wz hSw; (try dsimp only at hSw); go_simp; try (with_reducible rfl))); simp only [Act.put, List.setIfInBounds_toArray, List.set_cons_zero, List.set_cons_succ]
                refine wpAnyH_ready (rs := [10]) (by kernel_rfl) (by simp) ?_; refine AllReadyH.cons rfl (fun K hK => ?_) AllReadyH.nil; go_simp
                (try clear hHeld); refine hK.out _ _ ?_ (fun hHeld => ?_)
                · trivial
                refine wpAnyH_done (by kernel_rfl) ?_ _
                go_wp2_with fail
                go_roundg g
                case measure => omega
                case rel => exact ⟨k0 + 1, L', f', l ++ [strOfNums t1], _, by omega, rfl, HFin.1, h8', hl', HFin.2.1, by rw [List.length_append, hll]; rfl, HFin.2.2, HR2⟩
              · go_simp
                (try clear hHeld); refine hK.out _ _ ?_ (fun hHeld => ?_)
                · trivial
                refine wpAnyH_ready (rs := [1, 7]) (by kernel_rfl) (by simp) ?_
                refine AllReadyH.cons rfl (fun K hK => ?_) (AllReadyH.cons rfl (fun K hK => ?_) AllReadyH.nil)
                · go_simp
                  (try clear hHeld); refine hK.out _ _ ?_ (fun hHeld => ?_)
                  · trivial
                  refine wpAnyH_ready (rs := [7]) (by kernel_rfl) (by simp) ?_; refine AllReadyH.cons rfl (fun K hK => ?_) AllReadyH.nil; go_simp
                  (try clear hHeld); refine hK.out _ _ ?_ (fun hHeld => ?_)
                  · trivial
                  refine wpAnyH_ready (rs := [8]) (by kernel_rfl) (by simp) ?_; refine AllReadyH.cons (o := ⟨some 45, _, _, _, _, _⟩) rfl (fun K hK => ?_) AllReadyH.nil; refine stepApp rfl _ _ 23 rfl rfl rfl happ' ?_
                  (try clear hHeld); refine hK.out _ _ ?_ (fun hHeld => ?_)
                  · trivial
                  simp only [Act.put, List.setIfInBounds_toArray, List.set_cons_zero, List.set_cons_succ]
                  refine wpAnyH_take (i := 9) (oi := ⟨some 46, _, _, _, _, _⟩) (v := ?_) rfl (by kernel_rfl) (by kernel_rfl) (by kernel_rfl) (fun _ _ _ h => h) (Or.inl ⟨by rfl, ?_⟩) (by assumption) ?_; (rotate_left 1); (focus (intro wz hSw; (try dsimp only at hSw); go_simp; try (with_reducible rfl))); simp only [Act.put, List.setIfInBounds_toArray, List.set_cons_zero, List.set_cons_succ]
                  refine wpAnyH_ready (rs := [10]) (by kernel_rfl) (by simp) ?_; refine AllReadyH.cons rfl (fun K hK => ?_) AllReadyH.nil; go_simp
                  (try clear hHeld); refine hK.out _ _ ?_ (fun hHeld => ?_)
                  · trivial
                  refine wpAnyH_done (by kernel_rfl) ?_ _
                  go_wp2_with fail
                  go_roundg g
                  case measure => omega
                  case rel => exact ⟨k0 + 1, L', f', l ++ [strOfNums t1], _, by omega, rfl, HFin.1, h8', hl', HFin.2.1, by rw [List.length_append, hll]; rfl, HFin.2.2, HR2⟩
                · go_simp
                  (try clear hHeld); refine hK.out _ _ ?_ (fun hHeld => ?_)
                  · trivial
                  refine wpAnyH_ready (rs := [1]) (by kernel_rfl) (by simp) ?_; refine AllReadyH.cons rfl (fun K hK => ?_) AllReadyH.nil; go_simp
                  (try clear hHeld); refine hK.out _ _ ?_ (fun hHeld => ?_)
                  · trivial
                  refine wpAnyH_ready (rs := [8]) (by kernel_rfl) (by simp) ?_; refine AllReadyH.cons (o := ⟨some 45, _, _, _, _, _⟩) rfl (fun K hK => ?_) AllReadyH.nil; refine stepApp rfl _ _ 23 rfl rfl rfl happ' ?_
                  (try clear hHeld); refine hK.out _ _ ?_ (fun hHeld => ?_)
                  · trivial
                  simp only [Act.put, List.setIfInBounds_toArray, List.set_cons_zero, List.set_cons_succ]
                  refine wpAnyH_take (i := 9) (oi := ⟨some 46, _, _, _, _, _⟩) (v := ?_) rfl (by kernel_rfl) (by kernel_rfl) (by kernel_rfl) (fun _ _ _ h => h) (Or.inl ⟨by rfl, ?_⟩) (by assumption) ?_; (rotate_left 1); (focus (intro wz hSw; (try dsimp only at hSw); go_simp; try (with_reducible rfl))); simp only [Act.put, List.setIfInBounds_toArray, List.set_cons_zero, List.set_cons_succ]
                  refine wpAnyH_ready (rs := [10]) (by kernel_rfl) (by simp) ?_; refine AllReadyH.cons rfl (fun K hK => ?_) AllReadyH.nil; go_simp
                  (try clear hHeld); refine hK.out _ _ ?_ (fun hHeld => ?_)
                  · trivial
                  refine wpAnyH_done (by kernel_rfl) ?_ _
                  go_wp2_with fail
                  go_roundg g
                  case measure => omega
                  case rel => exact ⟨k0 + 1, L', f', l ++ [strOfNums t1], _, by omega, rfl, HFin.1, h8', hl', HFin.2.1, by rw [List.length_append, hll]; rfl, HFin.2.2, HR2⟩
      | zero =>
        by_cases hkn : k0 < n
        · have tn : decide ((k0 : Int) < (n : Int)) = true := decide_eq_true (by omega)
          have tc : decide ((k0 : Int) < 20) = false := decide_eq_false (by omega)
          have hres2 : (l ++ (Ref.many Ref.arg 0 Lk fk).1, (Ref.many Ref.arg 0 Lk fk).2) = (A, L2, f2) := hres
          rw [Ref.many, List.append_nil] at hres2
          simp only [Prod.mk.injEq] at hres2
          obtain ⟨h1, h2, h3⟩ := hres2
          have kv := hO.rd
          have hv2 : Hi (w.heap.size + 3) v := hO.hi.le hszL
          rw [← hll, h1] at kv
          rw [h2, h3] at hFr
          have HE2 : Hid (RT w X L L2 f2 [v, .slice none 0 0, .slice none 0 0, .slice none 0 0, .slice none 0 0, .slice none 0 0] ∧ RdR 1 X v A.length (A.map Value.string) ∧ Hi (w.heap.size + 3) v ∧ B8s L2 ∧ L2.length ≤ 900000) := ⟨hFr, kv, hv2, by rw [← h2]; exact h8, by rw [← h2]; exact hl⟩
          clear hres hO hll hx h8 hl h1 h2 h3 kv hv2 hFr
          go_wp2_with fail
          go_meet
          case rel => exact ⟨v, HE2⟩
        · have tn : decide ((k0 : Int) < (n : Int)) = false := decide_eq_false (by omega)
          have hres2 : (l ++ (Ref.many Ref.arg 0 Lk fk).1, (Ref.many Ref.arg 0 Lk fk).2) = (A, L2, f2) := hres
          rw [Ref.many, List.append_nil] at hres2
          simp only [Prod.mk.injEq] at hres2
          obtain ⟨h1, h2, h3⟩ := hres2
          have kv := hO.rd
          have hv2 : Hi (w.heap.size + 3) v := hO.hi.le hszL
          rw [← hll, h1] at kv
          rw [h2, h3] at hFr
          have HE2 : Hid (RT w X L L2 f2 [v, .slice none 0 0, .slice none 0 0, .slice none 0 0, .slice none 0 0, .slice none 0 0] ∧ RdR 1 X v A.length (A.map Value.string) ∧ Hi (w.heap.size + 3) v ∧ B8s L2 ∧ L2.length ≤ 900000) := ⟨hFr, kv, hv2, by rw [← h2]; exact h8, by rw [← h2]; exact hl⟩
          clear hres hO hll hx h8 hl h1 h2 h3 kv hv2 hFr
          go_wp2_with fail
          go_meet
          case rel => exact ⟨v, HE2⟩
  case rest =>
    obtain ⟨va, ⟨hF, kA, hA, h8, hl⟩⟩ := hcut
    clear HE hszL hFy
    obtain ⟨n1, L1, f1, hst1⟩ : ∃ t1 L' f', Ref.num L2 f2 = (t1, L', f') := ⟨_, _, _, rfl⟩
    have hT := numT_c _ wc _ L L2 f2 (by show w.heap.size ≤ w.heap.size + 1; omega) hF.rd h80 hl0
    have hb1 := Ref.num_bd f2 h8
    rw [hst1] at hT hb1
    dsimp only at hT hb1
    have hn0 := hb1.1
    have hn1 := hb1.2.1
    have hst2 : Ref.bytes n1 L1 f1 = (I, L3, f3) := by have h := eI; unfold Ref.rt at h; rw [hst1] at h; exact h
    have hb2 := Ref.bytes_bd (n := n1) f1 hb1.2.2.1
    rw [hst2] at hb2
    dsimp only at hb2
    have h8n := hb2.2.1
    have hln : L3.length ≤ 900000 := by omega
    clear hst1 eI h8 hl hb1
    go_wp2_with fail
    refine hT.mono ?_
    rintro e Y1 ⟨rfl, hr1, hq1⟩
    have hF1 := hF.call hr1 hq1
    have hT2 := bytesT_c _ Y1 _ n1 L L1 f1 (by show w.heap.size ≤ w.heap.size + 1; omega) hF1.rd hl0 hn0 hn1
    rw [hst2] at hT2
    dsimp only at hT2
    clear hT hr1 hst2 hb2
    go_wp2_with fail
    refine hT2.mono ?_
    rintro e Y ⟨vt, rfl, hot, hr, hq⟩
    obtain ⟨qt, ct, rfl, -⟩ := Rd8.open hot.rd
    have hFY := hF1.call hr hq
    have hq0 := hq1.trans hq
    have zc := hFY.bx.c 1 _ rfl
    have zf := hFY.bx.f 1 (by simp)
    have kA := RdR.x kA (hq0.x (fb := w.heap.size + 2)) hA (by omega) (by omega)
    have kI : RdR 1 Y (.slice qt I.length ct) I.length (ints8 I) := hot.rd
    have hI : Hi (w.heap.size + 3) (.slice qt I.length ct) := hot.hi.le hF1.sz
    have hsx := Bx.set (w.heap.size + 1) (fb := w.heap.size + 2) Y 1 (.slice qt I.length ct)
    have kA := RdR.x kA (hsx) hA (by omega) (by omega)
    have kI := RdR.x kI (hsx) hI (by omega) (by omega)
    have hFs := hFY.set 1 (by simp) (.slice qt I.length ct)
    have h8 := h8n
    have hl := hln
    clear hF hF1 hFY hT2 hot hr hq hq0 hq1 hsx h8n hln
    have hN := numT_c _ (Y.setCell ⟨w.heap.size + 2, 1, none⟩ (.slice qt I.length ct)) _ L L3 f3 (by show w.heap.size ≤ w.heap.size + 1; omega) hFs.rd h80 hl0
    have hnb := Ref.num_bd f3 h8
    rw [ek] at hN hnb
    dsimp only at hN hnb
    have h8a := hnb.2.2.1
    have hla : Lb.length ≤ 900000 := by omega
    have hkm : k < 4294967296 := by omega
    clear hnb h8 hl ek
    go_wp2_with fail
    clear zc zf
    obtain ⟨X, hX⟩ : ∃ X, Y.setCell ⟨w.heap.size + 2, 1, none⟩ (.slice qt I.length ct) = X := ⟨_, rfl⟩
    rw [hX] at hFs hN
    rw [hX]
    rw [hX] at kA
    rw [hX] at kI
    obtain ⟨vi, hvv⟩ : ∃ x, x = Value.slice qt I.length ct := ⟨_, rfl⟩
    rw [← hvv] at kI hI hFs ⊢
    clear hX hvv
    refine hN.mono ?_
    rintro e wL ⟨rfl, hr, hq⟩
    have hFy := hFs.call hr hq
    have kA := RdR.x kA (hq.x (fb := w.heap.size + 2)) hA (by omega) (by omega)
    have kI := RdR.x kI (hq.x (fb := w.heap.size + 2)) hI (by omega) (by omega)
    clear hN hr hq hFs
    obtain ⟨m, hm⟩ : ∃ m, min k 70 = m := ⟨_, rfl⟩
    rw [hm] at eS
    have hm1 : m ≤ k := by omega
    have hm2 : m ≤ 70 := by omega
    have hm3 : m = k ∨ m = 70 := by omega
    have HE : Hid ((([] : List Int) ++ (Ref.many Ref.num m Lb fb).1, (Ref.many Ref.num m Lb fb).2) = (S, L4, f4)) := by
      show _ = _
      rw [eS]
      rfl
    clear hm eS
    have hszL : w.heap.size + 3 ≤ wL.heap.size := hFy.sz
    go_upto_block 2 with fail
    go_cut [9] from 54 to 77 (fun s9 wx => ∃ v, (RT w wx L L4 f4 [va, vi, v, .slice none 0 0, .slice none 0 0, .slice none 0 0] ∧ RdR 1 wx v S.length (S.map (Value.int .i64)) ∧ Hi (w.heap.size + 3) v ∧ B8s L4 ∧ L4.length ≤ 900000) ∧ RdR 1 wx va A.length (A.map Value.string) ∧ RdR 1 wx vi I.length (ints8 I))
    case first =>
      go_wp2_with fail
      go_loopg [9] m (fun g j X => ∃ (k0 : Nat) (Lk : List Int) (fk : Bool) (l : List Int) (v : Value), k0 + g = m ∧ j = .int .u32 k0 ∧ RT w X L Lk fk [va, vi, v, .slice none 0 0, .slice none 0 0, .slice none 0 0] ∧ B8s Lk ∧ Lk.length ≤ 900000 ∧ OwnR 3 1 wL X v k0 (l.map (Value.int .i64)) ∧ l.length = k0 ∧ Bx (w.heap.size + 1) (w.heap.size + 2) wL X ∧ Hid ((l ++ (Ref.many Ref.num g Lk fk).1, (Ref.many Ref.num g Lk fk).2) = (S, L4, f4)))
      case atStart => exact ⟨0, Lb, fb, [], _, by omega, rfl, hFy, h8a, hla, OwnR.nil _ _ _ _, rfl, Bx.refl _ _ _, HE⟩
      case round =>
        obtain ⟨X, hXX⟩ : ∃ X, X = wr := ⟨wr, rfl⟩
        subst hXX
        obtain ⟨k0, Lk, fk, l, v, hkg, rfl, hFr, h8, hl, hO, hll, hx, hres⟩ := hrel
        clear hFy h8a hla HE
        obtain ⟨q9, c9, a9, hbb, -⟩ := hFr.rd
        have ldb := hbb.c 2 _ rfl
        clear hbb
        cases gk with
        | succ g =>
          have tn : decide ((k0 : Int) < (k : Int)) = true := decide_eq_true (by omega)
          have tc : decide ((k0 : Int) < 70) = true := decide_eq_true (by omega)
          cases fk with
          | true =>
            have hres2 : (l ++ (Ref.many Ref.num (g + 1) Lk true).1, (Ref.many Ref.num (g + 1) Lk true).2) = (S, L4, f4) := hres
            rw [Ref.many_bad, List.append_nil] at hres2
            simp only [Prod.mk.injEq] at hres2
            obtain ⟨h1, h2, h3⟩ := hres2
            have kv := hO.rd
            have hv2 : Hi (w.heap.size + 3) v := hO.hi.le hszL
            rw [← hll, h1] at kv
            rw [h2, h3] at hFr
            have HE2 : Hid (RT w X L L4 f4 [va, vi, v, .slice none 0 0, .slice none 0 0, .slice none 0 0] ∧ RdR 1 X v S.length (S.map (Value.int .i64)) ∧ Hi (w.heap.size + 3) v ∧ B8s L4 ∧ L4.length ≤ 900000) := ⟨hFr, kv, hv2, by rw [← h2]; exact h8, by rw [← h2]; exact hl⟩
            have kA := RdR.x kA (hx) hA (by omega) (by omega)
            have kI := RdR.x kI (hx) hI (by omega) (by omega)
            clear hres hO hll hx h8 hl h1 h2 h3 kv hv2 hFr
            go_wp2_with fail
            go_meet
            case rel => exact ⟨v, HE2, kA, kI⟩
          | false =>
            obtain ⟨t1, L', f', hst⟩ : ∃ t1 L' f', Ref.num Lk false = (t1, L', f') := ⟨_, _, _, rfl⟩
            have hT := numT_c _ X.drew _ L Lk false (by show w.heap.size ≤ w.heap.size + 1; omega) (hFr.bw (Bw.refl X).drew).rd h80 hl0
            have hb1 := Ref.num_bd false h8
            rw [hst] at hT hb1
            dsimp only at hT hb1
            have h8' := hb1.2.2.1
            have hl' : L'.length ≤ 900000 := by omega
            have m1 : IntKind.i64.wrap t1 = t1 := by rw [IntKind.wrap_i64]; omega
            have HR2 : Hid (((l ++ [t1]) ++ (Ref.many Ref.num g L' f').1, (Ref.many Ref.num g L' f').2) = (S, L4, f4)) := by
              have h1 : (l ++ (Ref.many Ref.num (g + 1) Lk false).1, (Ref.many Ref.num (g + 1) Lk false).2) = (S, L4, f4) := hres
              rw [Ref.many, if_neg (by simp), hst] at h1
              show _ = _
              rw [List.append_assoc]
              exact h1
            clear hb1 hst hres h8 hl
            have ldX := hFr.bx.c 2 _ rfl
            go_wp2_with fail
            refine wp_region_held_drew (S := fun _ => True) (by kernel_rfl) trivial (fun hHeld => ?_)
            refine wpAnyH_take (i := 0) (oi := ⟨some 70, _, _, _, _, _⟩) (v := ?_) rfl (by kernel_rfl) (by kernel_rfl) (by kernel_rfl) (fun _ _ _ h => h) (Or.inl ⟨by rfl, ?_⟩) (by assumption) ?_; (rotate_left 1); (focus (intro wz hSw; (try dsimp only at hSw); go_simp; try (with_reducible rfl))); simp only [Act.put, List.setIfInBounds_toArray, List.set_cons_zero, List.set_cons_succ]
            refine wpAnyH_take (i := 2) (oi := ⟨some 72, _, _, _, _, _⟩) (v := ?_) rfl (by kernel_rfl) (by kernel_rfl) (by kernel_rfl) (fun _ _ _ h => h) (Or.inl ⟨by rfl, ?_⟩) (by assumption) ?_; (rotate_left 1); (focus (intro wz hSw; (try dsimp only at hSw); go_simp; try (with_reducible rfl))); simp only [Act.put, List.setIfInBounds_toArray, List.set_cons_zero, List.set_cons_succ]
            refine wpAnyH_ready (rs := [1, 3]) (by kernel_rfl) (by simp) ?_
            refine AllReadyH.cons rfl (fun K hK => ?_) (AllReadyH.cons rfl (fun K hK => ?_) AllReadyH.nil)
            · go_simp
              (try clear hHeld); refine hK.out _ _ ?_ (fun hHeld => ?_)
              · trivial
              refine wpAnyH_ready (rs := [3]) (by kernel_rfl) (by simp) ?_; refine AllReadyH.cons rfl (fun K hK => ?_) AllReadyH.nil; go_simp
              refine hT.mono ?_
              rintro e Y ⟨rfl, hr, hq⟩
              have hFY := (hFr.bw (Bw.refl X).drew).call hr hq
              have hq0 : Bq (w.heap.size + 1) X Y := ((Bq.refl (w.heap.size + 1) X).bw (Bw.refl X).drew).trans hq
              obtain ⟨v', Z, happ, hFZ, hO2, hx2, hFW, -⟩ := accT_step (ty := 24) infoN Try.underlying24 rfl (by decide) (by decide) hFY hszL hO hx hq0 2 (by simp) 1 [.int .i64 t1] rfl (fun u hu => by simp at hu; subst hu; rfl) (by omega)
              have happ' : (Builtin.append_ #[24, 24] 24 #[v, .slice (some ⟨Y.heap.size, 0, none⟩) 1 1]).run Try.prog (Y.alloc (.cells #[.int .i64 t1] 3)) = .ok v' Z := happ
              have ldY := hFY.bx.c 2 _ rfl
              have ldA := (hFY.bw ((Bw.refl Y).alloc (.cells #[.int .i64 t1] 3))).bx.c 2 _ rfl
              have zc := hFZ.bx.c 2 _ rfl
              have zf := hFZ.bx.f 2 (by simp)
              have HFin : Hid (RT w (Z.setCell ⟨w.heap.size + 2, 2, none⟩ v') L L' f' [va, vi, v', .slice none 0 0, .slice none 0 0, .slice none 0 0] ∧ OwnR 3 1 wL (Z.setCell ⟨w.heap.size + 2, 2, none⟩ v') v' (k0 + 1) ((l ++ [t1]).map (Value.int .i64)) ∧ Bx (w.heap.size + 1) (w.heap.size + 2) wL (Z.setCell ⟨w.heap.size + 2, 2, none⟩ v')) := ⟨hFW, by rw [List.map_append]; exact hO2, hx2⟩
              obtain ⟨gv, cv, rfl⟩ := hO2.form (by omega)
              clear happ hFZ hO2 hx2 hFW hFY hr hq hq0
              (try clear hHeld); refine hK.out _ _ ?_ (fun hHeld => ?_)
              · trivial
              refine wpAnyH_take (i := 4) (oi := ⟨some 74, _, _, _, _, _⟩) (v := ?_) rfl (by kernel_rfl) (by kernel_rfl) (by kernel_rfl) (fun _ _ _ h => h) (Or.inl ⟨by rfl, ?_⟩) (by assumption) ?_; (rotate_left 1); (focus (intro wz hSw; (try dsimp only at hSw); go_simp; try (with_reducible rfl))); simp only [Act.put, List.setIfInBounds_toArray, List.set_cons_zero, List.set_cons_succ]
              refine wpAnyH_ready (rs := [5]) (by kernel_rfl) (by simp) ?_; refine AllReadyH.cons rfl (fun K hK => ?_) AllReadyH.nil; go_simp
              (try clear hHeld); refine hK.out _ _ ?_ (fun hHeld => ?_)
              · trivial
              refine wpAnyH_ready (rs := [6]) (by kernel_rfl) (by simp) ?_; refine AllReadyH.cons (o := ⟨some 76, _, _, _, _, _⟩) rfl (fun K hK => ?_) AllReadyH.nil; refine stepApp rfl _ _ 24 rfl rfl rfl happ' ?_
              (try clear hHeld); refine hK.out _ _ ?_ (fun hHeld => ?_)
              · trivial
              simp only [Act.put, List.setIfInBounds_toArray, List.set_cons_zero, List.set_cons_succ]
              refine wpAnyH_take (i := 7) (oi := ⟨some 77, _, _, _, _, _⟩) (v := ?_) rfl (by kernel_rfl) (by kernel_rfl) (by kernel_rfl) (fun _ _ _ h => h) (Or.inl ⟨by rfl, ?_⟩) (by assumption) ?_; (rotate_left 1); (focus (intro wz hSw; (try dsimp only at hSw); go_simp; try (with_reducible rfl))); simp only [Act.put, List.setIfInBounds_toArray, List.set_cons_zero, List.set_cons_succ]
              refine wpAnyH_ready (rs := [8]) (by kernel_rfl) (by simp) ?_; refine AllReadyH.cons rfl (fun K hK => ?_) AllReadyH.nil; go_simp
              (try clear hHeld); refine hK.out _ _ ?_ (fun hHeld => ?_)
              · trivial
              refine wpAnyH_done (by kernel_rfl) ?_ _
              go_wp2_with fail
              go_roundg g
              case measure => omega
              case rel => exact ⟨k0 + 1, L', f', l ++ [t1], _, by omega, rfl, HFin.1, h8', hl', HFin.2.1, by rw [List.length_append, hll]; rfl, HFin.2.2, HR2⟩
            · go_simp
              refine hT.mono ?_
              rintro e Y ⟨rfl, hr, hq⟩
              have hFY := (hFr.bw (Bw.refl X).drew).call hr hq
              have hq0 : Bq (w.heap.size + 1) X Y := ((Bq.refl (w.heap.size + 1) X).bw (Bw.refl X).drew).trans hq
              obtain ⟨v', Z, happ, hFZ, hO2, hx2, hFW, -⟩ := accT_step (ty := 24) infoN Try.underlying24 rfl (by decide) (by decide) hFY hszL hO hx hq0 2 (by simp) 1 [.int .i64 t1] rfl (fun u hu => by simp at hu; subst hu; rfl) (by omega)
              have happ' : (Builtin.append_ #[24, 24] 24 #[v, .slice (some ⟨Y.heap.size, 0, none⟩) 1 1]).run Try.prog (Y.alloc (.cells #[.int .i64 t1] 3)) = .ok v' Z := happ
              have ldY := hFY.bx.c 2 _ rfl
              have ldA := (hFY.bw ((Bw.refl Y).alloc (.cells #[.int .i64 t1] 3))).bx.c 2 _ rfl
              have zc := hFZ.bx.c 2 _ rfl
              have zf := hFZ.bx.f 2 (by simp)
              have HFin : Hid (RT w (Z.setCell ⟨w.heap.size + 2, 2, none⟩ v') L L' f' [va, vi, v', .slice none 0 0, .slice none 0 0, .slice none 0 0] ∧ OwnR 3 1 wL (Z.setCell ⟨w.heap.size + 2, 2, none⟩ v') v' (k0 + 1) ((l ++ [t1]).map (Value.int .i64)) ∧ Bx (w.heap.size + 1) (w.heap.size + 2) wL (Z.setCell ⟨w.heap.size + 2, 2, none⟩ v')) := ⟨hFW, by rw [List.map_append]; exact hO2, hx2⟩
              obtain ⟨gv, cv, rfl⟩ := hO2.form (by omega)
              clear happ hFZ hO2 hx2 hFW hFY hr hq hq0
              (try clear hHeld); refine hK.out _ _ ?_ (fun hHeld => ?_)
              · trivial
              refine wpAnyH_take (i := 4) (oi := ⟨some 74, _, _, _, _, _⟩) (v := ?_) rfl (by kernel_rfl) (by kernel_rfl) (by kernel_rfl) (fun _ _ _ h => h) (Or.inl ⟨by rfl, ?_⟩) (by assumption) ?_; (rotate_left 1); (focus (intro wz hSw; (try dsimp only at hSw); go_simp; try (with_reducible rfl))); simp only [Act.put, List.setIfInBounds_toArray, List.set_cons_zero, List.set_cons_succ]
              refine wpAnyH_ready (rs := [1, 5]) (by kernel_rfl) (by simp) ?_
              refine AllReadyH.cons rfl (fun K hK => ?_) (AllReadyH.cons rfl (fun K hK => ?_) AllReadyH.nil)
              · go_simp
                (try clear hHeld); refine hK.out _ _ ?_ (fun hHeld => ?_)
                · trivial
                refine wpAnyH_ready (rs := [5]) (by kernel_rfl) (by simp) ?_; refine AllReadyH.cons rfl (fun K hK => ?_) AllReadyH.nil; go_simp
                (try clear hHeld); refine hK.out _ _ ?_ (fun hHeld => ?_)
                · trivial
                refine wpAnyH_ready (rs := [6]) (by kernel_rfl) (by simp) ?_; refine AllReadyH.cons (o := ⟨some 76, _, _, _, _, _⟩) rfl (fun K hK => ?_) AllReadyH.nil; refine stepApp rfl _ _ 24 rfl rfl rfl happ' ?_
                (try clear hHeld); refine hK.out _ _ ?_ (fun hHeld => ?_)
                · trivial
                simp only [Act.put, List.setIfInBounds_toArray, List.set_cons_zero, List.set_cons_succ]
                refine wpAnyH_take (i := 7) (oi := ⟨some 77, _, _, _, _, _⟩) (v := ?_) rfl (by kernel_rfl) (by kernel_rfl) (by kernel_rfl) (fun _ _ _ h => h) (Or.inl ⟨by rfl, ?_⟩) (by assumption) ?_; (rotate_left 1); (focus (intro wz hSw; (try dsimp only at hSw); go_simp; try (with_reducible rfl))); simp only [Act.put, List.setIfInBounds_toArray, List.set_cons_zero, List.set_cons_succ]
                refine wpAnyH_ready (rs := [8]) (by kernel_rfl) (by simp) ?_; refine AllReadyH.cons rfl (fun K hK => ?_) AllReadyH.nil; go_simp
                (try clear hHeld); refine hK.out _ _ ?_ (fun hHeld => ?_)
                · trivial
                refine wpAnyH_done (by kernel_rfl) ?_ _
                go_wp2_with fail
                go_roundg g
                case measure => omega
                case rel => exact ⟨k0 + 1, L', f', l ++ [t1], _, by omega, rfl, HFin.1, h8', hl', HFin.2.1, by rw [List.length_append, hll]; rfl, HFin.2.2, HR2⟩
              · go_simp
                (try clear hHeld); refine hK.out _ _ ?_ (fun hHeld => ?_)
                · trivial
                refine wpAnyH_ready (rs := [1]) (by kernel_rfl) (by simp) ?_; refine AllReadyH.cons rfl (fun K hK => ?_) AllReadyH.nil; go_simp
                (try clear hHeld); refine hK.out _ _ ?_ (fun hHeld => ?_)
                · trivial
                refine wpAnyH_ready (rs := [6]) (by kernel_rfl) (by simp) ?_; refine AllReadyH.cons (o := ⟨some 76, _, _, _, _, _⟩) rfl (fun K hK => ?_) AllReadyH.nil; refine stepApp rfl _ _ 24 rfl rfl rfl happ' ?_
                (try clear hHeld); refine hK.out _ _ ?_ (fun hHeld => ?_)
                · trivial
                simp only [Act.put, List.setIfInBounds_toArray, List.set_cons_zero, List.set_cons_succ]
                refine wpAnyH_take (i := 7) (oi := ⟨some 77, _, _, _, _, _⟩) (v := ?_) rfl (by kernel_rfl) (by kernel_rfl) (by kernel_rfl) (fun _ _ _ h => h) (Or.inl ⟨by rfl, ?_⟩) (by assumption) ?_; (rotate_left 1); (focus (intro wz hSw; (try dsimp only at hSw); go_simp; try (with_reducible rfl))); simp only [Act.put, List.setIfInBounds_toArray, List.set_cons_zero, List.set_cons_succ]
                refine wpAnyH_ready (rs := [8]) (by kernel_rfl) (by simp) ?_; refine AllReadyH.cons rfl (fun K hK => ?_) AllReadyH.nil; go_simp
                (try clear hHeld); refine hK.out _ _ ?_ (fun hHeld => ?_)
                · trivial
                refine wpAnyH_done (by kernel_rfl) ?_ _
                go_wp2_with fail
                go_roundg g
                case measure => omega
                case rel => exact ⟨k0 + 1, L', f', l ++ [t1], _, by omega, rfl, HFin.1, h8', hl', HFin.2.1, by rw [List.length_append, hll]; rfl, HFin.2.2, HR2⟩
        | zero =>
          by_cases hkn : k0 < k
          · have tn : decide ((k0 : Int) < (k : Int)) = true := decide_eq_true (by omega)
            have tc : decide ((k0 : Int) < 70) = false := decide_eq_false (by omega)
            have hres2 : (l ++ (Ref.many Ref.num 0 Lk fk).1, (Ref.many Ref.num 0 Lk fk).2) = (S, L4, f4) := hres
            rw [Ref.many, List.append_nil] at hres2
            simp only [Prod.mk.injEq] at hres2
            obtain ⟨h1, h2, h3⟩ := hres2
            have kv := hO.rd
            have hv2 : Hi (w.heap.size + 3) v := hO.hi.le hszL
            rw [← hll, h1] at kv
            rw [h2, h3] at hFr
            have HE2 : Hid (RT w X L L4 f4 [va, vi, v, .slice none 0 0, .slice none 0 0, .slice none 0 0] ∧ RdR 1 X v S.length (S.map (Value.int .i64)) ∧ Hi (w.heap.size + 3) v ∧ B8s L4 ∧ L4.length ≤ 900000) := ⟨hFr, kv, hv2, by rw [← h2]; exact h8, by rw [← h2]; exact hl⟩
            have kA := RdR.x kA (hx) hA (by omega) (by omega)
            have kI := RdR.x kI (hx) hI (by omega) (by omega)
            clear hres hO hll hx h8 hl h1 h2 h3 kv hv2 hFr
            go_wp2_with fail
            go_meet
            case rel => exact ⟨v, HE2, kA, kI⟩
          · have tn : decide ((k0 : Int) < (k : Int)) = false := decide_eq_false (by omega)
            have hres2 : (l ++ (Ref.many Ref.num 0 Lk fk).1, (Ref.many Ref.num 0 Lk fk).2) = (S, L4, f4) := hres
            rw [Ref.many, List.append_nil] at hres2
            simp only [Prod.mk.injEq] at hres2
            obtain ⟨h1, h2, h3⟩ := hres2
            have kv := hO.rd
            have hv2 : Hi (w.heap.size + 3) v := hO.hi.le hszL
            rw [← hll, h1] at kv
            rw [h2, h3] at hFr
            have HE2 : Hid (RT w X L L4 f4 [va, vi, v, .slice none 0 0, .slice none 0 0, .slice none 0 0] ∧ RdR 1 X v S.length (S.map (Value.int .i64)) ∧ Hi (w.heap.size + 3) v ∧ B8s L4 ∧ L4.length ≤ 900000) := ⟨hFr, kv, hv2, by rw [← h2]; exact h8, by rw [← h2]; exact hl⟩
            have kA := RdR.x kA (hx) hA (by omega) (by omega)
            have kI := RdR.x kI (hx) hI (by omega) (by omega)
            clear hres hO hll hx h8 hl h1 h2 h3 kv hv2 hFr
            go_wp2_with fail
            go_meet
            case rel => exact ⟨v, HE2, kA, kI⟩
    case rest =>
      clear kA
      clear kI
      obtain ⟨vs, ⟨hF, kS, hS, h8, hl⟩, kA, kI⟩ := hcut
      clear HE hszL hFy
      obtain ⟨n1, L1, f1, hst1⟩ : ∃ t1 L' f', Ref.num L4 f4 = (t1, L', f') := ⟨_, _, _, rfl⟩
      have hT := numT_c _ wc _ L L4 f4 (by show w.heap.size ≤ w.heap.size + 1; omega) hF.rd h80 hl0
      have hb1 := Ref.num_bd f4 h8
      rw [hst1] at hT hb1
      dsimp only at hT hb1
      have hn0 := hb1.1
      have hn1 := hb1.2.1
      have hst2 : Ref.bytes n1 L1 f1 = (R, L5, f5) := by have h := eR; unfold Ref.rt at h; rw [hst1] at h; exact h
      have hb2 := Ref.bytes_bd (n := n1) f1 hb1.2.2.1
      rw [hst2] at hb2
      dsimp only at hb2
      have h8n := hb2.2.1
      have hln : L5.length ≤ 900000 := by omega
      clear hst1 eR h8 hl hb1
      go_wp2_with fail
      refine hT.mono ?_
      rintro e Y1 ⟨rfl, hr1, hq1⟩
      have hF1 := hF.call hr1 hq1
      have hT2 := bytesT_c _ Y1 _ n1 L L1 f1 (by show w.heap.size ≤ w.heap.size + 1; omega) hF1.rd hl0 hn0 hn1
      rw [hst2] at hT2
      dsimp only at hT2
      clear hT hr1 hst2 hb2
      go_wp2_with fail
      refine hT2.mono ?_
      rintro e Y ⟨vt, rfl, hot, hr, hq⟩
      obtain ⟨qt, ct, rfl, -⟩ := Rd8.open hot.rd
      have hFY := hF1.call hr hq
      have hq0 := hq1.trans hq
      have zc := hFY.bx.c 3 _ rfl
      have zf := hFY.bx.f 3 (by simp)
      have kA := RdR.x kA (hq0.x (fb := w.heap.size + 2)) hA (by omega) (by omega)
      have kI := RdR.x kI (hq0.x (fb := w.heap.size + 2)) hI (by omega) (by omega)
      have kS := RdR.x kS (hq0.x (fb := w.heap.size + 2)) hS (by omega) (by omega)
      have kR : RdR 1 Y (.slice qt R.length ct) R.length (ints8 R) := hot.rd
      have hR : Hi (w.heap.size + 3) (.slice qt R.length ct) := hot.hi.le hF1.sz
      have hsx := Bx.set (w.heap.size + 1) (fb := w.heap.size + 2) Y 3 (.slice qt R.length ct)
      have kA := RdR.x kA (hsx) hA (by omega) (by omega)
      have kI := RdR.x kI (hsx) hI (by omega) (by omega)
      have kS := RdR.x kS (hsx) hS (by omega) (by omega)
      have kR := RdR.x kR (hsx) hR (by omega) (by omega)
      have hFs := hFY.set 3 (by simp) (.slice qt R.length ct)
      have h8 := h8n
      have hl := hln
      clear hF hF1 hFY hT2 hot hr hq hq0 hq1 hsx h8n hln
      have hN := numT_c _ (Y.setCell ⟨w.heap.size + 2, 3, none⟩ (.slice qt R.length ct)) _ L L5 f5 (by show w.heap.size ≤ w.heap.size + 1; omega) hFs.rd h80 hl0
      have hnb := Ref.num_bd f5 h8
      rw [ec] at hN hnb
      dsimp only at hN hnb
      have h8a := hnb.2.2.1
      have hla : Lc.length ≤ 900000 := by omega
      have hcm : c < 4294967296 := by omega
      clear hnb h8 hl ec
      go_wp2_with fail
      clear zc zf
      obtain ⟨X, hX⟩ : ∃ X, Y.setCell ⟨w.heap.size + 2, 3, none⟩ (.slice qt R.length ct) = X := ⟨_, rfl⟩
      rw [hX] at hFs hN
      rw [hX]
      rw [hX] at kA
      rw [hX] at kI
      rw [hX] at kS
      rw [hX] at kR
      obtain ⟨vr, hvv⟩ : ∃ x, x = Value.slice qt R.length ct := ⟨_, rfl⟩
      rw [← hvv] at kR hR hFs ⊢
      clear hX hvv
      refine hN.mono ?_
      rintro e wL ⟨rfl, hr, hq⟩
      have hFy := hFs.call hr hq
      have kA := RdR.x kA (hq.x (fb := w.heap.size + 2)) hA (by omega) (by omega)
      have kI := RdR.x kI (hq.x (fb := w.heap.size + 2)) hI (by omega) (by omega)
      have kS := RdR.x kS (hq.x (fb := w.heap.size + 2)) hS (by omega) (by omega)
      have kR := RdR.x kR (hq.x (fb := w.heap.size + 2)) hR (by omega) (by omega)
      clear hN hr hq hFs
      obtain ⟨m, hm⟩ : ∃ m, min c 70 = m := ⟨_, rfl⟩
      rw [hm] at eC
      have hm1 : m ≤ c := by omega
      have hm2 : m ≤ 70 := by omega
      have hm3 : m = c ∨ m = 70 := by omega
      have HE : Hid ((([] : List Int) ++ (Ref.many Ref.num m Lc fc).1, (Ref.many Ref.num m Lc fc).2) = (C, L6, f6)) := by
        show _ = _
        rw [eC]
        rfl
      clear hm eC
      have hszL : w.heap.size + 3 ≤ wL.heap.size := hFy.sz
      go_upto_block 4 with fail
      go_cut [11] from 85 to 107 (fun s11 wx => ∃ v, (RT w wx L L6 f6 [va, vi, vs, vr, v, .slice none 0 0] ∧ RdR 1 wx v C.length (C.map (Value.int .u32)) ∧ Hi (w.heap.size + 3) v ∧ B8s L6 ∧ L6.length ≤ 900000) ∧ RdR 1 wx va A.length (A.map Value.string) ∧ RdR 1 wx vi I.length (ints8 I) ∧ RdR 1 wx vs S.length (S.map (Value.int .i64)) ∧ RdR 1 wx vr R.length (ints8 R))
      case first =>
        go_wp2_with fail
        go_loopg [11] m (fun g j X => ∃ (k0 : Nat) (Lk : List Int) (fk : Bool) (l : List Int) (v : Value), k0 + g = m ∧ j = .int .u32 k0 ∧ RT w X L Lk fk [va, vi, vs, vr, v, .slice none 0 0] ∧ B8s Lk ∧ Lk.length ≤ 900000 ∧ OwnR 49 1 wL X v k0 (l.map (Value.int .u32)) ∧ l.length = k0 ∧ Bx (w.heap.size + 1) (w.heap.size + 2) wL X ∧ Hid ((l ++ (Ref.many Ref.num g Lk fk).1, (Ref.many Ref.num g Lk fk).2) = (C, L6, f6)))
        case atStart => exact ⟨0, Lc, fc, [], _, by omega, rfl, hFy, h8a, hla, OwnR.nil _ _ _ _, rfl, Bx.refl _ _ _, HE⟩
        case round =>
          obtain ⟨X, hXX⟩ : ∃ X, X = wr := ⟨wr, rfl⟩
          subst hXX
          obtain ⟨k0, Lk, fk, l, v, hkg, rfl, hFr, h8, hl, hO, hll, hx, hres⟩ := hrel
          clear hFy h8a hla HE
          obtain ⟨q9, c9, a9, hbb, -⟩ := hFr.rd
          have ldb := hbb.c 2 _ rfl
          clear hbb
          cases gk with
          | succ g =>
            have tn : decide ((k0 : Int) < (c : Int)) = true := decide_eq_true (by omega)
            have tc : decide ((k0 : Int) < 70) = true := decide_eq_true (by omega)
            cases fk with
            | true =>
              have hres2 : (l ++ (Ref.many Ref.num (g + 1) Lk true).1, (Ref.many Ref.num (g + 1) Lk true).2) = (C, L6, f6) := hres
              rw [Ref.many_bad, List.append_nil] at hres2
              simp only [Prod.mk.injEq] at hres2
              obtain ⟨h1, h2, h3⟩ := hres2
              have kv := hO.rd
              have hv2 : Hi (w.heap.size + 3) v := hO.hi.le hszL
              rw [← hll, h1] at kv
              rw [h2, h3] at hFr
              have HE2 : Hid (RT w X L L6 f6 [va, vi, vs, vr, v, .slice none 0 0] ∧ RdR 1 X v C.length (C.map (Value.int .u32)) ∧ Hi (w.heap.size + 3) v ∧ B8s L6 ∧ L6.length ≤ 900000) := ⟨hFr, kv, hv2, by rw [← h2]; exact h8, by rw [← h2]; exact hl⟩
              have kA := RdR.x kA (hx) hA (by omega) (by omega)
              have kI := RdR.x kI (hx) hI (by omega) (by omega)
              have kS := RdR.x kS (hx) hS (by omega) (by omega)
              have kR := RdR.x kR (hx) hR (by omega) (by omega)
              clear hres hO hll hx h8 hl h1 h2 h3 kv hv2 hFr
              go_wp2_with fail
              go_meet
              case rel => exact ⟨v, HE2, kA, kI, kS, kR⟩
            | false =>
              obtain ⟨t1, L', f', hst⟩ : ∃ t1 L' f', Ref.num Lk false = (t1, L', f') := ⟨_, _, _, rfl⟩
              have hT := numT_c _ X.drew _ L Lk false (by show w.heap.size ≤ w.heap.size + 1; omega) (hFr.bw (Bw.refl X).drew).rd h80 hl0
              have hb1 := Ref.num_bd false h8
              rw [hst] at hT hb1
              dsimp only at hT hb1
              have h8' := hb1.2.2.1
              have hl' : L'.length ≤ 900000 := by omega
              have HR2 : Hid (((l ++ [t1]) ++ (Ref.many Ref.num g L' f').1, (Ref.many Ref.num g L' f').2) = (C, L6, f6)) := by
                have h1 : (l ++ (Ref.many Ref.num (g + 1) Lk false).1, (Ref.many Ref.num (g + 1) Lk false).2) = (C, L6, f6) := hres
                rw [Ref.many, if_neg (by simp), hst] at h1
                show _ = _
                rw [List.append_assoc]
                exact h1
              clear hb1 hst hres h8 hl
              have ldX := hFr.bx.c 4 _ rfl
              go_wp2_with fail
              refine wp_region_held_drew (S := fun _ => True) (by kernel_rfl) trivial (fun hHeld => ?_)
              refine wpAnyH_take (i := 0) (oi := ⟨some 101, _, _, _, _, _⟩) (v := ?_) rfl (by kernel_rfl) (by kernel_rfl) (by kernel_rfl) (fun _ _ _ h => h) (Or.inl ⟨by rfl, ?_⟩) (by assumption) ?_; (rotate_left 1); (focus (intro wz hSw; (try dsimp only at hSw); go_simp; try (with_reducible rfl))); simp only [Act.put, List.setIfInBounds_toArray, List.set_cons_zero, List.set_cons_succ]
              refine wpAnyH_take (i := 2) (oi := ⟨some 103, _, _, _, _, _⟩) (v := ?_) rfl (by kernel_rfl) (by kernel_rfl) (by kernel_rfl) (fun _ _ _ h => h) (Or.inl ⟨by rfl, ?_⟩) (by assumption) ?_; (rotate_left 1); (focus (intro wz hSw; (try dsimp only at hSw); go_simp; try (with_reducible rfl))); simp only [Act.put, List.setIfInBounds_toArray, List.set_cons_zero, List.set_cons_succ]
              refine wpAnyH_ready (rs := [1, 3]) (by kernel_rfl) (by simp) ?_
              refine AllReadyH.cons rfl (fun K hK => ?_) (AllReadyH.cons rfl (fun K hK => ?_) AllReadyH.nil)
              · go_simp
                (try clear hHeld); refine hK.out _ _ ?_ (fun hHeld => ?_)
                · trivial
                refine wpAnyH_ready (rs := [3]) (by kernel_rfl) (by simp) ?_; refine AllReadyH.cons rfl (fun K hK => ?_) AllReadyH.nil; go_simp
                refine hT.mono ?_
                rintro e Y ⟨rfl, hr, hq⟩
                have hFY := (hFr.bw (Bw.refl X).drew).call hr hq
                have hq0 : Bq (w.heap.size + 1) X Y := ((Bq.refl (w.heap.size + 1) X).bw (Bw.refl X).drew).trans hq
                obtain ⟨v', Z, happ, hFZ, hO2, hx2, hFW, -⟩ := accT_step (ty := 25) infoW Try.underlying25 rfl (by decide) (by decide) hFY hszL hO hx hq0 4 (by simp) 1 [.int .u32 t1] rfl (fun u hu => by simp at hu; subst hu; rfl) (by omega)
                have happ' : (Builtin.append_ #[25, 25] 25 #[v, .slice (some ⟨Y.heap.size, 0, none⟩) 1 1]).run Try.prog (Y.alloc (.cells #[.int .u32 t1] 49)) = .ok v' Z := happ
                have ldY := hFY.bx.c 4 _ rfl
                have ldA := (hFY.bw ((Bw.refl Y).alloc (.cells #[.int .u32 t1] 49))).bx.c 4 _ rfl
                have zc := hFZ.bx.c 4 _ rfl
                have zf := hFZ.bx.f 4 (by simp)
                have HFin : Hid (RT w (Z.setCell ⟨w.heap.size + 2, 4, none⟩ v') L L' f' [va, vi, vs, vr, v', .slice none 0 0] ∧ OwnR 49 1 wL (Z.setCell ⟨w.heap.size + 2, 4, none⟩ v') v' (k0 + 1) ((l ++ [t1]).map (Value.int .u32)) ∧ Bx (w.heap.size + 1) (w.heap.size + 2) wL (Z.setCell ⟨w.heap.size + 2, 4, none⟩ v')) := ⟨hFW, by rw [List.map_append]; exact hO2, hx2⟩
                obtain ⟨gv, cv, rfl⟩ := hO2.form (by omega)
                clear happ hFZ hO2 hx2 hFW hFY hr hq hq0
                (try clear hHeld); refine hK.out _ _ ?_ (fun hHeld => ?_)
                · trivial
                refine wpAnyH_ready (rs := [4]) (by kernel_rfl) (by simp) ?_; refine AllReadyH.cons rfl (fun K hK => ?_) AllReadyH.nil; go_simp
                (try clear hHeld); refine hK.out _ _ ?_ (fun hHeld => ?_)
                · trivial
                refine wpAnyH_ready (rs := [5]) (by kernel_rfl) (by simp) ?_; refine AllReadyH.cons (o := ⟨some 106, _, _, _, _, _⟩) rfl (fun K hK => ?_) AllReadyH.nil; refine stepApp rfl _ _ 25 rfl rfl rfl happ' ?_
                (try clear hHeld); refine hK.out _ _ ?_ (fun hHeld => ?_)
                · trivial
                simp only [Act.put, List.setIfInBounds_toArray, List.set_cons_zero, List.set_cons_succ]
                refine wpAnyH_take (i := 6) (oi := ⟨some 107, _, _, _, _, _⟩) (v := ?_) rfl (by kernel_rfl) (by kernel_rfl) (by kernel_rfl) (fun _ _ _ h => h) (Or.inl ⟨by rfl, ?_⟩) (by assumption) ?_; (rotate_left 1); (focus (intro wz hSw; (try dsimp only at hSw); go_simp; try (with_reducible rfl))); simp only [Act.put, List.setIfInBounds_toArray, List.set_cons_zero, List.set_cons_succ]
                refine wpAnyH_ready (rs := [7]) (by kernel_rfl) (by simp) ?_; refine AllReadyH.cons rfl (fun K hK => ?_) AllReadyH.nil; go_simp
                (try clear hHeld); refine hK.out _ _ ?_ (fun hHeld => ?_)
                · trivial
                refine wpAnyH_done (by kernel_rfl) ?_ _
                go_wp2_with fail
                go_roundg g
                case measure => omega
                case rel => exact ⟨k0 + 1, L', f', l ++ [t1], _, by omega, rfl, HFin.1, h8', hl', HFin.2.1, by rw [List.length_append, hll]; rfl, HFin.2.2, HR2⟩
              · go_simp
                refine hT.mono ?_
                rintro e Y ⟨rfl, hr, hq⟩
                have hFY := (hFr.bw (Bw.refl X).drew).call hr hq
                have hq0 : Bq (w.heap.size + 1) X Y := ((Bq.refl (w.heap.size + 1) X).bw (Bw.refl X).drew).trans hq
                obtain ⟨v', Z, happ, hFZ, hO2, hx2, hFW, -⟩ := accT_step (ty := 25) infoW Try.underlying25 rfl (by decide) (by decide) hFY hszL hO hx hq0 4 (by simp) 1 [.int .u32 t1] rfl (fun u hu => by simp at hu; subst hu; rfl) (by omega)
                have happ' : (Builtin.append_ #[25, 25] 25 #[v, .slice (some ⟨Y.heap.size, 0, none⟩) 1 1]).run Try.prog (Y.alloc (.cells #[.int .u32 t1] 49)) = .ok v' Z := happ
                have ldY := hFY.bx.c 4 _ rfl
                have ldA := (hFY.bw ((Bw.refl Y).alloc (.cells #[.int .u32 t1] 49))).bx.c 4 _ rfl
                have zc := hFZ.bx.c 4 _ rfl
                have zf := hFZ.bx.f 4 (by simp)
                have HFin : Hid (RT w (Z.setCell ⟨w.heap.size + 2, 4, none⟩ v') L L' f' [va, vi, vs, vr, v', .slice none 0 0] ∧ OwnR 49 1 wL (Z.setCell ⟨w.heap.size + 2, 4, none⟩ v') v' (k0 + 1) ((l ++ [t1]).map (Value.int .u32)) ∧ Bx (w.heap.size + 1) (w.heap.size + 2) wL (Z.setCell ⟨w.heap.size + 2, 4, none⟩ v')) := ⟨hFW, by rw [List.map_append]; exact hO2, hx2⟩
                obtain ⟨gv, cv, rfl⟩ := hO2.form (by omega)
                clear happ hFZ hO2 hx2 hFW hFY hr hq hq0
                (try clear hHeld); refine hK.out _ _ ?_ (fun hHeld => ?_)
                · trivial
                refine wpAnyH_ready (rs := [1, 4]) (by kernel_rfl) (by simp) ?_
                refine AllReadyH.cons rfl (fun K hK => ?_) (AllReadyH.cons rfl (fun K hK => ?_) AllReadyH.nil)
                · go_simp
                  (try clear hHeld); refine hK.out _ _ ?_ (fun hHeld => ?_)
                  · trivial
                  refine wpAnyH_ready (rs := [4]) (by kernel_rfl) (by simp) ?_; refine AllReadyH.cons rfl (fun K hK => ?_) AllReadyH.nil; go_simp
                  (try clear hHeld); refine hK.out _ _ ?_ (fun hHeld => ?_)
                  · trivial
                  refine wpAnyH_ready (rs := [5]) (by kernel_rfl) (by simp) ?_; refine AllReadyH.cons (o := ⟨some 106, _, _, _, _, _⟩) rfl (fun K hK => ?_) AllReadyH.nil; refine stepApp rfl _ _ 25 rfl rfl rfl happ' ?_
                  (try clear hHeld); refine hK.out _ _ ?_ (fun hHeld => ?_)
                  · trivial
                  simp only [Act.put, List.setIfInBounds_toArray, List.set_cons_zero, List.set_cons_succ]
                  refine wpAnyH_take (i := 6) (oi := ⟨some 107, _, _, _, _, _⟩) (v := ?_) rfl (by kernel_rfl) (by kernel_rfl) (by kernel_rfl) (fun _ _ _ h => h) (Or.inl ⟨by rfl, ?_⟩) (by assumption) ?_; (rotate_left 1); (focus (intro wz hSw; (try dsimp only at hSw); go_simp; try (with_reducible rfl))); simp only [Act.put, List.setIfInBounds_toArray, List.set_cons_zero, List.set_cons_succ]
                  refine wpAnyH_ready (rs := [7]) (by kernel_rfl) (by simp) ?_; refine AllReadyH.cons rfl (fun K hK => ?_) AllReadyH.nil; go_simp
                  (try clear hHeld); refine hK.out _ _ ?_ (fun hHeld => ?_)
                  · trivial
                  refine wpAnyH_done (by kernel_rfl) ?_ _
                  go_wp2_with fail
                  go_roundg g
                  case measure => omega
                  case rel => exact ⟨k0 + 1, L', f', l ++ [t1], _, by omega, rfl, HFin.1, h8', hl', HFin.2.1, by rw [List.length_append, hll]; rfl, HFin.2.2, HR2⟩
                · go_simp
                  (try clear hHeld); refine hK.out _ _ ?_ (fun hHeld => ?_)
                  · trivial
                  refine wpAnyH_ready (rs := [1]) (by kernel_rfl) (by simp) ?_; refine AllReadyH.cons rfl (fun K hK => ?_) AllReadyH.nil; go_simp
                  (try clear hHeld); refine hK.out _ _ ?_ (fun hHeld => ?_)
                  · trivial
                  refine wpAnyH_ready (rs := [5]) (by kernel_rfl) (by simp) ?_; refine AllReadyH.cons (o := ⟨some 106, _, _, _, _, _⟩) rfl (fun K hK => ?_) AllReadyH.nil; refine stepApp rfl _ _ 25 rfl rfl rfl happ' ?_
                  (try clear hHeld); refine hK.out _ _ ?_ (fun hHeld => ?_)
                  · trivial
                  simp only [Act.put, List.setIfInBounds_toArray, List.set_cons_zero, List.set_cons_succ]
                  refine wpAnyH_take (i := 6) (oi := ⟨some 107, _, _, _, _, _⟩) (v := ?_) rfl (by kernel_rfl) (by kernel_rfl) (by kernel_rfl) (fun _ _ _ h => h) (Or.inl ⟨by rfl, ?_⟩) (by assumption) ?_; (rotate_left 1); (focus (intro wz hSw; (try dsimp only at hSw); go_simp; try (with_reducible rfl))); simp only [Act.put, List.setIfInBounds_toArray, List.set_cons_zero, List.set_cons_succ]
                  refine wpAnyH_ready (rs := [7]) (by kernel_rfl) (by simp) ?_; refine AllReadyH.cons rfl (fun K hK => ?_) AllReadyH.nil; go_simp
                  (try clear hHeld); refine hK.out _ _ ?_ (fun hHeld => ?_)
                  · trivial
                  refine wpAnyH_done (by kernel_rfl) ?_ _
                  go_wp2_with fail
                  go_roundg g
                  case measure => omega
                  case rel => exact ⟨k0 + 1, L', f', l ++ [t1], _, by omega, rfl, HFin.1, h8', hl', HFin.2.1, by rw [List.length_append, hll]; rfl, HFin.2.2, HR2⟩
          | zero =>
            by_cases hkn : k0 < c
            · have tn : decide ((k0 : Int) < (c : Int)) = true := decide_eq_true (by omega)
              have tc : decide ((k0 : Int) < 70) = false := decide_eq_false (by omega)
              have hres2 : (l ++ (Ref.many Ref.num 0 Lk fk).1, (Ref.many Ref.num 0 Lk fk).2) = (C, L6, f6) := hres
              rw [Ref.many, List.append_nil] at hres2
              simp only [Prod.mk.injEq] at hres2
              obtain ⟨h1, h2, h3⟩ := hres2
              have kv := hO.rd
              have hv2 : Hi (w.heap.size + 3) v := hO.hi.le hszL
              rw [← hll, h1] at kv
              rw [h2, h3] at hFr
              have HE2 : Hid (RT w X L L6 f6 [va, vi, vs, vr, v, .slice none 0 0] ∧ RdR 1 X v C.length (C.map (Value.int .u32)) ∧ Hi (w.heap.size + 3) v ∧ B8s L6 ∧ L6.length ≤ 900000) := ⟨hFr, kv, hv2, by rw [← h2]; exact h8, by rw [← h2]; exact hl⟩
              have kA := RdR.x kA (hx) hA (by omega) (by omega)
              have kI := RdR.x kI (hx) hI (by omega) (by omega)
              have kS := RdR.x kS (hx) hS (by omega) (by omega)
              have kR := RdR.x kR (hx) hR (by omega) (by omega)
              clear hres hO hll hx h8 hl h1 h2 h3 kv hv2 hFr
              go_wp2_with fail
              go_meet
              case rel => exact ⟨v, HE2, kA, kI, kS, kR⟩
            · have tn : decide ((k0 : Int) < (c : Int)) = false := decide_eq_false (by omega)
              have hres2 : (l ++ (Ref.many Ref.num 0 Lk fk).1, (Ref.many Ref.num 0 Lk fk).2) = (C, L6, f6) := hres
              rw [Ref.many, List.append_nil] at hres2
              simp only [Prod.mk.injEq] at hres2
              obtain ⟨h1, h2, h3⟩ := hres2
              have kv := hO.rd
              have hv2 : Hi (w.heap.size + 3) v := hO.hi.le hszL
              rw [← hll, h1] at kv
              rw [h2, h3] at hFr
              have HE2 : Hid (RT w X L L6 f6 [va, vi, vs, vr, v, .slice none 0 0] ∧ RdR 1 X v C.length (C.map (Value.int .u32)) ∧ Hi (w.heap.size + 3) v ∧ B8s L6 ∧ L6.length ≤ 900000) := ⟨hFr, kv, hv2, by rw [← h2]; exact h8, by rw [← h2]; exact hl⟩
              have kA := RdR.x kA (hx) hA (by omega) (by omega)
              have kI := RdR.x kI (hx) hI (by omega) (by omega)
              have kS := RdR.x kS (hx) hS (by omega) (by omega)
              have kR := RdR.x kR (hx) hR (by omega) (by omega)
              clear hres hO hll hx h8 hl h1 h2 h3 kv hv2 hFr
              go_wp2_with fail
              go_meet
              case rel => exact ⟨v, HE2, kA, kI, kS, kR⟩
      case rest =>
        clear kA
        clear kI
        clear kS
        clear kR
        obtain ⟨vc, ⟨hF, kC, hC, h8, hl⟩, kA, kI, kS, kR⟩ := hcut
        clear HE hszL hFy
        have hN := numT_c _ wc _ L L6 f6 (by show w.heap.size ≤ w.heap.size + 1; omega) hF.rd h80 hl0
        have hnb := Ref.num_bd f6 h8
        rw [eq] at hN hnb
        dsimp only at hN hnb
        have h8a := hnb.2.2.1
        have hla : Ld.length ≤ 900000 := by omega
        have hqm : q < 4294967296 := by omega
        clear hnb h8 hl eq
        go_wp2_with fail
        refine hN.mono ?_
        rintro e wL ⟨rfl, hr, hq⟩
        have hFy := hF.call hr hq
        have kA := RdR.x kA (hq.x (fb := w.heap.size + 2)) hA (by omega) (by omega)
        have kI := RdR.x kI (hq.x (fb := w.heap.size + 2)) hI (by omega) (by omega)
        have kS := RdR.x kS (hq.x (fb := w.heap.size + 2)) hS (by omega) (by omega)
        have kR := RdR.x kR (hq.x (fb := w.heap.size + 2)) hR (by omega) (by omega)
        have kC := RdR.x kC (hq.x (fb := w.heap.size + 2)) hC (by omega) (by omega)
        clear hN hr hq hF
        obtain ⟨m, hm⟩ : ∃ m, min q 20 = m := ⟨_, rfl⟩
        rw [hm] at eF
        have hm1 : m ≤ q := by omega
        have hm2 : m ≤ 20 := by omega
        have hm3 : m = q ∨ m = 20 := by omega
        have HE : Hid ((([] : List Fee.Fl) ++ (Ref.many Ref.file m Ld fd).1, (Ref.many Ref.file m Ld fd).2) = (F, L7, f7)) := by
          show _ = _
          rw [eF]
          rfl
        clear hm eF
        have hszL : w.heap.size + 3 ≤ wL.heap.size := hFy.sz
        go_upto_block 6 with fail
        go_cut [13, 14] from 110 to 142 (fun s13 s14 wx => ∃ us v, (RT w wx L L7 f7 [va, vi, vs, vr, vc, v] ∧ us.length = F.length ∧ (RdR 2 wx v F.length (Fee.cells F us) ∧ Hi (w.heap.size + 3) v) ∧ ∀ (i : Nat) f u, F[i]? = some f → us[i]? = some u → Rd8 wx u f.data ∧ Hi (w.heap.size + 3) u) ∧ RdR 1 wx va A.length (A.map Value.string) ∧ RdR 1 wx vi I.length (ints8 I) ∧ RdR 1 wx vs S.length (S.map (Value.int .i64)) ∧ RdR 1 wx vr R.length (ints8 R) ∧ RdR 1 wx vc C.length (C.map (Value.int .u32)))
        case first =>
          go_wp2_with fail
          go_loopg [13, 14] m (fun g j jx X => ∃ (k0 : Nat) (Lk : List Int) (fk : Bool) (l : List Fee.Fl) (us : List Value) (v : Value), k0 + g = m ∧ j = .int .u32 k0 ∧ RT w X L Lk fk [va, vi, vs, vr, vc, v] ∧ B8s Lk ∧ Lk.length ≤ 900000 ∧ OwnR 65 2 wL X v k0 (Fee.cells l us) ∧ l.length = k0 ∧ Bx (w.heap.size + 1) (w.heap.size + 2) wL X ∧ FlQ wL X v l us ∧ Hid ((l ++ (Ref.many Ref.file g Lk fk).1, (Ref.many Ref.file g Lk fk).2) = (F, L7, f7)))
          case atStart => exact ⟨0, Ld, fd, [], [], _, by omega, rfl, hFy, h8a, hla, OwnR.nil _ _ _ _, rfl, Bx.refl _ _ _, FlQ.nil _ _, HE⟩
          case round =>
            obtain ⟨X, hXX⟩ : ∃ X, X = wr := ⟨wr, rfl⟩
            subst hXX
            obtain ⟨k0, Lk, fk, l, us, v, hkg, rfl, hFr, h8, hl, hO, hll, hx, hQ, hres⟩ := hrel
            clear hFy h8a hla HE
            obtain ⟨q9, c9, a9, hbb, -⟩ := hFr.rd
            have ldb := hbb.c 2 _ rfl
            clear hbb
            cases gk with
            | succ g =>
              have tn : decide ((k0 : Int) < (q : Int)) = true := decide_eq_true (by omega)
              have tc : decide ((k0 : Int) < 20) = true := decide_eq_true (by omega)
              cases fk with
              | true =>
                have hres2 : (l ++ (Ref.many Ref.file (g + 1) Lk true).1, (Ref.many Ref.file (g + 1) Lk true).2) = (F, L7, f7) := hres
                rw [Ref.many_bad, List.append_nil] at hres2
                simp only [Prod.mk.injEq] at hres2
                obtain ⟨h1, h2, h3⟩ := hres2
                have kv := hO.rd
                have hv2 : Hi (w.heap.size + 3) v := hO.hi.le hszL
                rw [← hll, h1] at kv
                rw [h2, h3] at hFr
                have HE2 : Hid (RT w X L L7 f7 [va, vi, vs, vr, vc, v] ∧ us.length = F.length ∧ (RdR 2 X v F.length (Fee.cells F us) ∧ Hi (w.heap.size + 3) v) ∧ ∀ (i : Nat) f u, F[i]? = some f → us[i]? = some u → Rd8 X u f.data ∧ Hi (w.heap.size + 3) u) := by
                  rw [← h1]
                  rw [← h1] at kv
                  exact ⟨hFr, hQ.1, ⟨kv, hv2⟩, fun i f u a b => ⟨(hQ.2 i f u a b).1, (hQ.2 i f u a b).2.1.le hszL⟩⟩
                have kA := RdR.x kA (hx) hA (by omega) (by omega)
                have kI := RdR.x kI (hx) hI (by omega) (by omega)
                have kS := RdR.x kS (hx) hS (by omega) (by omega)
                have kR := RdR.x kR (hx) hR (by omega) (by omega)
                have kC := RdR.x kC (hx) hC (by omega) (by omega)
                clear hres hO hll hx h8 hl h1 h2 h3 kv hv2 hFr hQ
                go_wp2_with fail
                go_meet
                case rel => exact ⟨us, v, HE2, kA, kI, kS, kR, kC⟩
              | false =>
                obtain ⟨n1, L1, f1, hst1⟩ : ∃ t1 L' f', Ref.num Lk false = (t1, L', f') := ⟨_, _, _, rfl⟩
                have hT := numT_c _ X _ L Lk false (by show w.heap.size ≤ w.heap.size + 1; omega) hFr.rd h80 hl0
                have hb1 := Ref.num_bd false h8
                rw [hst1] at hT hb1
                dsimp only at hT hb1
                have hn0 := hb1.1
                have hn1 := hb1.2.1
                obtain ⟨t0, L2', f2', hst2⟩ : ∃ t1 L' f', Ref.bytes n1 L1 f1 = (t1, L', f') := ⟨_, _, _, rfl⟩
                have hb2 := Ref.bytes_bd (n := n1) f1 hb1.2.2.1
                rw [hst2] at hb2
                dsimp only at hb2
                obtain ⟨n3, L3', f3', hst3⟩ : ∃ t1 L' f', Ref.num L2' f2' = (t1, L', f') := ⟨_, _, _, rfl⟩
                have hb3 := Ref.num_bd f2' hb2.2.1
                rw [hst3] at hb3
                dsimp only at hb3
                have hn30 := hb3.1
                have hn31 := hb3.2.1
                obtain ⟨t1, L', f', hst4⟩ : ∃ t1 L' f', Ref.bytes n3 L3' f3' = (t1, L', f') := ⟨_, _, _, rfl⟩
                have hb4 := Ref.bytes_bd (n := n3) f3' hb3.2.2.1
                rw [hst4] at hb4
                dsimp only at hb4
                have h8' := hb4.2.1
                have hl' : L'.length ≤ 900000 := by omega
                have hst : Ref.file Lk false = ((⟨strOfNums t0, t1⟩ : Fee.Fl), L', f') := by unfold Ref.file Ref.rt; rw [hst1]; dsimp only; rw [hst2]; dsimp only; rw [hst3]; dsimp only; rw [hst4]
                have HR2 : Hid (((l ++ [(⟨strOfNums t0, t1⟩ : Fee.Fl)]) ++ (Ref.many Ref.file g L' f').1, (Ref.many Ref.file g L' f').2) = (F, L7, f7)) := by
                  have h1 : (l ++ (Ref.many Ref.file (g + 1) Lk false).1, (Ref.many Ref.file (g + 1) Lk false).2) = (F, L7, f7) := hres
                  rw [Ref.many, if_neg (by simp), hst] at h1
                  show _ = _
                  rw [List.append_assoc]
                  exact h1
                clear hb1 hb2 hb3 hb4 hst hst1 hres h8 hl
                go_wp2_with fail
                refine hT.mono ?_
                rintro e Y1 ⟨rfl, hr1, hq1⟩
                have hF1 := hFr.call hr1 hq1
                have hT2 := bytesT_c _ Y1 _ n1 L L1 f1 (by show w.heap.size ≤ w.heap.size + 1; omega) hF1.rd hl0 hn0 hn1
                rw [hst2] at hT2
                dsimp only at hT2
                clear hr1 hT ldb
                go_wp2_with fail
                refine hT2.mono ?_
                rintro e Y2 ⟨vn, rfl, hon, hr2, hq2⟩
                have hF2 := hF1.call hr2 hq2
                have hcn := conv8 hon
                obtain ⟨qn, cn, rfl, -⟩ := Rd8.open hon.rd
                obtain ⟨nm, hnm'⟩ : ∃ nm, Value.string (strOfNums t0) = nm := ⟨_, rfl⟩
                obtain ⟨X2, hX2⟩ : ∃ X2, Y2.alloc (.cells #[.string (strOfNums t0), .slice none 0 0] 65) = X2 := ⟨_, rfl⟩
                have hbx0 := Box.new Y2 [.string (strOfNums t0), .slice none 0 0] 65
                have gX2 : Bw Y2 (Y2.alloc (.cells #[.string (strOfNums t0), .slice none 0 0] 65)) := (Bw.refl Y2).alloc _
                change Box (Y2.alloc (.cells #[.string (strOfNums t0), .slice none 0 0] 65)) _ _ at hbx0
                rw [hX2] at hbx0 gX2
                have hF3 := hF2.bw gX2
                have hT3 := numT_c _ X2 _ L L2' f2' (by show w.heap.size ≤ w.heap.size + 1; omega) hF3.rd h80 hl0
                rw [hst3] at hT3
                dsimp only at hT3
                have HX2 : Hid (Y2.alloc (.cells #[.string (strOfNums t0), .slice none 0 0] 65) = X2) := hX2
                clear hr2 hT2 hon hX2 hnm' nm
                go_wp2_with fail
                have hX2 := HX2
                unfold Hid at hX2
                rw [hX2]
                clear hX2 HX2 hcn
                refine hT3.mono ?_
                rintro e Y3 ⟨rfl, hr3, hq3⟩
                have hF4 := hF3.call hr3 hq3
                have hT4 := bytesT_c _ Y3 _ n3 L L3' f3' (by show w.heap.size ≤ w.heap.size + 1; omega) hF4.rd hl0 hn30 hn31
                rw [hst4] at hT4
                dsimp only at hT4
                clear hr3 hT3
                go_wp2_with fail
                refine hT4.mono ?_
                rintro e Y4 ⟨vt, rfl, hot, hr4, hq4⟩
                have hF5 := hF4.call hr4 hq4
                have hwY2 := hF2.sz
                have hbx := (hbx0.q hq3 (by omega)).q hq4 (by omega)
                have bz0 := hbx.c 0 _ rfl
                have bz1 := hbx.c 1 _ rfl
                have bf1 := hbx.f 1 (by simp)
                have hXY : X.heap.size ≤ Y2.heap.size := Nat.le_trans hq1.b0.size hq2.b0.size
                have hq0 : Bq (w.heap.size + 1) X (Y4.setCell ⟨Y2.heap.size, 1, none⟩ vt) := (((((hq1.trans hq2).bw gX2).trans hq3).trans hq4)).new hXY 1 vt
                have hF6 := hF5.away (nb := Y2.heap.size) hwY2 1 vt
                have hlt2 : Y2.heap.size < Y3.heap.size := Nat.lt_of_lt_of_le hbx0.lt hq3.b0.size
                have hot2 := hot.away hlt2 1 vt
                have hbw := hbx.set 1 (by simp) vt
                have ldY := hF6.bx.c 5 _ rfl
                have w0 := hbw.c 0 _ rfl
                have w1 := hbw.c 1 _ rfl
                obtain ⟨W, hW⟩ : ∃ W, Y4.setCell ⟨Y2.heap.size, 1, none⟩ vt = W := ⟨_, rfl⟩
                rw [hW] at hq0 hF6 hot2 hbw ldY w0 w1
                obtain ⟨v', Z, happ, hFZ, hO2, hx2, hFW, hAp⟩ := accT_step (ty := 34) infoRF Try.underlying34 rfl (by decide) (by decide) hF6 hszL hO hx hq0 5 (by simp) 1 [.string (strOfNums t0), vt] rfl (fun u hu => by simp at hu; rcases hu with rfl | rfl; rfl; obtain ⟨qt, ct, e, -⟩ := Rd8.open hot.rd; rw [e]; rfl) (by omega)
                have happ' : (Builtin.append_ #[34, 34] 34 #[v, .slice (some ⟨W.heap.size, 0, none⟩) 1 1]).run Try.prog (W.alloc (.cells #[.string (strOfNums t0), vt] 65)) = .ok v' Z := happ
                have ldA := (hF6.bw ((Bw.refl W).alloc (.cells #[.string (strOfNums t0), vt] 65))).bx.c 5 _ rfl
                have zc := hFZ.bx.c 5 _ rfl
                have zf := hFZ.bx.f 5 (by simp)
                have hQ2 := FlQ.roundT (w := w) (fb := w.heap.size + 2) hQ hO (by omega) (by omega) hx.b0.size hq0 hot2 (by have := hq3.b0.size; have := gX2.size; omega) hAp (⟨strOfNums t0, t1⟩ : Fee.Fl) rfl 5
                have hcs : Fee.cells (l ++ [(⟨strOfNums t0, t1⟩ : Fee.Fl)]) (us ++ [vt]) = Fee.cells l us ++ [.string (strOfNums t0), vt] := Fee.cells_app hQ.1 _ _
                have HFin : Hid (RT w (Z.setCell ⟨w.heap.size + 2, 5, none⟩ v') L L' f' [va, vi, vs, vr, vc, v'] ∧ OwnR 65 2 wL (Z.setCell ⟨w.heap.size + 2, 5, none⟩ v') v' (k0 + 1) (Fee.cells (l ++ [(⟨strOfNums t0, t1⟩ : Fee.Fl)]) (us ++ [vt])) ∧ Bx (w.heap.size + 1) (w.heap.size + 2) wL (Z.setCell ⟨w.heap.size + 2, 5, none⟩ v') ∧ FlQ wL (Z.setCell ⟨w.heap.size + 2, 5, none⟩ v') v' (l ++ [(⟨strOfNums t0, t1⟩ : Fee.Fl)]) (us ++ [vt])) := ⟨hFW, by rw [hcs]; exact hO2, hx2, hQ2⟩
                obtain ⟨qt, ct, rfl, -⟩ := Rd8.open hot.rd
                obtain ⟨gv, cv, rfl⟩ := hO2.form (by omega)
                have HW : Hid (Y4.setCell ⟨Y2.heap.size, 1, none⟩ (.slice qt t1.length ct) = W) := hW
                clear happ hFZ hO2 hx2 hFW hq0 hot hot2 hAp hQ2 hcs hF1 hF2 hF3 hF4 hF5 hF6 hbx0 hbx hbw hr4 hT4 hq1 hq2 hq3 hq4 gX2 hW
                go_upto_region 26 with fail
                have hW := HW
                unfold Hid at hW
                rw [hW]
                clear hW HW bz0 bz1 bf1
                go_wp2_with (first | (at_builtin; refine wpApp rfl _ _ 34 rfl rfl rfl happ' ?_) | go_in)
                go_roundg g
                case measure => omega
                case rel => exact ⟨k0 + 1, L', f', l ++ [(⟨strOfNums t0, t1⟩ : Fee.Fl)], us ++ [_], _, by omega, rfl, HFin.1, h8', hl', HFin.2.1, by rw [List.length_append, hll]; rfl, HFin.2.2.1, HFin.2.2.2, HR2⟩
            | zero =>
              by_cases hkn : k0 < q
              · have tn : decide ((k0 : Int) < (q : Int)) = true := decide_eq_true (by omega)
                have tc : decide ((k0 : Int) < 20) = false := decide_eq_false (by omega)
                have hres2 : (l ++ (Ref.many Ref.file 0 Lk fk).1, (Ref.many Ref.file 0 Lk fk).2) = (F, L7, f7) := hres
                rw [Ref.many, List.append_nil] at hres2
                simp only [Prod.mk.injEq] at hres2
                obtain ⟨h1, h2, h3⟩ := hres2
                have kv := hO.rd
                have hv2 : Hi (w.heap.size + 3) v := hO.hi.le hszL
                rw [← hll, h1] at kv
                rw [h2, h3] at hFr
                have HE2 : Hid (RT w X L L7 f7 [va, vi, vs, vr, vc, v] ∧ us.length = F.length ∧ (RdR 2 X v F.length (Fee.cells F us) ∧ Hi (w.heap.size + 3) v) ∧ ∀ (i : Nat) f u, F[i]? = some f → us[i]? = some u → Rd8 X u f.data ∧ Hi (w.heap.size + 3) u) := by
                  rw [← h1]
                  rw [← h1] at kv
                  exact ⟨hFr, hQ.1, ⟨kv, hv2⟩, fun i f u a b => ⟨(hQ.2 i f u a b).1, (hQ.2 i f u a b).2.1.le hszL⟩⟩
                have kA := RdR.x kA (hx) hA (by omega) (by omega)
                have kI := RdR.x kI (hx) hI (by omega) (by omega)
                have kS := RdR.x kS (hx) hS (by omega) (by omega)
                have kR := RdR.x kR (hx) hR (by omega) (by omega)
                have kC := RdR.x kC (hx) hC (by omega) (by omega)
                clear hres hO hll hx h8 hl h1 h2 h3 kv hv2 hFr hQ
                go_wp2_with fail
                go_meet
                case rel => exact ⟨us, v, HE2, kA, kI, kS, kR, kC⟩
              · have tn : decide ((k0 : Int) < (q : Int)) = false := decide_eq_false (by omega)
                have hres2 : (l ++ (Ref.many Ref.file 0 Lk fk).1, (Ref.many Ref.file 0 Lk fk).2) = (F, L7, f7) := hres
                rw [Ref.many, List.append_nil] at hres2
                simp only [Prod.mk.injEq] at hres2
                obtain ⟨h1, h2, h3⟩ := hres2
                have kv := hO.rd
                have hv2 : Hi (w.heap.size + 3) v := hO.hi.le hszL
                rw [← hll, h1] at kv
                rw [h2, h3] at hFr
                have HE2 : Hid (RT w X L L7 f7 [va, vi, vs, vr, vc, v] ∧ us.length = F.length ∧ (RdR 2 X v F.length (Fee.cells F us) ∧ Hi (w.heap.size + 3) v) ∧ ∀ (i : Nat) f u, F[i]? = some f → us[i]? = some u → Rd8 X u f.data ∧ Hi (w.heap.size + 3) u) := by
                  rw [← h1]
                  rw [← h1] at kv
                  exact ⟨hFr, hQ.1, ⟨kv, hv2⟩, fun i f u a b => ⟨(hQ.2 i f u a b).1, (hQ.2 i f u a b).2.1.le hszL⟩⟩
                have kA := RdR.x kA (hx) hA (by omega) (by omega)
                have kI := RdR.x kI (hx) hI (by omega) (by omega)
                have kS := RdR.x kS (hx) hS (by omega) (by omega)
                have kR := RdR.x kR (hx) hR (by omega) (by omega)
                have kC := RdR.x kC (hx) hC (by omega) (by omega)
                clear hres hO hll hx h8 hl h1 h2 h3 kv hv2 hFr hQ
                go_wp2_with fail
                go_meet
                case rel => exact ⟨us, v, HE2, kA, kI, kS, kR, kC⟩
        case rest =>
          clear kA
          clear kI
          clear kS
          clear kR
          clear kC
          obtain ⟨us, vf, ⟨hF, hus, ⟨kF, hF2⟩, hfl⟩, kA, kI, kS, kR, kC⟩ := hcut
          clear HE hszL hFy
          have hIs : FdHi (w.heap.size + 3) wc (.agg #[va, vi, vs, vr, vc, vf]) ⟨A, I, S, R, C, F⟩ := ⟨va, vi, vs, vr, vc, vf, us, rfl, ⟨kA, hA⟩, ⟨kI, hI⟩, ⟨kS, hS⟩, ⟨kR, hR⟩, ⟨kC, hC⟩, hus, ⟨kF, hF2⟩, hfl, hO.2.2.2.2, ⟨hO.1, fun n hn => by have := hO.2.1 n hn; omega, hO.2.2.1, hO.2.2.2.1⟩⟩
          obtain ⟨qa, ca, rfl, -⟩ := RdR.form kA
          obtain ⟨qi, ci, rfl, -⟩ := RdR.form kI
          obtain ⟨qs, cs, rfl, -⟩ := RdR.form kS
          obtain ⟨qr, cr, rfl, -⟩ := RdR.form kR
          obtain ⟨qc, cc, rfl, -⟩ := RdR.form kC
          obtain ⟨qf, cf, rfl, -⟩ := RdR.form kF
          obtain ⟨q9, c9, a9, hb9, ha9, hL9, -⟩ := hF.rd
          have hM := rMay_c _ _ wc hIs.is hSz
          obtain ⟨W, hWW⟩ : ∃ X, X = wc := ⟨wc, rfl⟩
          subst hWW
          clear kA kI kS kR kC kF hA hI hS hR hC hF2 hus hfl h80 hl0 hO hSz
          have HI : Hid _ := hIs
          clear hIs
          go_upto_region 27 with fail
          go_cut [176] from 143 to 176 (fun s wx => ((s = .bool true ∧ Ref.fin n k c q L7 f7 ⟨A, I, S, R, C, F⟩ = (Fee.noFd, false)) ∨ (s = .bool false ∧ Ref.fin n k c q L7 f7 ⟨A, I, S, R, C, F⟩ = (⟨A, I, S, R, C, F⟩, true))) ∧ Bw W wx)
          case first =>
            have lr1 := hb9.c 1 _ rfl; have lr2 := hb9.c 2 _ rfl
            have c0 := hF.bx.c 0 _ rfl; have c1 := hF.bx.c 1 _ rfl; have c2 := hF.bx.c 2 _ rfl; have c3 := hF.bx.c 3 _ rfl; have c4 := hF.bx.c 4 _ rfl; have c5 := hF.bx.c 5 _ rfl
            clear hF hb9
            cases f7 with
            | true =>
              clear hM
              go_wp2_with fail
              go_meet
              case rel => exact ⟨Or.inl ⟨rfl, if_pos (Or.inl rfl)⟩, Bw.refl _⟩
            | false =>
              by_cases hat : a9 = L.length
              case neg =>
                have hl7 : 0 < L7.length := by rw [hL9, List.length_drop]; omega
                have t1 : ((a9 : Int) != (L.length : Int)) = true := by simp; omega
                have t2 : ((a9 : Int) == (L.length : Int)) = false := by simp; omega
                have t3 : decide ((a9 : Int) = (L.length : Int)) = false := decide_eq_false (by omega)
                clear hM
                go_wp2_with fail
                go_meet
                case rel => exact ⟨Or.inl ⟨rfl, if_pos (Or.inr (Or.inl hl7))⟩, Bw.refl _⟩
              have hl7 : ¬ 0 < L7.length := by rw [hL9, List.length_drop]; omega
              have t1 : ((a9 : Int) != (L.length : Int)) = false := by simp; omega
              have t2 : ((a9 : Int) == (L.length : Int)) = true := by simp; omega
              have t3 : decide ((a9 : Int) = (L.length : Int)) = true := decide_eq_true (by omega)
              by_cases hnx : 16 < n
              case pos =>
                have unx : decide ((16 : Int) < (n : Int)) = true := decide_eq_true (by omega)
                clear hM
                go_wp2_with fail
                go_meet
                case rel => exact ⟨Or.inl ⟨rfl, if_pos (Or.inr (Or.inr (Or.inl (by omega))))⟩, Bw.refl _⟩
              have unx : decide ((16 : Int) < (n : Int)) = false := decide_eq_false (by omega)
              by_cases hkx : 64 < k
              case pos =>
                have ukx : decide ((64 : Int) < (k : Int)) = true := decide_eq_true (by omega)
                clear hM
                go_wp2_with fail
                go_meet
                case rel => exact ⟨Or.inl ⟨rfl, if_pos (Or.inr (Or.inr (Or.inr (Or.inl (by omega)))))⟩, Bw.refl _⟩
              have ukx : decide ((64 : Int) < (k : Int)) = false := decide_eq_false (by omega)
              by_cases hcx : 64 < c
              case pos =>
                have ucx : decide ((64 : Int) < (c : Int)) = true := decide_eq_true (by omega)
                clear hM
                go_wp2_with fail
                go_meet
                case rel => exact ⟨Or.inl ⟨rfl, if_pos (Or.inr (Or.inr (Or.inr (Or.inr (Or.inl (by omega))))))⟩, Bw.refl _⟩
              have ucx : decide ((64 : Int) < (c : Int)) = false := decide_eq_false (by omega)
              by_cases hqx : 8 < q
              case pos =>
                have uqx : decide ((8 : Int) < (q : Int)) = true := decide_eq_true (by omega)
                clear hM
                go_wp2_with fail
                go_meet
                case rel => exact ⟨Or.inl ⟨rfl, if_pos (Or.inr (Or.inr (Or.inr (Or.inr (Or.inr (Or.inl (by omega)))))))⟩, Bw.refl _⟩
              have uqx : decide ((8 : Int) < (q : Int)) = false := decide_eq_false (by omega)
              cases hg : Fee.good (⟨A, I, S, R, C, F⟩ : Fee.Fd) with
              | false =>
                rw [hg] at hM
                go_wp2_with fail
                refine hM.mono ?_
                rintro e wM ⟨rfl, bM⟩
                go_wp2_with fail
                go_meet
                case rel => exact ⟨Or.inl ⟨rfl, if_pos (Or.inr (Or.inr (Or.inr (Or.inr (Or.inr (Or.inr hg))))))⟩, bM⟩
              | true =>
                rw [hg] at hM
                have hN : Ref.fin n k c q L7 false ⟨A, I, S, R, C, F⟩ = (⟨A, I, S, R, C, F⟩, true) := if_neg (fun h => by
                  rcases h with h | h | h | h | h | h | h
                  · cases h
                  · exact hl7 h
                  · omega
                  · omega
                  · omega
                  · omega
                  · rw [hg] at h; cases h)
                have HN : Hid _ := hN
                clear hN
                go_wp2_with fail
                refine hM.mono ?_
                rintro e wM ⟨rfl, bM⟩
                go_wp2_with fail
                go_meet
                case rel => exact ⟨Or.inr ⟨rfl, HN⟩, bM⟩
          case rest =>
            obtain ⟨hs, hB⟩ := hcut
            have hIs : FdHi _ _ _ _ := HI
            have a4 := hF.ax.bw hB
            have f4 := hF.bx.bw hB
            have hb4 := hF.fr.trans hB
            have hFd4 := hIs.q ((Bq.refl w.heap.size _).bw hB) (by omega)
            have z0 := a4.c 0 _ rfl; have z1 := a4.c 1 _ rfl; have z2 := a4.c 2 _ rfl; have z3 := a4.c 3 _ rfl; have z4 := a4.c 4 _ rfl; have z5 := a4.c 5 _ rfl
            have y0 := a4.f 0 (by simp); have y1 := a4.f 1 (by simp); have y2 := a4.f 2 (by simp); have y3 := a4.f 3 (by simp); have y4 := a4.f 4 (by simp); have y5 := a4.f 5 (by simp)
            have c0 := f4.c 0 _ rfl; have c1 := f4.c 1 _ rfl; have c2 := f4.c 2 _ rfl; have c3 := f4.c 3 _ rfl; have c4 := f4.c 4 _ rfl; have c5 := f4.c 5 _ rfl
            have HB : Hid _ := ((((((hb4.setCell (p := ⟨w.heap.size, 0, none⟩) (Nat.le_refl _) (.slice none 0 0)).setCell (p := ⟨w.heap.size, 1, none⟩) (Nat.le_refl _) (.slice none 0 0)).setCell (p := ⟨w.heap.size, 2, none⟩) (Nat.le_refl _) (.slice none 0 0)).setCell (p := ⟨w.heap.size, 3, none⟩) (Nat.le_refl _) (.slice none 0 0)).setCell (p := ⟨w.heap.size, 4, none⟩) (Nat.le_refl _) (.slice none 0 0)).setCell (p := ⟨w.heap.size, 5, none⟩) (Nat.le_refl _) (.slice none 0 0))
            have hB2 : Bw w _ := ((((((hb4.setCell (p := ⟨w.heap.size, 0, none⟩) (Nat.le_refl _) (.slice qa A.length ca)).setCell (p := ⟨w.heap.size, 1, none⟩) (Nat.le_refl _) (.slice qi I.length ci)).setCell (p := ⟨w.heap.size, 2, none⟩) (Nat.le_refl _) (.slice qs S.length cs)).setCell (p := ⟨w.heap.size, 3, none⟩) (Nat.le_refl _) (.slice qr R.length cr)).setCell (p := ⟨w.heap.size, 4, none⟩) (Nat.le_refl _) (.slice qc C.length cc)).setCell (p := ⟨w.heap.size, 5, none⟩) (Nat.le_refl _) (.slice qf F.length cf))
            have hFd5 := hFd4.q (((((((Bq.refl w.heap.size _).set 0 (.slice qa A.length ca)).set 1 (.slice qi I.length ci)).set 2 (.slice qs S.length cs)).set 3 (.slice qr R.length cr)).set 4 (.slice qc C.length cc)).set 5 (.slice qf F.length cf)) (by omega)
            have HFin : Hid _ := And.intro hFd5.is hB2
            clear a4 f4 hb4 hFd4 hFd5 hB2 hIs HI hF hM hb9 hB
            rcases hs with ⟨rfl, hf⟩ | ⟨rfl, hf⟩
            · have HG : Hid _ := hf
              clear hf HFin
              go_wp2_with fail
              (try simp only [Exit.inBlock, Exit.then]); refine bodyPost_ret (by simp [results, Try.results8, go_sem, z0, z1, z2, z3, z4, z5]; try rfl) rfl ?_
              have hf : Ref.fin n k c q L7 f7 ⟨A, I, S, R, C, F⟩ = (Fee.noFd, false) := HG
              refine ⟨_, by rw [hf], ?_, HB⟩
              rw [hf]
              exact Fee.no_is _
            · have HG : Hid _ := hf
              clear hf HB
              go_wp2_with fail
              (try simp only [Exit.inBlock, Exit.then]); refine bodyPost_ret (by simp [results, Try.results8, go_sem, z0, z1, z2, z3, z4, z5]; try rfl) rfl ?_
              have hf : Ref.fin n k c q L7 f7 ⟨A, I, S, R, C, F⟩ = (⟨A, I, S, R, C, F⟩, true) := HG
              refine ⟨_, by rw [hf], ?_, HFin.2⟩
              rw [hf]
              exact HFin.1
end Go.Proofs.Ytmecompcffphcaa
