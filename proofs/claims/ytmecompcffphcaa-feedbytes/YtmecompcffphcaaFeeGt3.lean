/- LAYER 9's walks: readFeed (made by fee3.py). -/
import Derived.Test.YtmecompcffphcaaFeeGt3a
namespace Go.Proofs.Ytmecompcffphcaa
open Go.ChangeShapes Go.WideShapes Go.ChangeAt Go.RowKit
set_option linter.unusedSimpArgs false
set_option linter.unusedVariables false

/-- What readFeed leaves. -/
def ReadPost (w : World) (rb : Nat) (L : List Int) (fl : Bool) (e : Ending) (w' : World) : Prop :=
  ∃ va vi vs vr vc vf, e = .returned (.agg #[va, vi, vs, vr, vc, vf]) ∧ FdHi w.heap.size w' (.agg #[va, vi, vs, vr, vc, vf]) (Fee.fdOf (Fee.parts L fl).1) ∧ RdS (fun i => i = rb ∨ w.heap.size ≤ i) w' rb (Fee.parts L fl).2.1 (Fee.parts L fl).2.2 ∧ Bq rb w w'
set_option maxHeartbeats 8000000 in
set_option maxRecDepth 100000 in
theorem readFeed_c (w : World) (rb : Nat) (L : List Int) (fl : Bool) (h : RdS (fun i => i = rb ∨ w.heap.size ≤ i) w rb L fl) (h8 : B8s L) (hl : L.length ≤ 900000) :
    Calls Try.prog 18 #[.pointer (some ⟨rb, 0, none⟩)] w fun e w' => ReadPost w rb L fl e w' := by
  have hlt : rb < w.heap.size := by obtain ⟨v, hb, -⟩ := h; exact hb.lt
  have hOk := (Fee.ok_parts.ok L fl h8).1
  obtain ⟨A, L2, f2, eA⟩ : ∃ A L2 f2, Fee.some 16 Fee.rArg L fl = (A, L2, f2) := ⟨_, _, _, rfl⟩
  obtain ⟨I, L3, f3, eI⟩ : ∃ A L2' f2', Fee.rt 4096 L2 f2 = (A, L2', f2') := ⟨_, _, _, rfl⟩
  obtain ⟨S, L4, f4, eS⟩ : ∃ A L2' f2', Fee.some 64 (Fee.rn 4096) L3 f3 = (A, L2', f2') := ⟨_, _, _, rfl⟩
  obtain ⟨R, L5, f5, eR⟩ : ∃ A L2' f2', Fee.rt 4096 L4 f4 = (A, L2', f2') := ⟨_, _, _, rfl⟩
  obtain ⟨C, L6, f6, eC⟩ : ∃ A L2' f2', Fee.some 64 Fee.rw L5 f5 = (A, L2', f2') := ⟨_, _, _, rfl⟩
  obtain ⟨F, L7, f7, eF⟩ : ∃ A L2' f2', Fee.some 8 Fee.rFile L6 f6 = (A, L2', f2') := ⟨_, _, _, rfl⟩
  have hparts : Fee.parts L fl = ((A, I, S, R, C, F), L7, f7) := by
    unfold Fee.parts Fee.pair
    simp only [eA, eI, eS, eR, eC, eF]
  rw [hparts] at hOk
  obtain ⟨-, okI, okS, okR, okC, okF⟩ := hOk
  dsimp only at okI okS okR okC okF
  have HP : Hid (Fee.parts L fl = ((A, I, S, R, C, F), L7, f7)) := hparts
  have HO : Hid (B8s I ∧ (∀ n ∈ S, 0 ≤ n ∧ n ≤ 4096) ∧ B8s R ∧ (∀ n ∈ C, 0 ≤ n ∧ n < 4294967296) ∧ ∀ f ∈ F, B8s f.data) := ⟨okI, okS, okR, okC, okF⟩
  clear hparts okI okS okR okC okF
  have hA := Box.new w [.slice none 0 0, .slice none 0 0, .slice none 0 0, .slice none 0 0, .slice none 0 0, .slice none 0 0] 28
  have hBn := Box.new (w.alloc (.cells #[.slice none 0 0, .slice none 0 0, .slice none 0 0, .slice none 0 0, .slice none 0 0, .slice none 0 0] 28)) [.slice none 0 0, .slice none 0 0, .slice none 0 0, .slice none 0 0, .slice none 0 0, .slice none 0 0] 28
  have g2 : Bw w ((w.alloc (.cells #[.slice none 0 0, .slice none 0 0, .slice none 0 0, .slice none 0 0, .slice none 0 0, .slice none 0 0] 28)).alloc (.cells #[.slice none 0 0, .slice none 0 0, .slice none 0 0, .slice none 0 0, .slice none 0 0, .slice none 0 0] 28)) := ((Bw.refl w).alloc _).alloc _
  have hA2 := hA.bw ((Bw.refl _).alloc (.cells #[.slice none 0 0, .slice none 0 0, .slice none 0 0, .slice none 0 0, .slice none 0 0, .slice none 0 0] 28))
  rw [World.size_alloc] at hBn
  obtain ⟨X, hX⟩ : ∃ X, (w.alloc (.cells #[.slice none 0 0, .slice none 0 0, .slice none 0 0, .slice none 0 0, .slice none 0 0, .slice none 0 0] 28)).alloc (.cells #[.slice none 0 0, .slice none 0 0, .slice none 0 0, .slice none 0 0, .slice none 0 0, .slice none 0 0] 28) = X := ⟨_, rfl⟩
  have hF : RF w rb X L fl [.slice none 0 0, .slice none 0 0, .slice none 0 0, .slice none 0 0, .slice none 0 0, .slice none 0 0] := by
    rw [← hX]
    exact ⟨h.keep g2.size (fun i hi => Below.block g2 i (by rcases hi with rfl | hi; exact hlt; apply Decidable.byContradiction; intro hn; exact hi (Or.inr (by omega)))), hBn, hA2, ((Bq.refl rb w).bw g2).b2, by simp, hlt⟩
  clear hA hBn g2 hA2 h
  go_enter Try.func18, Try.ntmps18
  go_wp2_with fail
  clear hX
  have hN := numA_c _ X rb L fl 16 (Or.inl rfl) hF.rd h8
  have hbn := Fee.rn_bd (m := 16) fl h8
  have hln := Fee.rn_len 16 L fl
  obtain ⟨n, hn⟩ : ∃ n : Nat, (Fee.rn 16 L fl).1 = n := ⟨(Fee.rn 16 L fl).1.toNat, by omega⟩
  obtain ⟨La, hLa⟩ : ∃ La, (Fee.rn 16 L fl).2.1 = La := ⟨_, rfl⟩
  obtain ⟨fa, hfa⟩ : ∃ fa, (Fee.rn 16 L fl).2.2 = fa := ⟨_, rfl⟩
  rw [hn, hLa, hfa] at hN
  rw [hn, hLa] at hbn
  rw [hLa] at hln
  have hnm : n ≤ 16 := by have := hbn.2.1 (by omega); omega
  have HE : Hid ((([] : List ByteArray) ++ (Fee.many Fee.rArg n La fa).1, (Fee.many Fee.rArg n La fa).2) = (A, L2, f2)) := by
    show _ = _
    rw [← eA]
    unfold Fee.some
    rw [hn, hLa, hfa, Int.toNat_natCast]
    rfl
  have h8a := hbn.2.2
  have hla : La.length ≤ 900000 := by omega
  clear hn hLa hfa hbn hln eA h8 hl
  refine hN.mono ?_
  rintro e wL ⟨rfl, hr, hq⟩
  have hFy := hF.call hr hq
  have hszL : w.heap.size + 2 ≤ wL.heap.size := hFy.sz
  clear hN hr hq hF
  go_wp2_with fail
  go_loopg [7] n (fun g j X => ∃ (k : Nat) (Lk : List Int) (fk : Bool) (l : List ByteArray) (v : Value), k + g = n ∧ j = .int .i64 k ∧ RF w rb X Lk fk [v, .slice none 0 0, .slice none 0 0, .slice none 0 0, .slice none 0 0, .slice none 0 0] ∧ B8s Lk ∧ Lk.length ≤ 900000 ∧ OwnR 9 1 wL X v k (l.map Value.string) ∧ l.length = k ∧ Bx rb (w.heap.size + 1) wL X ∧ Hid ((l ++ (Fee.many Fee.rArg g Lk fk).1, (Fee.many Fee.rArg g Lk fk).2) = (A, L2, f2)))
  case atStart => exact ⟨0, La, fa, [], _, by omega, rfl, hFy, h8a, hla, OwnR.nil _ _ _ _, rfl, Bx.refl _ _ _, HE⟩
  case round =>
    obtain ⟨X, hXX⟩ : ∃ X, X = wr := ⟨wr, rfl⟩
    subst hXX
    obtain ⟨k, Lk, fk, l, v, hkg, rfl, hFr, h8, hl, hO, hll, hx, hres⟩ := hrel
    clear hFy h8a hla HE
    cases gk with
    | succ g =>
      have hki : (k : Int) < (n : Int) := by omega
      obtain ⟨t1, L', f', hst⟩ : ∃ t1 L' f', Fee.rt 200 Lk fk = (t1, L', f') := ⟨_, _, _, rfl⟩
      have hT := textA_c _ X.drew rb Lk fk 200 (Or.inl rfl) (hFr.bw (Bw.refl X).drew).rd h8 hl
      have hbd := Fee.rt_bd (m := 200) fk h8
      rw [hst] at hT hbd
      dsimp only at hT hbd
      have h8' := hbd.2.1
      have hl' : L'.length ≤ 900000 := by omega
      have HR2 : Hid (((l ++ [strOfNums t1]) ++ (Fee.many Fee.rArg g L' f').1, (Fee.many Fee.rArg g L' f').2) = (A, L2, f2)) := by
        have h1 : (l ++ (Fee.many Fee.rArg (g + 1) Lk fk).1, (Fee.many Fee.rArg (g + 1) Lk fk).2) = (A, L2, f2) := hres
        have h2 : Fee.rArg Lk fk = (strOfNums t1, L', f') := by unfold Fee.rArg; rw [hst]
        rw [Fee.many, h2] at h1
        show _ = _
        rw [List.append_assoc]
        exact h1
      clear hbd hst hres h8 hl
      have ldX := hFr.bx.c 0 _ rfl
      go_wp2_with fail
      refine wp_region_held_drew (S := fun _ => True) (by kernel_rfl) trivial (fun hHeld => ?_)
      refine wpAnyH_take (i := 0) (oi := ⟨some 9, _, _, _, _, _⟩) (v := ?_) rfl (by kernel_rfl) (by kernel_rfl) (by kernel_rfl) (fun _ _ _ h => h) (Or.inl ⟨by rfl, ?_⟩) (by assumption) ?_; (rotate_left 1); (focus (intro wz hSw; (try dsimp only at hSw); go_simp; try (with_reducible rfl))); simp only [Act.put, List.setIfInBounds_toArray, List.set_cons_zero, List.set_cons_succ]
      refine wpAnyH_take (i := 2) (oi := ⟨some 11, _, _, _, _, _⟩) (v := ?_) rfl (by kernel_rfl) (by kernel_rfl) (by kernel_rfl) (fun _ _ _ h => h) (Or.inl ⟨by rfl, ?_⟩) (by assumption) ?_; (rotate_left 1); (focus (intro wz hSw; (try dsimp only at hSw); go_simp; try (with_reducible rfl))); simp only [Act.put, List.setIfInBounds_toArray, List.set_cons_zero, List.set_cons_succ]
      refine wpAnyH_ready (rs := [1, 3]) (by kernel_rfl) (by simp) ?_
      refine AllReadyH.cons rfl (fun K hK => ?_) (AllReadyH.cons rfl (fun K hK => ?_) AllReadyH.nil)
      · go_simp
        (try clear hHeld); refine hK.out _ _ ?_ (fun hHeld => ?_)
        · trivial
        refine wpAnyH_ready (rs := [3]) (by kernel_rfl) (by simp) ?_; refine AllReadyH.cons rfl (fun K hK => ?_) AllReadyH.nil; go_simp
        refine hT.mono ?_
        rintro e Y ⟨vt, rfl, hot, hr, hq⟩
        have hFY := (hFr.bw (Bw.refl X).drew).call hr hq
        have hq0 : Bq rb X Y := ((Bq.refl rb X).bw (Bw.refl X).drew).trans hq
        obtain ⟨v', Z, happ, hFZ, hO2, hx2, hFW, -⟩ := acc_step (ty := 23) infoS Try.underlying23 rfl (by decide) (by decide) hFY hszL hO hx hq0 0 (by simp) 1 [.string (strOfNums t1)] rfl (fun u hu => by simp at hu; subst hu; rfl) (by omega)
        have happ' : (Builtin.append_ #[23, 23] 23 #[v, .slice (some ⟨Y.heap.size, 0, none⟩) 1 1]).run Try.prog (Y.alloc (.cells #[.string (strOfNums t1)] 9)) = .ok v' Z := happ
        have hcv := conv8 hot
        obtain ⟨qt, ct, rfl, -⟩ := Rd8.open hot.rd
        have ldY := hFY.bx.c 0 _ rfl
        have ldA := (hFY.bw ((Bw.refl Y).alloc (.cells #[.string (strOfNums t1)] 9))).bx.c 0 _ rfl
        have zc := hFZ.bx.c 0 _ rfl
        have zf := hFZ.bx.f 0 (by simp)
        have HFin : Hid (RF w rb (Z.setCell ⟨w.heap.size + 1, 0, none⟩ v') L' f' [v', .slice none 0 0, .slice none 0 0, .slice none 0 0, .slice none 0 0, .slice none 0 0] ∧ OwnR 9 1 wL (Z.setCell ⟨w.heap.size + 1, 0, none⟩ v') v' (k + 1) ((l ++ [strOfNums t1]).map Value.string) ∧ Bx rb (w.heap.size + 1) wL (Z.setCell ⟨w.heap.size + 1, 0, none⟩ v')) := ⟨hFW, by rw [List.map_append]; exact hO2, hx2⟩
        obtain ⟨gv, cv, rfl⟩ := hO2.form (by omega)
        clear happ hFZ hO2 hx2 hFW hFY hr hq hq0 hot
        (try clear hHeld); refine hK.out _ _ ?_ (fun hHeld => ?_)
        · trivial
        refine wpAnyH_ready (rs := [4]) (by kernel_rfl) (by simp) ?_; refine AllReadyH.cons rfl (fun K hK => ?_) AllReadyH.nil; go_simp
        (try clear hHeld); refine hK.out _ _ ?_ (fun hHeld => ?_)
        · trivial
        refine wpAnyH_ready (rs := [5]) (by kernel_rfl) (by simp) ?_; refine AllReadyH.cons rfl (fun K hK => ?_) AllReadyH.nil; go_simp
        (try clear hHeld); refine hK.out _ _ ?_ (fun hHeld => ?_)
        · trivial
        refine wpAnyH_ready (rs := [6]) (by kernel_rfl) (by simp) ?_; refine AllReadyH.cons (o := ⟨some 15, _, _, _, _, _⟩) rfl (fun K hK => ?_) AllReadyH.nil; refine stepApp rfl _ _ 23 rfl rfl rfl happ' ?_
        (try clear hHeld); refine hK.out _ _ ?_ (fun hHeld => ?_)
        · trivial
        simp only [Act.put, List.setIfInBounds_toArray, List.set_cons_zero, List.set_cons_succ]
        refine wpAnyH_take (i := 7) (oi := ⟨some 16, _, _, _, _, _⟩) (v := ?_) rfl (by kernel_rfl) (by kernel_rfl) (by kernel_rfl) (fun _ _ _ h => h) (Or.inl ⟨by rfl, ?_⟩) (by assumption) ?_; (rotate_left 1); (focus (intro wz hSw; (try dsimp only at hSw); go_simp; try (with_reducible rfl))); simp only [Act.put, List.setIfInBounds_toArray, List.set_cons_zero, List.set_cons_succ]
        refine wpAnyH_ready (rs := [8]) (by kernel_rfl) (by simp) ?_; refine AllReadyH.cons rfl (fun K hK => ?_) AllReadyH.nil; go_simp
        (try clear hHeld); refine hK.out _ _ ?_ (fun hHeld => ?_)
        · trivial
        refine wpAnyH_done (by kernel_rfl) ?_ _
        go_wp2_with fail
        go_roundg g
        case measure => omega
        case rel => exact ⟨k + 1, L', f', l ++ [strOfNums t1], _, by omega, by simp, HFin.1, h8', hl', HFin.2.1, by rw [List.length_append, hll]; rfl, HFin.2.2, HR2⟩
      · go_simp
        refine hT.mono ?_
        rintro e Y ⟨vt, rfl, hot, hr, hq⟩
        have hFY := (hFr.bw (Bw.refl X).drew).call hr hq
        have hq0 : Bq rb X Y := ((Bq.refl rb X).bw (Bw.refl X).drew).trans hq
        obtain ⟨v', Z, happ, hFZ, hO2, hx2, hFW, -⟩ := acc_step (ty := 23) infoS Try.underlying23 rfl (by decide) (by decide) hFY hszL hO hx hq0 0 (by simp) 1 [.string (strOfNums t1)] rfl (fun u hu => by simp at hu; subst hu; rfl) (by omega)
        have happ' : (Builtin.append_ #[23, 23] 23 #[v, .slice (some ⟨Y.heap.size, 0, none⟩) 1 1]).run Try.prog (Y.alloc (.cells #[.string (strOfNums t1)] 9)) = .ok v' Z := happ
        have hcv := conv8 hot
        obtain ⟨qt, ct, rfl, -⟩ := Rd8.open hot.rd
        have ldY := hFY.bx.c 0 _ rfl
        have ldA := (hFY.bw ((Bw.refl Y).alloc (.cells #[.string (strOfNums t1)] 9))).bx.c 0 _ rfl
        have zc := hFZ.bx.c 0 _ rfl
        have zf := hFZ.bx.f 0 (by simp)
        have HFin : Hid (RF w rb (Z.setCell ⟨w.heap.size + 1, 0, none⟩ v') L' f' [v', .slice none 0 0, .slice none 0 0, .slice none 0 0, .slice none 0 0, .slice none 0 0] ∧ OwnR 9 1 wL (Z.setCell ⟨w.heap.size + 1, 0, none⟩ v') v' (k + 1) ((l ++ [strOfNums t1]).map Value.string) ∧ Bx rb (w.heap.size + 1) wL (Z.setCell ⟨w.heap.size + 1, 0, none⟩ v')) := ⟨hFW, by rw [List.map_append]; exact hO2, hx2⟩
        obtain ⟨gv, cv, rfl⟩ := hO2.form (by omega)
        clear happ hFZ hO2 hx2 hFW hFY hr hq hq0 hot
        (try clear hHeld); refine hK.out _ _ ?_ (fun hHeld => ?_)
        · trivial
        refine wpAnyH_ready (rs := [1, 4]) (by kernel_rfl) (by simp) ?_
        refine AllReadyH.cons rfl (fun K hK => ?_) (AllReadyH.cons rfl (fun K hK => ?_) AllReadyH.nil)
        · go_simp
          (try clear hHeld); refine hK.out _ _ ?_ (fun hHeld => ?_)
          · trivial
          refine wpAnyH_ready (rs := [4]) (by kernel_rfl) (by simp) ?_; refine AllReadyH.cons rfl (fun K hK => ?_) AllReadyH.nil; go_simp
          (try clear hHeld); refine hK.out _ _ ?_ (fun hHeld => ?_)
          · trivial
          refine wpAnyH_ready (rs := [5]) (by kernel_rfl) (by simp) ?_; refine AllReadyH.cons rfl (fun K hK => ?_) AllReadyH.nil; go_simp
          (try clear hHeld); refine hK.out _ _ ?_ (fun hHeld => ?_)
          · trivial
          refine wpAnyH_ready (rs := [6]) (by kernel_rfl) (by simp) ?_; refine AllReadyH.cons (o := ⟨some 15, _, _, _, _, _⟩) rfl (fun K hK => ?_) AllReadyH.nil; refine stepApp rfl _ _ 23 rfl rfl rfl happ' ?_
          (try clear hHeld); refine hK.out _ _ ?_ (fun hHeld => ?_)
          · trivial
          simp only [Act.put, List.setIfInBounds_toArray, List.set_cons_zero, List.set_cons_succ]
          refine wpAnyH_take (i := 7) (oi := ⟨some 16, _, _, _, _, _⟩) (v := ?_) rfl (by kernel_rfl) (by kernel_rfl) (by kernel_rfl) (fun _ _ _ h => h) (Or.inl ⟨by rfl, ?_⟩) (by assumption) ?_; (rotate_left 1); (focus (intro wz hSw; (try dsimp only at hSw); go_simp; try (with_reducible rfl))); simp only [Act.put, List.setIfInBounds_toArray, List.set_cons_zero, List.set_cons_succ]
          refine wpAnyH_ready (rs := [8]) (by kernel_rfl) (by simp) ?_; refine AllReadyH.cons rfl (fun K hK => ?_) AllReadyH.nil; go_simp
          (try clear hHeld); refine hK.out _ _ ?_ (fun hHeld => ?_)
          · trivial
          refine wpAnyH_done (by kernel_rfl) ?_ _
          go_wp2_with fail
          go_roundg g
          case measure => omega
          case rel => exact ⟨k + 1, L', f', l ++ [strOfNums t1], _, by omega, by simp, HFin.1, h8', hl', HFin.2.1, by rw [List.length_append, hll]; rfl, HFin.2.2, HR2⟩
        · go_simp
          (try clear hHeld); refine hK.out _ _ ?_ (fun hHeld => ?_)
          · trivial
          refine wpAnyH_ready (rs := [1, 5]) (by kernel_rfl) (by simp) ?_
          refine AllReadyH.cons rfl (fun K hK => ?_) (AllReadyH.cons rfl (fun K hK => ?_) AllReadyH.nil)
          · go_simp
            (try clear hHeld); refine hK.out _ _ ?_ (fun hHeld => ?_)
            · trivial
            refine wpAnyH_ready (rs := [5]) (by kernel_rfl) (by simp) ?_; refine AllReadyH.cons rfl (fun K hK => ?_) AllReadyH.nil; go_simp
            (try clear hHeld); refine hK.out _ _ ?_ (fun hHeld => ?_)
            · trivial
            refine wpAnyH_ready (rs := [6]) (by kernel_rfl) (by simp) ?_; refine AllReadyH.cons (o := ⟨some 15, _, _, _, _, _⟩) rfl (fun K hK => ?_) AllReadyH.nil; refine stepApp rfl _ _ 23 rfl rfl rfl happ' ?_
            (try clear hHeld); refine hK.out _ _ ?_ (fun hHeld => ?_)
            · trivial
            simp only [Act.put, List.setIfInBounds_toArray, List.set_cons_zero, List.set_cons_succ]
            refine wpAnyH_take (i := 7) (oi := ⟨some 16, _, _, _, _, _⟩) (v := ?_) rfl (by kernel_rfl) (by kernel_rfl) (by kernel_rfl) (fun _ _ _ h => h) (Or.inl ⟨by rfl, ?_⟩) (by assumption) ?_; (rotate_left 1); (focus (intro wz hSw; (try dsimp only at hSw); go_simp; try (with_reducible rfl))); simp only [Act.put, List.setIfInBounds_toArray, List.set_cons_zero, List.set_cons_succ]
            refine wpAnyH_ready (rs := [8]) (by kernel_rfl) (by simp) ?_; refine AllReadyH.cons rfl (fun K hK => ?_) AllReadyH.nil; go_simp
            (try clear hHeld); refine hK.out _ _ ?_ (fun hHeld => ?_)
            · trivial
            refine wpAnyH_done (by kernel_rfl) ?_ _
            go_wp2_with fail
            go_roundg g
            case measure => omega
            case rel => exact ⟨k + 1, L', f', l ++ [strOfNums t1], _, by omega, by simp, HFin.1, h8', hl', HFin.2.1, by rw [List.length_append, hll]; rfl, HFin.2.2, HR2⟩
          · go_simp
            (try clear hHeld); refine hK.out _ _ ?_ (fun hHeld => ?_)
            · trivial
            refine wpAnyH_ready (rs := [1]) (by kernel_rfl) (by simp) ?_; refine AllReadyH.cons rfl (fun K hK => ?_) AllReadyH.nil; go_simp
            (try clear hHeld); refine hK.out _ _ ?_ (fun hHeld => ?_)
            · trivial
            refine wpAnyH_ready (rs := [6]) (by kernel_rfl) (by simp) ?_; refine AllReadyH.cons (o := ⟨some 15, _, _, _, _, _⟩) rfl (fun K hK => ?_) AllReadyH.nil; refine stepApp rfl _ _ 23 rfl rfl rfl happ' ?_
            (try clear hHeld); refine hK.out _ _ ?_ (fun hHeld => ?_)
            · trivial
            simp only [Act.put, List.setIfInBounds_toArray, List.set_cons_zero, List.set_cons_succ]
            refine wpAnyH_take (i := 7) (oi := ⟨some 16, _, _, _, _, _⟩) (v := ?_) rfl (by kernel_rfl) (by kernel_rfl) (by kernel_rfl) (fun _ _ _ h => h) (Or.inl ⟨by rfl, ?_⟩) (by assumption) ?_; (rotate_left 1); (focus (intro wz hSw; (try dsimp only at hSw); go_simp; try (with_reducible rfl))); simp only [Act.put, List.setIfInBounds_toArray, List.set_cons_zero, List.set_cons_succ]
            refine wpAnyH_ready (rs := [8]) (by kernel_rfl) (by simp) ?_; refine AllReadyH.cons rfl (fun K hK => ?_) AllReadyH.nil; go_simp
            (try clear hHeld); refine hK.out _ _ ?_ (fun hHeld => ?_)
            · trivial
            refine wpAnyH_done (by kernel_rfl) ?_ _
            go_wp2_with fail
            go_roundg g
            case measure => omega
            case rel => exact ⟨k + 1, L', f', l ++ [strOfNums t1], _, by omega, by simp, HFin.1, h8', hl', HFin.2.1, by rw [List.length_append, hll]; rfl, HFin.2.2, HR2⟩
    | zero =>
      have hkn : k = n := by omega
      subst hkn
      have hres2 : (l ++ [], Lk, fk) = (A, L2, f2) := hres
      rw [List.append_nil] at hres2
      simp only [Prod.mk.injEq] at hres2
      obtain ⟨h1, h2, h3⟩ := hres2
      replace h1 := h1.symm
      replace h2 := h2.symm
      replace h3 := h3.symm
      subst h1 h2 h3
      obtain ⟨va, hvv⟩ : ∃ x, x = v := ⟨v, rfl⟩
      subst hvv
      have kA := hO.rd
      rw [← hll] at kA
      have hA : Hi (w.heap.size + 2) va := hO.hi.le hszL
      have hF := hFr
      clear hres hx hO hszL hFr hll
      have hT := textA_c _ X rb L2 f2 4096 (Or.inl rfl) hF.rd h8 hl
      have hbd := Fee.rt_bd (m := 4096) f2 h8
      rw [eI] at hT hbd
      dsimp only at hT hbd
      go_wp2_with fail
      refine hT.mono ?_
      rintro e Y ⟨vt, rfl, hot, hr, hq⟩
      obtain ⟨qt, ct, rfl, -⟩ := Rd8.open hot.rd
      have hFY := hF.call hr hq
      have zc := hFY.bx.c 1 _ rfl
      have zf := hFY.bx.f 1 (by simp)
      have kA := RdR.x kA (hq.x (fb := w.heap.size + 1)) hA (by omega) (by omega)
      have kI : Rd8 Y (.slice qt I.length ct) I := hot.rd
      have hI : Hi (w.heap.size + 2) (.slice qt I.length ct) := hot.hi.le hF.sz
      have hsx := Bx.set rb (fb := w.heap.size + 1) Y 1 (.slice qt I.length ct)
      have kA := RdR.x kA (hsx) hA (by omega) (by omega)
      have kI := RdR.x kI (hsx) hI (by omega) (by omega)
      have hFs := hFY.set 1 (by simp) (.slice qt I.length ct)
      have h8n := hbd.2.1
      have hln : L3.length ≤ 900000 := by omega
      clear hF hFY h8 hl hT hot hr hq hsx hbd
      have h8 := h8n
      have hl := hln
      clear h8n hln
      go_wp2_with fail
      clear zc zf
      obtain ⟨X, hX⟩ : ∃ X, Y.setCell ⟨w.heap.size + 1, 1, none⟩ (.slice qt I.length ct) = X := ⟨_, rfl⟩
      rw [hX] at hFs
      rw [hX]
      rw [hX] at kA
      rw [hX] at kI
      obtain ⟨vi, hvv⟩ : ∃ x, x = Value.slice qt I.length ct := ⟨_, rfl⟩
      rw [← hvv] at kI hI hFs ⊢
      have hF : RF w rb X L3 f3 [va, vi, .slice none 0 0, .slice none 0 0, .slice none 0 0, .slice none 0 0] := hFs
      clear hFs hX hvv
      have hN := numA_c _ X rb L3 f3 64 (Or.inl rfl) hF.rd h8
      have hbn := Fee.rn_bd (m := 64) f3 h8
      have hln := Fee.rn_len 64 L3 f3
      obtain ⟨n, hn⟩ : ∃ n : Nat, (Fee.rn 64 L3 f3).1 = n := ⟨(Fee.rn 64 L3 f3).1.toNat, by omega⟩
      obtain ⟨La, hLa⟩ : ∃ La, (Fee.rn 64 L3 f3).2.1 = La := ⟨_, rfl⟩
      obtain ⟨fa, hfa⟩ : ∃ fa, (Fee.rn 64 L3 f3).2.2 = fa := ⟨_, rfl⟩
      rw [hn, hLa, hfa] at hN
      rw [hn, hLa] at hbn
      rw [hLa] at hln
      have hnm : n ≤ 64 := by have := hbn.2.1 (by omega); omega
      have HE : Hid ((([] : List Int) ++ (Fee.many (Fee.rn 4096) n La fa).1, (Fee.many (Fee.rn 4096) n La fa).2) = (S, L4, f4)) := by
        show _ = _
        rw [← eS]
        unfold Fee.some
        rw [hn, hLa, hfa, Int.toNat_natCast]
        rfl
      have h8a := hbn.2.2
      have hla : La.length ≤ 900000 := by omega
      clear hn hLa hfa hbn hln eS h8 hl
      refine hN.mono ?_
      rintro e wL ⟨rfl, hr, hq⟩
      have hFy := hF.call hr hq
      have kA := RdR.x kA (hq.x (fb := w.heap.size + 1)) hA (by omega) (by omega)
      have kI := RdR.x kI (hq.x (fb := w.heap.size + 1)) hI (by omega) (by omega)
      have hszL : w.heap.size + 2 ≤ wL.heap.size := hFy.sz
      clear hN hr hq hF
      go_wp2_with fail
      go_loopg [23] n (fun g j X => ∃ (k : Nat) (Lk : List Int) (fk : Bool) (l : List Int) (v : Value), k + g = n ∧ j = .int .i64 k ∧ RF w rb X Lk fk [va, vi, v, .slice none 0 0, .slice none 0 0, .slice none 0 0] ∧ B8s Lk ∧ Lk.length ≤ 900000 ∧ OwnR 3 1 wL X v k (l.map (Value.int .i64)) ∧ l.length = k ∧ Bx rb (w.heap.size + 1) wL X ∧ Hid ((l ++ (Fee.many (Fee.rn 4096) g Lk fk).1, (Fee.many (Fee.rn 4096) g Lk fk).2) = (S, L4, f4)))
      case atStart => exact ⟨0, La, fa, [], _, by omega, rfl, hFy, h8a, hla, OwnR.nil _ _ _ _, rfl, Bx.refl _ _ _, HE⟩
      case round =>
        obtain ⟨X, hXX⟩ : ∃ X, X = wr := ⟨wr, rfl⟩
        subst hXX
        obtain ⟨k, Lk, fk, l, v, hkg, rfl, hFr, h8, hl, hO, hll, hx, hres⟩ := hrel
        clear hFy h8a hla HE
        cases gk with
        | succ g =>
          have hki : (k : Int) < (n : Int) := by omega
          obtain ⟨t1, L', f', hst⟩ : ∃ t1 L' f', Fee.rn 4096 Lk fk = (t1, L', f') := ⟨_, _, _, rfl⟩
          have hT := numA_c _ X.drew rb Lk fk 4096 (Or.inl rfl) (hFr.bw (Bw.refl X).drew).rd h8
          have hbd := Fee.rn_bd (m := 4096) fk h8
          have hbl := Fee.rn_len 4096 Lk fk
          rw [hst] at hT hbd hbl
          dsimp only at hT hbd hbl
          have h8' := hbd.2.2
          have hl' : L'.length ≤ 900000 := by omega
          have HR2 : Hid (((l ++ [t1]) ++ (Fee.many (Fee.rn 4096) g L' f').1, (Fee.many (Fee.rn 4096) g L' f').2) = (S, L4, f4)) := by
            have h1 : (l ++ (Fee.many (Fee.rn 4096) (g + 1) Lk fk).1, (Fee.many (Fee.rn 4096) (g + 1) Lk fk).2) = (S, L4, f4) := hres
            rw [Fee.many, hst] at h1
            show _ = _
            rw [List.append_assoc]
            exact h1
          clear hbd hbl hst hres h8 hl
          have ldX := hFr.bx.c 2 _ rfl
          go_wp2_with fail
          refine wp_region_held_drew (S := fun _ => True) (by kernel_rfl) trivial (fun hHeld => ?_)
          refine wpAnyH_take (i := 0) (oi := ⟨some 25, _, _, _, _, _⟩) (v := ?_) rfl (by kernel_rfl) (by kernel_rfl) (by kernel_rfl) (fun _ _ _ h => h) (Or.inl ⟨by rfl, ?_⟩) (by assumption) ?_; (rotate_left 1); (focus (intro wz hSw; (try dsimp only at hSw); go_simp; try (with_reducible rfl))); simp only [Act.put, List.setIfInBounds_toArray, List.set_cons_zero, List.set_cons_succ]
          refine wpAnyH_take (i := 2) (oi := ⟨some 27, _, _, _, _, _⟩) (v := ?_) rfl (by kernel_rfl) (by kernel_rfl) (by kernel_rfl) (fun _ _ _ h => h) (Or.inl ⟨by rfl, ?_⟩) (by assumption) ?_; (rotate_left 1); (focus (intro wz hSw; (try dsimp only at hSw); go_simp; try (with_reducible rfl))); simp only [Act.put, List.setIfInBounds_toArray, List.set_cons_zero, List.set_cons_succ]
          refine wpAnyH_ready (rs := [1, 3]) (by kernel_rfl) (by simp) ?_
          refine AllReadyH.cons rfl (fun K hK => ?_) (AllReadyH.cons rfl (fun K hK => ?_) AllReadyH.nil)
          · go_simp
            (try clear hHeld); refine hK.out _ _ ?_ (fun hHeld => ?_)
            · trivial
            refine wpAnyH_ready (rs := [3]) (by kernel_rfl) (by simp) ?_; refine AllReadyH.cons rfl (fun K hK => ?_) AllReadyH.nil; go_simp
            refine hT.mono ?_
            rintro e Y ⟨rfl, hr, hq⟩
            have hFY := (hFr.bw (Bw.refl X).drew).call hr hq
            have hq0 : Bq rb X Y := ((Bq.refl rb X).bw (Bw.refl X).drew).trans hq
            obtain ⟨v', Z, happ, hFZ, hO2, hx2, hFW, -⟩ := acc_step (ty := 24) infoN Try.underlying24 rfl (by decide) (by decide) hFY hszL hO hx hq0 2 (by simp) 1 [.int .i64 t1] rfl (fun u hu => by simp at hu; subst hu; rfl) (by omega)
            have happ' : (Builtin.append_ #[24, 24] 24 #[v, .slice (some ⟨Y.heap.size, 0, none⟩) 1 1]).run Try.prog (Y.alloc (.cells #[.int .i64 t1] 3)) = .ok v' Z := happ
            have ldY := hFY.bx.c 2 _ rfl
            have ldA := (hFY.bw ((Bw.refl Y).alloc (.cells #[.int .i64 t1] 3))).bx.c 2 _ rfl
            have zc := hFZ.bx.c 2 _ rfl
            have zf := hFZ.bx.f 2 (by simp)
            have HFin : Hid (RF w rb (Z.setCell ⟨w.heap.size + 1, 2, none⟩ v') L' f' [va, vi, v', .slice none 0 0, .slice none 0 0, .slice none 0 0] ∧ OwnR 3 1 wL (Z.setCell ⟨w.heap.size + 1, 2, none⟩ v') v' (k + 1) ((l ++ [t1]).map (Value.int .i64)) ∧ Bx rb (w.heap.size + 1) wL (Z.setCell ⟨w.heap.size + 1, 2, none⟩ v')) := ⟨hFW, by rw [List.map_append]; exact hO2, hx2⟩
            obtain ⟨gv, cv, rfl⟩ := hO2.form (by omega)
            clear happ hFZ hO2 hx2 hFW hFY hr hq hq0
            (try clear hHeld); refine hK.out _ _ ?_ (fun hHeld => ?_)
            · trivial
            refine wpAnyH_ready (rs := [4]) (by kernel_rfl) (by simp) ?_; refine AllReadyH.cons rfl (fun K hK => ?_) AllReadyH.nil; go_simp
            (try clear hHeld); refine hK.out _ _ ?_ (fun hHeld => ?_)
            · trivial
            refine wpAnyH_ready (rs := [5]) (by kernel_rfl) (by simp) ?_; refine AllReadyH.cons (o := ⟨some 30, _, _, _, _, _⟩) rfl (fun K hK => ?_) AllReadyH.nil; refine stepApp rfl _ _ 24 rfl rfl rfl happ' ?_
            (try clear hHeld); refine hK.out _ _ ?_ (fun hHeld => ?_)
            · trivial
            simp only [Act.put, List.setIfInBounds_toArray, List.set_cons_zero, List.set_cons_succ]
            refine wpAnyH_take (i := 6) (oi := ⟨some 31, _, _, _, _, _⟩) (v := ?_) rfl (by kernel_rfl) (by kernel_rfl) (by kernel_rfl) (fun _ _ _ h => h) (Or.inl ⟨by rfl, ?_⟩) (by assumption) ?_; (rotate_left 1); (focus (intro wz hSw; (try dsimp only at hSw); go_simp; try (with_reducible rfl))); simp only [Act.put, List.setIfInBounds_toArray, List.set_cons_zero, List.set_cons_succ]
            refine wpAnyH_ready (rs := [7]) (by kernel_rfl) (by simp) ?_; refine AllReadyH.cons rfl (fun K hK => ?_) AllReadyH.nil; go_simp
            (try clear hHeld); refine hK.out _ _ ?_ (fun hHeld => ?_)
            · trivial
            refine wpAnyH_done (by kernel_rfl) ?_ _
            go_wp2_with fail
            go_roundg g
            case measure => omega
            case rel => exact ⟨k + 1, L', f', l ++ [t1], _, by omega, by simp, HFin.1, h8', hl', HFin.2.1, by rw [List.length_append, hll]; rfl, HFin.2.2, HR2⟩
          · go_simp
            refine hT.mono ?_
            rintro e Y ⟨rfl, hr, hq⟩
            have hFY := (hFr.bw (Bw.refl X).drew).call hr hq
            have hq0 : Bq rb X Y := ((Bq.refl rb X).bw (Bw.refl X).drew).trans hq
            obtain ⟨v', Z, happ, hFZ, hO2, hx2, hFW, -⟩ := acc_step (ty := 24) infoN Try.underlying24 rfl (by decide) (by decide) hFY hszL hO hx hq0 2 (by simp) 1 [.int .i64 t1] rfl (fun u hu => by simp at hu; subst hu; rfl) (by omega)
            have happ' : (Builtin.append_ #[24, 24] 24 #[v, .slice (some ⟨Y.heap.size, 0, none⟩) 1 1]).run Try.prog (Y.alloc (.cells #[.int .i64 t1] 3)) = .ok v' Z := happ
            have ldY := hFY.bx.c 2 _ rfl
            have ldA := (hFY.bw ((Bw.refl Y).alloc (.cells #[.int .i64 t1] 3))).bx.c 2 _ rfl
            have zc := hFZ.bx.c 2 _ rfl
            have zf := hFZ.bx.f 2 (by simp)
            have HFin : Hid (RF w rb (Z.setCell ⟨w.heap.size + 1, 2, none⟩ v') L' f' [va, vi, v', .slice none 0 0, .slice none 0 0, .slice none 0 0] ∧ OwnR 3 1 wL (Z.setCell ⟨w.heap.size + 1, 2, none⟩ v') v' (k + 1) ((l ++ [t1]).map (Value.int .i64)) ∧ Bx rb (w.heap.size + 1) wL (Z.setCell ⟨w.heap.size + 1, 2, none⟩ v')) := ⟨hFW, by rw [List.map_append]; exact hO2, hx2⟩
            obtain ⟨gv, cv, rfl⟩ := hO2.form (by omega)
            clear happ hFZ hO2 hx2 hFW hFY hr hq hq0
            (try clear hHeld); refine hK.out _ _ ?_ (fun hHeld => ?_)
            · trivial
            refine wpAnyH_ready (rs := [1, 4]) (by kernel_rfl) (by simp) ?_
            refine AllReadyH.cons rfl (fun K hK => ?_) (AllReadyH.cons rfl (fun K hK => ?_) AllReadyH.nil)
            · go_simp
              (try clear hHeld); refine hK.out _ _ ?_ (fun hHeld => ?_)
              · trivial
              refine wpAnyH_ready (rs := [4]) (by kernel_rfl) (by simp) ?_; refine AllReadyH.cons rfl (fun K hK => ?_) AllReadyH.nil; go_simp
              (try clear hHeld); refine hK.out _ _ ?_ (fun hHeld => ?_)
              · trivial
              refine wpAnyH_ready (rs := [5]) (by kernel_rfl) (by simp) ?_; refine AllReadyH.cons (o := ⟨some 30, _, _, _, _, _⟩) rfl (fun K hK => ?_) AllReadyH.nil; refine stepApp rfl _ _ 24 rfl rfl rfl happ' ?_
              (try clear hHeld); refine hK.out _ _ ?_ (fun hHeld => ?_)
              · trivial
              simp only [Act.put, List.setIfInBounds_toArray, List.set_cons_zero, List.set_cons_succ]
              refine wpAnyH_take (i := 6) (oi := ⟨some 31, _, _, _, _, _⟩) (v := ?_) rfl (by kernel_rfl) (by kernel_rfl) (by kernel_rfl) (fun _ _ _ h => h) (Or.inl ⟨by rfl, ?_⟩) (by assumption) ?_; (rotate_left 1); (focus (intro wz hSw; (try dsimp only at hSw); go_simp; try (with_reducible rfl))); simp only [Act.put, List.setIfInBounds_toArray, List.set_cons_zero, List.set_cons_succ]
              refine wpAnyH_ready (rs := [7]) (by kernel_rfl) (by simp) ?_; refine AllReadyH.cons rfl (fun K hK => ?_) AllReadyH.nil; go_simp
              (try clear hHeld); refine hK.out _ _ ?_ (fun hHeld => ?_)
              · trivial
              refine wpAnyH_done (by kernel_rfl) ?_ _
              go_wp2_with fail
              go_roundg g
              case measure => omega
              case rel => exact ⟨k + 1, L', f', l ++ [t1], _, by omega, by simp, HFin.1, h8', hl', HFin.2.1, by rw [List.length_append, hll]; rfl, HFin.2.2, HR2⟩
            · go_simp
              (try clear hHeld); refine hK.out _ _ ?_ (fun hHeld => ?_)
              · trivial
              refine wpAnyH_ready (rs := [1]) (by kernel_rfl) (by simp) ?_; refine AllReadyH.cons rfl (fun K hK => ?_) AllReadyH.nil; go_simp
              (try clear hHeld); refine hK.out _ _ ?_ (fun hHeld => ?_)
              · trivial
              refine wpAnyH_ready (rs := [5]) (by kernel_rfl) (by simp) ?_; refine AllReadyH.cons (o := ⟨some 30, _, _, _, _, _⟩) rfl (fun K hK => ?_) AllReadyH.nil; refine stepApp rfl _ _ 24 rfl rfl rfl happ' ?_
              (try clear hHeld); refine hK.out _ _ ?_ (fun hHeld => ?_)
              · trivial
              simp only [Act.put, List.setIfInBounds_toArray, List.set_cons_zero, List.set_cons_succ]
              refine wpAnyH_take (i := 6) (oi := ⟨some 31, _, _, _, _, _⟩) (v := ?_) rfl (by kernel_rfl) (by kernel_rfl) (by kernel_rfl) (fun _ _ _ h => h) (Or.inl ⟨by rfl, ?_⟩) (by assumption) ?_; (rotate_left 1); (focus (intro wz hSw; (try dsimp only at hSw); go_simp; try (with_reducible rfl))); simp only [Act.put, List.setIfInBounds_toArray, List.set_cons_zero, List.set_cons_succ]
              refine wpAnyH_ready (rs := [7]) (by kernel_rfl) (by simp) ?_; refine AllReadyH.cons rfl (fun K hK => ?_) AllReadyH.nil; go_simp
              (try clear hHeld); refine hK.out _ _ ?_ (fun hHeld => ?_)
              · trivial
              refine wpAnyH_done (by kernel_rfl) ?_ _
              go_wp2_with fail
              go_roundg g
              case measure => omega
              case rel => exact ⟨k + 1, L', f', l ++ [t1], _, by omega, by simp, HFin.1, h8', hl', HFin.2.1, by rw [List.length_append, hll]; rfl, HFin.2.2, HR2⟩
        | zero =>
          have hkn : k = n := by omega
          subst hkn
          have hres2 : (l ++ [], Lk, fk) = (S, L4, f4) := hres
          rw [List.append_nil] at hres2
          simp only [Prod.mk.injEq] at hres2
          obtain ⟨h1, h2, h3⟩ := hres2
          replace h1 := h1.symm
          replace h2 := h2.symm
          replace h3 := h3.symm
          subst h1 h2 h3
          obtain ⟨vs, hvv⟩ : ∃ x, x = v := ⟨v, rfl⟩
          subst hvv
          have kA := RdR.x kA (hx) hA (by omega) (by omega)
          have kI := RdR.x kI (hx) hI (by omega) (by omega)
          have kS := hO.rd
          rw [← hll] at kS
          have hS : Hi (w.heap.size + 2) vs := hO.hi.le hszL
          have hF := hFr
          clear hres hx hO hszL hFr hll
          have hT := textA_c _ X rb L4 f4 4096 (Or.inl rfl) hF.rd h8 hl
          have hbd := Fee.rt_bd (m := 4096) f4 h8
          rw [eR] at hT hbd
          dsimp only at hT hbd
          go_wp2_with fail
          refine hT.mono ?_
          rintro e Y ⟨vt, rfl, hot, hr, hq⟩
          obtain ⟨qt, ct, rfl, -⟩ := Rd8.open hot.rd
          have hFY := hF.call hr hq
          have zc := hFY.bx.c 3 _ rfl
          have zf := hFY.bx.f 3 (by simp)
          have kA := RdR.x kA (hq.x (fb := w.heap.size + 1)) hA (by omega) (by omega)
          have kI := RdR.x kI (hq.x (fb := w.heap.size + 1)) hI (by omega) (by omega)
          have kS := RdR.x kS (hq.x (fb := w.heap.size + 1)) hS (by omega) (by omega)
          have kR : Rd8 Y (.slice qt R.length ct) R := hot.rd
          have hR : Hi (w.heap.size + 2) (.slice qt R.length ct) := hot.hi.le hF.sz
          have hsx := Bx.set rb (fb := w.heap.size + 1) Y 3 (.slice qt R.length ct)
          have kA := RdR.x kA (hsx) hA (by omega) (by omega)
          have kI := RdR.x kI (hsx) hI (by omega) (by omega)
          have kS := RdR.x kS (hsx) hS (by omega) (by omega)
          have kR := RdR.x kR (hsx) hR (by omega) (by omega)
          have hFs := hFY.set 3 (by simp) (.slice qt R.length ct)
          have h8n := hbd.2.1
          have hln : L5.length ≤ 900000 := by omega
          clear hF hFY h8 hl hT hot hr hq hsx hbd
          have h8 := h8n
          have hl := hln
          clear h8n hln
          go_wp2_with fail
          clear zc zf
          obtain ⟨X, hX⟩ : ∃ X, Y.setCell ⟨w.heap.size + 1, 3, none⟩ (.slice qt R.length ct) = X := ⟨_, rfl⟩
          rw [hX] at hFs
          rw [hX]
          rw [hX] at kA
          rw [hX] at kI
          rw [hX] at kS
          rw [hX] at kR
          obtain ⟨vr, hvv⟩ : ∃ x, x = Value.slice qt R.length ct := ⟨_, rfl⟩
          rw [← hvv] at kR hR hFs ⊢
          have hF : RF w rb X L5 f5 [va, vi, vs, vr, .slice none 0 0, .slice none 0 0] := hFs
          clear hFs hX hvv
          have hN := numA_c _ X rb L5 f5 64 (Or.inl rfl) hF.rd h8
          have hbn := Fee.rn_bd (m := 64) f5 h8
          have hln := Fee.rn_len 64 L5 f5
          obtain ⟨n, hn⟩ : ∃ n : Nat, (Fee.rn 64 L5 f5).1 = n := ⟨(Fee.rn 64 L5 f5).1.toNat, by omega⟩
          obtain ⟨La, hLa⟩ : ∃ La, (Fee.rn 64 L5 f5).2.1 = La := ⟨_, rfl⟩
          obtain ⟨fa, hfa⟩ : ∃ fa, (Fee.rn 64 L5 f5).2.2 = fa := ⟨_, rfl⟩
          rw [hn, hLa, hfa] at hN
          rw [hn, hLa] at hbn
          rw [hLa] at hln
          have hnm : n ≤ 64 := by have := hbn.2.1 (by omega); omega
          have HE : Hid ((([] : List Int) ++ (Fee.many Fee.rw n La fa).1, (Fee.many Fee.rw n La fa).2) = (C, L6, f6)) := by
            show _ = _
            rw [← eC]
            unfold Fee.some
            rw [hn, hLa, hfa, Int.toNat_natCast]
            rfl
          have h8a := hbn.2.2
          have hla : La.length ≤ 900000 := by omega
          clear hn hLa hfa hbn hln eC h8 hl
          refine hN.mono ?_
          rintro e wL ⟨rfl, hr, hq⟩
          have hFy := hF.call hr hq
          have kA := RdR.x kA (hq.x (fb := w.heap.size + 1)) hA (by omega) (by omega)
          have kI := RdR.x kI (hq.x (fb := w.heap.size + 1)) hI (by omega) (by omega)
          have kS := RdR.x kS (hq.x (fb := w.heap.size + 1)) hS (by omega) (by omega)
          have kR := RdR.x kR (hq.x (fb := w.heap.size + 1)) hR (by omega) (by omega)
          have hszL : w.heap.size + 2 ≤ wL.heap.size := hFy.sz
          clear hN hr hq hF
          go_wp2_with fail
          go_loopg [38] n (fun g j X => ∃ (k : Nat) (Lk : List Int) (fk : Bool) (l : List Int) (v : Value), k + g = n ∧ j = .int .i64 k ∧ RF w rb X Lk fk [va, vi, vs, vr, v, .slice none 0 0] ∧ B8s Lk ∧ Lk.length ≤ 900000 ∧ OwnR 49 1 wL X v k (l.map (Value.int .u32)) ∧ l.length = k ∧ Bx rb (w.heap.size + 1) wL X ∧ Hid ((l ++ (Fee.many Fee.rw g Lk fk).1, (Fee.many Fee.rw g Lk fk).2) = (C, L6, f6)))
          case atStart => exact ⟨0, La, fa, [], _, by omega, rfl, hFy, h8a, hla, OwnR.nil _ _ _ _, rfl, Bx.refl _ _ _, HE⟩
          case round =>
            obtain ⟨X, hXX⟩ : ∃ X, X = wr := ⟨wr, rfl⟩
            subst hXX
            obtain ⟨k, Lk, fk, l, v, hkg, rfl, hFr, h8, hl, hO, hll, hx, hres⟩ := hrel
            clear hFy h8a hla HE
            cases gk with
            | succ g =>
              have hki : (k : Int) < (n : Int) := by omega
              obtain ⟨t1, L', f', hst⟩ : ∃ t1 L' f', Fee.rw Lk fk = (t1, L', f') := ⟨_, _, _, rfl⟩
              have hT := wordA_c _ X.drew rb Lk fk (Or.inl rfl) (hFr.bw (Bw.refl X).drew).rd h8
              have hbd := Fee.rw_bd fk h8
              have hbl := Fee.rw_len Lk fk
              rw [hst] at hT hbd hbl
              dsimp only at hT hbd hbl
              have h8' := hbd.2.2
              have hl' : L'.length ≤ 900000 := by omega
              have HR2 : Hid (((l ++ [t1]) ++ (Fee.many Fee.rw g L' f').1, (Fee.many Fee.rw g L' f').2) = (C, L6, f6)) := by
                have h1 : (l ++ (Fee.many Fee.rw (g + 1) Lk fk).1, (Fee.many Fee.rw (g + 1) Lk fk).2) = (C, L6, f6) := hres
                rw [Fee.many, hst] at h1
                show _ = _
                rw [List.append_assoc]
                exact h1
              clear hbd hbl hst hres h8 hl
              have ldX := hFr.bx.c 4 _ rfl
              go_wp2_with fail
              refine wp_region_held_drew (S := fun _ => True) (by kernel_rfl) trivial (fun hHeld => ?_)
              refine wpAnyH_take (i := 0) (oi := ⟨some 40, _, _, _, _, _⟩) (v := ?_) rfl (by kernel_rfl) (by kernel_rfl) (by kernel_rfl) (fun _ _ _ h => h) (Or.inl ⟨by rfl, ?_⟩) (by assumption) ?_; (rotate_left 1); (focus (intro wz hSw; (try dsimp only at hSw); go_simp; try (with_reducible rfl))); simp only [Act.put, List.setIfInBounds_toArray, List.set_cons_zero, List.set_cons_succ]
              refine wpAnyH_take (i := 2) (oi := ⟨some 42, _, _, _, _, _⟩) (v := ?_) rfl (by kernel_rfl) (by kernel_rfl) (by kernel_rfl) (fun _ _ _ h => h) (Or.inl ⟨by rfl, ?_⟩) (by assumption) ?_; (rotate_left 1); (focus (intro wz hSw; (try dsimp only at hSw); go_simp; try (with_reducible rfl))); simp only [Act.put, List.setIfInBounds_toArray, List.set_cons_zero, List.set_cons_succ]
              refine wpAnyH_ready (rs := [1, 3]) (by kernel_rfl) (by simp) ?_
              refine AllReadyH.cons rfl (fun K hK => ?_) (AllReadyH.cons rfl (fun K hK => ?_) AllReadyH.nil)
              · go_simp
                (try clear hHeld); refine hK.out _ _ ?_ (fun hHeld => ?_)
                · trivial
                refine wpAnyH_ready (rs := [3]) (by kernel_rfl) (by simp) ?_; refine AllReadyH.cons rfl (fun K hK => ?_) AllReadyH.nil; go_simp
                refine hT.mono ?_
                rintro e Y ⟨rfl, hr, hq⟩
                have hFY := (hFr.bw (Bw.refl X).drew).call hr hq
                have hq0 : Bq rb X Y := ((Bq.refl rb X).bw (Bw.refl X).drew).trans hq
                obtain ⟨v', Z, happ, hFZ, hO2, hx2, hFW, -⟩ := acc_step (ty := 25) infoW Try.underlying25 rfl (by decide) (by decide) hFY hszL hO hx hq0 4 (by simp) 1 [.int .u32 t1] rfl (fun u hu => by simp at hu; subst hu; rfl) (by omega)
                have happ' : (Builtin.append_ #[25, 25] 25 #[v, .slice (some ⟨Y.heap.size, 0, none⟩) 1 1]).run Try.prog (Y.alloc (.cells #[.int .u32 t1] 49)) = .ok v' Z := happ
                have ldY := hFY.bx.c 4 _ rfl
                have ldA := (hFY.bw ((Bw.refl Y).alloc (.cells #[.int .u32 t1] 49))).bx.c 4 _ rfl
                have zc := hFZ.bx.c 4 _ rfl
                have zf := hFZ.bx.f 4 (by simp)
                have HFin : Hid (RF w rb (Z.setCell ⟨w.heap.size + 1, 4, none⟩ v') L' f' [va, vi, vs, vr, v', .slice none 0 0] ∧ OwnR 49 1 wL (Z.setCell ⟨w.heap.size + 1, 4, none⟩ v') v' (k + 1) ((l ++ [t1]).map (Value.int .u32)) ∧ Bx rb (w.heap.size + 1) wL (Z.setCell ⟨w.heap.size + 1, 4, none⟩ v')) := ⟨hFW, by rw [List.map_append]; exact hO2, hx2⟩
                obtain ⟨gv, cv, rfl⟩ := hO2.form (by omega)
                clear happ hFZ hO2 hx2 hFW hFY hr hq hq0
                (try clear hHeld); refine hK.out _ _ ?_ (fun hHeld => ?_)
                · trivial
                refine wpAnyH_ready (rs := [4]) (by kernel_rfl) (by simp) ?_; refine AllReadyH.cons rfl (fun K hK => ?_) AllReadyH.nil; go_simp
                (try clear hHeld); refine hK.out _ _ ?_ (fun hHeld => ?_)
                · trivial
                refine wpAnyH_ready (rs := [5]) (by kernel_rfl) (by simp) ?_; refine AllReadyH.cons (o := ⟨some 45, _, _, _, _, _⟩) rfl (fun K hK => ?_) AllReadyH.nil; refine stepApp rfl _ _ 25 rfl rfl rfl happ' ?_
                (try clear hHeld); refine hK.out _ _ ?_ (fun hHeld => ?_)
                · trivial
                simp only [Act.put, List.setIfInBounds_toArray, List.set_cons_zero, List.set_cons_succ]
                refine wpAnyH_take (i := 6) (oi := ⟨some 46, _, _, _, _, _⟩) (v := ?_) rfl (by kernel_rfl) (by kernel_rfl) (by kernel_rfl) (fun _ _ _ h => h) (Or.inl ⟨by rfl, ?_⟩) (by assumption) ?_; (rotate_left 1); (focus (intro wz hSw; (try dsimp only at hSw); go_simp; try (with_reducible rfl))); simp only [Act.put, List.setIfInBounds_toArray, List.set_cons_zero, List.set_cons_succ]
                refine wpAnyH_ready (rs := [7]) (by kernel_rfl) (by simp) ?_; refine AllReadyH.cons rfl (fun K hK => ?_) AllReadyH.nil; go_simp
                (try clear hHeld); refine hK.out _ _ ?_ (fun hHeld => ?_)
                · trivial
                refine wpAnyH_done (by kernel_rfl) ?_ _
                go_wp2_with fail
                go_roundg g
                case measure => omega
                case rel => exact ⟨k + 1, L', f', l ++ [t1], _, by omega, by simp, HFin.1, h8', hl', HFin.2.1, by rw [List.length_append, hll]; rfl, HFin.2.2, HR2⟩
              · go_simp
                refine hT.mono ?_
                rintro e Y ⟨rfl, hr, hq⟩
                have hFY := (hFr.bw (Bw.refl X).drew).call hr hq
                have hq0 : Bq rb X Y := ((Bq.refl rb X).bw (Bw.refl X).drew).trans hq
                obtain ⟨v', Z, happ, hFZ, hO2, hx2, hFW, -⟩ := acc_step (ty := 25) infoW Try.underlying25 rfl (by decide) (by decide) hFY hszL hO hx hq0 4 (by simp) 1 [.int .u32 t1] rfl (fun u hu => by simp at hu; subst hu; rfl) (by omega)
                have happ' : (Builtin.append_ #[25, 25] 25 #[v, .slice (some ⟨Y.heap.size, 0, none⟩) 1 1]).run Try.prog (Y.alloc (.cells #[.int .u32 t1] 49)) = .ok v' Z := happ
                have ldY := hFY.bx.c 4 _ rfl
                have ldA := (hFY.bw ((Bw.refl Y).alloc (.cells #[.int .u32 t1] 49))).bx.c 4 _ rfl
                have zc := hFZ.bx.c 4 _ rfl
                have zf := hFZ.bx.f 4 (by simp)
                have HFin : Hid (RF w rb (Z.setCell ⟨w.heap.size + 1, 4, none⟩ v') L' f' [va, vi, vs, vr, v', .slice none 0 0] ∧ OwnR 49 1 wL (Z.setCell ⟨w.heap.size + 1, 4, none⟩ v') v' (k + 1) ((l ++ [t1]).map (Value.int .u32)) ∧ Bx rb (w.heap.size + 1) wL (Z.setCell ⟨w.heap.size + 1, 4, none⟩ v')) := ⟨hFW, by rw [List.map_append]; exact hO2, hx2⟩
                obtain ⟨gv, cv, rfl⟩ := hO2.form (by omega)
                clear happ hFZ hO2 hx2 hFW hFY hr hq hq0
                (try clear hHeld); refine hK.out _ _ ?_ (fun hHeld => ?_)
                · trivial
                refine wpAnyH_ready (rs := [1, 4]) (by kernel_rfl) (by simp) ?_
                refine AllReadyH.cons rfl (fun K hK => ?_) (AllReadyH.cons rfl (fun K hK => ?_) AllReadyH.nil)
                · go_simp
                  (try clear hHeld); refine hK.out _ _ ?_ (fun hHeld => ?_)
                  · trivial
                  refine wpAnyH_ready (rs := [4]) (by kernel_rfl) (by simp) ?_; refine AllReadyH.cons rfl (fun K hK => ?_) AllReadyH.nil; go_simp
                  (try clear hHeld); refine hK.out _ _ ?_ (fun hHeld => ?_)
                  · trivial
                  refine wpAnyH_ready (rs := [5]) (by kernel_rfl) (by simp) ?_; refine AllReadyH.cons (o := ⟨some 45, _, _, _, _, _⟩) rfl (fun K hK => ?_) AllReadyH.nil; refine stepApp rfl _ _ 25 rfl rfl rfl happ' ?_
                  (try clear hHeld); refine hK.out _ _ ?_ (fun hHeld => ?_)
                  · trivial
                  simp only [Act.put, List.setIfInBounds_toArray, List.set_cons_zero, List.set_cons_succ]
                  refine wpAnyH_take (i := 6) (oi := ⟨some 46, _, _, _, _, _⟩) (v := ?_) rfl (by kernel_rfl) (by kernel_rfl) (by kernel_rfl) (fun _ _ _ h => h) (Or.inl ⟨by rfl, ?_⟩) (by assumption) ?_; (rotate_left 1); (focus (intro wz hSw; (try dsimp only at hSw); go_simp; try (with_reducible rfl))); simp only [Act.put, List.setIfInBounds_toArray, List.set_cons_zero, List.set_cons_succ]
                  refine wpAnyH_ready (rs := [7]) (by kernel_rfl) (by simp) ?_; refine AllReadyH.cons rfl (fun K hK => ?_) AllReadyH.nil; go_simp
                  (try clear hHeld); refine hK.out _ _ ?_ (fun hHeld => ?_)
                  · trivial
                  refine wpAnyH_done (by kernel_rfl) ?_ _
                  go_wp2_with fail
                  go_roundg g
                  case measure => omega
                  case rel => exact ⟨k + 1, L', f', l ++ [t1], _, by omega, by simp, HFin.1, h8', hl', HFin.2.1, by rw [List.length_append, hll]; rfl, HFin.2.2, HR2⟩
                · go_simp
                  (try clear hHeld); refine hK.out _ _ ?_ (fun hHeld => ?_)
                  · trivial
                  refine wpAnyH_ready (rs := [1]) (by kernel_rfl) (by simp) ?_; refine AllReadyH.cons rfl (fun K hK => ?_) AllReadyH.nil; go_simp
                  (try clear hHeld); refine hK.out _ _ ?_ (fun hHeld => ?_)
                  · trivial
                  refine wpAnyH_ready (rs := [5]) (by kernel_rfl) (by simp) ?_; refine AllReadyH.cons (o := ⟨some 45, _, _, _, _, _⟩) rfl (fun K hK => ?_) AllReadyH.nil; refine stepApp rfl _ _ 25 rfl rfl rfl happ' ?_
                  (try clear hHeld); refine hK.out _ _ ?_ (fun hHeld => ?_)
                  · trivial
                  simp only [Act.put, List.setIfInBounds_toArray, List.set_cons_zero, List.set_cons_succ]
                  refine wpAnyH_take (i := 6) (oi := ⟨some 46, _, _, _, _, _⟩) (v := ?_) rfl (by kernel_rfl) (by kernel_rfl) (by kernel_rfl) (fun _ _ _ h => h) (Or.inl ⟨by rfl, ?_⟩) (by assumption) ?_; (rotate_left 1); (focus (intro wz hSw; (try dsimp only at hSw); go_simp; try (with_reducible rfl))); simp only [Act.put, List.setIfInBounds_toArray, List.set_cons_zero, List.set_cons_succ]
                  refine wpAnyH_ready (rs := [7]) (by kernel_rfl) (by simp) ?_; refine AllReadyH.cons rfl (fun K hK => ?_) AllReadyH.nil; go_simp
                  (try clear hHeld); refine hK.out _ _ ?_ (fun hHeld => ?_)
                  · trivial
                  refine wpAnyH_done (by kernel_rfl) ?_ _
                  go_wp2_with fail
                  go_roundg g
                  case measure => omega
                  case rel => exact ⟨k + 1, L', f', l ++ [t1], _, by omega, by simp, HFin.1, h8', hl', HFin.2.1, by rw [List.length_append, hll]; rfl, HFin.2.2, HR2⟩
            | zero =>
              have hkn : k = n := by omega
              subst hkn
              have hres2 : (l ++ [], Lk, fk) = (C, L6, f6) := hres
              rw [List.append_nil] at hres2
              simp only [Prod.mk.injEq] at hres2
              obtain ⟨h1, h2, h3⟩ := hres2
              replace h1 := h1.symm
              replace h2 := h2.symm
              replace h3 := h3.symm
              subst h1 h2 h3
              obtain ⟨vc, hvv⟩ : ∃ x, x = v := ⟨v, rfl⟩
              subst hvv
              have kA := RdR.x kA (hx) hA (by omega) (by omega)
              have kI := RdR.x kI (hx) hI (by omega) (by omega)
              have kS := RdR.x kS (hx) hS (by omega) (by omega)
              have kR := RdR.x kR (hx) hR (by omega) (by omega)
              have kC := hO.rd
              rw [← hll] at kC
              have hC : Hi (w.heap.size + 2) vc := hO.hi.le hszL
              have hF := hFr
              clear hres hx hO hszL hFr hll
              have hN := numA_c _ X rb L6 f6 8 (Or.inl rfl) hF.rd h8
              have hbn := Fee.rn_bd (m := 8) f6 h8
              have hln := Fee.rn_len 8 L6 f6
              obtain ⟨n, hn⟩ : ∃ n : Nat, (Fee.rn 8 L6 f6).1 = n := ⟨(Fee.rn 8 L6 f6).1.toNat, by omega⟩
              obtain ⟨La, hLa⟩ : ∃ La, (Fee.rn 8 L6 f6).2.1 = La := ⟨_, rfl⟩
              obtain ⟨fa, hfa⟩ : ∃ fa, (Fee.rn 8 L6 f6).2.2 = fa := ⟨_, rfl⟩
              rw [hn, hLa, hfa] at hN
              rw [hn, hLa] at hbn
              rw [hLa] at hln
              have hnm : n ≤ 8 := by have := hbn.2.1 (by omega); omega
              have HE : Hid ((([] : List Fee.Fl) ++ (Fee.many Fee.rFile n La fa).1, (Fee.many Fee.rFile n La fa).2) = (F, L7, f7)) := by
                show _ = _
                rw [← eF]
                unfold Fee.some
                rw [hn, hLa, hfa, Int.toNat_natCast]
                rfl
              have h8a := hbn.2.2
              have hla : La.length ≤ 900000 := by omega
              clear hn hLa hfa hbn hln eF h8 hl
              go_wp2_with fail
              refine hN.mono ?_
              rintro e wL ⟨rfl, hr, hq⟩
              have hFy := hF.call hr hq
              have kA := RdR.x kA (hq.x (fb := w.heap.size + 1)) hA (by omega) (by omega)
              have kI := RdR.x kI (hq.x (fb := w.heap.size + 1)) hI (by omega) (by omega)
              have kS := RdR.x kS (hq.x (fb := w.heap.size + 1)) hS (by omega) (by omega)
              have kR := RdR.x kR (hq.x (fb := w.heap.size + 1)) hR (by omega) (by omega)
              have kC := RdR.x kC (hq.x (fb := w.heap.size + 1)) hC (by omega) (by omega)
              have hszL : w.heap.size + 2 ≤ wL.heap.size := hFy.sz
              clear hN hr hq hF
              go_wp2_with fail
              go_loopg [50] n (fun g j X => ∃ (k : Nat) (Lk : List Int) (fk : Bool) (l : List Fee.Fl) (us : List Value) (v : Value), k + g = n ∧ j = .int .i64 k ∧ RF w rb X Lk fk [va, vi, vs, vr, vc, v] ∧ B8s Lk ∧ Lk.length ≤ 900000 ∧ OwnR 55 2 wL X v k (Fee.cells l us) ∧ l.length = k ∧ Bx rb (w.heap.size + 1) wL X ∧ FlQ wL X v l us ∧ Hid ((l ++ (Fee.many Fee.rFile g Lk fk).1, (Fee.many Fee.rFile g Lk fk).2) = (F, L7, f7)))
              case atStart => exact ⟨0, La, fa, [], [], _, by omega, rfl, hFy, h8a, hla, OwnR.nil _ _ _ _, rfl, Bx.refl _ _ _, FlQ.nil _ _, HE⟩
              case round =>
                obtain ⟨X, hXX⟩ : ∃ X, X = wr := ⟨wr, rfl⟩
                subst hXX
                obtain ⟨k, Lk, fk, l, us, v, hkg, rfl, hFr, h8, hl, hO, hll, hx, hQ, hres⟩ := hrel
                clear hFy h8a hla HE
                cases gk with
                | succ g =>
                  have hki : (k : Int) < (n : Int) := by omega
                  obtain ⟨t0, L0, f0, hst0⟩ : ∃ t1 L' f', Fee.rt 40 Lk fk = (t1, L', f') := ⟨_, _, _, rfl⟩
                  have hT0 := textA_c _ X rb Lk fk 40 (Or.inl rfl) hFr.rd h8 hl
                  have hbd0 := Fee.rt_bd (m := 40) fk h8
                  rw [hst0] at hT0 hbd0
                  dsimp only at hT0 hbd0
                  obtain ⟨t1, L', f', hst⟩ : ∃ t1 L' f', Fee.rt 4096 L0 f0 = (t1, L', f') := ⟨_, _, _, rfl⟩
                  have hbd := Fee.rt_bd (m := 4096) f0 hbd0.2.1
                  rw [hst] at hbd
                  dsimp only at hbd
                  have h8' := hbd.2.1
                  have h80 := hbd0.2.1
                  have hl0 : L0.length ≤ 900000 := by omega
                  have hl' : L'.length ≤ 900000 := by omega
                  have HR2 : Hid (((l ++ [(⟨strOfNums t0, t1⟩ : Fee.Fl)]) ++ (Fee.many Fee.rFile g L' f').1, (Fee.many Fee.rFile g L' f').2) = (F, L7, f7)) := by
                    have h1 : (l ++ (Fee.many Fee.rFile (g + 1) Lk fk).1, (Fee.many Fee.rFile (g + 1) Lk fk).2) = (F, L7, f7) := hres
                    have h2 : Fee.rFile Lk fk = (⟨strOfNums t0, t1⟩, L', f') := by
                      unfold Fee.rFile
                      rw [hst0]
                      dsimp only
                      rw [hst]
                    rw [Fee.many, h2] at h1
                    show _ = _
                    rw [List.append_assoc]
                    exact h1
                  clear hbd hbd0 hst0 hres h8 hl
                  go_wp2_with fail
                  refine hT0.mono ?_
                  rintro e X2 ⟨vn, rfl, hon, hr2, hq2⟩
                  have hF2 := hFr.call hr2 hq2
                  have hcn := conv8 hon
                  obtain ⟨qn, cn, rfl, -⟩ := Rd8.open hon.rd
                  have hT := textA_c _ X2.drew rb L0 f0 4096 (Or.inl rfl) (hF2.bw (Bw.refl X2).drew).rd h80 hl0
                  rw [hst] at hT
                  dsimp only at hT
                  clear hT0 hon hr2 hst
                  have ldX := hF2.bx.c 5 _ rfl
                  go_wp2_with fail
                  refine wp_region_held_drew (S := fun _ => True) (by kernel_rfl) trivial (fun hHeld => ?_)
                  refine wpAnyH_take (i := 0) (oi := ⟨some 55, _, _, _, _, _⟩) (v := ?_) rfl (by kernel_rfl) (by kernel_rfl) (by kernel_rfl) (fun _ _ _ h => h) (Or.inl ⟨by rfl, ?_⟩) (by assumption) ?_; (rotate_left 1); (focus (intro wz hSw; (try dsimp only at hSw); go_simp; try (with_reducible rfl))); simp only [Act.put, List.setIfInBounds_toArray, List.set_cons_zero, List.set_cons_succ]
                  refine wpAnyH_take (i := 2) (oi := ⟨some 57, _, _, _, _, _⟩) (v := ?_) rfl (by kernel_rfl) (by kernel_rfl) (by kernel_rfl) (fun _ _ _ h => h) (Or.inl ⟨by rfl, ?_⟩) (by assumption) ?_; (rotate_left 1); (focus (intro wz hSw; (try dsimp only at hSw); go_simp; try (with_reducible rfl))); simp only [Act.put, List.setIfInBounds_toArray, List.set_cons_zero, List.set_cons_succ]
                  refine wpAnyH_take (i := 3) (oi := ⟨some 58, _, _, _, _, _⟩) (v := ?_) rfl (by kernel_rfl) (by kernel_rfl) (by kernel_rfl) (fun _ _ _ h => h) (Or.inl ⟨by rfl, ?_⟩) (by assumption) ?_; (rotate_left 1); (focus (intro wz hSw; (try dsimp only at hSw); go_simp; try (with_reducible rfl))); simp only [Act.put, List.setIfInBounds_toArray, List.set_cons_zero, List.set_cons_succ]
                  refine wpAnyH_ready (rs := [1, 4]) (by kernel_rfl) (by simp) ?_
                  refine AllReadyH.cons rfl (fun K hK => ?_) (AllReadyH.cons rfl (fun K hK => ?_) AllReadyH.nil)
                  · go_simp
                    (try clear hHeld); refine hK.out _ _ ?_ (fun hHeld => ?_)
                    · trivial
                    refine wpAnyH_ready (rs := [4]) (by kernel_rfl) (by simp) ?_; refine AllReadyH.cons rfl (fun K hK => ?_) AllReadyH.nil; go_simp
                    refine hT.mono ?_
                    rintro e Y ⟨vt, rfl, hot, hr, hq⟩
                    have hFY := (hF2.bw (Bw.refl X2).drew).call hr hq
                    have hq0 : Bq rb X Y := (hq2.bw (Bw.refl X2).drew).trans hq
                    obtain ⟨v', Z, happ, hFZ, hO2, hx2, hFW, hAp⟩ := acc_step (ty := 26) infoF Try.underlying26 rfl (by decide) (by decide) hFY hszL hO hx hq0 5 (by simp) 1 [.string (strOfNums t0), vt] rfl (fun u hu => by simp at hu; rcases hu with rfl | rfl; rfl; obtain ⟨qt, ct, e, -⟩ := Rd8.open hot.rd; rw [e]; rfl) (by omega)
                    have happ' : (Builtin.append_ #[26, 26] 26 #[v, .slice (some ⟨Y.heap.size, 0, none⟩) 1 1]).run Try.prog (Y.alloc (.cells #[.string (strOfNums t0), vt] 55)) = .ok v' Z := happ
                    have ldY := hFY.bx.c 5 _ rfl
                    have ldA := (hFY.bw ((Bw.refl Y).alloc (.cells #[.string (strOfNums t0), vt] 55))).bx.c 5 _ rfl
                    have zc := hFZ.bx.c 5 _ rfl
                    have zf := hFZ.bx.f 5 (by simp)
                    have hQ2 := FlQ.round hQ hO hszL hF2.lt hx.b0.size hq0 hot hq2.b0.size hAp (⟨strOfNums t0, t1⟩ : Fee.Fl) rfl 5
                    have hcs : Fee.cells (l ++ [(⟨strOfNums t0, t1⟩ : Fee.Fl)]) (us ++ [vt]) = Fee.cells l us ++ [.string (strOfNums t0), vt] := Fee.cells_app hQ.1 _ _
                    have HFin : Hid (RF w rb (Z.setCell ⟨w.heap.size + 1, 5, none⟩ v') L' f' [va, vi, vs, vr, vc, v'] ∧ OwnR 55 2 wL (Z.setCell ⟨w.heap.size + 1, 5, none⟩ v') v' (k + 1) (Fee.cells (l ++ [(⟨strOfNums t0, t1⟩ : Fee.Fl)]) (us ++ [vt])) ∧ Bx rb (w.heap.size + 1) wL (Z.setCell ⟨w.heap.size + 1, 5, none⟩ v') ∧ FlQ wL (Z.setCell ⟨w.heap.size + 1, 5, none⟩ v') v' (l ++ [(⟨strOfNums t0, t1⟩ : Fee.Fl)]) (us ++ [vt])) := ⟨hFW, by rw [hcs]; exact hO2, hx2, hQ2⟩
                    obtain ⟨qt, ct, rfl, -⟩ := Rd8.open hot.rd
                    obtain ⟨gv, cv, rfl⟩ := hO2.form (by omega)
                    clear happ hFZ hO2 hx2 hFW hFY hr hq hq0 hot hAp hQ2 hcs
                    (try clear hHeld); refine hK.out _ _ ?_ (fun hHeld => ?_)
                    · trivial
                    refine wpAnyH_take (i := 5) (oi := ⟨some 60, _, _, _, _, _⟩) (v := ?_) rfl (by kernel_rfl) (by kernel_rfl) (by kernel_rfl) (fun _ _ _ h => h) (Or.inl ⟨by rfl, ?_⟩) (by assumption) ?_; (rotate_left 1); (focus (intro wz hSw; (try dsimp only at hSw); go_simp; try (with_reducible rfl))); simp only [Act.put, List.setIfInBounds_toArray, List.set_cons_zero, List.set_cons_succ]
                    refine wpAnyH_ready (rs := [6]) (by kernel_rfl) (by simp) ?_; refine AllReadyH.cons rfl (fun K hK => ?_) AllReadyH.nil; go_simp
                    (try clear hHeld); refine hK.out _ _ ?_ (fun hHeld => ?_)
                    · trivial
                    refine wpAnyH_ready (rs := [7]) (by kernel_rfl) (by simp) ?_; refine AllReadyH.cons (o := ⟨some 62, _, _, _, _, _⟩) rfl (fun K hK => ?_) AllReadyH.nil; refine stepApp rfl _ _ 26 rfl rfl rfl happ' ?_
                    (try clear hHeld); refine hK.out _ _ ?_ (fun hHeld => ?_)
                    · trivial
                    simp only [Act.put, List.setIfInBounds_toArray, List.set_cons_zero, List.set_cons_succ]
                    refine wpAnyH_take (i := 8) (oi := ⟨some 63, _, _, _, _, _⟩) (v := ?_) rfl (by kernel_rfl) (by kernel_rfl) (by kernel_rfl) (fun _ _ _ h => h) (Or.inl ⟨by rfl, ?_⟩) (by assumption) ?_; (rotate_left 1); (focus (intro wz hSw; (try dsimp only at hSw); go_simp; try (with_reducible rfl))); simp only [Act.put, List.setIfInBounds_toArray, List.set_cons_zero, List.set_cons_succ]
                    refine wpAnyH_ready (rs := [9]) (by kernel_rfl) (by simp) ?_; refine AllReadyH.cons rfl (fun K hK => ?_) AllReadyH.nil; go_simp
                    (try clear hHeld); refine hK.out _ _ ?_ (fun hHeld => ?_)
                    · trivial
                    refine wpAnyH_done (by kernel_rfl) ?_ _
                    go_wp2_with fail
                    go_roundg g
                    case measure => omega
                    case rel => exact ⟨k + 1, L', f', l ++ [(⟨strOfNums t0, t1⟩ : Fee.Fl)], us ++ [_], _, by omega, by simp, HFin.1, h8', hl', HFin.2.1, by rw [List.length_append, hll]; rfl, HFin.2.2.1, HFin.2.2.2, HR2⟩
                  · go_simp
                    refine hT.mono ?_
                    rintro e Y ⟨vt, rfl, hot, hr, hq⟩
                    have hFY := (hF2.bw (Bw.refl X2).drew).call hr hq
                    have hq0 : Bq rb X Y := (hq2.bw (Bw.refl X2).drew).trans hq
                    obtain ⟨v', Z, happ, hFZ, hO2, hx2, hFW, hAp⟩ := acc_step (ty := 26) infoF Try.underlying26 rfl (by decide) (by decide) hFY hszL hO hx hq0 5 (by simp) 1 [.string (strOfNums t0), vt] rfl (fun u hu => by simp at hu; rcases hu with rfl | rfl; rfl; obtain ⟨qt, ct, e, -⟩ := Rd8.open hot.rd; rw [e]; rfl) (by omega)
                    have happ' : (Builtin.append_ #[26, 26] 26 #[v, .slice (some ⟨Y.heap.size, 0, none⟩) 1 1]).run Try.prog (Y.alloc (.cells #[.string (strOfNums t0), vt] 55)) = .ok v' Z := happ
                    have ldY := hFY.bx.c 5 _ rfl
                    have ldA := (hFY.bw ((Bw.refl Y).alloc (.cells #[.string (strOfNums t0), vt] 55))).bx.c 5 _ rfl
                    have zc := hFZ.bx.c 5 _ rfl
                    have zf := hFZ.bx.f 5 (by simp)
                    have hQ2 := FlQ.round hQ hO hszL hF2.lt hx.b0.size hq0 hot hq2.b0.size hAp (⟨strOfNums t0, t1⟩ : Fee.Fl) rfl 5
                    have hcs : Fee.cells (l ++ [(⟨strOfNums t0, t1⟩ : Fee.Fl)]) (us ++ [vt]) = Fee.cells l us ++ [.string (strOfNums t0), vt] := Fee.cells_app hQ.1 _ _
                    have HFin : Hid (RF w rb (Z.setCell ⟨w.heap.size + 1, 5, none⟩ v') L' f' [va, vi, vs, vr, vc, v'] ∧ OwnR 55 2 wL (Z.setCell ⟨w.heap.size + 1, 5, none⟩ v') v' (k + 1) (Fee.cells (l ++ [(⟨strOfNums t0, t1⟩ : Fee.Fl)]) (us ++ [vt])) ∧ Bx rb (w.heap.size + 1) wL (Z.setCell ⟨w.heap.size + 1, 5, none⟩ v') ∧ FlQ wL (Z.setCell ⟨w.heap.size + 1, 5, none⟩ v') v' (l ++ [(⟨strOfNums t0, t1⟩ : Fee.Fl)]) (us ++ [vt])) := ⟨hFW, by rw [hcs]; exact hO2, hx2, hQ2⟩
                    obtain ⟨qt, ct, rfl, -⟩ := Rd8.open hot.rd
                    obtain ⟨gv, cv, rfl⟩ := hO2.form (by omega)
                    clear happ hFZ hO2 hx2 hFW hFY hr hq hq0 hot hAp hQ2 hcs
                    (try clear hHeld); refine hK.out _ _ ?_ (fun hHeld => ?_)
                    · trivial
                    refine wpAnyH_take (i := 5) (oi := ⟨some 60, _, _, _, _, _⟩) (v := ?_) rfl (by kernel_rfl) (by kernel_rfl) (by kernel_rfl) (fun _ _ _ h => h) (Or.inl ⟨by rfl, ?_⟩) (by assumption) ?_; (rotate_left 1); (focus (intro wz hSw; (try dsimp only at hSw); go_simp; try (with_reducible rfl))); simp only [Act.put, List.setIfInBounds_toArray, List.set_cons_zero, List.set_cons_succ]
                    refine wpAnyH_ready (rs := [1, 6]) (by kernel_rfl) (by simp) ?_
                    refine AllReadyH.cons rfl (fun K hK => ?_) (AllReadyH.cons rfl (fun K hK => ?_) AllReadyH.nil)
                    · go_simp
                      (try clear hHeld); refine hK.out _ _ ?_ (fun hHeld => ?_)
                      · trivial
                      refine wpAnyH_ready (rs := [6]) (by kernel_rfl) (by simp) ?_; refine AllReadyH.cons rfl (fun K hK => ?_) AllReadyH.nil; go_simp
                      (try clear hHeld); refine hK.out _ _ ?_ (fun hHeld => ?_)
                      · trivial
                      refine wpAnyH_ready (rs := [7]) (by kernel_rfl) (by simp) ?_; refine AllReadyH.cons (o := ⟨some 62, _, _, _, _, _⟩) rfl (fun K hK => ?_) AllReadyH.nil; refine stepApp rfl _ _ 26 rfl rfl rfl happ' ?_
                      (try clear hHeld); refine hK.out _ _ ?_ (fun hHeld => ?_)
                      · trivial
                      simp only [Act.put, List.setIfInBounds_toArray, List.set_cons_zero, List.set_cons_succ]
                      refine wpAnyH_take (i := 8) (oi := ⟨some 63, _, _, _, _, _⟩) (v := ?_) rfl (by kernel_rfl) (by kernel_rfl) (by kernel_rfl) (fun _ _ _ h => h) (Or.inl ⟨by rfl, ?_⟩) (by assumption) ?_; (rotate_left 1); (focus (intro wz hSw; (try dsimp only at hSw); go_simp; try (with_reducible rfl))); simp only [Act.put, List.setIfInBounds_toArray, List.set_cons_zero, List.set_cons_succ]
                      refine wpAnyH_ready (rs := [9]) (by kernel_rfl) (by simp) ?_; refine AllReadyH.cons rfl (fun K hK => ?_) AllReadyH.nil; go_simp
                      (try clear hHeld); refine hK.out _ _ ?_ (fun hHeld => ?_)
                      · trivial
                      refine wpAnyH_done (by kernel_rfl) ?_ _
                      go_wp2_with fail
                      go_roundg g
                      case measure => omega
                      case rel => exact ⟨k + 1, L', f', l ++ [(⟨strOfNums t0, t1⟩ : Fee.Fl)], us ++ [_], _, by omega, by simp, HFin.1, h8', hl', HFin.2.1, by rw [List.length_append, hll]; rfl, HFin.2.2.1, HFin.2.2.2, HR2⟩
                    · go_simp
                      (try clear hHeld); refine hK.out _ _ ?_ (fun hHeld => ?_)
                      · trivial
                      refine wpAnyH_ready (rs := [1]) (by kernel_rfl) (by simp) ?_; refine AllReadyH.cons rfl (fun K hK => ?_) AllReadyH.nil; go_simp
                      (try clear hHeld); refine hK.out _ _ ?_ (fun hHeld => ?_)
                      · trivial
                      refine wpAnyH_ready (rs := [7]) (by kernel_rfl) (by simp) ?_; refine AllReadyH.cons (o := ⟨some 62, _, _, _, _, _⟩) rfl (fun K hK => ?_) AllReadyH.nil; refine stepApp rfl _ _ 26 rfl rfl rfl happ' ?_
                      (try clear hHeld); refine hK.out _ _ ?_ (fun hHeld => ?_)
                      · trivial
                      simp only [Act.put, List.setIfInBounds_toArray, List.set_cons_zero, List.set_cons_succ]
                      refine wpAnyH_take (i := 8) (oi := ⟨some 63, _, _, _, _, _⟩) (v := ?_) rfl (by kernel_rfl) (by kernel_rfl) (by kernel_rfl) (fun _ _ _ h => h) (Or.inl ⟨by rfl, ?_⟩) (by assumption) ?_; (rotate_left 1); (focus (intro wz hSw; (try dsimp only at hSw); go_simp; try (with_reducible rfl))); simp only [Act.put, List.setIfInBounds_toArray, List.set_cons_zero, List.set_cons_succ]
                      refine wpAnyH_ready (rs := [9]) (by kernel_rfl) (by simp) ?_; refine AllReadyH.cons rfl (fun K hK => ?_) AllReadyH.nil; go_simp
                      (try clear hHeld); refine hK.out _ _ ?_ (fun hHeld => ?_)
                      · trivial
                      refine wpAnyH_done (by kernel_rfl) ?_ _
                      go_wp2_with fail
                      go_roundg g
                      case measure => omega
                      case rel => exact ⟨k + 1, L', f', l ++ [(⟨strOfNums t0, t1⟩ : Fee.Fl)], us ++ [_], _, by omega, by simp, HFin.1, h8', hl', HFin.2.1, by rw [List.length_append, hll]; rfl, HFin.2.2.1, HFin.2.2.2, HR2⟩
                | zero =>
                  have hkn : k = n := by omega
                  subst hkn
                  have hres2 : (l ++ [], Lk, fk) = (F, L7, f7) := hres
                  rw [List.append_nil] at hres2
                  simp only [Prod.mk.injEq] at hres2
                  obtain ⟨h1, h2, h3⟩ := hres2
                  replace h1 := h1.symm
                  replace h2 := h2.symm
                  replace h3 := h3.symm
                  subst h1 h2 h3
                  obtain ⟨vf, hvv⟩ : ∃ x, x = v := ⟨v, rfl⟩
                  subst hvv
                  have kA := RdR.x kA (hx) hA (by omega) (by omega)
                  have kI := RdR.x kI (hx) hI (by omega) (by omega)
                  have kS := RdR.x kS (hx) hS (by omega) (by omega)
                  have kR := RdR.x kR (hx) hR (by omega) (by omega)
                  have kC := RdR.x kC (hx) hC (by omega) (by omega)
                  have kF := hO.rd
                  rw [← hll] at kF
                  obtain ⟨qa, ca, rfl, -⟩ := RdR.form kA
                  obtain ⟨qi, ci, rfl, -⟩ := RdR.form kI
                  obtain ⟨qs, cs, rfl, -⟩ := RdR.form kS
                  obtain ⟨qr, cr, rfl, -⟩ := RdR.form kR
                  obtain ⟨qc, cc, rfl, -⟩ := RdR.form kC
                  obtain ⟨qf, cf, rfl, -⟩ := RdR.form kF
                  obtain ⟨hD1, hD2, hD3⟩ := RF.done hFr (.slice qa A.length ca) (.slice qi I.length ci) (.slice qs S.length cs) (.slice qr R.length cr) (.slice qc C.length cc) (.slice qf F.length cf)
                  have HFin : Hid (FdHi w.heap.size (RF.out w X (.slice qa A.length ca) (.slice qi I.length ci) (.slice qs S.length cs) (.slice qr R.length cr) (.slice qc C.length cc) (.slice qf F.length cf)) (.agg #[(.slice qa A.length ca), (.slice qi I.length ci), (.slice qs S.length cs), (.slice qr R.length cr), (.slice qc C.length cc), (.slice qf F.length cf)]) ⟨A, I, S, R, C, F⟩ ∧ RdS (fun i => i = rb ∨ w.heap.size ≤ i) (RF.out w X (.slice qa A.length ca) (.slice qi I.length ci) (.slice qs S.length cs) (.slice qr R.length cr) (.slice qc C.length cc) (.slice qf F.length cf)) rb L7 f7 ∧ Bq rb w (RF.out w X (.slice qa A.length ca) (.slice qi I.length ci) (.slice qs S.length cs) (.slice qr R.length cr) (.slice qc C.length cc) (.slice qf F.length cf))) :=
                    ⟨⟨_, _, _, _, _, _, us, rfl, ⟨hD3 _ _ _ _ kA hA, hA.le (by omega)⟩, ⟨hD3 _ _ _ _ kI hI, hI.le (by omega)⟩, ⟨hD3 _ _ _ _ kS hS, hS.le (by omega)⟩, ⟨hD3 _ _ _ _ kR hR, hR.le (by omega)⟩, ⟨hD3 _ _ _ _ kC hC, hC.le (by omega)⟩, hQ.1, ⟨hD3 _ _ _ _ kF (hO.hi.le hszL), hO.hi.le (by omega)⟩, fun i f u a b => ⟨hD3 _ _ _ _ (hQ.2 i f u a b).1 ((hQ.2 i f u a b).2.1.le hszL), (hQ.2 i f u a b).2.1.le (by omega)⟩, HO.2.2.2.2, ⟨HO.1, fun n hn => by have := HO.2.1 n hn; omega, HO.2.2.1, HO.2.2.2.1⟩⟩, hD1, hD2⟩
                  unfold RF.out at HFin
                  have c0 := hFr.bx.c 0 _ rfl; have c1 := hFr.bx.c 1 _ rfl; have c2 := hFr.bx.c 2 _ rfl; have c3 := hFr.bx.c 3 _ rfl; have c4 := hFr.bx.c 4 _ rfl; have c5 := hFr.bx.c 5 _ rfl
                  have z0 := hFr.ax.c 0 _ rfl; have z1 := hFr.ax.c 1 _ rfl; have z2 := hFr.ax.c 2 _ rfl; have z3 := hFr.ax.c 3 _ rfl; have z4 := hFr.ax.c 4 _ rfl; have z5 := hFr.ax.c 5 _ rfl
                  have y0 := hFr.ax.f 0 (by simp); have y1 := hFr.ax.f 1 (by simp); have y2 := hFr.ax.f 2 (by simp); have y3 := hFr.ax.f 3 (by simp); have y4 := hFr.ax.f 4 (by simp); have y5 := hFr.ax.f 5 (by simp)
                  clear hll hD1 hD2 hD3 hFr hQ hO hx hres kA kI kS kR kC kF hA hI hS hR hC h8 hl HO hszL
                  go_wp2_with fail
                  (try simp only [Exit.inBlock, Exit.then]); refine bodyPost_ret (by simp [results, Try.results18, go_sem, z0, z1, z2, z3, z4, z5]; try rfl) rfl ?_
                  refine ⟨_, _, _, _, _, _, rfl, ?_⟩
                  rw [(show Fee.parts L fl = ((A, I, S, R, C, F), L7, f7) from HP)]
                  exact HFin
end Go.Proofs.Ytmecompcffphcaa
