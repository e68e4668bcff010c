/- LAYER 11's walks: Seek. · LAYER 11's walks: Write. · BYTES that the call makes: make([]byte, n), copy. · LAYER 9's walks: Bytes. · LAYER 11's walks: Read. · LAYER 11's walks: the sources, made anew. · LAYER 11's walks: what there is to read. -/
import Derived.Test.YtncidjkkngbclaaR4
import Derived.Test.YtncidjkkngbclaaR1
import Derived.Laws.OwnMore
import Derived.Laws.IdiomCopy
import Derived.Test.YtncidjkkngbclaaR3
namespace Go.Proofs.Ytncidjkkngbclaa
open Go.ChangeShapes Go.WideShapes Go.ChangeAt Go.RowKit

/-- A number that is open, and its source. -/
theorem FS.num {w0 w : World} {fb : Nat} {A : Nat → Prop} {s : Fil.St} (h : FS w0 w fb A s) {fd : Int} (h0 : (Fil.hd s fd).kind ≠ 0) : ∃ k : Nat, ∃ x, fd = k ∧ k < 16 ∧ s.op[k]? = some x ∧ Fil.hd s fd = x := by
  have hfd : 0 ≤ fd ∧ fd < 16 := by
    apply Decidable.byContradiction
    intro hn
    rw [Fil.hd_out hn] at h0
    exact h0 rfl
  obtain ⟨k, rfl⟩ : ∃ k : Nat, fd = k := ⟨fd.toNat, by omega⟩
  obtain ⟨x, hx, hd⟩ := Fil.hd_at (s := s) h.ok.ln (k := k) (by omega)
  exact ⟨k, x, rfl, by omega, hx, hd⟩
theorem FS.cells {w0 w : World} {fb : Nat} {A : Nat → Prop} {s : Fil.St} (h : FS w0 w fb A s) {k : Nat} {x : Fil.H} (hx : s.op[k]? = some x) : (w.cell? ⟨fb, 2 + k * 3, none⟩ = some (.int .i64 x.kind) ∧ w.cell? ⟨fb, 2 + k * 3 + 1, none⟩ = some (.int .i64 x.src) ∧ w.cell? ⟨fb, 2 + k * 3 + 2, none⟩ = some (.int .i64 x.pos)) ∧
    (w.frozen? ⟨fb, 2 + k * 3, none⟩ = false ∧ w.frozen? ⟨fb, 2 + k * 3 + 1, none⟩ = false ∧ w.frozen? ⟨fb, 2 + k * 3 + 2, none⟩ = false) := by
  obtain ⟨ub, v1, v2, vs, us, hf⟩ := h
  exact hf.at_ hx
theorem FS.set1 {w0 w : World} {fb : Nat} {A : Nat → Prop} {s : Fil.St} (h : FS w0 w fb A s) {k : Nat} {x : Fil.H} (hx : s.op[k]? = some x) (n : Nat) : FS w0 (w.setCell ⟨fb, 2 + k * 3 + 2, none⟩ (.int .i64 n)) fb A { s with op := s.op.set k { x with pos := n } } ∧ Fz A w (w.setCell ⟨fb, 2 + k * 3 + 2, none⟩ (.int .i64 n)) := by
  obtain ⟨ub, v1, v2, vs, us, hf⟩ := h
  obtain ⟨h1, h2⟩ := hf.set1 hx n
  exact ⟨⟨_, _, _, _, _, h1⟩, h2⟩
/-- What a number that is read has to read. -/
theorem FS.data {w0 w : World} {fb : Nat} {A : Nat → Prop} {s : Fil.St} (h : FS w0 w fb A s) {x : Fil.H} (hx : x.src < s.srcs.length) : ∃ b o cap qs cs, w.cell? ⟨fb, 1, none⟩ = some (.slice (some ⟨b, o, none⟩) s.srcs.length cap) ∧ w.cell? ⟨b, o + x.src * 2 + 1, none⟩ = some (.slice qs (Fil.data s x).length cs) ∧ (Fil.data s x).length ≤ cs ∧ cs ≤ 9223372036854775807 ∧ Rd8 w (.slice qs (Fil.data s x).length cs) (Fil.data s x) ∧ (Fil.data s x).length ≤ 4096 ∧ s.srcs.length ≤ cap := by
  obtain ⟨ub, v1, v2, vs, us, h⟩ := h
  have c1 := h.box.c 1 _ rfl
  have hld := h.ok.ld
  obtain ⟨q, cap, rfl, hc1, hc2, hcell⟩ := h.src.open
  obtain ⟨f, hf⟩ : ∃ f, s.srcs[x.src]? = some f := ⟨_, List.getElem?_eq_getElem hx⟩
  obtain ⟨b, o, qs, cs, rfl, hb, _, d1, d2, d3, d4⟩ := hcell _ f hf
  have e : Fil.data s x = f.data := by unfold Fil.data; rw [hf]
  rw [e]
  exact ⟨b, o, cap, qs, cs, c1, d1, d2, d3, d4, (hld f (List.mem_of_getElem? hf)).1, hc1⟩
set_option maxHeartbeats 4000000 in
set_option maxRecDepth 100000 in
theorem fSeek_c {w0 w : World} {fb : Nat} {A : Nat → Prop} {s : Fil.St} (h : FS w0 w fb A s) (fd off wh : Int) (ho1 : -2147483648 ≤ off) (ho2 : off ≤ 2147483647) (hp : ∀ (i : Nat) x, s.op[i]? = some x → x.pos ≤ 4611686018427387904) :
    Calls Try.prog 17 #[.pointer (some ⟨fb, 0, none⟩), .int .i64 fd, .int .i32 off, .int .i64 wh] w fun e w' => e = .returned (.int .i64 (Fil.seek s fd off wh).1) ∧ FS w0 w' fb A (Fil.seek s fd off wh).2 ∧ Fz A w w' := by
  have hK := fKind_c h fd
  have HFS : Hid _ := h
  by_cases h0 : (Fil.hd s fd).kind = 0
  · rw [show Fil.seek s fd off wh = (-9, s) by unfold Fil.seek; rw [if_pos h0]]
    rw [h0] at hK
    clear h h0 hp
    go_enter Try.func17, Try.ntmps17
    go_wp2_with (go_at_call 29; refine hK.mono ?_; rintro e w2 ⟨rfl, hb⟩)
    go_returns
    exact ⟨rfl, FS.bw HFS hb, Fz.of_bw hb⟩
  obtain ⟨k, x, rfl, hk16, hx, hd⟩ := h.num h0
  by_cases h2 : (Fil.hd s k).kind = 2
  · rw [show Fil.seek s k off wh = (-29, s) by unfold Fil.seek; rw [if_neg h0, if_pos h2]]
    rw [h2] at hK
    clear h h0 hp hx hd h2
    go_enter Try.func17, Try.ntmps17
    go_wp2_with (go_at_call 29; refine hK.mono ?_; rintro e w2 ⟨rfl, hb⟩)
    go_returns
    exact ⟨rfl, FS.bw HFS hb, Fz.of_bw hb⟩
  rw [hd] at h0 h2 hK
  obtain ⟨h1, hsrc⟩ : x.kind = 1 ∧ x.src < s.srcs.length := by
    rcases h.ok.kd k x hx with e | e | e
    · exact absurd e h0
    · exact e
    · exact absurd e.1 h2
  have hki : (k : Int) < 16 := by omega
  have hpos := hp k x hx
  have hsl := h.ok.ls.2
  rw [h1] at hK
  have hS : Fil.seek s k off wh = if wh ≠ 0 ∧ wh ≠ 1 ∧ wh ≠ 2 then (-22, s) else if Fil.place s x off wh < 0 then (-22, s) else (Fil.place s x off wh, { s with op := s.op.set k { x with pos := (Fil.place s x off wh).toNat } }) := by
    unfold Fil.seek; rw [hd, if_neg h0, if_neg h2, Int.toNat_natCast]
  have hfin : ∀ X n, Bw w X → FS w0 (X.setCell ⟨fb, 2 + k * 3 + 2, none⟩ (.int .i64 (n : Nat))) fb A { s with op := s.op.set k { x with pos := n } } ∧ Fz A w (X.setCell ⟨fb, 2 + k * 3 + 2, none⟩ (.int .i64 (n : Nat))) := fun X n g => by
    obtain ⟨a, b⟩ := (h.bw g).set1 hx n
    exact ⟨a, (Fz.of_bw g).trans b⟩
  have hC := fun X (g : Bw w X) => (h.bw g).cells hx
  have hD := fun X (g : Bw w X) => (h.bw g).data hsrc
  rw [h1] at hC
  by_cases hw : wh ≠ 0 ∧ wh ≠ 1 ∧ wh ≠ 2
  · rw [hS, if_pos hw]
    obtain ⟨w0', w1', w2'⟩ := hw
    have b0 : (wh == 0) = false := by simpa using w0'
    have b1 : (wh == 1) = false := by simpa using w1'
    have b2 : (wh == 2) = false := by simpa using w2'
    clear h h0 h2 hp hx hd hS hfin hC hD
    go_enter Try.func17, Try.ntmps17
    go_wp2_with (go_at_call 29; refine hK.mono ?_; rintro e w2 ⟨rfl, hb⟩)
    go_returns
    exact ⟨rfl, FS.bw HFS hb, Fz.of_bw hb⟩
  rw [if_neg hw] at hS
  have hw3 : wh = 0 ∨ wh = 1 ∨ wh = 2 := by omega
  clear hw h0 h2 hp hd h
  rcases hw3 with rfl | rfl | rfl
  · have hv : Fil.place s x off 0 = off := rfl
    rw [hv] at hS
    by_cases hneg : off < 0
    · rw [hS, if_pos hneg]
      clear hS hv hfin
      go_enter Try.func17, Try.ntmps17
      go_wp2_with (go_at_call 29; refine hK.mono ?_; rintro e w2 ⟨rfl, hb⟩; obtain ⟨⟨c0, c1, c2⟩, f0, f1, f2⟩ := hC _ hb; obtain ⟨b, o, cap, qs, cs, d0, d1, d2, d3, d4, d5, d6⟩ := hD _ hb; clear hC hD)
      go_returns
      exact ⟨rfl, FS.bw HFS hb, Fz.of_bw hb⟩
    · rw [hS, if_neg hneg]
      obtain ⟨n, hn⟩ : ∃ n : Nat, off = n := ⟨(off).toNat, by omega⟩
      have hfn := fun X g => hfin X n g
      rw [hn] at hneg ⊢
      rw [Int.toNat_natCast]
      have HFn : Hid _ := hfn
      clear hS hv hfin hfn
      go_enter Try.func17, Try.ntmps17
      go_wp2_with (go_at_call 29; refine hK.mono ?_; rintro e w2 ⟨rfl, hb⟩; obtain ⟨⟨c0, c1, c2⟩, f0, f1, f2⟩ := hC _ hb; obtain ⟨b, o, cap, qs, cs, d0, d1, d2, d3, d4, d5, d6⟩ := hD _ hb; clear hC hD)
      go_returns
      exact ⟨rfl, (show ∀ X, Bw w X → _ from HFn) _ hb⟩
  · have hv : Fil.place s x off 1 = off + x.pos := rfl
    rw [hv] at hS
    by_cases hneg : off + x.pos < 0
    · rw [hS, if_pos hneg]
      clear hS hv hfin
      go_enter Try.func17, Try.ntmps17
      go_wp2_with (go_at_call 29; refine hK.mono ?_; rintro e w2 ⟨rfl, hb⟩; obtain ⟨⟨c0, c1, c2⟩, f0, f1, f2⟩ := hC _ hb; obtain ⟨b, o, cap, qs, cs, d0, d1, d2, d3, d4, d5, d6⟩ := hD _ hb; clear hC hD)
      go_returns
      exact ⟨rfl, FS.bw HFS hb, Fz.of_bw hb⟩
    · rw [hS, if_neg hneg]
      obtain ⟨n, hn⟩ : ∃ n : Nat, off + x.pos = n := ⟨(off + x.pos).toNat, by omega⟩
      have hfn := fun X g => hfin X n g
      rw [hn] at hneg ⊢
      rw [Int.toNat_natCast]
      have HFn : Hid _ := hfn
      clear hS hv hfin hfn
      go_enter Try.func17, Try.ntmps17
      go_wp2_with (go_at_call 29; refine hK.mono ?_; rintro e w2 ⟨rfl, hb⟩; obtain ⟨⟨c0, c1, c2⟩, f0, f1, f2⟩ := hC _ hb; obtain ⟨b, o, cap, qs, cs, d0, d1, d2, d3, d4, d5, d6⟩ := hD _ hb; clear hC hD)
      go_returns
      exact ⟨rfl, (show ∀ X, Bw w X → _ from HFn) _ hb⟩
  · have hv : Fil.place s x off 2 = off + (Fil.data s x).length := rfl
    rw [hv] at hS
    by_cases hneg : off + (Fil.data s x).length < 0
    · rw [hS, if_pos hneg]
      clear hS hv hfin
      go_enter Try.func17, Try.ntmps17
      go_wp2_with (go_at_call 29; refine hK.mono ?_; rintro e w2 ⟨rfl, hb⟩; obtain ⟨⟨c0, c1, c2⟩, f0, f1, f2⟩ := hC _ hb; obtain ⟨b, o, cap, qs, cs, d0, d1, d2, d3, d4, d5, d6⟩ := hD _ hb; clear hC hD)
      go_region
      go_wp2
      go_returns
      exact ⟨rfl, FS.bw HFS hb.drew, Fz.of_bw hb.drew⟩
    · rw [hS, if_neg hneg]
      obtain ⟨n, hn⟩ : ∃ n : Nat, off + (Fil.data s x).length = n := ⟨(off + (Fil.data s x).length).toNat, by omega⟩
      have hfn := fun X g => hfin X n g
      rw [hn] at hneg ⊢
      rw [Int.toNat_natCast]
      have HFn : Hid _ := hfn
      clear hS hv hfin hfn
      go_enter Try.func17, Try.ntmps17
      go_wp2_with (go_at_call 29; refine hK.mono ?_; rintro e w2 ⟨rfl, hb⟩; obtain ⟨⟨c0, c1, c2⟩, f0, f1, f2⟩ := hC _ hb; obtain ⟨b, o, cap, qs, cs, d0, d1, d2, d3, d4, d5, d6⟩ := hD _ hb; clear hC hD)
      go_region
      go_wp2
      go_returns
      exact ⟨rfl, (show ∀ X, Bw w X → _ from HFn) w2.drew hb.drew⟩
end Go.Proofs.Ytncidjkkngbclaa
namespace Go.Proofs.Ytncidjkkngbclaa
open Go.ChangeShapes Go.WideShapes Go.ChangeAt Go.RowKit

theorem Own8.sl {w0 w : World} {v : Value} {l : List Int} (h : Own8 w0 w v l) : ∃ q cap, v = .slice q l.length cap := by
  rcases h with ⟨rfl, rfl⟩ | ⟨g, cap, rfl, _⟩
  · exact ⟨_, _, rfl⟩
  · exact ⟨_, _, rfl⟩
set_option maxHeartbeats 4000000 in
set_option maxRecDepth 100000 in
theorem fWrite_c {w0 w : World} {fb : Nat} {A : Nat → Prop} {s : Fil.St} (h : FS w0 w fb A s) (h0w : Bw w0 w) (fd : Int) {v : Value} {bs : List Int} (hv : Rd8 w v bs) (h8 : B8s bs) (hbl : bs.length ≤ 1000000) :
    Calls Try.prog 15 #[.pointer (some ⟨fb, 0, none⟩), .int .i64 fd, v] w fun e w' => e = .returned (.int .i64 (Fil.write s fd bs).1) ∧ ∃ A', FS w0 w' fb A' (Fil.write s fd bs).2 ∧ Stp A A' w w' := by
  have hK := fKind_c h fd
  have HFS : Hid _ := h
  have HV : Hid _ := hv
  obtain ⟨qv, cv, rfl, hv1, hv2, -⟩ := Rd8.open hv
  by_cases h0 : (Fil.hd s fd).kind ≠ 2
  · rw [show Fil.write s fd bs = (-9, s) by unfold Fil.write; rw [if_pos h0]]
    have h2b : (((Fil.hd s fd).kind == 2) = false) := by simpa using h0
    generalize (Fil.hd s fd).kind = kd at *
    clear h h0 hv
    go_enter Try.func15, Try.ntmps15
    go_wp2_with (go_at_call 29; refine hK.mono ?_; rintro e w2 ⟨rfl, hb⟩)
    go_returns
    exact ⟨rfl, A, FS.bw HFS hb, Stp.of_bw hb⟩
  have h2 : (Fil.hd s fd).kind = 2 := Classical.not_not.1 h0
  obtain ⟨k, x, hfk, hk16, hx, hd⟩ := h.num (fd := fd) (by rw [h2]; decide)
  have hkk : k = 1 ∨ k = 2 := by
    rcases h.ok.kd k x hx with e | e | e
    · rw [hd, e] at h2; simp at h2
    · rw [hd, e.1] at h2; simp at h2
    · exact e.2
  have hlo1 := h.ok.p1.1
  have hlo2 := h.ok.p2.1
  rw [h2] at hK
  have hfd : fd = 1 ∨ fd = 2 := by omega
  have hS : Fil.write s fd bs = if 65536 < (Fil.outAt s fd).length + bs.length then (-28, s) else ((bs.length : Int), if fd = 1 then { s with o1 := s.o1 ++ bs } else { s with o2 := s.o2 ++ bs }) := by
    unfold Fil.write; rw [if_neg (by rw [h2]; decide)]
  obtain ⟨ub, v1, v2, vs, us, hX⟩ := h
  obtain ⟨b50, b51, b52⟩ := Fil.cells_hi (ub := ub) (vs := vs) (v1 := v1) (v2 := v2) hX.ok.ln
  have hln := Fil.cells_len (ub := ub) (vs := vs) (v1 := v1) (v2 := v2) hX.ok.ln
  have c51 := fun X (g : Bw w X) => g.keep (hX.box.c 51 _ b51)
  have c52 := fun X (g : Bw w X) => g.keep (hX.box.c 52 _ b52)
  have f51 := fun X (g : Bw w X) => (hX.bw g).box.f 51 (by rw [hln]; omega)
  have f52 := fun X (g : Bw w X) => (hX.bw g).box.f 52 (by rw [hln]; omega)
  obtain ⟨q1, p1, hv1e⟩ := hX.o1.sl
  obtain ⟨q2, p2, hv2e⟩ := hX.o2.sl
  clear hd hx h2 h0 b50 b51 b52 hln hv hkk hfk hk16
  rcases hfd with rfl | rfl
  · rw [show Fil.outAt s 1 = s.o1 from rfl, if_pos (show (1 : Int) = 1 from rfl)] at hS
    by_cases hbig : 65536 < s.o1.length + bs.length
    · rw [hS, if_pos hbig]
      have hbi : (65536 : Int) < (s.o1.length : Int) + (bs.length : Int) := by omega
      clear hS hX
      subst hv1e
      go_enter Try.func15, Try.ntmps15
      go_wp2_with (go_at_call 29; refine hK.mono ?_; rintro e w2 ⟨rfl, hb⟩; have d1 := c51 _ hb)
      go_returns
      exact ⟨rfl, A, FS.bw HFS hb, Stp.of_bw hb⟩
    · rw [hS, if_neg hbig]
      have hbi : ¬ (65536 : Int) < (s.o1.length : Int) + (bs.length : Int) := by omega
      have hA : ∀ X, Bw w X → ∃ v' w', (Builtin.append_ #[23, 23] 23 #[v1, .slice qv bs.length cv]).run Try.prog X = .ok v' w' ∧ (w'.cell? ⟨fb, 51, none⟩ = some v1 ∧ w'.frozen? ⟨fb, 51, none⟩ = false) ∧ (∃ q' n' c', v' = .slice q' n' c') ∧ ∃ A', FS w0 (w'.setCell ⟨fb, 51, none⟩ v') fb A' { s with o1 := s.o1 ++ bs } ∧ Stp A A' w (w'.setCell ⟨fb, 51, none⟩ v') := fun X g => by
        have hX2 := hX.bw g
        obtain ⟨v', w', hr, ho, -, ha⟩ := app8S hX2.o1 (h0w.trans g) (Rd8.bw HV g) (by omega)
        have hfb := (hX2.in_ _ hX2.af).2
        have hbk := ha.block fb hfb (fun e => (hX2.n1 fb e).2.1 rfl)
        obtain ⟨A', r1, r2⟩ := hX2.onO1 ha h8 (by rw [List.length_append]; omega) ho
        exact ⟨v', w', hr, ⟨(cell_block (p := ⟨fb, 51, none⟩) hbk).trans (c51 X g), (frozen_block (p := ⟨fb, 51, none⟩) hbk).trans (f51 X g)⟩, ⟨_, _, _, ho.sl.choose_spec.choose_spec⟩, A', ⟨_, _, _, _, _, r1⟩, (Stp.of_bw g).trans r2⟩
      clear hS hX
      subst hv1e
      go_enter Try.func15, Try.ntmps15
      go_wp2_with (go_at_call 29; refine hK.mono ?_; rintro e w2 ⟨rfl, hb⟩; have d1 := c51 _ hb)
      obtain ⟨v', w', hr, ⟨hc, hf⟩, ⟨q', n', c', rfl⟩, hfin⟩ := hA _ hb.drew
      have HFin : Hid _ := hfin
      clear hA hfin
      refine wp_region_held_drew (S := fun _ => True) (by kernel_rfl) trivial (fun hHeld => ?_)
      have d1' := (show w2.drew.cell? _ = _ from d1)
      refine wpAnyH_take (i := 0) (oi := ⟨some 22, _, _, _, _, _⟩) (v := ?_) rfl (by kernel_rfl) (by kernel_rfl) (by kernel_rfl) (fun _ _ _ h => h) (Or.inl ⟨by rfl, ?_⟩) (by assumption) ?_; (rotate_left 1); (focus (intro wz hSw; (try dsimp only at hSw); go_simp; try (with_reducible rfl))); simp only [Act.put, List.setIfInBounds_toArray, List.set_cons_zero, List.set_cons_succ]
      refine wpAnyH_take (i := 1) (oi := ⟨some 23, _, _, _, _, _⟩) (v := ?_) rfl (by kernel_rfl) (by kernel_rfl) (by kernel_rfl) (fun _ _ _ h => h) (Or.inl ⟨by rfl, ?_⟩) (by assumption) ?_; (rotate_left 1); (focus (intro wz hSw; (try dsimp only at hSw); go_simp; try (with_reducible rfl))); simp only [Act.put, List.setIfInBounds_toArray, List.set_cons_zero, List.set_cons_succ]
      refine wpAnyH_take (i := 2) (oi := ⟨some 24, _, _, _, _, _⟩) (v := ?_) rfl (by kernel_rfl) (by kernel_rfl) (by kernel_rfl) (fun _ _ _ h => h) (Or.inl ⟨by rfl, ?_⟩) (by assumption) ?_; (rotate_left 1); (focus (intro wz hSw; (try dsimp only at hSw); go_simp; try (with_reducible rfl))); simp only [Act.put, List.setIfInBounds_toArray, List.set_cons_zero, List.set_cons_succ]
      refine wpAnyH_take (i := 3) (oi := ⟨some 25, _, _, _, _, _⟩) (v := ?_) rfl (by kernel_rfl) (by kernel_rfl) (by kernel_rfl) (fun _ _ _ h => h) (Or.inl ⟨by rfl, ?_⟩) (by assumption) ?_; (rotate_left 1); (focus (intro wz hSw; (try dsimp only at hSw); go_simp; try (with_reducible rfl))); simp only [Act.put, List.setIfInBounds_toArray, List.set_cons_zero, List.set_cons_succ]
      refine wpAnyH_take (i := 4) (oi := ⟨some 26, _, _, _, _, _⟩) (v := ?_) rfl (by kernel_rfl) (by kernel_rfl) (by kernel_rfl) (fun _ _ _ h => h) (Or.inl ⟨by rfl, ?_⟩) (by assumption) ?_; (rotate_left 1); (focus (intro wz hSw; (try dsimp only at hSw); go_simp; try (with_reducible rfl))); simp only [Act.put, List.setIfInBounds_toArray, List.set_cons_zero, List.set_cons_succ]
      refine wpAnyH_take (i := 5) (oi := ⟨some 27, _, _, _, _, _⟩) (v := ?_) rfl (by kernel_rfl) (by kernel_rfl) (by kernel_rfl) (fun _ _ _ h => h) (Or.inl ⟨by rfl, ?_⟩) (by assumption) ?_; (rotate_left 1); (focus (intro wz hSw; (try dsimp only at hSw); go_simp; try (with_reducible rfl))); simp only [Act.put, List.setIfInBounds_toArray, List.set_cons_zero, List.set_cons_succ]
      refine wpAnyH_take (i := 6) (oi := ⟨some 28, _, _, _, _, _⟩) (v := ?_) rfl (by kernel_rfl) (by kernel_rfl) (by kernel_rfl) (fun _ _ _ h => h) (Or.inl ⟨by rfl, ?_⟩) (by assumption) ?_; (rotate_left 1); (focus (intro wz hSw; (try dsimp only at hSw); go_simp; try (with_reducible rfl))); simp only [Act.put, List.setIfInBounds_toArray, List.set_cons_zero, List.set_cons_succ]
      refine wpAnyH_take (i := 8) (oi := ⟨some 30, _, _, _, _, _⟩) (v := ?_) rfl (by kernel_rfl) (by kernel_rfl) (by kernel_rfl) (fun _ _ _ h => h) (Or.inl ⟨by rfl, ?_⟩) (by assumption) ?_; (rotate_left 1); (focus (intro wz hSw; (try dsimp only at hSw); go_simp; try (with_reducible rfl))); simp only [Act.put, List.setIfInBounds_toArray, List.set_cons_zero, List.set_cons_succ]
      refine wpAnyH_take (i := 10) (oi := ⟨some 32, _, _, _, _, _⟩) (v := ?_) rfl (by kernel_rfl) (by kernel_rfl) (by kernel_rfl) (fun _ _ _ h => h) (Or.inl ⟨by rfl, ?_⟩) (by assumption) ?_; (rotate_left 1); (focus (intro wz hSw; (try dsimp only at hSw); go_simp; try (with_reducible rfl))); simp only [Act.put, List.setIfInBounds_toArray, List.set_cons_zero, List.set_cons_succ]
      refine wpAnyH_take (i := 11) (oi := ⟨some 33, _, _, _, _, _⟩) (v := ?_) rfl (by kernel_rfl) (by kernel_rfl) (by kernel_rfl) (fun _ _ _ h => h) (Or.inl ⟨by rfl, ?_⟩) (by assumption) ?_; (rotate_left 1); (focus (intro wz hSw; (try dsimp only at hSw); go_simp; try (with_reducible rfl))); simp only [Act.put, List.setIfInBounds_toArray, List.set_cons_zero, List.set_cons_succ]
      refine wpAnyH_ready (rs := [7]) (by kernel_rfl) (by simp) ?_; refine AllReadyH.cons rfl (fun K hK => ?_) AllReadyH.nil; go_simp; (try clear hHeld); refine hK.out _ _ trivial (fun hHeld => ?_)
      refine wpAnyH_ready (rs := [9]) (by kernel_rfl) (by simp) ?_; refine AllReadyH.cons (o := ⟨some 31, _, _, _, _, _⟩) rfl (fun K hK => ?_) AllReadyH.nil; refine stepApp rfl _ _ 23 rfl rfl rfl hr ?_; (try clear hHeld); refine hK.out _ _ trivial (fun hHeld => ?_)
      simp only [Act.put, List.setIfInBounds_toArray, List.set_cons_zero, List.set_cons_succ]
      refine wpAnyH_take (i := 12) (oi := ⟨some 34, _, _, _, _, _⟩) (v := ?_) rfl (by kernel_rfl) (by kernel_rfl) (by kernel_rfl) (fun _ _ _ h => h) (Or.inl ⟨by rfl, ?_⟩) (by assumption) ?_; (rotate_left 1); (focus (intro wz hSw; (try dsimp only at hSw); go_simp; try (with_reducible rfl))); simp only [Act.put, List.setIfInBounds_toArray, List.set_cons_zero, List.set_cons_succ]
      refine wpAnyH_ready (rs := [13]) (by kernel_rfl) (by simp) ?_; refine AllReadyH.cons rfl (fun K hK => ?_) AllReadyH.nil; go_simp; (try clear hHeld); refine hK.out _ _ trivial (fun hHeld => ?_)
      refine wpAnyH_done (by kernel_rfl) ?_ _
      go_wp2_with fail
      go_returns
      exact ⟨rfl, HFin⟩
  · rw [show Fil.outAt s 2 = s.o2 from rfl, if_neg (show ¬ (2 : Int) = 1 by decide)] at hS
    by_cases hbig : 65536 < s.o2.length + bs.length
    · rw [hS, if_pos hbig]
      have hbi : (65536 : Int) < (s.o2.length : Int) + (bs.length : Int) := by omega
      clear hS hX
      subst hv2e
      go_enter Try.func15, Try.ntmps15
      go_wp2_with (go_at_call 29; refine hK.mono ?_; rintro e w2 ⟨rfl, hb⟩; have d1 := c52 _ hb)
      go_returns
      exact ⟨rfl, A, FS.bw HFS hb, Stp.of_bw hb⟩
    · rw [hS, if_neg hbig]
      have hbi : ¬ (65536 : Int) < (s.o2.length : Int) + (bs.length : Int) := by omega
      have hA : ∀ X, Bw w X → ∃ v' w', (Builtin.append_ #[23, 23] 23 #[v2, .slice qv bs.length cv]).run Try.prog X = .ok v' w' ∧ (w'.cell? ⟨fb, 52, none⟩ = some v2 ∧ w'.frozen? ⟨fb, 52, none⟩ = false) ∧ (∃ q' n' c', v' = .slice q' n' c') ∧ ∃ A', FS w0 (w'.setCell ⟨fb, 52, none⟩ v') fb A' { s with o2 := s.o2 ++ bs } ∧ Stp A A' w (w'.setCell ⟨fb, 52, none⟩ v') := fun X g => by
        have hX2 := hX.bw g
        obtain ⟨v', w', hr, ho, -, ha⟩ := app8S hX2.o2 (h0w.trans g) (Rd8.bw HV g) (by omega)
        have hfb := (hX2.in_ _ hX2.af).2
        have hbk := ha.block fb hfb (fun e => (hX2.n2 fb e).2.1 rfl)
        obtain ⟨A', r1, r2⟩ := hX2.onO2 ha h8 (by rw [List.length_append]; omega) ho
        exact ⟨v', w', hr, ⟨(cell_block (p := ⟨fb, 52, none⟩) hbk).trans (c52 X g), (frozen_block (p := ⟨fb, 52, none⟩) hbk).trans (f52 X g)⟩, ⟨_, _, _, ho.sl.choose_spec.choose_spec⟩, A', ⟨_, _, _, _, _, r1⟩, (Stp.of_bw g).trans r2⟩
      clear hS hX
      subst hv2e
      go_enter Try.func15, Try.ntmps15
      go_wp2_with (go_at_call 29; refine hK.mono ?_; rintro e w2 ⟨rfl, hb⟩; have d1 := c52 _ hb)
      obtain ⟨v', w', hr, ⟨hc, hf⟩, ⟨q', n', c', rfl⟩, hfin⟩ := hA _ hb.drew
      have HFin : Hid _ := hfin
      clear hA hfin
      refine wp_region_held_drew (S := fun _ => True) (by kernel_rfl) trivial (fun hHeld => ?_)
      have d1' := (show w2.drew.cell? _ = _ from d1)
      refine wpAnyH_take (i := 0) (oi := ⟨some 22, _, _, _, _, _⟩) (v := ?_) rfl (by kernel_rfl) (by kernel_rfl) (by kernel_rfl) (fun _ _ _ h => h) (Or.inl ⟨by rfl, ?_⟩) (by assumption) ?_; (rotate_left 1); (focus (intro wz hSw; (try dsimp only at hSw); go_simp; try (with_reducible rfl))); simp only [Act.put, List.setIfInBounds_toArray, List.set_cons_zero, List.set_cons_succ]
      refine wpAnyH_take (i := 1) (oi := ⟨some 23, _, _, _, _, _⟩) (v := ?_) rfl (by kernel_rfl) (by kernel_rfl) (by kernel_rfl) (fun _ _ _ h => h) (Or.inl ⟨by rfl, ?_⟩) (by assumption) ?_; (rotate_left 1); (focus (intro wz hSw; (try dsimp only at hSw); go_simp; try (with_reducible rfl))); simp only [Act.put, List.setIfInBounds_toArray, List.set_cons_zero, List.set_cons_succ]
      refine wpAnyH_take (i := 2) (oi := ⟨some 24, _, _, _, _, _⟩) (v := ?_) rfl (by kernel_rfl) (by kernel_rfl) (by kernel_rfl) (fun _ _ _ h => h) (Or.inl ⟨by rfl, ?_⟩) (by assumption) ?_; (rotate_left 1); (focus (intro wz hSw; (try dsimp only at hSw); go_simp; try (with_reducible rfl))); simp only [Act.put, List.setIfInBounds_toArray, List.set_cons_zero, List.set_cons_succ]
      refine wpAnyH_take (i := 3) (oi := ⟨some 25, _, _, _, _, _⟩) (v := ?_) rfl (by kernel_rfl) (by kernel_rfl) (by kernel_rfl) (fun _ _ _ h => h) (Or.inl ⟨by rfl, ?_⟩) (by assumption) ?_; (rotate_left 1); (focus (intro wz hSw; (try dsimp only at hSw); go_simp; try (with_reducible rfl))); simp only [Act.put, List.setIfInBounds_toArray, List.set_cons_zero, List.set_cons_succ]
      refine wpAnyH_take (i := 4) (oi := ⟨some 26, _, _, _, _, _⟩) (v := ?_) rfl (by kernel_rfl) (by kernel_rfl) (by kernel_rfl) (fun _ _ _ h => h) (Or.inl ⟨by rfl, ?_⟩) (by assumption) ?_; (rotate_left 1); (focus (intro wz hSw; (try dsimp only at hSw); go_simp; try (with_reducible rfl))); simp only [Act.put, List.setIfInBounds_toArray, List.set_cons_zero, List.set_cons_succ]
      refine wpAnyH_take (i := 5) (oi := ⟨some 27, _, _, _, _, _⟩) (v := ?_) rfl (by kernel_rfl) (by kernel_rfl) (by kernel_rfl) (fun _ _ _ h => h) (Or.inl ⟨by rfl, ?_⟩) (by assumption) ?_; (rotate_left 1); (focus (intro wz hSw; (try dsimp only at hSw); go_simp; try (with_reducible rfl))); simp only [Act.put, List.setIfInBounds_toArray, List.set_cons_zero, List.set_cons_succ]
      refine wpAnyH_take (i := 6) (oi := ⟨some 28, _, _, _, _, _⟩) (v := ?_) rfl (by kernel_rfl) (by kernel_rfl) (by kernel_rfl) (fun _ _ _ h => h) (Or.inl ⟨by rfl, ?_⟩) (by assumption) ?_; (rotate_left 1); (focus (intro wz hSw; (try dsimp only at hSw); go_simp; try (with_reducible rfl))); simp only [Act.put, List.setIfInBounds_toArray, List.set_cons_zero, List.set_cons_succ]
      refine wpAnyH_take (i := 8) (oi := ⟨some 30, _, _, _, _, _⟩) (v := ?_) rfl (by kernel_rfl) (by kernel_rfl) (by kernel_rfl) (fun _ _ _ h => h) (Or.inl ⟨by rfl, ?_⟩) (by assumption) ?_; (rotate_left 1); (focus (intro wz hSw; (try dsimp only at hSw); go_simp; try (with_reducible rfl))); simp only [Act.put, List.setIfInBounds_toArray, List.set_cons_zero, List.set_cons_succ]
      refine wpAnyH_take (i := 10) (oi := ⟨some 32, _, _, _, _, _⟩) (v := ?_) rfl (by kernel_rfl) (by kernel_rfl) (by kernel_rfl) (fun _ _ _ h => h) (Or.inl ⟨by rfl, ?_⟩) (by assumption) ?_; (rotate_left 1); (focus (intro wz hSw; (try dsimp only at hSw); go_simp; try (with_reducible rfl))); simp only [Act.put, List.setIfInBounds_toArray, List.set_cons_zero, List.set_cons_succ]
      refine wpAnyH_take (i := 11) (oi := ⟨some 33, _, _, _, _, _⟩) (v := ?_) rfl (by kernel_rfl) (by kernel_rfl) (by kernel_rfl) (fun _ _ _ h => h) (Or.inl ⟨by rfl, ?_⟩) (by assumption) ?_; (rotate_left 1); (focus (intro wz hSw; (try dsimp only at hSw); go_simp; try (with_reducible rfl))); simp only [Act.put, List.setIfInBounds_toArray, List.set_cons_zero, List.set_cons_succ]
      refine wpAnyH_ready (rs := [7]) (by kernel_rfl) (by simp) ?_; refine AllReadyH.cons rfl (fun K hK => ?_) AllReadyH.nil; go_simp; (try clear hHeld); refine hK.out _ _ trivial (fun hHeld => ?_)
      refine wpAnyH_ready (rs := [9]) (by kernel_rfl) (by simp) ?_; refine AllReadyH.cons (o := ⟨some 31, _, _, _, _, _⟩) rfl (fun K hK => ?_) AllReadyH.nil; refine stepApp rfl _ _ 23 rfl rfl rfl hr ?_; (try clear hHeld); refine hK.out _ _ trivial (fun hHeld => ?_)
      simp only [Act.put, List.setIfInBounds_toArray, List.set_cons_zero, List.set_cons_succ]
      refine wpAnyH_take (i := 12) (oi := ⟨some 34, _, _, _, _, _⟩) (v := ?_) rfl (by kernel_rfl) (by kernel_rfl) (by kernel_rfl) (fun _ _ _ h => h) (Or.inl ⟨by rfl, ?_⟩) (by assumption) ?_; (rotate_left 1); (focus (intro wz hSw; (try dsimp only at hSw); go_simp; try (with_reducible rfl))); simp only [Act.put, List.setIfInBounds_toArray, List.set_cons_zero, List.set_cons_succ]
      refine wpAnyH_ready (rs := [13]) (by kernel_rfl) (by simp) ?_; refine AllReadyH.cons rfl (fun K hK => ?_) AllReadyH.nil; go_simp; (try clear hHeld); refine hK.out _ _ trivial (fun hHeld => ?_)
      refine wpAnyH_done (by kernel_rfl) ?_ _
      go_wp2_with fail
      go_returns
      exact ⟨rfl, HFin⟩
end Go.Proofs.Ytncidjkkngbclaa
namespace Go.Proofs.Ytncidjkkngbclaa
open Go.ChangeShapes Go.WideShapes Go.ChangeAt Go.RowKit
set_option linter.unusedSimpArgs false

theorem step_copy_eq {P : Program} {ops : Array Oper} {o : Oper} {a : Act} {w w' : World} {K : Act → World → Prop} {Q : Exit → Act → World → Prop} {E : Prop}
    (hg : o.guard = none) (s x : Operand) (t : TypeId) (hop : o.op = Op.call { callee := Callee.builtin Builtin.copy, args := #[s, x], argTypes := #[t, t] })
    {v xv v' : Value} (hs : a.eval s = v) (hx : a.eval x = xv) (hr : (Builtin.copy_ #[t, t] o.type #[v, xv]).run P w = .ok v' w') (hK : K (a.put o.dst v') w') :
    if Region.wanted o (yielded ops a.tmps) = true then Oper.wp P o a w K Q else E := by
  have hw : Region.wanted o (yielded ops a.tmps) = true := by simp [Region.wanted, hg]
  rw [if_pos hw]
  unfold Oper.wp
  simp [execOp, hop, resolve, invoke, builtin, hs, hx, hr, Result.andThen]
  exact hK
theorem wpList_copy_eq {P : Program} {w w' : World} {ops : Array Oper} {rest : List Oper} {o : Oper} {a : Act} {Q : Exit → Act → World → Prop} (hgd : o.guard = none) (s x : Operand) (t : TypeId)
    (ho : o.op = .call { callee := .builtin .copy, args := #[s, x], argTypes := #[t, t] }) {v xv v' : Value} (hs : a.eval s = v) (hx : a.eval x = xv)
    (hr : (Builtin.copy_ #[t, t] o.type #[v, xv]).run P w = .ok v' w') (h : wpList P ops Q rest (a.put o.dst v') w') : wpList P ops Q (o :: rest) a w := by
  refine wpList_plain hgd fun K hK => ?_
  unfold Oper.wp execOp
  simp only [ho, resolve, invoke, builtin, Sem.run_bind, Sem.run_pure, Result.andThen_ok, List.map_toArray, List.map_cons, List.map_nil, hs, hx, hr]
  exact hK _ _ h
theorem sz8 : (Try.prog.info? 5).map (·.size) = some 1 := by kernel_rfl
theorem mk8 (w : World) (n : Nat) (hn : n ≤ 100000) : ∃ w', (Instr.makeSlice 23 (.int .i64 (n : Int)) (.int .i64 (n : Int))).run Try.prog w = .ok (.slice (some ⟨w.heap.size, 0, none⟩) n n) w' ∧ Own8 w w' (.slice (some ⟨w.heap.size, 0, none⟩) n n) (List.replicate n 0) ∧ Bw w w' := by
  obtain ⟨i, hi, he⟩ := Option.map_eq_some_iff.1 info8
  simp only [Prod.mk.injEq] at he
  obtain ⟨hz, hs, hb⟩ := he
  obtain ⟨w', hr, ho, hg⟩ := run_makeSlice_full (P := Try.prog) (w := w) w.heap.size 23 5 i (.int .u8 0) 1 Try.underlying23 hi hz hs .i64 .i64 n (by omega) (by rw [hb]; omega) (by unfold maxLen; omega) (Nat.le_refl _)
  refine ⟨w', hr, ?_, Below.grown (Bw.refl w) hg (Nat.le_refl _) (fun k hk => by simp at hk)⟩
  rw [show (Value.int .u8 0).cells = #[.int .u8 0] from rfl, Nat.mul_one, toList_madeCells_one] at ho
  refine Own8.of ?_
  rw [List.length_replicate, show ints8 (List.replicate n 0) = List.replicate n (.int .u8 0) by simp [ints8]]
  exact ho
theorem ints8_one (l : List Int) : ∀ u ∈ ints8 l, u.oneCell' = true := fun u hu => by simp [ints8] at hu; obtain ⟨x, _, rfl⟩ := hu; rfl
theorem ints8_len (l : List Int) : (ints8 l).length = l.length := by simp [ints8]
theorem ints8_at {l : List Int} {j : Nat} {x : Int} (h : l[j]? = some x) : (ints8 l)[j]? = some (.int .u8 x) := by simp [ints8, h]
/-- copy onto the front of bytes of the call's own. -/
theorem cp8 {w0 w : World} {g cap : Nat} {l : List Int} (h : Own8 w0 w (.slice (some ⟨g, 0, none⟩) l.length cap) l) (a : Addr) (m c : Nat) (cs : List Int) (hm : cs.length = min m l.length) (hsrc : ∀ j x, cs[j]? = some x → w.cell? (a.add j) = some (.int .u8 x)) (ty : TypeId) :
    (Builtin.copy_ #[23, 23] ty #[.slice (some ⟨g, 0, none⟩) l.length cap, .slice (some a) m c]).run Try.prog w = .ok (goInt cs.length) (w.setCells g 0 (ints8 cs)) ∧
    Own8 w0 (w.setCells g 0 (ints8 cs)) (.slice (some ⟨g, 0, none⟩) l.length cap) (cs ++ l.drop cs.length) ∧ (w0.heap.size ≤ g → Bw w0 w → Bw w0 (w.setCells g 0 (ints8 cs))) := by
  rcases h with ⟨h, _⟩ | ⟨g', cap', h0, g1, g2, g3, g4, g5, g6⟩
  · simp at h
  · simp at h0
    obtain ⟨rfl, rfl⟩ := h0
    have hcl : cs.length ≤ l.length := by omega
    have hc : ∀ j, j < (ints8 cs).length → (w.cell? ⟨g, 0 + j, none⟩).isSome = true := fun j hj => by rw [ints8_len] at hj; rw [Nat.zero_add]; exact (g6 j (by omega)).1
    refine ⟨?_, Or.inr ⟨g, cap, ?_, g1, Nat.lt_of_lt_of_le g2 (below0_setCells g (ints8 cs) 0 w).size, ?_, g4, fun j x hx => ?_, fun j hj => ⟨isSome_setCells g _ _ w hc j (g6 j hj).1, by rw [World.frozen?_setCells]; exact (g6 j hj).2⟩⟩, fun hb hw => ?_⟩
    · have := run_copy_cells (P := Try.prog) w 23 23 ty 5 g 0 l.length cap a m c (ints8 cs) Try.underlying23 sz8 (by rw [ints8_len]; exact hm) (fun j v hv => by
        simp only [ints8, List.getElem?_map, Option.map_eq_some_iff] at hv
        obtain ⟨x, hx, rfl⟩ := hv
        exact hsrc j x hx) hc (fun j hj => by rw [ints8_len] at hj; rw [Nat.zero_add]; exact (g6 j (by omega)).2) (ints8_one cs)
      rw [ints8_len] at this
      exact this
    · rw [List.length_append, List.length_drop]; congr 1; omega
    · rw [List.length_append, List.length_drop]; omega
    · by_cases hj : j < cs.length
      · rw [List.getElem?_append_left hj] at hx
        have := World.cell?_setCells_in g (ints8 cs) 0 w hc j (by rw [ints8_len]; exact hj)
        rw [Nat.zero_add] at this
        rw [this]
        have h8 := ints8_at hx
        rw [List.getElem?_eq_getElem (by rw [ints8_len]; exact hj)] at h8
        exact h8
      · rw [List.getElem?_append_right (by omega), List.getElem?_drop, show cs.length + (j - cs.length) = j by omega] at hx
        rw [World.cell?_setCells_out g _ _ w _ (fun _ _ => Or.inr (by dsimp only; rw [ints8_len]; omega))]
        exact g5 j x hx
    · exact Below.trans hw ⟨(below0_setCells g _ 0 w).os, (below0_setCells g _ 0 w).tape, (below0_setCells g _ 0 w).output, (below0_setCells g _ 0 w).size, fun i hi => heap_setCells_ne g i (by omega) _ _ _⟩
end Go.Proofs.Ytncidjkkngbclaa
namespace Go.Proofs.Ytncidjkkngbclaa
open Go.ChangeShapes Go.WideShapes Go.ChangeAt Go.RowKit

/-- The next n bytes, then noughts; how many of them are told. -/
def Fee.cnt (rd : List Int) (b n : Nat) : Nat := min (rd.length - b) n
def Fee.bytes (rd : List Int) (b n : Nat) : List Int := (rd.drop b).take (Fee.cnt rd b n) ++ (List.replicate n 0).drop (Fee.cnt rd b n)
theorem Fee.bytes_len (rd : List Int) (b n : Nat) : (Fee.bytes rd b n).length = n := by
  unfold Fee.bytes Fee.cnt
  simp
  omega
theorem Own8.q {w0 w w' : World} {v : Value} {l : List Int} {pb : Nat} (h : Own8 w0 w v l) (hp : pb < w0.heap.size) (k : Bq pb w w') : Own8 w0 w' v l := by
  rcases h with h | ⟨g, cap, rfl, h1, h2, h3, h4, h5, h6⟩
  · exact Or.inl h
  · have hb := k.block g h2 (by omega)
    refine Or.inr ⟨g, cap, rfl, h1, Nat.lt_of_lt_of_le h2 k.b0.size, h3, h4, fun j x hx => ?_, fun j hj => ?_⟩
    · rw [cell_block (p := ⟨g, j, none⟩) hb]; exact h5 j x hx
    · rw [cell_block (p := ⟨g, j, none⟩) hb, frozen_block (p := ⟨g, j, none⟩) hb]; exact h6 j hj
set_option maxHeartbeats 2000000 in
theorem slice_from (q : Option Addr) (n cap b : Nat) (hb : b ≤ n) (hn : n ≤ cap) : ∃ q', (∀ w, (Instr.slice 23 (.slice q n cap) (some (.int .i64 (b : Int))) none none).run Try.prog w = .ok (.slice q' (n - b) (cap - b)) w) ∧ ∀ b' o, q = some ⟨b', o, none⟩ → b < n → q' = some ⟨b', o + b, none⟩ := by
  have hu := run_underlying (P := Try.prog) Try.underlying23
  obtain ⟨i, hi, he⟩ := Option.map_eq_some_iff.1 info8
  have hs8 : i.size = 1 := by simp only [Prod.mk.injEq] at he; exact he.2.1
  cases q with
  | none =>
    refine ⟨none, fun w => ?_, fun b' o h => by simp at h⟩
    simp [Instr.slice, go_sem, hu, sizeOf, typeInfo, hi]
    intro h; omega
  | some a0 =>
    by_cases hcap : cap = b
    · subst hcap
      refine ⟨some a0, fun w => ?_, fun b' o h h2 => by omega⟩
      simp [Instr.slice, go_sem, hu, sizeOf, typeInfo, hi, hs8]
      omega
    · refine ⟨some (a0.add b), fun w => ?_, fun b' o h _ => by simp at h; rw [h, Addr.add_lit]⟩
      simp [Instr.slice, go_sem, hu, sizeOf, typeInfo, hi, hs8, hcap]
      omega
/-- The copy that Bytes makes. -/
theorem bytes_copy {w w1 : World} {rd : List Int} {b n : Nat} (hO : Own8 w w1 (.slice (some ⟨w.heap.size, 0, none⟩) n n) (List.replicate n 0)) (hb : Bw w w1) {q : Option Addr} {cap : Nat} (hR : Rd8 w (.slice q rd.length cap) rd) (lb : b ≤ rd.length) {q' : Option Addr} (hq : ∀ b' o, q = some ⟨b', o, none⟩ → b < rd.length → q' = some ⟨b', o + b, none⟩) :
    ∃ w2, (Builtin.copy_ #[23, 23] 3 #[.slice (some ⟨w.heap.size, 0, none⟩) n n, .slice q' (rd.length - b) (cap - b)]).run Try.prog w1.drew = .ok (goInt (Fee.cnt rd b n)) w2 ∧ Own8 w w2 (.slice (some ⟨w.heap.size, 0, none⟩) n n) (Fee.bytes rd b n) ∧ Bw w w2 := by
  have hb2 : Bw w w1.drew := hb.drew
  unfold Fee.bytes
  by_cases hm : 0 < Fee.cnt rd b n
  · have hbl : b < rd.length ∧ 0 < n := by unfold Fee.cnt at hm; omega
    obtain ⟨q1, cap1, e1, hc1, hc2, hcell⟩ := hR.open
    simp at e1
    obtain ⟨rfl, rfl⟩ := e1
    obtain ⟨b', o, rfl, hb'lt, hcc⟩ := hcell (by omega)
    obtain rfl := hq _ _ rfl hbl.1
    have hlen : ((rd.drop b).take (Fee.cnt rd b n)).length = Fee.cnt rd b n := by rw [List.length_take, List.length_drop]; unfold Fee.cnt; omega
    obtain ⟨hcp, hO2, hB2⟩ := cp8 (l := List.replicate n 0) (by rw [List.length_replicate]; exact hO.bw (Bw.refl w1).drew) ⟨b', o + b, none⟩ (rd.length - b) (cap - b) ((rd.drop b).take (Fee.cnt rd b n)) (by rw [List.length_replicate, hlen]; rfl) (fun j x hx => by
      rw [Addr.add_lit, Nat.add_assoc]
      have hj : j < Fee.cnt rd b n := by have := (List.getElem?_eq_some_iff.1 hx).1; rw [hlen] at this; exact this
      rw [List.getElem?_take_of_lt hj, List.getElem?_drop] at hx
      exact hb2.keep (hcc _ _ hx)) 3
    rw [hlen] at hcp hO2
    rw [List.length_replicate] at hcp hO2
    exact ⟨_, hcp, hO2, hB2 (Nat.le_refl _) hb2⟩
  · have hm0 : Fee.cnt rd b n = 0 := by omega
    rw [hm0]
    exact ⟨_, run_copy_none (P := Try.prog) w1.drew 23 23 3 5 _ _ _ _ _ _ Try.underlying23 sz8 hm0, by simpa using hO.bw (Bw.refl w1).drew, hb2⟩
end Go.Proofs.Ytncidjkkngbclaa
namespace Go.Proofs.Ytncidjkkngbclaa
open Go.ChangeShapes Go.WideShapes Go.ChangeAt Go.RowKit

theorem Fee.take_range {sh : List Int} (h : ∀ x ∈ sh, 0 ≤ x) (a : Nat) {n : Int} (hn : 0 ≤ n) : 0 ≤ (Fee.take sh a n).1 ∧ (Fee.take sh a n).1 ≤ n := by
  unfold Fee.take
  rw [if_neg (by omega)]
  cases hm : sh[a]? with
  | none => dsimp only; omega
  | some m =>
    have := h m (List.mem_of_getElem? hm)
    dsimp only; omega
theorem FS.take {w0 w : World} {fb : Nat} {A : Nat → Prop} {s : Fil.St} (h : FS w0 w fb A s) (n : Int) : ∃ ub, w.cell? ⟨fb, 0, none⟩ = some (.pointer (some ⟨ub, 0, none⟩)) ∧ Calls Try.prog 30 #[.pointer (some ⟨ub, 0, none⟩), .int .i64 n] w fun e w' => e = .returned (.int .i64 (Fee.take s.sh s.a n).1) ∧ FS w0 w' fb A { s with a := (Fee.take s.sh s.a n).2 } ∧ Fz A w w' := by
  obtain ⟨ub, v1, v2, vs, us, h⟩ := h
  refine ⟨ub, h.box.c 0 _ rfl, (Take_c w ub s.sh s.rd s.ck s.a s.b s.c h.use h.ok.l1 n).mono ?_⟩
  rintro e w' ⟨rfl, hu, hq, hk⟩
  obtain ⟨r1, r2⟩ := h.onUb hq hu hk
  exact ⟨rfl, ⟨_, _, _, _, _, r1⟩, r2⟩
/-- A part is copied. -/
theorem copy_part {w X : World} {rd : List Int} {b n g : Nat} (hO : Own8 w X (.slice (some ⟨g, 0, none⟩) n n) (List.replicate n 0)) (hg : w.heap.size ≤ g) (hb : Bw w X) {q : Option Addr} {cap : Nat} (hR : Rd8 w (.slice q rd.length cap) rd) (lb : b ≤ rd.length) {q' : Option Addr} (hq : ∀ b' o, q = some ⟨b', o, none⟩ → b < rd.length → q' = some ⟨b', o + b, none⟩) (hn : n ≤ rd.length - b) :
    ∃ w2, (Builtin.copy_ #[23, 23] 3 #[.slice (some ⟨g, 0, none⟩) n n, .slice q' (rd.length - b) (cap - b)]).run Try.prog X = .ok (.int .i64 n) w2 ∧ Own8 w w2 (.slice (some ⟨g, 0, none⟩) n n) ((rd.drop b).take n) ∧ Bw w w2 := by
  have hmin : min (rd.length - b) n = n := by omega
  by_cases hm : 0 < n
  · obtain ⟨q1, cap1, e1, hc1, hc2, hcell⟩ := hR.open
    simp at e1
    obtain ⟨rfl, rfl⟩ := e1
    obtain ⟨b', o, rfl, hb'lt, hcc⟩ := hcell (by omega)
    obtain rfl := hq _ _ rfl (by omega)
    have hlen : ((rd.drop b).take n).length = n := by rw [List.length_take, List.length_drop]; omega
    obtain ⟨hcp, hO2, hB2⟩ := cp8 (l := List.replicate n 0) (by rw [List.length_replicate]; exact hO) ⟨b', o + b, none⟩ (rd.length - b) (cap - b) ((rd.drop b).take n) (by rw [List.length_replicate, hlen]; omega) (fun j x hx => by
      rw [Addr.add_lit, Nat.add_assoc]
      have hj : j < n := by have := (List.getElem?_eq_some_iff.1 hx).1; rw [hlen] at this; exact this
      rw [List.getElem?_take_of_lt hj, List.getElem?_drop] at hx
      exact hb.keep (hcc _ _ hx)) 3
    rw [hlen] at hcp hO2
    rw [List.length_replicate] at hcp hO2
    have e0 : (List.replicate n (0 : Int)).drop n = [] := List.drop_eq_nil_of_le (by simp)
    rw [e0, List.append_nil] at hO2
    exact ⟨_, hcp, hO2, hB2 hg hb⟩
  · obtain rfl : n = 0 := by omega
    have := run_copy_none (P := Try.prog) X 23 23 3 5 (some ⟨g, 0, none⟩) q' 0 0 (rd.length - b) (cap - b) Try.underlying23 sz8 (by omega)
    exact ⟨_, this, by simpa using hO, hb⟩
set_option maxHeartbeats 4000000 in
set_option maxRecDepth 100000 in
theorem fRead_c {w0 w : World} {fb : Nat} {A : Nat → Prop} {s : Fil.St} (h : FS w0 w fb A s) (fd n : Int) (hp : ∀ (i : Nat) x, s.op[i]? = some x → x.pos ≤ 4611686018427387904) :
    Calls Try.prog 13 #[.pointer (some ⟨fb, 0, none⟩), .int .i64 fd, .int .i64 n] w fun e w' => ∃ v, e = .returned (.tuple #[v, .int .i64 (Fil.read s fd n).2.1]) ∧ Own8 w w' v (Fil.read s fd n).1 ∧ FS w0 w' fb A (Fil.read s fd n).2.2 ∧ Fz A w w' := by
  have hK := fKind_c h fd
  have HFS : Hid _ := h
  by_cases h1 : (Fil.hd s fd).kind ≠ 1
  · rw [show Fil.read s fd n = ([], -9, s) by unfold Fil.read; rw [if_pos h1]]
    have h1b : (((Fil.hd s fd).kind == 1) = false) := by simpa using h1
    generalize (Fil.hd s fd).kind = kd at *
    clear h h1
    go_enter Try.func13, Try.ntmps13
    go_wp2_with (go_at_call 29; refine hK.mono ?_; rintro e w2 ⟨rfl, hb⟩)
    go_returns
    exact ⟨_, rfl, Own8.nil _ _, FS.bw HFS hb, Fz.of_bw hb⟩
  have h1' : (Fil.hd s fd).kind = 1 := Classical.not_not.1 h1
  obtain ⟨k, x, rfl, hk16, hx, hd⟩ := h.num (fd := fd) (by rw [h1']; decide)
  rw [hd] at h1'
  have hsrc : x.src < s.srcs.length := by
    rcases h.ok.kd k x hx with e | e | e
    · rw [e] at h1'; simp at h1'
    · exact e.2
    · rw [e.1] at h1'; simp at h1'
  have hS : Fil.read s k n = (Fil.got s x n, ((Fil.got s x n).length : Int), { s with op := s.op.set k { x with pos := x.pos + (Fil.got s x n).length }, a := (Fee.take s.sh s.a (min (max n 0) 4096)).2 }) := by
    unfold Fil.read; rw [hd, if_neg (by rw [h1']; decide), Int.toNat_natCast]
  rw [hS]
  clear hS
  generalize hN : (Fil.got s x n).length = N
  rw [hd, h1'] at hK
  have hpos := hp k x hx
  have hsl := h.ok.ls.2
  obtain ⟨tr1, tr2⟩ := Fee.take_range h.ok.sh s.a (n := min (max n 0) 4096) (by omega)
  have hgot : Fil.got s x n = ((Fil.data s x).drop x.pos).take (Fee.take s.sh s.a (min (max n 0) 4096)).1.toNat := rfl
  generalize hT : min (max n 0) 4096 = T at *
  obtain ⟨m, hm⟩ : ∃ m : Nat, (Fee.take s.sh s.a T).1 = m := ⟨(Fee.take s.sh s.a T).1.toNat, by omega⟩
  rw [hm, Int.toNat_natCast] at hgot
  have hTk := fun X (g : Bw w X) => (h.bw g).take T
  have hki : (k : Int) < 16 := by omega
  clear h hd hp h1
  go_enter Try.func13, Try.ntmps13
  go_wp2_with (go_at_call 29; refine hK.mono ?_; rintro e w2 ⟨rfl, hb⟩; obtain ⟨ub, c0, hTake⟩ := hTk _ hb; clear hTk)
  refine hTake.mono ?_
  rintro e w3 ⟨rfl, hF3, hz3⟩
  have hz := (Fz.of_bw hb).trans hz3
  obtain ⟨⟨c0', c1, c2⟩, f0, f1, f2⟩ := hF3.cells (k := k) (x := x) hx
  obtain ⟨b, o, cap, qs, cs, d0, d1, d2, d3, d4, d5, d6⟩ := hF3.data (x := x) hsrc
  have eD : Fil.data { s with a := (Fee.take s.sh s.a T).2 } x = Fil.data s x := rfl
  rw [eD] at d1 d2 d4 d5
  have eL : ({ s with a := (Fee.take s.sh s.a T).2 } : Fil.St).srcs = s.srcs := rfl
  rw [eL] at d0 d6
  rw [hm]
  have HF3 : Hid _ := hF3
  clear hTake hF3 c0 eD eL
  obtain ⟨lo, hlo⟩ : ∃ lo, min x.pos (Fil.data s x).length = lo := ⟨_, rfl⟩
  have hloi : min (x.pos : Int) ((Fil.data s x).length : Int) = (lo : Int) := by omega
  have hlol : lo ≤ (Fil.data s x).length := by omega
  obtain ⟨q', hsl2, hq'⟩ := slice_from qs (Fil.data s x).length cs lo hlol d2
  obtain ⟨m2, hm2⟩ : ∃ m2, min m ((Fil.data s x).length - lo) = m2 := ⟨_, rfl⟩
  have hm2l : m2 ≤ (Fil.data s x).length - lo := by omega
  have hb3 : Bw w3 w3.drew := (Bw.refl w3).drew
  obtain ⟨w4, hmk, hO4, hb4⟩ := mk8 w3.drew m2 (by omega)
  obtain ⟨w5, hcp, hO5, hb5⟩ := copy_part hO4 (Nat.le_refl _) hb4 (d4.bw hb3) hlol hq' hm2l
  have hsz : w3.drew.heap.size = w3.heap.size := rfl
  rw [hsz] at hcp hO5
  have hB35 : Bw w3 w5 := hb3.trans hb5
  have hF5 := (show FS w0 w3 fb A _ from HF3).bw hB35
  obtain ⟨⟨e0, e1, e2⟩, g0, g1, g2⟩ := hF5.cells (k := k) (x := x) hx
  have hgl : (Fil.data s x).drop lo = (Fil.data s x).drop x.pos := by
    by_cases hpl : x.pos ≤ (Fil.data s x).length
    · rw [show lo = x.pos by omega]
    · rw [List.drop_eq_nil_of_le (by omega), List.drop_eq_nil_of_le (by omega)]
  have hge : ((Fil.data s x).drop lo).take m2 = Fil.got s x n := by
    rw [hgot, ← hgl, ← hm2, ← List.length_drop, List.take_eq_take_iff, Nat.min_assoc, Nat.min_self]
  obtain rfl : N = m2 := by rw [← hN, ← hge, List.length_take, List.length_drop]; omega
  rw [hge] at hO5
  obtain ⟨k1, k2⟩ := hF5.set1 (k := k) (x := x) hx (x.pos + N)
  have hltf := (hF5.in_ _ (show FS w0 w3 fb A _ from HF3).af)
  have hlt3 := ((show FS w0 w3 fb A _ from HF3).in_ _ (show FS w0 w3 fb A _ from HF3).af).2
  have HFin : Hid (Own8 w (w5.setCell ⟨fb, 2 + k * 3 + 2, none⟩ (.int .i64 (x.pos + N : Nat))) (.slice (some ⟨w3.heap.size, 0, none⟩) N N) (Fil.got s x n) ∧ FS w0 (w5.setCell ⟨fb, 2 + k * 3 + 2, none⟩ (.int .i64 (x.pos + N : Nat))) fb A { s with op := s.op.set k { x with pos := x.pos + N }, a := (Fee.take s.sh s.a T).2 } ∧ Fz A w (w5.setCell ⟨fb, 2 + k * 3 + 2, none⟩ (.int .i64 (x.pos + N : Nat)))) :=
    ⟨(hO5.heap (fun j hj => Below.heap_setCell _ _ _ _ (by simp [Value.ownBlock] at hj; show j ≠ fb; omega))).le (Nat.le_trans hz.b0.size (Nat.le_refl _)), k1, (hz.bw hB35).trans k2⟩
  have hpm : x.pos + N ≤ 4611686018427392000 := by omega
  clear hge hgl hgot k1 k2 hF5 hO5 hO4 hq' hltf
  have hm2i : min (m : Int) (((Fil.data s x).length - lo : Nat) : Int) = (N : Int) := by omega
  go_wp2_with fail
  go_region
  go_wp2_with (first | (at_builtin; refine wpList_copy_eq rfl _ _ 23 rfl rfl rfl hcp ?_) | go_in)
  go_returns
  exact ⟨_, rfl, HFin⟩
end Go.Proofs.Ytncidjkkngbclaa
namespace Go.Proofs.Ytncidjkkngbclaa
open Go.ChangeShapes Go.WideShapes Go.ChangeAt Go.RowKit

theorem infoFF : (Try.prog.info? 63).map (fun i => (i.zero, i.size, i.bytes)) = some (some (.agg #[.string ⟨#[]⟩, .slice none 0 0]), 2, 40) := by kernel_rfl
theorem Fee.cells_one {l : List Fee.Fl} {us : List Value} (hu : ∀ u ∈ us, ∃ q n c, u = .slice q n c) : ∀ u ∈ Fee.cells l us, u.oneCell' = true := fun u hx => by
  unfold Fee.cells at hx
  obtain ⟨⟨f, v⟩, hm, hy⟩ := List.mem_flatMap.1 hx
  have hv := (List.of_mem_zip hm).2
  obtain ⟨q, n, c, rfl⟩ := hu v hv
  simp [Fee.flC] at hy
  rcases hy with rfl | rfl <;> rfl
theorem OwnR.box {e sz n : Nat} {cs : List Value} {a w : World} {g c : Nat} (h : OwnR e sz a w (.slice (some ⟨g, 0, none⟩) n c) n cs) : Box w g cs ∧ a.heap.size ≤ g := by
  obtain ⟨h1, h2⟩ := h
  rcases h2 with ⟨h2, _⟩ | ⟨b, cap, cur, h3, h4, h5, h6, h7, h8, h9⟩
  · simp at h2
  · simp at h3
    obtain ⟨rfl, rfl⟩ := h3
    refine ⟨⟨fun j v hv => ?_, fun j hj => ?_⟩, h4⟩
    · have hj : j < n * sz := by rw [← h1]; exact (List.getElem?_eq_some_iff.1 hv).1
      rw [← h9, List.getElem?_take_of_lt hj] at hv
      simp [World.cell?, h5] at hv ⊢
      exact hv
    · simp [World.frozen?, h5]
/-- The slice of files, made anew: its block is of the call's own. -/
theorem CloneF_c {v : Value} {n : Nat} {cs : List Value} {w : World} (hv : RdR 2 w v n cs) (h1 : ∀ u ∈ cs, u.oneCell' = true) (h0 : 1 ≤ n) (hn : n ≤ 2000) : Calls Try.prog 42 #[v] w fun e w' => ∃ g c, e = .returned (.slice (some ⟨g, 0, none⟩) n c) ∧ Box w' g cs ∧ w.heap.size ≤ g ∧ n ≤ c ∧ c ≤ 9223372036854775807 ∧ Bw w w' := by
  have hv2 := hv
  obtain ⟨q, cap, rfl, hc1, hc2, -⟩ := hv
  have he := eqSliceNil w 26 _ q n cap Try.underlying26
  cases q with
  | none =>
    exfalso
    obtain ⟨q, c, e, _, _, _, h5⟩ := hv2
    simp at e
    obtain ⟨rfl, _⟩ := e
    obtain ⟨b, o, h6, _⟩ := h5 h0
    simp at h6
  | some a =>
    have hown := OwnR.empty 63 2 (w0 := w) (Nat.le_refl w.heap.size)
    obtain ⟨v', w', hr, ho, hb⟩ := appS (ty := 26) infoFF Try.underlying26 rfl (by omega) (by omega) hown ((Bw.refl w).alloc _) (hv2.bw ((Bw.refl w).alloc _)) h1 (by omega)
    rw [Nat.zero_add, List.nil_append] at ho
    obtain ⟨g, c, rfl⟩ := ho.form (by omega)
    obtain ⟨_, _, e3, e4, e5, _⟩ := ho.rd
    simp at e3
    obtain ⟨rfl, rfl⟩ := e3
    have HFin : Hid _ := (⟨ho.box.1, ho.box.2, e4, e5, hb⟩ : Box w' g cs ∧ w.heap.size ≤ g ∧ n ≤ c ∧ c ≤ 9223372036854775807 ∧ Bw w w')
    clear ho hb hown hv2 h1
    go_enter Try.func42, Try.ntmps42
    go_wp2_with (first | (at_builtin; refine wpApp rfl _ _ 26 rfl rfl rfl hr ?_) | go_in)
    go_returns
    exact ⟨_, _, rfl, HFin⟩
theorem flat_set {α β : Type} (f : α → List β) (m : Nat) (hf : ∀ x, (f x).length = m) (j : Nat) (hj : j < m) (v : β) : ∀ (l : List α) (k : Nat) (x x' : α), l[k]? = some x → f x' = (f x).set j v → (l.flatMap f).set (k * m + j) v = (l.set k x').flatMap f := by
  intro l
  induction l with
  | nil => intro k h h' e; simp at e
  | cons x r ih =>
    intro k h h' e e2
    cases k with
    | zero =>
      simp at e; subst e
      rw [List.flatMap_cons, List.set_cons_zero, List.flatMap_cons, e2, Nat.zero_mul, Nat.zero_add, List.set_append_left _ _ (by rw [hf]; exact hj)]
    | succ k =>
      rw [List.flatMap_cons, List.set_cons_succ, List.flatMap_cons, List.set_append_right _ _ (by rw [hf, Nat.succ_mul]; omega), hf, show (k + 1) * m + j - m = k * m + j by rw [Nat.succ_mul]; omega, ih k h h' (by simpa using e) e2]
theorem zip_set {α β : Type} (u' : β) : ∀ (l : List α) (us : List β) (k : Nat) (f : α), l[k]? = some f → (l.zip us).set k (f, u') = l.zip (us.set k u') := by
  intro l
  induction l with
  | nil => intro us k f h; simp at h
  | cons x r ih =>
    intro us k f h
    cases us with
    | nil => simp
    | cons y ys =>
      cases k with
      | zero => simp at h; subst h; simp
      | succ k => simp only [List.zip_cons_cons, List.set_cons_succ]; rw [ih ys k f (by simpa using h)]
theorem Fee.cells_at {l : List Fee.Fl} {us : List Value} {k : Nat} {f : Fee.Fl} {u : Value} (hf : l[k]? = some f) (hu : us[k]? = some u) : (Fee.cells l us)[k * 2]? = some (.string f.name) ∧ (Fee.cells l us)[k * 2 + 1]? = some u := by
  have hz : (l.zip us)[k]? = some (f, u) := by rw [List.getElem?_zip_eq_some]; exact ⟨hf, hu⟩
  unfold Fee.cells
  refine ⟨?_, ?_⟩
  · have := chunk (fun p : Fee.Fl × Value => Fee.flC p.1 p.2) 2 (fun _ => rfl) (l.zip us) k (f, u) 0 hz (by omega)
    rw [Nat.add_zero] at this
    rw [this]; rfl
  · rw [chunk (fun p : Fee.Fl × Value => Fee.flC p.1 p.2) 2 (fun _ => rfl) (l.zip us) k (f, u) 1 hz (by omega)]; rfl
theorem Fee.cells_set {l : List Fee.Fl} {us : List Value} {k : Nat} {f : Fee.Fl} {u u' : Value} (hf : l[k]? = some f) (hu : us[k]? = some u) : (Fee.cells l us).set (k * 2 + 1) u' = Fee.cells l (us.set k u') := by
  have hz : (l.zip us)[k]? = some (f, u) := by rw [List.getElem?_zip_eq_some]; exact ⟨hf, hu⟩
  unfold Fee.cells
  rw [flat_set (fun p : Fee.Fl × Value => Fee.flC p.1 p.2) 2 (fun _ => rfl) 1 (by omega) u' (l.zip us) k (f, u) (f, u') hz rfl, zip_set u' l us k f hf]
theorem Fee.cells_len (l : List Fee.Fl) (us : List Value) (h : us.length = l.length) : (Fee.cells l us).length = l.length * 2 := by
  unfold Fee.cells
  rw [chunk_len (fun p : Fee.Fl × Value => Fee.flC p.1 p.2) 2 (fun _ => rfl), List.length_zip, h, Nat.min_self]
/-- Sources of the call's own. -/
def SrcO (w w' : World) (v : Value) (l : List Fee.Fl) : Prop :=
  ∃ us, us.length = l.length ∧ RdR 2 w' v l.length (Fee.cells l us) ∧ Far2 w.heap.size v ∧ ∀ (i : Nat) f u, l[i]? = some f → us[i]? = some u → Rd8 w' u f.data ∧ Far2 w.heap.size u
set_option maxHeartbeats 4000000 in
set_option maxRecDepth 100000 in
theorem cloneSrc_c {v : Value} {l : List Fee.Fl} {w : World} (hv : FlS w v l) (h1 : 1 ≤ l.length) (hl : l.length ≤ 1000) (hd : ∀ f ∈ l, f.data.length ≤ 4096) : Calls Try.prog 34 #[v] w fun e w' => ∃ v', e = .returned v' ∧ SrcO w w' v' l ∧ Bw w w' := by
  obtain ⟨us, hus, hR, hr8, h8⟩ := hv
  have hone : ∀ u ∈ us, ∃ q n c, u = .slice q n c := fun u hu => by
    obtain ⟨i, hi, rfl⟩ := List.getElem_of_mem hu
    obtain ⟨q, c, e, _⟩ := hr8 i l[i] us[i] (List.getElem?_eq_getElem (by omega)) (List.getElem?_eq_getElem hi)
    exact ⟨q, _, c, e⟩
  have hC := CloneF_c hR (Fee.cells_one hone) h1 (by omega)
  obtain ⟨q, cap, rfl, hc1, hc2⟩ := hR.form
  clear hR hone
  have hl2 : (l.length : Int) ≤ 1000 := by omega
  go_enter Try.func34, Try.ntmps34
  go_wp2_with fail
  refine hC.mono ?_
  rintro e w1 ⟨g, c, rfl, hbox, hg, hc, hcc, hb1⟩
  have hglt : g < w1.heap.size := by
    obtain ⟨f0, hf0⟩ : ∃ f, l[0]? = some f := ⟨_, List.getElem?_eq_getElem (by omega)⟩
    obtain ⟨u0, hu0⟩ : ∃ f, us[0]? = some f := ⟨_, List.getElem?_eq_getElem (by omega)⟩
    have := hbox.c 0 _ (Fee.cells_at hf0 hu0).1
    apply Decidable.byContradiction
    intro hn
    have h0 : w1.heap[g]? = none := by simp; omega
    simp [World.cell?, h0] at this
  clear hC hc1 hc2
  go_wp2_with fail
  go_loopg [9] l.length (fun gg j wr => ∃ k : Nat, ∃ us' : List Value, k + gg = l.length ∧ j = .int .i64 k ∧ Hid (Bq g w1 wr) ∧ Hid (us'.length = l.length) ∧ Box wr g (Fee.cells l us') ∧
    Hid (∀ (i : Nat), k ≤ i → us'[i]? = us[i]?) ∧ Hid (∀ (i : Nat) f u, i < k → l[i]? = some f → us'[i]? = some u → Rd8 wr u f.data ∧ Far2 (g + 1) u))
  case atStart => exact ⟨0, us, by omega, rfl, Bq.refl _ _, hus, hbox, fun _ _ => rfl, fun i _ _ h => by omega⟩
  case round =>
    obtain ⟨k, us', hkg, rfl, HQ, HL, hbx, HO, HN⟩ := hrel
    by_cases hk : k = l.length
    · subst hk
      have HFin : Hid (SrcO w wr (.slice (some ⟨g, 0, none⟩) l.length c) l ∧ Bw w wr) := by
        have hQ := (show Bq g w1 wr from HQ)
        have hL := (show us'.length = l.length from HL)
        refine ⟨⟨us', hL, ⟨_, c, rfl, hc, hcc, Fee.cells_len l us' hL, fun _ => ⟨g, 0, rfl, Nat.lt_of_lt_of_le hglt hQ.b0.size, fun j u hu => by rw [Nat.zero_add]; exact hbx.c j u hu⟩⟩, fun q n c e hn => by simp at e; obtain ⟨rfl, _⟩ := e; exact hg, fun i f u a b => ?_⟩, hQ.toBw hb1 hg⟩
        obtain ⟨x1, x2⟩ := (show ∀ (i : Nat) f u, i < l.length → l[i]? = some f → us'[i]? = some u → Rd8 wr u f.data ∧ Far2 (g + 1) u from HN) i f u (List.getElem?_eq_some_iff.1 a).1 a b
        exact ⟨x1, x2.le (by omega)⟩
      clear hbx
      go_wp2
      go_returns
      exact ⟨_, rfl, HFin⟩
    · have hkl : k < l.length := by omega
      have hki : (k : Int) < (l.length : Int) := by omega
      have hkc : (k : Int) ≤ (c : Int) := by omega
      obtain ⟨f, hs, -⟩ := dropAt hkl
      obtain ⟨u, hu⟩ : ∃ u, us[k]? = some u := ⟨_, List.getElem?_eq_getElem (by omega)⟩
      have hu' : us'[k]? = some u := ((show ∀ (i : Nat), k ≤ i → us'[i]? = us[i]? from HO) k (Nat.le_refl _)).trans hu
      have hL := (show us'.length = l.length from HL)
      have d1 := hbx.c _ _ (Fee.cells_at hs hu').2
      have d1f := hbx.f (k * 2 + 1) (by rw [Fee.cells_len l us' hL]; omega)
      have hbw := (show Bq g w1 wr from HQ).toBw hb1 hg
      have hRu := (hr8 k f u hs hu).bw hbw
      have hCl := fun X (g : Bw wr X) => CloneR_c (hRu.bw g) (by have := hd f (List.mem_of_getElem? hs); omega)
      have HBx : Hid _ := hbx
      clear hbx
      obtain ⟨qu, cu, rfl, -⟩ := hRu.open
      go_wp2_with fail
      refine (hCl _ (Bw.refl _)).mono ?_
      rintro e w2 ⟨u2, rfl, ho2, hb2⟩
      have hbx2 := (show Box wr g (Fee.cells l us') from HBx).blk (Below.block hb2 g (Nat.lt_of_lt_of_le hglt (show Bq g w1 wr from HQ).b0.size))
      have e1 := hbx2.c _ _ (Fee.cells_at hs hu').2
      have e1f := hbx2.f (k * 2 + 1) (by rw [Fee.cells_len l us' hL]; omega)
      have hbx3 := hbx2.set (k * 2 + 1) (by rw [Fee.cells_len l us' hL]; omega) u2
      rw [Fee.cells_set hs hu'] at hbx3
      have hq3 : Bq g wr (w2.setCell ⟨g, k * 2 + 1, none⟩ u2) := ((Bq.refl g wr).bw hb2).set _ _
      have hf2 : Far2 (g + 1) u2 := fun q n c e hn => by
        have := (ho2.blk q.block (by rw [e]; rfl)).1
        have h3 := (show Bq g w1 wr from HQ).b0.size
        omega
      have HN2 : Hid (∀ (i : Nat) f u, i < k + 1 → l[i]? = some f → (us'.set k u2)[i]? = some u → Rd8 (w2.setCell ⟨g, k * 2 + 1, none⟩ u2) u f.data ∧ Far2 (g + 1) u) := fun i f' u' hi a b => by
        by_cases e : i = k
        · subst e
          rw [List.getElem?_set_self (by omega)] at b
          obtain rfl := Option.some.inj b
          rw [hs] at a
          obtain rfl := Option.some.inj a
          exact ⟨RdR.q ho2.rd ((Bq.refl g w2).set _ _) (fun q n c e hn => by have := hf2 q n c e hn; omega), hf2⟩
        · rw [List.getElem?_set_ne (by omega)] at b
          obtain ⟨x1, x2⟩ := (show ∀ (i : Nat) f u, i < k → l[i]? = some f → us'[i]? = some u → Rd8 wr u f.data ∧ Far2 (g + 1) u from HN) i f' u' (by omega) a b
          exact ⟨RdR.q x1 hq3 (fun q n c e hn => by have := x2 q n c e hn; omega), x2⟩
      have HO2 : Hid (∀ (i : Nat), k + 1 ≤ i → (us'.set k u2)[i]? = us[i]?) := fun i hi => by
        rw [List.getElem?_set_ne (by omega)]
        exact (show ∀ (i : Nat), k ≤ i → us'[i]? = us[i]? from HO) i (by omega)
      have HQ2 : Hid (Bq g w1 (w2.setCell ⟨g, k * 2 + 1, none⟩ u2)) := (show Bq g w1 wr from HQ).trans hq3
      have HL2 : Hid ((us'.set k u2).length = l.length) := by show (us'.set k u2).length = l.length; rw [List.length_set]; exact hL
      obtain ⟨q2, c2, rfl⟩ := ho2.sl
      have HB3 : Hid _ := hbx3
      clear hbx2 hbx3 hq3 hf2 ho2 hs hu hu' hRu HBx hL hbw hCl
      go_wp2_with fail
      go_roundg (l.length - (k + 1))
      case measure => omega
      case rel => exact ⟨k + 1, _, by omega, by simp, HQ2, HL2, HB3, HO2, HN2⟩
end Go.Proofs.Ytncidjkkngbclaa
namespace Go.Proofs.Ytncidjkkngbclaa
open Go.ChangeShapes Go.WideShapes Go.ChangeAt Go.RowKit

theorem OwnR.lit {e sz n : Nat} (w : World) (cs : List Value) (h : cs.length = n * sz) (hn : n ≤ 1000) : OwnR e sz w (w.alloc (.cells cs.toArray e)) (.slice (some ⟨w.heap.size, 0, none⟩) n n) n cs :=
  ⟨h, Or.inr ⟨w.heap.size, n, cs.toArray, rfl, Nat.le_refl _, heap_alloc_new w _, Nat.le_refl _, by unfold maxLen; omega, by simp [h], by simp [← h]⟩⟩
theorem Fee.files_ok : ∀ (r l : List Fee.Fl) (k : Nat), Fee.filesFrom l k r = true → ∀ x ∈ r, Fee.fileOk x = true := by
  intro r
  induction r with
  | nil => intro l k _ x hx; simp at hx
  | cons f r ih =>
    intro l k h x hx
    unfold Fee.filesFrom at h
    simp only [Bool.and_eq_true] at h
    rcases List.mem_cons.1 hx with rfl | hx
    · exact h.1.1
    · exact ih l (k + 1) h.2 x hx
theorem Fee.good_data {f : Fee.Fd} (h : Fee.good f = true) : ∀ x ∈ f.files, x.data.length ≤ 4096 := fun x hx => by
  unfold Fee.good Fee.filesOk at h
  simp only [Bool.and_eq_true] at h
  have := Fee.files_ok _ _ _ h.2.2 x hx
  unfold Fee.fileOk at this
  simp only [Bool.and_eq_true, decide_eq_true_eq] at this
  exact this.2
theorem Fee.good_short {f : Fee.Fd} (h : Fee.good f = true) : ∀ x ∈ f.short, 0 ≤ x := fun x hx => by
  unfold Fee.good Fee.shortOk at h
  simp only [Bool.and_eq_true] at h
  have := List.all_eq_true.1 h.1.1.1.2.2 x hx
  unfold Fee.shOk at this
  simp only [Bool.and_eq_true, decide_eq_true_eq] at this
  exact this.1
set_option maxHeartbeats 4000000 in
set_option maxRecDepth 100000 in
theorem srcOf_c (v : Value) (f : Fee.Fd) (w : World) (hv : IsFd w v f) : Calls Try.prog 25 #[v] w fun e w' => ∃ v', e = .returned v' ∧ SrcO w w' v' (Fil.new f).srcs ∧ Bw w w' := by
  have hG := fun X (g : Bw w X) => Good_c v f X (hv.bw g)
  obtain ⟨va, vi, vs, vr, vc, vf, rfl, ha, hi, hs, hr, hc, hf, hwf⟩ := hv
  obtain ⟨qa, ca, rfl, -⟩ := RdR.form ha
  obtain ⟨qr, cr, rfl, -⟩ := Rd8.open hr
  obtain ⟨qc, cc, rfl, -⟩ := RdR.form hc
  obtain ⟨qs, cs, rfl, -⟩ := RdR.form hs
  have hi2 := hi
  have hf2 := hf
  obtain ⟨qi, ci, rfl, -⟩ := Rd8.open hi2
  obtain ⟨qf, cf, rfl, -⟩ := hf2.form
  have hBx := Box.new w [.slice qa f.args.length ca, .slice qi f.input.length ci, .slice qs f.short.length cs, .slice qr f.random.length cr, .slice qc f.clock.length cc, .slice qf f.files.length cf] 28
  have hbA : Bw w (w.alloc (.cells #[.slice qa f.args.length ca, .slice qi f.input.length ci, .slice qs f.short.length cs, .slice qr f.random.length cr, .slice qc f.clock.length cc, .slice qf f.files.length cf] 28)) := (Bw.refl w).alloc _
  cases hgd : Fee.good f with
  | false =>
    have hb : Fee.beg f = Fee.noFd := by unfold Fee.beg; rw [hgd]; rfl
    have hn : (Fil.new f).srcs = [⟨⟨#[]⟩, []⟩] := by unfold Fil.new; rw [hb]; rfl
    rw [hn]
    simp only [hgd] at hG
    clear ha hi hs hr hc hf hf2 hi2 hBx
    go_enter Try.func25, Try.ntmps25
    go_wp2_with (first | (go_at_call 36; refine (hG _ hbA).mono ?_; rintro e w2 ⟨rfl, h2⟩))
    go_returns
    have hb2 := hbA.trans h2
    have hR := RdR.new (sz := 2) (n := 1) w2 [.string ⟨#[]⟩, .slice none 0 0] 63 rfl (by omega)
    exact ⟨_, rfl, ⟨[.slice none 0 0], rfl, hR, fun q n c e hn => by simp at e; obtain ⟨rfl, _⟩ := e; exact hb2.size, fun i f u a b => by
      cases i with
      | zero => simp at a b; subst a; subst b; exact ⟨RdR.nil _ _, Far2.nil _⟩
      | succ i => simp at a⟩, hb2.alloc _⟩
  | true =>
    have hb : Fee.beg f = f := by unfold Fee.beg; rw [hgd]; rfl
    obtain ⟨-, -, -, -, l5, l6⟩ := Fee.good_len hgd
    have hgd2 := Fee.good_data hgd
    have hn : (Fil.new f).srcs = ⟨⟨#[]⟩, f.input⟩ :: f.files := by unfold Fil.new; rw [hb]
    rw [hn]
    simp only [hgd] at hG
    have HI : Hid _ := hi
    have HF : Hid _ := hf
    clear ha hi hs hr hc hf hf2 hi2 hb hn
    have hApp : ∀ X, Bw w X → ∃ v' w', (Builtin.append_ #[26, 26] 26 #[.slice (some ⟨X.heap.size, 0, none⟩) 1 1, .slice qf f.files.length cf]).run Try.prog (X.alloc (.cells #[.string ⟨#[]⟩, .slice qi f.input.length ci] 63)) = .ok v' w' ∧ FlS w' v' (⟨⟨#[]⟩, f.input⟩ :: f.files) ∧ Bw X w' := fun X g => by
      have hown := OwnR.lit (e := 63) (sz := 2) (n := 1) X [.string ⟨#[]⟩, .slice qi f.input.length ci] rfl (by omega)
      have gA : Bw X (X.alloc (.cells #[.string ⟨#[]⟩, .slice qi f.input.length ci] 63)) := (Bw.refl X).alloc _
      obtain ⟨us, hus, hR0, hr8, h8⟩ := (show FlS w _ f.files from HF)
      have hRR := RdR.bw hR0 (g.trans gA)
      have hone : ∀ u ∈ us, ∃ q n c, u = .slice q n c := fun u hu => by
        obtain ⟨i, hi, rfl⟩ := List.getElem_of_mem hu
        obtain ⟨q, c, e, _⟩ := hr8 i f.files[i] us[i] (List.getElem?_eq_getElem (by omega)) (List.getElem?_eq_getElem hi)
        exact ⟨q, _, c, e⟩
      obtain ⟨v', w', hr, ho, hb⟩ := appS (ty := 26) infoFF Try.underlying26 rfl (by omega) (by omega) hown gA hRR (Fee.cells_one hone) (by omega)
      have hgw : Bw w w' := g.trans hb
      refine ⟨v', w', hr, ⟨.slice qi f.input.length ci :: us, by simp [hus], ?_, fun i x u a b => ?_, fun x hx => ?_⟩, hb⟩
      · have := ho.rd
        rw [Nat.add_comm] at this
        exact this
      · cases i with
        | zero => simp at a b; subst a; subst b; exact (show Rd8 w _ f.input from HI).bw hgw
        | succ i =>
          simp at a b
          exact (hr8 i x u a b).bw hgw
      · rcases List.mem_cons.1 hx with rfl | hx
        · exact hwf.i8
        · exact h8 x hx
    go_enter Try.func25, Try.ntmps25
    go_wp2_with (first | (go_at_call 36; refine (hG _ hbA).mono ?_; rintro e w2 ⟨rfl, h2⟩; have z1 := (hBx.bw h2).c 1 _ rfl; have z5 := (hBx.bw h2).c 5 _ rfl; have z5a := fun o => ((Bw.refl w2).alloc o).keep z5; obtain ⟨v', w', hrA, hFl, hb3⟩ := hApp _ (hbA.trans h2)) | (at_builtin; refine wpApp rfl _ _ 26 rfl rfl rfl hrA ?_) | (go_at_call 34; refine (cloneSrc_c hFl (by simp) (by simp; omega) (fun x hx => by rcases List.mem_cons.1 hx with rfl | hx; exact l5; exact hgd2 x hx)).mono ?_; rintro e w4 ⟨v4, rfl, hSr, hb4⟩) | go_in)
    go_returns
    obtain ⟨us4, k1, k2, k3, k4⟩ := hSr
    have hsz : w.heap.size ≤ w'.heap.size := ((hbA.trans h2).trans hb3).size
    exact ⟨_, rfl, ⟨us4, k1, k2, k3.le hsz, fun i x u a b => ⟨(k4 i x u a b).1, (k4 i x u a b).2.le hsz⟩⟩, ((hbA.trans h2).trans hb3).trans hb4⟩
end Go.Proofs.Ytncidjkkngbclaa
