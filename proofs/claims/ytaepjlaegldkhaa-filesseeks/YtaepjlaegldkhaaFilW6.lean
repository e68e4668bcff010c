/- LAYER 11's walks: Seek. -/
import Derived.Test.YtaepjlaegldkhaaFilW5
namespace Go.Proofs.Ytaepjlaegldkhaa
open Go.ChangeShapes Go.WideShapes Go.ChangeAt Go.RowKit

/-- A number that is open, and its source. -/
theorem FS.num {w0 w : World} {fb : Nat} {A : Nat → Prop} {s : Fil.St} (h : FS w0 w fb A s) {fd : Int} (h0 : (Fil.hd s fd).kind ≠ 0) : ∃ k : Nat, ∃ x, fd = k ∧ k < 16 ∧ s.op[k]? = some x ∧ Fil.hd s fd = x := by
  have hfd : 0 ≤ fd ∧ fd < 16 := by
    apply Decidable.byContradiction
    intro hn
    rw [Fil.hd_out hn] at h0
    exact h0 rfl
  obtain ⟨k, rfl⟩ : ∃ k : Nat, fd = k := ⟨fd.toNat, by omega⟩
  obtain ⟨x, hx, hd⟩ := Fil.hd_at (s := s) h.ok.ln (k := k) (by omega)
  exact ⟨k, x, rfl, by omega, hx, hd⟩
theorem FS.cells {w0 w : World} {fb : Nat} {A : Nat → Prop} {s : Fil.St} (h : FS w0 w fb A s) {k : Nat} {x : Fil.H} (hx : s.op[k]? = some x) : (w.cell? ⟨fb, 2 + k * 3, none⟩ = some (.int .i64 x.kind) ∧ w.cell? ⟨fb, 2 + k * 3 + 1, none⟩ = some (.int .i64 x.src) ∧ w.cell? ⟨fb, 2 + k * 3 + 2, none⟩ = some (.int .i64 x.pos)) ∧
    (w.frozen? ⟨fb, 2 + k * 3, none⟩ = false ∧ w.frozen? ⟨fb, 2 + k * 3 + 1, none⟩ = false ∧ w.frozen? ⟨fb, 2 + k * 3 + 2, none⟩ = false) := by
  obtain ⟨ub, v1, v2, vs, us, hf⟩ := h
  exact hf.at_ hx
theorem FS.set1 {w0 w : World} {fb : Nat} {A : Nat → Prop} {s : Fil.St} (h : FS w0 w fb A s) {k : Nat} {x : Fil.H} (hx : s.op[k]? = some x) (n : Nat) : FS w0 (w.setCell ⟨fb, 2 + k * 3 + 2, none⟩ (.int .i64 n)) fb A { s with op := s.op.set k { x with pos := n } } ∧ Fz A w (w.setCell ⟨fb, 2 + k * 3 + 2, none⟩ (.int .i64 n)) := by
  obtain ⟨ub, v1, v2, vs, us, hf⟩ := h
  obtain ⟨h1, h2⟩ := hf.set1 hx n
  exact ⟨⟨_, _, _, _, _, h1⟩, h2⟩
/-- What a number that is read has to read. -/
theorem FS.data {w0 w : World} {fb : Nat} {A : Nat → Prop} {s : Fil.St} (h : FS w0 w fb A s) {x : Fil.H} (hx : x.src < s.srcs.length) : ∃ b o cap qs cs, w.cell? ⟨fb, 1, none⟩ = some (.slice (some ⟨b, o, none⟩) s.srcs.length cap) ∧ w.cell? ⟨b, o + x.src * 2 + 1, none⟩ = some (.slice qs (Fil.data s x).length cs) ∧ (Fil.data s x).length ≤ cs ∧ cs ≤ 9223372036854775807 ∧ Rd8 w (.slice qs (Fil.data s x).length cs) (Fil.data s x) ∧ (Fil.data s x).length ≤ 4096 ∧ s.srcs.length ≤ cap := by
  obtain ⟨ub, v1, v2, vs, us, h⟩ := h
  have c1 := h.box.c 1 _ rfl
  have hld := h.ok.ld
  obtain ⟨q, cap, rfl, hc1, hc2, hcell⟩ := h.src.open
  obtain ⟨f, hf⟩ : ∃ f, s.srcs[x.src]? = some f := ⟨_, List.getElem?_eq_getElem hx⟩
  obtain ⟨b, o, qs, cs, rfl, hb, _, d1, d2, d3, d4⟩ := hcell _ f hf
  have e : Fil.data s x = f.data := by unfold Fil.data; rw [hf]
  rw [e]
  exact ⟨b, o, cap, qs, cs, c1, d1, d2, d3, d4, (hld f (List.mem_of_getElem? hf)).1, hc1⟩
set_option maxHeartbeats 4000000 in
set_option maxRecDepth 100000 in
theorem fSeek_c {w0 w : World} {fb : Nat} {A : Nat → Prop} {s : Fil.St} (h : FS w0 w fb A s) (fd off wh : Int) (ho1 : -2147483648 ≤ off) (ho2 : off ≤ 2147483647) (hp : ∀ (i : Nat) x, s.op[i]? = some x → x.pos ≤ 4611686018427387904) :
    Calls Try.prog 12 #[.pointer (some ⟨fb, 0, none⟩), .int .i64 fd, .int .i32 off, .int .i64 wh] w fun e w' => e = .returned (.int .i64 (Fil.seek s fd off wh).1) ∧ FS w0 w' fb A (Fil.seek s fd off wh).2 ∧ Fz A w w' := by
  have hK := fKind_c h fd
  have HFS : Hid _ := h
  by_cases h0 : (Fil.hd s fd).kind = 0
  · rw [show Fil.seek s fd off wh = (-9, s) by unfold Fil.seek; rw [if_pos h0]]
    rw [h0] at hK
    clear h h0 hp
    go_enter Try.func12, Try.ntmps12
    go_wp2_with (go_at_call 32; refine hK.mono ?_; rintro e w2 ⟨rfl, hb⟩)
    go_returns
    exact ⟨rfl, FS.bw HFS hb, Fz.of_bw hb⟩
  obtain ⟨k, x, rfl, hk16, hx, hd⟩ := h.num h0
  by_cases h2 : (Fil.hd s k).kind = 2
  · rw [show Fil.seek s k off wh = (-29, s) by unfold Fil.seek; rw [if_neg h0, if_pos h2]]
    rw [h2] at hK
    clear h h0 hp hx hd h2
    go_enter Try.func12, Try.ntmps12
    go_wp2_with (go_at_call 32; refine hK.mono ?_; rintro e w2 ⟨rfl, hb⟩)
    go_returns
    exact ⟨rfl, FS.bw HFS hb, Fz.of_bw hb⟩
  rw [hd] at h0 h2 hK
  obtain ⟨h1, hsrc⟩ : x.kind = 1 ∧ x.src < s.srcs.length := by
    rcases h.ok.kd k x hx with e | e | e
    · exact absurd e h0
    · exact e
    · exact absurd e.1 h2
  have hki : (k : Int) < 16 := by omega
  have hpos := hp k x hx
  have hsl := h.ok.ls.2
  rw [h1] at hK
  have hS : Fil.seek s k off wh = if wh ≠ 0 ∧ wh ≠ 1 ∧ wh ≠ 2 then (-22, s) else if Fil.place s x off wh < 0 then (-22, s) else (Fil.place s x off wh, { s with op := s.op.set k { x with pos := (Fil.place s x off wh).toNat } }) := by
    unfold Fil.seek; rw [hd, if_neg h0, if_neg h2, Int.toNat_natCast]
  have hfin : ∀ X n, Bw w X → FS w0 (X.setCell ⟨fb, 2 + k * 3 + 2, none⟩ (.int .i64 (n : Nat))) fb A { s with op := s.op.set k { x with pos := n } } ∧ Fz A w (X.setCell ⟨fb, 2 + k * 3 + 2, none⟩ (.int .i64 (n : Nat))) := fun X n g => by
    obtain ⟨a, b⟩ := (h.bw g).set1 hx n
    exact ⟨a, (Fz.of_bw g).trans b⟩
  have hC := fun X (g : Bw w X) => (h.bw g).cells hx
  have hD := fun X (g : Bw w X) => (h.bw g).data hsrc
  rw [h1] at hC
  by_cases hw : wh ≠ 0 ∧ wh ≠ 1 ∧ wh ≠ 2
  · rw [hS, if_pos hw]
    obtain ⟨w0', w1', w2'⟩ := hw
    have b0 : (wh == 0) = false := by simpa using w0'
    have b1 : (wh == 1) = false := by simpa using w1'
    have b2 : (wh == 2) = false := by simpa using w2'
    clear h h0 h2 hp hx hd hS hfin hC hD
    go_enter Try.func12, Try.ntmps12
    go_wp2_with (go_at_call 32; refine hK.mono ?_; rintro e w2 ⟨rfl, hb⟩)
    go_returns
    exact ⟨rfl, FS.bw HFS hb, Fz.of_bw hb⟩
  rw [if_neg hw] at hS
  have hw3 : wh = 0 ∨ wh = 1 ∨ wh = 2 := by omega
  clear hw h0 h2 hp hd h
  rcases hw3 with rfl | rfl | rfl
  · have hv : Fil.place s x off 0 = off := rfl
    rw [hv] at hS
    by_cases hneg : off < 0
    · rw [hS, if_pos hneg]
      clear hS hv hfin
      go_enter Try.func12, Try.ntmps12
      go_wp2_with (go_at_call 32; refine hK.mono ?_; rintro e w2 ⟨rfl, hb⟩; obtain ⟨⟨c0, c1, c2⟩, f0, f1, f2⟩ := hC _ hb; obtain ⟨b, o, cap, qs, cs, d0, d1, d2, d3, d4, d5, d6⟩ := hD _ hb; clear hC hD)
      go_returns
      exact ⟨rfl, FS.bw HFS hb, Fz.of_bw hb⟩
    · rw [hS, if_neg hneg]
      obtain ⟨n, hn⟩ : ∃ n : Nat, off = n := ⟨(off).toNat, by omega⟩
      have hfn := fun X g => hfin X n g
      rw [hn] at hneg ⊢
      rw [Int.toNat_natCast]
      have HFn : Hid _ := hfn
      clear hS hv hfin hfn
      go_enter Try.func12, Try.ntmps12
      go_wp2_with (go_at_call 32; refine hK.mono ?_; rintro e w2 ⟨rfl, hb⟩; obtain ⟨⟨c0, c1, c2⟩, f0, f1, f2⟩ := hC _ hb; obtain ⟨b, o, cap, qs, cs, d0, d1, d2, d3, d4, d5, d6⟩ := hD _ hb; clear hC hD)
      go_returns
      exact ⟨rfl, (show ∀ X, Bw w X → _ from HFn) _ hb⟩
  · have hv : Fil.place s x off 1 = off + x.pos := rfl
    rw [hv] at hS
    by_cases hneg : off + x.pos < 0
    · rw [hS, if_pos hneg]
      clear hS hv hfin
      go_enter Try.func12, Try.ntmps12
      go_wp2_with (go_at_call 32; refine hK.mono ?_; rintro e w2 ⟨rfl, hb⟩; obtain ⟨⟨c0, c1, c2⟩, f0, f1, f2⟩ := hC _ hb; obtain ⟨b, o, cap, qs, cs, d0, d1, d2, d3, d4, d5, d6⟩ := hD _ hb; clear hC hD)
      go_returns
      exact ⟨rfl, FS.bw HFS hb, Fz.of_bw hb⟩
    · rw [hS, if_neg hneg]
      obtain ⟨n, hn⟩ : ∃ n : Nat, off + x.pos = n := ⟨(off + x.pos).toNat, by omega⟩
      have hfn := fun X g => hfin X n g
      rw [hn] at hneg ⊢
      rw [Int.toNat_natCast]
      have HFn : Hid _ := hfn
      clear hS hv hfin hfn
      go_enter Try.func12, Try.ntmps12
      go_wp2_with (go_at_call 32; refine hK.mono ?_; rintro e w2 ⟨rfl, hb⟩; obtain ⟨⟨c0, c1, c2⟩, f0, f1, f2⟩ := hC _ hb; obtain ⟨b, o, cap, qs, cs, d0, d1, d2, d3, d4, d5, d6⟩ := hD _ hb; clear hC hD)
      go_returns
      exact ⟨rfl, (show ∀ X, Bw w X → _ from HFn) _ hb⟩
  · have hv : Fil.place s x off 2 = off + (Fil.data s x).length := rfl
    rw [hv] at hS
    by_cases hneg : off + (Fil.data s x).length < 0
    · rw [hS, if_pos hneg]
      clear hS hv hfin
      go_enter Try.func12, Try.ntmps12
      go_wp2_with (go_at_call 32; refine hK.mono ?_; rintro e w2 ⟨rfl, hb⟩; obtain ⟨⟨c0, c1, c2⟩, f0, f1, f2⟩ := hC _ hb; obtain ⟨b, o, cap, qs, cs, d0, d1, d2, d3, d4, d5, d6⟩ := hD _ hb; clear hC hD)
      go_region
      go_wp2
      go_returns
      exact ⟨rfl, FS.bw HFS hb.drew, Fz.of_bw hb.drew⟩
    · rw [hS, if_neg hneg]
      obtain ⟨n, hn⟩ : ∃ n : Nat, off + (Fil.data s x).length = n := ⟨(off + (Fil.data s x).length).toNat, by omega⟩
      have hfn := fun X g => hfin X n g
      rw [hn] at hneg ⊢
      rw [Int.toNat_natCast]
      have HFn : Hid _ := hfn
      clear hS hv hfin hfn
      go_enter Try.func12, Try.ntmps12
      go_wp2_with (go_at_call 32; refine hK.mono ?_; rintro e w2 ⟨rfl, hb⟩; obtain ⟨⟨c0, c1, c2⟩, f0, f1, f2⟩ := hC _ hb; obtain ⟨b, o, cap, qs, cs, d0, d1, d2, d3, d4, d5, d6⟩ := hD _ hb; clear hC hD)
      go_region
      go_wp2
      go_returns
      exact ⟨rfl, (show ∀ X, Bw w X → _ from HFn) w2.drew hb.drew⟩
end Go.Proofs.Ytaepjlaegldkhaa
