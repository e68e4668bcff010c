/- LAYER 5's walks: Decode. -/
import Derived.Test.YthkampohgbddnaaDoorRvW2
namespace Go.Proofs.YthkampohgbddnaaDoor
open Go.ChangeShapes Go.WideShapes Go.ChangeAt Go.RowKit

/-- An instruction as Go holds it. -/
def Rv.iv (i : Rv.Ins) : Value := .agg #[.int .i64 i.op, .int .i64 i.rd, .int .i64 i.rs1, .int .i64 i.rs2, .int .i32 i.imm]
theorem Rv.ret_iv {a b c d e : Int} {i : Rv.Ins} (h : i = ⟨a, b, c, d, e⟩) : Ending.returned (.agg #[.int .i64 a, .int .i64 b, .int .i64 c, .int .i64 d, .int .i32 e]) = .returned (Rv.iv i) := by rw [h]; rfl

set_option maxHeartbeats 1600000 in
theorem Decode_c (v : Int) (h0 : 0 ≤ v) (h1 : v < 4294967296) (w : World) (ht : Tabs w) :
    Calls Tryd.prog 36 #[.int .u32 v] w fun e w' => e = .returned (Rv.iv (Rv.dec v)) ∧ Gr w w' := by
  have hd : 0 ≤ Rv.fb v 7 5 ∧ Rv.fb v 7 5 < 32 := by rw [Rv.fb_7_5]; omega
  have hs : 0 ≤ Rv.fb v 15 5 ∧ Rv.fb v 15 5 < 32 := by rw [Rv.fb_15_5]; omega
  have h5 : 0 ≤ Rv.fb v 20 5 ∧ Rv.fb v 20 5 < 32 := by rw [Rv.fb_20_5]; omega
  obtain ⟨hd0, hd1⟩ := hd; obtain ⟨hs0, hs1⟩ := hs; obtain ⟨ht0, ht1⟩ := h5
  have ed : Rv.fb v 7 5 = Rv.fd v := by rw [Rv.fb_7_5]; rfl
  have es : Rv.fb v 15 5 = Rv.fs v := by rw [Rv.fb_15_5]; rfl
  have et : Rv.fb v 20 5 = Rv.ft v := by rw [Rv.fb_20_5]; rfl
  rcases Rv.lay_cases (Rv.opI v) with ⟨l, c⟩ | ⟨l, c⟩ | ⟨l, c⟩ | ⟨l, c⟩ | ⟨l, c⟩ | ⟨l, c⟩ | ⟨l, c⟩ | ⟨l, c⟩
  · clear c
    go_enter Tryd.func36, Tryd.ntmps36
    go_wp2_with (first | (go_at_call 60; refine (opOf_c v h0 h1 _ (ht.gr (Gr.alloc (Gr.refl _) _ _))).mono ?_; rintro e w' ⟨rfl, rfl⟩) | (go_at_call 58; refine (bits_c v _ _ h0 h1 (by decide) _).mono ?_; rintro e w' ⟨rfl, rfl⟩) | (go_at_call 59; refine (layout_c _ _).mono ?_; rintro e w' ⟨rfl, rfl⟩; rw [l]))
    go_returns
    refine ⟨Rv.ret_iv ?_, by (repeat' (first | (with_reducible assumption) | (with_reducible exact Gr.refl _) | (with_reducible refine Gr.alloc ?_ _ _) | (with_reducible refine Gr.drew ?_) | (with_reducible refine Gr.drewN ?_ _) | (with_reducible refine Gr.setCell ?_ ?_ _) | (with_reducible refine Gr.trans ?_ (by assumption)) | omega | (dsimp only; omega) | (simp; done) | (simp; omega)))⟩
    rw [Rv.dec_1 l]; refine Rv.Ins.ext_iff.2 ⟨rfl, rfl, rfl, rfl, ?_⟩; dsimp only; rw [Rv.fb_12_20]; unfold Rv.immU wrap32; omega
  · clear c
    go_enter Tryd.func36, Tryd.ntmps36
    go_wp2_with (first | (go_at_call 60; refine (opOf_c v h0 h1 _ (ht.gr (Gr.alloc (Gr.refl _) _ _))).mono ?_; rintro e w' ⟨rfl, rfl⟩) | (go_at_call 58; refine (bits_c v _ _ h0 h1 (by decide) _).mono ?_; rintro e w' ⟨rfl, rfl⟩) | (go_at_call 59; refine (layout_c _ _).mono ?_; rintro e w' ⟨rfl, rfl⟩; rw [l]) | (go_at_call 61; refine (jumpImm_c v h0 h1 _).mono ?_; rintro e w' ⟨rfl, rfl⟩))
    go_returns
    refine ⟨Rv.ret_iv ?_, by (repeat' (first | (with_reducible assumption) | (with_reducible exact Gr.refl _) | (with_reducible refine Gr.alloc ?_ _ _) | (with_reducible refine Gr.drew ?_) | (with_reducible refine Gr.drewN ?_ _) | (with_reducible refine Gr.setCell ?_ ?_ _) | (with_reducible refine Gr.trans ?_ (by assumption)) | omega | (dsimp only; omega) | (simp; done) | (simp; omega)))⟩
    rw [Rv.dec_2 l]
  · clear c
    go_enter Tryd.func36, Tryd.ntmps36
    go_wp2_with (first | (go_at_call 60; refine (opOf_c v h0 h1 _ (ht.gr (Gr.alloc (Gr.refl _) _ _))).mono ?_; rintro e w' ⟨rfl, rfl⟩) | (go_at_call 58; refine (bits_c v _ _ h0 h1 (by decide) _).mono ?_; rintro e w' ⟨rfl, rfl⟩) | (go_at_call 59; refine (layout_c _ _).mono ?_; rintro e w' ⟨rfl, rfl⟩; rw [l]) | (go_at_call 62; refine (branchImm_c v h0 h1 _).mono ?_; rintro e w' ⟨rfl, rfl⟩))
    go_returns
    refine ⟨Rv.ret_iv ?_, by (repeat' (first | (with_reducible assumption) | (with_reducible exact Gr.refl _) | (with_reducible refine Gr.alloc ?_ _ _) | (with_reducible refine Gr.drew ?_) | (with_reducible refine Gr.drewN ?_ _) | (with_reducible refine Gr.setCell ?_ ?_ _) | (with_reducible refine Gr.trans ?_ (by assumption)) | omega | (dsimp only; omega) | (simp; done) | (simp; omega)))⟩
    rw [Rv.dec_3 l]
  · clear c
    go_enter Tryd.func36, Tryd.ntmps36
    go_wp2_with (first | (go_at_call 60; refine (opOf_c v h0 h1 _ (ht.gr (Gr.alloc (Gr.refl _) _ _))).mono ?_; rintro e w' ⟨rfl, rfl⟩) | (go_at_call 58; refine (bits_c v _ _ h0 h1 (by decide) _).mono ?_; rintro e w' ⟨rfl, rfl⟩) | (go_at_call 59; refine (layout_c _ _).mono ?_; rintro e w' ⟨rfl, rfl⟩; rw [l]) | (go_at_call 63; refine (storeImm_c v h0 h1 _).mono ?_; rintro e w' ⟨rfl, rfl⟩))
    go_returns
    refine ⟨Rv.ret_iv ?_, by (repeat' (first | (with_reducible assumption) | (with_reducible exact Gr.refl _) | (with_reducible refine Gr.alloc ?_ _ _) | (with_reducible refine Gr.drew ?_) | (with_reducible refine Gr.drewN ?_ _) | (with_reducible refine Gr.setCell ?_ ?_ _) | (with_reducible refine Gr.trans ?_ (by assumption)) | omega | (dsimp only; omega) | (simp; done) | (simp; omega)))⟩
    rw [Rv.dec_4 l]
  · clear c
    go_enter Tryd.func36, Tryd.ntmps36
    go_wp2_with (first | (go_at_call 60; refine (opOf_c v h0 h1 _ (ht.gr (Gr.alloc (Gr.refl _) _ _))).mono ?_; rintro e w' ⟨rfl, rfl⟩) | (go_at_call 58; refine (bits_c v _ _ h0 h1 (by decide) _).mono ?_; rintro e w' ⟨rfl, rfl⟩) | (go_at_call 59; refine (layout_c _ _).mono ?_; rintro e w' ⟨rfl, rfl⟩; rw [l]))
    go_returns
    refine ⟨Rv.ret_iv ?_, by (repeat' (first | (with_reducible assumption) | (with_reducible exact Gr.refl _) | (with_reducible refine Gr.alloc ?_ _ _) | (with_reducible refine Gr.drew ?_) | (with_reducible refine Gr.drewN ?_ _) | (with_reducible refine Gr.setCell ?_ ?_ _) | (with_reducible refine Gr.trans ?_ (by assumption)) | omega | (dsimp only; omega) | (simp; done) | (simp; omega)))⟩
    rw [Rv.dec_5 l]; refine Rv.Ins.ext_iff.2 ⟨rfl, rfl, rfl, rfl, ?_⟩; dsimp only; unfold Rv.immI wrap32; omega
  · clear c
    go_enter Tryd.func36, Tryd.ntmps36
    go_wp2_with (first | (go_at_call 60; refine (opOf_c v h0 h1 _ (ht.gr (Gr.alloc (Gr.refl _) _ _))).mono ?_; rintro e w' ⟨rfl, rfl⟩) | (go_at_call 58; refine (bits_c v _ _ h0 h1 (by decide) _).mono ?_; rintro e w' ⟨rfl, rfl⟩) | (go_at_call 59; refine (layout_c _ _).mono ?_; rintro e w' ⟨rfl, rfl⟩; rw [l]))
    go_returns
    refine ⟨Rv.ret_iv ?_, by (repeat' (first | (with_reducible assumption) | (with_reducible exact Gr.refl _) | (with_reducible refine Gr.alloc ?_ _ _) | (with_reducible refine Gr.drew ?_) | (with_reducible refine Gr.drewN ?_ _) | (with_reducible refine Gr.setCell ?_ ?_ _) | (with_reducible refine Gr.trans ?_ (by assumption)) | omega | (dsimp only; omega) | (simp; done) | (simp; omega)))⟩
    rw [Rv.dec_6 l]
  · clear c
    go_enter Tryd.func36, Tryd.ntmps36
    go_wp2_with (first | (go_at_call 60; refine (opOf_c v h0 h1 _ (ht.gr (Gr.alloc (Gr.refl _) _ _))).mono ?_; rintro e w' ⟨rfl, rfl⟩) | (go_at_call 58; refine (bits_c v _ _ h0 h1 (by decide) _).mono ?_; rintro e w' ⟨rfl, rfl⟩) | (go_at_call 59; refine (layout_c _ _).mono ?_; rintro e w' ⟨rfl, rfl⟩; rw [l]))
    go_returns
    refine ⟨Rv.ret_iv ?_, by (repeat' (first | (with_reducible assumption) | (with_reducible exact Gr.refl _) | (with_reducible refine Gr.alloc ?_ _ _) | (with_reducible refine Gr.drew ?_) | (with_reducible refine Gr.drewN ?_ _) | (with_reducible refine Gr.setCell ?_ ?_ _) | (with_reducible refine Gr.trans ?_ (by assumption)) | omega | (dsimp only; omega) | (simp; done) | (simp; omega)))⟩
    rw [Rv.dec_7 l]
  · clear c
    go_enter Tryd.func36, Tryd.ntmps36
    go_wp2_with (first | (go_at_call 60; refine (opOf_c v h0 h1 _ (ht.gr (Gr.alloc (Gr.refl _) _ _))).mono ?_; rintro e w' ⟨rfl, rfl⟩) | (go_at_call 58; refine (bits_c v _ _ h0 h1 (by decide) _).mono ?_; rintro e w' ⟨rfl, rfl⟩) | (go_at_call 59; refine (layout_c _ _).mono ?_; rintro e w' ⟨rfl, rfl⟩; rw [l]))
    go_returns
    refine ⟨Rv.ret_iv ?_, by (repeat' (first | (with_reducible assumption) | (with_reducible exact Gr.refl _) | (with_reducible refine Gr.alloc ?_ _ _) | (with_reducible refine Gr.drew ?_) | (with_reducible refine Gr.drewN ?_ _) | (with_reducible refine Gr.setCell ?_ ?_ _) | (with_reducible refine Gr.trans ?_ (by assumption)) | omega | (dsimp only; omega) | (simp; done) | (simp; omega)))⟩
    rw [Rv.dec_0 l]
end Go.Proofs.YthkampohgbddnaaDoor
