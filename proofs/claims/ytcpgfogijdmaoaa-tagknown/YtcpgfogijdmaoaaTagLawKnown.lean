/- THE LAWS OF LAYER 2: TagKnown. -/
import Derived.Test.YtcpgfogijdmaoaaTagB
namespace Go.Proofs.Ytcpgfogijdmaoaa
open Go.ChangeShapes Go.WideShapes Go.ChangeAt Go.RowKit
set_option linter.unusedSimpArgs false

theorem known_b : Tag.flow 9 4278255360 305419896 ⟨0, 0, 0, 0⟩ ⟨1, 2, 4, 8⟩ = ⟨0, 2, 0, 8⟩ := by rfl
theorem known_c : Tag.flow 2 0 4 ⟨1, 2, 0, 0⟩ ⟨0, 0, 0, 0⟩ = ⟨1, 3, 2, 0⟩ := by rfl
theorem known_d : Tag.flow 7 0 12 ⟨1, 0, 0, 8⟩ ⟨0, 0, 0, 0⟩ = ⟨0, 8, 8, 8⟩ := by rfl
theorem known_e : Tag.flow 6 0 1 ⟨1, 2, 4, 8⟩ ⟨16, 0, 0, 0⟩ = ⟨31, 31, 31, 31⟩ := by rfl
theorem known_f : Tag.flow 3 0 0 ⟨0, 0, 0, 1⟩ ⟨2, 0, 0, 0⟩ = ⟨3, 0, 0, 0⟩ := by rfl
theorem known_n1 : Tag.narrow ⟨1, 2, 4, 8⟩ 1 true = ⟨1, 1, 1, 1⟩ := rfl
theorem known_n2 : Tag.narrow ⟨1, 2, 4, 8⟩ 2 false = ⟨1, 2, 0, 0⟩ := rfl
set_option maxRecDepth 100000 in
set_option maxHeartbeats 4000000 in
theorem TagKnown_w (w : World) :
    Calls Try.prog 3 #[] w fun e w' => e = .returned (.bool true) ∧ Gr w w' := by
  have eT := eqTag
  have ek : Alu.err 18 = 1 := rfl
  have o1 : Tag.o 1 0 = 1 := rfl
  have o2 : Tag.o 0 1 = 1 := rfl
  have o3 : Tag.o 2 1 = 3 := rfl
  have e_b := known_b
  have e_c := known_c
  have e_d := known_d
  have e_e := known_e
  have e_f := known_f
  have e_n1 := known_n1
  have e_n2 := known_n2
  go_enter Try.func3, Try.ntmps3
  go_wp2_with fail
  refine (awake2_c _).mono ?_
  rintro e w1 ⟨rfl, h1⟩
  have ch1 := h1.cell; have fh1 := h1.f; have zh1 := h1.size; have Ah1 := h1.cellA; have Fh1 := h1.frozenA; try simp only [World.size_alloc, World.size_drew] at ch1 zh1 Ah1 Fh1
  go_wp2_with fail
  refine (Flow_c _ _ _ _ _ _ _ _ _ _ _ ⟨by omega, by omega⟩ _).mono ?_
  rintro e w2 ⟨rfl, h2⟩
  go_wp2_with fail
  refine (Flow_c _ _ _ _ _ _ _ _ _ _ _ ⟨by omega, by omega⟩ _).mono ?_
  rintro e w3 ⟨rfl, h3⟩
  go_wp2_with fail
  refine (Flow_c _ _ _ _ _ _ _ _ _ _ _ ⟨by omega, by omega⟩ _).mono ?_
  rintro e w4 ⟨rfl, h4⟩
  go_wp2_with fail
  refine (Flow_c _ _ _ _ _ _ _ _ _ _ _ ⟨by omega, by omega⟩ _).mono ?_
  rintro e w5 ⟨rfl, h5⟩
  go_wp2_with fail
  refine (Flow_c _ _ _ _ _ _ _ _ _ _ _ ⟨by omega, by omega⟩ _).mono ?_
  rintro e w6 ⟨rfl, h6⟩
  go_wp2_with fail
  refine (Flow_c _ _ _ _ _ _ _ _ _ _ _ ⟨by omega, by omega⟩ _).mono ?_
  rintro e w7 ⟨rfl, h7⟩
  go_wp2_with fail
  have mb : Gr (w3.alloc (.cells #[.int .u8 0, .int .u8 2, .int .u8 0, .int .u8 8] 24)) (w7.alloc (.cells #[.int .u8 3, .int .u8 0, .int .u8 0, .int .u8 0] 24)) := by (repeat' (first | (with_reducible assumption) | (with_reducible exact Gr.refl _) | (with_reducible refine Gr.alloc ?_ _ _) | (with_reducible refine Gr.drew ?_) | (with_reducible refine Gr.drewN ?_ _) | (with_reducible refine Gr.setCell ?_ ?_ _) | (with_reducible refine Gr.trans ?_ (by assumption)) | omega | (dsimp only; omega) | (simp; done) | (simp; omega)))
  have mc : Gr (w4.alloc (.cells #[.int .u8 1, .int .u8 3, .int .u8 2, .int .u8 0] 24)) (w7.alloc (.cells #[.int .u8 3, .int .u8 0, .int .u8 0, .int .u8 0] 24)) := by (repeat' (first | (with_reducible assumption) | (with_reducible exact Gr.refl _) | (with_reducible refine Gr.alloc ?_ _ _) | (with_reducible refine Gr.drew ?_) | (with_reducible refine Gr.drewN ?_ _) | (with_reducible refine Gr.setCell ?_ ?_ _) | (with_reducible refine Gr.trans ?_ (by assumption)) | omega | (dsimp only; omega) | (simp; done) | (simp; omega)))
  have md : Gr (w5.alloc (.cells #[.int .u8 0, .int .u8 8, .int .u8 8, .int .u8 8] 24)) (w7.alloc (.cells #[.int .u8 3, .int .u8 0, .int .u8 0, .int .u8 0] 24)) := by (repeat' (first | (with_reducible assumption) | (with_reducible exact Gr.refl _) | (with_reducible refine Gr.alloc ?_ _ _) | (with_reducible refine Gr.drew ?_) | (with_reducible refine Gr.drewN ?_ _) | (with_reducible refine Gr.setCell ?_ ?_ _) | (with_reducible refine Gr.trans ?_ (by assumption)) | omega | (dsimp only; omega) | (simp; done) | (simp; omega)))
  have me : Gr (w6.alloc (.cells #[.int .u8 31, .int .u8 31, .int .u8 31, .int .u8 31] 24)) (w7.alloc (.cells #[.int .u8 3, .int .u8 0, .int .u8 0, .int .u8 0] 24)) := by (repeat' (first | (with_reducible assumption) | (with_reducible exact Gr.refl _) | (with_reducible refine Gr.alloc ?_ _ _) | (with_reducible refine Gr.drew ?_) | (with_reducible refine Gr.drewN ?_ _) | (with_reducible refine Gr.setCell ?_ ?_ _) | (with_reducible refine Gr.trans ?_ (by assumption)) | omega | (dsimp only; omega) | (simp; done) | (simp; omega)))
  have mf : Gr (w7.alloc (.cells #[.int .u8 3, .int .u8 0, .int .u8 0, .int .u8 0] 24)) (w7.alloc (.cells #[.int .u8 3, .int .u8 0, .int .u8 0, .int .u8 0] 24)) := by (repeat' (first | (with_reducible assumption) | (with_reducible exact Gr.refl _) | (with_reducible refine Gr.alloc ?_ _ _) | (with_reducible refine Gr.drew ?_) | (with_reducible refine Gr.drewN ?_ _) | (with_reducible refine Gr.setCell ?_ ?_ _) | (with_reducible refine Gr.trans ?_ (by assumption)) | omega | (dsimp only; omega) | (simp; done) | (simp; omega)))
  have mr : Gr w (w7.alloc (.cells #[.int .u8 3, .int .u8 0, .int .u8 0, .int .u8 0] 24)) := by (repeat' (first | (with_reducible assumption) | (with_reducible exact Gr.refl _) | (with_reducible refine Gr.alloc ?_ _ _) | (with_reducible refine Gr.drew ?_) | (with_reducible refine Gr.drewN ?_ _) | (with_reducible refine Gr.setCell ?_ ?_ _) | (with_reducible refine Gr.trans ?_ (by assumption)) | omega | (dsimp only; omega) | (simp; done) | (simp; omega)))
  clear h2 h3 h4 h5 h6 h7 h1 ch1 fh1 zh1 Ah1 Fh1
  go_region_held3 (fun wr => (wr.cell? ⟨w3.heap.size, 0, none⟩ = some (.int .u8 0) ∧ wr.cell? ⟨w3.heap.size, 1, none⟩ = some (.int .u8 2) ∧ wr.cell? ⟨w3.heap.size, 2, none⟩ = some (.int .u8 0) ∧ wr.cell? ⟨w3.heap.size, 3, none⟩ = some (.int .u8 8)) ∧ (wr.cell? ⟨w4.heap.size, 0, none⟩ = some (.int .u8 1) ∧ wr.cell? ⟨w4.heap.size, 1, none⟩ = some (.int .u8 3) ∧ wr.cell? ⟨w4.heap.size, 2, none⟩ = some (.int .u8 2) ∧ wr.cell? ⟨w4.heap.size, 3, none⟩ = some (.int .u8 0)) ∧ (wr.cell? ⟨w5.heap.size, 0, none⟩ = some (.int .u8 0) ∧ wr.cell? ⟨w5.heap.size, 1, none⟩ = some (.int .u8 8) ∧ wr.cell? ⟨w5.heap.size, 2, none⟩ = some (.int .u8 8) ∧ wr.cell? ⟨w5.heap.size, 3, none⟩ = some (.int .u8 8)) ∧ (wr.cell? ⟨w6.heap.size, 0, none⟩ = some (.int .u8 31) ∧ wr.cell? ⟨w6.heap.size, 1, none⟩ = some (.int .u8 31) ∧ wr.cell? ⟨w6.heap.size, 2, none⟩ = some (.int .u8 31) ∧ wr.cell? ⟨w6.heap.size, 3, none⟩ = some (.int .u8 31)) ∧ (wr.cell? ⟨w7.heap.size, 0, none⟩ = some (.int .u8 3) ∧ wr.cell? ⟨w7.heap.size, 1, none⟩ = some (.int .u8 0) ∧ wr.cell? ⟨w7.heap.size, 2, none⟩ = some (.int .u8 0) ∧ wr.cell? ⟨w7.heap.size, 3, none⟩ = some (.int .u8 0))) (first | exact ⟨box1 mb, box1 mc, box1 md, box1 me, box1 mf⟩ | exact ⟨box1 mb.drew, box1 mc.drew, box1 md.drew, box1 me.drew, box1 mf.drew⟩)
    (first
    | (go_at_call 14; refine (Fill_c _ _).mono ?_; rintro e w8 ⟨rfl, h8⟩; (first | (replace mb := mb.trans h8; replace mc := mc.trans h8; replace md := md.trans h8; replace me := me.trans h8; replace mf := mf.trans h8; replace mr := mr.trans h8) | (replace mb := mb.drew.trans h8; replace mc := mc.drew.trans h8; replace md := md.drew.trans h8; replace me := me.drew.trans h8; replace mf := mf.drew.trans h8; replace mr := mr.drew.trans h8)); clear h8)
    | (go_at_call 15; refine (Narrow_c _ _ _ _ _ _ _).mono ?_; rintro e w8 ⟨rfl, h8⟩; (first | (replace mb := mb.trans h8; replace mc := mc.trans h8; replace md := md.trans h8; replace me := me.trans h8; replace mf := mf.trans h8; replace mr := mr.trans h8) | (replace mb := mb.drew.trans h8; replace mc := mc.drew.trans h8; replace md := md.drew.trans h8; replace me := me.drew.trans h8; replace mf := mf.drew.trans h8; replace mr := mr.drew.trans h8)); clear h8)
    | (go_at_call 16; refine (Up_c _ _ _ _ _).mono ?_; rintro e w8 ⟨rfl, h8⟩; (first | (replace mb := mb.trans h8; replace mc := mc.trans h8; replace md := md.trans h8; replace me := me.trans h8; replace mf := mf.trans h8; replace mr := mr.trans h8) | (replace mb := mb.drew.trans h8; replace mc := mc.drew.trans h8; replace md := md.drew.trans h8; replace me := me.drew.trans h8; replace mf := mf.drew.trans h8; replace mr := mr.drew.trans h8)); clear h8))
  go_wp2
  go_ret
  exact ⟨rfl, mr⟩
end Go.Proofs.Ytcpgfogijdmaoaa
