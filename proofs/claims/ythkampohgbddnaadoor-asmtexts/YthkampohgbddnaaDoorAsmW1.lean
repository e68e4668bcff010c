/- LAYER 6's walks: trimBlanks, cutWord. -/
import Derived.Test.YthkampohgbddnaaDoorAsmIdx
namespace Go.Proofs.YthkampohgbddnaaDoor
open Go.ChangeShapes Go.WideShapes Go.ChangeAt Go.RowKit

theorem Asm.trimS_eq (l : List UInt8) : Lib.trimLeftS l [32, 9] = Asm.trimB l := by
  unfold Lib.trimLeftS Asm.trimB
  congr 1
  funext b
  rw [Bool.eq_iff_iff]; simp [Asm.bl]
theorem trimBlanks_c (l : List UInt8) (w : World) :
    Calls Tryd.prog 55 #[.string (bs l)] w fun e w' => e = .returned (.string (bs (Asm.trimB l))) ∧ Bw w w' := by
  go_enter Tryd.func55, Tryd.ntmps55
  go_wp2_with (go_at_call 79; refine (Any.strings_TrimLeft_laid Tryd.lays161 (by kernel_rfl) (bs l) ⟨#[32, 9]⟩ w (by decide) (ascii_of_all (by decide))).mono ?_; rintro e w' ⟨rfl, hb⟩)
  go_ret
  refine ⟨?_, hb⟩
  rw [bs_data, ← Asm.trimS_eq]; rfl
theorem Asm.st_eq (b : UInt8) : ([32, 9, 44, 40, 41] : List UInt8).contains b = Asm.st b := by
  rw [Bool.eq_iff_iff]; simp [Asm.st, Asm.bl, Asm.mk, or_assoc]
theorem Asm.idx_cases : ∀ t : List UInt8,
    (Lib.indexAny t [32, 9, 44, 40, 41] = -1 ∧ t.takeWhile (fun b => !Asm.st b) = t ∧ t.dropWhile (fun b => !Asm.st b) = []) ∨
    ∃ k : Nat, Lib.indexAny t [32, 9, 44, 40, 41] = k ∧ k < t.length ∧ t.takeWhile (fun b => !Asm.st b) = t.take k ∧ t.dropWhile (fun b => !Asm.st b) = t.drop k
  | [] => Or.inl ⟨rfl, rfl, rfl⟩
  | b :: t => by
    rw [Lib.indexAny, Asm.st_eq, List.takeWhile_cons, List.dropWhile_cons]
    cases hb : Asm.st b
    · rcases Asm.idx_cases t with ⟨h1, h2, h3⟩ | ⟨k, h1, h2, h3, h4⟩
      · left; simp [h1, h2, h3]
      · right
        refine ⟨k + 1, ?_, by simp; omega, by simp [h3], by simp [h4]⟩
        rw [h1]
        have : ((k : Int) == -1) = false := by simp
        simp [this]
    · right; exact ⟨0, by simp, by simp, by simp, by simp⟩
theorem bs_take (l : List UInt8) (k : Nat) : (bs l).extract 0 k = bs (l.take k) := by
  apply ByteArray.ext
  simp [bs]
theorem bs_drop (l : List UInt8) (k : Nat) : (bs l).extract k l.length = bs (l.drop k) := by
  apply ByteArray.ext
  simp [bs, List.take_of_length_le]
theorem Asm.ret_ss {a b c d : ByteArray} (h : a = c) (h2 : b = d) : Ending.returned (.tuple #[.string a, .string b]) = .returned (.tuple #[.string c, .string d]) := by rw [h, h2]
theorem cutWord_c (l : List UInt8) (w : World) (hl : l.length < 4294967281) :
    Calls Tryd.prog 53 #[.string (bs l)] w fun e w' => e = .returned (.tuple #[.string (bs (Asm.word l)), .string (bs (Asm.rest l))]) ∧ Bw w w' := by
  have hlt : (Asm.trimB l).length ≤ l.length := by
    have := congrArg List.length (List.takeWhile_append_dropWhile (p := Asm.bl) (l := l))
    rw [List.length_append] at this
    show (l.dropWhile Asm.bl).length ≤ _; omega
  have hsz := bs_size (Asm.trimB l)
  have hT := trimBlanks_c l w
  unfold Asm.word Asm.rest
  rcases Asm.idx_cases (Asm.trimB l) with ⟨h1, h2, h3⟩ | ⟨k, h1, h2, h3, h4⟩
  · rw [h2, h3]
    generalize Asm.trimB l = t at *
    go_enter Tryd.func53, Tryd.ntmps53
    go_wp2_with (first
      | (go_at_call 55; refine hT.mono ?_; rintro e w' ⟨rfl, hb⟩)
      | (go_at_call 76; refine (IndexAny_c _ _ (by omega)).mono ?_; rintro e w2 ⟨rfl, hb2⟩; rw [h1]))
    go_region
    go_wp2
    go_returns
    exact ⟨Asm.ret_ss ((bs_take t _).trans (by rw [List.take_length])) rfl, (hb.trans hb2).drew⟩
  · rw [h3, h4]
    generalize Asm.trimB l = t at *
    go_enter Tryd.func53, Tryd.ntmps53
    go_wp2_with (first
      | (go_at_call 55; refine hT.mono ?_; rintro e w' ⟨rfl, hb⟩)
      | (go_at_call 76; refine (IndexAny_c _ _ (by omega)).mono ?_; rintro e w2 ⟨rfl, hb2⟩; rw [h1]))
    go_region
    go_wp2
    go_returns
    exact ⟨Asm.ret_ss (bs_take t k) (bs_drop t k), (hb.trans hb2).drew⟩
end Go.Proofs.YthkampohgbddnaaDoor
