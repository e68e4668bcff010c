/- LAYER 6's walks: strings.IndexRune at a rune beyond ASCII, in the bytes that end words: none. -/
import Derived.Test.YthkampohgbddnaaDoorAsmB
import Derived.Laws.RangeAny
import Derived.WalkMore
namespace Go.Proofs.YthkampohgbddnaaDoor
open Go.ChangeShapes Go.WideShapes Go.ChangeAt Go.RowKit

theorem Asm.enc_hi {r : Int} (h : 128 ≤ r) : ∃ a c d b : UInt8, 128 ≤ b.toNat ∧ (Utf8.encode r = ⟨#[a, b]⟩ ∨ Utf8.encode r = ⟨#[a, c, b]⟩ ∨ Utf8.encode r = ⟨#[a, c, d, b]⟩) := by
  unfold Utf8.encode
  have hc : ∀ c : Nat, 128 ≤ (UInt8.ofNat (128 + c % 64)).toNat := fun c => by simp; omega
  have h128 : ¬ (if Utf8.valid r = true then r.toNat else Utf8.runeError) < 128 := by
    split
    · omega
    · simp [Utf8.runeError]
  generalize (if Utf8.valid r = true then r.toNat else Utf8.runeError) = c at *
  dsimp only
  rw [if_neg h128]
  split
  · exact ⟨_, 0, 0, _, hc _, Or.inl rfl⟩
  · split
    · exact ⟨_, _, 0, _, hc _, Or.inr (Or.inl rfl)⟩
    · exact ⟨_, _, _, _, hc _, Or.inr (Or.inr rfl)⟩
theorem Asm.noByte {l : List UInt8} {c : UInt8} (h : ∀ b ∈ l, b ≠ c) : Lib.indexByte l c = -1 := by
  induction l with
  | nil => rfl
  | cons b l ih =>
    have hb : (b == c) = false := by simpa using h b (by simp)
    rw [Lib.indexByte, hb, ih (fun x hx => h x (by simp [hx]))]; rfl
set_option maxHeartbeats 2000000 in
set_option maxRecDepth 100000 in
theorem IndexRune_hi (r : Int) (h : 128 ≤ r) (hr : r ≤ 2147483647) (w : World) :
    Calls Tryd.prog 92 #[.string ⟨#[32, 9, 44, 40, 41]⟩, .int .i32 r] w fun e w' => e = .returned (.int .i64 (-1)) ∧ Bw w w' := by
  have d0 : (0 : Int) ≤ r := by omega
  by_cases he : r = 65533
  · subst he
    go_enter Tryd.func92, Tryd.ntmps92
    go_wp2_with fail
    go_loopg [5, 6] 5 (fun g _ _ wx => ∃ i : Nat, i + g = 5 ∧ wx = w.iter ⟨#[32, 9, 44, 40, 41]⟩ i)
    case atStart => exact ⟨0, by omega, rfl⟩
    case round =>
      obtain ⟨i, hig, rfl⟩ := hrel
      cases gk with
      | zero =>
        obtain rfl : i = 5 := by omega
        have hnx := run_next_end (P := Tryd.prog) w ⟨#[32, 9, 44, 40, 41]⟩ 5
        go_wp2
        go_ret
        exact ⟨rfl, (Bw.refl w).alloc _⟩
      | succ g =>
        have hi : i < (⟨#[32, 9, 44, 40, 41]⟩ : ByteArray).size := by show i < 5; omega
        obtain ⟨x, hx⟩ : ∃ x : UInt8, (⟨#[32, 9, 44, 40, 41]⟩ : ByteArray)[i]'hi = x := ⟨_, rfl⟩
        have hx128 : x.toNat < 128 := by
          have h5 : i < 5 := hi
          rw [← hx]
          obtain rfl | rfl | rfl | rfl | rfl : i = 0 ∨ i = 1 ∨ i = 2 ∨ i = 3 ∨ i = 4 := by omega
          · show (32 : UInt8).toNat < 128; decide
          · show (9 : UInt8).toNat < 128; decide
          · show (44 : UInt8).toNat < 128; decide
          · show (40 : UInt8).toNat < 128; decide
          · show (41 : UInt8).toNat < 128; decide
        have hnx := fun ty => run_next_ascii (P := Tryd.prog) w ⟨#[32, 9, 44, 40, 41]⟩ i ty hi (by rw [hx]; exact hx128)
        rw [hx] at hnx
        have hxn : ((x.toNat : Int) == 65533) = false := by simp; omega
        clear hx
        go_wp2
        go_roundg g
        case measure => omega
        case rel => exact ⟨i + 1, by omega, rfl⟩
  · have hne : (r == 65533) = false := by simpa using he
    have hV := Any.utf8_ValidRune Tryd.lays119 r w
    cases hv : Lib.validRune r
    · rw [hv] at hV
      go_enter Tryd.func92, Tryd.ntmps92
      go_wp2_with (go_at_call 103; refine hV.mono ?_; rintro e w' ⟨rfl, rfl⟩)
      go_ret
      exact ⟨rfl, Bw.refl _⟩
    · rw [hv] at hV
      obtain ⟨a, c, d, b, hb, hs⟩ := Asm.enc_hi h
      have hbb : b.toNat < 256 := b.toNat_lt
      have hI := fun (l : List UInt8) (hl : ∀ x ∈ l, x.toNat < 128) => Asm.noByte (l := l) (c := b) (fun x hx e => by have := hl x hx; rw [e] at this; omega)
      have n9 : ((9 : Int) != b.toNat) = true := by simp; omega
      have n44 : ((44 : Int) != b.toNat) = true := by simp; omega
      have n40 : ((40 : Int) != b.toNat) = true := by simp; omega
      have k1 : ∀ h, ((⟨#[32, 9, 44, 40, 41]⟩ : ByteArray)[1]'h).toNat = 9 := fun _ => rfl
      have k2 : ∀ h, ((⟨#[32, 9, 44, 40, 41]⟩ : ByteArray)[2]'h).toNat = 44 := fun _ => rfl
      have k3 : ∀ h, ((⟨#[32, 9, 44, 40, 41]⟩ : ByteArray)[3]'h).toNat = 40 := fun _ => rfl
      have b1 : ∀ h, (⟨#[a, b]⟩ : ByteArray)[1]'h = b := fun _ => rfl
      have b2 : ∀ h, (⟨#[a, c, b]⟩ : ByteArray)[2]'h = b := fun _ => rfl
      have b3 : ∀ h, (⟨#[a, c, d, b]⟩ : ByteArray)[3]'h = b := fun _ => rfl
      have hB := fun (s : ByteArray) (hs : Lib.indexByte s.data.toList b = -1) (w : World) => show Calls Tryd.prog 102 #[.string s, .int .u8 (b.toNat : Int)] w (fun e w' => e = .returned (.int .i64 (-1)) ∧ w' = w) from by
        have := Any.strings_IndexByte Tryd.lays137 s (b.toNat : Int) w
        rw [show ((b.toNat : Int)).toNat.toUInt8 = b by simp, hs] at this
        exact this
      rcases hs with hs | hs | hs
      all_goals
        go_enter Tryd.func92, Tryd.ntmps92
        go_wp2_with (go_at_call 103; refine hV.mono ?_; rintro e w' ⟨rfl, rfl⟩)
        go_step3
        go_wp2_with fail
        refine wp_loop_rounds 2 ?_
        rw [rounds_succ]
        go_wp2_with fail
        go_step3
        go_wp2_with fail
        go_region
        go_wp2_with fail
        go_region_with (go_at_call 102; refine (hB _ (hI _ (by decide)) _).mono ?_; rintro e w2 ⟨rfl, rfl⟩)
        go_wp2_with fail
        all_goals
          rw [Exit.noGoto_ret]
          simp only [Exit.inBlock, Exit.then]
          rw [Exit.noGoto_ret]
          simp only [Exit.inBlock]
          go_ret
          exact ⟨rfl, (Bw.refl _).drew.drew⟩
end Go.Proofs.YthkampohgbddnaaDoor
