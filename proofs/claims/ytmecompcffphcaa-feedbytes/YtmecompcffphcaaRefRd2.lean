/- The reference of chapters 7 to 11: Reader.Num. -/
import Derived.Test.YtmecompcffphcaaImg
import Derived.Test.YtmecompcffphcaaBoxQ
namespace Go.Proofs.Ytmecompcffphcaa
open Go.ChangeShapes Go.WideShapes Go.ChangeAt Go.RowKit
set_option linter.unusedSimpArgs false

/-- A number of m bytes, the lowest first. -/
def Img.num (L : List Int) : Nat → Nat → Int
  | _, 0 => 0
  | o, m + 1 => Img.g L o + 256 * Img.num L (o + 1) m
theorem Img.num_bd {L : List Int} (h : B8s L) : ∀ (m o : Nat), 0 ≤ Img.num L o m ∧ Img.num L o m < 256 ^ m
  | 0, o => by simp [Img.num]
  | m + 1, o => by
    have h1 := Img.num_bd h m (o + 1)
    have h2 := Img.b8_g h o
    obtain ⟨a, b⟩ := h2
    rw [Img.num, Int.pow_succ]
    omega
theorem Img.num1 (L : List Int) (o : Nat) : Img.num L o 1 = Img.g L o := by simp [Img.num]
theorem Img.num2 (L : List Int) (o : Nat) : Img.num L o 2 = Img.half L o := by simp [Img.num, Img.half]; omega
theorem Img.num4 (L : List Int) (o : Nat) : Img.num L o 4 = Img.word L o := by simp [Img.num, Img.word, Img.half, Nat.add_assoc]; omega
theorem u32_or8' {x y : Int} (hy₀ : 0 ≤ y) (hy : y < 256) (hx₀ : 0 ≤ x) (hx : x % 256 = 0) (hx₁ : x < 4294967296) : bits .or .u32 x y = y + x := by
  rw [u32_or x y hx₀ hx₁ hy₀ (by omega), Nat.or_comm, ← u32_or y x hy₀ (by omega) hx₀ hx₁]
  exact u32_or8 (y := y) (x := x) hy₀ hy hx₀ hx hx₁
set_option maxHeartbeats 2000000 in
set_option maxRecDepth 100000 in
theorem rNum_bad {vb : Value} (at' : Int) (rb n : Nat) (w : World) (hx : Box w rb [vb, .int .i64 at', .bool true]) : Calls Try.prog 19 #[.pointer (some ⟨rb, 0, none⟩), .int .i64 n] w fun e w' => e = .returned (.int .u32 0) ∧ Box w' rb [vb, .int .i64 at', .bool true] ∧ Bq rb w w' := by
  have x0 := hx.c 0 _ rfl; have x1 := hx.c 1 _ rfl; have x2 := hx.c 2 _ rfl
  have f2 := hx.f 2 (by simp)
  go_enter Try.func19, Try.ntmps19
  go_wp2_with fail
  go_region
  go_wp2_with fail
  go_returns
  exact ⟨rfl, (hx.bw ((Bw.refl w).drew)).set 2 (by simp) (.bool true), ((Bq.refl rb w).bw ((Bw.refl w).drew)).set 2 _⟩
set_option maxHeartbeats 2000000 in
set_option maxRecDepth 100000 in
theorem rNum_far {vq : Option Addr} {cap : Nat} {L : List Int} (a rb n : Nat) (w : World) (hx : Box w rb [.slice vq L.length cap, .int .i64 a, .bool false]) (ha : a ≤ L.length) (hn : n ≤ 4) (hf : L.length < a + n) : Calls Try.prog 19 #[.pointer (some ⟨rb, 0, none⟩), .int .i64 n] w fun e w' => e = .returned (.int .u32 0) ∧ Box w' rb [.slice vq L.length cap, .int .i64 a, .bool true] ∧ Bq rb w w' := by
  have x0 := hx.c 0 _ rfl; have x1 := hx.c 1 _ rfl; have x2 := hx.c 2 _ rfl
  have f2 := hx.f 2 (by simp)
  have m1 : IntKind.i64.wrap ((L.length : Int) - a) = (L.length : Int) - a := by rw [IntKind.wrap_i64]; omega
  have d1 : ((L.length : Int) - a) < n := by omega
  have d2 : decide (((L.length : Int) - a) < n) = true := by simpa using d1
  go_enter Try.func19, Try.ntmps19
  go_wp2_with fail
  go_region
  go_wp2_with fail
  go_returns
  exact ⟨rfl, (hx.bw ((Bw.refl w).drew)).set 2 (by simp) (.bool true), ((Bq.refl rb w).bw ((Bw.refl w).drew)).set 2 _⟩
set_option maxHeartbeats 2000000 in
set_option maxRecDepth 100000 in
theorem rNum_ok {b o cap : Nat} {L : List Int} (a rb n : Nat) (w : World) (hx : Box w rb [.slice (some ⟨b, o, none⟩) L.length cap, .int .i64 a, .bool false]) (h8 : B8s L) (hc : ∀ (j : Nat) x, L[j]? = some x → w.cell? ⟨b, o + j, none⟩ = some (.int .u8 x)) (hl : L.length ≤ 1000000) (hn : n ≤ 4) (hf : a + n ≤ L.length) : Calls Try.prog 19 #[.pointer (some ⟨rb, 0, none⟩), .int .i64 n] w fun e w' => e = .returned (.int .u32 (Img.num L a n)) ∧ Box w' rb [.slice (some ⟨b, o, none⟩) L.length cap, .int .i64 ((a + n : Nat) : Int), .bool false] ∧ Bq rb w w' := by
  have x0 := hx.c 0 _ rfl; have x1 := hx.c 1 _ rfl; have x2 := hx.c 2 _ rfl
  have f2 := hx.f 2 (by simp)
  have m1 : IntKind.i64.wrap ((L.length : Int) - a) = (L.length : Int) - a := by rw [IntKind.wrap_i64]; omega
  have d1 : (n : Int) ≤ (L.length : Int) - a := by omega
  have d2 : decide (((L.length : Int) - a) < n) = false := by rw [decide_eq_false_iff_not]; omega
  have m2 : IntKind.i64.wrap ((n : Int) - 1) = (n : Int) - 1 := by rw [IntKind.wrap_i64]; omega
  have hn4 : (n : Int) ≤ 4 := by omega
  go_enter Try.func19, Try.ntmps19
  go_wp2_with fail
  go_region
  go_wp2_with fail
  clear x0 x1 x2 f2 d1 d2 m1
  go_loopg [5, 6] n (fun g v j wr => ∃ z : Int, v = .int .u32 z ∧ j = .int .i64 ((g : Int) - 1) ∧ g ≤ n ∧ z = Img.num L (a + g) (n - g) ∧ Bw w wr)
  case atStart => exact ⟨0, rfl, rfl, Nat.le_refl _, by rw [Nat.sub_self]; rfl, (Bw.refl w).drew⟩
  case round =>
    obtain ⟨z, rfl, rfl, hgn, hz, hbw⟩ := hrel
    have hxr := hx.bw hbw
    have x0 := hxr.c 0 _ rfl; have x1 := hxr.c 1 _ rfl
    have f1 := hxr.f 1 (by simp)
    cases gk with
    | zero =>
      rw [show (((0 : Nat) : Int) - 1) = -1 by omega]
      have hzz : z = Img.num L a n := by rw [hz, Nat.add_zero, Nat.sub_zero]
      have HZ : Hid _ := hzz
      have m3 : IntKind.i64.wrap ((a : Int) + n) = (a : Int) + n := by rw [IntKind.wrap_i64]; omega
      clear hz hzz
      go_wp2_with fail
      go_returns
      refine ⟨by rw [show _ = _ from HZ]; rfl, ?_, ((Bq.refl rb w).bw hbw).set 1 _⟩
      have := hxr.set 1 (by simp) (.int .i64 ((a : Int) + n))
      rw [show (((a + n : Nat)) : Int) = (a : Int) + n by omega]
      exact this
    | succ g =>
      rw [show (((g + 1 : Nat) : Int) - 1) = (g : Int) by omega]
      have hbd := Img.num_bd h8 (n - (g + 1)) (a + (g + 1))
      rw [← hz] at hbd
      have hpow : (256 : Int) ^ (n - (g + 1)) ≤ 16777216 := by
        have : n - (g + 1) = 0 ∨ n - (g + 1) = 1 ∨ n - (g + 1) = 2 ∨ n - (g + 1) = 3 := by omega
        rcases this with h | h | h | h <;> rw [h] <;> decide
      have hz0 : 0 ≤ z := hbd.1
      have hz1 : z < 16777216 := by omega
      have hcell := hbw.keep (hc (a + g) _ (Img.g_at (by omega)))
      obtain ⟨g0, g1⟩ := Img.b8_g h8 (a + g)
      have HE : Hid _ := u32_or8' (y := Img.g L (a + g)) (x := z * 256) g0 g1 (by omega) (by omega) (by omega)
      have e1 : z * 256 % 4294967296 = z * 256 := by omega
      have e2 : Img.g L (a + g) % 4294967296 = Img.g L (a + g) := by omega
      have e3 : IntKind.u32.wrap (z * 256) = z * 256 := by rw [IntKind.wrap_u32]; omega
      have e4 : IntKind.u32.wrap (Img.g L (a + g)) = Img.g L (a + g) := by rw [IntKind.wrap_u32]; omega
      have m3 : IntKind.i64.wrap ((a : Int) + g) = (a : Int) + g := by rw [IntKind.wrap_i64]; omega
      have hi1 : (a : Int) + g < L.length := by omega
      have hi0 : (0 : Int) ≤ (a : Int) + g := by omega
      have htn : ((a : Int) + g).toNat = a + g := by omega
      have HN : Hid (Img.g L (a + g) + z * 256 = Img.num L (a + g) (n - g)) := by
        show _ = _
        rw [show n - g = (n - (g + 1)) + 1 by omega, Img.num, show a + g + 1 = a + (g + 1) by omega, ← hz]; omega
      generalize Img.g L (a + g) = G at *
      clear hz hbd hpow hc
      go_wp2_with fail
      go_region
      go_wp2_with fail
      go_roundg g
      case measure => omega
      case rel => exact ⟨_, rfl, by first | rfl | exact congrArg (Value.int .i64) (by omega), by omega, by rw [← (show _ = _ from HN)]; exact HE, hbw.drew⟩
end Go.Proofs.Ytmecompcffphcaa
