/- THE LAWS OF LAYER 3: what a law holds in its hands; awake. -/
import Derived.Test.YthicidkjhpnleaaMemW7
namespace Go.Proofs.Ythicidkjhpnleaa
open Go.ChangeShapes Go.WideShapes Go.ChangeAt Go.RowKit
set_option linter.unusedSimpArgs false
set_option linter.unusedVariables false

theorem u4_is {a : Int} (h : (Lit.int .u32 a).wf = true) : U4 a := by have := bounds_u32 h; exact ⟨by omega, by omega⟩
theorem u8_is {a : Int} (h : (Lit.int .u8 a).wf = true) : 0 ≤ a ∧ a < 256 := by have := bounds_u8 h; exact ⟨by omega, by omega⟩
/-- A law that began in w0 holds a memory of its own making. -/
def Has (w0 w : World) (mb N : Nat) (S : MS) : Prop := ∃ F, Gr w0 w ∧ (∀ i, F i → w0.heap.size ≤ i) ∧ Own w mb F N S
theorem Has.gr {w0 w : World} {mb N : Nat} {S : MS} (h : Has w0 w mb N S) : Gr w0 w := by obtain ⟨F, g, _⟩ := h; exact g
theorem Has.ok {w0 w : World} {mb N : Nat} {S : MS} (h : Has w0 w mb N S) : S.Ok := by obtain ⟨F, _, _, o⟩ := h; exact o.ok
theorem Has.step {w0 w w' : World} {F : Nat → Prop} (g : Gr w0 w) (hF : ∀ i, F i → w0.heap.size ≤ i) (fr : Fr F w w') : Gr w0 w' :=
  ((g.fr F).trans fr (fun _ _ h => h)).gr (fun i hi hf => by have := hF i hf; omega)
theorem Has.on {w0 w w' : World} {mb N : Nat} {S : MS} (h : Has w0 w mb N S) (g : Gr w w') : Has w0 w' mb N S := by
  obtain ⟨F, g0, hF, o⟩ := h
  exact ⟨F, g0.trans g, hF, o.gr g⟩
theorem Add_ge {w0 w w' : World} {F : Nat → Prop} (g : Gr w0 w) (hF : ∀ i, F i → w0.heap.size ≤ i) : ∀ i, Add F w w' i → w0.heap.size ≤ i := by
  rintro i (h | h)
  · exact hF i h
  · have := g.size; omega

theorem New_h {w0 w : World} (g : Gr w0 w) (n : Int) (hn : 1 ≤ n ∧ n ≤ 4096) :
    Calls Try.prog 10 #[.int .i64 n] w fun e w' => ∃ mb, e = .returned (.tuple #[.pointer (some ⟨mb, 0, none⟩), .int .i64 0]) ∧ Has w0 w' mb 0 (MS.new n) :=
  (New_c n hn w).mono (fun _ _ ⟨mb, F, h1, h2, h3, h4⟩ => ⟨mb, h1, F, g.trans h2, fun i hi => Nat.le_trans g.size (h3 i hi), h4⟩)
section
variable {w0 w : World} {mb N : Nat} {S : MS}
theorem Map_h (h : Has w0 w mb N S) (a n perm : Int) (ha : U4 a) (hn : U4 n) (hN : N + 4096 < maxLen) (hI : S.mapE a n perm = 0 → InsSpec S.th (lb S.th (a / 256))) :
    Calls Try.prog 24 #[.pointer (some ⟨mb, 0, none⟩), .int .u32 a, .int .u32 n, .int .i64 perm] w fun e w' => e = .returned (.int .i64 (S.mapE a n perm)) ∧ Has w0 w' mb (N + 4096) (S.mapS a n perm) := by
  obtain ⟨F, g, hF, o⟩ := h
  exact (Map_c o a n perm ha hn hN hI).mono (fun e w' ⟨h1, h2, h3⟩ => ⟨h1, _, Has.step g hF h2, Add_ge g hF, h3⟩)
theorem Load_h (h : Has w0 w mb N S) (a size need : Int) (ha : U4 a) :
    Calls Try.prog 17 #[.pointer (some ⟨mb, 0, none⟩), .int .u32 a, .int .i64 size, .int .i64 need] w fun e w' => e = .returned (.tuple #[.int .u32 (S.load a size need), .int .i64 (S.ask a size need)]) ∧ w' = w := by
  obtain ⟨F, g, hF, L, o⟩ := h
  exact Load_c o a size need ha
end

/-- A page that is there, with its perm. -/
theorem ask_pg {S : MS} {a size need : Int} {p : Pg} (hp : S.pg (a / 256) = some p) (hs : (size = 1 ∨ size = 2 ∨ size = 4) ∧ a % size = 0) (hb : (bits .and .i64 p.perm need == need) = true) : S.ask a size need = 0 := by
  unfold MS.ask
  rw [if_pos hs, hp]
  simp only
  rw [if_pos hb]
theorem load_pg {S : MS} {a size need : Int} {p : Pg} (hp : S.pg (a / 256) = some p) (h0 : S.ask a size need = 0) : S.load a size need = p.val (a % 256).toNat size := by
  unfold MS.load
  rw [if_pos h0, hp]
theorem store_pg {S : MS} {a size v : Int} {p : Pg} (hp : S.pg (a / 256) = some p) (h0 : S.ask a size 2 = 0) :
    (S.store a size v).pg (a / 256) = some { p.wrt (a % 256).toNat v size.toNat with gen := (p.gen + 1) % 4294967296 } := by
  unfold MS.store
  rw [if_pos h0, hp]
  simp [upd_same]
theorem b32 : (bits .and .i64 3 2 == 2) = true := by decide
theorem b31 : (bits .and .i64 3 1 == 1) = true := by decide
theorem new_map {b a n perm : Int} (hs : n ≠ 0 ∧ a % 256 = 0 ∧ a / 256 + (n + 255) / 256 ≤ 16777216) (hp : 0 ≤ perm ∧ perm ≤ 7) (hb : (n + 255) / 256 ≤ b) : (MS.new b).mapE a n perm = 0 := by
  unfold MS.mapE
  rw [if_pos ⟨hs, hp⟩, if_pos (by simp [MS.new, lb]), if_neg (by simp [MS.new]; omega)]
theorem new_ins (b : Int) (f : Int) : InsSpec (MS.new b).th (lb (MS.new b).th f) := Insert_end []
theorem new_pg {b a n perm : Int} (h : (MS.new b).mapE a n perm = 0) {k : Int} (hn : 0 ≤ n) (hk : a / 256 ≤ k ∧ k < a / 256 + (n + 255) / 256) : ((MS.new b).mapS a n perm).pg k = some (Pg.fresh perm 1) := by
  unfold MS.mapS
  rw [if_pos h]
  simp only [MS.map]
  rw [if_pos (by omega)]
  rfl

end Go.Proofs.Ythicidkjhpnleaa
