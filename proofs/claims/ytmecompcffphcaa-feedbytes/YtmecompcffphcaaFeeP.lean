/- LAYER 9's walks: Put. -/
import Derived.Test.YtmecompcffphcaaFeeW6
import Derived.Test.YtmecompcffphcaaP8
namespace Go.Proofs.Ytmecompcffphcaa
open Go.ChangeShapes Go.WideShapes Go.ChangeAt Go.RowKit
set_option linter.unusedSimpArgs false

def Fee.flB (x : Fee.Fl) : List Int := Fee.txt (Fee.sb x.name) ++ Fee.txt x.data
def Fee.put (f : Fee.Fd) : List Int :=
  Fee.w4 f.args.length ++ f.args.flatMap Fee.argB ++ Fee.txt f.input ++ Fee.w4 f.short.length ++ f.short.flatMap Fee.w4 ++ Fee.txt f.random ++ Fee.w4 f.clock.length ++ f.clock.flatMap Fee.w4 ++ Fee.w4 f.files.length ++ f.files.flatMap Fee.flB
set_option maxHeartbeats 1000000 in
set_option maxRecDepth 100000 in
theorem fWord_c {w0 wr : World} {v : Value} {l : List Int} (x : Int) (x0 : 0 ≤ x) (x1 : x < 4294967296) (hown : P8 w0 wr v l) (hbw : Bw w0 wr) (hn : l.length ≤ 900000) :
    Calls Try.prog 24 #[v, .int .u32 x] wr fun e w' => ∃ v', e = .returned v' ∧ P8 w0 w' v' (l ++ Fee.w4 x) ∧ Bw w0 w' ∧ Ap wr w' v v' := by
  obtain ⟨v', w', hr, h2, h3, h4⟩ := hown.row hbw (Fee.w4 x) (by simp [Fee.w4]; omega) 4
  have hr2 : (Builtin.append_ #[22, 22] 22 #[v, .slice (some ⟨wr.heap.size, 0, none⟩) 4 4]).run Try.prog (wr.alloc (.cells #[.int .u8 (x % 256), .int .u8 (x / 256 % 256), .int .u8 (x / 65536 % 256), .int .u8 (x / 16777216)] 5)) = .ok v' w' := hr
  clear hr
  go_enter Try.func24, Try.ntmps24
  go_wp2_with (first | (at_builtin; refine wpApp rfl _ _ 22 rfl rfl rfl hr2 ?_) | go_in)
  go_returns
  exact ⟨v', rfl, h2, h3, h4⟩
set_option maxHeartbeats 1000000 in
set_option maxRecDepth 100000 in
theorem fCount_c {w0 wr : World} {v : Value} {l : List Int} (x : Int) (x0 : 0 ≤ x) (x1 : x < 4294967296) (hown : P8 w0 wr v l) (hbw : Bw w0 wr) (hn : l.length ≤ 900000) :
    Calls Try.prog 22 #[v, .int .i64 x] wr fun e w' => ∃ v', e = .returned v' ∧ P8 w0 w' v' (l ++ Fee.w4 x) ∧ Bw w0 w' ∧ Ap wr w' v v' := by
  have e1 : x % 4294967296 = x := by omega
  have hC := fWord_c x x0 x1 hown hbw hn
  go_enter Try.func22, Try.ntmps22
  go_wp2_with (go_at_call 24; refine hC.mono ?_; rintro e w2 ⟨v2, rfl, o2, b2, a2⟩)
  go_returns
  exact ⟨v2, rfl, o2, b2, a2⟩
set_option maxHeartbeats 1000000 in
set_option maxRecDepth 100000 in
theorem fText_c {w0 wr : World} {v : Value} {l : List Int} (s : ByteArray) (hs : s.size ≤ 10000) (hown : P8 w0 wr v l) (hbw : Bw w0 wr) (hn : l.length ≤ 800000) :
    Calls Try.prog 23 #[v, .string s] wr fun e w' => ∃ v', e = .returned v' ∧ P8 w0 w' v' (l ++ Fee.txt (Fee.sb s)) ∧ Bw w0 w' ∧ ∀ k, k < wr.heap.size → v.ownBlock ≠ some k → w'.heap[k]? = wr.heap[k]? := by
  have hC := fCount_c (s.size : Int) (by omega) (by omega) hown hbw (by omega)
  go_enter Try.func23, Try.ntmps23
  go_wp2_with fail
  refine hC.mono ?_
  rintro e w2 ⟨v2, rfl, o2, b2, a2⟩
  obtain ⟨v3, w3, hr, o3, b3, a3⟩ := o2.str b2 s (by rw [List.length_append, Fee.w4_len]; omega)
  have HFin : Hid (P8 w0 w3 v3 (l ++ Fee.txt (Fee.sb s)) ∧ Bw w0 w3 ∧ ∀ k, k < wr.heap.size → v.ownBlock ≠ some k → w3.heap[k]? = wr.heap[k]?) := by
    refine ⟨?_, b3, fun k hk hkn => (a3 k (Nat.lt_of_lt_of_le hk a2.b.size) (fun e => ?_)).trans (a2.block k hk hkn)⟩
    rotate_left
    · rcases a2.own with h | ⟨n, h1, h2⟩
      · exact hkn (h ▸ e)
      · rw [h2] at e; have := Option.some.inj e; omega
    unfold Fee.txt
    rw [Fee.sb_len, ← List.append_assoc]
    exact o3
  clear o3 b3 o2 b2 hC hown hbw a2 a3
  go_wp2_with (first | (at_builtin; refine wpApp2 rfl _ _ 22 9 rfl rfl rfl hr ?_) | go_in)
  go_returns
  exact ⟨v3, rfl, HFin⟩
end Go.Proofs.Ytmecompcffphcaa
