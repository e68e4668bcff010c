/- bytes.Repeat of one byte. -/
import Derived.Test.YtgebmedkhakhfaaShLay
import Derived.Lib.MakeNoZero
import Derived.Laws.Bits64b
import Derived.Laws.Externs
namespace Go.Proofs.Ytgebmedkhakhfaa
open Go.ChangeShapes Go.WideShapes Go.ChangeAt Go.RowKit
set_option linter.unusedSimpArgs false
set_option linter.unusedVariables false

theorem and32 (a : Nat) (ha : a < 4294967296) : bits .and .u64 (a : Int) 4294967295 = (a : Int) := by
  have h := bits_and_u64_nat a 4294967295 (by omega) (by omega)
  have e : a &&& 4294967295 = a % 4294967296 := Nat.and_two_pow_sub_one_eq_mod a 32
  rw [e, Nat.mod_eq_of_lt ha] at h
  exact h
set_option maxHeartbeats 1000000 in
theorem Mul64_c (n : Nat) (hn : n ≤ 1000000000) (w : World) :
    Calls Try.prog 109 #[.int .u64 1, .int .u64 n] w fun e w' => e = .returned (.tuple #[.int .u64 0, .int .u64 n]) ∧ w' = w := by
  have h1 : bits .and .u64 1 4294967295 = 1 := and32 1 (by omega)
  have h2 := and32 n (by omega)
  have h3 : bits .and .u64 0 4294967295 = 0 := and32 0 (by omega)
  go_enter Try.func109, Try.ntmps109
  have h4 : (n : Int) / 4294967296 = 0 := by omega
  go_wp2
  go_returns
  exact ⟨rfl, rfl⟩
theorem Mul_c (n : Nat) (hn : n ≤ 1000000000) (w : World) :
    Calls Try.prog 96 #[.int .u64 1, .int .u64 n] w fun e w' => e = .returned (.tuple #[.int .u64 0, .int .u64 n]) ∧ w' = w := by
  have H := Mul64_c n hn
  go_enter Try.func96, Try.ntmps96
  go_wp2_with (go_at_call 109; refine (H _).mono ?_; rintro e w' ⟨rfl, rfl⟩)
  go_returns
  exact ⟨rfl, rfl⟩

/-- Block G holds l in its first k cells. -/
def Filled (w : World) (G sz k : Nat) (l : Int) : Prop := ∃ cur : Array Value, w.heap[G]? = some (.cells cur 5 (0, 0)) ∧ cur.size = sz ∧ ∀ i, i < k → cur[i]? = some (.int .u8 l)
theorem Filled.copy {w : World} {G sz k : Nat} {l : Int} (h : Filled w G sz k l) {c n d cap : Nat} (hc : c ≤ k) (hd : d = min c (n - k)) (hn : n ≤ sz) (hk : k ≤ n) (dc : Nat) :
    ∃ w', (Builtin.copy_ #[34, 34] 3 #[.slice (some ⟨G, k, none⟩) (n - k) dc, .slice (some ⟨G, 0, none⟩) c cap]).run Try.prog w = .ok (goInt d) w' ∧ Filled w' G sz (k + d) l ∧ ∀ B, B ≤ G → Below B w w' := by
  obtain ⟨cur, hG, hs, hi⟩ := h
  have hl : (List.replicate d (Value.int .u8 l)).length = d := by simp
  have hr := run_copy_row (P := Try.prog) w 34 34 3 5 G k (n - k) dc ⟨G, 0, none⟩ c cap cur 5 (List.replicate d (Value.int .u8 l)) Try.underlying34 (by kernel_rfl) hG
    (by rw [hl, hd]) (fun j v hv => by
      have hj : j < d := by have := (List.getElem?_eq_some_iff.1 hv).1; simpa using this
      rw [List.getElem?_replicate, if_pos hj] at hv
      cases hv
      have hadd : (⟨G, 0, none⟩ : Addr).add j = ⟨G, j, none⟩ := by unfold Addr.add; split <;> simp_all
      rw [hadd]
      simp [World.cell?, hG, hi j (by omega)]) (by rw [hl, hs]; omega) (fun v hv => by simp at hv; obtain ⟨_, rfl⟩ := hv; rfl)
  rw [hl] at hr
  have hct : cur.toList.length = sz := by simpa using hs
  refine ⟨_, hr, ⟨(List.take k cur.toList ++ List.replicate d (Value.int IntKind.u8 l) ++ List.drop (k + d) cur.toList).toArray, by simp [World.setRow, Array.getElem?_modify, hG], ?_, fun i hi' => ?_⟩, fun B hB => ?_⟩
  · simp [hs]; omega
  · rw [List.getElem?_toArray]
    by_cases e : i < k
    · rw [List.append_assoc, List.getElem?_append_left (by rw [List.length_take, hct]; omega), List.getElem?_take_of_lt e, Array.getElem?_toList]; exact hi i e
    · have h1 : (List.take k cur.toList).length = k := by rw [List.length_take, hct]; omega
      rw [List.getElem?_append_left (by rw [List.length_append, h1, hl]; omega), List.getElem?_append_right (by rw [h1]; omega), List.getElem?_replicate, if_pos (by rw [h1]; omega)]
  · exact ⟨rfl, rfl, rfl, by simp [World.setRow], fun i hi => setRow_other w G i _ (by omega)⟩
theorem Filled.one {w : World} {G : Nat} {cs : Array Value} {l : Int} (hG : w.heap[G]? = some (.cells cs 5 (0, 0))) {gb n dc cp : Nat} (hb : w.cell? ⟨gb, 0, none⟩ = some (.int .u8 l)) (h1 : 1 ≤ n) (hn : n ≤ cs.size) :
    ∃ w', (Builtin.copy_ #[34, 34] 3 #[.slice (some ⟨G, 0, none⟩) n dc, .slice (some ⟨gb, 0, none⟩) 1 cp]).run Try.prog w = .ok (goInt 1) w' ∧ Filled w' G cs.size 1 l ∧ ∀ B, B ≤ G → Below B w w' := by
  have hr := run_copy_row (P := Try.prog) w 34 34 3 5 G 0 n dc ⟨gb, 0, none⟩ 1 cp cs 5 [Value.int .u8 l] Try.underlying34 (by kernel_rfl) hG
    (by simp; exact (Nat.min_eq_left h1).symm) (fun j v hv => by
      match j, hv with
      | 0, hv =>
        simp at hv; subst hv
        have hadd : (⟨gb, 0, none⟩ : Addr).add 0 = ⟨gb, 0, none⟩ := by unfold Addr.add; split <;> simp_all
        rw [hadd]; exact hb) (by simp; omega) (fun v hv => by simp at hv; subst hv; rfl)
  refine ⟨_, hr, ⟨(List.take 0 cs.toList ++ [Value.int IntKind.u8 l] ++ List.drop (0 + [Value.int IntKind.u8 l].length) cs.toList).toArray, by simp [World.setRow, Array.getElem?_modify, hG], ?_, fun i hi' => ?_⟩, fun B hB => ?_⟩
  · simp; omega
  · obtain rfl : i = 0 := by omega
    simp
  · exact ⟨rfl, rfl, rfl, by simp [World.setRow], fun i hi => setRow_other w G i _ (by omega)⟩
theorem Filled.bys {w : World} {G sz k : Nat} {l : Int} (h : Filled w G sz k l) (hl : 0 ≤ l ∧ l < 256) : Bys w G 0 k (fun _ => l) := fun i hi => by
  obtain ⟨cur, hG, hs, h⟩ := h
  exact ⟨by simp [World.cell?, hG, h i hi], hl⟩

set_option maxRecDepth 100000 in
set_option maxHeartbeats 2000000 in
theorem Repeat_c {w : World} {gb n cp : Nat} {l : Int} (hb : w.cell? ⟨gb, 0, none⟩ = some (.int .u8 l)) (hn : 1 ≤ n) (hn2 : n ≤ 1048576) :
    Calls Try.prog 77 #[.slice (some ⟨gb, 0, none⟩) 1 cp, .int .i64 n] w fun e w' => ∃ G, e = .returned (.slice (some ⟨G, 0, none⟩) n n) ∧ Below w.heap.size w w' ∧ w.heap.size ≤ G ∧ ∃ sz, Filled w' G sz n l := by
  have n0 : ((n : Int) == 0) = false := by simp; omega
  have n1 : ¬ (n : Int) < 0 := by omega
  have n2 : ¬ (9223372036854775807 : Int) < n := by omega
  have hcall : ∀ wx : World, ∃ cs : Array Value, (callFunc 97 #[.int .i64 n]).run Try.prog wx = .ok (.value (.slice (some ⟨wx.heap.size, 0, none⟩) n cs.size)) (wx.drew.drew.alloc (.cells cs 5)) ∧ n ≤ cs.size := fun wx => by
    obtain ⟨cs, hrun, hle, _⟩ := Lib.run_makeNoZero (P := Try.prog) wx #[3] 34 5 Try.underlying34 n (by omega)
    exact ⟨cs, by
      rw [run_callFunc_extern Try.func97 (by kernel_rfl) (by kernel_rfl) (by kernel_rfl) (e := Extern.BytealgMakeNoZero.makeNoZero #[3] #[34]) (by kernel_rfl), hrun]
      rfl, hle⟩
  obtain ⟨cs, hmk, hle⟩ := hcall w
  clear hcall
  have HM := Mul_c n (by omega) w
  have hlt : gb < w.heap.size := World.block_lt_of_cell? w ⟨gb, 0, none⟩ hb
  have hG : (w.alloc (.cells cs 5)).drew.drew.heap[w.heap.size]? = some (.cells cs 5 (0, 0)) := heap_alloc_new w _
  have hb2 : (w.alloc (.cells cs 5)).drew.drew.cell? ⟨gb, 0, none⟩ = some (.int .u8 l) := bl_keep (a := w) (bl_alloc (Below.refl _ _) _).drew.drew hb
  obtain ⟨w4, hrun1, hF1, hB1⟩ := Filled.one (dc := n) (cp := cp) hG hb2 hn hle
  have gw1 : Below w.heap.size w w4 := (bl_alloc (Below.refl _ _) _).drew.drew.trans (hB1 _ (Nat.le_refl _))
  by_cases hch : (8192 : Int) < n
  · go_enter Try.func77, Try.ntmps77
    go_wp2_with fail
    refine HM.mono ?_
    rintro e w' ⟨rfl, hw⟩
    rw [hw]
    go_wp2_with fail
    go_loopw [10] (fun x wr => ∃ k : Nat, 1 ≤ k ∧ k ≤ n ∧ x = .int .i64 k ∧ Filled wr w.heap.size cs.size k l ∧ Below w.heap.size w wr) (fun x _ => n - (intOf x).toNat)
    case atStart => exact ⟨1, Nat.le_refl _, hn, rfl, hF1, gw1⟩
    case round =>
      obtain ⟨k, hk1, hkn, rfl, hF, gw⟩ := hrel
      by_cases hlt : (k : Int) < n
      · obtain ⟨c, hc⟩ : ∃ c : Nat, min k 8192 = c := ⟨_, rfl⟩
        have hc2 : min (k : Int) 8192 = c := by omega
        have hcn : c ≤ n := by omega
        have hne : ¬ (n = k) := by omega
        obtain ⟨d, hd⟩ : ∃ d : Nat, d = min c (n - k) := ⟨_, rfl⟩
        obtain ⟨w5, hrun, hF5, hb5⟩ := Filled.copy (w := wr.drew) hF (c := c) (n := n) (cap := n) (by omega) hd hle hkn (n - k)
        have hdb : k + d ≤ n ∧ 0 < d := by omega
        have HD : Hid _ := hdb
        clear hc hd hdb
        have hkn' : k ≤ n := hkn
        go_wp2_with fail
        go_region_held3 (fun _ => True) (trivial) (fail)
        go_wp2_with fail
        go_roundw
        case rel =>
          refine ⟨k + d, by omega, HD.out.1, ?_, hF5, gw.drew.trans (hb5 _ (Nat.le_refl _))⟩
          have := HD.out
          rw [IntWalk.i64_in _ ⟨by omega, by omega⟩]; rfl
        case measure =>
          have := HD.out
          simp only [intOf]
          rw [IntWalk.i64_in _ ⟨by omega, by omega⟩]
          omega
      · obtain rfl : k = n := by omega
        go_wp2_with fail
        go_returns
        exact ⟨_, rfl, gw, Nat.le_refl _, _, hF⟩
  · go_enter Try.func77, Try.ntmps77
    go_wp2_with fail
    refine HM.mono ?_
    rintro e w' ⟨rfl, hw⟩
    rw [hw]
    go_wp2_with fail
    go_loopw [10] (fun x wr => ∃ k : Nat, 1 ≤ k ∧ k ≤ n ∧ x = .int .i64 k ∧ Filled wr w.heap.size cs.size k l ∧ Below w.heap.size w wr) (fun x _ => n - (intOf x).toNat)
    case atStart => exact ⟨1, Nat.le_refl _, hn, rfl, hF1, gw1⟩
    case round =>
      obtain ⟨k, hk1, hkn, rfl, hF, gw⟩ := hrel
      by_cases hlt : (k : Int) < n
      · obtain ⟨c, hc⟩ : ∃ c : Nat, min k n = c := ⟨_, rfl⟩
        have hc2 : min (k : Int) n = c := by omega
        have hcn : c ≤ n := by omega
        have hne : ¬ (n = k) := by omega
        obtain ⟨d, hd⟩ : ∃ d : Nat, d = min c (n - k) := ⟨_, rfl⟩
        obtain ⟨w5, hrun, hF5, hb5⟩ := Filled.copy (w := wr.drew) hF (c := c) (n := n) (cap := n) (by omega) hd hle hkn (n - k)
        have hdb : k + d ≤ n ∧ 0 < d := by omega
        have HD : Hid _ := hdb
        clear hc hd hdb
        have hkn' : k ≤ n := hkn
        go_wp2_with fail
        go_region_held3 (fun _ => True) (trivial) (fail)
        go_wp2_with fail
        go_roundw
        case rel =>
          refine ⟨k + d, by omega, HD.out.1, ?_, hF5, gw.drew.trans (hb5 _ (Nat.le_refl _))⟩
          have := HD.out
          rw [IntWalk.i64_in _ ⟨by omega, by omega⟩]; rfl
        case measure =>
          have := HD.out
          simp only [intOf]
          rw [IntWalk.i64_in _ ⟨by omega, by omega⟩]
          omega
      · obtain rfl : k = n := by omega
        go_wp2_with fail
        go_returns
        exact ⟨_, rfl, gw, Nat.le_refl _, _, hF⟩
end Go.Proofs.Ytgebmedkhakhfaa
