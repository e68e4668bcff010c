/- LAYER 7's laws: samePolicy. -/
import Derived.Test.YtkffkmiegmaoiaaPolQ
namespace Go.Proofs.Ytkffkmiegmaoiaa
open Go.ChangeShapes Go.WideShapes Go.ChangeAt Go.RowKit

theorem Pol.eqlSrc (i k : Pol.Src) (w : World) : (Op.equalIn 10000 69 (.agg #[.int .i64 i.kind, .int .u32 i.arg, .int .u32 i.len, .int .u8 i.label]) (.agg #[.int .i64 k.kind, .int .u32 k.arg, .int .u32 k.len, .int .u8 k.label])).run Try.prog w = .ok (i.kind == k.kind && i.arg == k.arg && i.len == k.len && i.label == k.label) w := by
  rw [show (10000 : Nat) = 9999 + 1 from rfl]
  go_simp
  by_cases h0 : i.kind = k.kind <;> by_cases h1 : i.arg = k.arg <;> by_cases h2 : i.len = k.len <;> by_cases h3 : i.label = k.label <;> simp [h0, h1, h2, h3]
theorem Pol.eqlSnk (i k : Pol.Snk) (w : World) : (Op.equalIn 10000 70 (.agg #[.int .i64 i.kind, .int .i64 i.arg, .int .u8 i.mask]) (.agg #[.int .i64 k.kind, .int .i64 k.arg, .int .u8 k.mask])).run Try.prog w = .ok (i.kind == k.kind && i.arg == k.arg && i.mask == k.mask) w := by
  rw [show (10000 : Nat) = 9999 + 1 from rfl]
  go_simp
  by_cases h0 : i.kind = k.kind <;> by_cases h1 : i.arg = k.arg <;> by_cases h3 : i.mask = k.mask <;> simp [h0, h1, h3]
theorem Pol.neqSrc (i k : Pol.Src) (r : Bool) (h : r = true ↔ ¬ i = k) (w : World) : (binOp .neq 69 (.agg #[.int .i64 i.kind, .int .u32 i.arg, .int .u32 i.len, .int .u8 i.label]) (.agg #[.int .i64 k.kind, .int .u32 k.arg, .int .u32 k.len, .int .u8 k.label])).run Try.prog w = .ok (.bool r) w := by
  rw [run_neq_struct, Pol.eqlSrc]
  have : (!(i.kind == k.kind && i.arg == k.arg && i.len == k.len && i.label == k.label)) = r := by
    rw [Pol.Src.ext_iff] at h
    rw [Bool.eq_iff_iff, h, Bool.not_eq_true', ← Bool.not_eq_true]; simp only [Bool.and_eq_true, beq_iff_eq, and_assoc]
  rw [← this]; rfl
theorem Pol.neqSnk (i k : Pol.Snk) (r : Bool) (h : r = true ↔ ¬ i = k) (w : World) : (binOp .neq 70 (.agg #[.int .i64 i.kind, .int .i64 i.arg, .int .u8 i.mask]) (.agg #[.int .i64 k.kind, .int .i64 k.arg, .int .u8 k.mask])).run Try.prog w = .ok (.bool r) w := by
  rw [run_neq_struct, Pol.eqlSnk]
  have : (!(i.kind == k.kind && i.arg == k.arg && i.mask == k.mask)) = r := by
    rw [Pol.Snk.ext_iff] at h
    rw [Bool.eq_iff_iff, h, Bool.not_eq_true', ← Bool.not_eq_true]; simp only [Bool.and_eq_true, beq_iff_eq, and_assoc]
  rw [← this]; rfl
theorem Pol.drop_eq {α : Type} {a b : List α} {k : Nat} {x y : α} (ha : a.drop k = x :: a.drop (k + 1)) (hb : b.drop k = y :: b.drop (k + 1)) : a.drop k = b.drop k ↔ x = y ∧ a.drop (k + 1) = b.drop (k + 1) := by rw [ha, hb]; simp
def SameP (R : Prop) (w : World) (e : Ending) (w' : World) : Prop := ∃ r : Bool, e = .returned (.bool r) ∧ (r = true ↔ R) ∧ Bw w w'
theorem same_no {R : Prop} {w w' : World} (h : ¬ R) (g : Bw w w') : SameP R w (.returned (.bool false)) w' := ⟨false, rfl, by simp [h], g⟩
theorem same_yes {R : Prop} {w w' : World} (h : R) (g : Bw w w') : SameP R w (.returned (.bool true)) w' := ⟨true, rfl, by simp [h], g⟩
set_option maxHeartbeats 4000000 in
set_option maxRecDepth 100000 in
theorem samePolicy_c (va vb : Value) (a b : Pol.Plc) (w : World) (ha : IsPol w va a) (hb : IsPol w vb b) :
    Calls Try.prog 19 #[va, vb] w (SameP (a = b) w) := by
  obtain ⟨v1, v2, rfl, h1, h2⟩ := ha
  obtain ⟨v3, v4, rfl, h3, h4⟩ := hb
  obtain ⟨q1, cap1, rfl, hc1, hc2, hcell1⟩ := h1.open
  obtain ⟨q2, cap2, rfl, hd1, hd2, hcell2⟩ := h2.open
  obtain ⟨q3, cap3, rfl, he1, he2, hcell3⟩ := h3.open
  obtain ⟨q4, cap4, rfl, hf1, hf2, hcell4⟩ := h4.open
  clear h1 h2 h3 h4
  obtain ⟨pa, sa, ka⟩ := a
  obtain ⟨pb, sb, kb⟩ := b
  dsimp only at *
  by_cases hp : pa = pb
  rotate_left
  · have hp1 : (pa != pb) = true := by simpa using hp
    go_enter Try.func19, Try.ntmps19
    go_wp2_with fail
    go_returns
    exact same_no (fun h => hp (by injection h)) (by (repeat' (first | (with_reducible assumption) | (with_reducible exact Bw.refl _) | (with_reducible refine Bw.alloc ?_ _) | (with_reducible refine Bw.drew ?_) | (with_reducible refine Bw.drewN ?_ _) | (with_reducible refine Bw.setCell ?_ ?_ _) | exact Nat.le_refl _)))
  subst hp
  by_cases hs : sa.length = sb.length
  rotate_left
  · have hs1 : ((sa.length : Int) != (sb.length : Int)) = true := by simp; omega
    go_enter Try.func19, Try.ntmps19
    go_wp2_with fail
    go_returns
    exact same_no (fun h => hs (by injection h with _ h; rw [h])) (by (repeat' (first | (with_reducible assumption) | (with_reducible exact Bw.refl _) | (with_reducible refine Bw.alloc ?_ _) | (with_reducible refine Bw.drew ?_) | (with_reducible refine Bw.drewN ?_ _) | (with_reducible refine Bw.setCell ?_ ?_ _) | exact Nat.le_refl _)))
  have hs1 : ((sa.length : Int) != (sb.length : Int)) = false := by simp; omega
  by_cases hk : ka.length = kb.length
  rotate_left
  · have hk1 : ((ka.length : Int) != (kb.length : Int)) = true := by simp; omega
    go_enter Try.func19, Try.ntmps19
    go_wp2_with fail
    go_returns
    exact same_no (fun h => hk (by injection h with _ _ h; rw [h])) (by (repeat' (first | (with_reducible assumption) | (with_reducible exact Bw.refl _) | (with_reducible refine Bw.alloc ?_ _) | (with_reducible refine Bw.drew ?_) | (with_reducible refine Bw.drewN ?_ _) | (with_reducible refine Bw.setCell ?_ ?_ _) | exact Nat.le_refl _)))
  have hk1 : ((ka.length : Int) != (kb.length : Int)) = false := by simp; omega
  have HS : Hid _ := hs
  have HK : Hid _ := hk
  obtain ⟨hsA, hsB⟩ : sa.length ≤ sb.length ∧ sb.length ≤ sa.length := by omega
  obtain ⟨hkA, hkB⟩ : ka.length ≤ kb.length ∧ kb.length ≤ ka.length := by omega
  clear hs hk
  go_enter Try.func19, Try.ntmps19
  go_wp2_with fail
  have hA0 := PBox.new w pa (.slice q1 sa.length cap1) (.slice q2 ka.length cap2) 46
  have hB0 := PBox.new (w.alloc (.cells #[.bool pa, .slice q1 sa.length cap1, .slice q2 ka.length cap2] 46)) pa (.slice q3 sb.length cap3) (.slice q4 kb.length cap4) 46
  simp only [World.size_alloc] at hB0
  obtain ⟨wA, hwA, hbA, hpA, hpB⟩ : ∃ wA, ((w.alloc (.cells #[.bool pa, .slice q1 sa.length cap1, .slice q2 ka.length cap2] 46)).alloc (.cells #[.bool pa, .slice q3 sb.length cap3, .slice q4 kb.length cap4] 46)) = wA ∧ Bw w wA ∧ PBox wA w.heap.size pa (.slice q1 sa.length cap1) (.slice q2 ka.length cap2) ∧ PBox wA (w.heap.size + 1) pa (.slice q3 sb.length cap3) (.slice q4 kb.length cap4) :=
    ⟨_, rfl, by (repeat' (first | (with_reducible assumption) | (with_reducible exact Bw.refl _) | (with_reducible refine Bw.alloc ?_ _) | (with_reducible refine Bw.drew ?_) | (with_reducible refine Bw.drewN ?_ _) | (with_reducible refine Bw.setCell ?_ ?_ _) | exact Nat.le_refl _)), hA0.bw ((Bw.refl _).alloc _), hB0⟩
  rw [hwA]
  clear hwA hA0 hB0
  have HEq : Hid ((⟨pa, sa, ka⟩ : Pol.Plc) = ⟨pa, sb, kb⟩ ↔ sa = sb ∧ ka = kb) := by show _ ↔ _; simp
  generalize ((⟨pa, sa, ka⟩ : Pol.Plc) = ⟨pa, sb, kb⟩) = EQ at *
  go_loopg [5] sa.length (fun g i wr => ∃ k : Nat, k + g = sa.length ∧ i = .int .i64 k ∧ Bw wA wr ∧ (sa = sb ↔ sa.drop k = sb.drop k))
  case atStart => exact ⟨0, by omega, rfl, Bw.refl _, by simp⟩
  case round =>
    obtain ⟨k, hkg, rfl, hbw, hrun⟩ := hrel
    have HRun : Hid _ := hrun
    clear hrun
    have p1 := hbw.keep hpA.c1; have p2 := hbw.keep hpA.c2; have r1 := hbw.keep hpB.c1; have r2 := hbw.keep hpB.c2
    by_cases hk : k = sa.length
    · subst hk
      have HSa : Hid (sa = sb) := (show _ ↔ _ from HRun).2 (by rw [List.drop_length, List.drop_of_length_le (by omega)])
      obtain ⟨wO, hwO⟩ : ∃ x, x = wr := ⟨_, rfl⟩
      subst hwO
      clear HRun
      have hbO := hbA.trans hbw
      go_wp2_with fail
      go_loopg [6] ka.length (fun g i wx => ∃ k : Nat, k + g = ka.length ∧ i = .int .i64 k ∧ Bw wO wx ∧ (ka = kb ↔ ka.drop k = kb.drop k))
      case atStart => exact ⟨0, by omega, rfl, Bw.refl _, by simp⟩
      case round =>
        obtain ⟨k, hkg, rfl, hbw, hrun⟩ := hrel
        have HRun : Hid _ := hrun
        clear hrun
        replace p1 := hbw.keep p1; replace p2 := hbw.keep p2; replace r1 := hbw.keep r1; replace r2 := hbw.keep r2
        by_cases hk : k = ka.length
        · subst hk
          have HKa : Hid (ka = kb) := (show _ ↔ _ from HRun).2 (by rw [List.drop_length, List.drop_of_length_le (by omega)])
          clear HRun
          go_wp2_with fail
          go_returns
          exact same_yes ((show _ ↔ _ from HEq).2 ⟨HSa, HKa⟩) (hbO.trans hbw)
        · have hkl : k < ka.length := by omega
          have hkl2 : k < kb.length := by omega
          have hki : (k : Int) < (ka.length : Int) := by omega
          have hki2 : (k : Int) < (kb.length : Int) := by omega
          obtain ⟨x, hx, hd⟩ := Pol.drop_at hkl
          obtain ⟨y, hy, hd2⟩ := Pol.drop_at hkl2
          have HDE : Hid _ := Pol.drop_eq hd hd2
          obtain ⟨b1, o1, rfl, hb1, c0, c1, c2⟩ := hcell2 k x hx
          obtain ⟨b2, o2, rfl, hb2, d0, d1, d2⟩ := hcell4 k y hy
          have hbR := hbO.trans hbw
          replace c0 := hbR.keep c0
          replace c1 := hbR.keep c1
          replace c2 := hbR.keep c2
          replace d0 := hbR.keep d0
          replace d1 := hbR.keep d1
          replace d2 := hbR.keep d2
          clear hd hd2 hx hy hcell2 hcell4
          by_cases hxy : x = y
          · have hN := Pol.neqSnk x y false (by simp [hxy])
            have HN : Hid (ka = kb ↔ ka.drop (k + 1) = kb.drop (k + 1)) := by
              show _ ↔ _
              rw [(show _ ↔ _ from HRun), (show _ ↔ _ from HDE)]; simp [hxy]
            clear hxy HRun
            go_wp2_with fail
            go_region
            all_goals (go_wp2_with fail)
            all_goals
              go_roundg (ka.length - (k + 1))
              case measure => omega
              case rel => exact ⟨k + 1, by omega, by simp, by (repeat' (first | (with_reducible assumption) | (with_reducible exact Bw.refl _) | (with_reducible refine Bw.alloc ?_ _) | (with_reducible refine Bw.drew ?_) | (with_reducible refine Bw.drewN ?_ _) | (with_reducible refine Bw.setCell ?_ ?_ _) | exact Nat.le_refl _)), HN⟩
          · have hN := Pol.neqSnk x y true (by simp [hxy])
            have HN : Hid (¬ _) := fun h => hxy ((show _ ↔ _ from HDE).1 ((show _ ↔ _ from HRun).1 ((show _ ↔ _ from HEq).1 h).2)).1
            clear hxy HRun
            go_wp2_with fail
            go_region
            all_goals (go_wp2_with fail)
            all_goals
              go_returns
              exact same_no HN (hbO.trans (by (repeat' (first | (with_reducible assumption) | (with_reducible exact Bw.refl _) | (with_reducible refine Bw.alloc ?_ _) | (with_reducible refine Bw.drew ?_) | (with_reducible refine Bw.drewN ?_ _) | (with_reducible refine Bw.setCell ?_ ?_ _) | exact Nat.le_refl _))))
    · have hkl : k < sa.length := by omega
      have hkl2 : k < sb.length := by omega
      have hki : (k : Int) < (sa.length : Int) := by omega
      have hki2 : (k : Int) < (sb.length : Int) := by omega
      obtain ⟨x, hx, hd⟩ := Pol.drop_at hkl
      obtain ⟨y, hy, hd2⟩ := Pol.drop_at hkl2
      have HDE : Hid _ := Pol.drop_eq hd hd2
      obtain ⟨b1, o1, rfl, hb1, c0, c1, c2, c3⟩ := hcell1 k x hx
      obtain ⟨b2, o2, rfl, hb2, d0, d1, d2, d3⟩ := hcell3 k y hy
      have hbR := hbA.trans hbw
      replace c0 := hbR.keep c0
      replace c1 := hbR.keep c1
      replace c2 := hbR.keep c2
      replace c3 := hbR.keep c3
      replace d0 := hbR.keep d0
      replace d1 := hbR.keep d1
      replace d2 := hbR.keep d2
      replace d3 := hbR.keep d3
      clear hd hd2 hx hy hcell1 hcell3
      by_cases hxy : x = y
      · have hN := Pol.neqSrc x y false (by simp [hxy])
        have HN : Hid (sa = sb ↔ sa.drop (k + 1) = sb.drop (k + 1)) := by
          show _ ↔ _
          rw [(show _ ↔ _ from HRun), (show _ ↔ _ from HDE)]; simp [hxy]
        clear hxy HRun
        go_wp2_with fail
        go_region
        all_goals (go_wp2_with fail)
        all_goals
          go_roundg (sa.length - (k + 1))
          case measure => omega
          case rel => exact ⟨k + 1, by omega, by simp, by (repeat' (first | (with_reducible assumption) | (with_reducible exact Bw.refl _) | (with_reducible refine Bw.alloc ?_ _) | (with_reducible refine Bw.drew ?_) | (with_reducible refine Bw.drewN ?_ _) | (with_reducible refine Bw.setCell ?_ ?_ _) | exact Nat.le_refl _)), HN⟩
      · have hN := Pol.neqSrc x y true (by simp [hxy])
        have HN : Hid (¬ _) := fun h => hxy ((show _ ↔ _ from HDE).1 ((show _ ↔ _ from HRun).1 ((show _ ↔ _ from HEq).1 h).1)).1
        clear hxy HRun
        go_wp2_with fail
        go_region
        all_goals (go_wp2_with fail)
        all_goals
          go_returns
          exact same_no HN (hbA.trans (by (repeat' (first | (with_reducible assumption) | (with_reducible exact Bw.refl _) | (with_reducible refine Bw.alloc ?_ _) | (with_reducible refine Bw.drew ?_) | (with_reducible refine Bw.drewN ?_ _) | (with_reducible refine Bw.setCell ?_ ?_ _) | exact Nat.le_refl _))))
end Go.Proofs.Ytkffkmiegmaoiaa
