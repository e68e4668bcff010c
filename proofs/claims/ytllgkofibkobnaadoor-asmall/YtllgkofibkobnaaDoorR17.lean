/- LAYER 6's law AsmAll. -/
import Derived.Test.YtllgkofibkobnaaDoorR16
import Derived.Test.YtllgkofibkobnaaDoorRU
import Derived.Test.YtllgkofibkobnaaDoorRJ
import Derived.Test.YtllgkofibkobnaaDoorRL4
import Derived.Test.YtllgkofibkobnaaDoorRL
import Derived.Test.YtllgkofibkobnaaDoorRS
import Derived.Test.YtllgkofibkobnaaDoorRB
import Derived.Test.YtllgkofibkobnaaDoorRI
import Derived.Test.YtllgkofibkobnaaDoorRR
import Derived.Test.YtllgkofibkobnaaDoorRN
namespace Go.Proofs.YtllgkofibkobnaaDoor
open Go.ChangeShapes Go.WideShapes Go.ChangeAt Go.RowKit

/-- The reference's Parse, whatever the text. -/
theorem rParse_all : RParse := by
  intro s w hl
  rcases hts : Asm.tok s with _ | ⟨hd, rest⟩
  · rw [← hts]; exact rParse_empty s w hl hts
  · rw [← hts]
    have hb := Asm.opOf_bd hd
    have hc : Asm.opOf hd = 0 ∨ (1 ≤ Asm.opOf hd ∧ Asm.opOf hd ≤ 2) ∨ (3 ≤ Asm.opOf hd ∧ Asm.opOf hd ≤ 3) ∨ (4 ≤ Asm.opOf hd ∧ Asm.opOf hd ≤ 4) ∨ (5 ≤ Asm.opOf hd ∧ Asm.opOf hd ≤ 10) ∨ (11 ≤ Asm.opOf hd ∧ Asm.opOf hd ≤ 15) ∨ (16 ≤ Asm.opOf hd ∧ Asm.opOf hd ≤ 18) ∨ (19 ≤ Asm.opOf hd ∧ Asm.opOf hd ≤ 27) ∨ (28 ≤ Asm.opOf hd ∧ Asm.opOf hd ≤ 45) ∨ (46 ≤ Asm.opOf hd ∧ Asm.opOf hd ≤ 49) := by omega
    rcases hc with h | h | h | h | h | h | h | h | h | h
    · exact rParse_noop s w hl hd rest hts h
    · exact rParse_u s w hl hd rest hts h
    · exact rParse_j s w hl hd rest hts h
    · exact rParse_L4 s w hl hd rest hts h
    · exact rParse_B s w hl hd rest hts h
    · exact rParse_L s w hl hd rest hts h
    · exact rParse_S s w hl hd rest hts h
    · exact rParse_I s w hl hd rest hts h
    · exact rParse_R s w hl hd rest hts h
    · exact rParse_N s w hl hd rest hts h
set_option maxHeartbeats 4000000 in
set_option maxRecDepth 100000 in
theorem AsmAll_w (l : List UInt8) (w : World) (ha : All6 w) :
    Calls Tryd.prog 3 #[.string (bs l)] w fun e w' => e = .returned (.bool true) ∧ Bw w w' := by
  by_cases h3 : 3000 < l.length
  · have h3i : (3000 : Int) < l.length := by omega
    go_enter Tryd.func3, Tryd.ntmps3
    go_wp2_with fail
    refine (awake6_c _ ha).mono ?_
    rintro e w1 ⟨rfl, hb1⟩
    go_wp2_with fail
    go_ret
    exact ⟨rfl, hb1⟩
  · have h3i : (l.length : Int) ≤ 3000 := by omega
    have hA := fun w1 (hb : Bw w w1) => All_c l w1 (by omega) (ha.t.bw hb) (ha.n.bw hb)
    have hR := fun w1 => rAssemble_c rParse_all l w1 (by omega)
    generalize Asm.all l = X at *
    go_enter Tryd.func3, Tryd.ntmps3
    go_wp2_with fail
    refine (awake6_c _ ha).mono ?_
    rintro e w1 ⟨rfl, hb1⟩
    go_wp2_with fail
    refine (hA _ hb1).mono ?_
    rintro e w2 ⟨v2, rfl, ho2, hb2⟩
    go_wp2_with fail
    refine (hR _).mono ?_
    rintro e w3 ⟨v3, rfl, ho3, hb3⟩
    have c1 := conv8 (ho2.bw hb3)
    have c2 := conv8 ho3
    generalize strOfNums X.1 = S at *
    go_wp2_with fail
    go_ret
    exact ⟨rfl, (hb1.trans hb2).trans hb3⟩
end Go.Proofs.YtllgkofibkobnaaDoor
