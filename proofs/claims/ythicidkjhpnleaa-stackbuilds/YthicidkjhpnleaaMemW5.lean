/- THE WALKS OF LAYER 3: slices.Insert at the end; Map. -/
import Derived.Test.YthicidkjhpnleaaMemW4
import Derived.Test.YthicidkjhpnleaaMemRow
namespace Go.Proofs.Ythicidkjhpnleaa
open Go.ChangeShapes Go.WideShapes Go.ChangeAt Go.RowKit
set_option linter.unusedSimpArgs false
set_option linter.unusedVariables false

/-- What slices.Insert does at place i. -/
def InsSpec (th : List Int) (i : Nat) : Prop := ∀ (w : World) (v : Value) (g : Nat) (news : List Int), news ≠ [] → th.length + news.length ≤ 4096 → w.ownsRow 0 24 1 v th.length (th.map (Value.int .u32)) →
  w.heap[g]? = some (.cells (news.map (Value.int .u32)).toArray 24 (0, 0)) → v.ownBlock ≠ some g →
  Calls Try.prog 37 #[v, .int .i64 i, .slice (some ⟨g, 0, none⟩) news.length news.length] w fun e w' => ∃ v', e = .returned v' ∧
    w'.ownsRow 0 24 1 v' (th.length + news.length) ((th.take i ++ news ++ th.drop i).map (Value.int .u32)) ∧ Fr (fun k => v.ownBlock = some k) w w' ∧ (v'.ownBlock = v.ownBlock ∨ ∃ k, v'.ownBlock = some k ∧ w.heap.size ≤ k)

theorem one_u32 (l : List Int) : ∀ u ∈ l.map (Value.int .u32), u.oneCell' = true := by
  intro u hu
  obtain ⟨x, _, rfl⟩ := List.mem_map.1 hu
  rfl

set_option maxRecDepth 100000 in
theorem Insert_end (th : List Int) : InsSpec th th.length := by
  intro w v g news hne hlen hr hg hd
  have hm : 0 < news.length := List.length_pos_iff.2 hne
  obtain ⟨i0, hi, hz0, hz1, hz2⟩ := info_parts infoU
  obtain ⟨v', w', hrun, hown, hfr, hat⟩ := append_fr (t := 38) (ty := 38) w Try.underlying38 hi hz0 hz1 hz2 rfl hr ⟨g, 0, none⟩ news.length news.length (news.map (Value.int .u32)) (by simp)
    (by have := news_of hg; simpa using this) (one_u32 _) hm (by omega) (by omega)
  obtain ⟨m, hmm⟩ : ∃ m, m = news.length := ⟨_, rfl⟩
  obtain ⟨n, hn⟩ : ∃ n, n = th.length := ⟨_, rfl⟩
  have hfin : w'.ownsRow 0 24 1 v' (n + m) ((th.take n ++ news ++ th.drop n).map (Value.int .u32)) := by
    rw [hn, hmm]; simpa using hown
  have FIN : Hid _ := hfin
  rw [← hn, ← hmm] at hlen
  rw [← hmm] at hm
  have hat' : v'.ownBlock = v.ownBlock ∨ ∃ k, v'.ownBlock = some k ∧ w.heap.size ≤ k := hat.imp id (fun h => ⟨_, h, Nat.le_refl _⟩)
  have AT : Hid _ := hat'
  have HR := hr.2
  rw [← hn] at HR ⊢
  rw [← hmm] at hrun ⊢
  generalize (List.map (Value.int IntKind.u32) (List.take n th ++ news ++ List.drop n th)) = zs at hfin ⊢
  clear FIN
  have FIN : Hid _ := hfin
  clear hat hat' hfin hown hr hn hmm hne
  rcases HR with ⟨rfl, rfl⟩ | ⟨b, cap, cur, rfl, _, _, hnc, _, _, _⟩
  · have hm0 : (((m : Nat) : Int) == 0) = false := by simp; omega
    go_enter Try.func37, Try.ntmps37
    go_wp2_with (first | (at_builtin; refine wpList_append_eq rfl _ _ 38 rfl rfl rfl hrun ?_) | go_in)
    all_goals go_returns
    all_goals exact ⟨v', rfl, FIN.out, hfr, AT.out⟩
  · have hm0 : (((m : Nat) : Int) == 0) = false := by simp; omega
    have hnc' : (n : Int) ≤ (cap : Int) := by omega
    go_enter Try.func37, Try.ntmps37
    go_wp2_with (first | (at_builtin; refine wpList_append_eq rfl _ _ 38 rfl rfl rfl hrun ?_) | go_in)
    all_goals go_returns
    all_goals exact ⟨v', rfl, FIN.out, hfr, AT.out⟩
end Go.Proofs.Ythicidkjhpnleaa
