/- THE LAWS OF LAYER 3: MemBuffers. -/
import Derived.Test.YtlnfgdbondmglaaMemLaws3
import Derived.Laws.BytesArg
namespace Go.Proofs.Ytlnfgdbondmglaa
open Go.ChangeShapes Go.WideShapes Go.ChangeAt Go.RowKit
set_option linter.unusedSimpArgs false
set_option linter.unusedVariables false

/-- A slice of bytes that came in. -/
def BArg (W : World) (v : Value) (n : Nat) (bs : Nat → Int) : Prop :=
  ∃ q cap, v = .slice q n cap ∧ n ≤ cap ∧ (∀ i, 0 ≤ bs i ∧ bs i < 256) ∧ (0 < n → ∃ b o, q = some ⟨b, o, none⟩ ∧ b < W.heap.size ∧ ∀ i, i < n → W.cell? ⟨b, o + i, none⟩ = some (.int .u8 (bs i)))

theorem cnt_div {a : Int} {n i : Nat} (h : i < n) : ∃ j : Nat, j < cnt a n ∧ (a + (i : Int)) / 256 = a / 256 + j := by
  have h0 : 0 ≤ a % 256 ∧ a % 256 < 256 := by omega
  refine ⟨((a % 256 + i) / 256).toNat, ?_, by omega⟩
  unfold cnt
  rw [if_neg (by omega)]
  omega
theorem put_at {S : MS} {a : Int} {n : Nat} {need : Int} {bs : Nat → Int} (hm : May S a n need) {i : Nat} (hi : i < n) : (S.put a n bs).at (a + i) = bs i := by
  obtain ⟨j, hj, e⟩ := cnt_div (a := a) hi
  obtain ⟨p, hp, _⟩ := hm.2 j hj
  unfold MS.at MS.put MS.putJ
  simp only
  rw [e, if_pos (by omega), hp]
  simp only [Option.map, putPg]
  have h0 : 0 ≤ (a + (i : Int)) % 256 ∧ (a + (i : Int)) % 256 < 256 := by omega
  rw [if_pos (by omega)]
  congr 1; omega
theorem put_bytes {S : MS} {a : Int} {n : Nat} {need : Int} {bs : Nat → Int} (hm : May S a n need) : (S.put a n bs).bytes a n = (List.range n).map (fun i => Value.int .u8 (bs i)) := by
  unfold MS.bytes
  apply List.map_congr_left
  intro i hi
  rw [put_at hm (by simpa using hi)]
theorem put_pg {S : MS} {a : Int} {n : Nat} {bs : Nat → Int} {k : Int} {p : Pg} (hp : S.pg k = some p) : ∃ p', (S.put a n bs).pg k = some p' ∧ p'.perm = p.perm := by
  unfold MS.put MS.putJ
  simp only
  split
  · rw [hp]; exact ⟨_, rfl, rfl⟩
  · exact ⟨p, hp, rfl⟩
theorem prot_at {S : MS} {l : List Int} {perm : Int} (x : Int) : (S.prot l perm).at x = S.at x := by
  unfold MS.at MS.prot
  simp only
  split <;> rename_i h <;> revert h
  · split
    · intro h
      cases e : S.pg (x / 256) with
      | none => rw [e] at h; cases h
      | some p => rw [e] at h; cases h; rfl
    · intro h; rw [h]
  · split
    · intro h
      cases e : S.pg (x / 256) with
      | none => rfl
      | some p => rw [e] at h; cases h
    · intro h; rw [h]
theorem prot_bytes {S : MS} {l : List Int} {perm a : Int} {n : Nat} : (S.prot l perm).bytes a n = S.bytes a n := by
  unfold MS.bytes
  apply List.map_congr_left
  intro i _
  rw [prot_at]
/-- The bytes of a row, as a string. -/
theorem conv_row {w : World} {v : Value} {n : Nat} {f : Nat → Int} (hn : 0 < n) (h : w.ownsRow 0 5 1 v n ((List.range n).map (fun i => Value.int .u8 (f i)))) :
    ∀ w', Gr w w' → (convert 33 9 v).run Try.prog w' = .ok (.string (strOfNums ((List.range n).map f))) w' := by
  intro w' hg
  rcases h.2 with ⟨_, e⟩ | ⟨g, cap, cur, rfl, _, hb, hc, _, hs, ht⟩
  · omega
  · refine run_convert_bytes_arg w' 33 5 Try.underlying33 Try.underlying5 g 0 n cap _ (by simp) (fun i hi => ?_) _ Try.underlying9
    have e : w.cell? ⟨g, 0 + i, none⟩ = some (.int .u8 (f i)) := by
      rw [Nat.zero_add, cell_of_row w g i cur _ (0, 0) hb]
      have : (cur.toList.take (n * 1))[i]? = ((List.range n).map (fun i => Value.int .u8 (f i)))[i]? := by rw [ht]
      rw [List.getElem?_take, if_pos (by omega)] at this
      rw [← Array.getElem?_toList, this]; simp [hi]
    rw [hg.keep e]; simp [hi]
theorem conv_arg {w : World} {b o n cap : Nat} {f : Nat → Int} (h : ∀ i, i < n → w.cell? ⟨b, o + i, none⟩ = some (.int .u8 (f i))) :
    ∀ w', Gr w w' → (convert 33 9 (.slice (some ⟨b, o, none⟩) n cap)).run Try.prog w' = .ok (.string (strOfNums ((List.range n).map f))) w' := by
  intro w' hg
  refine run_convert_bytes_arg w' 33 5 Try.underlying33 Try.underlying5 b o n cap _ (by simp) (fun i hi => ?_) _ Try.underlying9
  rw [hg.keep (h i hi)]; simp [hi]

theorem Unmap_hk {w0 w w1 : World} {mb N : Nat} {S : MS} (h : Has w0 w mb N S) (g1 : Gr w w1) (a n : Int) (ha : U4 a) (hn : U4 n) (hs : StOk a n) (c : Nat) (hc : (n + 255) / 256 = c) (hN : N + 4096 < maxLen) :
    Calls Try.prog 21 #[.pointer (some ⟨mb, 0, none⟩), .int .u32 a, .int .u32 n] w1 fun e w' => e = .returned (.int .i64 0) ∧ Has w0 w' mb (N + 4096) (S.unmap (a / 256) c) ∧ ∀ i, w.heap.size ≤ i → i < w1.heap.size → w'.heap[i]? = w1.heap[i]? := by
  obtain ⟨F, g, hF, L, o⟩ := h
  exact (Unmap_ok (o.gr g1) a n ha hn hs c hc _ rfl hN).mono (fun e w' ⟨h1, h2, h3⟩ => ⟨h1, ⟨F, Has.step (g.trans g1) hF h2, hF, h3⟩, fun i hi hi2 => h2.block i hi2 (fun x => by have := o.lt _ x; omega)⟩)
def bu1 : MS := (MS.new 8).mapS 0 1024 3
theorem bu_e : (MS.new 8).mapE 0 1024 3 = 0 := by decide +kernel
theorem bu_th : bu1.th = [0, 1, 2, 3] := by decide +kernel
theorem bu_pg {k : Int} (h : 0 ≤ k ∧ k < 4) : bu1.pg k = some (Pg.fresh 3 1) := new_pg bu_e (by omega) (by omega)
theorem bu_cnt {a : Int} {n : Nat} (ha : 0 ≤ a ∧ a ≤ 255) (hn : n ≤ 700) : cnt a n ≤ 4 ∧ a / 256 = 0 ∧ a + n ≤ 4294967296 := by
  have h0 : a % 256 = a := by omega
  refine ⟨?_, by omega, by omega⟩
  unfold cnt; split <;> omega
theorem bu_may {a : Int} {n : Nat} (ha : 0 ≤ a ∧ a ≤ 255) (hn : n ≤ 700) : May bu1 a n 2 := by
  obtain ⟨h1, h2, h3⟩ := bu_cnt ha hn
  refine ⟨h3, fun j hj => ⟨_, bu_pg (by omega), b32⟩⟩
theorem bu_may1 {a : Int} {n : Nat} {bs : Nat → Int} (ha : 0 ≤ a ∧ a ≤ 255) (hn : n ≤ 700) : May (bu1.put a n bs) a n 1 := by
  obtain ⟨h1, h2, h3⟩ := bu_cnt ha hn
  refine ⟨h3, fun j hj => ?_⟩
  obtain ⟨p', q1, q2⟩ := put_pg (S := bu1) (a := a) (n := n) (bs := bs) (bu_pg (k := a / 256 + j) (by omega))
  exact ⟨p', q1, by rw [q2]; exact b31⟩
/-- Behind Protect of one page. -/
structure BuF (a hole : Int) (n : Nat) (bs : Nat → Int) : Prop where
  he : lb (bu1.put a n bs).th (256 * hole / 256 + ((1 : Nat) : Int)) = lb (bu1.put a n bs).th (256 * hole / 256) + 1
  no : ¬ May ((bu1.put a n bs).prot (stl (bu1.put a n bs).th (256 * hole / 256) 1) 1) a n 2
  yes : May ((bu1.put a n bs).prot (stl (bu1.put a n bs).th (256 * hole / 256) 1) 1) a n 1
  gone : ¬ May (((bu1.put a n bs).prot (stl (bu1.put a n bs).th (256 * hole / 256) 1) 1).unmap (256 * hole / 256) 1) a n 1
theorem bu_facts {a hole : Int} {n : Nat} {bs : Nat → Int} (ha : 0 ≤ a ∧ a ≤ 255) (hn : 1 ≤ n ∧ n ≤ 700) (hh : 0 ≤ hole ∧ hole ≤ (a + n - 1) / 256) : BuF a hole n bs := by
  obtain ⟨h1, h2, h3⟩ := bu_cnt ha hn.2
  have e0 : 256 * hole / 256 = hole := by omega
  have hcn : hole.toNat < cnt a n := by unfold cnt; rw [if_neg (by omega)]; omega
  have hth : (bu1.put a n bs).th = [0, 1, 2, 3] := bu_th
  have hrise : [(0 : Int), 1, 2, 3].Pairwise (· < ·) := by decide
  have hst : ∀ k, k ∈ stl [(0 : Int), 1, 2, 3] hole 1 ↔ k = hole := fun k => by
    rw [mem_stl hrise]
    constructor
    · rintro ⟨_, x, y⟩; omega
    · rintro rfl
      refine ⟨?_, by omega, by omega⟩
      have : k = 0 ∨ k = 1 ∨ k = 2 ∨ k = 3 := by omega
      rcases this with rfl | rfl | rfl | rfl <;> simp
  have hpg : ∀ k, 0 ≤ k ∧ k < 4 → ∃ p, ((bu1.put a n bs).prot (stl [(0 : Int), 1, 2, 3] hole 1) 1).pg k = some p ∧ p.perm = if k = hole then 1 else 3 := fun k hk => by
    obtain ⟨p', q1, q2⟩ := put_pg (S := bu1) (a := a) (n := n) (bs := bs) (bu_pg (k := k) hk)
    simp only [MS.prot]
    by_cases e : k = hole
    · rw [if_pos ((hst k).2 e), q1, if_pos e]; exact ⟨_, rfl, rfl⟩
    · rw [if_neg (fun x => e ((hst k).1 x)), if_neg e]; exact ⟨p', q1, q2⟩
  refine ⟨?_, ?_, ?_, ?_⟩
  · rw [e0, hth]
    have : hole = 0 ∨ hole = 1 ∨ hole = 2 ∨ hole = 3 := by omega
    rcases this with rfl | rfl | rfl | rfl <;> decide
  · rw [e0, hth]
    intro m
    obtain ⟨p, q1, q2⟩ := m.2 hole.toNat hcn
    obtain ⟨p', r1, r2⟩ := hpg hole (by omega)
    rw [h2, show (0 : Int) + (hole.toNat : Int) = hole by omega, r1] at q1
    cases q1
    rw [r2, if_pos rfl] at q2
    exact absurd q2 (by decide)
  · rw [e0, hth]
    refine ⟨h3, fun j hj => ?_⟩
    obtain ⟨p', r1, r2⟩ := hpg (a / 256 + j) (by omega)
    refine ⟨p', r1, ?_⟩
    rw [r2]
    split <;> decide
  · rw [e0, hth]
    intro m
    obtain ⟨p, q1, q2⟩ := m.2 hole.toNat hcn
    rw [h2, show (0 : Int) + (hole.toNat : Int) = hole by omega] at q1
    simp only [MS.unmap] at q1
    rw [if_pos] at q1
    · cases q1
    · show hole ∈ stl (bu1.put a n bs).th hole 1
      rw [hth]; exact (hst hole).2 rfl

set_option maxRecDepth 100000 in
set_option maxHeartbeats 4000000 in
theorem MemBuffers_no (q : Option Addr) (n cap : Nat) (x hole : Int) (hno : ¬ (1 ≤ n ∧ n ≤ 700 ∧ 0 ≤ x ∧ x ≤ 255)) (w : World) :
    Calls Try.prog 6 #[.slice q n cap, .int .i64 x, .int .i64 hole] w fun e w' => e = .returned (.bool true) ∧ Gr w w' := by
  by_cases h1 : (n : Int) < 1
  · go_enter Try.func6, Try.ntmps6
    go_wp2_with fail
    refine (awake_c _).mono ?_
    rintro e w1 ⟨rfl, g1⟩
    go_wp2_with fail
    go_returns
    exact ⟨rfl, g1⟩
  · by_cases h2 : (700 : Int) < n
    · go_enter Try.func6, Try.ntmps6
      go_wp2_with fail
      refine (awake_c _).mono ?_
      rintro e w1 ⟨rfl, g1⟩
      go_wp2_with fail
      go_returns
      exact ⟨rfl, g1⟩
    · have k1 : decide ((n : Int) < 1) = false := by simpa using h1
      have k2 : decide ((700 : Int) < n) = false := by simpa using h2
      by_cases h3 : x < 0
      · clear h1 h2
        go_enter Try.func6, Try.ntmps6
        go_wp2_with fail
        refine (awake_c _).mono ?_
        rintro e w1 ⟨rfl, g1⟩
        go_wp2_with fail
        go_returns
        exact ⟨rfl, g1⟩
      · have h4 : 255 < x := by omega
        have k3 : decide (x < 0) = false := by simpa using h3
        clear h1 h2 h3
        go_enter Try.func6, Try.ntmps6
        go_wp2_with fail
        refine (awake_c _).mono ?_
        rintro e w1 ⟨rfl, g1⟩
        go_wp2_with fail
        go_returns
        exact ⟨rfl, g1⟩

set_option maxRecDepth 100000 in
set_option maxHeartbeats 4000000 in
theorem MemBuffers_yes (b o n cap : Nat) (bs : Nat → Int) (x hole : Int) (hn : 1 ≤ n ∧ n ≤ 700) (hx : 0 ≤ x ∧ x ≤ 255) (hcap : n ≤ cap) (hb8 : ∀ i, 0 ≤ bs i ∧ bs i < 256) (w : World) (hbw : b < w.heap.size)
    (hbs : ∀ i, i < n → w.cell? ⟨b, o + i, none⟩ = some (.int .u8 (bs i))) :
    Calls Try.prog 6 #[.slice (some ⟨b, o, none⟩) n cap, .int .i64 x, .int .i64 hole] w fun e w' => e = .returned (.bool true) ∧ Gr w w' := by
  have m0 := bu_e
  have my := bu_may hx hn.2
  have my1 := bu_may1 (bs := bs) hx hn.2
  have hby := put_bytes (bs := bs) my
  have hux : U4 x := ⟨by omega, by omega⟩
  have cb : ∀ w', Gr w w' → _ := conv_arg (cap := cap) hbs
  have hmk := run_make_row' (P := Try.prog) 33 5 (.int .u8 0) 1 Try.underlying33 infoB rfl .i64 .i64 n (by omega) (by omega)
  obtain ⟨hn1, hn2⟩ := hn
  obtain ⟨hx1, hx2⟩ := hx
  have BF : (0 ≤ hole ∧ hole ≤ (x + n - 1) / 256) → BuF x hole n bs := bu_facts ⟨hx1, hx2⟩ ⟨hn1, hn2⟩
  have HBF : Hid _ := BF
  have HBY : Hid _ := hby
  have HCB : Hid _ := cb
  have HBS : Hid _ := hbs
  clear BF hby cb hbs
  have kn1 : ¬ (n : Int) < 1 := by omega
  have kn2 : ¬ (700 : Int) < n := by omega
  go_enter Try.func6, Try.ntmps6
  go_wp2_with fail
  refine (awake_c _).mono ?_
  rintro e w1 ⟨rfl, g1⟩
  go_wp2_with fail
  refine (New_h g1 8 (by omega)).mono ?_
  rintro e w2 ⟨mb, rfl, h0⟩
  go_wp2_with fail
  refine (Map_h h0 0 1024 3 (by unfold U4; omega) (by unfold U4; omega) (by unfold maxLen; omega) (fun _ => new_ins _ _)).mono ?_
  rw [m0]
  rintro e w3 ⟨rfl, h1⟩
  replace h1 : Has w w3 mb _ bu1 := h1
  go_wp2_with fail
  refine (Write_hy h1 (Gr.refl w3) x n hux (by omega) (by omega) my b o cap bs hcap (fun i hi => h1.gr.keep (HBS.out i hi)) hb8 (.inl hbw)).mono ?_
  rintro e w4 ⟨rfl, h2⟩
  go_wp2_with fail
  refine (Read_hy h2 x n hux (by omega) my1).mono ?_
  rintro e w5 ⟨vx, rfl, g5, h3, hrow, _⟩
  rw [HBY.out] at hrow
  have c1 := conv_row (by omega) hrow w5 (Gr.refl _)
  have c2 := HCB.out w5 h3.gr
  obtain ⟨qx, cx, rfl⟩ := row_shape hrow
  clear hrow
  by_cases hh1 : hole < 0
  · go_wp2_with fail
    go_returns
    exact ⟨rfl, h3.gr⟩
  by_cases hh2 : (x + n - 1) / 256 < hole
  · go_wp2_with fail
    go_returns
    exact ⟨rfl, h3.gr⟩
  have B := HBF.out ⟨by omega, by omega⟩
  have HB : Hid _ := B
  have hho : 0 ≤ hole := by omega
  have hho2 : hole ≤ 4 := by omega
  clear B
  go_wp2_with fail
  refine (Protect_h0 h3 (256 * hole) 256 1 (by unfold U4; omega) (by unfold U4; omega) (by unfold StOk; omega) (by omega) 1 (by omega) HB.out.he).mono ?_
  rintro e w6 ⟨rfl, h4⟩
  go_wp2_with fail
  refine (Write_hn (h4.on ((Gr.refl w6).alloc _ _)) x n hux (by omega) HB.out.no _ n).mono ?_
  rintro e w7 ⟨rfl, h5⟩
  go_wp2_with fail
  refine (Read_hy h5 x n hux (by omega) HB.out.yes).mono ?_
  rintro e w8 ⟨vy, rfl, g8, h6, hrowy, hblky⟩
  rw [prot_bytes, HBY.out] at hrowy
  obtain ⟨qy, cy, hqy⟩ := row_shape hrowy
  subst hqy
  have HRY : Hid _ := hrowy
  have HBK : Hid _ := hblky
  clear hrowy c1 c2 hblky
  go_wp2_with fail
  refine (Unmap_hk h5 g8 (256 * hole) 256 (by unfold U4; omega) (by unfold U4; omega) (by unfold StOk; omega) 1 (by omega) (by unfold maxLen; omega)).mono ?_
  rintro e w9 ⟨rfl, h7, hk9⟩
  have hrow9 := row_congr HRY.out (w' := w9) (fun g hg => hk9 g (HBK.out g hg) (by obtain ⟨cc, oc⟩ := row_obj HRY.out hg; exact (Array.getElem?_eq_some_iff.1 oc).1))
  have HR9 : Hid _ := hrow9
  clear hrow9 hk9
  go_wp2_with fail
  refine (Read_hn h7 x n hux (by omega) HB.out.gone).mono ?_
  rintro e w10 ⟨rfl, g10, h8⟩
  have c3 := conv_row (by omega) HR9.out w10 g10
  have c4 := HCB.out w10 h8.gr
  go_wp2_with fail
  go_returns
  exact ⟨rfl, h8.gr⟩
theorem MemBuffers_w {v : Value} {n : Nat} {bs : Nat → Int} {w : World} (hB : BArg w v n bs) (x hole : Int) :
    Calls Try.prog 6 #[v, .int .i64 x, .int .i64 hole] w fun e w' => e = .returned (.bool true) ∧ Gr w w' := by
  obtain ⟨q, cap, rfl, hcap, hb8, hq⟩ := hB
  by_cases h : 1 ≤ n ∧ n ≤ 700 ∧ 0 ≤ x ∧ x ≤ 255
  · obtain ⟨b, o, rfl, hbw, hbs⟩ := hq (by omega)
    exact MemBuffers_yes b o n cap bs x hole ⟨h.1, h.2.1⟩ h.2.2 hcap hb8 w hbw hbs
  · exact MemBuffers_no q n cap x hole h w
end Go.Proofs.Ytlnfgdbondmglaa
