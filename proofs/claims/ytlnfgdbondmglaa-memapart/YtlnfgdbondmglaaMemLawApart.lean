/- THE LAWS OF LAYER 3: MemApart. -/
import Derived.Test.YtlnfgdbondmglaaLiftB
import Derived.Test.YtlnfgdbondmglaaMemIns
import Derived.Test.YtlnfgdbondmglaaMemCopy2
namespace Go.Proofs.Ytlnfgdbondmglaa
open Go.ChangeShapes Go.WideShapes Go.ChangeAt Go.RowKit
set_option linter.unusedSimpArgs false
set_option linter.unusedVariables false

theorem Copy_h {w0 w : World} {mb N : Nat} {S : MS} (h : Has w0 w mb N S) (hN : N ≤ maxLen) :
    Calls Try.prog 32 #[.pointer (some ⟨mb, 0, none⟩)] w fun e w' => ∃ nb, e = .returned (.pointer (some ⟨nb, 0, none⟩)) ∧ Has w w' nb N S := by
  obtain ⟨F, g, hF, L, o⟩ := h
  exact (Copy_c o hN).mono (fun e w' ⟨nb, h1, h2, h3⟩ => ⟨nb, h1, _, h2, fun i hi => hi.1, h3⟩)
theorem row_first {w : World} {v : Value} {n : Nat} {f : Nat → Int} (hn : 0 < n) (h : w.ownsRow 0 5 1 v n ((List.range n).map (fun i => Value.int .u8 (f i)))) :
    ∃ g cap, v = .slice (some ⟨g, 0, none⟩) n cap ∧ v.ownBlock = some g ∧ w.cell? ⟨g, 0, none⟩ = some (.int .u8 (f 0)) ∧ w.frozen? ⟨g, 0, none⟩ = false := by
  rcases h.2 with ⟨_, e⟩ | ⟨g, cap, cur, rfl, _, hb, hc, _, hs, ht⟩
  · omega
  · refine ⟨g, cap, rfl, rfl, ?_, by simp [World.frozen?, hb]⟩
    rw [cell_of_row w g 0 cur _ (0, 0) hb]
    have : (cur.toList.take (n * 1))[0]? = ((List.range n).map (fun i => Value.int .u8 (f i)))[0]? := by rw [ht]
    rw [List.getElem?_take, if_pos (by omega)] at this
    rw [← Array.getElem?_toList, this]; simp [hn]
def ap1 : MS := (MS.new 4).mapS 0 256 3
theorem ap_e : (MS.new 4).mapE 0 256 3 = 0 := by decide +kernel
theorem ap_th : ap1.th = [0] := by decide +kernel
theorem ap_pgk {k : Int} (h : 0 ≤ k ∧ k < 1) : ap1.pg k = some (Pg.fresh 3 1) := new_pg ap_e (by omega) (by omega)
theorem ap_pg : ap1.pg 0 = some (Pg.fresh 3 1) := ap_pgk (by omega)
theorem ap_may {a : Int} {n : Nat} (ha : 0 ≤ a ∧ a ≤ 50) (hn : n ≤ 200) : May ap1 a n 2 := by
  refine ⟨by omega, fun j hj => ⟨Pg.fresh 3 1, ?_, b32⟩⟩
  have hc : cnt a n ≤ 1 := by unfold cnt; split <;> omega
  rw [show a / 256 + (j : Int) = 0 by omega]
  exact ap_pg
theorem ap_may1 {a : Int} {n : Nat} {bs : Nat → Int} (ha : 0 ≤ a ∧ a ≤ 50) (hn : n ≤ 200) : May (ap1.put a n bs) a n 1 := by
  refine ⟨by omega, fun j hj => ?_⟩
  have hc : cnt a n ≤ 1 := by unfold cnt; split <;> omega
  obtain ⟨p', q1, q2⟩ := put_pg (S := ap1) (a := a) (n := n) (bs := bs) ap_pg
  refine ⟨p', ?_, by rw [q2]; exact b31⟩
  rw [show a / 256 + (j : Int) = 0 by omega]
  exact q1
theorem ap_gen {a : Int} {n : Nat} {bs : Nat → Int} (ha : 0 ≤ a ∧ a ≤ 50) (hn : 1 ≤ n ∧ n ≤ 200) : (ap1.put a n bs).gen 0 = 2 := by
  have hc : cnt a n = 1 := by unfold cnt; rw [if_neg (by omega)]; omega
  unfold MS.gen MS.put MS.putJ
  simp only
  rw [hc, if_pos (by omega), show (0 : Int) / 256 = 0 by omega, ap_pg]
  simp [putPg, Pg.fresh]
theorem ap_len {a : Int} {n : Nat} {bs : Nat → Int} : (ap1.put a n bs).th.length = 1 := by
  show ap1.th.length = 1
  rw [ap_th]; rfl

set_option maxRecDepth 100000 in
set_option maxHeartbeats 4000000 in
theorem MemApart_no (q : Option Addr) (n cap : Nat) (x y : Int) (hx : 0 ≤ x) (hno : ¬ (1 ≤ n ∧ n ≤ 200 ∧ x ≤ 50)) (w : World) :
    Calls Try.prog 8 #[.slice q n cap, .int .u32 x, .int .u8 y] w fun e w' => e = .returned (.bool true) ∧ Gr w w' := by
  by_cases h1 : (n : Int) < 1
  · go_enter Try.func8, Try.ntmps8
    go_wp2_with fail
    refine (awake_c _).mono ?_
    rintro e w1 ⟨rfl, g1⟩
    go_wp2_with fail
    go_returns
    exact ⟨rfl, g1⟩
  · by_cases h2 : (200 : Int) < n
    · go_enter Try.func8, Try.ntmps8
      go_wp2_with fail
      refine (awake_c _).mono ?_
      rintro e w1 ⟨rfl, g1⟩
      go_wp2_with fail
      go_returns
      exact ⟨rfl, g1⟩
    · have h4 : 50 < x := by omega
      have k1 : decide ((n : Int) < 1) = false := by simpa using h1
      have k2 : decide ((200 : Int) < n) = false := by simpa using h2
      clear h1 h2
      go_enter Try.func8, Try.ntmps8
      go_wp2_with fail
      refine (awake_c _).mono ?_
      rintro e w1 ⟨rfl, g1⟩
      go_wp2_with fail
      go_returns
      exact ⟨rfl, g1⟩

set_option maxRecDepth 100000 in
set_option maxHeartbeats 4000000 in
theorem MemApart_yes (b o n cap : Nat) (bs : Nat → Int) (x y : Int) (hn : 1 ≤ n ∧ n ≤ 200) (hx : 0 ≤ x ∧ x ≤ 50) (hy : 0 ≤ y ∧ y < 256) (hcap : n ≤ cap) (hb8 : ∀ i, 0 ≤ bs i ∧ bs i < 256) (w : World) (hbw : b < w.heap.size)
    (hbs : ∀ i, i < n → w.cell? ⟨b, o + i, none⟩ = some (.int .u8 (bs i))) :
    Calls Try.prog 8 #[.slice (some ⟨b, o, none⟩) n cap, .int .u32 x, .int .u8 y] w fun e w' => e = .returned (.bool true) ∧ Gr w w' := by
  have m0 := ap_e
  have my := ap_may hx hn.2
  have my1 := ap_may1 (bs := bs) hx hn.2
  have hby := put_bytes (bs := bs) my
  have hgen := ap_gen (bs := bs) hx hn
  have hlen := ap_len (a := x) (n := n) (bs := bs)
  have hux : U4 x := ⟨by omega, by omega⟩
  have cb : ∀ w', Gr w w' → _ := conv_arg (cap := cap) hbs
  obtain ⟨hn1, hn2⟩ := hn
  obtain ⟨hx1, hx2⟩ := hx
  obtain ⟨hy1, hy2⟩ := hy
  have HBY : Hid _ := hby
  have HCB : Hid _ := cb
  have HBS : Hid _ := hbs
  clear hby cb hbs
  have kn1 : ¬ (n : Int) < 1 := by omega
  have kn2 : ¬ (200 : Int) < n := by omega
  have kx : ¬ (50 : Int) < x := by omega
  have ky : (y + 1) % 4294967296 = y + 1 := by omega
  go_enter Try.func8, Try.ntmps8
  go_wp2_with fail
  refine (awake_c _).mono ?_
  rintro e w1 ⟨rfl, g1⟩
  go_wp2_with fail
  refine (New_h g1 4 (by omega)).mono ?_
  rintro e w2 ⟨mb, rfl, h0⟩
  go_wp2_with fail
  refine (Map_h h0 0 256 3 (by unfold U4; omega) (by unfold U4; omega) (by unfold maxLen; omega) (fun _ => new_ins _ _)).mono ?_
  rw [m0]
  rintro e w3 ⟨rfl, h1⟩
  replace h1 : Has w w3 mb _ ap1 := h1
  go_wp2_with fail
  refine (Write_hy h1 (Gr.refl w3) x n hux (by omega) (by omega) my b o cap bs hcap (fun i hi => h1.gr.keep (HBS.out i hi)) hb8 (.inl hbw)).mono ?_
  rintro e w4 ⟨rfl, h2⟩
  generalize hS : ap1.put x n bs = S at *
  go_wp2_with fail
  refine (Copy_h h2 (by unfold maxLen; omega)).mono ?_
  rintro e w5 ⟨nb, rfl, k0⟩
  go_wp2_with fail
  refine (Store_h k0 x 1 (y + 1) hux (by unfold U4; omega)).mono ?_
  rintro e w6 ⟨rfl, k1⟩
  go_wp2_with fail
  refine (Unmap_h k1 0 1 (by unfold U4; omega) (by unfold U4; omega) (by unfold StOk; omega) 1 (by omega) (by unfold maxLen; omega)).mono ?_
  rintro e w7 ⟨rfl, k2⟩
  go_wp2_with fail
  refine (Map_h k2 512 1 7 (by unfold U4; omega) (by unfold U4; omega) (by unfold maxLen; omega) (fun _ => Insert_any _ _ (lb_le k2.ok.rise _))).mono ?_
  rintro e w8 ⟨rfl, k3⟩
  have h3 := h2.on k3.gr
  clear k0 k1 k2 k3
  go_wp2_with fail
  refine (Read_hy h3 x n hux (by omega) my1).mono ?_
  rintro e w9 ⟨vx, rfl, g9, h4, hrow, hblk⟩
  rw [HBY.out] at hrow
  obtain ⟨gx, cx, rfl, hob, hc0, hf0⟩ := row_first (by omega) hrow
  have hge := hblk gx hob
  clear hrow hblk hob
  have kn0 : (0 : Int) < n := by omega
  have kn0' : 0 < n := by omega
  go_wp2_with fail
  refine (Read_hy (h3.on (g9.setCell hge _)) x n hux (by omega) my1).mono ?_
  rintro e w10 ⟨vy, rfl, g10, h5, hrowy, _⟩
  rw [HBY.out] at hrowy
  have c1 := conv_row (by omega) hrowy w10 (Gr.refl _)
  have c2 := HCB.out w10 h5.gr
  obtain ⟨qy, cy, rfl⟩ := row_shape hrowy
  clear hrowy hc0 hf0
  go_wp2_with fail
  refine (Pages_h h5).mono ?_
  rw [hlen]
  rintro e w11 ⟨rfl, h6⟩
  go_wp2_with fail
  refine (Gen_h h6 0 (by unfold U4; omega)).mono ?_
  rw [hgen]
  rintro e w12 ⟨rfl, rfl⟩
  go_wp2_with fail
  go_returns
  exact ⟨rfl, h6.gr⟩
theorem MemApart_w {v : Value} {n : Nat} {bs : Nat → Int} {w : World} (hB : BArg w v n bs) (x y : Int) (hx : 0 ≤ x) (hy : 0 ≤ y ∧ y < 256) :
    Calls Try.prog 8 #[v, .int .u32 x, .int .u8 y] w fun e w' => e = .returned (.bool true) ∧ Gr w w' := by
  obtain ⟨q, cap, rfl, hcap, hb8, hq⟩ := hB
  by_cases h : 1 ≤ n ∧ n ≤ 200 ∧ x ≤ 50
  · obtain ⟨b, o, rfl, hbw, hbs⟩ := hq (by omega)
    exact MemApart_yes b o n cap bs x y ⟨h.1, h.2.1⟩ ⟨hx, h.2.2⟩ hy hcap hb8 w hbw hbs
  · exact MemApart_no q n cap x y hx h w
end Go.Proofs.Ytlnfgdbondmglaa
