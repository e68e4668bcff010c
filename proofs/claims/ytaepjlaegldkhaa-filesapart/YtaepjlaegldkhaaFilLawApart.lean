/- LAYER 11's law FilesApart. -/
import Derived.Test.YtaepjlaegldkhaaFilOne
import Derived.Deep.CutBlock
namespace Go.Proofs.Ytaepjlaegldkhaa
open Go.ChangeShapes Go.WideShapes Go.ChangeAt Go.RowKit

def Fil.r (data o1 : List Int) (p : Nat) : Fil.St := ⟨[⟨⟨#[]⟩, data⟩], [⟨1, 0, p⟩, ⟨2, 0, 0⟩, ⟨2, 0, 0⟩] ++ List.replicate 13 Fil.no, o1, [], [], [], [], 0, 0, 0⟩
def Fil.inp (data : List Int) : Fee.Fd := ⟨[], data, [], [], [], []⟩
theorem Fil.inp_is {w : World} {data : List Int} {u : Value} (hu : Rd8 w u data) (h8 : B8s data) : IsFd w (.agg #[.slice none 0 0, u, .slice none 0 0, .slice none 0 0, .slice none 0 0, .slice none 0 0]) (Fil.inp data) :=
  ⟨_, _, _, _, _, _, rfl, RdR.nil _ _, hu, RdR.nil _ _, RdR.nil _ _, RdR.nil _ _, FlS.nil _, ⟨h8, by simp [Fil.inp], by intro x hx; simp [Fil.inp] at hx, by simp [Fil.inp]⟩⟩
theorem Fil.new_inp {data : List Int} (h : data.length ≤ 4096) : Fil.new (Fil.inp data) = Fil.r data [] 0 := by
  have hg : Fee.good (Fil.inp data) = true := by
    unfold Fee.good Fil.inp
    rw [decide_eq_true h]; rfl
  unfold Fil.new Fee.beg
  rw [if_pos hg]; rfl
theorem Fil.write_r (data o1 bs : List Int) (p : Nat) (h : (o1 ++ bs).length ≤ 65536) : Fil.write (Fil.r data o1 p) 1 bs = ((bs.length : Int), Fil.r data (o1 ++ bs) p) := by
  have hd : Fil.hd (Fil.r data o1 p) 1 = ⟨2, 0, 0⟩ := rfl
  unfold Fil.write
  rw [hd, if_neg (show ¬ (2 : Int) ≠ 2 by decide), if_neg (by rw [List.length_append] at h; show ¬ 65536 < o1.length + bs.length; omega)]
  rfl
theorem Fil.read_r (data o1 : List Int) (p : Nat) (n : Nat) (hn : n ≤ 4096) : Fil.read (Fil.r data o1 p) 0 n = ((data.drop p).take n, (((data.drop p).take n).length : Int), Fil.r data o1 (p + ((data.drop p).take n).length)) := by
  have hd : Fil.hd (Fil.r data o1 p) 0 = ⟨1, 0, p⟩ := rfl
  have hT : Fee.take [] 0 (min (max (n : Int) 0) 4096) = ((n : Int), 0) := by unfold Fee.take; rw [if_neg (by omega), show min (max (n : Int) 0) 4096 = (n : Int) by omega]; rfl
  have hg : Fil.got (Fil.r data o1 p) ⟨1, 0, p⟩ n = (data.drop p).take n := by
    show ((data.drop p).take (Fee.take [] 0 (min (max (n : Int) 0) 4096)).1.toNat) = _
    rw [hT, Int.toNat_natCast]
  unfold Fil.read
  rw [hd, if_neg (show ¬ (1 : Int) ≠ 1 by decide), hg, show (Fil.r data o1 p).sh = [] from rfl, show (Fil.r data o1 p).a = 0 from rfl, hT]
  rfl
theorem Fil.r_pos (data o1 : List Int) (p : Nat) (h : p ≤ 4611686018427387904) : ∀ (i : Nat) x, (Fil.r data o1 p).op[i]? = some x → x.pos ≤ 4611686018427387904 := fun i x hx => by
  have hm : x ∈ ([⟨1, 0, p⟩, ⟨2, 0, 0⟩, ⟨2, 0, 0⟩] ++ List.replicate 13 Fil.no) := List.mem_of_getElem? hx
  rcases List.mem_append.1 hm with hm | hm
  · simp at hm
    rcases hm with rfl | rfl <;> simp
    exact h
  · rw [List.eq_of_mem_replicate hm]; simp [Fil.no]
set_option maxHeartbeats 8000000 in
set_option maxRecDepth 100000 in
theorem FilesApart_w (v0 : Value) (n : Int) (W : World) (h0 : ∃ l, Rd8 W v0 l ∧ B8s l) : Calls Try.prog 6 #[v0, .int .i64 n] W fun e w' => e = .returned (.bool true) ∧ Bw W w' := by
  obtain ⟨data, hR, h8⟩ := h0
  have HR : Hid _ := hR
  have H8 : Hid _ := h8
  obtain ⟨q, cap, rfl, hc1, hc2, -⟩ := Rd8.open hR
  clear hR h8
  by_cases hb : data.length < 2 ∨ 100 < data.length ∨ n < 1 ∨ (data.length : Int) ≤ n
  · go_enter Try.func6, Try.ntmps6
    go_wp2_with fail
    refine (awake11_c _).mono ?_
    rintro e w0 ⟨rfl, hb0⟩
    go_wp2_with fail
    all_goals (go_returns; exact ⟨rfl, hb0⟩)
  have b1 : 2 ≤ (data.length : Int) := by omega
  have b2 : (data.length : Int) ≤ 100 := by omega
  have b3 : 1 ≤ n := by omega
  have b4 : n < (data.length : Int) := by omega
  clear hb
  obtain ⟨m, rfl⟩ : ∃ m : Nat, n = m := ⟨n.toNat, by omega⟩
  go_enter Try.func6, Try.ntmps6
  go_wp2_with fail
  refine (awake11_c _).mono ?_
  rintro e w0 ⟨rfl, hb0⟩
  have hN := lNew hb0 _ _ (Fil.inp_is ((show Rd8 W _ data from HR).bw hb0) H8)
  rw [Fil.new_inp (by omega)] at hN
  go_wp2_with fail
  refine hN.mono ?_
  rintro e w1 ⟨fb, A, rfl, h1, -, -, -⟩
  clear hN hb0
  have kc := kcB w1 #[.int .u8 97, .int .u8 98] 2 rfl
  have gA : Bw w1 (w1.alloc (.cells #[.int .u8 97, .int .u8 98] 5 (2, 3))) := (Bw.refl _).alloc _
  go_wp2_with fail
  refine (lWrite (h1.bw gA) 1 (litB [97, 98] (by simp)) (by intro x hx; simp at hx; unfold B8; omega) (by simp)).mono ?_
  rw [Fil.write_r _ _ _ _ (by simp)]
  rintro e w2 ⟨rfl, A2, h2, -⟩
  have g2 : LF W w2 fb A2 (Fil.r data [97, 98] 0) := h2
  clear h1 h2 kc gA
  go_wp2_with fail
  refine (lCopy g2).mono ?_
  rintro e w3 ⟨gb, G, rfl, hg3, g3, hb3, hGn⟩
  have hGA : ∀ i, G i → ¬ A2 i := fun i hi e => by have := hGn i hi; have := (g2.f.in_ i e).2; omega
  clear g2 hb3 hGn
  go_wp2_with fail
  refine (lRead g3 0 m (Fil.r_pos _ _ _ (by omega))).mono ?_
  rw [Fil.read_r _ _ _ _ (by omega)]
  rintro e w4 ⟨v4, rfl, -, h4, z4⟩
  have g4 : LF W w4 fb A2 (Fil.r data [97, 98] (0 + ((data.drop 0).take m).length)) := h4
  generalize (0 + ((data.drop 0).take m).length) = p4 at *
  have hg4 := hg3.fz z4 hGA (fun i hi => (g3.f.in_ i hi).1)
  clear g3 hg3 h4 z4
  go_wp2_with fail
  refine (lOut g4 1).mono ?_
  rw [show Fil.outAt (Fil.r data [97, 98] p4) 1 = [97, 98] from rfl]
  rintro e w5 ⟨v5, rfl, ho5, g5, hb5⟩
  have hg5 := hg4.bw hb5
  obtain ⟨ob, c5, rfl, o1, o2, o3, o4, o5, o6⟩ := ho5.form (by simp)
  have hobA : ¬ A2 ob := fun e => by have := (g4.f.in_ _ e).2; omega
  have hobG : ¬ G ob := fun e => by have := (hg4.f.in_ _ e).2; omega
  have d0 := o5 0 _ rfl
  have d0f := o6 0 (by simp)
  have hQ : Bq ob w5 (w5.setCell ⟨ob, 0, none⟩ (.int .u8 122)) := (Bq.refl _ _).set _ _
  have hoW : W.heap.size ≤ ob := Nat.le_trans g4.b.size o1
  have g6 : LF W (w5.setCell ⟨ob, 0, none⟩ (.int .u8 122)) fb A2 (Fil.r data [97, 98] p4) := g5.fz (B := fun i => i = ob) (Fz.of_bq hQ rfl) (fun i hi e => hobA (e ▸ hi)) (fun i e => e ▸ hoW)
  have hg6 : LF W (w5.setCell ⟨ob, 0, none⟩ (.int .u8 122)) gb G (Fil.r data [97, 98] 0) := hg5.fz (B := fun i => i = ob) (Fz.of_bq hQ rfl) (fun i hi e => hobG (e ▸ hi)) (fun i e => e ▸ hoW)
  clear g4 hg4 g5 hg5 hb5 ho5 o1 o2 o3 o4 o5 o6 hobA hobG hQ hoW
  go_upto_region 11 with fail
  generalize w5.setCell ⟨ob, 0, none⟩ (.int .u8 122) = w6 at *
  clear d0 d0f
  have kc := kcB w6 #[.int .u8 99] 1 rfl
  have gA : Bw w6 (w6.alloc (.cells #[.int .u8 99] 5 (1, 2))) := (Bw.refl _).alloc _
  go_wp2_with fail
  refine (lWrite (g6.bw gA) 1 (litB [99] (by simp)) (by intro x hx; simp at hx; unfold B8; omega) (by simp)).mono ?_
  rw [Fil.write_r _ _ _ _ (by simp)]
  rintro e w7 ⟨rfl, A3, h7, z7⟩
  have g7 : LF W w7 fb A3 (Fil.r data [97, 98, 99] p4) := h7
  have hg7 := (hg6.bw gA).fz z7.fz hGA (fun i hi => (g6.f.in_ i hi).1)
  have hGA3 : ∀ i, A3 i → ¬ G i := fun i e hi => hGA i hi (z7.le i ((hg6.bw gA).f.in_ i hi).2 e)
  clear g6 hg6 h7 z7 kc gA
  go_wp2_with fail
  refine (lRead hg7 0 data.length (Fil.r_pos _ _ _ (by omega))).mono ?_
  rw [Fil.read_r _ _ _ _ (by omega), show (data.drop 0).take data.length = data by rw [List.drop_zero, List.take_length]]
  rintro e w8 ⟨v8, rfl, ho8, h8', z8⟩
  have hg8 : LF W w8 gb G (Fil.r data [97, 98] (0 + data.length)) := h8'
  have g8 := g7.fz z8 hGA3 (fun i hi => (hg7.f.in_ i hi).1)
  obtain ⟨q8, c8, rfl⟩ := ho8.sl
  have cv8 := conv8 ho8
  have cvd := Rd8.conv ((show Rd8 W _ data from HR).bw g8.b)
  clear hg7 g7 h8' z8
  go_wp2_with fail
  refine (lOut hg8 1).mono ?_
  rw [show Fil.outAt (Fil.r data [97, 98] (0 + data.length)) 1 = [97, 98] from rfl]
  rintro e w9 ⟨v9, rfl, ho9, -, hb9⟩
  have cv9 := conv8 ho9
  rw [show strOfNums [97, 98] = ⟨#[97, 98]⟩ from by decide +kernel] at cv9
  have g9 := g8.bw hb9
  clear g8 hg8
  go_wp2_with fail
  refine (lOut g9 1).mono ?_
  rw [show Fil.outAt (Fil.r data [97, 98, 99] p4) 1 = [97, 98, 99] from rfl]
  rintro e w10 ⟨v10, rfl, ho10, g10, -⟩
  have cv10 := conv8 ho10
  rw [show strOfNums [97, 98, 99] = ⟨#[97, 98, 99]⟩ from by decide +kernel] at cv10
  go_wp2_with fail
  go_returns
  exact ⟨rfl, g10.b⟩
end Go.Proofs.Ytaepjlaegldkhaa
