/- THE WALKS OF LAYER 3: a page is laid in. -/
import Derived.Test.YthicidkjhpnleaaMemW3
namespace Go.Proofs.Ythicidkjhpnleaa
open Go.ChangeShapes Go.WideShapes Go.ChangeAt Go.RowKit
set_option linter.unusedSimpArgs false
set_option linter.unusedVariables false

def Pg.fresh (perm gen : Int) : Pg := ⟨fun _ => 0, perm, gen⟩
theorem U4.inc {g : Int} : U4 ((g + 1) % 4294967296) := by unfold U4; omega

def Pg.zc : Array Value := (Pg.fresh 0 0).arr
theorem zero_val (w : World) : (zeroValue 67).run Try.prog w = .ok (.agg Pg.zc) w := by kernel_rfl
theorem zc_size : Pg.zc.size = 258 := Pg.arr_size _
theorem zc_ne : ¬ Pg.zc = #[] := fun e => by have := zc_size; rw [e] at this; simp at this
theorem fresh_arr (perm gen : Int) : (Pg.zc.setIfInBounds 256 (Value.int .i64 perm)).setIfInBounds 257 (Value.int .u32 gen) = (Pg.fresh perm gen).arr := by
  unfold Pg.zc
  rw [Pg.set_perm, Pg.set_gen]; rfl

set_option maxRecDepth 100000 in
set_option maxHeartbeats 1000000 in
theorem lay_c {w : World} {mb bp bg N : Nat} {f : Int → Option Nat} {g : Int → Int} (c2 : w.cell? ⟨mb, 2, none⟩ = some (.map (some bp))) (c3 : w.cell? ⟨mb, 3, none⟩ = some (.map (some bg)))
    (hp : PMap w bp N f) (hg : UMap w bg N g) (ne : bp ≠ bg) (hN : N < maxLen) (k perm : Int) (hk : U4 k) :
    Calls Try.prog 36 #[.pointer (some ⟨mb, 0, none⟩), .int .u32 k, .int .i64 perm] w fun e w' => e = .returned (.tuple #[]) ∧ ∃ b, w.heap.size ≤ b ∧ b < w'.heap.size ∧
      Fr (fun i => i = bp ∨ i = bg) w w' ∧ PMap w' bp (N + 1) (upd f k (some b)) ∧ UMap w' bg N (upd g k 0) ∧ IsPg w' b (Pg.fresh perm ((g k + 1) % 4294967296)) := by
  have hmb : mb < w.heap.size := World.block_lt_of_cell? w ⟨mb, 2, none⟩ c2
  have hl := hg.look hk
  have hld : (Instr.lookup 58 (.map (some bg)) (.int .u32 k) false).run Try.prog w.drew = .ok (.int .u32 (g k)) w.drew := (hg.congr (w' := w.drew) rfl).look hk
  obtain ⟨ar, har⟩ : ∃ ar, ar = (Pg.zc.setIfInBounds 256 (Value.int .i64 perm)).setIfInBounds 257 (Value.int .u32 ((g k + 1) % 4294967296)) := ⟨_, rfl⟩
  have hz0 := zero_val
  have hz1 := zc_size
  have hz2 := zc_ne
  have e1 : ar = (Pg.fresh perm ((g k + 1) % 4294967296)).arr := by rw [har]; exact fresh_arr _ _
  have gr1 : Gr w (w.alloc (.cells ar 67)).drew := ((Gr.refl w).alloc _ _).drew
  obtain ⟨esp, cp, hbp⟩ := hp.isMapObj
  obtain ⟨esg, cg, hbg⟩ := hg.isMapObj
  have lp : bp < w.heap.size := (Array.getElem?_eq_some_iff.1 hbp).1
  have lg : bg < w.heap.size := (Array.getElem?_eq_some_iff.1 hbg).1
  obtain ⟨w2, hrun, hP2, hT2⟩ := (hp.congr (w' := (w.alloc (.cells ar 67)).drew) (gr1.b.block bp lp)).store hN hk w.heap.size
  have hg2 := hg.congr (w' := w2) ((hT2.grown.block bg (Nat.lt_of_lt_of_le lg gr1.size) (fun e => ne (by cases e; rfl))).trans (gr1.b.block bg lg))
  have hnb : mb ≠ bp := fun e => by subst e; simp [World.cell?, hbp] at c2
  have hng : mb ≠ bg := fun e => by subst e; simp [World.cell?, hbg] at c2
  have c3' : w2.cell? ⟨mb, 3, none⟩ = some (.map (some bg)) := by
    rw [World.cell?_of_block (w := (w.alloc (.cells ar 67)).drew) (a := ⟨mb, 3, none⟩) (hT2.grown.block mb (Nat.lt_of_lt_of_le hmb gr1.size) (fun e => hnb (by cases e; rfl)))]
    exact gr1.keep c3
  have F2 : Fr (fun i => i = bp ∨ i = bg) (w.alloc (.cells ar 67)).drew w2 := mapTurned_fr hT2 _ (.inl rfl)
  have sz2 := hT2.grown.size
  obtain ⟨w3, hdr, hG3, hT3⟩ := hg2.drop hk 0
  rw [har] at hrun
  go_enter Try.func36, Try.ntmps36
  go_wp2_with fail
  go_region
  go_wp2_with fail
  go_returns
  have F3 : Fr (fun i => i = bp ∨ i = bg) w2 w3 := mapTurned_fr hT3 _ (.inr rfl)
  have F0 : Fr (fun i => i = bp ∨ i = bg) w w3 := ((gr1.fr _).trans F2 (fun _ _ h => h)).trans F3 (fun _ _ h => h)
  obtain ⟨ep3, cp3, hbp2⟩ := hP2.isMapObj
  have lp2 : bp < w2.heap.size := (Array.getElem?_eq_some_iff.1 hbp2).1
  have hnew : (w.alloc (.cells ar 67)).drew.heap[w.heap.size]? = some (.cells ar 67 (0, 0)) := heap_alloc_new w _
  have hsz1 : w.heap.size < (w.alloc (.cells ar 67)).drew.heap.size := by simp
  refine ⟨rfl, w.heap.size, Nat.le_refl _, Nat.lt_of_lt_of_le hsz1 (Nat.le_trans sz2 F3.size), F0, hP2.congr (hT3.grown.block bp lp2 (fun e => ne (by cases e; rfl))), hG3, ?_⟩
  unfold IsPg
  rw [F3.block _ (Nat.lt_of_lt_of_le hsz1 sz2) (by omega), F2.block _ hsz1 (by omega), hnew, e1]
end Go.Proofs.Ythicidkjhpnleaa
