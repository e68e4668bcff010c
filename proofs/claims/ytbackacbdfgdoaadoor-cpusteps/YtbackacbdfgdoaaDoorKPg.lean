/- append of one element onto a slice of the call's own; what it leaves. · LAYER 12's laws: the reference's pages as cells; what Pages lists; append of a page. · LAYER 12's laws: mem2, the document's own memory as the program's stands. · LAYER 12's laws: sameMem of two memories that are alike. · LAYER 12's laws: two memories side by side; a State built in place; its registers loaded whole. · PLAIN, LAYER 12: what a step leaves; x0 is nought whatever stands there. -/
import Derived.Test.YtbackacbdfgdoaaDoorK7
import Derived.Test.YtbackacbdfgdoaaDoorK13
import Derived.Great.BuildSlice
import Derived.Deep.MidRow
import Derived.Deep.RegionHeld3
import Derived.BigQuiet
import Derived.BigFrame
import Derived.Test.YtbackacbdfgdoaaDoorK9
namespace Go.Proofs.YtbackacbdfgdoaaDoor
open Go.ChangeShapes Go.WideShapes Go.ChangeAt Go.RowKit

theorem Bq.ap {pb : Nat} {a w w' : World} {v v' : Value} (h : Bq pb a w) (k : Ap w w' v v') (ho : ∀ j, v.ownBlock = some j → a.heap.size ≤ j) : Bq pb a w' :=
  ⟨h.b0.trans k.b, fun i hi hn => (k.block i (Nat.lt_of_lt_of_le hi h.b0.size) (fun e => by have := ho i e; omega)).trans (h.block i hi hn)⟩
theorem OwnR.own {e sz n : Nat} {cs : List Value} {a w : World} {v : Value} (h : OwnR e sz a w v n cs) : ∀ j, v.ownBlock = some j → a.heap.size ≤ j ∧ j < w.heap.size := fun j hj => by
  rcases h.2 with ⟨h2, _⟩ | ⟨b, cap, cur, h3, h4, h5, h6⟩
  · rw [h2] at hj; simp [Value.ownBlock] at hj
  · rw [h3] at hj; simp [Value.ownBlock] at hj; subst hj; exact ⟨h4, (Array.getElem?_eq_some_iff.1 h5).1⟩
/-- append of one element onto a slice of the call's own: that slice's block alone was written. -/
theorem appA {e sz bytes : Nat} {z : Value} {t ty : TypeId} (hinf : (Tryd.prog.info? e).map (fun i => (i.zero, i.size, i.bytes)) = some (some z, sz, bytes)) (ht : Tryd.prog.underlying t = some (.slice e)) (hzs : z.cells.size = sz) (hsz : 0 < sz) (hby : bytes ≤ 100)
    {a wr : World} {v : Value} {n : Nat} {cs : List Value} (hown : OwnR e sz a wr v n cs) (hle : a.heap.size ≤ wr.heap.size) (c : Nat) (news : List Value) (hl : news.length = sz) (h1 : ∀ u ∈ news, u.oneCell' = true) (hn : n ≤ 10000) :
    ∃ v' w', (Builtin.append_ #[t, t] ty #[v, .slice (some ⟨wr.heap.size, 0, none⟩) 1 c]).run Tryd.prog (wr.alloc (.cells news.toArray e)) = .ok v' w' ∧ OwnR e sz a w' v' (n + 1) (cs ++ news) ∧ Ap wr w' v v' := by
  obtain ⟨i, hi, he⟩ := Option.map_eq_some_iff.1 hinf
  simp only [Prod.mk.injEq] at he
  obtain ⟨hz, hs, hb⟩ := he
  have hmul : (n + 1) * bytes ≤ 10001 * 100 := Nat.mul_le_mul (by omega) hby
  have hoA := OwnR.bw hown ((Bw.refl wr).alloc (.cells news.toArray e))
  obtain ⟨v', w', hr, ho, hg, -, hloc⟩ := run_append_own_at (P := Tryd.prog) (w := wr.alloc (.cells news.toArray e)) a.heap.size t ty e i z sz bytes ht hi hz hs hb hzs hsz v n cs hoA ⟨wr.heap.size, 0, none⟩ 1 c news (by omega) (cell_new wr news e) h1 (by unfold maxLen; omega) (by omega) (by simp; omega)
  refine ⟨v', w', hr, ho, (Ap.refl wr v).alloc (.cells news.toArray e) |>.trans ⟨⟨hg.os, hg.tape, hg.output, hg.size, fun k hk => by omega⟩, fun k hk hkn => hg.block k hk (fun e => hkn e.symm), ?_⟩⟩
  rcases hloc with h | h
  · exact Or.inl h
  · exact Or.inr ⟨_, Nat.le_refl _, h⟩
theorem Rd8.ap {w w' : World} {v v' u : Value} {l : List Int} (h : Rd8 w u l) (k : Ap w w' v v') (hn : ∀ b n c, u = .slice (some b) n c → 0 < n → v.ownBlock ≠ some b.block) : Rd8 w' u l := by
  obtain ⟨q, cap, h1, h2, h3, h4, h5⟩ := h
  refine ⟨q, cap, h1, h2, h3, h4, fun h0 => ?_⟩
  obtain ⟨b', o, rfl, h7, h8⟩ := h5 h0
  have hb := hn _ _ _ h1 h0
  exact ⟨b', o, rfl, Nat.lt_of_lt_of_le h7 k.b.size, fun j x hj => (k.cell (p := ⟨b', o + j, none⟩) h7 hb).trans (h8 j x hj)⟩
theorem Rd8.lt {w : World} {u : Value} {l : List Int} (h : Rd8 w u l) : ∀ b n c, u = .slice (some b) n c → 0 < n → b.block < w.heap.size := fun b n c e hn => by
  obtain ⟨q, cap, h1, h2, h3, h4, h5⟩ := h
  rw [h1] at e
  simp at e
  obtain ⟨rfl, rfl, rfl⟩ := e
  obtain ⟨b', o, h6, h7, h8⟩ := h5 hn
  simp at h6
  subst h6
  exact h7
theorem OwnR.heap {e sz n : Nat} {cs : List Value} {a w w' : World} {v : Value} (h : OwnR e sz a w v n cs) (he : ∀ j, v.ownBlock = some j → w'.heap[j]? = w.heap[j]?) : OwnR e sz a w' v n cs := by
  obtain ⟨h1, h2⟩ := h
  refine ⟨h1, ?_⟩
  rcases h2 with h2 | ⟨b, cap, cur, rfl, h4, h5, h6⟩
  · exact Or.inl h2
  · exact Or.inr ⟨b, cap, cur, rfl, h4, (he b rfl).trans h5, h6⟩
theorem Own8.heap {w0 w w' : World} {v : Value} {l : List Int} (h : Own8 w0 w v l) (he : ∀ j, v.ownBlock = some j → w'.heap[j]? = w.heap[j]?) : Own8 w0 w' v l := by
  rcases h with h | ⟨g, cap, rfl, h1, h2, h3, h4, h5, h6⟩
  · exact Or.inl h
  · have hb := he g rfl
    have hlt : g < w'.heap.size := by
      apply Decidable.byContradiction
      intro hn
      have h1 : w'.heap[g]? = none := by simp; omega
      rw [h1] at hb
      simp at hb
      omega
    refine Or.inr ⟨g, cap, rfl, h1, hlt, h3, h4, fun j x hx => ?_, fun j hj => ?_⟩
    · rw [cell_block (p := ⟨g, j, none⟩) hb]; exact h5 j x hx
    · rw [cell_block (p := ⟨g, j, none⟩) hb, frozen_block (p := ⟨g, j, none⟩) hb]; exact h6 j hj
end Go.Proofs.YtbackacbdfgdoaaDoor
namespace Go.Proofs.YtbackacbdfgdoaaDoor
open Go.ChangeShapes Go.WideShapes Go.ChangeAt Go.RowKit
open Cpu
set_option linter.unusedVariables false
set_option linter.unusedSimpArgs false

theorem p_load {P : Program} {ops : Array Oper} {Q : Exit → Act → World → Prop} {d : Option Tmp} {ty : TypeId} {x : Operand} {t : TypeId} {pos : String} {after : Array Edge} {g : Option (Nat × Bool)} {rest : List Oper} {a : Act} {w : World}
    (h : wpList P ops Q ({ dst := d, op := .load ty x, type := t, pos := pos, after := after, guard := g } :: rest) a w) : wpList P ops Q ({ dst := d, op := .load ty x, type := t, pos := pos, after := after, guard := g } :: rest) a w := h
theorem p_store {P : Program} {ops : Array Oper} {Q : Exit → Act → World → Prop} {d : Option Tmp} {ty : TypeId} {x y : Operand} {t : TypeId} {pos : String} {after : Array Edge} {g : Option (Nat × Bool)} {rest : List Oper} {a : Act} {w : World}
    (h : wpList P ops Q ({ dst := d, op := .store ty x y, type := t, pos := pos, after := after, guard := g } :: rest) a w) : wpList P ops Q ({ dst := d, op := .store ty x y, type := t, pos := pos, after := after, guard := g } :: rest) a w := h
/-- A page's 258 cells. -/
def pgl (b p : Int) (f : Nat → Int) : List Value := .int .u32 b :: .int .i64 p :: (List.range 256).map (fun i => Value.int .u8 (f i))
theorem pgl_len (b p : Int) (f : Nat → Int) : (pgl b p f).length = 258 := by simp [pgl]
theorem pgl_perm (b p q : Int) (f : Nat → Int) : (pgl b p f).set 1 (.int .i64 q) = pgl b q f := rfl
theorem pgl_set (b p : Int) (f : Nat → Int) {k : Nat} (hk : k < 256) (y : Int) : (pgl b p f).set (2 + k) (.int .u8 y) = pgl b p (fun i => if i = k then y else f i) := by
  rw [show 2 + k = k + 1 + 1 by omega]
  unfold pgl
  rw [List.set_cons_succ, List.set_cons_succ]
  congr 2
  apply List.ext_getElem?
  intro i
  rw [List.getElem?_set]
  by_cases hi : k = i
  · subst hi
    rw [if_pos rfl, if_pos (by simpa using hk), List.getElem?_map, List.getElem?_range hk]
    simp
  · rw [if_neg hi, List.getElem?_map, List.getElem?_map]
    by_cases hj : i < 256
    · rw [List.getElem?_range hj]
      simp only [Option.map_some]
      rw [if_neg (fun e => hi e.symm)]
    · rw [List.getElem?_eq_none (by simpa using hj)]
      rfl
theorem pgl_b (b p : Int) (f : Nat → Int) : (pgl b p f)[0]? = some (.int .u32 b) := rfl
theorem pgl_p (b p : Int) (f : Nat → Int) : (pgl b p f)[1]? = some (.int .i64 p) := rfl
theorem pgl_y (b p : Int) (f : Nat → Int) {k : Nat} (hk : k < 256) : (pgl b p f)[2 + k]? = some (.int .u8 (f k)) := by
  rw [show 2 + k = k + 1 + 1 by omega]
  unfold pgl
  rw [List.getElem?_cons_succ, List.getElem?_cons_succ, List.getElem?_map, List.getElem?_range hk]
  rfl
theorem pgl_one (b p : Int) (f : Nat → Int) : ∀ v ∈ pgl b p f, v.oneCell' = true := by
  intro v hv
  simp only [pgl, List.mem_cons, List.mem_map, List.mem_range] at hv
  rcases hv with rfl | rfl | ⟨i, _, rfl⟩ <;> rfl
theorem pgl_ext {b p : Int} {f g : Nat → Int} (h : ∀ i, i < 256 → f i = g i) : pgl b p f = pgl b p g := by
  unfold pgl
  congr 2
  exact List.map_congr_left (fun i hi => by rw [h i (List.mem_range.1 hi)])
/-- A memory's pages as cells, in order. -/
def pgc (S : MS) (k : Int) : List Value := match S.pg k with | some p => pgl (256 * k) p.perm p.byt | none => pgl 0 0 (fun _ => 0)
def pgs (S : MS) : List Value := S.th.flatMap (pgc S)
theorem pgc_is (S : MS) (k : Int) : ∃ b p f, pgc S k = pgl b p f := by
  unfold pgc
  split
  · exact ⟨_, _, _, rfl⟩
  · exact ⟨_, _, _, rfl⟩
theorem pgc_len (S : MS) (k : Int) : (pgc S k).length = 258 := by
  obtain ⟨b, p, f, e⟩ := pgc_is S k
  rw [e, pgl_len]
/-- What Pages lists. -/
theorem Pages_bc {w0 w : World} {mb N : Nat} {S : MS} {P : Nat → Prop} (h : HasB w0 w mb N S P) :
    Calls Tryd.prog 29 #[.pointer (some ⟨mb, 0, none⟩)] w fun e w' => e = .returned (.slice (some ⟨w.heap.size, 0, none⟩) S.th.length S.th.length) ∧ RdW w' (.slice (some ⟨w.heap.size, 0, none⟩) S.th.length S.th.length) (S.th.map (256 * ·)) ∧ Bw w w' := by
  have hlen : S.th.length ≤ 4096 := by have := h.ok.len; have := h.ok.budget; omega
  obtain ⟨F, g, hF, L, o⟩ := h
  refine (Pages_c o).mono ?_
  rintro e w' ⟨rfl, h2, h3⟩
  refine ⟨rfl, ?_, h2.b⟩
  unfold RdW
  rw [List.length_map]
  refine ⟨_, _, rfl, Nat.le_refl _, by omega, by simp, fun h0 => ⟨_, _, rfl, (Array.getElem?_eq_some_iff.1 h3).1, fun j u hu => ?_⟩⟩
  rw [List.map_map] at hu
  have e : (pgArr S.th S.th.length)[j]? = some u := by
    rw [← Array.getElem?_toList, pgArr_all]
    exact hu
  simp [World.cell?, h3, e]
/-- append of a page onto a slice of the call's own. -/
theorem infoPg : (Tryd.prog.info? 77).map (fun i => (i.zero, i.size, i.bytes)) = some (some (.agg (pgl 0 0 (fun _ => 0)).toArray), 258, 272) := by kernel_rfl
theorem infoPg1 (b p : Int) (f : Nat → Int) : (Tryd.prog.info? 77).map (·.size) = some (pgl b p f).length := by rw [pgl_len]; kernel_rfl
theorem appPg {ty : TypeId} {a wr : World} {v : Value} {n : Nat} {cs : List Value} (hown : OwnR 77 258 a wr v n cs) (hle : a.heap.size ≤ wr.heap.size) (c : Nat) (b p : Int) (f : Nat → Int) (hn : n ≤ 4096) :
    ∃ v' w', (Builtin.append_ #[70, 70] ty #[v, .slice (some ⟨wr.heap.size, 0, none⟩) 1 c]).run Tryd.prog (wr.alloc (.cells (pgl b p f).toArray 77)) = .ok v' w' ∧ OwnR 77 258 a w' v' (n + 1) (cs ++ pgl b p f) ∧ Ap wr w' v v' := by
  obtain ⟨i, hi, he⟩ := Option.map_eq_some_iff.1 infoPg
  simp only [Prod.mk.injEq] at he
  obtain ⟨hz, hs, hb⟩ := he
  have hmul : (n + 1) * 272 ≤ 4097 * 272 := Nat.mul_le_mul (by omega) (by omega)
  have hoA := OwnR.bw hown ((Bw.refl wr).alloc (.cells (pgl b p f).toArray 77))
  obtain ⟨v', w', hr, ho, hg, -, hloc⟩ := run_append_own_at (P := Tryd.prog) (w := wr.alloc (.cells (pgl b p f).toArray 77)) a.heap.size 70 ty 77 i _ 258 272 Tryd.underlying70 hi hz hs hb (by simp [Value.cells, pgl]) (by decide) v n cs hoA ⟨wr.heap.size, 0, none⟩ 1 c (pgl b p f) (by rw [pgl_len]) (cell_new wr (pgl b p f) 77) (pgl_one b p f) (by unfold maxLen; omega) (by omega) (by simp; omega)
  refine ⟨v', w', hr, ho, (Ap.refl wr v).alloc (.cells (pgl b p f).toArray 77) |>.trans ⟨⟨hg.os, hg.tape, hg.output, hg.size, fun k hk => by omega⟩, fun k hk hkn => hg.block k hk (fun e => hkn e.symm), ?_⟩⟩
  rcases hloc with h | h
  · exact Or.inl h
  · exact Or.inr ⟨_, Nat.le_refl _, h⟩
theorem fill_pg (b p : Int) (f : Nat → Int) : Instr.fill (fun i => some (i * 258, 258)) ((Array.range (1 * 258)).map ((Value.agg (pgl 0 0 (fun _ => 0)).toArray).cells[· % (Value.agg (pgl 0 0 (fun _ => 0)).toArray).cells.size]!)) [(0, Value.agg (pgl b p f).toArray)] = some (pgl b p f).toArray := by kernel_rfl
theorem stepBuildPg {ops : Array Oper} {op : Oper} {a : Act} {w : World} {K : Act → World → Prop} {Q : Exit → Act → World → Prop} {E : Prop} (hgd : op.guard = none) (x : Operand) (ho : op.op = .buildSlice 70 1 #[(0, x)])
    {b p : Int} {f : Nat → Int} (hx : a.eval x = .agg (pgl b p f).toArray) (h : K (a.put op.dst (.slice (some ⟨w.heap.size, 0, none⟩) 1 1)) (w.alloc (.cells (pgl b p f).toArray 77))) : if Region.wanted op (yielded ops a.tmps) = true then Oper.wp Tryd.prog op a w K Q else E := by
  have hw : Region.wanted op (yielded ops a.tmps) = true := by simp [Region.wanted, hgd]
  rw [if_pos hw]
  obtain ⟨i, hi, he⟩ := Option.map_eq_some_iff.1 infoPg
  simp only [Prod.mk.injEq] at he
  obtain ⟨hz, hs, hb⟩ := he
  refine wp_buildSlice 70 77 1 #[(0, x)] ho _ i _ Tryd.underlying70 hi hz (by rw [hs]; decide) (by rw [hs]; decide) ?_ h
  rw [hs]
  rw [Array.toList_map]
  refine Eq.trans (congrArg _ (?_ : _ = [(0, Value.agg (pgl b p f).toArray)])) (fill_pg b p f)
  rw [← hx]
  rfl
end Go.Proofs.YtbackacbdfgdoaaDoor
namespace Go.Proofs.YtbackacbdfgdoaaDoor
open Go.ChangeShapes Go.WideShapes Go.ChangeAt Go.RowKit
open Cpu
set_option linter.unusedVariables false
set_option linter.unusedSimpArgs false

set_option maxRecDepth 100000 in
set_option maxHeartbeats 4000000 in
theorem mem2_c {w0 w : World} {mb N : Nat} {S : MS} {P : Nat → Prop} (hM : HasB w0 w mb N S P) (b : Int) :
    Calls Tryd.prog 14 #[.pointer (some ⟨mb, 0, none⟩), .int .i64 b] w fun e w' => ∃ a v, e = .returned (.pointer (some ⟨w.heap.size, 0, none⟩)) ∧ Box w' w.heap.size [.int .i64 b, v, .slice none 0 0] ∧ OwnR 77 258 a w' v S.th.length (pgs S) ∧ Bw w w' ∧ w.heap.size < a.heap.size := by
  have hOk := hM.ok
  have hlen : S.th.length ≤ 4096 := by have := hOk.len; have := hOk.budget; omega
  have hB0 := Box.new w [.int .i64 b, .slice none 0 0, .slice none 0 0] 73
  obtain ⟨w1, hw1⟩ : ∃ w1, w.alloc (.cells #[.int .i64 b, .slice none 0 0, .slice none 0 0] 73) = w1 := ⟨_, rfl⟩
  have g1 : Bw w w1 := by rw [← hw1]; exact (Bw.refl w).alloc _
  have hs1 : w1.heap.size = w.heap.size + 1 := by rw [← hw1]; simp
  have hB1 : Box w1 w.heap.size [.int .i64 b, .slice none 0 0, .slice none 0 0] := by rw [← hw1]; exact hB0
  have hM1 := hM.on g1
  have hPg := Pages_bc hM1
  go_enter Tryd.func14, Tryd.ntmps14
  go_wp2_with fail
  refine hPg.mono ?_
  rintro e w2 ⟨rfl, hRow, g2⟩
  clear hPg
  have hB2 := hB1.bw g2
  have hM2 : HasB w0 w2 mb N S (fun i => P i ∨ w.heap.size ≤ i) := (hM.more (Q := fun i => P i ∨ w.heap.size ≤ i) (fun i h => h)).on (g1.trans g2)
  have h00 : w0.heap.size ≤ w.heap.size := Below.size hM.bw
  have h02 : w.heap.size < w2.heap.size := Nat.lt_of_lt_of_le (by omega) g2.size
  clear hM hM1 hB1 hw1 hB0
  have hg12 : Bw w w2 := g1.trans g2
  go_wp2_with fail
  go_loopg [7] S.th.length (fun g s wr => ∃ (k : Nat) (v : Value), k + g = S.th.length ∧ s = .int .i64 k ∧ Bq w.heap.size w2 wr ∧ Box wr w.heap.size [.int .i64 b, v, .slice none 0 0] ∧ OwnR 77 258 w2 wr v k ((S.th.take k).flatMap (pgc S)))
  case atStart => exact ⟨0, _, by omega, rfl, Bq.refl _ _, hB2, ⟨rfl, Or.inl ⟨rfl, rfl⟩⟩⟩
  case round =>
    obtain ⟨k, v, hkg, rfl, hq, hB, hO⟩ := hrel
    clear hB2
    obtain ⟨X, rfl⟩ : ∃ X, X = wr := ⟨_, rfl⟩
    by_cases hk : k < S.th.length
    · have hk3 : (k : Int) < (S.th.length : Int) := by omega
      obtain ⟨K, hK⟩ : ∃ K, S.th[k]? = some K := ⟨_, List.getElem?_eq_getElem hk⟩
      obtain ⟨p, hp⟩ := Option.isSome_iff_exists.1 ((hOk.mem K).2 (List.mem_of_getElem? hK))
      have hpo := hOk.pg K p hp
      have hKb := hOk.rng K (List.mem_of_getElem? hK)
      have hMw := hM2.q (Or.inr (Nat.le_refl _)) h00 hq
      obtain ⟨q, cap, e1, -, -, -, hrc⟩ := hRow
      obtain ⟨rfl, rfl⟩ : some ⟨w1.heap.size, 0, none⟩ = q ∧ S.th.length = cap := by simp at e1; exact ⟨e1.1, e1.2⟩
      obtain ⟨b', o', e2, hb2, hrc2⟩ := hrc (by rw [List.length_map]; omega)
      obtain ⟨rfl, rfl⟩ : w1.heap.size = b' ∧ 0 = o' := by simp at e2; exact e2
      have c0 := hq.keep (hrc2 k (.int .u32 (256 * K)) (by simp [hK])) (by show w1.heap.size ≠ w.heap.size; omega)
      rw [Nat.zero_add, hs1] at c0
      have hl2 : w.heap.size + 1 < w2.heap.size := by omega
      clear hrc hrc2 e1 e2
      have hZ := Box.new X (pgl 0 0 (fun _ => 0)) 77
      have hl1 : w.heap.size < X.heap.size := Nat.lt_of_lt_of_le h02 hq.b0.size
      have hl3 : w.heap.size + 1 < X.heap.size := Nat.lt_of_lt_of_le hl2 hq.b0.size
      go_wp2_with (first
      | ((with_reducible refine p_store (ty := 77) ?_); refine wpStoreBox rfl 77 _ _ rfl X.heap.size (l := pgl 0 0 (fun _ => 0)) (l' := pgl (256 * K) 0 (fun _ => 0)) rfl rfl hZ (by rw [pgl_len, pgl_len]) (infoPg1 _ _ _) (pgl_one _ _ _) ?_; intro w3 h3 q3; have g3 : Bw X w3 := q3.toBw ((Bw.refl X).alloc _) (Nat.le_refl _); have c3 := g3.keep c0; have d1 := h3.c 1 _ (pgl_p _ _ _); have f1 := h3.f 1 (by rw [pgl_len]; omega); clear hZ)
      | fail)
      have hM3 := hMw.on g3
      have hPm := Perm_b hM3 (256 * K) ⟨by omega, by omega⟩
      rw [show S.permOf (256 * K) = p.perm by unfold MS.permOf; rw [show 256 * K / 256 = K by omega, hp]] at hPm
      refine hPm.mono ?_
      rintro e w4 ⟨rfl, rfl⟩
      clear hPm
      go_wp2_with fail
      obtain ⟨w5, hw5⟩ : ∃ w5, w4.setCell ⟨X.heap.size, 1, none⟩ (.int .i64 p.perm) = w5 := ⟨_, rfl⟩
      have h5 : Box w5 X.heap.size (pgl (256 * K) p.perm (fun _ => 0)) := hw5 ▸ h3.set 1 (by rw [pgl_len]; omega) (.int .i64 p.perm)
      have g5 : Bw X w5 := hw5 ▸ g3.setCell (Nat.le_refl _) _
      have hM5 := hMw.on g5
      have hle5 : X.heap.size ≤ X.heap.size := Nat.le_refl _
      have hsz5 : X.heap.size + 1 ≤ w5.heap.size := by have := h5.lt; omega
      rw [hw5]
      clear hw5 h3 q3 g3 c3 d1 f1 hM3
      have c5 := g5.keep c0
      have hbyt := hpo.byt
      go_loopg [9] 256 (fun g s wx => ∃ j : Nat, j + g = 256 ∧ s = .int .u32 j ∧ Bq X.heap.size w5 wx ∧ Box wx X.heap.size (pgl (256 * K) p.perm (fun i => if i < j then p.byt i else 0)))
      case atStart => exact ⟨0, by omega, rfl, Bq.refl _ _, by rw [pgl_ext (g := fun _ => 0) (fun i _ => if_neg (by omega))]; exact h5⟩
      case round =>
        obtain ⟨j, hjg, rfl, hqj, hBj⟩ := hrel
        clear h5
        by_cases hj : j < 256
        · have hj3 : (j : Int) < 256 := by omega
          have hl5 : X.heap.size < w5.heap.size := Nat.lt_of_lt_of_le (by simp) (show X.heap.size + 1 ≤ w5.heap.size from hsz5)
          have cj := hqj.keep c5 (by show w.heap.size + 1 ≠ X.heap.size; omega)
          have hMj := hM5.q (P := fun i => P i ∨ w.heap.size ≤ i) (Or.inr (Nat.le_of_lt hl1)) (Nat.le_trans h00 (Nat.le_of_lt hl1)) hqj
          have hLd := Load_b hMj (256 * K + j) 1 0 ⟨by omega, by omega⟩
          have hask : S.ask (256 * K + j) 1 0 = 0 := by
            refine ask_pg (p := p) (by rw [show (256 * K + (j : Int)) / 256 = K by omega]; exact hp) ⟨by omega, by omega⟩ ?_
            obtain ⟨p0, p7⟩ := hpo.perm
            rcases (show p.perm = 0 ∨ p.perm = 1 ∨ p.perm = 2 ∨ p.perm = 3 ∨ p.perm = 4 ∨ p.perm = 5 ∨ p.perm = 6 ∨ p.perm = 7 by omega) with e | e | e | e | e | e | e | e <;> rw [e] <;> decide
          obtain ⟨y, hy⟩ : ∃ y, p.byt j = y := ⟨_, rfl⟩
          have hyb := hbyt j
          rw [hy] at hyb
          rw [hask, load_pg (p := p) (by rw [show (256 * K + (j : Int)) / 256 = K by omega]; exact hp) hask, show ((256 * K + (j : Int)) % 256).toNat = j by omega, show p.val j 1 = y by unfold Pg.val; rw [if_pos rfl, hy]] at hLd
          obtain ⟨y0, y1⟩ := hyb
          have hkb : 256 * K + (j : Int) < 4294967296 := by omega
          have d2 := hBj.c (2 + j) _ (pgl_y _ _ _ hj)
          have f2 := hBj.f (2 + j) (by rw [pgl_len]; omega)
          have HY : Hid (p.byt j = y) := hy
          clear hask hy hbyt
          go_wp2_with fail
          refine hLd.mono ?_
          rintro e w6 ⟨rfl, rfl⟩
          clear hLd
          go_wp2_with fail
          go_roundg (256 - (j + 1))
          case measure => omega
          case rel =>
            refine ⟨j + 1, by omega, by simp, hqj.set _ _, ?_⟩
            have hS := hBj.set (2 + j) (by rw [pgl_len]; omega) (.int .u8 y)
            rw [pgl_set _ _ _ hj] at hS
            rw [pgl_ext (g := fun i => if i = j then y else if i < j then p.byt i else 0) (fun i _ => ?_)]
            · exact hS
            · by_cases h1 : i = j
              · subst h1; rw [if_pos (by omega), if_pos rfl]; exact HY.out
              · rw [if_neg h1]
                by_cases h2 : i < j
                · rw [if_pos h2, if_pos (by omega)]
                · rw [if_neg h2, if_neg (by omega)]
        · obtain rfl : j = 256 := by omega
          rw [pgl_ext (g := p.byt) (fun i hi => if_pos hi)] at hBj
          have g6 : Bw X wr := hqj.toBw g5 hle5
          have hB6 := hB.bw g6
          have ld := hB6.c 1 _ rfl
          have lf := hB6.f 1 (by simp)
          clear hqj hbyt c5
          go_wp2_with fail
          refine wp_region_held_drew (S := fun Y => Box Y X.heap.size (pgl (256 * K) p.perm p.byt)) (by kernel_rfl) (hBj.bw (Bw.refl wr).drew) (fun hHeld => ?_)
          refine wpAnyH_take (i := 0) (oi := ⟨some 58, _, _, _, _, _⟩) (v := ?_) rfl (by kernel_rfl) (by kernel_rfl) (by kernel_rfl) (fun _ _ _ h => h) (Or.inl ⟨by rfl, ?_⟩) (by assumption) ?_; (rotate_left 1); (focus (intro wz hSw; (try dsimp only at hSw); go_simp; try (with_reducible rfl))); simp only [Act.put, List.setIfInBounds_toArray, List.set_cons_zero, List.set_cons_succ]
          refine wpAnyH_take (i := 1) (oi := ⟨some 59, _, _, _, _, _⟩) (v := ?_) rfl (by kernel_rfl) (by kernel_rfl) (by kernel_rfl) (fun _ _ _ h => h) (Or.inl ⟨by rfl, ?_⟩) (by assumption) ?_; (rotate_left 1); (focus (intro wz hSw; (try dsimp only at hSw); go_simp; try (with_reducible rfl))); simp only [Act.put, List.setIfInBounds_toArray, List.set_cons_zero, List.set_cons_succ]
          refine wpAnyH_take (i := 2) (oi := ⟨some 60, _, _, _, _, _⟩) (v := ?_) rfl (by kernel_rfl) (by kernel_rfl) (by kernel_rfl) (fun _ _ _ h => h) (Or.inl ⟨by rfl, ?_⟩) (by assumption) ?_; (rotate_left 1); (focus (intro wz hSw; (try dsimp only at hSw); go_simp; try (with_reducible rfl))); simp only [Act.put, List.setIfInBounds_toArray, List.set_cons_zero, List.set_cons_succ]
          refine wpAnyH_take (i := 3) (oi := ⟨some 61, _, _, _, _, _⟩) (v := ?_) rfl (by kernel_rfl) (by kernel_rfl) (by kernel_rfl) (fun _ _ _ h => h) (Or.inl ⟨by rfl, ?_⟩) (by assumption) ?_; (rotate_left 1); (focus (intro wz hSw; (try dsimp only at hSw); go_simp; try (with_reducible rfl))); simp only [Act.put, List.setIfInBounds_toArray, List.set_cons_zero, List.set_cons_succ]
          refine wpAnyH_take (i := 5) (oi := ⟨some 63, _, _, _, _, _⟩) (v := .agg (pgl (256 * K) p.perm p.byt).toArray) rfl (by kernel_rfl) (by kernel_rfl) (by kernel_rfl) (fun _ _ _ h => h) (yieldsIf_load_mid (by rfl) 77 _ rfl X.heap.size 0 rfl _ _ (fun Y hY => Box.range hY) Tryd.underlying77 rfl (infoPg1 _ _ _)) (by assumption) ?_
          simp only [Act.put, List.setIfInBounds_toArray, List.set_cons_zero, List.set_cons_succ]
          have hBd : Box wr.drew X.heap.size (pgl (256 * K) p.perm p.byt) := hBj.bw (Bw.refl wr).drew
          have hOd : OwnR 77 258 w2 wr.drew v k ((S.th.take k).flatMap (pgc S)) := (OwnR.bw hO g6).bw (Bw.refl wr).drew
          obtain ⟨v', Z, happ, hO2, hA⟩ := appPg (ty := 70) hOd (Nat.le_trans hq.b0.size g6.size) 1 (256 * K) p.perm p.byt (by omega)
          have ho2 := hO2.own
          have hov := (hOd.own)
          have hZb : Bq w.heap.size w2 Z := (hq.bw (g6.trans (Bw.refl wr).drew)).ap hA (fun i hi => (hov i hi).1)
          have hS1 : Box Z w.heap.size [.int .i64 b, v, .slice none 0 0] := (hB6.bw (Bw.refl wr).drew).blk (hA.block _ (by have := hB6.lt; exact this) (fun e => by have := (hov _ e).1; omega))
          have zc := hS1.c 1 _ rfl
          have zf := hS1.f 1 (by simp)
          have hBZ : Box Z X.heap.size (pgl (256 * K) p.perm p.byt) := hBd.blk (hA.block _ (by have := hBd.lt; exact this) (fun e => ?hne))
          case hne => have := (hO.own _ e).2; omega
          have hBS : Box (Z.setCell ⟨w.heap.size, 1, none⟩ v') X.heap.size (pgl (256 * K) p.perm p.byt) := hBZ.ne (by omega) 1 v'
          have HF : Hid (Bq w.heap.size w2 (Z.setCell ⟨w.heap.size, 1, none⟩ v') ∧ Box (Z.setCell ⟨w.heap.size, 1, none⟩ v') w.heap.size [.int .i64 b, v', .slice none 0 0] ∧ OwnR 77 258 w2 (Z.setCell ⟨w.heap.size, 1, none⟩ v') v' (k + 1) ((S.th.take (k + 1)).flatMap (pgc S))) := by
            refine ⟨hZb.set _ _, hS1.set 1 (by simp) v', ?_⟩
            rw [take_flat (pgc S) hK, show pgc S K = pgl (256 * K) p.perm p.byt by unfold pgc; rw [hp]]
            exact OwnR.set hO2 h02 1 v'
          have ldA := (show Box (wr.alloc (.cells (pgl (256 * K) p.perm p.byt).toArray 77)) w.heap.size [.int .i64 b, v, .slice none 0 0] from hB6.bw ((Bw.refl _).alloc _)).c 1 _ rfl
          have hBA : Box (wr.drew.alloc (.cells (pgl (256 * K) p.perm p.byt).toArray 77)) X.heap.size (pgl (256 * K) p.perm p.byt) := hBd.bw ((Bw.refl _).alloc _)
          obtain ⟨gv, cv, rfl⟩ := hO2.form (by omega)
          clear hO2 hA ho2 hov hOd hZb hS1 hO hB hB6 hq
          refine wpAnyH_ready (rs := [4, 6]) (by kernel_rfl) (by simp) ?_
          refine AllReadyH.cons rfl (fun K hK => ?_) (AllReadyH.cons rfl (fun K hK => ?_) AllReadyH.nil)
          · go_simp
            (try clear hHeld); refine hK.out _ _ ?_ (fun hHeld => ?_)
            · exact hBd
            refine wpAnyH_ready (rs := [6]) (by kernel_rfl) (by simp) ?_; refine AllReadyH.cons (o := ⟨some 64, _, _, _, _, _⟩) rfl (fun K hK => ?_) AllReadyH.nil; refine stepBuildPg rfl _ rfl rfl ?_
            (try clear hHeld); refine hK.out _ _ ?_ (fun hHeld => ?_)
            · exact hBA
            simp only [Act.put, List.setIfInBounds_toArray, List.set_cons_zero, List.set_cons_succ]
            refine wpAnyH_ready (rs := [7]) (by kernel_rfl) (by simp) ?_; refine AllReadyH.cons (o := ⟨some 65, _, _, _, _, _⟩) rfl (fun K hK => ?_) AllReadyH.nil; refine stepApp rfl _ _ 70 rfl rfl rfl happ ?_
            (try clear hHeld); refine hK.out _ _ ?_ (fun hHeld => ?_)
            · exact hBZ
            simp only [Act.put, List.setIfInBounds_toArray, List.set_cons_zero, List.set_cons_succ]
            refine wpAnyH_take (i := 8) (oi := ⟨some 66, _, _, _, _, _⟩) (v := ?_) rfl (by kernel_rfl) (by kernel_rfl) (by kernel_rfl) (fun _ _ _ h => h) (Or.inl ⟨by rfl, ?_⟩) (by assumption) ?_; (rotate_left 1); (focus (intro wz hSw; (try dsimp only at hSw); go_simp; try (with_reducible rfl))); simp only [Act.put, List.setIfInBounds_toArray, List.set_cons_zero, List.set_cons_succ]
            refine wpAnyH_take (i := 9) (oi := ⟨some 67, _, _, _, _, _⟩) (v := ?_) rfl (by kernel_rfl) (by kernel_rfl) (by kernel_rfl) (fun _ _ _ h => h) (Or.inl ⟨by rfl, ?_⟩) (by assumption) ?_; (rotate_left 1); (focus (intro wz hSw; (try dsimp only at hSw); go_simp; try (with_reducible rfl))); simp only [Act.put, List.setIfInBounds_toArray, List.set_cons_zero, List.set_cons_succ]
            refine wpAnyH_ready (rs := [10]) (by kernel_rfl) (by simp) ?_; refine AllReadyH.cons rfl (fun K hK => ?_) AllReadyH.nil; go_simp
            (try clear hHeld); refine hK.out _ _ ?_ (fun hHeld => ?_)
            · exact hBS
            refine wpAnyH_done (by kernel_rfl) ?_ _
            go_wp2_with fail
            go_roundg (S.th.length - (k + 1))
            case measure => omega
            case rel => exact ⟨k + 1, _, by omega, by simp, HF.1, HF.2.1, HF.2.2⟩
          · refine stepBuildPg rfl _ rfl rfl ?_
            (try clear hHeld); refine hK.out _ _ ?_ (fun hHeld => ?_)
            · exact hBA
            simp only [Act.put, List.setIfInBounds_toArray, List.set_cons_zero, List.set_cons_succ]
            refine wpAnyH_ready (rs := [4]) (by kernel_rfl) (by simp) ?_; refine AllReadyH.cons rfl (fun K hK => ?_) AllReadyH.nil; go_simp
            (try clear hHeld); refine hK.out _ _ ?_ (fun hHeld => ?_)
            · exact hBA
            refine wpAnyH_ready (rs := [7]) (by kernel_rfl) (by simp) ?_; refine AllReadyH.cons (o := ⟨some 65, _, _, _, _, _⟩) rfl (fun K hK => ?_) AllReadyH.nil; refine stepApp rfl _ _ 70 rfl rfl rfl happ ?_
            (try clear hHeld); refine hK.out _ _ ?_ (fun hHeld => ?_)
            · exact hBZ
            simp only [Act.put, List.setIfInBounds_toArray, List.set_cons_zero, List.set_cons_succ]
            refine wpAnyH_take (i := 8) (oi := ⟨some 66, _, _, _, _, _⟩) (v := ?_) rfl (by kernel_rfl) (by kernel_rfl) (by kernel_rfl) (fun _ _ _ h => h) (Or.inl ⟨by rfl, ?_⟩) (by assumption) ?_; (rotate_left 1); (focus (intro wz hSw; (try dsimp only at hSw); go_simp; try (with_reducible rfl))); simp only [Act.put, List.setIfInBounds_toArray, List.set_cons_zero, List.set_cons_succ]
            refine wpAnyH_take (i := 9) (oi := ⟨some 67, _, _, _, _, _⟩) (v := ?_) rfl (by kernel_rfl) (by kernel_rfl) (by kernel_rfl) (fun _ _ _ h => h) (Or.inl ⟨by rfl, ?_⟩) (by assumption) ?_; (rotate_left 1); (focus (intro wz hSw; (try dsimp only at hSw); go_simp; try (with_reducible rfl))); simp only [Act.put, List.setIfInBounds_toArray, List.set_cons_zero, List.set_cons_succ]
            refine wpAnyH_ready (rs := [10]) (by kernel_rfl) (by simp) ?_; refine AllReadyH.cons rfl (fun K hK => ?_) AllReadyH.nil; go_simp
            (try clear hHeld); refine hK.out _ _ ?_ (fun hHeld => ?_)
            · exact hBS
            refine wpAnyH_done (by kernel_rfl) ?_ _
            go_wp2_with fail
            go_roundg (S.th.length - (k + 1))
            case measure => omega
            case rel => exact ⟨k + 1, _, by omega, by simp, HF.1, HF.2.1, HF.2.2⟩
    · obtain rfl : k = S.th.length := by omega
      rw [List.take_length] at hO
      go_wp2_with fail
      go_returns
      exact ⟨w2, v, rfl, hB, hO, hq.toBw hg12 (Nat.le_refl _), h02⟩
end Go.Proofs.YtbackacbdfgdoaaDoor
namespace Go.Proofs.YtbackacbdfgdoaaDoor
open Go.ChangeShapes Go.WideShapes Go.ChangeAt Go.RowKit
open Cpu
set_option linter.unusedVariables false
set_option linter.unusedSimpArgs false

theorem cellsY : Tryd.prog.cellsOf 75 = 256 := by kernel_rfl
theorem cellsI3 : Tryd.prog.cellsOf 3 = 1 := by kernel_rfl
theorem cellsB5 : Tryd.prog.cellsOf 5 = 1 := by kernel_rfl
theorem cellsPg : Tryd.prog.cellsOf 77 = 258 := by kernel_rfl
theorem key_pg {b p : Int} {f : Nat → Int} (hb : U4 b) (hp : 0 ≤ p ∧ p < 8) (hf : ∀ i, 0 ≤ f i ∧ f i < 256) : ∃ L, Tryd.prog.keyLits 4 77 (pgl b p f) = some L := by
  have hB : ((pgl b p f).drop 0).take 1 = [Value.int .u32 b] := rfl
  have hP : ((pgl b p f).drop 1).take 1 = [Value.int .i64 p] := rfl
  have hY : ((pgl b p f).drop 2).take 256 = (List.range 256).map fun i => Value.int .u8 (f i) := by
    show List.take 256 ((List.range 256).map fun i => Value.int .u8 (f i)) = _
    exact List.take_of_length_le (by simp)
  have h1 : Tryd.prog.keyLits 3 25 [Value.int .u32 b] = _ := keyInt Tryd.underlying25 hb.wf
  have h2 : Tryd.prog.keyLits 3 3 [Value.int .i64 p] = _ := keyInt Tryd.underlying3 (WalkArith.wf_i64 (by omega))
  have h3 : Tryd.prog.keyLits 3 75 ((List.range 256).map fun i => Value.int .u8 (f i)) = _ := keyInts f Tryd.underlying75 Tryd.underlying5 cellsB5 cellsY (fun i _ => WalkArith.wf_u8 (by have := hf i; omega))
  unfold Program.keyLits
  rw [Tryd.underlying77]
  simp only [pgl_len, cellsPg, true_and]
  rw [if_pos (by kernel_rfl)]
  simp only [List.mapM_cons, List.mapM_nil, cellsU, cellsI3, cellsY, hB, hP, hY, h1, h2, h3, bind, Option.bind, pure, Option.map_some]
  exact ⟨_, rfl⟩
theorem pg_neq {b p : Int} {f : Nat → Int} (hb : U4 b) (hp : 0 ≤ p ∧ p < 8) (hf : ∀ i, 0 ≤ f i ∧ f i < 256) (w : World) : (binOp .neq 77 (.agg (pgl b p f).toArray) (.agg (pgl b p f).toArray)).run Tryd.prog w = .ok (.bool false) w := by
  obtain ⟨L, hL⟩ := key_pg hb hp hf
  have hk : Tryd.prog.keyTypeAt 4 77 = true := by kernel_rfl
  refine neqRefl (m := 4) (D := 4) (by omega) hk ?_ hL w
  simp only [Value.formed, Tryd.underlying77, cellsPg]
  show ((pgl b p f).length == 258) = true
  rw [pgl_len]; rfl
set_option maxRecDepth 100000 in
set_option maxHeartbeats 4000000 in
theorem sameMem_c {w : World} {ra rb : Nat} {S : MS} {va vb x y : Value} {la lb : List Value} (hS : S.Ok) (hA : Box w ra (x :: va :: la)) (hB : Box w rb (y :: vb :: lb)) (hva : RdR 258 w va S.th.length (pgs S)) (hvb : RdR 258 w vb S.th.length (pgs S)) :
    Calls Tryd.prog 20 #[.pointer (some ⟨ra, 0, none⟩), .pointer (some ⟨rb, 0, none⟩)] w fun e w' => e = .returned (.bool true) ∧ Bw w w' := by
  have hlen : S.th.length ≤ 4096 := by have := hS.len; have := hS.budget; omega
  obtain ⟨qa, ca, rfl, -, -, -, ha⟩ := hva
  obtain ⟨qb, cb, rfl, -, -, -, hb⟩ := hvb
  have a1 := hA.c 1 _ rfl
  have b1 := hB.c 1 _ rfl
  clear hA hB
  go_enter Tryd.func20, Tryd.ntmps20
  go_wp2_with fail
  go_quiet (fail)
  go_wp2_with fail
  go_loopg [5] S.th.length (fun g s wr => ∃ k : Nat, k + g = S.th.length ∧ s = .int .i64 k ∧ Bw w wr)
  case atStart => exact ⟨0, by omega, rfl, (Bw.refl w).drewN _⟩
  case round =>
    obtain ⟨k, hkg, rfl, g⟩ := hrel
    by_cases hk : k < S.th.length
    · have hk3 : (k : Int) < (S.th.length : Int) := by omega
      obtain ⟨K, hK⟩ : ∃ K, S.th[k]? = some K := ⟨_, List.getElem?_eq_getElem hk⟩
      obtain ⟨p, hp⟩ := Option.isSome_iff_exists.1 ((hS.mem K).2 (List.mem_of_getElem? hK))
      have hpo := hS.pg K p hp
      have hKb := hS.rng K (List.mem_of_getElem? hK)
      have hN := fun Y => pg_neq (b := 256 * K) (p := p.perm) (f := p.byt) ⟨by omega, by omega⟩ hpo.perm hpo.byt Y
      have hch : ∀ j v, (pgl (256 * K) p.perm p.byt)[j]? = some v → (pgs S)[k * 258 + j]? = some v := fun j v hv => by
        have hj : j < 258 := by have := (List.getElem?_eq_some_iff.1 hv).1; rwa [pgl_len] at this
        unfold pgs
        rw [chunk (pgc S) 258 (pgc_len S) _ _ _ _ hK hj, show pgc S K = pgl (256 * K) p.perm p.byt by unfold pgc; rw [hp]]
        exact hv
      obtain ⟨ga, oa, rfl, -, ha2⟩ := ha (by omega)
      obtain ⟨gb, ob, rfl, -, hb2⟩ := hb (by omega)
      have hra : wr.rangeAt ga (oa + k * 258) (pgl (256 * K) p.perm p.byt) := fun j v hv => g.keep (by have := ha2 _ _ (hch j v hv); rwa [← Nat.add_assoc] at this)
      have hrb : wr.rangeAt gb (ob + k * 258) (pgl (256 * K) p.perm p.byt) := fun j v hv => g.keep (by have := hb2 _ _ (hch j v hv); rwa [← Nat.add_assoc] at this)
      have a2 := g.keep a1
      have b2 := g.keep b1
      obtain ⟨pl, hpl⟩ : ∃ pl, pgl (256 * K) p.perm p.byt = pl := ⟨_, rfl⟩
      have hL : pl.length = 258 := by rw [← hpl, pgl_len]
      rw [hpl] at hN hra hrb
      clear hch ha hb ha2 hb2 hpo hpl a1 b1
      go_wp2_with fail
      refine wp_region_held_drew (S := fun Y => Y.cell? ⟨ra, 1, none⟩ = some (.slice (some ⟨ga, oa, none⟩) S.th.length ca) ∧ Y.cell? ⟨rb, 1, none⟩ = some (.slice (some ⟨gb, ob, none⟩) S.th.length cb) ∧ Y.rangeAt ga (oa + k * 258) pl ∧ Y.rangeAt gb (ob + k * 258) pl) (by kernel_rfl) ⟨a2, b2, hra, hrb⟩ (fun hHeld => ?_)
      refine wpAnyH_take (i := 0) (oi := ⟨some 26, _, _, _, _, _⟩) (v := ?_) rfl (by kernel_rfl) (by kernel_rfl) (by kernel_rfl) (fun _ _ _ h => h) (Or.inl ⟨by rfl, ?_⟩) (by assumption) ?_; (rotate_left 1); (focus (intro wz hSw; (try dsimp only at hSw); go_simp; try (with_reducible rfl))); simp only [Act.put, List.setIfInBounds_toArray, List.set_cons_zero, List.set_cons_succ]
      refine wpAnyH_take (i := 1) (oi := ⟨some 27, _, _, _, _, _⟩) (v := ?_) rfl (by kernel_rfl) (by kernel_rfl) (by kernel_rfl) (fun _ _ _ h => h) (Or.inl ⟨by rfl, ?_⟩) (by assumption) ?_; (rotate_left 1); (focus (intro wz hSw; (try dsimp only at hSw); go_simp; try (with_reducible rfl))); simp only [Act.put, List.setIfInBounds_toArray, List.set_cons_zero, List.set_cons_succ]
      refine wpAnyH_take (i := 2) (oi := ⟨some 28, _, _, _, _, _⟩) (v := ?_) rfl (by kernel_rfl) (by kernel_rfl) (by kernel_rfl) (fun _ _ _ h => h) (Or.inl ⟨by rfl, ?_⟩) (by assumption) ?_; (rotate_left 1); (focus (intro wz hSw; (try dsimp only at hSw); go_simp; try (with_reducible rfl))); simp only [Act.put, List.setIfInBounds_toArray, List.set_cons_zero, List.set_cons_succ]
      refine wpAnyH_take (i := 3) (oi := ⟨some 29, _, _, _, _, _⟩) (v := ?_) rfl (by kernel_rfl) (by kernel_rfl) (by kernel_rfl) (fun _ _ _ h => h) (Or.inl ⟨by rfl, ?_⟩) (by assumption) ?_; (rotate_left 1); (focus (intro wz hSw; (try dsimp only at hSw); go_simp; try (with_reducible rfl))); simp only [Act.put, List.setIfInBounds_toArray, List.set_cons_zero, List.set_cons_succ]
      refine wpAnyH_take (i := 4) (oi := ⟨some 30, _, _, _, _, _⟩) (v := ?_) rfl (by kernel_rfl) (by kernel_rfl) (by kernel_rfl) (fun _ _ _ h => h) (Or.inl ⟨by rfl, ?_⟩) (by assumption) ?_; (rotate_left 1); (focus (intro wz hSw; (try dsimp only at hSw); go_simp; try (with_reducible rfl))); simp only [Act.put, List.setIfInBounds_toArray, List.set_cons_zero, List.set_cons_succ]
      refine wpAnyH_take (i := 5) (oi := ⟨some 31, _, _, _, _, _⟩) (v := ?_) rfl (by kernel_rfl) (by kernel_rfl) (by kernel_rfl) (fun _ _ _ h => h) (Or.inl ⟨by rfl, ?_⟩) (by assumption) ?_; (rotate_left 1); (focus (intro wz hSw; (try dsimp only at hSw); go_simp; try (with_reducible rfl))); simp only [Act.put, List.setIfInBounds_toArray, List.set_cons_zero, List.set_cons_succ]
      refine wpAnyH_take (i := 6) (oi := ⟨some 32, _, _, _, _, _⟩) (v := .agg pl.toArray) rfl (by kernel_rfl) (by kernel_rfl) (by kernel_rfl) (fun _ _ _ h => h) (yieldsIf_load_mid (by rfl) 77 _ rfl ga (oa + k * 258) rfl pl _ (fun Y hY => hY.2.2.1) Tryd.underlying77 rfl (by rw [hL]; kernel_rfl)) (by assumption) ?_
      simp only [Act.put, List.setIfInBounds_toArray, List.set_cons_zero, List.set_cons_succ]
      refine wpAnyH_take (i := 7) (oi := ⟨some 33, _, _, _, _, _⟩) (v := ?_) rfl (by kernel_rfl) (by kernel_rfl) (by kernel_rfl) (fun _ _ _ h => h) (Or.inl ⟨by rfl, ?_⟩) (by assumption) ?_; (rotate_left 1); (focus (intro wz hSw; (try dsimp only at hSw); go_simp; try (with_reducible rfl))); simp only [Act.put, List.setIfInBounds_toArray, List.set_cons_zero, List.set_cons_succ]
      refine wpAnyH_take (i := 8) (oi := ⟨some 34, _, _, _, _, _⟩) (v := ?_) rfl (by kernel_rfl) (by kernel_rfl) (by kernel_rfl) (fun _ _ _ h => h) (Or.inl ⟨by rfl, ?_⟩) (by assumption) ?_; (rotate_left 1); (focus (intro wz hSw; (try dsimp only at hSw); go_simp; try (with_reducible rfl))); simp only [Act.put, List.setIfInBounds_toArray, List.set_cons_zero, List.set_cons_succ]
      refine wpAnyH_take (i := 9) (oi := ⟨some 35, _, _, _, _, _⟩) (v := ?_) rfl (by kernel_rfl) (by kernel_rfl) (by kernel_rfl) (fun _ _ _ h => h) (Or.inl ⟨by rfl, ?_⟩) (by assumption) ?_; (rotate_left 1); (focus (intro wz hSw; (try dsimp only at hSw); go_simp; try (with_reducible rfl))); simp only [Act.put, List.setIfInBounds_toArray, List.set_cons_zero, List.set_cons_succ]
      refine wpAnyH_take (i := 10) (oi := ⟨some 36, _, _, _, _, _⟩) (v := ?_) rfl (by kernel_rfl) (by kernel_rfl) (by kernel_rfl) (fun _ _ _ h => h) (Or.inl ⟨by rfl, ?_⟩) (by assumption) ?_; (rotate_left 1); (focus (intro wz hSw; (try dsimp only at hSw); go_simp; try (with_reducible rfl))); simp only [Act.put, List.setIfInBounds_toArray, List.set_cons_zero, List.set_cons_succ]
      refine wpAnyH_take (i := 11) (oi := ⟨some 37, _, _, _, _, _⟩) (v := ?_) rfl (by kernel_rfl) (by kernel_rfl) (by kernel_rfl) (fun _ _ _ h => h) (Or.inl ⟨by rfl, ?_⟩) (by assumption) ?_; (rotate_left 1); (focus (intro wz hSw; (try dsimp only at hSw); go_simp; try (with_reducible rfl))); simp only [Act.put, List.setIfInBounds_toArray, List.set_cons_zero, List.set_cons_succ]
      refine wpAnyH_take (i := 12) (oi := ⟨some 38, _, _, _, _, _⟩) (v := ?_) rfl (by kernel_rfl) (by kernel_rfl) (by kernel_rfl) (fun _ _ _ h => h) (Or.inl ⟨by rfl, ?_⟩) (by assumption) ?_; (rotate_left 1); (focus (intro wz hSw; (try dsimp only at hSw); go_simp; try (with_reducible rfl))); simp only [Act.put, List.setIfInBounds_toArray, List.set_cons_zero, List.set_cons_succ]
      refine wpAnyH_take (i := 13) (oi := ⟨some 39, _, _, _, _, _⟩) (v := .agg pl.toArray) rfl (by kernel_rfl) (by kernel_rfl) (by kernel_rfl) (fun _ _ _ h => h) (yieldsIf_load_mid (by rfl) 77 _ rfl gb (ob + k * 258) rfl pl _ (fun Y hY => hY.2.2.2) Tryd.underlying77 rfl (by rw [hL]; kernel_rfl)) (by assumption) ?_
      simp only [Act.put, List.setIfInBounds_toArray, List.set_cons_zero, List.set_cons_succ]
      refine wpAnyH_take (i := 14) (oi := ⟨some 40, _, _, _, _, _⟩) (v := ?_) rfl (by kernel_rfl) (by kernel_rfl) (by kernel_rfl) (fun _ _ _ h => h) (Or.inl ⟨by rfl, ?_⟩) (by assumption) ?_; (rotate_left 1); (focus (intro wz hSw; (try dsimp only at hSw); go_simp; try (with_reducible rfl))); simp only [Act.put, List.setIfInBounds_toArray, List.set_cons_zero, List.set_cons_succ]
      refine wpAnyH_done (by kernel_rfl) ?_ _
      go_wp2_with fail
      go_roundg (S.th.length - (k + 1))
      case measure => omega
      case rel => exact ⟨k + 1, by omega, by simp, g.drew⟩
    · obtain rfl : k = S.th.length := by omega
      have a2 := g.keep a1
      go_wp2_with fail
      go_returns
      exact ⟨rfl, g⟩
end Go.Proofs.YtbackacbdfgdoaaDoor
namespace Go.Proofs.YtbackacbdfgdoaaDoor
open Go.ChangeShapes Go.WideShapes Go.ChangeAt Go.RowKit
open Cpu
set_option linter.unusedVariables false

theorem HasB.kp {w0 w w' : World} {mb N : Nat} {S : MS} {P Q : Nat → Prop} (h : HasB w0 w mb N S P) (k : Kp Q w w') (hQ : ∀ i, ¬ P i → Q i) (g : Bw w0 w') : HasB w0 w' mb N S P := by
  obtain ⟨F, _, hF, L, o⟩ := h
  exact ⟨F, g, hF, L, o.congr k.1 (fun i hi => k.2 i (o.lt i hi) (hQ i (hF i hi).2))⟩
/-- The registers of a State's box. -/
def xl (f : Nat → Int) : List Value := (List.range 32).map fun i => Value.int .u32 (f i)
theorem SB.xrange {w : World} {b : Nat} {s : St} (h : SB w b s) : w.rangeAt b 0 (xl s.x) := fun j v hv => by
  rw [Nat.zero_add]
  have hj : j < 32 := by have := (List.getElem?_eq_some_iff.1 hv).1; simpa [xl] using this
  unfold xl at hv
  rw [List.getElem?_map, List.getElem?_range hj] at hv
  simp at hv
  subst hv
  exact h.c hj
theorem infoX (f : Nat → Int) : (Tryd.prog.info? 30).map (·.size) = some (xl f).length := by
  rw [show (xl f).length = 32 by simp [xl]]; kernel_rfl
theorem wpLoadX {ops : Array Oper} {rest : List Oper} {op : Oper} {a : Act} {w : World} {Q : Exit → Act → World → Prop} (hw : Region.wanted op (yielded ops a.tmps) = true) (x : Operand) (ho : op.op = .load 30 x)
    (b : Nat) {s : St} (hx : a.eval x = .pointer (some ⟨b, 0, none⟩)) (hb : SB w b s) (h : wpList Tryd.prog ops Q rest (a.put op.dst (.agg (xl s.x).toArray)) w) : wpList Tryd.prog ops Q (op :: rest) a w :=
  BigFrame.wpList_want hw fun _ hK => wp_load_mid 30 x ho b 0 hx (xl s.x) _ hb.xrange Tryd.underlying30 rfl (infoX _) (hK _ _ h)
theorem x_eqlL (f : Nat → Int) (hs : ∀ i, U4 (f i)) (w : World) : (binOp .eql 30 (.agg (xl f).toArray) (.agg (xl f).toArray)).run Tryd.prog w = .ok (.bool true) w := x_eql f hs w
/-- A State with two registers set. -/
def st2 (i j : Nat) (a b : Int) : St := ((awS.put i a).put j b)
theorem st2_ok {i j : Nat} {a b : Int} (ha : U4 a) (hb : U4 b) : (st2 i j a b).Ok := by
  refine ⟨fun k => ?_, awS_ok.pc, awS_ok.ret⟩
  show U4 (if k = j then b else if k = i then a else 0)
  split
  · exact hb
  · split
    · exact ha
    · exact ⟨by decide, by decide⟩
/-- A State's box, its two registers set in place. -/
theorem SB.two {w : World} {b : Nat} (h : SB w b awS) {i j : Nat} (hi : i < 32) (hj : j < 32) (x y : Int) : SB ((w.setCell ⟨b, i, none⟩ (.int .u32 x)).setCell ⟨b, j, none⟩ (.int .u32 y)) b (st2 i j x y) := (h.put hi x).put hj y
theorem done_x {s : St} (h0 : s.x 0 = 0) (pc : Int) : (done s 0 0 pc).x = s.x := by
  funext i
  show (if i = 0 then 0 else if i = (0 : Int).toNat then 0 else s.x i) = s.x i
  by_cases h : i = 0
  · subst h; rw [if_pos rfl, h0]
  · rw [if_neg h, if_neg (by simpa using h)]
end Go.Proofs.YtbackacbdfgdoaaDoor
namespace Go.Proofs.YtbackacbdfgdoaaDoor
open Cpu
set_option linter.unusedVariables false
namespace Cpu
/-- Alike but for x0. -/
structure Zq (p q : St) : Prop where
  pc : q.pc = p.pc
  ret : q.ret = p.ret
  x : ∀ i, i ≠ 0 → q.x i = p.x i
theorem Zq.done {p q : St} (h : Zq p q) (r v tg : Int) : done q r v tg = done p r v tg := by
  unfold Cpu.done
  rw [h.ret]
  congr 1
  funext i
  by_cases h0 : i = 0
  · rw [if_pos h0, if_pos h0]
  · rw [if_neg h0, if_neg h0, h.x i h0]
theorem Zq.reg {p q : St} (h : Zq p q) (r : Int) : reg q r = reg p r := by
  unfold Cpu.reg
  split
  · rfl
  · exact h.x _ (by omega)
theorem Zq.next {p q : St} (h : Zq p q) : next q = next p := by unfold Cpu.next; rw [h.pc]
theorem Zq.rel {p q : St} (h : Zq p q) (i : Rv.Ins) : rel i q = rel i p := by unfold Cpu.rel; rw [h.pc]
theorem Zq.adr {p q : St} (h : Zq p q) (i : Rv.Ins) : adr i q = adr i p := by unfold Cpu.adr; rw [h.reg]
/-- Two answers alike, or both states as they were. -/
def Alike (p q : St) (a b : Res) : Prop := b.ev = a.ev ∧ b.mem = a.mem ∧ (a.ev.kind = 0 ∧ b.st = a.st ∨ a.ev.kind ≠ 0 ∧ a.st = p ∧ b.st = q)
theorem Alike.yes {p q : St} {s : St} {S : MS} : Alike p q ⟨s, nx, S⟩ ⟨s, nx, S⟩ := ⟨rfl, rfl, Or.inl ⟨rfl, rfl⟩⟩
theorem Alike.no {p q : St} {e : Ev} {S : MS} (h : e.kind ≠ 0) : Alike p q ⟨p, e, S⟩ ⟨q, e, S⟩ := ⟨rfl, rfl, Or.inr ⟨h, rfl, rfl⟩⟩
theorem Zq.hop {p q : St} (h : Zq p q) (S : MS) (r v tg : Int) : Alike p q (hop S p r v tg) (hop S q r v tg) := by
  unfold Cpu.hop
  split
  · rw [h.done]; exact Alike.yes
  · exact Alike.no (by dsimp only; omega)
theorem Zq.run {p q : St} (h : Zq p q) (S : MS) (i : Rv.Ins) : Alike p q (run S i p) (run S i q) := by
  have hd := h.done
  have hr := h.reg
  have hn := h.next
  have hl := h.rel
  have ha := h.adr
  unfold Cpu.run
  split
  · rw [hd, hn]; exact Alike.yes
  split
  · rw [hd, hn, hl]; exact Alike.yes
  split
  · rw [hn, hl]; exact h.hop _ _ _ _
  split
  · rw [hn, ha]; exact h.hop _ _ _ _
  split
  · unfold brn
    rw [hr, hr, hl, hd, hn]
    split
    · exact h.hop _ _ _ _
    · exact Alike.yes
  split
  · unfold lod
    rw [ha, hd, hn]
    split
    · exact Alike.yes
    · exact Alike.no (by dsimp only; omega)
  split
  · unfold sto
    rw [ha, hr, hd, hn]
    split
    · exact Alike.yes
    · exact Alike.no (by dsimp only; omega)
  split
  · unfold rck
    rw [hr, hr, hd, hn]; exact Alike.yes
  split
  · rw [hd, hn]; exact Alike.yes
  split
  · rw [h.pc]; exact Alike.no (by dsimp only; omega)
  · rw [h.pc]; exact Alike.no (by dsimp only; omega)
theorem fetch_kind (S : MS) (pc : Int) : (fetch S pc).2.kind = 0 ∨ (fetch S pc).2.kind ≠ 0 := by omega
theorem Zq.step {p q : St} (h : Zq p q) (S : MS) : Alike p q (step S p) (step S q) := by
  unfold Cpu.step
  rw [h.pc]
  split
  · exact h.run S _
  · rename_i hk; exact Alike.no hk
theorem zq_put (s : St) (v : Int) : Zq (s.put 0 0) (s.put 0 v) := ⟨rfl, rfl, fun i hi => by show (if i = 0 then v else s.x i) = (if i = 0 then 0 else s.x i); rw [if_neg hi, if_neg hi]⟩
/-- What a step leaves. -/
inductive Left (S : MS) (s : St) (R : Res) : Prop
  | yes (r v tg : Int) (hk : R.ev.kind = 0) (hs : R.st = done s r v tg) (ht : tg % 4 = 0) : Left S s R
  | no (hk : R.ev.kind ≠ 0) (hs : R.st = s) (hm : R.mem = S) : Left S s R
theorem left_hop (S : MS) (s : St) (r v tg : Int) : Left S s (hop S s r v tg) := by
  unfold hop
  split
  · rename_i h; exact .yes r v tg rfl rfl h
  · exact .no (by dsimp only; omega) rfl rfl
theorem left_run (S : MS) (i : Rv.Ins) (s : St) (hp : s.pc % 4 = 0) : Left S s (run S i s) := by
  have hn : next s % 4 = 0 := by unfold next; omega
  rcases run_cases S i s with ⟨v, e⟩ | ⟨r, v, tg, e⟩ | e | e | e | e | e | e <;> rw [e]
  · exact .yes _ _ _ rfl rfl hn
  · exact left_hop _ _ _ _ _
  · unfold brn; split
    · exact left_hop _ _ _ _ _
    · exact .yes _ _ _ rfl rfl hn
  · unfold lod; split
    · exact .yes _ _ _ rfl rfl hn
    · exact .no (by dsimp only; omega) rfl rfl
  · unfold sto; split
    · exact .yes _ _ _ rfl rfl hn
    · exact .no (by dsimp only; omega) rfl rfl
  · exact .yes _ _ _ rfl rfl hn
  · exact .no (by dsimp only; omega) rfl rfl
  · exact .no (by dsimp only; omega) rfl rfl
theorem left_step (S : MS) (s : St) : Left S s (step S s) := by
  unfold step
  split
  · rename_i hk
    refine left_run S _ s ?_
    unfold fetch at hk
    by_cases h0 : S.ask s.pc 4 4 = 0
    · unfold MS.ask at h0
      split at h0
      · rename_i h; exact h.2
      · simp at h0
    · rw [if_neg h0] at hk
      exact absurd hk (by show (1 : Int) ≠ 0; decide)
  · rename_i hk; exact .no hk rfl rfl
/-- A State as a step leaves it. -/
structure Uo (s t : St) : Prop where
  x : ∀ i, U4 (t.x i)
  pc : U4 t.pc
  ret : s.ret ≤ t.ret ∧ t.ret ≤ s.ret + 1
theorem Uo.refl {s : St} (h : s.Ok) : Uo s s := ⟨h.x, h.pc, by omega⟩
theorem Uo.done {s : St} (h : s.Ok) (r : Int) {v tg : Int} (hv : U4 v) (ht : U4 tg) : Uo s (Cpu.done s r v tg) := by
  refine ⟨fun i => ?_, ht, by show _ ≤ s.ret + 1 ∧ s.ret + 1 ≤ _; omega⟩
  show U4 (if i = 0 then 0 else if i = r.toNat then v else s.x i)
  split
  · exact ⟨by decide, by decide⟩
  · split
    · exact hv
    · exact h.x i
theorem Uo.hop {s : St} (h : s.Ok) (S : MS) (r : Int) {v tg : Int} (hv : U4 v) (ht : U4 tg) : Uo s (Cpu.hop S s r v tg).st := by
  unfold Cpu.hop
  split
  · exact Uo.done h r hv ht
  · exact Uo.refl h
theorem u32_u4 {v : Int} (h : Alu.U32 v) : U4 v := by obtain ⟨a, b⟩ := h; exact ⟨a, by omega⟩
theorem u4_u32 {v : Int} (h : U4 v) : Alu.U32 v := by obtain ⟨a, b⟩ := h; exact ⟨a, by omega⟩
theorem Uo.run {S : MS} {s : St} (hS : S.Ok) (h : s.Ok) (i : Rv.Ins) : Uo s (Cpu.run S i s).st := by
  have z : U4 0 := ⟨by decide, by decide⟩
  have hn := next_u4 s
  have hl := rel_u4 i s
  have ha := adr_u4 i s
  unfold Cpu.run
  split
  · exact Uo.done h _ (U4.mod _) hn
  split
  · exact Uo.done h _ hl hn
  split
  · exact Uo.hop h _ _ hn hl
  split
  · exact Uo.hop h _ _ hn (by obtain ⟨a, b⟩ := ha; exact ⟨by omega, by omega⟩)
  split
  · unfold brn
    split
    · exact Uo.hop h _ _ z hl
    · exact Uo.done h _ z hn
  split
  · unfold lod
    split
    · exact Uo.done h _ (u32_u4 (Alu.ext_U32 _ (u4_u32 (MS.load_u4 hS _ _ _)))) hn
    · exact Uo.refl h
  split
  · unfold sto
    split
    · exact Uo.done h _ z hn
    · exact Uo.refl h
  split
  · unfold rck
    refine Uo.done h _ (u32_u4 (Alu.val_U32 _ (u4_u32 (reg_u4 h _)) (u4_u32 ?_))) hn
    split
    · exact U4.mod _
    · exact reg_u4 h _
  split
  · exact Uo.done h _ z hn
  split
  · exact Uo.refl h
  · exact Uo.refl h
theorem Uo.step {S : MS} {s : St} (hS : S.Ok) (h : s.Ok) : Uo s (Cpu.step S s).st := by
  unfold Cpu.step
  split
  · exact Uo.run hS h _
  · exact Uo.refl h
end Cpu
end Go.Proofs.YtbackacbdfgdoaaDoor
