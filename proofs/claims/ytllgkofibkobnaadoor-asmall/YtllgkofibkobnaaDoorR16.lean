/- LAYER 6's walks: Parse. · LAYER 6's laws: awake. · LAYER 6's law AsmBack. · PLAIN MATHEMATICS OF LAYER 6: instructions' texts, a line each, come to their words. · LAYER 5: the listed tables, off the row's condition. · OPENING AND SHUTTING ARGUMENTS that are instructions. · LAYER 6: the listed tables, off the row's condition; the end of a law. -/
import Derived.Test.YtllgkofibkobnaaDoorR12
import Derived.Test.YtllgkofibkobnaaDoorR14
import Derived.Laws.BytesArg
import Derived.Test.YtllgkofibkobnaaDoorR2
import Derived.LaidMore
import Derived.Stop.Joined
import Derived.Lib.LaidTab
import Derived.Test.YtllgkofibkobnaaDoorR1
import Derived.ChangeSame
namespace Go.Proofs.YtllgkofibkobnaaDoor
open Go.ChangeShapes Go.WideShapes Go.ChangeAt Go.RowKit

theorem Asm.ret_ie {i j : Rv.Ins} {c d : Int} (h : i = j) (h3 : c = d) : Ending.returned (.tuple #[Rv.iv i, .int .i64 c]) = .returned (.tuple #[Rv.iv j, .int .i64 d]) := by rw [h, h3]
theorem Parse_c (l : List UInt8) (w : World) (hl : l.length < 4294967281) (ht : Tabs w) (hn : NTab w) :
    Calls Tryd.prog 7 #[.string (bs l)] w fun e w' => e = .returned (.tuple #[Rv.iv (Asm.parse (Asm.tok l)).1, .int .i64 (Asm.parse (Asm.tok l)).2]) ∧ Bw w w' := by
  have hb0 := (Bw.refl w).alloc (.cells #[.int .i64 0, .int .i64 0, .int .i64 0, .int .i64 0, .int .i32 0] 29)
  have hz0 : IW (w.alloc (.cells #[.int .i64 0, .int .i64 0, .int .i64 0, .int .i64 0, .int .i32 0] 29)) w.heap.size Asm.zero := IW.new w Asm.zero 29
  have hP := parse_c l (w.alloc (.cells #[.int .i64 0, .int .i64 0, .int .i64 0, .int .i64 0, .int .i32 0] 29)) hl (ht.bw hb0) (hn.bw hb0)
  generalize Asm.parse (Asm.tok l) = R at *
  obtain ⟨i, x⟩ := R
  dsimp only at *
  unfold Rv.iv at *
  go_enter Tryd.func7, Tryd.ntmps7
  go_wp2_with (go_at_call 19; refine hP.mono ?_; rintro e w1 ⟨rfl, hb1⟩; have q := fun o => (hz0.bw hb1).bw ((Bw.refl w1).alloc o); have r0 := fun o => (q o).box.c0; have r1 := fun o => (q o).box.c1; have r2 := fun o => (q o).box.c2; have r3 := fun o => (q o).box.c3; have r4 := fun o => (q o).box.c4; have rz := fun o => (q o).fz)
  refine bodyPost_ret (by simp [results, Tryd.results7, go_sem, r0, r1, r2, r3, r4]; try rfl) rfl ?_
  exact ⟨rfl, ((hb0.trans hb1).alloc _).set5 _ _ _ _ _⟩
end Go.Proofs.YtllgkofibkobnaaDoor
namespace Go.Proofs.YtllgkofibkobnaaDoor
open Go.ChangeShapes Go.WideShapes Go.ChangeAt Go.RowKit

def Asm.i19 : Rv.Ins := ⟨19, 1, 0, 0, -1⟩
def Asm.l19 : List UInt8 := [97, 100, 100, 105, 32, 120, 49, 44, 32, 120, 48, 44, 32, 45, 49]
theorem Asm.good19 : Rv.good Asm.i19 := (Rv.good_5 (by decide)).2 (by unfold Asm.i19 Rv.reg; dsimp only; omega)
theorem Asm.gtext19 : Asm.gtext Asm.i19 = Asm.l19 := by
  have h0 : Lib.itoa 0 = [48] := by rw [Lib.itoa, if_neg (by omega), Asm.dec_small (by decide)]; rfl
  have h1 : Lib.itoa 1 = [49] := by rw [Lib.itoa, if_neg (by omega), Asm.dec_small (by decide)]; rfl
  have h2 : Lib.itoa (-1) = [45, 49] := by rw [Lib.itoa, if_pos (by omega), Asm.dec_small (by decide)]; rfl
  simp [Asm.gtext, Asm.i19, Asm.shape, Asm.ptexts, Asm.ptext, h0, h1, h2, Rv.nmT, Asm.l19]
theorem Asm.parse19 : Asm.parse (Asm.tok Asm.l19) = (Asm.i19, 0) := by rw [← Asm.gtext19]; exact Asm.parse_gtext Asm.good19 (by decide)
/-- What the walks need of the world: the tables as the program's text lays them. -/
structure All6 (w : World) : Prop where
  t : Tabs w
  n : NTab w
  p : PTab w
theorem All6.bw {w w' : World} (h : All6 w) (g : Bw w w') : All6 w' := ⟨h.t.bw g, h.n.bw g, h.p.bw g⟩
theorem awake6_c (w : World) (ha : All6 w) :
    Calls Tryd.prog 4 #[] w fun e w' => e = .returned (.bool true) ∧ Bw w w' := by
  have hP := Parse_c Asm.l19 w (by decide) ha.t ha.n
  rw [Asm.parse19] at hP
  have hT := fun w h => Text_good Asm.i19 w (All6.t h) h.n h.p (by decide) Asm.good19
  rw [Asm.gtext19] at hT
  unfold Rv.iv Asm.i19 at hP hT
  dsimp only at hP hT
  go_enter Tryd.func4, Tryd.ntmps4
  go_wp2_with fail
  refine hP.mono ?_
  rintro e w1 ⟨rfl, hb1⟩
  go_wp2_with fail
  refine (hT _ (ha.bw (hb1.alloc _))).mono ?_
  rintro e w2 ⟨rfl, hb2⟩
  have hq : (Asm.l19 == [97, 100, 100, 105, 32, 120, 49, 44, 32, 120, 48, 44, 32, 45, 49]) = true := by decide
  go_wp2_with fail
  go_ret
  exact ⟨rfl, (hb1.alloc _).trans hb2⟩
end Go.Proofs.YtllgkofibkobnaaDoor
namespace Go.Proofs.YtllgkofibkobnaaDoor
open Go.ChangeShapes Go.WideShapes Go.ChangeAt Go.RowKit

theorem Asm.gtext_len {i : Rv.Ins} (h : Rv.good i) (hm : -2147483648 ≤ i.imm ∧ i.imm < 2147483648) : (Asm.gtext i).length ≤ 80 := by
  have h1 := (Asm.nm_ne i.op.toNat (by have := h.1; omega) (by have := h.1; omega)).2
  have h2 := Asm.ptexts_len i (Asm.shape i.op) ⟨h.2.1, h.2.2.1, h.2.2.2.1⟩ hm
  have h3 := (Asm.shape_b i.op).1
  unfold Asm.gtext
  generalize Rv.nmT.getD i.op.toNat [] = nm at *
  rw [List.length_append, List.length_append]
  split
  · simp; omega
  · simp; omega
theorem Rv.eqlInsT (i : Rv.Ins) (w : World) : (binOp .eql 29 (.agg #[.int .i64 i.op, .int .i64 i.rd, .int .i64 i.rs1, .int .i64 i.rs2, .int .i32 i.imm]) (.agg #[.int .i64 i.op, .int .i64 i.rd, .int .i64 i.rs1, .int .i64 i.rs2, .int .i32 i.imm])).run Tryd.prog w = .ok (.bool true) w := by
  rw [run_eql_struct, Rv.eqlIns]; simp [Result.andThen]
end Go.Proofs.YtllgkofibkobnaaDoor
namespace Go.Proofs.YtllgkofibkobnaaDoor
open Go.ChangeShapes Go.WideShapes Go.ChangeAt Go.RowKit
namespace Asm
open Go.Lib

theorem nm_b2 : ∀ a, a < 50 → (Rv.nmT.getD a []).all (fun b => b != 10 && b != 35) = true := by decide +kernel
theorem nm_word : ∀ a, a < 50 → Rv.nmT.getD a [] ≠ wordName := by decide +kernel
def clean (b : UInt8) : Prop := b ≠ 10 ∧ b ≠ 35
theorem itoa_clean (n : Int) : ∀ b ∈ itoa n, clean b := by
  intro b hb
  rcases itoa_b n b hb with rfl | h
  · exact ⟨by decide, by decide⟩
  · have := isD_bd h
    exact ⟨by rintro rfl; simp at this, by rintro rfl; simp at this⟩
theorem ptext_clean (i : Rv.Ins) (p : UInt8) (hp : clean p) : ∀ b ∈ ptext i p, clean b := by
  unfold ptext
  have hx : clean 120 := ⟨by decide, by decide⟩
  intro b hb
  (repeat' split at hb)
  · simp at hb; rcases hb with rfl | hb; exact hx; exact itoa_clean _ b hb
  · simp at hb; rcases hb with rfl | hb; exact hx; exact itoa_clean _ b hb
  · simp at hb; rcases hb with rfl | hb; exact hx; exact itoa_clean _ b hb
  · exact itoa_clean _ b hb
  · exact itoa_clean _ b hb
  · simp at hb; rcases hb with rfl | rfl <;> exact ⟨by decide, by decide⟩
  · simp at hb; subst hb; exact hp
theorem gtext_clean {i : Rv.Ins} (h : Rv.good i) : ∀ b ∈ gtext i, clean b := by
  intro b hb
  unfold gtext at hb
  rw [List.mem_append, List.mem_append] at hb
  rcases hb with hb | hb | hb
  · have := List.all_eq_true.1 (nm_b2 i.op.toNat (by have := h.1; omega)) b hb
    simp at this; exact this
  · split at hb
    · simp at hb
    · simp at hb; subst hb; exact ⟨by decide, by decide⟩
  · unfold ptexts at hb
    rw [List.mem_flatMap] at hb
    obtain ⟨p, hp, hb⟩ := hb
    refine ptext_clean i p ?_ b hb
    have := (shape_b i.op).2 p hp
    simp only [List.mem_cons, List.not_mem_nil, or_false] at this
    rcases this with rfl | rfl | rfl | rfl | rfl | rfl | rfl | rfl <;> exact ⟨by decide, by decide⟩
theorem upto_all {c : UInt8} {l r : List UInt8} (h : ∀ b ∈ l, b ≠ c) : upto c (l ++ c :: r) = l ∧ past c (l ++ c :: r) = r := by
  induction l with
  | nil => simp [upto, past]
  | cons a l ih =>
    have ha : (a != c) = true := by simpa using h a (by simp)
    obtain ⟨h1, h2⟩ := ih (fun b hb => h b (by simp [hb]))
    unfold upto past at *
    simp only [List.cons_append, List.takeWhile_cons, List.dropWhile_cons, ha, if_true]
    exact ⟨by rw [h1], h2⟩
theorem upto_none {c : UInt8} {l : List UInt8} (h : ∀ b ∈ l, b ≠ c) : upto c l = l := by
  unfold upto
  induction l with
  | nil => rfl
  | cons a l ih =>
    have ha : (a != c) = true := by simpa using h a (by simp)
    rw [List.takeWhile_cons, if_pos ha, ih (fun b hb => h b (by simp [hb]))]
theorem lines_line {l r : List UInt8} (h : ∀ b ∈ l, b ≠ 10) : lines (l ++ 10 :: r) = l :: lines r := by
  rw [lines_cut (by simp)]
  obtain ⟨h1, h2⟩ := upto_all (r := r) h
  rw [h1, h2]
theorem tok_gtext {i : Rv.Ins} (h : Rv.good i) : ∃ ts, tok (gtext i) = Rv.nmT.getD i.op.toNat [] :: ts := by
  have hop := h.1
  have he : ends ((if shape i.op = [] then [] else [32]) ++ ptexts i (shape i.op)) := by
    split
    · rename_i e; rw [e]; exact ends_nil
    · exact e32 _
  exact ⟨_, tok_name (k := i.op.toNat) (by omega) (by omega) he⟩
theorem lineW_gtext {i : Rv.Ins} (h : Rv.good i) (hm : -2147483648 ≤ i.imm ∧ i.imm < 2147483648) : lineW (tok (gtext i)) = (Rv.enc i, 0) := by
  have hop := h.1
  obtain ⟨ts, ht⟩ := tok_gtext h
  unfold lineW
  rw [if_neg (by rw [ht]; simpa using nm_word i.op.toNat (by omega)), parse_gtext h hm]
  simp [wrd]
/-- The texts of the first k, a line each; their words' bytes. -/
def texts (f : Nat → Rv.Ins) (k : Nat) : List UInt8 := (List.range k).flatMap fun i => gtext (f i) ++ [10]
def bytesL (f : Nat → Rv.Ins) (k : Nat) : List Int := (List.range k).flatMap fun i => le4 (Rv.enc (f i))
theorem texts_succ (f : Nat → Rv.Ins) (k : Nat) : texts f (k + 1) = texts f k ++ (gtext (f k) ++ [10]) := by simp [texts, List.range_succ]
theorem bytesL_succ (f : Nat → Rv.Ins) (k : Nat) : bytesL f (k + 1) = bytesL f k ++ le4 (Rv.enc (f k)) := by simp [bytesL, List.range_succ]
theorem bytesL_len (f : Nat → Rv.Ins) : ∀ k, (bytesL f k).length = 4 * k
  | 0 => rfl
  | k + 1 => by rw [bytesL_succ, List.length_append, bytesL_len f k]; simp [le4]; omega
def okI (i : Rv.Ins) : Prop := Rv.good i ∧ -2147483648 ≤ i.imm ∧ i.imm < 2147483648
theorem texts_len (f : Nat → Rv.Ins) : ∀ k, (∀ i, i < k → okI (f i)) → (texts f k).length ≤ 81 * k
  | 0, _ => by simp [texts]
  | k + 1, h => by
    have h1 := texts_len f k (fun i hi => h i (by omega))
    have h2 := gtext_len (h k (by omega)).1 (h k (by omega)).2
    rw [texts_succ]; simp; omega
theorem runL_append (g : List (List UInt8)) : ∀ (n : Int) (acc : List Int) (rest : List (List UInt8)) (ws : List Int), g.length = ws.length →
    (∀ (j : Nat) s w, g[j]? = some s → ws[j]? = some w → tok (upto 35 s) ≠ [] ∧ lineW (tok (upto 35 s)) = (w, 0)) →
    runL n (g ++ rest) acc = runL (n + g.length) rest (acc ++ ws.flatMap le4) := by
  induction g with
  | nil => intro n acc rest ws hl _; cases ws with | nil => simp | cons a t => simp at hl
  | cons s g ih =>
    intro n acc rest ws hl h
    cases ws with
    | nil => simp at hl
    | cons w ws =>
      obtain ⟨h1, h2⟩ := h 0 s w rfl rfl
      rw [List.cons_append, runL, if_neg h1, if_pos (by rw [h2]), h2, ih _ _ _ ws (by simpa using hl) (fun j s' w' hs hw => h (j + 1) s' w' hs hw)]
      simp only [List.flatMap_cons, List.append_assoc, List.length_cons]
      congr 1
      omega
theorem texts_lines (f : Nat → Rv.Ins) : ∀ k (r : List UInt8), (∀ i, i < k → okI (f i)) → lines (texts f k ++ r) = (List.range k).map (fun i => gtext (f i)) ++ lines r
  | 0, r, _ => by simp [texts]
  | k + 1, r, h => by
    rw [texts_succ, List.append_assoc, texts_lines f k _ (fun i hi => h i (by omega)), List.append_assoc, List.cons_append, List.nil_append,
      lines_line (fun b hb => (gtext_clean (h k (by omega)).1 b hb).1)]
    simp [List.range_succ]
theorem texts_count (f : Nat → Rv.Ins) : ∀ k, (∀ i, i < k → okI (f i)) → (texts f k).count 10 = k
  | 0, _ => by simp [texts]
  | k + 1, h => by
    have h1 := texts_count f k (fun i hi => h i (by omega))
    have h2 : (gtext (f k)).count 10 = 0 := List.count_eq_zero.2 (fun hb => (gtext_clean (h k (by omega)).1 10 hb).1 rfl)
    rw [texts_succ, List.count_append, h1, List.count_append, h2]; simp
theorem all_texts (f : Nat → Rv.Ins) (k : Nat) (hk : k ≤ 60) (h : ∀ i, i < k → okI (f i)) : all (texts f k) = (bytesL f k, 0, 0) := by
  have hl := texts_len f k h
  have hc : count (texts f k) ≤ 61 := by unfold count; rw [texts_count f k h]; split <;> omega
  unfold all
  rw [if_neg (by omega)]
  have e := texts_lines f k [] h
  rw [List.append_nil] at e
  rw [e, runL_append _ _ _ _ ((List.range k).map fun i => Rv.enc (f i)) (by simp)]
  · rw [lines_nil, runL]
    simp [bytesL, List.flatMap_map]
  · intro j s w hs hw
    rw [List.getElem?_map] at hs hw
    by_cases hj : j < k
    · rw [List.getElem?_range hj] at hs hw
      simp at hs hw
      subst hs hw
      have hg := h j hj
      rw [upto_none (fun b hb => (gtext_clean hg.1 b hb).2)]
      exact ⟨by obtain ⟨ts, ht⟩ := tok_gtext hg.1; rw [ht]; simp, lineW_gtext hg.1 hg.2⟩
    · rw [List.getElem?_eq_none (by simpa using hj)] at hs; simp at hs
end Asm
theorem conv8 {w0 w : World} {v : Value} {l : List Int} (h : Own8 w0 w v l) : (convert 23 9 v).run Tryd.prog w = .ok (.string (strOfNums l)) w := by
  obtain ⟨h1, h2⟩ := h
  rcases h2 with ⟨rfl, h3⟩ | ⟨g, cap, cur, rfl, hb, hc, h4, h5, h6, h7⟩
  · have : l = [] := List.eq_nil_of_length_eq_zero h3
    subst this
    exact run_convert_bytes_nil w 23 5 Tryd.underlying23 Tryd.underlying5 0 0 _ Tryd.underlying9
  · refine run_convert_bytes_arg w 23 5 Tryd.underlying23 Tryd.underlying5 g 0 l.length cap l rfl (fun i hi => ?_) _ Tryd.underlying9
    have h8 : (ints8 l)[i]? = some (.int .u8 (l.getD i 0)) := by simp [ints8, List.getD, List.getElem?_eq_getElem hi]
    rw [← h7, List.getElem?_take_of_lt (by omega)] at h8
    rw [Nat.zero_add]
    simp [World.cell?, hc] at h8 ⊢
    exact h8
end Go.Proofs.YtllgkofibkobnaaDoor
namespace Go.Proofs.YtllgkofibkobnaaDoor
open Go.ChangeShapes Go.WideShapes Go.ChangeAt Go.WideMaps Go.WideElems Go.RowKit

/-- One listed variable's reading, wherever it stands on the list. -/
def Reads (P : Program) (w : World) (n : String) (d : DataW Unit) : Prop :=
  ∃ g t cs fuel p, P.globalNamed n = some g ∧ (P.globals[g]?).map (·.type) = some t ∧ w.var? P n = some cs ∧ DataW.trod (fun _ => ()) P w 0 (fun _ => true) false fuel t cs.toList = some (d, p)
theorem reads_of {P : Program} {w : World} : ∀ {l : List (String × DataW Unit)} {ps : List MemPlace}, DataW.LaidVars P w l ps → ∀ n d, (n, d) ∈ l → Reads P w n d
  | [], _, _, _, _, hm => by cases hm
  | (n', d') :: r, ps, h, n, d, hm => by
    obtain ⟨g, t, cs, fuel, p, q, h1, h2, h3, h4, h5, _⟩ := h
    rcases List.mem_cons.1 hm with e | e
    · cases e
      exact ⟨g, t, cs, fuel, p, h1, h2, h3, h4⟩
    · exact reads_of h5 n d e
theorem laid_reads {P : Program} {w : World} {l : List (String × DataW Unit)} (h : laidMetH P l w) (hp : (l.all fun x => x.2.handleName?.isNone) = true) {n : String} {d : DataW Unit} (hm : (n, d) ∈ l) : Reads P w n d := by
  rw [MakeChecks.laidMetH_plain _ _ _ hp] at h
  obtain ⟨_, hv, _⟩ := h
  exact reads_of hv n d hm
theorem ints_at {P : Program} {W : World} {name : String} {k : IntKind} {zs : List Int} {g : Nat} {t e : TypeId} {n : Nat} (h : Reads P W name (Lib.tabData k zs))
    (hg : P.globalNamed name = some g) (hty : (P.globals[g]?).map (·.type) = some t) (ht : P.underlying t = some (.array n e)) (he : P.underlying e = some (.int k)) (hce : P.cellsOf e = 1) (hct : P.cellsOf t = n) (i : Nat) (hi : i < zs.length) :
    W.cell? ⟨g, i, none⟩ = some (.int k (zs.getD i 0)) := by
  obtain ⟨g', t', cs, fuel, p, hg', ht', hvar, hd⟩ := h
  obtain rfl := Option.some.inj (hg.symm.trans hg')
  obtain rfl := Option.some.inj (hty.symm.trans ht')
  have hT : Lib.TabIs P W name k zs := by unfold Lib.TabIs; rw [hvar, ← Lib.cells_of_tab ht he hce hct hd]
  exact hT.cell hg i hi
/-- A table of strings. -/
def strData {H : Type} (zs : List (List UInt8)) : DataW H := .agg (zs.map fun z => .lit (.string z))
theorem strs_cells {H : Type} {enc : TypeId × Value → H} {P : Program} {w : World} {base : Nat} {sp : Nat → Bool} {held : Bool} {fuel : Nat} {t e : TypeId} {n : Nat} {cs : List Value} {zs : List (List UInt8)} {p : List MemPlace}
    (ht : P.underlying t = some (.array n e)) (he : P.underlying e = some .string) (hce : P.cellsOf e = 1) (hct : P.cellsOf t = n)
    (h : DataW.trod enc P w base sp held fuel t cs = some (strData zs, p)) : cs = zs.map fun z => Value.string ⟨z.toArray⟩ := by
  cases fuel with
  | zero => simp [DataW.trod] at h
  | succ fuel =>
    simp only [DataW.trod, ht, hce, hct, Nat.mul_one] at h
    split at h
    · rename_i hl
      obtain ⟨xs, hm, hx⟩ := Option.map_eq_some_iff.1 h
      have hxs : xs.map (·.1) = zs.map fun z => (DataW.lit (.string z) : DataW H) := by
        have := congrArg Prod.fst hx
        simpa [strData] using this
      have hxl : xs.length = n := by simpa using Lib.mapM_length hm
      have hzl : zs.length = n := by
        have := congrArg List.length hxs
        simp at this
        omega
      apply List.ext_getElem?
      intro i
      by_cases hi : i < n
      · obtain ⟨b, hb, hf⟩ := Lib.mapM_at hm i i (by simp [hi])
        obtain ⟨z, hc, rfl, _⟩ := DataW.trod_string he hf
        have h1 : cs[i]? = some (.string z) := by
          have := congrArg (·[0]?) hc
          simpa [List.getElem?_take, List.getElem?_drop] using this
        have h2 : (xs.map (·.1))[i]? = some (DataW.lit (.string z.data.toList) : DataW H) := by simp [hb]
        rw [hxs] at h2
        simp only [List.getElem?_map, Option.map_eq_some_iff, DataW.lit.injEq, Lit.string.injEq] at h2
        obtain ⟨z', hz', rfl⟩ := h2
        simp [h1, hz']
      · rw [List.getElem?_eq_none (by omega), List.getElem?_eq_none (by simp; omega)]
    · cases h
theorem strs_at {P : Program} {W : World} {name : String} {zs : List (List UInt8)} {g : Nat} {t e : TypeId} {n : Nat} (h : Reads P W name (strData zs))
    (hg : P.globalNamed name = some g) (hty : (P.globals[g]?).map (·.type) = some t) (ht : P.underlying t = some (.array n e)) (he : P.underlying e = some .string) (hce : P.cellsOf e = 1) (hct : P.cellsOf t = n) (i : Nat) (hi : i < zs.length) :
    W.cell? ⟨g, i, none⟩ = some (.string ⟨(zs.getD i []).toArray⟩) := by
  obtain ⟨g', t', cs, fuel, p, hg', ht', hvar, hd⟩ := h
  obtain rfl := Option.some.inj (hg.symm.trans hg')
  obtain rfl := Option.some.inj (hty.symm.trans ht')
  have := World.var?_cell hg hvar i
  rw [← Array.getElem?_toList, strs_cells ht he hce hct hd] at this
  simpa [List.getD, hi] using this

theorem nat_ints {P : Program} {W : World} {name : String} {k : IntKind} {zs : List Nat} {g : Nat} {t e : TypeId} {n : Nat} (h : Reads P W name (Lib.tabData k (zs.map fun z : Nat => ((z : Nat) : Int))))
    (hg : P.globalNamed name = some g) (hty : (P.globals[g]?).map (·.type) = some t) (ht : P.underlying t = some (.array n e)) (he : P.underlying e = some (.int k)) (hce : P.cellsOf e = 1) (hct : P.cellsOf t = n) (i : Nat) (hi : i < zs.length) :
    W.cell? ⟨g, i, none⟩ = some (.int k ((zs.getD i 0 : Nat) : Int)) := by
  rw [ints_at h hg hty ht he hce hct i (by simpa using hi)]
  simp [List.getD, hi]

/-- The seat's list of seven tables (and of eight) gives the walks' facts. -/
def laid7 : List (String × DataW Unit) := [("tincture/rv.names", Rows.laid_tincture_rv_names), ("tincture/rv.words", Rows.laid_tincture_rv_words), ("tincture/rv.branches", Rows.laid_tincture_rv_branches), ("tincture/rv.loads", Rows.laid_tincture_rv_loads), ("tincture/rv.stores", Rows.laid_tincture_rv_stores), ("tincture/rv.immediates", Rows.laid_tincture_rv_immediates), ("tincture/rv.registers", Rows.laid_tincture_rv_registers)]
theorem tabs_of {W : World} {l : List (String × DataW Unit)} (h : laidMetH Tryd.prog l W) (hp : (l.all fun x => x.2.handleName?.isNone) = true) (hs : ∀ x ∈ laid7, x ∈ l) : Tabs W ∧ NTab W := by
  refine ⟨⟨?_, ?_, ?_, ?_, ?_, ?_⟩, ?_⟩
  · exact fun i hi => nat_ints (zs := Rv.woT) (laid_reads h hp (n := "tincture/rv.words") (d := Rows.laid_tincture_rv_words) (hs _ (by simp [laid7]))) (by kernel_rfl) (by kernel_rfl) Tryd.underlying77 Tryd.underlying37 (by kernel_rfl) (by kernel_rfl) i hi
  · exact fun i hi => nat_ints (zs := Rv.brT) (laid_reads h hp (n := "tincture/rv.branches") (d := Rows.laid_tincture_rv_branches) (hs _ (by simp [laid7]))) (by kernel_rfl) (by kernel_rfl) Tryd.underlying96 Tryd.underlying3 (by kernel_rfl) (by kernel_rfl) i hi
  · exact fun i hi => nat_ints (zs := Rv.ldT) (laid_reads h hp (n := "tincture/rv.loads") (d := Rows.laid_tincture_rv_loads) (hs _ (by simp [laid7]))) (by kernel_rfl) (by kernel_rfl) Tryd.underlying96 Tryd.underlying3 (by kernel_rfl) (by kernel_rfl) i hi
  · exact fun i hi => nat_ints (zs := Rv.stT) (laid_reads h hp (n := "tincture/rv.stores") (d := Rows.laid_tincture_rv_stores) (hs _ (by simp [laid7]))) (by kernel_rfl) (by kernel_rfl) Tryd.underlying96 Tryd.underlying3 (by kernel_rfl) (by kernel_rfl) i hi
  · exact fun i hi => nat_ints (zs := Rv.imT) (laid_reads h hp (n := "tincture/rv.immediates") (d := Rows.laid_tincture_rv_immediates) (hs _ (by simp [laid7]))) (by kernel_rfl) (by kernel_rfl) Tryd.underlying96 Tryd.underlying3 (by kernel_rfl) (by kernel_rfl) i hi
  · exact fun i hi => nat_ints (zs := Rv.rgT) (laid_reads h hp (n := "tincture/rv.registers") (d := Rows.laid_tincture_rv_registers) (hs _ (by simp [laid7]))) (by kernel_rfl) (by kernel_rfl) Tryd.underlying96 Tryd.underlying3 (by kernel_rfl) (by kernel_rfl) i hi
  · exact fun i hi => strs_at (zs := Rv.nmT) (laid_reads h hp (n := "tincture/rv.names") (d := Rows.laid_tincture_rv_names) (hs _ (by simp [laid7]))) (by kernel_rfl) (by kernel_rfl) Tryd.underlying80 Tryd.underlying9 (by kernel_rfl) (by kernel_rfl) i hi
end Go.Proofs.YtllgkofibkobnaaDoor
namespace Go.Proofs.YtllgkofibkobnaaDoor
open Go.ChangeShapes Go.WideShapes Go.ChangeAt Go.RowKit

theorem list5 {α : Type} (l : List α) (h : l.length = 5) : ∃ a b c d e, l = [a, b, c, d, e] := by
  match l, h with
  | [a, b, c, d, e], _ => exact ⟨a, b, c, d, e, rfl⟩
theorem cellsI : Tryd.prog.cellsOf 29 = 5 := by kernel_rfl
theorem cells64 : Tryd.prog.cellsOf 3 = 1 := by kernel_rfl
theorem cells32 : Tryd.prog.cellsOf 21 = 1 := by kernel_rfl
def Rv.id {H : Type} (i : Rv.Ins) : DataW H := .agg [.lit (.int .i64 i.op), .lit (.int .i64 i.rd), .lit (.int .i64 i.rs1), .lit (.int .i64 i.rs2), .lit (.int .i32 i.imm)]
structure Rv.IWf (i : Rv.Ins) : Prop where
  op : (Lit.int .i64 i.op).wf = true
  rd : (Lit.int .i64 i.rd).wf = true
  rs1 : (Lit.int .i64 i.rs1).wf = true
  rs2 : (Lit.int .i64 i.rs2).wf = true
  imm : (Lit.int .i32 i.imm).wf = true
set_option maxRecDepth 100000 in
theorem open_ins {H : Type} {enc : TypeId × Value → H} {W : World} {base b0 : Nat} {sp : Nat → Bool} {held : Bool} {v : Value} {d : DataW H} {p : List MemPlace}
    (hv : Value.okWide Tryd.prog W .any base 29 v) (h : DataW.Trod enc Tryd.prog W b0 sp held 29 v d p) :
    ∃ i : Rv.Ins, v = Rv.iv i ∧ d = Rv.id i ∧ p = [] ∧ Rv.IWf i := by
  obtain ⟨cs, rfl, hsz, _⟩ : ∃ cs, v = .agg cs ∧ cs.size = Tryd.prog.cellsOf 29 ∧ Row.okWide Tryd.prog W .any base 29 cs := by
    simpa [Value.okWide, Tryd.underlying29] using hv
  rw [cellsI] at hsz
  obtain ⟨l⟩ := cs
  obtain ⟨c0, c1, c2, c3, c4, rfl⟩ := list5 l hsz
  obtain ⟨fuel, hf⟩ := h
  obtain ⟨xs, n, rfl, hx, hl, hxl, hall⟩ := DataW.trod_struct Tryd.underlying29 hf
  obtain ⟨y0, y1, y2, y3, y4, rfl⟩ := list5 xs hxl
  have a0 := hall 0 _ rfl; have a1 := hall 1 _ rfl; have a2 := hall 2 _ rfl; have a3 := hall 3 _ rfl; have a4 := hall 4 _ rfl
  obtain ⟨x0, e0, q0, w0⟩ := DataW.trod_int Tryd.underlying3 a0
  obtain ⟨x1, e1, q1, w1⟩ := DataW.trod_int Tryd.underlying3 a1
  obtain ⟨x2, e2, q2, w2⟩ := DataW.trod_int Tryd.underlying3 a2
  obtain ⟨x3, e3, q3, w3⟩ := DataW.trod_int Tryd.underlying3 a3
  obtain ⟨x4, e4, q4, w4⟩ := DataW.trod_int Tryd.underlying21 a4
  simp [Value.cells, cells64, cells32] at e0 e1 e2 e3 e4
  subst e0 e1 e2 e3 e4 q0 q1 q2 q3 q4
  simp only [Prod.mk.injEq] at hx
  obtain ⟨rfl, rfl⟩ := hx
  exact ⟨⟨x0, x1, x2, x3, x4⟩, rfl, rfl, rfl, ⟨w0, w1, w2, w3, w4⟩⟩
set_option maxRecDepth 100000 in
theorem shut_ins {H : Type} {enc : TypeId × Value → H} {W : World} {b0 : Nat} {sp : Nat → Bool} {held : Bool} {i : Rv.Ins} (h : Rv.IWf i) :
    DataW.Trod enc Tryd.prog W b0 sp held 29 (Rv.iv i) (Rv.id i) [] :=
  ⟨2, by
    obtain ⟨h0, h1, h2, h3, h4⟩ := h
    simp [DataW.trod, Value.cells, Rv.iv, Rv.id, Tryd.underlying29, Tryd.underlying3, Tryd.underlying21, cellsI, cells64, cells32, h0, h1, h2, h3, h4]⟩
theorem Rv.IWf.immB {i : Rv.Ins} (h : Rv.IWf i) : -2147483648 ≤ i.imm ∧ i.imm < 2147483648 := by
  have := bounds_i32 h.imm; omega
theorem Rv.IWf.opB {i : Rv.Ins} (h : Rv.IWf i) : -9223372036854775808 ≤ i.op ∧ i.op ≤ 9223372036854775807 := by
  have := bounds_i64 h.op; omega
end Go.Proofs.YtllgkofibkobnaaDoor
namespace Go.Proofs.YtllgkofibkobnaaDoor
open Go.ChangeShapes Go.WideShapes Go.ChangeAt Go.WideMaps Go.WideElems Go.RowKit

theorem ptab_of {P : Program} {W : World} {name : String} {k : IntKind} {zs : List Int} {g : Nat} {t e : TypeId} {n : Nat} (h : Reads P W name (Lib.tabData k zs))
    (hg : P.globalNamed name = some g) (hty : (P.globals[g]?).map (·.type) = some t) (ht : P.underlying t = some (.array n e)) (he : P.underlying e = some (.int k)) (hce : P.cellsOf e = 1) (hct : P.cellsOf t = n) : Lib.TabIs P W name k zs := by
  obtain ⟨g', t', cs, fuel, p, hg', ht', hvar, hd⟩ := h
  obtain rfl := Option.some.inj (hg.symm.trans hg')
  obtain rfl := Option.some.inj (hty.symm.trans ht')
  unfold Lib.TabIs; rw [hvar, ← Lib.cells_of_tab ht he hce hct hd]
theorem all6_of {W : World} {l : List (String × DataW Unit)} (h : laidMetH Tryd.prog l W) (hp : (l.all fun x => x.2.handleName?.isNone) = true) (hs : ∀ x ∈ laid7, x ∈ l)
    (hs2 : ("internal/strconv.uint64pow10", Rows.laid_internal_strconv_uint64pow10) ∈ l) : All6 W := by
  obtain ⟨hT, hN⟩ := tabs_of h hp hs
  refine ⟨hT, hN, ?_⟩
  have hr := laid_reads h hp hs2
  have he : (Rows.laid_internal_strconv_uint64pow10 : DataW Unit) = Lib.tabData .u64 Lib.pow10Tab := by kernel_rfl
  rw [he] at hr
  exact ptab_of (g := 10) hr (by kernel_rfl) (by kernel_rfl) Tryd.underlying113 Tryd.underlying107 (by kernel_rfl) (by kernel_rfl)
theorem post_of_bw {H : Type} {enc : TypeId × Value → H} {P : Program} {f : Func} {s : ChangeSpec} {apart fresh handsOn : Bool} {W W' : World} {args : Array Value} {v : Value} {ds gs : List (DataW H)} {before pa pv : List MemPlace}
    (hW : DataW.Whole enc P f.params.toList s.vars apart W args.toList ds gs before)
    (hres : ∀ (b : Nat) (sp : Nat → Bool) (hd : Bool), DataW.TrodAll enc P W' b sp hd f.resultTypes.toList (v.resultList f.resultTypes.size) (s.fn H (ds ++ gs)).results [])
    (hargs : DataW.TrodAll enc P W' 0 (fun b => decide (b < W.heap.size)) true f.params.toList args.toList (s.fn H (ds ++ gs)).args pa)
    (hvars : ∀ sp : Nat → Bool, (∀ p ∈ before, sp p.block = true) → DataW.TrodVars enc P W' sp s.vars (s.fn H (ds ++ gs)).vars pv)
    (hps : before = pa ++ pv) (hk : W.keptBut W' (· ∈ before)) : s.post enc P f apart fresh handsOn false W args v W' := by
  have hold : ∀ p ∈ before, (fun b => decide (b < W.heap.size)) p.block = true := fun p hp => by simpa using hW.lt p hp
  refine ⟨ds, gs, before, [], pa, pv, hW, hres _ _ _, hargs, hvars _ hold, World.keptBut_mono (fun p hp => ⟨hp, ?_⟩) hk, fun h => by cases h⟩
  rw [hps, List.mem_append] at hp
  exact Or.inr hp
end Go.Proofs.YtllgkofibkobnaaDoor
