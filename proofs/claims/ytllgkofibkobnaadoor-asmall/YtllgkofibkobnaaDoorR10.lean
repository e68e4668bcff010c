/- LAYER 6's walks: trimBlanks, cutWord. · LAYER 6's walks: digitsOf. · PLAIN MATHEMATICS OF LAYER 6: instructions by the words of their texts; an instruction's text is read back as it. · LAYER 6's walks: numberOf, registerOf, shape. -/
import Derived.Test.YtllgkofibkobnaaDoorR9
import Derived.Lib.ConvBytes
import Derived.Test.YtllgkofibkobnaaDoorR7
import Derived.Test.YtllgkofibkobnaaDoorR2
namespace Go.Proofs.YtllgkofibkobnaaDoor
open Go.ChangeShapes Go.WideShapes Go.ChangeAt Go.RowKit

theorem Asm.trimS_eq (l : List UInt8) : Lib.trimLeftS l [32, 9] = Asm.trimB l := by
  unfold Lib.trimLeftS Asm.trimB
  congr 1
  funext b
  rw [Bool.eq_iff_iff]; simp [Asm.bl]
theorem trimBlanks_c (l : List UInt8) (w : World) :
    Calls Tryd.prog 36 #[.string (bs l)] w fun e w' => e = .returned (.string (bs (Asm.trimB l))) ∧ Bw w w' := by
  go_enter Tryd.func36, Tryd.ntmps36
  go_wp2_with (go_at_call 61; refine (Any.strings_TrimLeft_laid Tryd.lays161 (by kernel_rfl) (bs l) ⟨#[32, 9]⟩ w (by decide) (ascii_of_all (by decide))).mono ?_; rintro e w' ⟨rfl, hb⟩)
  go_ret
  refine ⟨?_, hb⟩
  rw [bs_data, ← Asm.trimS_eq]; rfl
theorem Asm.st_eq (b : UInt8) : ([32, 9, 44, 40, 41] : List UInt8).contains b = Asm.st b := by
  rw [Bool.eq_iff_iff]; simp [Asm.st, Asm.bl, Asm.mk, or_assoc]
theorem Asm.idx_cases : ∀ t : List UInt8,
    (Lib.indexAny t [32, 9, 44, 40, 41] = -1 ∧ t.takeWhile (fun b => !Asm.st b) = t ∧ t.dropWhile (fun b => !Asm.st b) = []) ∨
    ∃ k : Nat, Lib.indexAny t [32, 9, 44, 40, 41] = k ∧ k < t.length ∧ t.takeWhile (fun b => !Asm.st b) = t.take k ∧ t.dropWhile (fun b => !Asm.st b) = t.drop k
  | [] => Or.inl ⟨rfl, rfl, rfl⟩
  | b :: t => by
    rw [Lib.indexAny, Asm.st_eq, List.takeWhile_cons, List.dropWhile_cons]
    cases hb : Asm.st b
    · rcases Asm.idx_cases t with ⟨h1, h2, h3⟩ | ⟨k, h1, h2, h3, h4⟩
      · left; simp [h1, h2, h3]
      · right
        refine ⟨k + 1, ?_, by simp; omega, by simp [h3], by simp [h4]⟩
        rw [h1]
        have : ((k : Int) == -1) = false := by simp
        simp [this]
    · right; exact ⟨0, by simp, by simp, by simp, by simp⟩
theorem bs_take (l : List UInt8) (k : Nat) : (bs l).extract 0 k = bs (l.take k) := by
  apply ByteArray.ext
  simp [bs]
theorem bs_drop (l : List UInt8) (k : Nat) : (bs l).extract k l.length = bs (l.drop k) := by
  apply ByteArray.ext
  simp [bs, List.take_of_length_le]
theorem Asm.ret_ss {a b c d : ByteArray} (h : a = c) (h2 : b = d) : Ending.returned (.tuple #[.string a, .string b]) = .returned (.tuple #[.string c, .string d]) := by rw [h, h2]
theorem cutWord_c (l : List UInt8) (w : World) (hl : l.length < 4294967281) :
    Calls Tryd.prog 34 #[.string (bs l)] w fun e w' => e = .returned (.tuple #[.string (bs (Asm.word l)), .string (bs (Asm.rest l))]) ∧ Bw w w' := by
  have hlt : (Asm.trimB l).length ≤ l.length := by
    have := congrArg List.length (List.takeWhile_append_dropWhile (p := Asm.bl) (l := l))
    rw [List.length_append] at this
    show (l.dropWhile Asm.bl).length ≤ _; omega
  have hsz := bs_size (Asm.trimB l)
  have hT := trimBlanks_c l w
  unfold Asm.word Asm.rest
  rcases Asm.idx_cases (Asm.trimB l) with ⟨h1, h2, h3⟩ | ⟨k, h1, h2, h3, h4⟩
  · rw [h2, h3]
    generalize Asm.trimB l = t at *
    go_enter Tryd.func34, Tryd.ntmps34
    go_wp2_with (first
      | (go_at_call 36; refine hT.mono ?_; rintro e w' ⟨rfl, hb⟩)
      | (go_at_call 58; refine (IndexAny_c _ _ (by omega)).mono ?_; rintro e w2 ⟨rfl, hb2⟩; rw [h1]))
    go_region
    go_wp2
    go_returns
    exact ⟨Asm.ret_ss ((bs_take t _).trans (by rw [List.take_length])) rfl, (hb.trans hb2).drew⟩
  · rw [h3, h4]
    generalize Asm.trimB l = t at *
    go_enter Tryd.func34, Tryd.ntmps34
    go_wp2_with (first
      | (go_at_call 36; refine hT.mono ?_; rintro e w' ⟨rfl, hb⟩)
      | (go_at_call 58; refine (IndexAny_c _ _ (by omega)).mono ?_; rintro e w2 ⟨rfl, hb2⟩; rw [h1]))
    go_region
    go_wp2
    go_returns
    exact ⟨Asm.ret_ss (bs_take t k) (bs_drop t k), (hb.trans hb2).drew⟩
end Go.Proofs.YtllgkofibkobnaaDoor
namespace Go.Proofs.YtllgkofibkobnaaDoor
open Go.ChangeShapes Go.WideShapes Go.ChangeAt Go.RowKit

theorem Asm.ret_ib {a b : Int} {c d : Bool} (h : a = b) (h2 : c = d) : Ending.returned (.tuple #[.int .i64 a, .bool c]) = .returned (.tuple #[.int .i64 b, .bool d]) := by rw [h, h2]
theorem bw_bytes (w : World) (e : TypeId) (s : ByteArray) : Bw w (Lib.bytesWorld w e s) :=
  ⟨rfl, rfl, rfl, by rw [Lib.bytesWorld_size]; omega, fun k hk => Lib.bytesWorld_at_old w e s k hk⟩
theorem Asm.all_take {l : List UInt8} {i : Nat} {b : UInt8} (h : l[i]? = some b) : l.take (i + 1) = l.take i ++ [b] := by
  rw [List.take_add_one, h]; rfl
theorem Asm.not_all {l : List UInt8} {i : Nat} {b : UInt8} (h : l[i]? = some b) (hb : Asm.isD b = false) : Asm.digOk l = false := by
  have : l.all Asm.isD = false := by
    rw [List.all_eq_false]
    exact ⟨b, List.mem_of_getElem? h, by simp [hb]⟩
  simp [Asm.digOk, this]
set_option maxRecDepth 100000 in
theorem digitsOf_c (l : List UInt8) (w : World) (hl : l.length < 4294967281) :
    Calls Tryd.prog 60 #[.string (bs l)] w fun e w' => e = .returned (.tuple #[.int .i64 (Asm.dig l), .bool (Asm.digOk l)]) ∧ Bw w w' := by
  by_cases h0 : l = []
  · subst h0
    go_enter Tryd.func60, Tryd.ntmps60
    go_wp2
    go_returns
    exact ⟨rfl, Bw.refl _⟩
  have he : l.isEmpty = false := by simpa using h0
  by_cases h1 : 10 < l.length
  · have hk : Asm.digOk l = false := by simp [Asm.digOk]; omega
    have hd : Asm.dig l = 0 := by simp [Asm.dig, hk]
    rw [hk, hd]
    go_enter Tryd.func60, Tryd.ntmps60
    go_wp2
    go_returns
    exact ⟨rfl, Bw.refl _⟩
  have hz1 : 0 < l.length := by cases l with | nil => exact absurd rfl h0 | cons b t => simp
  have hz : (0 : Int) < (l.length : Int) := by omega
  have h10 : (l.length : Int) ≤ 10 := by omega
  obtain ⟨b, hb⟩ : ∃ b, l[0]? = some b := ⟨l[0], by simp⟩
  have hg := bs_get l 0 b hb
  by_cases h2 : b = 48 ∧ l ≠ [48]
  · have hd48 : l.head? = some 48 := by rw [List.head?_eq_getElem?, hb, h2.1]
    have hk : Asm.digOk l = false := by simp [Asm.digOk, hd48, h2.2]
    have hd : Asm.dig l = 0 := by simp [Asm.dig, hk]
    rw [hk, hd]
    obtain ⟨rfl, h3⟩ := h2
    have hn : (l == [48]) = false := by simpa using h3
    clear h1 hb hd48 hk hd
    go_enter Tryd.func60, Tryd.ntmps60
    go_wp2
    go_returns
    exact ⟨rfl, Bw.refl _⟩
  · have hcv := Lib.run_convert_string_bytes (P := Tryd.prog) w 9 23 5 (bs l) Tryd.underlying9 Tryd.underlying23 Tryd.underlying5
    have hcell := fun j (hj : j < l.length) => Lib.bytesWorld_cell w 5 (bs l) j (by rw [bs_size]; exact hj)
    rw [bs_data] at hcell
    have hbw := bw_bytes w 5 (bs l)
    generalize Lib.bytesWorld w 5 (bs l) = w1 at *
    generalize grownCap w (bs l).size 0 5 = cap at *
    have hok : Asm.digOk l = l.all Asm.isD := by
      have e1 : (l.head? != some 48 || l == [48]) = true := by
        rw [List.head?_eq_getElem?, hb]
        by_cases e : b = 48
        · have : l = [48] := Classical.byContradiction fun hn => h2 ⟨e, hn⟩
          simp [this]
        · simp [e]
      simp [Asm.digOk, e1]; omega
    have h3 : ((b.toNat : Int) == 48) = false ∨ (((b.toNat : Int) == 48) = true ∧ (l == [48]) = true) := by
      by_cases e : b = 48
      · have : l = [48] := Classical.byContradiction fun hn => h2 ⟨e, hn⟩
        right; simp [this, e]
      · left
        simp only [beq_eq_false_iff_ne]
        intro he
        apply e
        apply UInt8.toNat_inj.1
        have : (48 : UInt8).toNat = 48 := rfl
        omega
    have HO : Hid _ := hok
    clear hok h2 h1 hb
    rcases h3 with h3 | ⟨h3, h4⟩
    all_goals
      go_enter Tryd.func60, Tryd.ntmps60
      go_wp2
      go_loopw [4, 26] (fun a i wr => wr = w1 ∧ ∃ j : Nat, i = .int .i64 j ∧ j ≤ l.length ∧ a = .int .i64 (Asm.valA 0 (l.take j)) ∧ (l.take j).all Asm.isD = true) (fun _ i _ => l.length - (intOf i).toNat)
      case atStart => exact ⟨rfl, 0, rfl, by omega, rfl, rfl⟩
      case round =>
        obtain ⟨rfl, j, rfl, hj, rfl, hall⟩ := hrel
        have HA : Hid _ := hall
        clear hall
        by_cases hje : j = l.length
        · subst hje
          rw [List.take_length] at HA ⊢
          have hend : ¬ ((l.length : Int) < (l.length : Int)) := by omega
          go_wp2
          go_returns
          refine ⟨Asm.ret_ib ?_ ?_, hbw⟩
          · rw [Asm.dig, HO.out, HA.out, if_pos rfl]; rfl
          · rw [HO.out, HA.out]
        · have hjl : j < l.length := by omega
          have hji : (j : Int) < (l.length : Int) := by omega
          obtain ⟨x, hx⟩ : ∃ x, l[j]? = some x := ⟨l[j], by simp⟩
          have hc := hcell j hjl
          have hx2 : l.getD j 0 = x := by rw [List.getD_eq_getElem?_getD, hx]; rfl
          rw [hx2] at hc
          have HX : Hid _ := hx
          obtain ⟨vb1, vb2⟩ := Asm.val_bd10 HA.out (by rw [List.length_take]; omega)
          have HV : Hid _ := Asm.valA_snoc 0 (l.take j) x
          have HL : Hid _ := Asm.all_take HX.out
          generalize hV : Asm.valA 0 (l.take j) = V at *
          have HVV : Hid _ := hV
          clear hx hx2 hV hcell hcv
          have xb : x.toNat < 256 := x.toNat_lt
          by_cases hd : Asm.isD x = true
          · have HD : Hid _ := hd
            have hd2 := Asm.isD_bd hd
            have d0 : (48 : Int) ≤ x.toNat := by omega
            have d1 : (x.toNat : Int) ≤ 57 := by omega
            clear hd hd2
            go_wp2
            refine ⟨⟨trivial, j + 1, by simp, by omega, ?_, ?_⟩, by simp [intOf]; omega⟩
            · rw [HL.out, HV.out]
            · rw [HL.out, List.all_append, HA.out]; simp [HD.out]
          · have hd2 : Asm.isD x = false := by simpa using hd
            have hk := Asm.not_all HX.out hd2
            have hdig : Asm.dig l = 0 := by simp [Asm.dig, hk]
            have HK : Hid _ := hk
            have HDG : Hid _ := hdig
            have hx3 : (x.toNat : Int) < 48 ∨ ((48 : Int) ≤ x.toNat ∧ (57 : Int) < x.toNat) := by
              simp [Asm.isD] at hd2; omega
            clear hk hdig hd hd2
            rcases hx3 with hx3 | ⟨hx3, hx4⟩
            · go_wp2
              go_returns
              exact ⟨Asm.ret_ib HDG.out.symm HK.out.symm, hbw⟩
            · go_wp2
              go_returns
              exact ⟨Asm.ret_ib HDG.out.symm HK.out.symm, hbw⟩
end Go.Proofs.YtllgkofibkobnaaDoor
namespace Go.Proofs.YtllgkofibkobnaaDoor
namespace Asm
open Go.Lib
/-! ### Instructions by their words -/
def opOf (n : List UInt8) : Nat := ((List.range 50).find? (fun k => k != 0 && Rv.nmT.getD k [] == n)).getD 0
theorem nm_apart : ∀ a, a < 50 → ∀ b, b < 50 → Rv.nmT.getD a [] = Rv.nmT.getD b [] → a = b := by decide +kernel
theorem nm_b : ∀ a, a < 50 → (Rv.nmT.getD a []).all (fun b => !st b && decide (b.toNat < 128)) = true := by decide +kernel
theorem nm_ne : ∀ a, a < 50 → 0 < a → Rv.nmT.getD a [] ≠ [] ∧ (Rv.nmT.getD a []).length ≤ 7 := by decide +kernel
theorem opOf_at {k : Nat} {n : List UInt8} (h0 : 0 < k) (h1 : k < 50) (h : Rv.nmT.getD k [] = n) : opOf n = k := by
  unfold opOf
  cases hf : (List.range 50).find? (fun k => k != 0 && Rv.nmT.getD k [] == n) with
  | none =>
    have := List.find?_eq_none.1 hf k (by simpa using h1)
    simp at this
    exact absurd h (this (by omega))
  | some j =>
    have h2 := List.find?_some hf
    have h3 := List.mem_of_find?_eq_some hf
    simp at h2 h3
    exact nm_apart _ h3 _ h1 (by rw [h]; simpa using h2.2)
theorem opOf_none {n : List UInt8} (h : ∀ k, 0 < k → k < 50 → Rv.nmT.getD k [] ≠ n) : opOf n = 0 := by
  unfold opOf
  cases hf : (List.range 50).find? (fun k => k != 0 && Rv.nmT.getD k [] == n) with
  | none => rfl
  | some j =>
    have h2 := List.find?_some hf
    have h3 := List.mem_of_find?_eq_some hf
    simp at h2 h3
    exact absurd (by simpa using h2.2) (h j (by omega) h3)
theorem opOf_bd (n : List UInt8) : opOf n < 50 := by
  by_cases h : ∀ k, 0 < k → k < 50 → Rv.nmT.getD k [] ≠ n
  · rw [opOf_none h]; omega
  · simp only [Classical.not_forall, Classical.not_not] at h
    obtain ⟨k, h0, h1, h2⟩ := h
    rw [opOf_at h0 h1 h2]; exact h1
theorem opOf_short {n : List UInt8} (h : n = [] ∨ ∃ b, mk b = true ∧ n = [b]) : opOf n = 0 := by
  refine opOf_none fun k h0 h1 he => ?_
  rcases h with rfl | ⟨b, hb, rfl⟩
  · exact (nm_ne k h1 h0).1 he
  · have := nm_b k h1
    rw [he] at this
    simp [st, hb] at this

/-- What stands behind an Op's name: d, s, t registers, i, u numbers, and marks. -/
def shape (op : Int) : List UInt8 :=
  if op ≤ 2 then [100, 44, 117] else if op ≤ 3 then [100, 44, 105] else if op ≤ 4 then [100, 44, 105, 40, 115, 41] else if op ≤ 10 then [115, 44, 116, 44, 105]
  else if op ≤ 15 then [100, 44, 105, 40, 115, 41] else if op ≤ 18 then [116, 44, 105, 40, 115, 41] else if op ≤ 27 then [100, 44, 115, 44, 105] else if op ≤ 45 then [100, 44, 115, 44, 116] else []
def w32 (n : Int) : Int := (n + 2147483648) % 4294967296 - 2147483648
theorem w32_id {n : Int} (h0 : -2147483648 ≤ n) (h1 : n < 2147483648) : w32 n = n := by unfold w32; omega
theorem w32_bd (n : Int) : -2147483648 ≤ w32 n ∧ w32 n < 2147483648 := by unfold w32; omega
/-- A word read as a part: the instruction with it, and whether it can hold it; none: it is no such part. -/
def part (p : UInt8) (t : List UInt8) (i : Rv.Ins) : Option (Rv.Ins × Bool) :=
  if p = 100 then (if regOk t then some (⟨i.op, reg t, i.rs1, i.rs2, i.imm⟩, true) else none)
  else if p = 115 then (if regOk t then some (⟨i.op, i.rd, reg t, i.rs2, i.imm⟩, true) else none)
  else if p = 116 then (if regOk t then some (⟨i.op, i.rd, i.rs1, reg t, i.imm⟩, true) else none)
  else if p = 117 then (if numOk t then some (⟨i.op, i.rd, i.rs1, i.rs2, w32 (num t * 4096)⟩, decide (num t / 1048576 = 0)) else none)
  else (if numOk t then some (⟨i.op, i.rd, i.rs1, i.rs2, w32 (num t)⟩, decide (w32 (num t) = num t)) else none)
def parts : List UInt8 → List (List UInt8) → Rv.Ins → Bool → Option (Rv.Ins × Bool)
  | [], [], i, f => some (i, f)
  | [], _ :: _, _, _ => none
  | _ :: _, [], _, _ => none
  | p :: ps, t :: ts, i, f => if mk p then (if t = [p] then parts ps ts i f else none) else (part p t i).bind fun x => parts ps ts x.1 (f && x.2)
theorem parts_end (ts : List (List UInt8)) (i : Rv.Ins) (f : Bool) : parts [] ts i f = if ts = [] then some (i, f) else none := by cases ts <;> simp [parts]
theorem regOk_short {n : List UInt8} (h : n = [] ∨ ∃ b, mk b = true ∧ n = [b]) : regOk n = false := by
  rcases h with rfl | ⟨b, hb, rfl⟩
  · rfl
  · simp [regOk, digOk]
theorem numOk_short {n : List UInt8} (h : n = [] ∨ ∃ b, mk b = true ∧ n = [b]) : numOk n = false := by
  rcases h with rfl | ⟨b, hb, rfl⟩
  · rfl
  · simp only [mk, Bool.or_eq_true, beq_iff_eq] at hb
    rcases hb with (rfl | rfl) | rfl <;> decide
theorem part_short {n : List UInt8} (p : UInt8) (i : Rv.Ins) (h : n = [] ∨ ∃ b, mk b = true ∧ n = [b]) : part p n i = none := by
  unfold part; rw [regOk_short h, numOk_short h]; simp
/-- A part that is a word. -/
theorem parts_word {p : UInt8} (ps : List UInt8) (l : List UInt8) (i : Rv.Ins) (f : Bool) (hp : mk p = false) :
    parts (p :: ps) (tok l) i f = (part p (word l) i).bind fun x => parts ps (tok (rest l)) x.1 (f && x.2) := by
  by_cases hw : word l = []
  · rw [part_short p i (Or.inl hw)]
    rcases tok_none hw with ⟨_, h⟩ | ⟨b, r, hb, _, h⟩
    · rw [h]; rfl
    · rw [h, parts, if_neg (by simp [hp]), part_short p i (Or.inr ⟨b, hb, rfl⟩)]; rfl
  · rw [tok_cut hw, parts, if_neg (by simp [hp])]
/-- A part that is a mark. -/
theorem parts_mark {p : UInt8} (ps : List UInt8) (l r : List UInt8) (i : Rv.Ins) (f : Bool) (hp : mk p = true) (h : trimB l = p :: r) :
    parts (p :: ps) (tok l) i f = parts ps (tok r) i f := by
  rw [← tok_trim, h, tok_mk r hp, parts, if_pos hp, if_pos rfl]
theorem parts_nomark {p : UInt8} (ps : List UInt8) (l : List UInt8) (i : Rv.Ins) (f : Bool) (hp : mk p = true) (h : (trimB l).head? ≠ some p) :
    parts (p :: ps) (tok l) i f = none := by
  by_cases hw : word l = []
  · rcases tok_none hw with ⟨_, e⟩ | ⟨b, r, hb, e1, e⟩
    · rw [e]; rfl
    · rw [e, parts, if_pos hp, if_neg]
      rintro ⟨⟩
      rw [e1] at h; simp at h
  · rw [tok_cut hw, parts, if_pos hp, if_neg]
    intro e
    have := word_st l p (by rw [e]; simp)
    simp [st, hp] at this

def goodD (i : Rv.Ins) : Decidable (Rv.good i) := by unfold Rv.good Rv.reg; infer_instance
def goodB (i : Rv.Ins) : Bool := @decide (Rv.good i) (goodD i)
theorem goodB_iff (i : Rv.Ins) : goodB i = true ↔ Rv.good i := @decide_eq_true_iff (Rv.good i) (goodD i)
def zero : Rv.Ins := ⟨0, 0, 0, 0, 0⟩
/-- What a text's words come to: the instruction, and the error (0 none, 1 EARG, 7 ESYNTAX). -/
def fine (i : Rv.Ins) (f : Bool) : Rv.Ins × Int := if goodB i && f then (i, 0) else (zero, 1)
def behind (op : Nat) (ts : List (List UInt8)) : Rv.Ins × Int :=
  match parts (shape op) ts ⟨op, 0, 0, 0, 0⟩ true with
  | none => (zero, 7)
  | some x => fine x.1 x.2
def parse : List (List UInt8) → Rv.Ins × Int
  | [] => (zero, 7)
  | n :: ts => if opOf n = 0 then (zero, 7) else behind (opOf n) ts
theorem parse_cut (l : List UInt8) : parse (tok l) = if opOf (word l) = 0 then (zero, 7) else behind (opOf (word l)) (tok (rest l)) := by
  by_cases hw : word l = []
  · rw [opOf_short (Or.inl hw), if_pos rfl]
    rcases tok_none hw with ⟨_, h⟩ | ⟨b, r, hb, _, h⟩
    · rw [h]; rfl
    · rw [h, parse, opOf_short (Or.inr ⟨b, hb, rfl⟩), if_pos rfl]
  · rw [tok_cut hw, parse]

/-! ### An instruction's text -/
def ptext (i : Rv.Ins) (p : UInt8) : List UInt8 :=
  if p = 100 then 120 :: itoa i.rd else if p = 115 then 120 :: itoa i.rs1 else if p = 116 then 120 :: itoa i.rs2
  else if p = 105 then itoa i.imm else if p = 117 then itoa (i.imm % 4294967296 / 4096) else if p = 44 then [44, 32] else [p]
def ptexts (i : Rv.Ins) (ps : List UInt8) : List UInt8 := ps.flatMap (ptext i)
def gtext (i : Rv.Ins) : List UInt8 := Rv.nmT.getD i.op.toNat [] ++ ((if shape i.op = [] then [] else [32]) ++ ptexts i (shape i.op))
def text (i : Rv.Ins) : List UInt8 := if goodB i then gtext i else []

theorem ends_st {b : UInt8} (r : List UInt8) (h : st b = true) : ends (b :: r) := fun x hx => by simp at hx; subst hx; exact h
theorem ends_nil : ends [] := fun x hx => by simp at hx
theorem isD_st {b : UInt8} (h : b = 45 ∨ isD b = true) : st b = false := by
  rcases h with rfl | h
  · decide
  · have := isD_bd h
    simp only [st, bl, mk, Bool.or_eq_false_iff, beq_eq_false_iff_ne, ne_eq]
    refine ⟨⟨?_, ?_⟩, ⟨?_, ?_⟩, ?_⟩ <;> (rintro rfl; simp at this)
theorem tok_itoa (n : Int) {r : List UInt8} (hr : ends r) : tok (itoa n ++ r) = itoa n :: tok r :=
  tok_word (itoa_ne n) (fun b hb => isD_st (itoa_b n b hb)) hr
theorem tok_reg (n : Int) {r : List UInt8} (hr : ends r) : tok (120 :: (itoa n ++ r)) = (120 :: itoa n) :: tok r := by
  rw [← List.cons_append]
  refine tok_word (by simp) (fun b hb => ?_) hr
  simp only [List.mem_cons] at hb
  rcases hb with rfl | hb
  · decide
  · exact isD_st (itoa_b n b hb)
theorem tok_comma (r : List UInt8) : tok (44 :: 32 :: r) = [44] :: tok r := by rw [tok_mk _ (by decide), tok_bl _ (by decide)]
theorem tok_reg0 (n : Int) : tok (120 :: itoa n) = [120 :: itoa n] := by have := tok_reg n ends_nil; simpa [tok_nil] using this
theorem tok_itoa0 (n : Int) : tok (itoa n) = [itoa n] := by have := tok_itoa n ends_nil; simpa [tok_nil] using this
theorem tok_open (r : List UInt8) : tok (40 :: r) = [40] :: tok r := tok_mk _ (by decide)
theorem tok_shut (r : List UInt8) : tok (41 :: r) = [41] :: tok r := tok_mk _ (by decide)
theorem tok_name {k : Nat} (h0 : 0 < k) (h1 : k < 50) {r : List UInt8} (hr : ends r) : tok (Rv.nmT.getD k [] ++ r) = Rv.nmT.getD k [] :: tok r :=
  tok_word (nm_ne k h1 h0).1 (fun b hb => by have := List.all_eq_true.1 (nm_b k h1) b hb; simp at this; exact this.1) hr

theorem part_100 {i : Rv.Ins} {r : Int} (h0 : 0 ≤ r) (h1 : r < 32) : part 100 (120 :: itoa r) i = some (⟨i.op, r, i.rs1, i.rs2, i.imm⟩, true) := by
  obtain ⟨a, b⟩ := reg_ok h0 h1
  simp [part, a, b]
theorem part_115 {i : Rv.Ins} {r : Int} (h0 : 0 ≤ r) (h1 : r < 32) : part 115 (120 :: itoa r) i = some (⟨i.op, i.rd, r, i.rs2, i.imm⟩, true) := by
  obtain ⟨a, b⟩ := reg_ok h0 h1
  simp [part, a, b]
theorem part_116 {i : Rv.Ins} {r : Int} (h0 : 0 ≤ r) (h1 : r < 32) : part 116 (120 :: itoa r) i = some (⟨i.op, i.rd, i.rs1, r, i.imm⟩, true) := by
  obtain ⟨a, b⟩ := reg_ok h0 h1
  simp [part, a, b]
theorem part_105 {i : Rv.Ins} {n : Int} (h0 : -2147483648 ≤ n) (h1 : n < 2147483648) : part 105 (itoa n) i = some (⟨i.op, i.rd, i.rs1, i.rs2, n⟩, true) := by
  obtain ⟨a, b⟩ := itoa_ok (n := n) (by omega) (by omega)
  simp [part, a, b, w32_id h0 h1]
theorem part_117 {i : Rv.Ins} {n : Int} (h0 : -2147483648 ≤ n) (h1 : n < 2147483648) (h : n % 4096 = 0) : part 117 (itoa (n % 4294967296 / 4096)) i = some (⟨i.op, i.rd, i.rs1, i.rs2, n⟩, true) := by
  obtain ⟨a, b⟩ := itoa_ok (n := n % 4294967296 / 4096) (by omega) (by omega)
  have e : w32 (n % 4294967296 / 4096 * 4096) = n := by unfold w32; omega
  have e2 : n % 4294967296 / 4096 / 1048576 = 0 := by omega
  simp [part, a, b, e, e2]
theorem shape_1 {op : Int} (h : op ≤ 2) : shape op = [100, 44, 117] := by simp [shape, h]
theorem shape_2 {op : Int} (h : op = 3) : shape op = [100, 44, 105] := by subst h; rfl
theorem shape_3 {op : Int} (h : op = 4 ∨ (11 ≤ op ∧ op ≤ 15)) : shape op = [100, 44, 105, 40, 115, 41] := by unfold shape; (repeat' split) <;> first | rfl | omega
theorem shape_4 {op : Int} (h : 5 ≤ op ∧ op ≤ 10) : shape op = [115, 44, 116, 44, 105] := by unfold shape; (repeat' split) <;> first | rfl | omega
theorem shape_5 {op : Int} (h : 16 ≤ op ∧ op ≤ 18) : shape op = [116, 44, 105, 40, 115, 41] := by unfold shape; (repeat' split) <;> first | rfl | omega
theorem shape_6 {op : Int} (h : 19 ≤ op ∧ op ≤ 27) : shape op = [100, 44, 115, 44, 105] := by unfold shape; (repeat' split) <;> first | rfl | omega
theorem shape_7 {op : Int} (h : 28 ≤ op ∧ op ≤ 45) : shape op = [100, 44, 115, 44, 116] := by unfold shape; (repeat' split) <;> first | rfl | omega
theorem shape_8 {op : Int} (h : 46 ≤ op) : shape op = [] := by unfold shape; (repeat' split) <;> first | rfl | omega
theorem bind_some {α β : Type} (a : α) (f : α → Option β) : (some a).bind f = f a := rfl
theorem m44 : mk 44 = true := by decide
theorem m40 : mk 40 = true := by decide
theorem m41 : mk 41 = true := by decide
theorem m100 : mk 100 = false := by decide
theorem m115 : mk 115 = false := by decide
theorem m116 : mk 116 = false := by decide
theorem m105 : mk 105 = false := by decide
theorem m117 : mk 117 = false := by decide
theorem parts_m {p : UInt8} (ps : List UInt8) (ts : List (List UInt8)) (i : Rv.Ins) (f : Bool) (h : mk p = true) : parts (p :: ps) ([p] :: ts) i f = parts ps ts i f := by rw [parts, if_pos h, if_pos rfl]
theorem parts_w {p : UInt8} {ps : List UInt8} {t : List UInt8} {ts : List (List UInt8)} {i j : Rv.Ins} {f : Bool} (h : mk p = false) (hp : part p t i = some (j, true)) : parts (p :: ps) (t :: ts) i f = parts ps ts j f := by
  rw [parts, if_neg (by simp [h]), hp, bind_some]; simp
theorem e44 (r : List UInt8) : ends (44 :: r) := ends_st _ (by decide)
theorem e32 (r : List UInt8) : ends (32 :: r) := ends_st _ (by decide)
theorem e40 (r : List UInt8) : ends (40 :: r) := ends_st _ (by decide)
theorem e41 (r : List UInt8) : ends (41 :: r) := ends_st _ (by decide)
theorem b32 (r : List UInt8) : tok (32 :: r) = tok r := tok_bl r (by decide)

/-- A good instruction's text is read back as it. -/
theorem parse_gtext {i : Rv.Ins} (h : Rv.good i) (hm : -2147483648 ≤ i.imm ∧ i.imm < 2147483648) : parse (tok (gtext i)) = (i, 0) := by
  have hop := h.1
  have hk : ∃ k : Nat, i.op = k ∧ 0 < k ∧ k < 50 := ⟨i.op.toNat, by omega, by omega, by omega⟩
  obtain ⟨k, hk, k0, k1⟩ := hk
  have hn : i.op.toNat = k := by omega
  have hoo : opOf (Rv.nmT.getD k []) = k := opOf_at k0 k1 rfl
  have hfin : fine i true = (i, 0) := by simp [fine, (goodB_iff i).2 h]
  obtain ⟨op, rd, rs1, rs2, imm⟩ := i
  dsimp only at hk hop hn hm
  subst hk
  obtain ⟨hm0, hm1⟩ := hm
  have key : ∀ r : List UInt8, ends r → parts (shape k) (tok r) ⟨k, 0, 0, 0, 0⟩ true = some (⟨k, rd, rs1, rs2, imm⟩, true) → parse (tok (Rv.nmT.getD k [] ++ r)) = (⟨k, rd, rs1, rs2, imm⟩, 0) := by
    intro r hr hp
    rw [tok_name k0 k1 hr, parse, hoo, if_neg (by omega), behind, hp]
    exact hfin
  unfold gtext
  dsimp only
  rw [hn]
  have d0 : 0 ≤ rd ∧ rd < 32 := h.2.1
  have s0 : 0 ≤ rs1 ∧ rs1 < 32 := h.2.2.1
  have t0 : 0 ≤ rs2 ∧ rs2 < 32 := h.2.2.2.1
  rcases Rv.lay_cases k with ⟨l, c⟩ | ⟨l, c⟩ | ⟨l, c⟩ | ⟨l, c⟩ | ⟨l, c⟩ | ⟨l, c⟩ | ⟨l, c⟩ | ⟨l, c⟩
  · obtain ⟨_, _, rfl, rfl, g⟩ := (Rv.good_1 (i := ⟨k, rd, rs1, rs2, imm⟩) l).1 h
    dsimp only at g
    have hs : shape k = [100, 44, 117] := shape_1 (by omega)
    rw [hs] at key ⊢
    refine key _ (by simpa using e32 _) ?_
    simp [ptexts, ptext]
    rw [b32, tok_reg _ (e44 _), tok_comma, tok_itoa0, parts_w m100 (part_100 d0.1 d0.2), parts_m _ _ _ _ m44, parts_w m117 (part_117 hm0 hm1 g)]
    rfl
  · obtain ⟨_, _, rfl, rfl, g⟩ := (Rv.good_2 (i := ⟨k, rd, rs1, rs2, imm⟩) l).1 h
    have hs : shape k = [100, 44, 105] := shape_2 (by omega)
    rw [hs] at key ⊢
    refine key _ (by simpa using e32 _) ?_
    simp [ptexts, ptext]
    rw [b32, tok_reg _ (e44 _), tok_comma, tok_itoa0, parts_w m100 (part_100 d0.1 d0.2), parts_m _ _ _ _ m44, parts_w m105 (part_105 hm0 hm1)]
    rfl
  · obtain ⟨_, rfl, _, _, g⟩ := (Rv.good_3 (i := ⟨k, rd, rs1, rs2, imm⟩) l).1 h
    have hs : shape k = [115, 44, 116, 44, 105] := shape_4 (by omega)
    rw [hs] at key ⊢
    refine key _ (by simpa using e32 _) ?_
    simp [ptexts, ptext]
    rw [b32, tok_reg _ (e44 _), tok_comma, tok_reg _ (e44 _), tok_comma, tok_itoa0, parts_w m115 (part_115 s0.1 s0.2), parts_m _ _ _ _ m44, parts_w m116 (part_116 t0.1 t0.2), parts_m _ _ _ _ m44, parts_w m105 (part_105 hm0 hm1)]
    rfl
  · obtain ⟨_, rfl, _, _, g⟩ := (Rv.good_4 (i := ⟨k, rd, rs1, rs2, imm⟩) l).1 h
    have hs : shape k = [116, 44, 105, 40, 115, 41] := shape_5 (by omega)
    rw [hs] at key ⊢
    refine key _ (by simpa using e32 _) ?_
    simp [ptexts, ptext]
    rw [b32, tok_reg _ (e44 _), tok_comma, tok_itoa _ (e40 _), tok_open, tok_reg _ (e41 _), tok_shut, tok_nil, parts_w m116 (part_116 t0.1 t0.2), parts_m _ _ _ _ m44, parts_w m105 (part_105 hm0 hm1), parts_m _ _ _ _ m40, parts_w m115 (part_115 s0.1 s0.2), parts_m _ _ _ _ m41]
    rfl
  · obtain ⟨_, _, _, rfl, g⟩ := (Rv.good_5 (i := ⟨k, rd, rs1, rs2, imm⟩) l).1 h
    by_cases c2 : (19 : Int) ≤ k
    · have hs : shape k = [100, 44, 115, 44, 105] := shape_6 (by omega)
      rw [hs] at key ⊢
      refine key _ (by simpa using e32 _) ?_
      simp [ptexts, ptext]
      rw [b32, tok_reg _ (e44 _), tok_comma, tok_reg _ (e44 _), tok_comma, tok_itoa0, parts_w m100 (part_100 d0.1 d0.2), parts_m _ _ _ _ m44, parts_w m115 (part_115 s0.1 s0.2), parts_m _ _ _ _ m44, parts_w m105 (part_105 hm0 hm1)]
      rfl
    · have hs : shape k = [100, 44, 105, 40, 115, 41] := shape_3 (by omega)
      rw [hs] at key ⊢
      refine key _ (by simpa using e32 _) ?_
      simp [ptexts, ptext]
      rw [b32, tok_reg _ (e44 _), tok_comma, tok_itoa _ (e40 _), tok_open, tok_reg _ (e41 _), tok_shut, tok_nil, parts_w m100 (part_100 d0.1 d0.2), parts_m _ _ _ _ m44, parts_w m105 (part_105 hm0 hm1), parts_m _ _ _ _ m40, parts_w m115 (part_115 s0.1 s0.2), parts_m _ _ _ _ m41]
      rfl
  · obtain ⟨_, _, _, rfl, g⟩ := (Rv.good_6 (i := ⟨k, rd, rs1, rs2, imm⟩) l).1 h
    have hs : shape k = [100, 44, 115, 44, 105] := shape_6 (by omega)
    rw [hs] at key ⊢
    refine key _ (by simpa using e32 _) ?_
    simp [ptexts, ptext]
    rw [b32, tok_reg _ (e44 _), tok_comma, tok_reg _ (e44 _), tok_comma, tok_itoa0, parts_w m100 (part_100 d0.1 d0.2), parts_m _ _ _ _ m44, parts_w m115 (part_115 s0.1 s0.2), parts_m _ _ _ _ m44, parts_w m105 (part_105 hm0 hm1)]
    rfl
  · obtain ⟨_, _, _, _, rfl⟩ := (Rv.good_7 (i := ⟨k, rd, rs1, rs2, imm⟩) l).1 h
    have hs : shape k = [100, 44, 115, 44, 116] := shape_7 (by omega)
    rw [hs] at key ⊢
    refine key _ (by simpa using e32 _) ?_
    simp [ptexts, ptext]
    rw [b32, tok_reg _ (e44 _), tok_comma, tok_reg _ (e44 _), tok_comma, tok_reg0, parts_w m100 (part_100 d0.1 d0.2), parts_m _ _ _ _ m44, parts_w m115 (part_115 s0.1 s0.2), parts_m _ _ _ _ m44, parts_w m116 (part_116 t0.1 t0.2)]
    rfl
  · obtain ⟨_, rfl, rfl, rfl, rfl⟩ := (Rv.good_0 (i := ⟨k, rd, rs1, rs2, imm⟩) l).1 h
    have hs : shape k = [] := shape_8 (by omega)
    rw [hs] at key ⊢
    refine key _ (by simpa [ptexts] using ends_nil) ?_
    simp [ptexts, tok_nil, parts]
end Asm
end Go.Proofs.YtllgkofibkobnaaDoor
namespace Go.Proofs.YtllgkofibkobnaaDoor
open Go.ChangeShapes Go.WideShapes Go.ChangeAt Go.RowKit

theorem Asm.pre_one (l : List UInt8) (c : UInt8) : Lib.hasPrefix l [c] = (l.head? == some c) := by
  cases l with
  | nil => rfl
  | cons b t => rw [Bool.eq_iff_iff]; simp [Lib.hasPrefix, List.isPrefixOf]; exact ⟨fun h => h.symm, fun h => h.symm⟩
theorem Asm.trimPre_no {l : List UInt8} {c : UInt8} (h : l.head? ≠ some c) : Lib.trimPrefix l [c] = l := by
  rw [Lib.trimPrefix, Asm.pre_one]; simp [h]
theorem Asm.trimPre_yes {l : List UInt8} {c : UInt8} (h : l.head? = some c) : Lib.trimPrefix l [c] = l.tail := by
  rw [Lib.trimPrefix, Asm.pre_one]; simp [h]
theorem CutPrefix_no {l : List UInt8} {c : UInt8} (h : l.head? ≠ some c) (w : World) :
    Calls Tryd.prog 59 #[.string (bs l), .string ⟨#[c]⟩] w fun e w' => e = .returned (.tuple #[.string (bs l), .bool false]) ∧ w' = w := by
  have := Any.strings_CutPrefix Tryd.lays103 (bs l) ⟨#[c]⟩ w
  rw [bs_data] at this
  have e : (⟨#[c]⟩ : ByteArray).data.toList = [c] := rfl
  rw [e, Asm.trimPre_no h, Asm.pre_one] at this
  have e2 : (l.head? == some c) = false := by simpa using h
  rw [e2] at this
  exact this
theorem CutPrefix_yes {l : List UInt8} {c : UInt8} (h : l.head? = some c) (w : World) :
    Calls Tryd.prog 59 #[.string (bs l), .string ⟨#[c]⟩] w fun e w' => e = .returned (.tuple #[.string (bs l.tail), .bool true]) ∧ w' = w := by
  have := Any.strings_CutPrefix Tryd.lays103 (bs l) ⟨#[c]⟩ w
  rw [bs_data] at this
  have e : (⟨#[c]⟩ : ByteArray).data.toList = [c] := rfl
  rw [e, Asm.trimPre_yes h, Asm.pre_one] at this
  have e2 : (l.head? == some c) = true := by simpa using h
  rw [e2] at this
  exact this
theorem numberOf_c (l : List UInt8) (w : World) (hl : l.length < 4294967281) :
    Calls Tryd.prog 35 #[.string (bs l)] w fun e w' => e = .returned (.tuple #[.int .i64 (Asm.num l), .bool (Asm.numOk l)]) ∧ Bw w w' := by
  by_cases h : l.head? = some 45
  · have hb := Asm.dig_bd l.tail
    have hd := digitsOf_c l.tail w (by simp; omega)
    have hn : Asm.num l = - Asm.dig l.tail := by simp [Asm.num, h]
    have hk : Asm.numOk l = (Asm.digOk l.tail && Asm.dig l.tail != 0) := by simp [Asm.numOk, h]
    rw [hn, hk]
    have hc := CutPrefix_yes h w
    clear hn hk h
    generalize Asm.dig l.tail = D at *
    generalize Asm.digOk l.tail = k at *
    obtain ⟨b0, b1⟩ := hb
    cases k
    all_goals
      go_enter Tryd.func35, Tryd.ntmps35
      go_wp2_with (first
        | (go_at_call 59; refine hc.mono ?_; rintro e w' ⟨rfl, rfl⟩)
        | (go_at_call 60; refine hd.mono ?_; rintro e w' ⟨rfl, hbw⟩))
      go_returns
      exact ⟨rfl, hbw⟩
  · have hd := digitsOf_c l w hl
    have hn : Asm.num l = Asm.dig l := by simp [Asm.num, h]
    have hk : Asm.numOk l = Asm.digOk l := by simp [Asm.numOk, h]
    rw [hn, hk]
    have hc := CutPrefix_no h w
    clear hn hk h
    go_enter Tryd.func35, Tryd.ntmps35
    go_wp2_with (first
      | (go_at_call 59; refine hc.mono ?_; rintro e w' ⟨rfl, rfl⟩)
      | (go_at_call 60; refine hd.mono ?_; rintro e w' ⟨rfl, hbw⟩))
    go_returns
    exact ⟨rfl, hbw⟩
theorem registerOf_c (l : List UInt8) (w : World) (hl : l.length < 4294967281) :
    Calls Tryd.prog 62 #[.string (bs l)] w fun e w' => e = .returned (.tuple #[.int .i64 (Asm.reg l), .bool (Asm.regOk l)]) ∧ Bw w w' := by
  by_cases h : l.head? = some 120
  · have hb := Asm.dig_bd l.tail
    have hd := digitsOf_c l.tail w (by simp; omega)
    have hk : Asm.regOk l = (Asm.digOk l.tail && decide (Asm.dig l.tail < 32)) := by simp [Asm.regOk, h]
    have hn : Asm.reg l = if Asm.regOk l then Asm.dig l.tail else 0 := rfl
    rw [hn, hk]
    have hc := CutPrefix_yes h w
    clear hn hk h
    generalize Asm.dig l.tail = D at *
    generalize Asm.digOk l.tail = k at *
    obtain ⟨b0, b1⟩ := hb
    cases k
    · go_enter Tryd.func62, Tryd.ntmps62
      go_wp2_with (first
        | (go_at_call 59; refine hc.mono ?_; rintro e w' ⟨rfl, rfl⟩)
        | (go_at_call 60; refine hd.mono ?_; rintro e w' ⟨rfl, hbw⟩))
      go_returns
      exact ⟨by simp, hbw⟩
    · by_cases h32 : D < 32
      · have e1 : decide (D < 32) = true := by simpa using h32
        rw [e1]
        go_enter Tryd.func62, Tryd.ntmps62
        go_wp2_with (first
          | (go_at_call 59; refine hc.mono ?_; rintro e w' ⟨rfl, rfl⟩)
          | (go_at_call 60; refine hd.mono ?_; rintro e w' ⟨rfl, hbw⟩))
        go_returns
        exact ⟨rfl, hbw⟩
      · have e1 : decide (D < 32) = false := by simpa using h32
        have h33 : 32 ≤ D := by omega
        rw [e1]
        clear h32
        go_enter Tryd.func62, Tryd.ntmps62
        go_wp2_with (first
          | (go_at_call 59; refine hc.mono ?_; rintro e w' ⟨rfl, rfl⟩)
          | (go_at_call 60; refine hd.mono ?_; rintro e w' ⟨rfl, hbw⟩))
        go_returns
        exact ⟨rfl, hbw⟩
  · have hk : Asm.regOk l = false := by simp [Asm.regOk, h]
    have hn : Asm.reg l = 0 := by simp [Asm.reg, hk]
    rw [hn, hk]
    have hc := CutPrefix_no h w
    clear hn hk h
    go_enter Tryd.func62, Tryd.ntmps62
    go_wp2_with (go_at_call 59; refine hc.mono ?_; rintro e w' ⟨rfl, rfl⟩)
    go_returns
    exact ⟨rfl, Bw.refl _⟩
theorem Asm.shape_all (op : Int) : (op ≤ 2 ∧ Asm.shape op = [100, 44, 117]) ∨ ((2 < op ∧ op ≤ 3) ∧ Asm.shape op = [100, 44, 105]) ∨ ((3 < op ∧ op ≤ 4) ∧ Asm.shape op = [100, 44, 105, 40, 115, 41]) ∨
    ((4 < op ∧ op ≤ 10) ∧ Asm.shape op = [115, 44, 116, 44, 105]) ∨ ((10 < op ∧ op ≤ 15) ∧ Asm.shape op = [100, 44, 105, 40, 115, 41]) ∨ ((15 < op ∧ op ≤ 18) ∧ Asm.shape op = [116, 44, 105, 40, 115, 41]) ∨
    ((18 < op ∧ op ≤ 27) ∧ Asm.shape op = [100, 44, 115, 44, 105]) ∨ ((27 < op ∧ op ≤ 45) ∧ Asm.shape op = [100, 44, 115, 44, 116]) ∨ (45 < op ∧ Asm.shape op = []) := by
  obtain h | h | h | h | h | h | h | h | h : op ≤ 2 ∨ (2 < op ∧ op ≤ 3) ∨ (3 < op ∧ op ≤ 4) ∨ (4 < op ∧ op ≤ 10) ∨ (10 < op ∧ op ≤ 15) ∨ (15 < op ∧ op ≤ 18) ∨ (18 < op ∧ op ≤ 27) ∨ (27 < op ∧ op ≤ 45) ∨ 45 < op := by omega
  · exact Or.inl ⟨h, Asm.shape_1 h⟩
  · exact Or.inr (Or.inl ⟨h, Asm.shape_2 (by omega)⟩)
  · exact Or.inr (Or.inr (Or.inl ⟨h, Asm.shape_3 (by omega)⟩))
  · exact Or.inr (Or.inr (Or.inr (Or.inl ⟨h, Asm.shape_4 (by omega)⟩)))
  · exact Or.inr (Or.inr (Or.inr (Or.inr (Or.inl ⟨h, Asm.shape_3 (by omega)⟩))))
  · exact Or.inr (Or.inr (Or.inr (Or.inr (Or.inr (Or.inl ⟨h, Asm.shape_5 (by omega)⟩)))))
  · exact Or.inr (Or.inr (Or.inr (Or.inr (Or.inr (Or.inr (Or.inl ⟨h, Asm.shape_6 (by omega)⟩))))))
  · exact Or.inr (Or.inr (Or.inr (Or.inr (Or.inr (Or.inr (Or.inr (Or.inl ⟨h, Asm.shape_7 (by omega)⟩)))))))
  · exact Or.inr (Or.inr (Or.inr (Or.inr (Or.inr (Or.inr (Or.inr (Or.inr ⟨h, Asm.shape_8 (by omega)⟩)))))))
theorem shape_c (op : Int) (w : World) :
    Calls Tryd.prog 22 #[.int .i64 op] w fun e w' => e = .returned (.string (bs (Asm.shape op))) ∧ w' = w := by
  rcases Asm.shape_all op with ⟨h, e⟩ | ⟨⟨h, h2⟩, e⟩ | ⟨⟨h, h2⟩, e⟩ | ⟨⟨h, h2⟩, e⟩ | ⟨⟨h, h2⟩, e⟩ | ⟨⟨h, h2⟩, e⟩ | ⟨⟨h, h2⟩, e⟩ | ⟨⟨h, h2⟩, e⟩ | ⟨h, e⟩
  all_goals
    rw [e]
    clear e
    go_enter Tryd.func22, Tryd.ntmps22
    go_wp2
    go_ret
    exact ⟨rfl, rfl⟩
end Go.Proofs.YtllgkofibkobnaaDoor
