/- PLAIN MATHEMATICS OF LAYER 6: lines, and the words of all of them. · LAYER 6: the document's words of a text (the reference's tokens). · LAYER 6: one byte cut out of a string. · LAYER 6: the document's lines of a text (the reference's Lines): what stands behind a # is gone. · LAYER 6's walks: strings.Cut and Trim as All calls them, countLines. · LAYER 6: the document's numbers and registers in words, the count of lines (the reference's digits, number, register, Count). · LAYER 6's walks: lineWord. -/
import Derived.Test.YtllgkofibkobnaaDoorR12
import Derived.Test.YtllgkofibkobnaaDoorR8
import Derived.Test.YtllgkofibkobnaaDoorR10
import Derived.Laws.OwnMore
namespace Go.Proofs.YtllgkofibkobnaaDoor
namespace Asm

/-- What stands ahead of the first c; what stands behind it. -/
def upto (c : UInt8) (l : List UInt8) : List UInt8 := l.takeWhile (fun b => b != c)
def past (c : UInt8) (l : List UInt8) : List UInt8 := (l.dropWhile (fun b => b != c)).drop 1
theorem past_nil (c : UInt8) : past c [] = [] := rfl
theorem past_lt (c : UInt8) {l : List UInt8} (h : l ≠ []) : (past c l).length < l.length := by
  have h1 : (l.dropWhile (fun b => b != c)).length ≤ l.length := by
    have := congrArg List.length (List.takeWhile_append_dropWhile (p := fun b => b != c) (l := l))
    rw [List.length_append] at this; omega
  have h2 : 0 < l.length := by cases l with | nil => exact absurd rfl h | cons a t => simp
  unfold past
  rw [List.length_drop]; omega
theorem upto_le (c : UInt8) (l : List UInt8) : (upto c l).length ≤ l.length := by
  have := congrArg List.length (List.takeWhile_append_dropWhile (p := fun b => b != c) (l := l))
  rw [List.length_append] at this
  show (l.takeWhile _).length ≤ _; omega
/-- The lines of a text: a byte 10 ends one. -/
def linesA : List UInt8 → List UInt8 → List (List UInt8)
  | cur, [] => fin cur
  | cur, b :: l => if b = 10 then cur :: linesA [] l else linesA (cur ++ [b]) l
def lines (l : List UInt8) : List (List UInt8) := linesA [] l
theorem linesA_cut (l : List UInt8) : ∀ cur, cur ++ l ≠ [] → linesA cur l = (cur ++ upto 10 l) :: lines (past 10 l) := by
  induction l with
  | nil => intro cur h; simp at h; simp [linesA, fin_ne h, upto, past, lines, fin_nil]
  | cons b l ih =>
    intro cur _
    by_cases hb : b = 10
    · subst hb; simp [linesA, upto, past, lines]
    · have h1 : (b != 10) = true := by simpa using hb
      rw [linesA, if_neg hb, ih (cur ++ [b]) (by simp)]
      simp [upto, past, h1]
theorem lines_cut {l : List UInt8} (h : l ≠ []) : lines l = upto 10 l :: lines (past 10 l) := by
  unfold lines
  rw [linesA_cut l [] (by simpa using h)]; rfl
theorem lines_nil : lines [] = [] := rfl
/-- A line's word, by its words: what stands behind 'word', or an instruction's. -/
def wordName : List UInt8 := [119, 111, 114, 100]
def plainW : List (List UInt8) → Int × Int
  | [t] => if numOk t = true ∧ 0 ≤ num t ∧ num t < 4294967296 then (num t, 0) else (0, 7)
  | _ => (0, 7)
def lineW (ts : List (List UInt8)) : Int × Int := if ts.head? = some wordName then plainW ts.tail else (wrd (parse ts), (parse ts).2)
/-- A word's four bytes, the lowest first. -/
def le4 (w : Int) : List Int := [w % 256, w / 256 % 256, w / 65536 % 256, w / 16777216]
/-- All lines from a line's number on: their bytes, or the line that is none and its error. -/
def runL : Int → List (List UInt8) → List Int → List Int × Int × Int
  | _, [], acc => (acc, 0, 0)
  | n, s :: ls, acc =>
    if tok (upto 35 s) = [] then runL (n + 1) ls acc
    else if (lineW (tok (upto 35 s))).2 = 0 then runL (n + 1) ls (acc ++ le4 (lineW (tok (upto 35 s))).1)
    else ([], n, (lineW (tok (upto 35 s))).2)
/-- How many lines. -/
def count (l : List UInt8) : Nat := l.count 10 + (if l ≠ [] ∧ l.getLast? ≠ some 10 then 1 else 0)
def all (l : List UInt8) : List Int × Int × Int := if 16384 < l.length ∨ 400 < count l then ([], 0, 2) else runL 1 (lines l) []
theorem lines_count (l : List UInt8) : ∀ cur, (linesA cur l).length ≤ l.count 10 + 1 := by
  induction l with
  | nil => intro cur; simp [linesA, fin]; split <;> simp
  | cons b l ih =>
    intro cur
    by_cases hb : b = 10
    · subst hb; simp [linesA]; exact ih []
    · rw [linesA, if_neg hb, List.count_cons_of_ne (by simpa using hb)]; exact ih _
theorem wrd_bd (x : Rv.Ins × Int) (h : x.2 = 0 → Rv.good x.1) : 0 ≤ wrd x ∧ wrd x < 4294967296 := by
  unfold wrd
  split
  · rename_i e
    have := Rv.enc_U32 (h e).1
    exact ⟨this.1, this.2⟩
  · omega
theorem parse_good (ts : List (List UInt8)) : (parse ts).2 = 0 → Rv.good (parse ts).1 := by
  intro h
  cases ts with
  | nil => simp [parse] at h
  | cons n ts =>
    rw [parse] at h ⊢
    by_cases e : opOf n = 0
    · rw [if_pos e] at h; simp at h
    · rw [if_neg e] at h ⊢
      unfold behind at h ⊢
      cases hp : parts (shape (opOf n)) ts ⟨opOf n, 0, 0, 0, 0⟩ true with
      | none => rw [hp] at h; simp at h
      | some x =>
        rw [hp] at h
        dsimp only at h ⊢
        unfold fine at h ⊢
        split
        · rename_i hg; simp at hg; exact (goodB_iff _).1 hg.1
        · rename_i hg; rw [if_neg hg] at h; simp at h
theorem parse_wrd (ts : List (List UInt8)) : 0 ≤ wrd (parse ts) ∧ wrd (parse ts) < 4294967296 := wrd_bd _ (parse_good ts)
theorem lineW_bd (ts : List (List UInt8)) : 0 ≤ (lineW ts).1 ∧ (lineW ts).1 < 4294967296 := by
  unfold lineW
  split
  · unfold plainW
    split
    · split
      · rename_i h; exact h.2
      · simp
    · simp
  · exact parse_wrd ts
end Asm
end Go.Proofs.YtllgkofibkobnaaDoor
namespace Go.Proofs.YtllgkofibkobnaaDoor
open Go.ChangeShapes Go.WideShapes Go.ChangeAt Go.RowKit

theorem bs_app2 (a b : List UInt8) : bs a ++ bs b = bs (a ++ b) := by
  apply ByteArray.ext
  simp [bs]
theorem Asm.u8_beq2 (c k : UInt8) : ((c.toNat : Int) == k.toNat) = (c == k) := by
  rw [Bool.eq_iff_iff]; simp
  constructor
  · intro h; exact UInt8.toNat_inj.1 (by omega)
  · rintro rfl; rfl
theorem Asm.tok_class (c : UInt8) : ((c = 32 ∨ c = 9) ∧ Asm.bl c = true) ∨ ((c = 44 ∨ c = 40 ∨ c = 41) ∧ Asm.bl c = false ∧ Asm.mk c = true) ∨ ((Asm.bl c = false ∧ Asm.mk c = false) ∧ ((c.toNat : Int) == 32) = false ∧ ((c.toNat : Int) == 9) = false ∧ ((c.toNat : Int) == 44) = false ∧ ((c.toNat : Int) == 40) = false ∧ ((c.toNat : Int) == 41) = false) := by
  have e1 := Asm.u8_beq2 c 32
  have e2 := Asm.u8_beq2 c 9
  have e3 := Asm.u8_beq2 c 44
  have e4 := Asm.u8_beq2 c 40
  have e5 := Asm.u8_beq2 c 41
  cases hb : Asm.bl c
  · cases hm : Asm.mk c
    · right; right
      simp only [Asm.bl, Bool.or_eq_false_iff] at hb
      simp only [Asm.mk, Bool.or_eq_false_iff] at hm
      exact ⟨⟨rfl, rfl⟩, e1.trans hb.1, e2.trans hb.2, e3.trans hm.1.1, e4.trans hm.1.2, e5.trans hm.2⟩
    · right; left
      simp [Asm.mk] at hm
      exact ⟨by rcases hm with (h | h) | h <;> simp [h], rfl, rfl⟩
  · left
    simp [Asm.bl] at hb
    exact ⟨hb, rfl⟩
theorem Asm.tok_len (l : List UInt8) : ∀ cur, (Asm.tokA cur l).length ≤ 2 * l.length + 1 := by
  induction l with
  | nil => intro cur; simp [Asm.tokA, Asm.fin]; split <;> simp
  | cons b l ih =>
    intro cur
    have h1 := ih []
    have h2 := ih (cur ++ [b])
    have h3 : (Asm.fin cur).length ≤ 1 := by simp [Asm.fin]; split <;> simp
    simp only [Asm.tokA]
    split
    · simp; omega
    · split
      · simp; omega
      · simp; omega
theorem Asm.fin_some {cur : List UInt8} (h : cur.isEmpty = false) : Asm.fin cur = [cur] := Asm.fin_ne (by simpa using h)
set_option maxHeartbeats 4000000 in
set_option maxRecDepth 100000 in
theorem rtokens_c (s : List UInt8) (w : World) (hl : s.length ≤ 20000) :
    Calls Tryd.prog 15 #[.string (bs s)] w fun e w' => ∃ v, e = .returned v ∧ OwnS w w' v (Asm.tok s) ∧ Bw w w' := by
  obtain ⟨T, hT⟩ : ∃ T, T = Asm.tok s := ⟨_, rfl⟩
  have HT : Hid _ := hT
  rw [← hT]
  clear hT
  go_enter Tryd.func15, Tryd.ntmps15
  go_wp2_with fail
  go_loopg [3, 4, 5] (s.length + 1) (fun g v c x wr => ∃ i : Nat, ∃ lst : List (List UInt8), ∃ cur : List UInt8, i + g = s.length + 1 ∧ c = .string (bs cur) ∧ x = .int .i64 i ∧ OwnS w wr v lst ∧ Bw w wr ∧ cur.length ≤ i ∧ lst.length ≤ 2 * i ∧ (g = 0 → lst = T) ∧ (0 < g → lst ++ Asm.tokA cur (s.drop i) = T))
  case atStart => exact ⟨0, [], [], by omega, rfl, rfl, OwnS.nil _ _, Bw.refl _, by simp, by simp, fun h => by omega, fun _ => by rw [show T = _ from HT]; rfl⟩
  case round =>
    obtain ⟨i, lst, cur, hig, rfl, rfl, hown, hbw, hcl, hll, hz, hs⟩ := hrel
    clear HT
    cases gk with
    | zero =>
      have hi : i = s.length + 1 := by omega
      have HZ : Hid _ := hz rfl
      have hgt : ¬ ((i : Int) ≤ (s.length : Int)) := by omega
      clear hz hs
      go_wp2_with fail
      go_returns
      exact ⟨_, rfl, by rw [← (show lst = T from HZ)]; exact hown, hbw⟩
    | succ g =>
      have HS : Hid _ := hs (by omega)
      clear hz hs
      have hle : (i : Int) ≤ (s.length : Int) := by omega
      have hce : (cur = [] ∧ cur.isEmpty = true) ∨ cur.isEmpty = false := by cases cur <;> simp
      by_cases hie : i = s.length
      · have hlt : ¬ ((i : Int) < (s.length : Int)) := by omega
        have HF : Hid (lst ++ Asm.fin cur = T) := by
          show _ = _
          rw [← (show _ = T from HS), hie, List.drop_length]; rfl
        clear HS
        obtain rfl : g = 0 := by omega
        clear hie
        rcases hce with ⟨hc0, hc1⟩ | hc1
        · subst hc0
          go_wp2_with fail
          go_roundg 0
          case measure => omega
          case rel => exact ⟨i + 1, lst, [], by omega, rfl, by simp, hown, hbw, by simp, by omega, fun _ => by rw [← (show _ = T from HF)]; simp [Asm.fin], fun h => by omega⟩
        · obtain ⟨v1, w1, hr1, ho1, hb1⟩ := appS hown hbw cur (by omega)
          go_wp2_with (first | (at_builtin; refine wpApp rfl _ _ 41 rfl rfl rfl hr1 ?_) | go_in)
          go_roundg 0
          case measure => omega
          case rel => exact ⟨i + 1, lst ++ [cur], [], by omega, rfl, by simp, ho1, hb1, by simp, by simp; omega, fun _ => by rw [← (show _ = T from HF), Asm.fin_some hc1], fun h => by omega⟩
      · have hil : i < s.length := by omega
        have hlt : (i : Int) < (s.length : Int) := by omega
        obtain ⟨c, hc⟩ : ∃ c, s[i]? = some c := ⟨s[i], by simp⟩
        have hgc := bs_get s i c hc
        have hdr : s.drop i = c :: s.drop (i + 1) := by
          rw [List.drop_eq_getElem_cons hil]
          rw [List.getElem?_eq_getElem hil] at hc
          rw [Option.some.inj hc]
        rw [hdr] at HS
        clear hdr hc hie
        rcases Asm.tok_class c with ⟨hcv, hbl⟩ | ⟨hcv, hbl, hmk⟩ | ⟨⟨hbl, hmk⟩, t1, t2, t3, t4, t5⟩
        · have HB : Hid (lst ++ (Asm.fin cur ++ Asm.tokA [] (s.drop (i + 1))) = T) := by
            show _ = _
            rw [← (show _ = T from HS), Asm.tokA, if_pos hbl]
          clear HS hbl
          rcases hce with ⟨hc0, hc1⟩ | hc1
          · subst hc0
            rcases hcv with rfl | rfl
            all_goals
              go_wp2_with fail
              go_roundg g
              case measure => omega
              case rel => exact ⟨i + 1, lst, [], by omega, rfl, by simp, hown, hbw, by simp, by omega, fun h => by omega, fun _ => HB⟩
          · obtain ⟨v1, w1, hr1, ho1, hb1⟩ := appS hown hbw cur (by omega)
            rcases hcv with rfl | rfl
            all_goals
              go_wp2_with (first | (at_builtin; refine wpApp rfl _ _ 41 rfl rfl rfl hr1 ?_) | go_in)
              go_roundg g
              case measure => omega
              case rel => exact ⟨i + 1, lst ++ [cur], [], by omega, rfl, by simp, ho1, hb1, by simp, by simp; omega, fun h => by omega, fun _ => by rw [← (show _ = T from HB), Asm.fin_some hc1]; simp⟩
        · have HB : Hid (lst ++ (Asm.fin cur ++ [c] :: Asm.tokA [] (s.drop (i + 1))) = T) := by
            show _ = _
            rw [← (show _ = T from HS), Asm.tokA, if_neg (by simp [hbl]), if_pos hmk]
          clear HS hbl hmk
          rcases hce with ⟨hc0, hc1⟩ | hc1
          · subst hc0
            rcases hcv with rfl | rfl | rfl
            · have hcv : (convert 23 9 (.slice (some ⟨wr.heap.size, 0, none⟩) 1 1)).run Tryd.prog (wr.alloc (.cells #[.int .u8 44] 5)) = .ok (.string (bs [44])) (wr.alloc (.cells #[.int .u8 44] 5)) := conv1c wr 44
              obtain ⟨v2, w2, hr2, ho2, hb2⟩ := appS (hown.bw ((Bw.refl wr).alloc (.cells #[.int .u8 44] 5))) (hbw.alloc (.cells #[.int .u8 44] 5)) [44] (by omega)
              simp only [World.size_alloc] at hr2
              go_wp2_with (first | (at_builtin; refine wpApp rfl _ _ 41 rfl rfl rfl hr2 ?_) | go_in)
              go_roundg g
              case measure => omega
              case rel => exact ⟨i + 1, lst ++ [[44]], [], by omega, rfl, by simp, ho2, hb2, by simp, by simp; omega, fun h => by omega, fun _ => by rw [← (show _ = T from HB)]; simp [Asm.fin]⟩
            · have hcv : (convert 23 9 (.slice (some ⟨wr.heap.size, 0, none⟩) 1 1)).run Tryd.prog (wr.alloc (.cells #[.int .u8 40] 5)) = .ok (.string (bs [40])) (wr.alloc (.cells #[.int .u8 40] 5)) := conv1c wr 40
              obtain ⟨v2, w2, hr2, ho2, hb2⟩ := appS (hown.bw ((Bw.refl wr).alloc (.cells #[.int .u8 40] 5))) (hbw.alloc (.cells #[.int .u8 40] 5)) [40] (by omega)
              simp only [World.size_alloc] at hr2
              go_wp2_with (first | (at_builtin; refine wpApp rfl _ _ 41 rfl rfl rfl hr2 ?_) | go_in)
              go_roundg g
              case measure => omega
              case rel => exact ⟨i + 1, lst ++ [[40]], [], by omega, rfl, by simp, ho2, hb2, by simp, by simp; omega, fun h => by omega, fun _ => by rw [← (show _ = T from HB)]; simp [Asm.fin]⟩
            · have hcv : (convert 23 9 (.slice (some ⟨wr.heap.size, 0, none⟩) 1 1)).run Tryd.prog (wr.alloc (.cells #[.int .u8 41] 5)) = .ok (.string (bs [41])) (wr.alloc (.cells #[.int .u8 41] 5)) := conv1c wr 41
              obtain ⟨v2, w2, hr2, ho2, hb2⟩ := appS (hown.bw ((Bw.refl wr).alloc (.cells #[.int .u8 41] 5))) (hbw.alloc (.cells #[.int .u8 41] 5)) [41] (by omega)
              simp only [World.size_alloc] at hr2
              go_wp2_with (first | (at_builtin; refine wpApp rfl _ _ 41 rfl rfl rfl hr2 ?_) | go_in)
              go_roundg g
              case measure => omega
              case rel => exact ⟨i + 1, lst ++ [[41]], [], by omega, rfl, by simp, ho2, hb2, by simp, by simp; omega, fun h => by omega, fun _ => by rw [← (show _ = T from HB)]; simp [Asm.fin]⟩
          · obtain ⟨v1, w1, hr1, ho1, hb1⟩ := appS hown hbw cur (by omega)
            rcases hcv with rfl | rfl | rfl
            · have hcv : (convert 23 9 (.slice (some ⟨w1.heap.size, 0, none⟩) 1 1)).run Tryd.prog (w1.alloc (.cells #[.int .u8 44] 5)) = .ok (.string (bs [44])) (w1.alloc (.cells #[.int .u8 44] 5)) := conv1c w1 44
              obtain ⟨v2, w2, hr2, ho2, hb2⟩ := appS (ho1.bw ((Bw.refl w1).alloc (.cells #[.int .u8 44] 5))) (hb1.alloc (.cells #[.int .u8 44] 5)) [44] (by simp; omega)
              simp only [World.size_alloc] at hr2
              go_wp2_with (first | (at_builtin; refine wpApp rfl _ _ 41 rfl rfl rfl hr1 ?_) | (at_builtin; refine wpApp rfl _ _ 41 rfl rfl rfl hr2 ?_) | go_in)
              go_roundg g
              case measure => omega
              case rel => exact ⟨i + 1, lst ++ [cur] ++ [[44]], [], by omega, rfl, by simp, ho2, hb2, by simp, by simp; omega, fun h => by omega, fun _ => by rw [← (show _ = T from HB), Asm.fin_some hc1]; simp⟩
            · have hcv : (convert 23 9 (.slice (some ⟨w1.heap.size, 0, none⟩) 1 1)).run Tryd.prog (w1.alloc (.cells #[.int .u8 40] 5)) = .ok (.string (bs [40])) (w1.alloc (.cells #[.int .u8 40] 5)) := conv1c w1 40
              obtain ⟨v2, w2, hr2, ho2, hb2⟩ := appS (ho1.bw ((Bw.refl w1).alloc (.cells #[.int .u8 40] 5))) (hb1.alloc (.cells #[.int .u8 40] 5)) [40] (by simp; omega)
              simp only [World.size_alloc] at hr2
              go_wp2_with (first | (at_builtin; refine wpApp rfl _ _ 41 rfl rfl rfl hr1 ?_) | (at_builtin; refine wpApp rfl _ _ 41 rfl rfl rfl hr2 ?_) | go_in)
              go_roundg g
              case measure => omega
              case rel => exact ⟨i + 1, lst ++ [cur] ++ [[40]], [], by omega, rfl, by simp, ho2, hb2, by simp, by simp; omega, fun h => by omega, fun _ => by rw [← (show _ = T from HB), Asm.fin_some hc1]; simp⟩
            · have hcv : (convert 23 9 (.slice (some ⟨w1.heap.size, 0, none⟩) 1 1)).run Tryd.prog (w1.alloc (.cells #[.int .u8 41] 5)) = .ok (.string (bs [41])) (w1.alloc (.cells #[.int .u8 41] 5)) := conv1c w1 41
              obtain ⟨v2, w2, hr2, ho2, hb2⟩ := appS (ho1.bw ((Bw.refl w1).alloc (.cells #[.int .u8 41] 5))) (hb1.alloc (.cells #[.int .u8 41] 5)) [41] (by simp; omega)
              simp only [World.size_alloc] at hr2
              go_wp2_with (first | (at_builtin; refine wpApp rfl _ _ 41 rfl rfl rfl hr1 ?_) | (at_builtin; refine wpApp rfl _ _ 41 rfl rfl rfl hr2 ?_) | go_in)
              go_roundg g
              case measure => omega
              case rel => exact ⟨i + 1, lst ++ [cur] ++ [[41]], [], by omega, rfl, by simp, ho2, hb2, by simp, by simp; omega, fun h => by omega, fun _ => by rw [← (show _ = T from HB), Asm.fin_some hc1]; simp⟩
        · have HB : Hid (lst ++ Asm.tokA (cur ++ [c]) (s.drop (i + 1)) = T) := by
            show _ = _
            rw [← (show _ = T from HS), Asm.tokA, if_neg (by simp [hbl]), if_neg (by simp [hmk])]
          have hcv := conv1c wr c
          clear HS hbl hmk hce
          go_wp2_with fail
          go_roundg g
          case measure => omega
          case rel => exact ⟨i + 1, lst, cur ++ [c], by omega, congrArg Value.string (bs_app2 cur [c]), by simp, hown.bw ((Bw.refl _).alloc _), hbw.alloc _, by simp; omega, by omega, fun h => by omega, fun _ => HB⟩
end Go.Proofs.YtllgkofibkobnaaDoor
namespace Go.Proofs.YtllgkofibkobnaaDoor
open Go.ChangeShapes Go.WideShapes Go.ChangeAt Go.RowKit

theorem bs_one {L : List UInt8} {k : Nat} {c : UInt8} (h : L[k]? = some c) : (bs L).extract k (k + 1) = bs [c] := by
  apply ByteArray.ext
  simp [bs, List.take_one, h]
theorem run_slice_one {L : List UInt8} {k : Nat} {c : UInt8} (h : L[k]? = some c) (w : World) :
    (Instr.slice 9 (.string (bs L)) (some (.int .i64 (k : Int))) (some (.int .i64 ((k : Int) + 1))) none).run Tryd.prog w = .ok (.string (bs [c])) w := by
  have hk : k < L.length := (List.getElem?_eq_some_iff.1 h).1
  have e := bs_one h
  have hs := bs_size L
  have hu := run_underlying (P := Tryd.prog) Tryd.underlying9
  simp [Instr.slice, go_sem, hu, hs]
  rw [if_pos ⟨by omega, by omega⟩, e]
end Go.Proofs.YtllgkofibkobnaaDoor
namespace Go.Proofs.YtllgkofibkobnaaDoor
open Go.ChangeShapes Go.WideShapes Go.ChangeAt Go.RowKit

/-- The reference's lines, from a line that is begun (gone: a # stood in it). -/
def Asm.RL : List UInt8 → Bool → List UInt8 → List (List UInt8)
  | cur, _, [] => [cur]
  | cur, gone, c :: s => if c = 10 then cur :: Asm.RL [] false s else if gone || c == 35 then Asm.RL cur true s else Asm.RL (cur ++ [c]) false s
theorem OwnS.last {w0 w : World} {v : Value} {lst : List (List UInt8)} {cur : List UInt8} (h : OwnS w0 w v (lst ++ [cur])) :
    ∃ g cap, v = .slice (some ⟨g, 0, none⟩) (lst.length + 1) cap ∧ w0.heap.size ≤ g ∧ lst.length + 1 ≤ cap ∧ cap ≤ maxLen ∧ w.cell? ⟨g, lst.length, none⟩ = some (.string (bs cur)) ∧ w.frozen? ⟨g, lst.length, none⟩ = false ∧
      ∀ x, OwnS w0 (w.setCell ⟨g, lst.length, none⟩ (.string (bs x))) v (lst ++ [x]) := by
  have h' := h
  obtain ⟨h1, h2⟩ := h
  simp only [List.length_append, List.length_singleton] at h2
  rcases h2 with ⟨_, h3⟩ | ⟨g, cap, cur0, rfl, hb, hc, h4, h5, h6, h7⟩
  · omega
  · have ho : w.ownsRow w0.heap.size 9 1 (.slice (some ⟨g, 0, none⟩) (lst.length + 1) cap) (lst.length + 1) (strsV (lst ++ [cur])) := by
      unfold OwnS at h'; simpa using h'
    refine ⟨g, cap, rfl, hb, h4, h5, ?_, ?_, fun x => ?_⟩
    · rw [ho.cellAt lst.length (by omega)]; simp [strsV]
    · exact ho.frozenAt _
    · have hs := (ho.stored lst.length (.string (bs x))).1
      unfold OwnS
      have e : strsV (lst ++ [x]) = (strsV (lst ++ [cur])).set lst.length (.string (bs x)) := by simp [strsV]
      rw [e]; simpa using hs
set_option maxHeartbeats 4000000 in
set_option maxRecDepth 100000 in
theorem rLines_c (s : List UInt8) (w : World) (hl : s.length ≤ 20000) :
    Calls Tryd.prog 14 #[.string (bs s)] w fun e w' => ∃ v, e = .returned v ∧ OwnS w w' v (Asm.RL [] false s) ∧ Bw w w' := by
  obtain ⟨T, hT⟩ : ∃ T, T = Asm.RL [] false s := ⟨_, rfl⟩
  have HT : Hid _ := hT
  rw [← hT]
  clear hT
  go_enter Tryd.func14, Tryd.ntmps14
  go_wp2_with fail
  go_loopg [3, 4, 5] (s.length) (fun g v go x wr => ∃ i : Nat, ∃ lst : List (List UInt8), ∃ cur : List UInt8, ∃ gone : Bool, i + g = s.length ∧ go = .bool gone ∧ x = .int .i64 i ∧ OwnS w wr v (lst ++ [cur]) ∧ Bw w wr ∧ cur.length ≤ i ∧ lst.length ≤ i ∧ lst ++ Asm.RL cur gone (s.drop i) = T)
  case atStart =>
    refine ⟨0, [], [], false, by omega, rfl, rfl, ?_, (Bw.refl w).alloc _, by simp, by simp, by rw [show T = _ from HT]; rfl⟩
    exact World.ownsRow_lit (base := w.heap.size) (e := 9) (size := 1) w #[.string ⟨#[]⟩] 1 (Nat.le_refl _) (by unfold maxLen; omega) rfl
  case round =>
    obtain ⟨i, lst, cur, gone, hig, rfl, rfl, hown, hbw, hcl, hll, hs⟩ := hrel
    have HS : Hid _ := hs
    clear HT hs
    by_cases hie : i = s.length
    · have hlt : ¬ ((i : Int) < (s.length : Int)) := by omega
      have HF : Hid (lst ++ [cur] = T) := by
        show _ = _
        rw [← (show _ = T from HS), hie, List.drop_length]; rfl
      clear HS hie
      go_wp2_with fail
      go_returns
      exact ⟨_, rfl, by rw [← (show lst ++ [cur] = T from HF)]; exact hown, hbw⟩
    · have hil : i < s.length := by omega
      have hlt : (i : Int) < (s.length : Int) := by omega
      obtain ⟨c, hc⟩ : ∃ c, s[i]? = some c := ⟨s[i], by simp⟩
      have hgc := bs_get s i c hc
      have hdr : s.drop i = c :: s.drop (i + 1) := by
        rw [List.drop_eq_getElem_cons hil]
        rw [List.getElem?_eq_getElem hil] at hc
        rw [Option.some.inj hc]
      rw [hdr, Asm.RL] at HS
      by_cases h10 : c = 10
      · subst h10
        rw [if_pos rfl] at HS
        obtain ⟨v1, w1, hr1, ho1, hb1⟩ := appS hown hbw [] (by simp; omega)
        have hr1' : (Builtin.append_ #[41, 41] 41 #[u3, .slice (some ⟨wr.heap.size, 0, none⟩) 1 1]).run Tryd.prog (wr.alloc (.cells #[.string ⟨#[]⟩] 9)) = .ok v1 w1 := hr1
        clear hr1 hdr hc hie
        go_wp2_with (first | (at_builtin; refine wpApp rfl _ _ 41 rfl rfl rfl hr1' ?_) | go_in)
        go_roundg (s.length - (i + 1))
        case measure => omega
        case rel => exact ⟨i + 1, lst ++ [cur], [], false, by omega, rfl, by simp, ho1, hb1, by simp, by simp; omega, by rw [← (show _ = T from HS)]; simp⟩
      · rw [if_neg h10] at HS
        have t10 : ((c.toNat : Int) == 10) = false := by rw [show (10 : Int) = ((10 : UInt8).toNat : Int) from rfl, Asm.u8_beq2]; simpa using h10
        have t35 : ((c.toNat : Int) == 35) = (c == 35) := Asm.u8_beq2 c 35
        cases hgo : (gone || c == 35)
        · rw [hgo] at HS
          simp only [Bool.or_eq_false_iff] at hgo
          obtain ⟨rfl, hg2⟩ := hgo
          rw [hg2] at t35
          obtain ⟨g, cap, rfl, hgb, hlc, hcm, hcell, hfz, hset⟩ := hown.last
          have hsl := fun w => run_slice_one (L := s) (k := i) hc w
          have hcat : ¬ (9223372036854775807 < cur.length + 1) := by omega
          have hi1 : ((lst.length + 1 : Nat) : Int) - 1 = lst.length := by omega
          have hi0 : (0 : Int) ≤ (lst.length : Int) := by omega
          have hi2 : (lst.length : Int) < ((lst.length + 1 : Nat) : Int) := by omega
          have hset2 := hset (cur ++ [c])
          have hbc := bs_app2 cur [c]
          have HSet : Hid _ := hset2
          have HB : Hid _ := hbc
          clear hdr hie h10 hset hset2 hbc
          go_wp2_with fail
          go_region
          go_wp2_with fail
          go_roundg (s.length - (i + 1))
          case measure => omega
          case rel =>
            refine ⟨i + 1, lst, cur ++ [c], false, by omega, rfl, by simp, ?_, ?_, by simp; omega, by omega, HS⟩
            · rw [show bs cur ++ bs [c] = _ from HB]
              first | exact HSet | exact OwnS.bw HSet (Bw.refl _).drew
            · exact (hbw.setCell hgb _).drew
        · rw [hgo] at HS
          cases hgn : gone
          · subst hgn
            simp only [Bool.false_or] at hgo
            rw [hgo] at t35
            clear hdr hc hie h10 hgo
            go_wp2_with fail
            go_roundg (s.length - (i + 1))
            case measure => omega
            case rel => exact ⟨i + 1, lst, cur, true, by omega, rfl, by simp, hown, hbw, by omega, by omega, HS⟩
          · subst hgn
            clear hdr hc hie h10 hgo t35
            go_wp2_with fail
            go_roundg (s.length - (i + 1))
            case measure => omega
            case rel => exact ⟨i + 1, lst, cur, true, by omega, rfl, by simp, hown, hbw, by omega, by omega, HS⟩
end Go.Proofs.YtllgkofibkobnaaDoor
namespace Go.Proofs.YtllgkofibkobnaaDoor
open Go.ChangeShapes Go.WideShapes Go.ChangeAt Go.RowKit

theorem Asm.ib_cases (c : UInt8) : ∀ l : List UInt8,
    (Lib.indexByte l c = -1 ∧ Asm.upto c l = l ∧ Asm.past c l = []) ∨ ∃ k : Nat, Lib.indexByte l c = k ∧ k < l.length ∧ Asm.upto c l = l.take k ∧ Asm.past c l = l.drop (k + 1)
  | [] => Or.inl ⟨rfl, rfl, rfl⟩
  | b :: l => by
    rw [Lib.indexByte]
    by_cases hb : b = c
    · subst hb
      right; exact ⟨0, by simp, by simp, by simp [Asm.upto], by simp [Asm.past]⟩
    · have h0 : (b == c) = false := by simpa using hb
      have h1 : (b != c) = true := by simpa using hb
      rw [h0]
      rcases Asm.ib_cases c l with ⟨e1, e2, e3⟩ | ⟨k, e1, e2, e3, e4⟩
      · left
        refine ⟨by simp [e1], ?_, ?_⟩
        · unfold Asm.upto at e2 ⊢; rw [List.takeWhile_cons, if_pos h1, e2]
        · unfold Asm.past at e3 ⊢; rw [List.dropWhile_cons, if_pos h1]; exact e3
      · right
        refine ⟨k + 1, ?_, by simp; omega, ?_, ?_⟩
        · rw [e1]
          have : ((k : Int) == -1) = false := by simp
          simp [this]
        · unfold Asm.upto at e3 ⊢; rw [List.takeWhile_cons, if_pos h1, e3]; simp
        · unfold Asm.past at e4 ⊢; rw [List.dropWhile_cons, if_pos h1]; simpa using e4
theorem Asm.ret_ssb {a b c d : ByteArray} {x y : Bool} (h : a = c) (h2 : b = d) (h3 : x = y) : Ending.returned (.tuple #[.string a, .string b, .bool x]) = .returned (.tuple #[.string c, .string d, .bool y]) := by rw [h, h2, h3]
theorem Cut45_c (l : List UInt8) (c : UInt8) (w : World) (hl : l.length < 4294967281) :
    Calls Tryd.prog 26 #[.string (bs l), .string ⟨#[c]⟩] w fun e w' => ∃ b, e = .returned (.tuple #[.string (bs (Asm.upto c l)), .string (bs (Asm.past c l)), .bool b]) ∧ Bw w w' := by
  have hI : Calls Tryd.prog 53 #[.string (bs l), .string ⟨#[c]⟩] w fun e w' => e = .returned (.int .i64 (Lib.indexByte l c)) ∧ w' = w := by
    have := Any.stringslite_Index_one (P := Tryd.prog) { Tryd.lays143 with } (bs l) c w
    rw [bs_data] at this
    exact this
  rcases Asm.ib_cases c l with ⟨e1, e2, e3⟩ | ⟨k, e1, e2, e3, e4⟩
  · rw [e1] at hI
    rw [e2, e3]
    go_enter Tryd.func26, Tryd.ntmps26
    go_wp2_with (go_at_call 53; refine hI.mono ?_; rintro e w' ⟨rfl, rfl⟩)
    go_returns
    exact ⟨_, rfl, Bw.refl _⟩
  · rw [e1] at hI
    rw [e3, e4]
    have hk1 : (k : Int) + 1 ≤ (l.length : Int) := by omega
    clear e1 e3 e4
    go_enter Tryd.func26, Tryd.ntmps26
    go_wp2_with (go_at_call 53; refine hI.mono ?_; rintro e w' ⟨rfl, rfl⟩)
    go_region
    go_wp2
    go_returns
    exact ⟨true, Asm.ret_ssb (bs_take l k) (bs_drop l (k + 1)) rfl, (Bw.refl _).drew⟩
theorem Cut_c (l : List UInt8) (c : UInt8) (w : World) (hl : l.length < 4294967281) :
    Calls Tryd.prog 10 #[.string (bs l), .string ⟨#[c]⟩] w fun e w' => ∃ b, e = .returned (.tuple #[.string (bs (Asm.upto c l)), .string (bs (Asm.past c l)), .bool b]) ∧ Bw w w' := by
  have hC := Cut45_c l c w hl
  go_enter Tryd.func10, Tryd.ntmps10
  go_wp2_with (go_at_call 26; refine hC.mono ?_; rintro e w' ⟨b, rfl, hb⟩)
  go_returns
  exact ⟨b, rfl, hb⟩
theorem Asm.dropWhile_nil {p : UInt8 → Bool} : ∀ {l : List UInt8}, l.dropWhile p = [] ↔ ∀ b ∈ l, p b = true
  | [] => by simp
  | a :: l => by
    rw [List.dropWhile_cons]
    cases h : p a
    · simp [h]
    · simp [h, Asm.dropWhile_nil (l := l)]
theorem Asm.trimS_empty (l : List UInt8) : (Lib.trimS l [32, 9]).isEmpty = (Asm.tok l).isEmpty := by
  have e1 : (Lib.trimS l [32, 9] = []) ↔ ∀ b ∈ l, Asm.bl b = true := by
    unfold Lib.trimS
    rw [Asm.trimS_eq, Asm.trimB, Asm.dropWhile_nil]
    unfold Lib.trimRightS
    have hbl : ∀ b : UInt8, ([32, 9] : List UInt8).contains b = Asm.bl b := fun b => by rw [Bool.eq_iff_iff]; simp [Asm.bl]
    constructor
    · intro h
      by_cases hall : ∀ b ∈ l.reverse, ([32, 9] : List UInt8).contains b = true
      · intro b hb; rw [← hbl]; exact hall b (by simpa using hb)
      · exfalso
        have hne : l.reverse.dropWhile (fun b => ([32, 9] : List UInt8).contains b) ≠ [] := fun e => hall (Asm.dropWhile_nil.1 e)
        obtain ⟨x, xs, hx⟩ := List.exists_cons_of_ne_nil hne
        have h1 := Asm.dropWhile_head (fun b => ([32, 9] : List UInt8).contains b) l.reverse x (by rw [hx]; rfl)
        have h2 := h x (by rw [hx]; simp)
        rw [← hbl] at h2
        rw [h1] at h2; simp at h2
    · intro h b hb
      have : b ∈ l.reverse.dropWhile (fun b => ([32, 9] : List UInt8).contains b) := by simpa using hb
      exact h b (by simpa using (List.dropWhile_sublist _).mem this)
  have e2 : (Asm.tok l = []) ↔ ∀ b ∈ l, Asm.bl b = true := by
    rw [Asm.tok_empty, Asm.trimB, Asm.dropWhile_nil]
  rw [Bool.eq_iff_iff, List.isEmpty_iff, List.isEmpty_iff, e1, e2]
theorem Trim_c (l : List UInt8) (w : World) (hl : l.length < 4294967281) :
    Calls Tryd.prog 11 #[.string (bs l), .string ⟨#[32, 9]⟩] w fun e w' => ∃ t : List UInt8, e = .returned (.string (bs t)) ∧ t.isEmpty = (Asm.tok l).isEmpty ∧ Bw w w' := by
  refine (Any.strings_Trim_laid Tryd.lays160 (by kernel_rfl) (bs l) ⟨#[32, 9]⟩ w (by rw [bs_size]; omega) (by decide) (ascii_of_all (by decide))).mono ?_
  rintro e w' ⟨rfl, hb⟩
  rw [bs_data]
  exact ⟨_, rfl, Asm.trimS_empty l, hb⟩
theorem countLines_c (l : List UInt8) (w : World) (hl : l.length ≤ 16384) :
    Calls Tryd.prog 9 #[.string (bs l)] w fun e w' => e = .returned (.int .i64 (Asm.count l)) ∧ w' = w := by
  have hN : Calls Tryd.prog 24 #[.string (bs l), .string ⟨#[10]⟩] w fun e w' => e = .returned (.int .i64 (l.count 10 : Nat)) ∧ w' = w := by
    have := Any.strings_Count_one Tryd.lays138 (bs l) 10 w
    rw [bs_data] at this
    exact this
  have hle : l.count 10 ≤ l.length := List.count_le_length
  have hS : Calls Tryd.prog 25 #[.string (bs l), .string ⟨#[10]⟩] w fun e w' => e = .returned (.bool (l.getLast? == some 10)) ∧ w' = w := by
    have := Any.strings_HasSuffix Tryd.lays100 (bs l) ⟨#[10]⟩ w (by rw [bs_size]; omega)
    rw [bs_data] at this
    have e : Lib.hasSuffix l [10] = (l.getLast? == some 10) := by
      unfold Lib.hasSuffix
      rw [Bool.eq_iff_iff]
      simp [List.isSuffixOf_iff_suffix]
      constructor
      · rintro ⟨t, rfl⟩; simp
      · intro h
        refine ⟨l.dropLast, ?_⟩
        rw [List.getLast?_eq_some_iff] at h
        obtain ⟨ys, rfl⟩ := h
        simp
    rw [← e]
    exact this
  unfold Asm.count
  generalize l.count 10 = N at *
  by_cases h0 : l = []
  · subst h0
    go_enter Tryd.func9, Tryd.ntmps9
    go_wp2_with (first
      | (go_at_call 24; refine hN.mono ?_; rintro e w' ⟨rfl, rfl⟩)
      | (go_at_call 25; refine hS.mono ?_; rintro e w' ⟨rfl, rfl⟩))
    go_ret
    exact ⟨rfl, rfl⟩
  · have he : l.isEmpty = false := by simpa using h0
    by_cases h1 : l.getLast? = some 10
    · have e1 : (l.getLast? == some 10) = true := by simpa using h1
      rw [e1] at hS
      rw [if_neg (fun h => h.2 h1)]
      clear h1 e1
      go_enter Tryd.func9, Tryd.ntmps9
      go_wp2_with (first
        | (go_at_call 24; refine hN.mono ?_; rintro e w' ⟨rfl, rfl⟩)
        | (go_at_call 25; refine hS.mono ?_; rintro e w' ⟨rfl, rfl⟩))
      go_ret
      exact ⟨rfl, rfl⟩
    · have e1 : (l.getLast? == some 10) = false := by simpa using h1
      rw [e1] at hS
      rw [if_pos ⟨h0, h1⟩]
      clear h1 e1
      go_enter Tryd.func9, Tryd.ntmps9
      go_wp2_with (first
        | (go_at_call 24; refine hN.mono ?_; rintro e w' ⟨rfl, rfl⟩)
        | (go_at_call 25; refine hS.mono ?_; rintro e w' ⟨rfl, rfl⟩))
      go_ret
      exact ⟨Asm.ret_i (by simp), rfl⟩
end Go.Proofs.YtllgkofibkobnaaDoor
namespace Go.Proofs.YtllgkofibkobnaaDoor
open Go.ChangeShapes Go.WideShapes Go.ChangeAt Go.RowKit

set_option maxHeartbeats 2000000 in
set_option maxRecDepth 100000 in
theorem rdigits_c (l : List UInt8) (w : World) (hl : l.length < 4294967281) :
    Calls Tryd.prog 16 #[.string (bs l)] w fun e w' => e = .returned (.tuple #[.int .i64 (Asm.dig l), .bool (Asm.digOk l)]) ∧ w' = w := by
  by_cases h0 : l.length < 1
  · have : l = [] := List.eq_nil_of_length_eq_zero (by omega)
    subst this
    go_enter Tryd.func16, Tryd.ntmps16
    go_wp2
    go_returns
    exact ⟨rfl, rfl⟩
  have h0i : (1 : Int) ≤ (l.length : Int) := by omega
  by_cases h1 : 10 < l.length
  · have hk : Asm.digOk l = false := by simp [Asm.digOk]; omega
    have hd : Asm.dig l = 0 := by simp [Asm.dig, hk]
    have h1i : (10 : Int) < (l.length : Int) := by omega
    rw [hk, hd]
    go_enter Tryd.func16, Tryd.ntmps16
    go_wp2
    go_returns
    exact ⟨rfl, rfl⟩
  have h10 : (l.length : Int) ≤ 10 := by omega
  have hz : (0 : Int) < (l.length : Int) := by omega
  obtain ⟨b, hb⟩ : ∃ b, l[0]? = some b := ⟨l[0], by simp⟩
  have hg := bs_get l 0 b hb
  have hne : l ≠ [] := by intro h; subst h; simp at h0
  by_cases h2 : b = 48 ∧ 1 < l.length
  · have hd48 : l.head? = some 48 := by rw [List.head?_eq_getElem?, hb, h2.1]
    have hn48 : l ≠ [48] := by intro h; rw [h] at h2; simp at h2
    have hk : Asm.digOk l = false := by simp [Asm.digOk, hd48, hn48]
    have hd : Asm.dig l = 0 := by simp [Asm.dig, hk]
    rw [hk, hd]
    obtain ⟨rfl, h3⟩ := h2
    have h3i : (1 : Int) < (l.length : Int) := by omega
    clear h1 hb hd48 hk hd hn48
    go_enter Tryd.func16, Tryd.ntmps16
    go_wp2
    go_returns
    exact ⟨rfl, rfl⟩
  · have hok : Asm.digOk l = l.all Asm.isD := by
      have e1 : (l.head? != some 48 || l == [48]) = true := by
        rw [List.head?_eq_getElem?, hb]
        by_cases e : b = 48
        · have hl1 : l.length = 1 := by
            have : ¬ 1 < l.length := fun h => h2 ⟨e, h⟩
            omega
          have : l = [48] := by
            match l, hl1, hb with
            | [x], _, hb => simp at hb; rw [hb, e]
          simp [this]
        · simp [e]
      simp [Asm.digOk, e1]; omega
    have h3 : ((1 : Int) < (l.length : Int) ∧ ((b.toNat : Int) == 48) = false) ∨ (l.length : Int) ≤ 1 := by
      by_cases e1 : 1 < l.length
      · left
        refine ⟨by omega, ?_⟩
        simp only [beq_eq_false_iff_ne]
        intro he
        exact h2 ⟨UInt8.toNat_inj.1 (by show b.toNat = 48; omega), e1⟩
      · right; omega
    have HO : Hid _ := hok
    clear hok h2 h1 hb hne
    rcases h3 with ⟨h3, h4⟩ | h3
    all_goals
      go_enter Tryd.func16, Tryd.ntmps16
      go_wp2_with fail
      go_loopw [4, 5] (fun a i wr => wr = w ∧ ∃ j : Nat, i = .int .i64 j ∧ j ≤ l.length ∧ a = .int .i64 (Asm.valA 0 (l.take j)) ∧ (l.take j).all Asm.isD = true) (fun _ i _ => l.length - (intOf i).toNat)
      case atStart => exact ⟨rfl, 0, rfl, by omega, rfl, rfl⟩
      case round =>
        obtain ⟨rfl, j, rfl, hj, rfl, hall⟩ := hrel
        have HA : Hid _ := hall
        clear hall hg
        by_cases hje : j = l.length
        · subst hje
          rw [List.take_length] at HA ⊢
          have hend : ¬ ((l.length : Int) < (l.length : Int)) := by omega
          go_wp2_with fail
          go_returns
          refine ⟨Asm.ret_ib ?_ ?_, rfl⟩
          · rw [Asm.dig, show _ = _ from HO, show _ = _ from HA, if_pos rfl]; rfl
          · rw [show _ = _ from HO, show _ = _ from HA]
        · have hjl : j < l.length := by omega
          have hji : (j : Int) < (l.length : Int) := by omega
          obtain ⟨x, hx⟩ : ∃ x, l[j]? = some x := ⟨l[j], by simp⟩
          have hgx := bs_get l j x hx
          have HX : Hid _ := hx
          obtain ⟨vb1, vb2⟩ := Asm.val_bd10 HA (by rw [List.length_take]; omega)
          have HV : Hid _ := Asm.valA_snoc 0 (l.take j) x
          have HL : Hid _ := Asm.all_take hx
          generalize hV : Asm.valA 0 (l.take j) = V at *
          clear hx hV
          have xb : x.toNat < 256 := x.toNat_lt
          by_cases hd : Asm.isD x = true
          · have HD : Hid _ := hd
            have hd2 := Asm.isD_bd hd
            have d0 : (48 : Int) ≤ x.toNat := by omega
            have d1 : (x.toNat : Int) ≤ 57 := by omega
            clear hd hd2
            go_wp2_with fail
            refine ⟨⟨trivial, j + 1, by simp, by omega, ?_, ?_⟩, by simp [intOf]; omega⟩
            · rw [show _ = _ from HL, show _ = _ from HV]; congr 1; omega
            · rw [show _ = _ from HL, List.all_append, show _ = _ from HA]; simp [show _ = _ from HD]
          · have hd2 : Asm.isD x = false := by simpa using hd
            have hk := Asm.not_all HX hd2
            have hdig : Asm.dig l = 0 := by simp [Asm.dig, hk]
            have HK : Hid _ := hk
            have HDG : Hid _ := hdig
            have hx3 : (x.toNat : Int) < 48 ∨ ((48 : Int) ≤ x.toNat ∧ (57 : Int) < x.toNat) := by
              simp [Asm.isD] at hd2; omega
            clear hk hdig hd hd2
            rcases hx3 with hx3 | ⟨hx3, hx4⟩
            · go_wp2_with fail
              go_returns
              exact ⟨Asm.ret_ib (show Asm.dig l = 0 from HDG).symm (show Asm.digOk l = false from HK).symm, rfl⟩
            · go_wp2_with fail
              go_returns
              exact ⟨Asm.ret_ib (show Asm.dig l = 0 from HDG).symm (show Asm.digOk l = false from HK).symm, rfl⟩
theorem rnumber_c (l : List UInt8) (w : World) (hl : l.length < 4294967281) :
    Calls Tryd.prog 39 #[.string (bs l)] w fun e w' => e = .returned (.tuple #[.int .i64 (Asm.num l), .bool (Asm.numOk l)]) ∧ w' = w := by
  by_cases h : l.head? = some 45
  · obtain ⟨t, rfl⟩ : ∃ t, l = 45 :: t := by cases l with | nil => simp at h | cons a t => simp at h; subst h; exact ⟨t, rfl⟩
    have hb := Asm.dig_bd t
    have hd := rdigits_c t w (by simp at hl; omega)
    have hn : Asm.num (45 :: t) = - Asm.dig t := by simp [Asm.num]
    have hk : Asm.numOk (45 :: t) = (Asm.digOk t && Asm.dig t != 0) := by simp [Asm.numOk]
    have hg := bs_get (45 :: t) 0 45 rfl
    have hz : (0 : Int) < ((45 :: t).length : Int) := by simp only [List.length_cons]; omega
    have hsl : (bs (45 :: t)).extract 1 (45 :: t).length = bs t := bs_drop (45 :: t) 1
    have h1 : (1 : Int) ≤ ((45 :: t).length : Int) := by simp only [List.length_cons]; omega
    rw [hn, hk]
    clear hn hk h
    generalize Asm.dig t = D at *
    generalize Asm.digOk t = k at *
    generalize 45 :: t = L at *
    obtain ⟨b0, b1⟩ := hb
    cases k
    all_goals
      go_enter Tryd.func39, Tryd.ntmps39
      go_wp2_with (go_at_call 16; refine hd.mono ?_; rintro e w' ⟨rfl, rfl⟩)
      go_returns
      exact ⟨rfl, rfl⟩
  · have hd := rdigits_c l w hl
    have hn : Asm.num l = Asm.dig l := by simp [Asm.num, h]
    have hk : Asm.numOk l = Asm.digOk l := by simp [Asm.numOk, h]
    rw [hn, hk]
    clear hn hk
    cases l with
    | nil =>
      go_enter Tryd.func39, Tryd.ntmps39
      go_wp2_with (go_at_call 16; refine hd.mono ?_; rintro e w' ⟨rfl, rfl⟩)
      go_returns
      exact ⟨rfl, rfl⟩
    | cons a t =>
      have hg := bs_get (a :: t) 0 a rfl
      have ha : ((a.toNat : Int) == 45) = false := by
        rw [beq_eq_false_iff_ne]; intro he
        apply h
        have : a = 45 := UInt8.toNat_inj.1 (by show a.toNat = 45; omega)
        rw [this]; rfl
      have hz : (0 : Int) < ((a :: t).length : Int) := by simp only [List.length_cons]; omega
      clear h
      generalize a :: t = L at *
      go_enter Tryd.func39, Tryd.ntmps39
      go_wp2_with (go_at_call 16; refine hd.mono ?_; rintro e w' ⟨rfl, rfl⟩)
      go_returns
      exact ⟨rfl, rfl⟩
/-- A register's number, -1 of what is none. -/
def Asm.regN (l : List UInt8) : Int := if Asm.regOk l then Asm.reg l else -1
theorem rregister_c (l : List UInt8) (w : World) (hl : l.length < 4294967281) :
    Calls Tryd.prog 38 #[.string (bs l)] w fun e w' => e = .returned (.int .i64 (Asm.regN l)) ∧ w' = w := by
  by_cases h2 : l.length < 2
  · have hk : Asm.regN l = -1 := by
      rcases l with _ | ⟨a, _ | ⟨b, t⟩⟩
      · rfl
      · simp [Asm.regN, Asm.regOk, Asm.digOk]
      · simp at h2
        omega
    have h2i : (l.length : Int) < 2 := by omega
    rw [hk]
    go_enter Tryd.func38, Tryd.ntmps38
    go_wp2_with fail
    go_ret
    exact ⟨rfl, rfl⟩
  have h2i : (2 : Int) ≤ (l.length : Int) := by omega
  have hz : (0 : Int) < (l.length : Int) := by omega
  have h1 : (1 : Int) ≤ (l.length : Int) := by omega
  cases l with
  | nil => simp at h2
  | cons a t =>
    have hg := bs_get (a :: t) 0 a rfl
    by_cases h : a = 120
    · subst h
      have hb := Asm.dig_bd t
      have hd := rdigits_c t w (by simp at hl; omega)
      have hsl : (bs (120 :: t)).extract 1 (120 :: t).length = bs t := bs_drop (120 :: t) 1
      have hr : Asm.regN (120 :: t) = if Asm.digOk t = true ∧ Asm.dig t < 32 then Asm.dig t else -1 := by
        by_cases hk : Asm.digOk t = true
        · by_cases h32 : Asm.dig t < 32
          · simp [Asm.regN, Asm.reg, Asm.regOk, hk, h32]
          · simp [Asm.regN, Asm.regOk, hk, h32]
        · simp [Asm.regN, Asm.regOk, hk]
      rw [hr]
      clear hr h2
      generalize Asm.dig t = D at *
      generalize Asm.digOk t = k at *
      generalize 120 :: t = L at *
      obtain ⟨b0, b1⟩ := hb
      cases k
      · rw [if_neg (by simp)]
        go_enter Tryd.func38, Tryd.ntmps38
        go_wp2_with (go_at_call 16; refine hd.mono ?_; rintro e w' ⟨rfl, rfl⟩)
        go_ret
        exact ⟨rfl, rfl⟩
      · by_cases h32 : D < 32
        · rw [if_pos ⟨rfl, h32⟩]
          have h31 : D ≤ 31 := by omega
          go_enter Tryd.func38, Tryd.ntmps38
          go_wp2_with (go_at_call 16; refine hd.mono ?_; rintro e w' ⟨rfl, rfl⟩)
          go_ret
          exact ⟨rfl, rfl⟩
        · rw [if_neg (fun h => h32 h.2)]
          have h31 : 31 < D := by omega
          clear h32
          go_enter Tryd.func38, Tryd.ntmps38
          go_wp2_with (go_at_call 16; refine hd.mono ?_; rintro e w' ⟨rfl, rfl⟩)
          go_ret
          exact ⟨rfl, rfl⟩
    · have hr : Asm.regN (a :: t) = -1 := by simp [Asm.regN, Asm.regOk, h]
      rw [hr]
      have ha : ((a.toNat : Int) != 120) = true := by
        rw [bne_iff_ne]; intro he
        exact h (UInt8.toNat_inj.1 (by show a.toNat = 120; omega))
      clear h hr h2
      generalize a :: t = L at *
      go_enter Tryd.func38, Tryd.ntmps38
      go_wp2_with fail
      go_ret
      exact ⟨rfl, rfl⟩
theorem Asm.count_take {l : List UInt8} {j : Nat} {c : UInt8} (h : l[j]? = some c) : (l.take (j + 1)).count 10 = (l.take j).count 10 + (if c = 10 then 1 else 0) := by
  rw [Asm.all_take h, List.count_append]
  by_cases e : c = 10
  · subst e; simp
  · simp [e]
set_option maxHeartbeats 2000000 in
set_option maxRecDepth 100000 in
theorem rCount_c (l : List UInt8) (w : World) (hl : l.length ≤ 16384) :
    Calls Tryd.prog 13 #[.string (bs l)] w fun e w' => e = .returned (.int .i64 (Asm.count l)) ∧ w' = w := by
  go_enter Tryd.func13, Tryd.ntmps13
  go_wp2_with fail
  go_loopw [3, 4] (fun a i wr => wr = w ∧ ∃ j : Nat, i = .int .i64 j ∧ j ≤ l.length ∧ a = .int .i64 ((l.take j).count 10 : Nat)) (fun _ i _ => l.length - (intOf i).toNat)
  case atStart => exact ⟨rfl, 0, rfl, by omega, rfl⟩
  case round =>
    obtain ⟨rfl, j, rfl, hj, rfl⟩ := hrel
    by_cases hje : j = l.length
    · subst hje
      rw [List.take_length]
      have hend : ¬ ((l.length : Int) < (l.length : Int)) := by omega
      have hcl : l.count 10 ≤ l.length := List.count_le_length
      have HCn : Hid (Asm.count l = l.count 10 + (if l ≠ [] ∧ l.getLast? ≠ some 10 then 1 else 0)) := rfl
      generalize l.count 10 = N at *
      by_cases h0 : l = []
      · subst h0
        go_wp2_with fail
        go_ret
        exact ⟨Asm.ret_i (by rw [show Asm.count _ = _ from HCn]; simp), rfl⟩
      · have hlp : 0 < l.length := by cases l with | nil => exact absurd rfl h0 | cons a t => simp
        have hz : (0 : Int) < (l.length : Int) := by omega
        obtain ⟨x, hx⟩ : ∃ x, l[l.length - 1]? = some x := ⟨l[l.length - 1], by simp⟩
        have hgx : ∀ h, (bs l)[((l.length : Int) - 1).toNat]'h = x := fun h => by
          have e : ((l.length : Int) - 1).toNat = l.length - 1 := by omega
          have := bs_get l (l.length - 1) x hx
          simp only [e]
          exact this _
        have hgx2 := bs_get l (l.length - 1) x hx
        have hb1 : (l.length : Int) - 1 < (l.length : Int) := by omega
        have hb0 : (0 : Int) ≤ (l.length : Int) - 1 := by omega
        have hlast : l.getLast? = some x := by rw [List.getLast?_eq_getElem?]; exact hx
        rw [hlast] at HCn
        by_cases h10 : x = 10
        · subst h10
          go_wp2_with fail
          go_ret
          exact ⟨Asm.ret_i (by rw [show Asm.count _ = _ from HCn]; simp), rfl⟩
        · have hc : ((x.toNat : Int) != 10) = true := by
            rw [bne_iff_ne]; intro he
            exact h10 (UInt8.toNat_inj.1 (by show x.toNat = 10; omega))
          go_wp2_with fail
          go_ret
          exact ⟨Asm.ret_i (by rw [show Asm.count _ = _ from HCn, if_pos ⟨h0, by simpa using h10⟩]; simp), rfl⟩
    · have hjl : j < l.length := by omega
      have hji : (j : Int) < (l.length : Int) := by omega
      obtain ⟨x, hx⟩ : ∃ x, l[j]? = some x := ⟨l[j], by simp⟩
      have hgx := bs_get l j x hx
      have HT : Hid _ := Asm.count_take hx
      have hcl : (l.take j).count 10 ≤ (l.take j).length := List.count_le_length
      rw [List.length_take] at hcl
      generalize (l.take j).count 10 = N at *
      clear hx
      by_cases h10 : x = 10
      · subst h10
        go_wp2_with fail
        refine ⟨⟨trivial, j + 1, by simp, by omega, ?_⟩, by simp [intOf]; omega⟩
        rw [show _ = _ from HT]; simp
      · have hc : ((x.toNat : Int) == 10) = false := by
          rw [beq_eq_false_iff_ne]; intro he
          exact h10 (UInt8.toNat_inj.1 (by show x.toNat = 10; omega))
        have H10 : Hid _ := h10
        clear h10
        go_wp2_with fail
        refine ⟨⟨trivial, j + 1, by simp, by omega, ?_⟩, by simp [intOf]; omega⟩
        rw [show _ = _ from HT, if_neg H10]; simp
end Go.Proofs.YtllgkofibkobnaaDoor
namespace Go.Proofs.YtllgkofibkobnaaDoor
open Go.ChangeShapes Go.WideShapes Go.ChangeAt Go.RowKit

theorem Asm.ret_ue {a b c d : Int} (h : a = b) (h2 : c = d) : Ending.returned (.tuple #[.int .u32 a, .int .i64 c]) = .returned (.tuple #[.int .u32 b, .int .i64 d]) := by rw [h, h2]
/-- A line's word by its first word. -/
theorem Asm.lineW_no {l : List UInt8} (h : Asm.word l ≠ Asm.wordName) : Asm.lineW (Asm.tok l) = (Asm.wrd (Asm.parse (Asm.tok l)), (Asm.parse (Asm.tok l)).2) := by
  unfold Asm.lineW
  rw [if_neg]
  by_cases hw : Asm.word l = []
  · rcases Asm.tok_none hw with ⟨_, e⟩ | ⟨b, r, hb, _, e⟩
    · rw [e]; simp
    · rw [e]; simp [Asm.wordName]
  · rw [Asm.tok_cut hw]; simpa using h
theorem Asm.lineW_yes {l : List UInt8} (h : Asm.word l = Asm.wordName) : Asm.lineW (Asm.tok l) = Asm.plainW (Asm.tok (Asm.rest l)) := by
  have hw : Asm.word l ≠ [] := by rw [h]; decide
  unfold Asm.lineW
  rw [Asm.tok_cut hw, if_pos (by simp [h])]; rfl
/-- What stands behind 'word': one number, and nothing else. -/
theorem Asm.plainW_cut (r : List UInt8) : Asm.plainW (Asm.tok r) = if (Asm.numOk (Asm.word r) = true ∧ 0 ≤ Asm.num (Asm.word r) ∧ Asm.num (Asm.word r) < 4294967296) ∧ Asm.trimB (Asm.rest r) = [] then (Asm.num (Asm.word r), 0) else (0, 7) := by
  by_cases hw : Asm.word r = []
  · rw [Asm.numOk_short (Or.inl hw), if_neg (by simp)]
    rcases Asm.tok_none hw with ⟨_, e⟩ | ⟨b, r', hb, _, e⟩
    · rw [e]; rfl
    · rw [e]
      cases ht : Asm.tok r' with
      | nil => simp [Asm.plainW, Asm.numOk_short (Or.inr ⟨b, hb, rfl⟩)]
      | cons x xs => rfl
  · rw [Asm.tok_cut hw]
    by_cases ht : Asm.trimB (Asm.rest r) = []
    · rw [(Asm.tok_empty _).2 ht]; simp [Asm.plainW, ht]
    · have h2 : Asm.tok (Asm.rest r) ≠ [] := fun h => ht ((Asm.tok_empty _).1 h)
      rw [if_neg (fun h => ht h.2)]
      cases hx : Asm.tok (Asm.rest r) with
      | nil => exact absurd hx h2
      | cons x xs => rfl
set_option maxHeartbeats 2000000 in
set_option maxRecDepth 100000 in
theorem lineWord_c (l : List UInt8) (w : World) (hl : l.length < 4294967281) (ht : Tabs w) (hn : NTab w) :
    Calls Tryd.prog 12 #[.string (bs l)] w fun e w' => e = .returned (.tuple #[.int .u32 (Asm.lineW (Asm.tok l)).1, .int .i64 (Asm.lineW (Asm.tok l)).2]) ∧ Bw w w' := by
  have hC := cutWord_c l w hl
  have hlen := Asm.word_len l
  by_cases hw : Asm.word l = Asm.wordName
  · rw [Asm.lineW_yes hw, Asm.plainW_cut]
    rw [hw] at hC
    have hC2 := fun w => cutWord_c (Asm.rest l) w (by omega)
    have hlen2 := Asm.word_len (Asm.rest l)
    have hN := fun w => numberOf_c (Asm.word (Asm.rest l)) w (by omega)
    have hT := fun w => trimBlanks_c (Asm.rest (Asm.rest l)) w
    obtain ⟨n0, n1⟩ := Asm.num_bd (Asm.word (Asm.rest l))
    generalize Asm.num (Asm.word (Asm.rest l)) = N at *
    generalize Asm.numOk (Asm.word (Asm.rest l)) = k at *
    generalize Asm.trimB (Asm.rest (Asm.rest l)) = T at *
    generalize Asm.word (Asm.rest l) = wd at *
    generalize Asm.rest (Asm.rest l) = rr at *
    generalize Asm.rest l = r at *
    have hq : (Asm.wordName == [119, 111, 114, 100]) = true := by decide
    clear hw
    cases k
    · rw [if_neg (by simp)]
      go_enter Tryd.func12, Tryd.ntmps12
      go_wp2_with fail
      refine hC.mono ?_
      rintro e w1 ⟨rfl, hb1⟩
      go_wp2_with fail
      refine (hC2 _).mono ?_
      rintro e w2 ⟨rfl, hb2⟩
      go_wp2_with (first
        | (go_at_call 35; refine (hN _).mono ?_; rintro e w3 ⟨rfl, hb3⟩))
      go_returns
      exact ⟨rfl, (hb1.trans hb2).trans hb3⟩
    · by_cases hr : 0 ≤ N ∧ N < 4294967296
      · have hs : (N / 4294967296 == 0) = true := by simp; omega
        have hs2 : (N / 4294967296 != 0) = false := by simp; omega
        by_cases hT0 : T = []
        · subst hT0
          rw [if_pos (by simpa using hr)]
          go_enter Tryd.func12, Tryd.ntmps12
          go_wp2_with fail
          refine hC.mono ?_
          rintro e w1 ⟨rfl, hb1⟩
          go_wp2_with fail
          refine (hC2 _).mono ?_
          rintro e w2 ⟨rfl, hb2⟩
          go_wp2_with (first
            | (go_at_call 35; refine (hN _).mono ?_; rintro e w3 ⟨rfl, hb3⟩)
            | (go_at_call 36; refine (hT _).mono ?_; rintro e w4 ⟨rfl, hb4⟩))
          go_returns
          exact ⟨Asm.ret_ue (by omega) rfl, ((hb1.trans hb2).trans hb3).trans hb4⟩
        · have hTe : T.isEmpty = false := by simpa using hT0
          rw [if_neg (fun h => hT0 h.2)]
          go_enter Tryd.func12, Tryd.ntmps12
          go_wp2_with fail
          refine hC.mono ?_
          rintro e w1 ⟨rfl, hb1⟩
          go_wp2_with fail
          refine (hC2 _).mono ?_
          rintro e w2 ⟨rfl, hb2⟩
          go_wp2_with (first
            | (go_at_call 35; refine (hN _).mono ?_; rintro e w3 ⟨rfl, hb3⟩)
            | (go_at_call 36; refine (hT _).mono ?_; rintro e w4 ⟨rfl, hb4⟩))
          go_returns
          exact ⟨rfl, ((hb1.trans hb2).trans hb3).trans hb4⟩
      · have hs2 : (N / 4294967296 != 0) = true := by simp; omega
        rw [if_neg (fun h => hr h.1.2)]
        go_enter Tryd.func12, Tryd.ntmps12
        go_wp2_with fail
        refine hC.mono ?_
        rintro e w1 ⟨rfl, hb1⟩
        go_wp2_with fail
        refine (hC2 _).mono ?_
        rintro e w2 ⟨rfl, hb2⟩
        go_wp2_with (first
          | (go_at_call 35; refine (hN _).mono ?_; rintro e w3 ⟨rfl, hb3⟩))
        go_returns
        exact ⟨rfl, (hb1.trans hb2).trans hb3⟩
  · rw [Asm.lineW_no hw]
    have hP := fun w2 (hb : Bw w w2) => parse_c l w2 hl (ht.bw hb) (hn.bw hb)
    have hq : (Asm.word l == [119, 111, 114, 100]) = false := by simpa [Asm.wordName] using hw
    generalize Asm.parse (Asm.tok l) = R at *
    unfold Rv.iv at hP
    generalize Asm.word l = wd at *
    clear hw
    go_enter Tryd.func12, Tryd.ntmps12
    go_wp2_with (first
      | (go_at_call 34; refine hC.mono ?_; rintro e w1 ⟨rfl, hb1⟩)
      | (go_at_call 19; refine (hP _ hb1).mono ?_; rintro e w2 ⟨rfl, hb2⟩))
    go_returns
    exact ⟨rfl, (hb1.trans hb2).alloc _⟩
end Go.Proofs.YtllgkofibkobnaaDoor
