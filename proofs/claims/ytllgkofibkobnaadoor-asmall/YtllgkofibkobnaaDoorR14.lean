/- LAYER 6's walks: All. · LAYER 6: the document's All (the reference's Assemble), by what its Parse answers. -/
import Derived.Test.YtllgkofibkobnaaDoorR13
import Derived.Test.YtllgkofibkobnaaDoorR8
import Derived.Test.YtllgkofibkobnaaDoorR6
namespace Go.Proofs.YtllgkofibkobnaaDoor
open Go.ChangeShapes Go.WideShapes Go.ChangeAt Go.RowKit

theorem Asm.runL_skip {n : Int} {t : List UInt8} {acc : List Int} (h : t ≠ []) (hs : Asm.tok (Asm.upto 35 (Asm.upto 10 t)) = []) : Asm.runL n (Asm.lines t) acc = Asm.runL (n + 1) (Asm.lines (Asm.past 10 t)) acc := by
  rw [Asm.lines_cut h, Asm.runL, if_pos hs]
theorem Asm.runL_bad {n : Int} {t : List UInt8} {acc : List Int} (h : t ≠ []) (hs : Asm.tok (Asm.upto 35 (Asm.upto 10 t)) ≠ []) (he : (Asm.lineW (Asm.tok (Asm.upto 35 (Asm.upto 10 t)))).2 ≠ 0) :
    Asm.runL n (Asm.lines t) acc = ([], n, (Asm.lineW (Asm.tok (Asm.upto 35 (Asm.upto 10 t)))).2) := by
  rw [Asm.lines_cut h, Asm.runL, if_neg hs, if_neg he]
theorem Asm.runL_good {n : Int} {t : List UInt8} {acc : List Int} (h : t ≠ []) (hs : Asm.tok (Asm.upto 35 (Asm.upto 10 t)) ≠ []) (he : (Asm.lineW (Asm.tok (Asm.upto 35 (Asm.upto 10 t)))).2 = 0) :
    Asm.runL n (Asm.lines t) acc = Asm.runL (n + 1) (Asm.lines (Asm.past 10 t)) (acc ++ Asm.le4 (Asm.lineW (Asm.tok (Asm.upto 35 (Asm.upto 10 t)))).1) := by
  rw [Asm.lines_cut h, Asm.runL, if_neg hs, if_pos he]
theorem Asm.ret_vii {v : Value} {a b c d : Int} (h : a = b) (h2 : c = d) : Ending.returned (.tuple #[v, .int .i64 a, .int .i64 c]) = .returned (.tuple #[v, .int .i64 b, .int .i64 d]) := by rw [h, h2]
set_option maxHeartbeats 2000000 in
set_option maxRecDepth 100000 in
theorem All_c (l : List UInt8) (w : World) (hl : l.length < 4294967281) (ht : Tabs w) (hn : NTab w) :
    Calls Tryd.prog 5 #[.string (bs l)] w fun e w' => ∃ v, e = .returned (.tuple #[v, .int .i64 (Asm.all l).2.1, .int .i64 (Asm.all l).2.2]) ∧ Own8 w w' v (Asm.all l).1 ∧ Bw w w' := by
  by_cases h1 : 16384 < l.length
  · have h1i : (16384 : Int) < l.length := by omega
    have e : Asm.all l = ([], 0, 2) := by unfold Asm.all; rw [if_pos (Or.inl h1)]
    rw [e]
    go_enter Tryd.func5, Tryd.ntmps5
    go_wp2
    go_returns
    exact ⟨_, rfl, Own8.nil _ _, Bw.refl _⟩
  have hK := countLines_c l w (by omega)
  have h1i : (l.length : Int) ≤ 16384 := by omega
  by_cases h2 : 400 < Asm.count l
  · have h2i : (400 : Int) < Asm.count l := by omega
    have e : Asm.all l = ([], 0, 2) := by unfold Asm.all; rw [if_pos (Or.inr h2)]
    rw [e]
    go_enter Tryd.func5, Tryd.ntmps5
    go_wp2_with (go_at_call 9; refine hK.mono ?_; rintro e w' ⟨rfl, rfl⟩)
    go_returns
    exact ⟨_, rfl, Own8.nil _ _, Bw.refl _⟩
  have h2i : (Asm.count l : Int) ≤ 400 := by omega
  have e : Asm.all l = Asm.runL 1 (Asm.lines l) [] := by unfold Asm.all; rw [if_neg (by omega)]
  rw [e]
  have HR : Hid (Asm.runL 1 (Asm.lines l) [] = Asm.runL 1 (Asm.lines l) []) := rfl
  generalize hRR : Asm.runL 1 (Asm.lines l) [] = R at *
  have HR2 : Hid (Asm.runL 1 (Asm.lines l) [] = R) := hRR
  clear HR hRR e h1 h2
  go_enter Tryd.func5, Tryd.ntmps5
  go_wp2_with (go_at_call 9; refine hK.mono ?_; rintro e w' ⟨rfl, rfl⟩)
  go_loopg [0, 5, 6] l.length (fun g t v n wr => ∃ tj : List UInt8, ∃ acc : List Int, ∃ k : Nat, tj.length = g ∧ t = .string (bs tj) ∧ n = .int .i64 k ∧ 1 ≤ k ∧ k + tj.length ≤ 16385 ∧ acc.length ≤ 4 * k ∧ Own8 w' wr v acc ∧ Bw w' wr ∧ Asm.runL k (Asm.lines tj) acc = R)
  case atStart => exact ⟨l, [], 1, rfl, rfl, rfl, by omega, by omega, by simp, Own8.nil _ _, Bw.refl _, HR2⟩
  case round =>
    obtain ⟨tj, acc, k, hg, rfl, rfl, k0, k1, ha, hown, hbw, hrun⟩ := hrel
    have HRun : Hid _ := hrun
    clear hrun HR2
    by_cases h0 : tj = []
    · subst h0
      have hRe : Hid (R = (acc, 0, 0)) := by show R = _; rw [← (show _ = R from HRun)]; rfl
      go_wp2
      go_returns
      refine ⟨_, Asm.ret_vii (by rw [show R = _ from hRe]) (by rw [show R = _ from hRe]), ?_, hbw⟩
      rw [show R = _ from hRe]; exact hown
    · have hem : tj.isEmpty = false := by simpa using h0
      have hC1 := Cut_c tj 10 wr (by omega)
      have hu1 := Asm.upto_le 10 tj
      have hu2 := Asm.upto_le 35 (Asm.upto 10 tj)
      have hC2 := fun w => Cut_c (Asm.upto 10 tj) 35 w (by omega)
      have hT := fun w => Trim_c (Asm.upto 35 (Asm.upto 10 tj)) w (by omega)
      have hpl := Asm.past_lt 10 h0
      have hLW := fun w2 (h : Bw w' w2) => lineWord_c (Asm.upto 35 (Asm.upto 10 tj)) w2 (by omega) (ht.bw h) (hn.bw h)
      have hLb := Asm.lineW_bd (Asm.tok (Asm.upto 35 (Asm.upto 10 tj)))
      have hS : Hid _ := fun hs => Asm.runL_skip (n := (k : Int)) (acc := acc) h0 hs
      have hB : Hid _ := fun hs he => Asm.runL_bad (n := (k : Int)) (acc := acc) h0 hs he
      have hG : Hid _ := fun hs he => Asm.runL_good (n := (k : Int)) (acc := acc) h0 hs he
      rw [show _ = R from HRun] at hS hB hG
      generalize Asm.upto 35 (Asm.upto 10 tj) = s at *
      generalize Asm.upto 10 tj = s1 at *
      generalize Asm.past 10 tj = t2 at *
      by_cases hte : Asm.tok s = []
      · have hskip : Hid _ := hS hte
        rw [hte] at hT
        clear hS hB hG hLW hLb hte h0
        go_wp2_with fail
        refine hC1.mono ?_
        rintro e w1 ⟨b1, rfl, hb1⟩
        go_wp2_with fail
        refine (hC2 _).mono ?_
        rintro e w2 ⟨b2, rfl, hb2⟩
        go_wp2_with fail
        refine (hT _).mono ?_
        rintro e w3 ⟨t3, rfl, ht3, hb3⟩
        have ht3' : t3.isEmpty = true := ht3
        have hb := (hb1.trans hb2).trans hb3
        go_wp2_with fail
        go_roundg t2.length
        case measure => omega
        case rel => exact ⟨t2, acc, k + 1, rfl, rfl, by simp, by omega, by omega, by omega, hown.bw hb, hbw.trans hb, (show R = _ from hskip).symm⟩
      · have hT' : ∀ w, Calls Tryd.prog 11 #[.string (bs s), .string ⟨#[32, 9]⟩] w fun e w' => ∃ t : List UInt8, e = .returned (.string (bs t)) ∧ t.isEmpty = false ∧ Bw w w' := fun w => (hT w).mono (by
          rintro e w' ⟨t, rfl, he, hb⟩
          exact ⟨t, rfl, by rw [he]; simpa using hte, hb⟩)
        by_cases hE : (Asm.lineW (Asm.tok s)).2 = 0
        · have hgood : Hid _ := hG hte hE
          rw [hE] at hLW
          generalize (Asm.lineW (Asm.tok s)).1 = W at *
          obtain ⟨W0, W1⟩ := hLb
          clear hS hB hG hT hte h0 hE
          go_wp2_with fail
          refine hC1.mono ?_
          rintro e w1 ⟨b1, rfl, hb1⟩
          go_wp2_with fail
          refine (hC2 _).mono ?_
          rintro e w2 ⟨b2, rfl, hb2⟩
          go_wp2_with fail
          refine (hT' _).mono ?_
          rintro e w3 ⟨t3, rfl, ht3, hb3⟩
          have hb := (hb1.trans hb2).trans hb3
          go_wp2_with fail
          refine (hLW _ (hbw.trans hb)).mono ?_
          rintro e w4 ⟨rfl, hb4⟩
          have hown4 := hown.bw (hb.trans hb4)
          obtain ⟨v', w5, hrun, hown5, hbw5⟩ := app8 hown4 ((hbw.trans hb).trans hb4) (Asm.le4 W) (by simp [Asm.le4]; omega) 4
          have hrun2 : (Builtin.append_ #[23, 23] 23 #[u5, .slice (some ⟨w4.heap.size, 0, none⟩) 4 4]).run Tryd.prog (w4.alloc (.cells #[.int .u8 (W % 256), .int .u8 (W / 256 % 256), .int .u8 (W / 65536 % 256), .int .u8 (W / 16777216)] 5)) = .ok v' w5 := hrun
          clear hrun
          go_wp2_with (first | (at_builtin; refine wpApp rfl _ _ 23 rfl rfl rfl hrun2 ?_) | go_in)
          go_roundg t2.length
          case measure => omega
          case rel => exact ⟨t2, acc ++ Asm.le4 W, k + 1, rfl, rfl, by simp, by omega, by omega, by simp [Asm.le4]; omega, hown5, hbw5, (show R = _ from hgood).symm⟩
        · have hbad : Hid _ := hB hte hE
          have hEb : ((Asm.lineW (Asm.tok s)).2 != 0) = true := by simpa using hE
          generalize (Asm.lineW (Asm.tok s)).2 = E at *
          clear hS hB hG hT hte h0 hE
          go_wp2_with fail
          refine hC1.mono ?_
          rintro e w1 ⟨b1, rfl, hb1⟩
          go_wp2_with fail
          refine (hC2 _).mono ?_
          rintro e w2 ⟨b2, rfl, hb2⟩
          go_wp2_with fail
          refine (hT' _).mono ?_
          rintro e w3 ⟨t3, rfl, ht3, hb3⟩
          have hb := (hb1.trans hb2).trans hb3
          go_wp2_with fail
          refine (hLW _ (hbw.trans hb)).mono ?_
          rintro e w4 ⟨rfl, hb4⟩
          go_wp2_with fail
          go_returns
          refine ⟨_, Asm.ret_vii (by rw [show R = _ from hbad]) (by rw [show R = _ from hbad]), ?_, (hbw.trans hb).trans hb4⟩
          rw [show R = _ from hbad]; exact Own8.nil _ _
end Go.Proofs.YtllgkofibkobnaaDoor
namespace Go.Proofs.YtllgkofibkobnaaDoor
open Go.ChangeShapes Go.WideShapes Go.ChangeAt Go.RowKit

/-- Lines that are cut already. -/
def Asm.runR : Int → List (List UInt8) → List Int → List Int × Int × Int
  | _, [], acc => (acc, 0, 0)
  | n, s :: ls, acc =>
    if Asm.tok s = [] then Asm.runR (n + 1) ls acc
    else if (Asm.lineW (Asm.tok s)).2 = 0 then Asm.runR (n + 1) ls (acc ++ Asm.le4 (Asm.lineW (Asm.tok s)).1)
    else ([], n, (Asm.lineW (Asm.tok s)).2)
theorem Asm.upto_free {cur : List UInt8} (h : cur.any (· == 35) = false) (l : List UInt8) : Asm.upto 35 (cur ++ l) = cur ++ Asm.upto 35 l := by
  induction cur with
  | nil => rfl
  | cons a t ih =>
    simp only [List.any_cons, Bool.or_eq_false_iff] at h
    have ha : (a != 35) = true := by simp only [bne, h.1]; rfl
    have := ih h.2
    unfold Asm.upto at this ⊢
    simp [ha, this]
theorem Asm.upto_has {cur : List UInt8} (h : cur.any (· == 35) = true) (l : List UInt8) : Asm.upto 35 (cur ++ l) = Asm.upto 35 cur := by
  induction cur with
  | nil => simp at h
  | cons a t ih =>
    by_cases ha : a = 35
    · subst ha; simp [Asm.upto]
    · have ha2 : (a != 35) = true := by simpa using ha
      have ha3 : (a == 35) = false := by simpa using ha
      simp only [List.any_cons, ha3, Bool.false_or] at h
      have := ih h
      unfold Asm.upto at this ⊢
      simp [ha2, this]
theorem Asm.RL_run (s : List UInt8) : ∀ (cur : List UInt8) (n : Int) (acc : List Int), Asm.runR n (Asm.RL (Asm.upto 35 cur) (cur.any (· == 35)) s) acc = Asm.runL n (Asm.linesA cur s) acc := by
  induction s with
  | nil =>
    intro cur n acc
    rw [Asm.RL, Asm.linesA]
    by_cases hc : cur = []
    · subst hc; simp [Asm.runR, Asm.upto, Asm.fin, Asm.runL, Asm.tok, Asm.tokA]
    · rw [Asm.fin_ne hc]; simp only [Asm.runR, Asm.runL]
  | cons c s ih =>
    intro cur n acc
    rw [Asm.RL, Asm.linesA]
    by_cases h10 : c = 10
    · rw [if_pos h10, if_pos h10]
      have h0 := fun n acc => ih [] n acc
      simp only [List.any_nil, show Asm.upto 35 [] = [] from rfl] at h0
      simp only [Asm.runR, Asm.runL, h0]
    · rw [if_neg h10, if_neg h10, ← ih (cur ++ [c]) n acc]
      cases hg : cur.any (· == 35)
      · by_cases h35 : c = 35
        · subst h35
          rw [if_pos (by rfl), Asm.upto_free hg]
          have h := Asm.upto_free hg []
          rw [List.append_nil] at h
          rw [h]
          simp [hg, Asm.upto]
        · have h35b : (c == 35) = false := by simpa using h35
          have h35c : (c != 35) = true := by simpa using h35
          rw [if_neg (by simp [h35b]), Asm.upto_free hg]
          have h := Asm.upto_free hg []
          rw [List.append_nil] at h
          rw [h]
          simp [Asm.upto, h35c, hg, h35b]
      · rw [if_pos (by simp), Asm.upto_has hg]
        simp [hg]
theorem Asm.RL_all (s : List UInt8) : Asm.runR 1 (Asm.RL [] false s) [] = Asm.runL 1 (Asm.lines s) [] := Asm.RL_run s [] 1 []
theorem Asm.RL_len (s : List UInt8) : ∀ cur g, (Asm.RL cur g s).length ≤ s.length + 1 := by
  induction s with
  | nil => intro cur g; simp [Asm.RL]
  | cons c s ih =>
    intro cur g
    have h1 := ih [] false
    have h2 := ih cur true
    have h3 := ih (cur ++ [c]) false
    rw [Asm.RL]; split
    · simp; omega
    · split <;> simp <;> omega
theorem Asm.RL_each (s : List UInt8) : ∀ cur g, ∀ t ∈ Asm.RL cur g s, t.length ≤ cur.length + s.length := by
  induction s with
  | nil => intro cur g t ht; simp [Asm.RL] at ht; subst ht; simp
  | cons c s ih =>
    intro cur g t ht
    rw [Asm.RL] at ht
    split at ht
    · rcases List.mem_cons.1 ht with rfl | ht
      · simp
      · have := ih _ _ t ht; simp at this ⊢; omega
    · split at ht
      · have := ih _ _ t ht; simp at this ⊢; omega
      · have := ih _ _ t ht; simp at this ⊢; omega
theorem Asm.parts_imm : ∀ (P : List UInt8) (ts : List (List UInt8)) (i : Rv.Ins) (f : Bool) (x : Rv.Ins × Bool), Asm.parts P ts i f = some x → (-2147483648 ≤ i.imm ∧ i.imm < 2147483648) → -2147483648 ≤ x.1.imm ∧ x.1.imm < 2147483648 := by
  intro P
  induction P with
  | nil => intro ts i f x h hi; rw [Asm.parts_end] at h; split at h <;> simp at h; subst h; exact hi
  | cons p P ih =>
    intro ts i f x h hi
    cases ts with
    | nil => simp [Asm.parts] at h
    | cons t ts =>
      rw [Asm.parts] at h
      split at h
      · split at h
        · exact ih _ _ _ _ h hi
        · simp at h
      · cases hp : Asm.part p t i with
        | none => rw [hp] at h; simp at h
        | some y => rw [hp] at h; exact ih _ _ _ _ h (Asm.part_imm (j := y.1) (h := y.2) hp hi)
theorem Asm.parse_imm (ts : List (List UInt8)) : -2147483648 ≤ (Asm.parse ts).1.imm ∧ (Asm.parse ts).1.imm < 2147483648 := by
  cases ts with
  | nil => decide
  | cons n ts =>
    rw [Asm.parse]
    split
    · decide
    · unfold Asm.behind
      split
      · decide
      · rename_i x hx
        unfold Asm.fine
        split
        · exact Asm.parts_imm _ _ _ _ _ hx (by dsimp only; omega)
        · decide
/-- 'word N' by digits alone. -/
theorem Asm.word_digits (t : List UInt8) : (if Asm.numOk t = true ∧ 0 ≤ Asm.num t ∧ Asm.num t < 4294967296 then (Asm.num t, (0 : Int)) else (0, 7)) = if Asm.digOk t = true ∧ Asm.dig t < 4294967296 then (Asm.dig t, 0) else (0, 7) := by
  unfold Asm.numOk Asm.num
  by_cases h : t.head? = some 45
  · have hd : Asm.digOk t = false := by
      cases t with
      | nil => simp at h
      | cons a t => simp at h; subst h; simp [Asm.digOk, Asm.isD]
    have hz := (Asm.dig_bd t.tail).1
    simp only [if_pos h, hd]
    rw [if_neg, if_neg (by simp)]
    intro ⟨a, b, _⟩
    simp at a
    omega
  · simp only [if_neg h]
    have hz := (Asm.dig_bd t).1
    by_cases hd : Asm.digOk t = true ∧ Asm.dig t < 4294967296
    · rw [if_pos ⟨hd.1, hz, hd.2⟩, if_pos hd]
    · rw [if_neg (fun x => hd ⟨x.1, x.2.2⟩), if_neg hd]
/-- What the reference's Parse is to answer. -/
def RParse : Prop := ∀ (s : List UInt8) (w : World), s.length ≤ 16384 → Calls Tryd.prog 17 #[.string (bs s)] w fun e w' => e = .returned (.tuple #[Rv.iv (Asm.parse (Asm.tok s)).1, .int .i64 (Asm.parse (Asm.tok s)).2]) ∧ Bw w w'
theorem Asm.runR_skip {n : Int} {t : List UInt8} {ls : List (List UInt8)} {acc : List Int} (hs : Asm.tok t = []) : Asm.runR n (t :: ls) acc = Asm.runR (n + 1) ls acc := by
  rw [Asm.runR, if_pos hs]
theorem Asm.runR_bad {n : Int} {t : List UInt8} {ls : List (List UInt8)} {acc : List Int} (hs : Asm.tok t ≠ []) (he : (Asm.lineW (Asm.tok t)).2 ≠ 0) : Asm.runR n (t :: ls) acc = ([], n, (Asm.lineW (Asm.tok t)).2) := by
  rw [Asm.runR, if_neg hs, if_neg he]
theorem Asm.runR_good {n : Int} {t : List UInt8} {ls : List (List UInt8)} {acc : List Int} (hs : Asm.tok t ≠ []) (he : (Asm.lineW (Asm.tok t)).2 = 0) : Asm.runR n (t :: ls) acc = Asm.runR (n + 1) ls (acc ++ Asm.le4 (Asm.lineW (Asm.tok t)).1) := by
  rw [Asm.runR, if_neg hs, if_pos he]
theorem Asm.tok_each (s : List UInt8) : ∀ cur, ∀ t ∈ Asm.tokA cur s, t.length ≤ cur.length + s.length := by
  have hf : ∀ (cur t : List UInt8), t ∈ Asm.fin cur → t.length ≤ cur.length := by
    intro cur t ht; unfold Asm.fin at ht; split at ht <;> simp at ht; subst ht; exact Nat.le_refl _
  induction s with
  | nil => intro cur t ht; exact Nat.le_trans (hf cur t ht) (by omega)
  | cons c s ih =>
    intro cur t ht
    rw [Asm.tokA] at ht
    split at ht
    · rcases List.mem_append.1 ht with h | h
      · have := hf _ _ h; omega
      · have := ih _ t h; simp at this ⊢; omega
    · split at ht
      · rcases List.mem_append.1 ht with h | h
        · have := hf _ _ h; omega
        · rcases List.mem_cons.1 h with rfl | h
          · simp; omega
          · have := ih _ t h; simp at this ⊢; omega
      · have := ih _ t ht; simp at this ⊢; omega
theorem Own8.from {w00 w0 w : World} {v : Value} {l : List Int} (h : Own8 w0 w v l) (hs : w00.heap.size ≤ w0.heap.size) : Own8 w00 w v l := by
  obtain ⟨h1, h2⟩ := h
  refine ⟨h1, ?_⟩
  rcases h2 with h2 | ⟨b, cap, cur, h3, h4, h5⟩
  · exact Or.inl h2
  · exact Or.inr ⟨b, cap, cur, h3, Nat.le_trans hs h4, h5⟩
theorem Asm.lineW_w (rest : List (List UInt8)) : Asm.lineW (Asm.wordName :: rest) = Asm.plainW rest := by unfold Asm.lineW; rw [if_pos (by rfl)]; rfl
theorem Asm.lineW_i {h : List UInt8} (rest : List (List UInt8)) (hh : h ≠ Asm.wordName) : Asm.lineW (h :: rest) = (Asm.wrd (Asm.parse (h :: rest)), (Asm.parse (h :: rest)).2) := by unfold Asm.lineW; rw [if_neg (by simpa using hh)]
theorem Asm.plainW_one (x : List UInt8) : Asm.plainW [x] = if Asm.digOk x = true ∧ Asm.dig x < 4294967296 then (Asm.dig x, 0) else (0, 7) := by rw [← Asm.word_digits]; rfl
theorem Asm.plainW_not {rest : List (List UInt8)} (h : rest.length ≠ 1) : Asm.plainW rest = (0, 7) := by
  rcases rest with _ | ⟨a, _ | ⟨b, r⟩⟩
  · rfl
  · simp at h
  · rfl
set_option maxHeartbeats 4000000 in
set_option maxRecDepth 100000 in
theorem rAssemble_c (HP : RParse) (l : List UInt8) (w : World) (hl : l.length ≤ 16384) :
    Calls Tryd.prog 6 #[.string (bs l)] w fun e w' => ∃ v, e = .returned (.tuple #[v, .int .i64 (Asm.all l).2.1, .int .i64 (Asm.all l).2.2]) ∧ Own8 w w' v (Asm.all l).1 ∧ Bw w w' := by
  have hK := rCount_c l w (by omega)
  have h1i : (l.length : Int) ≤ 16384 := by omega
  by_cases h2 : 400 < Asm.count l
  · have h2i : (400 : Int) < Asm.count l := by omega
    have e : Asm.all l = ([], 0, 2) := by unfold Asm.all; rw [if_pos (Or.inr h2)]
    rw [e]
    go_enter Tryd.func6, Tryd.ntmps6
    go_wp2_with (go_at_call 13; refine hK.mono ?_; rintro e w' ⟨rfl, rfl⟩)
    go_returns
    exact ⟨_, rfl, Own8.nil _ _, Bw.refl _⟩
  have h2i : (Asm.count l : Int) ≤ 400 := by omega
  have e : Asm.all l = Asm.runR 1 (Asm.RL [] false l) [] := by unfold Asm.all; rw [if_neg (by omega), Asm.RL_all]
  rw [e]
  have hLn := rLines_c l w (by omega)
  have hLl := Asm.RL_len l [] false
  have hLe := Asm.RL_each l [] false
  have HR2 : Hid (Asm.runR 1 (Asm.RL [] false l) [] = Asm.runR 1 (Asm.RL [] false l) []) := rfl
  generalize hRR : Asm.runR 1 (Asm.RL [] false l) [] = R at *
  have HR3 : Hid (Asm.runR 1 (Asm.RL [] false l) [] = R) := hRR
  clear HR2 hRR e h2
  generalize Asm.RL [] false l = L at *
  have HLe : Hid _ := hLe
  clear hLe
  go_enter Tryd.func6, Tryd.ntmps6
  go_wp2_with (go_at_call 13; refine hK.mono ?_; rintro e w' ⟨rfl, rfl⟩)
  refine hLn.mono ?_
  rintro e w2 ⟨v, rfl, hO, hB2⟩
  obtain ⟨q, cap, rfl, hcap, hcm, hcells⟩ := hO.at
  clear hLn hK
  go_wp2_with fail
  go_loopg [6, 7] L.length (fun g v n wr => ∃ acc : List Int, ∃ k : Nat, k + g = L.length ∧ n = .int .i64 k ∧ acc.length ≤ 4 * k ∧ Own8 w2 wr v acc ∧ Bw w2 wr ∧ Asm.runR (k + 1) (L.drop k) acc = R)
  case atStart => exact ⟨[], 0, by omega, rfl, by simp, Own8.nil _ _, Bw.refl _, HR3⟩
  case round =>
    obtain ⟨acc, k, hkg, rfl, ha, hown, hbw, hrun⟩ := hrel
    have HRun : Hid _ := hrun
    clear hrun HR3
    by_cases hkL : k = L.length
    · have hlt : ¬ ((k : Int) < (L.length : Int)) := by omega
      have hRe : Hid (R = (acc, 0, 0)) := by show R = _; rw [← (show _ = R from HRun), hkL, List.drop_length]; rfl
      clear HRun hcells hkL
      go_wp2_with fail
      go_returns
      refine ⟨_, Asm.ret_vii (by rw [show R = _ from hRe]) (by rw [show R = _ from hRe]), ?_, hB2.trans hbw⟩
      rw [show R = _ from hRe]; exact hown.from hB2.size
    · have hkl : k < L.length := by omega
      have hlt : (k : Int) < (L.length : Int) := by omega
      obtain ⟨b, rfl, hb1, hb2, hcl⟩ := hcells (by omega)
      obtain ⟨t, ht⟩ : ∃ t, L[k]? = some t := ⟨L[k], by simp⟩
      have htl : t.length ≤ l.length := by
        have := (show _ from HLe) t (List.mem_of_getElem? ht)
        simpa using this
      have hcw := hbw.keep (hcl k t ht).1
      have hdr : L.drop k = t :: L.drop (k + 1) := by
        rw [List.drop_eq_getElem_cons hkl]
        rw [List.getElem?_eq_getElem hkl] at ht
        rw [Option.some.inj ht]
      rw [hdr] at HRun
      have hTk := rtokens_c t wr (by omega)
      have hPa := fun w => HP t w (by omega)
      have hTe : Hid _ := Asm.tok_each t []
      rw [show Asm.tokA [] t = Asm.tok t from rfl] at hTe
      have hS : Hid _ := fun hs => Asm.runR_skip (n := (k : Int) + 1) (acc := acc) (t := t) (ls := L.drop (k + 1)) hs
      have hBd : Hid _ := fun hs he => Asm.runR_bad (n := (k : Int) + 1) (acc := acc) (t := t) (ls := L.drop (k + 1)) hs he
      have hG : Hid _ := fun hs he => Asm.runR_good (n := (k : Int) + 1) (acc := acc) (t := t) (ls := L.drop (k + 1)) hs he
      rw [show _ = R from HRun] at hS hBd hG
      have hPi := Asm.parse_imm (Asm.tok t)
      have hPg := Asm.parse_good (Asm.tok t)
      clear HRun hdr hkL ht hcl
      generalize Asm.tok t = ts at *
      rcases ts with _ | ⟨hd, rest⟩
      · have hskip : Hid _ := hS rfl
        clear hS hBd hG hPi hPg hPa hTe
        go_wp2_with fail
        refine hTk.mono ?_
        rintro e w3 ⟨v3, rfl, hO3, hb3⟩
        obtain ⟨q3, cap3, rfl, hc3, hm3, -⟩ := hO3.at
        simp only [List.length_nil] at *
        go_wp2_with fail
        go_roundg (L.length - (k + 1))
        case measure => omega
        case rel => exact ⟨acc, k + 1, by omega, by simp, by omega, hown.bw hb3, hbw.trans hb3, (show R = _ from hskip).symm⟩
      · clear hS
        by_cases hw : hd = Asm.wordName
        · subst hw
          rw [Asm.lineW_w] at hBd hG
          clear hPi hPg hPa
          have hq : (Asm.wordName == [119, 111, 114, 100]) = true := by decide
          by_cases h1 : rest.length = 1
          · obtain ⟨x, rfl⟩ : ∃ x, rest = [x] := by
              rcases rest with _ | ⟨a, _ | ⟨b, r⟩⟩
              · simp at h1
              · exact ⟨a, rfl⟩
              · simp at h1
            rw [Asm.plainW_one] at hBd hG
            have hxl : x.length ≤ t.length := by
              have := (show _ from hTe) x (by simp)
              simpa using this
            have hD := fun w => rdigits_c x w (by omega)
            obtain ⟨d0, d1⟩ := Asm.dig_bd x
            clear hTe h1
            generalize Asm.dig x = W at *
            generalize Asm.digOk x = ok at *
            go_wp2_with fail
            refine hTk.mono ?_
            rintro e w3 ⟨v3, rfl, hO3, hb3⟩
            obtain ⟨q3, cap3, rfl, hc3, hm3, hcl3⟩ := hO3.at
            obtain ⟨b3, rfl, -, hbl3, hcc⟩ := hcl3 (by simp)
            have hx0 := (hcc 0 _ rfl).1
            have hx1 := (hcc 1 x rfl).1
            simp only [List.length_cons, List.length_nil] at *
            cases ok
            · rw [if_neg (by simp)] at hBd hG
              have hbad : Hid _ := hBd (by simp) (by simp)
              clear hBd hG
              go_wp2_with fail
              refine (hD _).mono ?_
              rintro e w4 ⟨rfl, rfl⟩
              go_wp2_with fail
              go_returns
              refine ⟨_, Asm.ret_vii (by rw [show R = _ from hbad]) (by rw [show R = _ from hbad]), ?_, hB2.trans (hbw.trans hb3)⟩
              rw [show R = _ from hbad]; exact Own8.nil _ _
            · by_cases hW : W < 4294967296
              · rw [if_pos ⟨rfl, hW⟩] at hBd hG
                have hgood : Hid _ := hG (by simp) rfl
                clear hBd hG
                go_wp2_with fail
                refine (hD _).mono ?_
                rintro e w4 ⟨rfl, rfl⟩
                obtain ⟨v', w5, hrun, hown5, hbw5⟩ := app8 (hown.bw hb3) (hbw.trans hb3) (Asm.le4 W) (by simp [Asm.le4]; omega) 4
                have hrun2 : (Builtin.append_ #[23, 23] 23 #[u6, .slice (some ⟨w4.heap.size, 0, none⟩) 4 4]).run Tryd.prog (w4.alloc (.cells #[.int .u8 (W % 256), .int .u8 (W / 256 % 256), .int .u8 (W / 65536 % 256), .int .u8 (W / 16777216)] 5)) = .ok v' w5 := hrun
                clear hrun
                go_wp2_with (first | (at_builtin; refine wpApp rfl _ _ 23 rfl rfl rfl hrun2 ?_) | go_in)
                go_roundg (L.length - (k + 1))
                case measure => omega
                case rel => exact ⟨acc ++ Asm.le4 W, k + 1, by omega, by simp, by simp [Asm.le4]; omega, hown5, hbw5, (show R = _ from hgood).symm⟩
              · rw [if_neg (fun h => hW h.2)] at hBd hG
                have hbad : Hid _ := hBd (by simp) (by simp)
                clear hBd hG
                go_wp2_with fail
                refine (hD _).mono ?_
                rintro e w4 ⟨rfl, rfl⟩
                go_wp2_with fail
                go_returns
                refine ⟨_, Asm.ret_vii (by rw [show R = _ from hbad]) (by rw [show R = _ from hbad]), ?_, hB2.trans (hbw.trans hb3)⟩
                rw [show R = _ from hbad]; exact Own8.nil _ _
          · rw [Asm.plainW_not h1] at hBd hG
            have hbad : Hid _ := hBd (by simp) (by simp)
            have h1b : (((rest.length : Int) + 1) != 2) = true := by simp; omega
            clear hBd hG hTe
            go_wp2_with fail
            refine hTk.mono ?_
            rintro e w3 ⟨v3, rfl, hO3, hb3⟩
            obtain ⟨q3, cap3, rfl, hc3, hm3, hcl3⟩ := hO3.at
            obtain ⟨b3, rfl, -, hbl3, hcc⟩ := hcl3 (by simp)
            have hx0 := (hcc 0 _ rfl).1
            simp only [List.length_cons] at *
            go_wp2_with fail
            go_returns
            refine ⟨_, Asm.ret_vii (by rw [show R = _ from hbad]) (by rw [show R = _ from hbad]), ?_, hB2.trans (hbw.trans hb3)⟩
            rw [show R = _ from hbad]; exact Own8.nil _ _
        · rw [Asm.lineW_i rest hw] at hBd hG
          have hq : (hd == [119, 111, 114, 100]) = false := by simpa [Asm.wordName] using hw
          have hEn := fun w => rEncode_c (Asm.parse (hd :: rest)).1 hPi w
          clear hTe hw
          unfold Asm.wrd at hBd hG
          generalize Asm.parse (hd :: rest) = PR at *
          obtain ⟨pi, pe⟩ := PR
          dsimp only at *
          by_cases hE : pe = 0
          · subst hE
            rw [if_pos rfl] at hG
            have hgood : Hid _ := hG (by simp) rfl
            have hgd := hPg rfl
            obtain ⟨W0, W1⟩ := Rv.enc_U32 hgd.1
            have hEn2 : ∀ w, Calls Tryd.prog 18 #[Rv.iv pi] w fun e w' => e = .returned (.tuple #[.int .u32 (Rv.enc pi), .bool true]) ∧ Bw w w' := fun w => (hEn w).mono (by
              rintro e w' ⟨x, b, rfl, g, hbi, hv⟩
              obtain rfl := hbi.2 hgd
              rw [hv hgd]; exact ⟨rfl, g.bw⟩)
            generalize Rv.enc pi = W at *
            unfold Rv.iv at hPa hEn2
            clear hBd hG hPg hEn hgd
            go_wp2_with fail
            refine hTk.mono ?_
            rintro e w3 ⟨v3, rfl, hO3, hb3⟩
            obtain ⟨q3, cap3, rfl, hc3, hm3, hcl3⟩ := hO3.at
            obtain ⟨b3, rfl, -, hbl3, hcc⟩ := hcl3 (by simp)
            have hx0 := (hcc 0 _ rfl).1
            have hcw3 := hb3.keep hcw
            simp only [List.length_cons] at *
            go_wp2_with fail
            refine (hPa _).mono ?_
            rintro e w4 ⟨rfl, hb4⟩
            go_wp2_with fail
            refine (hEn2 _).mono ?_
            rintro e w6 ⟨rfl, hb6⟩
            have hbb := (hb3.trans (hb4.alloc _)).trans hb6
            obtain ⟨v', w5, hrun, hown5, hbw5⟩ := app8 (hown.bw hbb) (hbw.trans hbb) (Asm.le4 W) (by simp [Asm.le4]; omega) 4
            have hrun2 : (Builtin.append_ #[23, 23] 23 #[u6, .slice (some ⟨w6.heap.size, 0, none⟩) 4 4]).run Tryd.prog (w6.alloc (.cells #[.int .u8 (W % 256), .int .u8 (W / 256 % 256), .int .u8 (W / 65536 % 256), .int .u8 (W / 16777216)] 5)) = .ok v' w5 := hrun
            clear hrun
            go_wp2_with (first | (at_builtin; refine wpApp rfl _ _ 23 rfl rfl rfl hrun2 ?_) | go_in)
            go_roundg (L.length - (k + 1))
            case measure => omega
            case rel => exact ⟨acc ++ Asm.le4 W, k + 1, by omega, by simp, by simp [Asm.le4]; omega, hown5, hbw5, (show R = _ from hgood).symm⟩
          · have hbad : Hid _ := hBd (by simp) hE
            have hEb : (pe != 0) = true := by simpa using hE
            unfold Rv.iv at hPa
            clear hBd hG hPg hEn
            go_wp2_with fail
            refine hTk.mono ?_
            rintro e w3 ⟨v3, rfl, hO3, hb3⟩
            obtain ⟨q3, cap3, rfl, hc3, hm3, hcl3⟩ := hO3.at
            obtain ⟨b3, rfl, -, hbl3, hcc⟩ := hcl3 (by simp)
            have hx0 := (hcc 0 _ rfl).1
            have hcw3 := hb3.keep hcw
            simp only [List.length_cons] at *
            go_wp2_with fail
            refine (hPa _).mono ?_
            rintro e w4 ⟨rfl, hb4⟩
            go_wp2_with fail
            go_returns
            refine ⟨_, Asm.ret_vii (by rw [show R = _ from hbad]) (by rw [show R = _ from hbad]), ?_, hB2.trans (hbw.trans (hb3.trans (hb4.alloc _)))⟩
            rw [show R = _ from hbad]; exact Own8.nil _ _
end Go.Proofs.YtllgkofibkobnaaDoor
