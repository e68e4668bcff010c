/- PLAIN MATHEMATICS OF LAYER 8: an image is read back; cut off it is none; its bytes may stand anywhere. -/
import Derived.Test.YtaejcbmmapcpgaaImg
namespace Go.Proofs.Ytaejcbmmapcpgaa.Img

theorem g_cut {B : List Int} {i n j : Nat} (h : j < n) : g (cut B i n) j = g B (i + j) := by
  unfold g cut
  rw [List.getD_eq_getElem?_getD, List.getD_eq_getElem?_getD, List.getElem?_take, if_pos h, List.getElem?_drop]
theorem half_cut {B : List Int} {i n j : Nat} (h : j + 1 < n) : half (cut B i n) j = half B (i + j) := by
  unfold half; rw [g_cut (by omega), g_cut h, Nat.add_assoc]
theorem word_cut {B : List Int} {i n j : Nat} (h : j + 3 < n) : word (cut B i n) j = word B (i + j) := by
  unfold word; rw [half_cut (by omega), half_cut (by omega), Nat.add_assoc]
theorem g_left {A X : List Int} {j : Nat} (h : j < A.length) : g (A ++ X) j = g A j := by
  unfold g; rw [List.getD_eq_getElem?_getD, List.getD_eq_getElem?_getD, List.getElem?_append_left h]
theorem half_left {A X : List Int} {j : Nat} (h : j + 1 < A.length) : half (A ++ X) j = half A j := by
  unfold half; rw [g_left (by omega), g_left h]
theorem word_left {A X : List Int} {j : Nat} (h : j + 3 < A.length) : word (A ++ X) j = word A j := by
  unfold word; rw [half_left (by omega), half_left (by omega)]
theorem cut_left {A X : List Int} {i n : Nat} (h : i + n ≤ A.length) : cut (A ++ X) i n = cut A i n := by
  unfold cut
  rw [List.drop_append_of_le_length (by omega), List.take_append_of_le_length (by rw [List.length_drop]; omega)]
theorem cut_right {A X : List Int} {i n : Nat} (h : A.length ≤ i) : cut (A ++ X) i n = cut X (i - A.length) n := by
  unfold cut
  rw [List.drop_append, List.drop_of_length_le h, List.nil_append]
theorem cut_all {A X : List Int} : cut (A ++ X) 0 A.length = A := by unfold cut; simp
theorem cut_take {B : List Int} {i n m : Nat} (h : i + n ≤ m) : cut (B.take m) i n = cut B i n := by
  unfold cut
  rw [List.drop_take, List.take_take, Nat.min_eq_left (by omega)]
theorem head_word {e c : Int} : word (head e c) 24 = e := by
  simp only [word, half, g, head, le4, le2, List.cons_append, List.nil_append, List.getD_cons_succ, List.getD_cons_zero]; omega
theorem head_half {e c : Int} : half (head e c) 44 = c := by
  simp only [half, g, head, le4, le2, List.cons_append, List.nil_append, List.getD_cons_succ, List.getD_cons_zero]; omega
theorem row_4 {p a c z m : Int} : word (row p a c z m) 4 = p := by
  simp only [word, half, g, row, le4, List.cons_append, List.nil_append, List.getD_cons_succ, List.getD_cons_zero]; omega
theorem row_8 {p a c z m : Int} : word (row p a c z m) 8 = a := by
  simp only [word, half, g, row, le4, List.cons_append, List.nil_append, List.getD_cons_succ, List.getD_cons_zero]; omega
theorem row_16 {p a c z m : Int} : word (row p a c z m) 16 = c := by
  simp only [word, half, g, row, le4, List.cons_append, List.nil_append, List.getD_cons_succ, List.getD_cons_zero]; omega
theorem row_20 {p a c z m : Int} : word (row p a c z m) 20 = z := by
  simp only [word, half, g, row, le4, List.cons_append, List.nil_append, List.getD_cons_succ, List.getD_cons_zero]; omega
theorem row_24 {p a c z m : Int} : word (row p a c z m) 24 = m := by
  simp only [word, half, g, row, le4, List.cons_append, List.nil_append, List.getD_cons_succ, List.getD_cons_zero]; omega
theorem segOk_all {s : Seg} (h : segOk s = true) : s.addr % 256 = 0 ∧ s.size ≠ 0 ∧ (s.bytes.length : Int) ≤ s.size ∧ fin s ≤ 4294967296 ∧ 0 ≤ s.perm ∧ s.perm ≤ 7 := by
  unfold segOk at h
  simp only [Bool.and_eq_true, beq_iff_eq, bne_iff_ne, decide_eq_true_eq] at h
  obtain ⟨⟨⟨⟨⟨a, b⟩, c⟩, d⟩, e⟩, f⟩ := h
  exact ⟨a, b, c, d, e, f⟩
/-- A row that lies in the bytes. -/
theorem segAt_row {B : List Int} {i p : Nat} {s : Seg} (hi : i + 32 ≤ B.length) (hr : cut B i 32 = rowOf p s) (p0 : 0 ≤ s.perm) (p1 : s.perm ≤ 7) :
    segAt B i = if (B.length : Int) < p + s.bytes.length then none else some ⟨s.addr, s.size, s.perm, cut B p s.bytes.length⟩ := by
  have e4 : word B (i + 4) = p := by rw [← word_cut (n := 32) (by omega), hr, rowOf, row_4]
  have e8 : word B (i + 8) = s.addr := by rw [← word_cut (n := 32) (by omega), hr, rowOf, row_8]
  have e16 : word B (i + 16) = s.bytes.length := by rw [← word_cut (n := 32) (by omega), hr, rowOf, row_16]
  have e20 : word B (i + 20) = s.size := by rw [← word_cut (n := 32) (by omega), hr, rowOf, row_20]
  have e24 : word B (i + 24) = swap s.perm := by rw [← word_cut (n := 32) (by omega), hr, rowOf, row_24]
  unfold segAt
  have h7 := (swap_bd (p := s.perm)).2
  rw [e4, e8, e16, e20, e24, hr, if_neg (by omega), if_neg (by omega), if_neg (by simp [rowOf]), swap_swap p0 p1]
  simp
theorem headOk_of {B X : List Int} {e c : Int} (h : B = head e c ++ X) : headOk B = true := by
  subst h
  unfold headOk
  rw [word_left (by rw [head_len]; omega), half_left (by rw [head_len]; omega), head_word, head_half, cut_left (by rw [head_len]; omega), cut_left (by rw [head_len]; omega)]
  simp [head_len]
theorem word24 {e c : Int} {X : List Int} : word (head e c ++ X) 24 = e := by rw [word_left (by rw [head_len]; omega), head_word]
theorem half44 {e c : Int} {X : List Int} : half (head e c ++ X) 44 = c := by rw [half_left (by rw [head_len]; omega), head_half]
/-- Bytes that are an image. -/
theorem get_of {B X : List Int} {i : Im} (hB : B = head i.entry i.segs.length ++ X) (hl : B.length ≤ 65536) (hg : good i = 0) (h8 : i.segs.length ≤ 8) (hok : i.segs.all segOk = true)
    (hs : ∀ k s, i.segs[k]? = some s → ∃ p : Nat, 52 + k * 32 + 32 ≤ B.length ∧ p + s.bytes.length ≤ B.length ∧ cut B (52 + k * 32) 32 = rowOf p s ∧ cut B p s.bytes.length = s.bytes) : get B = (i, 0) := by
  have hh := headOk_of hB
  have e1 : word B 24 = i.entry := by rw [hB, word24]
  have e2 : half B 44 = i.segs.length := by rw [hB, half44]
  have e3 : segsTo B i.segs.length = some i.segs := by
    rw [segsTo_all (l := i.segs) (fun k s hk => ?_) _ (Nat.le_refl _), List.take_length]
    obtain ⟨p, h1, h2, h3, h4⟩ := hs k s hk
    obtain ⟨_, _, _, _, p0, p1⟩ := segOk_all (List.all_eq_true.1 hok s (List.mem_of_getElem? hk))
    rw [segAt_row h1 h3 p0 p1, if_neg (by omega), h4]
  unfold get
  rw [if_neg (by omega), if_neg (by rw [hh]; decide), e1, e2, if_neg (by omega), Int.toNat_natCast, e3]
  simp only
  rw [if_neg (by simpa using hg)]
theorem lens_take {l : List Seg} {k : Nat} {s : Seg} (h : l[k]? = some s) : lens (l.take k) + s.bytes.length + lens (l.drop (k + 1)) = lens l := by
  have hk := (List.getElem?_eq_some_iff.1 h).1
  have h2 : l = l.take k ++ (s :: l.drop (k + 1)) := by
    rw [← (List.getElem?_eq_some_iff.1 h).2, ← List.drop_eq_getElem_cons hk, List.take_append_drop]
  have h3 := congrArg lens h2
  rw [lens_app, lens] at h3
  omega
theorem split_at {l : List Seg} {k : Nat} {s : Seg} (h : l[k]? = some s) : l = l.take k ++ (s :: l.drop (k + 1)) := by
  have hk := (List.getElem?_eq_some_iff.1 h).1
  rw [← (List.getElem?_eq_some_iff.1 h).2, ← List.drop_eq_getElem_cons hk, List.take_append_drop]
/-- Where a segment's row and its bytes lie. -/
theorem put_row {i : Im} {k : Nat} {s : Seg} (h : i.segs[k]? = some s) : cut (put i) (52 + k * 32) 32 = rowOf (52 + 32 * i.segs.length + lens (i.segs.take k)) s := by
  have hk := (List.getElem?_eq_some_iff.1 h).1
  have e : rows (52 + 32 * i.segs.length) i.segs = rows (52 + 32 * i.segs.length) (i.segs.take k) ++ (rowOf (52 + 32 * i.segs.length + lens (i.segs.take k)) s ++ rows (52 + 32 * i.segs.length + lens (i.segs.take k) + s.bytes.length) (i.segs.drop (k + 1))) := by
    conv => lhs; rw [split_at h]
    rw [rows_app, rows]
    rw [show (i.segs.take k ++ s :: i.segs.drop (k + 1)).length = i.segs.length by rw [← split_at h]]
  unfold put
  rw [e, List.append_assoc, cut_right (by rw [head_len]; omega), head_len, List.append_assoc, cut_right (by rw [rows_len, List.length_take]; omega), rows_len, List.length_take, Nat.min_eq_left (by omega), show 52 + k * 32 - 52 - k * 32 = 0 by omega, List.append_assoc]
  exact cut_all (A := rowOf (52 + 32 * i.segs.length + lens (i.segs.take k)) s)
theorem put_bytes {i : Im} {k : Nat} {s : Seg} (h : i.segs[k]? = some s) : cut (put i) (52 + 32 * i.segs.length + lens (i.segs.take k)) s.bytes.length = s.bytes := by
  have e : data i.segs = data (i.segs.take k) ++ (s.bytes ++ data (i.segs.drop (k + 1))) := by
    conv => lhs; rw [split_at h]
    simp [data]
  unfold put
  have hl : (head i.entry i.segs.length ++ rows (52 + 32 * i.segs.length) i.segs).length = 52 + 32 * i.segs.length := by rw [List.length_append, head_len, rows_len]; omega
  rw [cut_right (by rw [hl]; omega), hl, e, cut_right (by rw [data_len]; omega), data_len, show 52 + 32 * i.segs.length + lens (i.segs.take k) - (52 + 32 * i.segs.length) - lens (i.segs.take k) = 0 by omega, cut_all]
/-- An image is read back. -/
theorem get_put {i : Im} (hg : good i = 0) (h8 : i.segs.length ≤ 8) (hok : i.segs.all segOk = true) (hl : 52 + 32 * i.segs.length + lens i.segs ≤ 65536) : get (put i) = (i, 0) := by
  have hlen := put_len i
  refine get_of (X := rows (52 + 32 * i.segs.length) i.segs ++ data i.segs) (by rw [put, List.append_assoc]) (by omega) hg h8 hok (fun k s hk => ?_)
  have hk' := (List.getElem?_eq_some_iff.1 hk).1
  have := lens_take hk
  exact ⟨52 + 32 * i.segs.length + lens (i.segs.take k), by omega, by omega, put_row hk, put_bytes hk⟩
/-- Cut off anywhere it is none. -/
theorem get_cut {i : Im} (h8 : i.segs.length ≤ 8) (h0 : 0 < i.segs.length) (hok : i.segs.all segOk = true) (hl : 52 + 32 * i.segs.length + lens i.segs ≤ 65536) {m : Nat} (hm : m < (put i).length) : get ((put i).take m) = (none0, 3) := by
  have hlen := put_len i
  have hml : ((put i).take m).length = m := by rw [List.length_take]; omega
  unfold get
  rw [if_neg (by omega)]
  by_cases h52 : m < 52
  · rw [if_pos (by unfold headOk; rw [hml, decide_eq_false (by omega)]; rfl)]
  have hB : (put i).take m = head i.entry i.segs.length ++ (rows (52 + 32 * i.segs.length) i.segs ++ data i.segs).take (m - 52) := by
    rw [put, List.append_assoc, List.take_append, head_len, List.take_of_length_le (by rw [head_len]; omega)]
  have e2 : half ((put i).take m) 44 = i.segs.length := by rw [hB, half44]
  rw [if_neg (by rw [headOk_of hB]; decide), e2, if_neg (by omega), Int.toNat_natCast]
  obtain ⟨s, hs⟩ : ∃ s, i.segs[i.segs.length - 1]? = some s := ⟨_, List.getElem?_eq_getElem (by omega)⟩
  have hn : segAt ((put i).take m) (52 + (i.segs.length - 1) * 32) = none := by
    by_cases hr : m < 52 + (i.segs.length - 1) * 32 + 32
    · unfold segAt; rw [if_pos (by omega)]
    · obtain ⟨_, _, _, _, p0, p1⟩ := segOk_all (List.all_eq_true.1 hok s (List.mem_of_getElem? hs))
      have := lens_take hs
      rw [show i.segs.length - 1 + 1 = i.segs.length by omega, List.drop_length] at this
      simp only [lens] at this
      rw [segAt_row (by omega) (by rw [cut_take (by omega)]; exact put_row hs) p0 p1, if_pos (by omega)]
  rw [segsTo_none hn _ (by omega)]
/-- The bytes of the one segment may stand anywhere. -/
theorem get_moved {e : Int} {s : Seg} {more : List Int} (hg : good ⟨e, [s]⟩ = 0) (hok : segOk s = true) (hl : 84 + more.length + s.bytes.length ≤ 65536) :
    get (head e 1 ++ (rowOf (84 + more.length) s ++ (more ++ s.bytes))) = (⟨e, [s]⟩, 0) := by
  have hlen : (head e 1 ++ (rowOf (84 + more.length) s ++ (more ++ s.bytes))).length = 84 + more.length + s.bytes.length := by
    simp only [List.length_append, head_len, rowOf, row_len]; omega
  refine get_of (i := ⟨e, [s]⟩) (X := rowOf (84 + more.length) s ++ (more ++ s.bytes)) rfl (by omega) hg (by simp) (by simpa using hok) (fun k t hk => ?_)
  have hk' : k < 1 := (List.getElem?_eq_some_iff.1 hk).1
  obtain rfl : k = 0 := by omega
  obtain rfl : s = t := by simpa using hk
  refine ⟨84 + more.length, by omega, by omega, ?_, ?_⟩
  · rw [cut_right (by rw [head_len]; omega), head_len]
    exact cut_all (A := rowOf (84 + more.length) s)
  · rw [cut_right (by rw [head_len]; omega), head_len, cut_right (by simp only [rowOf, row_len]; omega)]
    rw [show (rowOf (84 + more.length) s).length = 32 from rfl, cut_right (by omega), show 84 + more.length - 52 - 32 - more.length = 0 by omega]
    unfold cut; simp
end Go.Proofs.Ytaejcbmmapcpgaa.Img
