/- LAYER 6's walks: strings.IndexRune at a rune beyond ASCII, in the bytes that end words: none. · LAYER 6's walks: strings.IndexAny at the bytes that end words, of whatever bytes. -/
import Derived.Test.YtllgkofibkobnaaDoorR8
import Derived.Laws.RangeAny
import Derived.WalkMore
namespace Go.Proofs.YtllgkofibkobnaaDoor
open Go.ChangeShapes Go.WideShapes Go.ChangeAt Go.RowKit

theorem Asm.enc_hi {r : Int} (h : 128 ≤ r) : ∃ a c d b : UInt8, 128 ≤ b.toNat ∧ (Utf8.encode r = ⟨#[a, b]⟩ ∨ Utf8.encode r = ⟨#[a, c, b]⟩ ∨ Utf8.encode r = ⟨#[a, c, d, b]⟩) := by
  unfold Utf8.encode
  have hc : ∀ c : Nat, 128 ≤ (UInt8.ofNat (128 + c % 64)).toNat := fun c => by simp; omega
  have h128 : ¬ (if Utf8.valid r = true then r.toNat else Utf8.runeError) < 128 := by
    split
    · omega
    · simp [Utf8.runeError]
  generalize (if Utf8.valid r = true then r.toNat else Utf8.runeError) = c at *
  dsimp only
  rw [if_neg h128]
  split
  · exact ⟨_, 0, 0, _, hc _, Or.inl rfl⟩
  · split
    · exact ⟨_, _, 0, _, hc _, Or.inr (Or.inl rfl)⟩
    · exact ⟨_, _, _, _, hc _, Or.inr (Or.inr rfl)⟩
theorem Asm.noByte {l : List UInt8} {c : UInt8} (h : ∀ b ∈ l, b ≠ c) : Lib.indexByte l c = -1 := by
  induction l with
  | nil => rfl
  | cons b l ih =>
    have hb : (b == c) = false := by simpa using h b (by simp)
    rw [Lib.indexByte, hb, ih (fun x hx => h x (by simp [hx]))]; rfl
set_option maxHeartbeats 2000000 in
set_option maxRecDepth 100000 in
theorem IndexRune_hi (r : Int) (h : 128 ≤ r) (hr : r ≤ 2147483647) (w : World) :
    Calls Tryd.prog 75 #[.string ⟨#[32, 9, 44, 40, 41]⟩, .int .i32 r] w fun e w' => e = .returned (.int .i64 (-1)) ∧ Bw w w' := by
  have d0 : (0 : Int) ≤ r := by omega
  by_cases he : r = 65533
  · subst he
    go_enter Tryd.func75, Tryd.ntmps75
    go_wp2_with fail
    go_loopg [5, 6] 5 (fun g _ _ wx => ∃ i : Nat, i + g = 5 ∧ wx = w.iter ⟨#[32, 9, 44, 40, 41]⟩ i)
    case atStart => exact ⟨0, by omega, rfl⟩
    case round =>
      obtain ⟨i, hig, rfl⟩ := hrel
      cases gk with
      | zero =>
        obtain rfl : i = 5 := by omega
        have hnx := run_next_end (P := Tryd.prog) w ⟨#[32, 9, 44, 40, 41]⟩ 5
        go_wp2
        go_ret
        exact ⟨rfl, (Bw.refl w).alloc _⟩
      | succ g =>
        have hi : i < (⟨#[32, 9, 44, 40, 41]⟩ : ByteArray).size := by show i < 5; omega
        obtain ⟨x, hx⟩ : ∃ x : UInt8, (⟨#[32, 9, 44, 40, 41]⟩ : ByteArray)[i]'hi = x := ⟨_, rfl⟩
        have hx128 : x.toNat < 128 := by
          have h5 : i < 5 := hi
          rw [← hx]
          obtain rfl | rfl | rfl | rfl | rfl : i = 0 ∨ i = 1 ∨ i = 2 ∨ i = 3 ∨ i = 4 := by omega
          · show (32 : UInt8).toNat < 128; decide
          · show (9 : UInt8).toNat < 128; decide
          · show (44 : UInt8).toNat < 128; decide
          · show (40 : UInt8).toNat < 128; decide
          · show (41 : UInt8).toNat < 128; decide
        have hnx := fun ty => run_next_ascii (P := Tryd.prog) w ⟨#[32, 9, 44, 40, 41]⟩ i ty hi (by rw [hx]; exact hx128)
        rw [hx] at hnx
        have hxn : ((x.toNat : Int) == 65533) = false := by simp; omega
        clear hx
        go_wp2
        go_roundg g
        case measure => omega
        case rel => exact ⟨i + 1, by omega, rfl⟩
  · have hne : (r == 65533) = false := by simpa using he
    have hV := Any.utf8_ValidRune Tryd.lays119 r w
    cases hv : Lib.validRune r
    · rw [hv] at hV
      go_enter Tryd.func75, Tryd.ntmps75
      go_wp2_with (go_at_call 88; refine hV.mono ?_; rintro e w' ⟨rfl, rfl⟩)
      go_ret
      exact ⟨rfl, Bw.refl _⟩
    · rw [hv] at hV
      obtain ⟨a, c, d, b, hb, hs⟩ := Asm.enc_hi h
      have hbb : b.toNat < 256 := b.toNat_lt
      have hI := fun (l : List UInt8) (hl : ∀ x ∈ l, x.toNat < 128) => Asm.noByte (l := l) (c := b) (fun x hx e => by have := hl x hx; rw [e] at this; omega)
      have n9 : ((9 : Int) != b.toNat) = true := by simp; omega
      have n44 : ((44 : Int) != b.toNat) = true := by simp; omega
      have n40 : ((40 : Int) != b.toNat) = true := by simp; omega
      have k1 : ∀ h, ((⟨#[32, 9, 44, 40, 41]⟩ : ByteArray)[1]'h).toNat = 9 := fun _ => rfl
      have k2 : ∀ h, ((⟨#[32, 9, 44, 40, 41]⟩ : ByteArray)[2]'h).toNat = 44 := fun _ => rfl
      have k3 : ∀ h, ((⟨#[32, 9, 44, 40, 41]⟩ : ByteArray)[3]'h).toNat = 40 := fun _ => rfl
      have b1 : ∀ h, (⟨#[a, b]⟩ : ByteArray)[1]'h = b := fun _ => rfl
      have b2 : ∀ h, (⟨#[a, c, b]⟩ : ByteArray)[2]'h = b := fun _ => rfl
      have b3 : ∀ h, (⟨#[a, c, d, b]⟩ : ByteArray)[3]'h = b := fun _ => rfl
      have hB := fun (s : ByteArray) (hs : Lib.indexByte s.data.toList b = -1) (w : World) => show Calls Tryd.prog 87 #[.string s, .int .u8 (b.toNat : Int)] w (fun e w' => e = .returned (.int .i64 (-1)) ∧ w' = w) from by
        have := Any.strings_IndexByte Tryd.lays137 s (b.toNat : Int) w
        rw [show ((b.toNat : Int)).toNat.toUInt8 = b by simp, hs] at this
        exact this
      rcases hs with hs | hs | hs
      all_goals
        go_enter Tryd.func75, Tryd.ntmps75
        go_wp2_with (go_at_call 88; refine hV.mono ?_; rintro e w' ⟨rfl, rfl⟩)
        go_step3
        go_wp2_with fail
        refine wp_loop_rounds 2 ?_
        rw [rounds_succ]
        go_wp2_with fail
        go_step3
        go_wp2_with fail
        go_region
        go_wp2_with fail
        go_region_with (go_at_call 87; refine (hB _ (hI _ (by decide)) _).mono ?_; rintro e w2 ⟨rfl, rfl⟩)
        go_wp2_with fail
        all_goals
          rw [Exit.noGoto_ret]
          simp only [Exit.inBlock, Exit.then]
          rw [Exit.noGoto_ret]
          simp only [Exit.inBlock]
          go_ret
          exact ⟨rfl, (Bw.refl _).drew.drew⟩
end Go.Proofs.YtllgkofibkobnaaDoor
namespace Go.Proofs.YtllgkofibkobnaaDoor
open Go.ChangeShapes Go.WideShapes Go.ChangeAt Go.RowKit

theorem Bw.iterAt {a w : World} (h : Bw a w) {k : Nat} (hk : a.heap.size ≤ k) (s : ByteArray) (pos : Nat) : Bw a (w.iterAt k s pos) := Lib.below_iterAt h hk s pos
/-- The iterator stands behind a call. -/
theorem Bw.it {w w' : World} (h : Bw w w') {k : Nat} {s : ByteArray} {pos : Nat} (hk : w.heap[k]? = some (.stringIter s pos)) : w'.heap[k]? = some (.stringIter s pos) := by
  have hlt : k < w.heap.size := (Array.getElem?_eq_some_iff.1 hk).1
  rw [Below.block h k hlt]; exact hk
theorem Asm.cont_hi {s : ByteArray} {i k : Nat} (h : (decide (i + k < s.size) && (s.get! (i + k)).toNat / 64 == 2) = true) : i + k < s.size ∧ 128 ≤ (s.get! (i + k)).toNat := by
  simp at h; omega
/-- A rune beyond ASCII takes bytes beyond ASCII alone. -/
theorem Asm.decode_hi (s : ByteArray) (pos : Nat) (h : pos < s.size) (ha : 128 ≤ (s[pos]'h).toNat) :
    1 ≤ (Utf8.decode s pos).2 ∧ pos + (Utf8.decode s pos).2 ≤ s.size ∧ ∀ k, k < (Utf8.decode s pos).2 → 128 ≤ (s.get! (pos + k)).toNat := by
  have h0 : 128 ≤ (s.get! (pos + 0)).toNat := by rw [get_at s pos h]; exact ha
  have one : 1 ≤ (Utf8.runeError, 1).2 ∧ pos + (Utf8.runeError, 1).2 ≤ s.size ∧ ∀ k, k < (Utf8.runeError, 1).2 → 128 ≤ (s.get! (pos + k)).toNat :=
    ⟨by decide, by dsimp only; omega, fun k hk => by
      dsimp only at hk
      have hk0 : k = 0 := by omega
      subst hk0
      exact h0⟩
  unfold Utf8.decode
  dsimp only
  rw [if_neg (by omega)]
  split
  · rename_i hc
    rw [Bool.and_eq_true] at hc
    have c1 := Asm.cont_hi hc.2
    split
    · refine ⟨by dsimp only; omega, by dsimp only; omega, fun k hk => ?_⟩
      dsimp only at hk
      obtain rfl | rfl : k = 0 ∨ k = 1 := by omega
      · exact h0
      · exact c1.2
    · exact one
  split
  · rename_i hc
    simp only [Bool.and_eq_true] at hc
    have c1 := Asm.cont_hi (s := s) (i := pos) (k := 1) (by simpa using hc.1.2)
    have c2 := Asm.cont_hi (s := s) (i := pos) (k := 2) (by simpa using hc.2)
    split
    · refine ⟨by dsimp only; omega, by dsimp only; omega, fun k hk => ?_⟩
      dsimp only at hk
      obtain rfl | rfl | rfl : k = 0 ∨ k = 1 ∨ k = 2 := by omega
      · exact h0
      · exact c1.2
      · exact c2.2
    · exact one
  split
  · rename_i hc
    simp only [Bool.and_eq_true] at hc
    have c1 := Asm.cont_hi (s := s) (i := pos) (k := 1) (by simpa using hc.1.1.2)
    have c2 := Asm.cont_hi (s := s) (i := pos) (k := 2) (by simpa using hc.1.2)
    have c3 := Asm.cont_hi (s := s) (i := pos) (k := 3) (by simpa using hc.2)
    split
    · refine ⟨by dsimp only; omega, by dsimp only; omega, fun k hk => ?_⟩
      dsimp only at hk
      obtain rfl | rfl | rfl | rfl : k = 0 ∨ k = 1 ∨ k = 2 ∨ k = 3 := by omega
      · exact h0
      · exact c1.2
      · exact c2.2
      · exact c3.2
    · exact one
  · exact one
def Asm.stops : List UInt8 := [32, 9, 44, 40, 41]
theorem Asm.stops_hi {x : UInt8} (h : 128 ≤ x.toNat) : Asm.stops.contains x = false := by
  simp [Asm.stops]
  refine ⟨?_, ?_, ?_, ?_, ?_⟩ <;> (rintro rfl; simp at h)
theorem Asm.noAny_many {l : List UInt8} {i : Nat} (hno : Lib.NoAny l Asm.stops i) : ∀ n, (∀ k, k < n → ∃ x, l[i + k]? = some x ∧ 128 ≤ x.toNat) → Lib.NoAny l Asm.stops (i + n)
  | 0, _ => hno
  | n + 1, h => by
    obtain ⟨x, hx, hb⟩ := h n (by omega)
    have := (Asm.noAny_many hno n (fun k hk => h k (by omega))).succ hx (Asm.stops_hi hb)
    rwa [← Nat.add_assoc]
theorem Asm.get_some (l : List UInt8) (j : Nat) (h : j < l.length) : l[j]? = some ((bs l).get! j) := by
  simp [bs, ByteArray.get!, h]
theorem Asm.ret_i1 {a b : Int} (h : a = b) : Ending.returned (.int .i64 b) = .returned (.int .i64 a) := by rw [h]
set_option maxHeartbeats 2000000 in
set_option maxRecDepth 100000 in
theorem IndexAny_few (l : List UInt8) (w : World) (hl : l.length ≤ 8) :
    Calls Tryd.prog 58 #[.string (bs l), .string ⟨#[32, 9, 44, 40, 41]⟩] w fun e w' => e = .returned (.int .i64 (Lib.indexAny l Asm.stops)) ∧ Bw w w' := by
  have h8z : decide ((8 : Int) < ((bs l).size : Int)) = false := decide_eq_false (by rw [bs_size]; omega)
  rw [bs_size] at h8z
  have hSh := fun n w => Any.strings_shouldUseASCIISet (P := Tryd.prog) { Tryd.lays153 with } n w
  go_enter Tryd.func58, Tryd.ntmps58
  go_wp2_with (go_at_call 77; refine (hSh _ _).mono ?_; rintro e w' ⟨rfl, hw⟩; rw [hw, h8z])
  go_loopg [9, 10] l.length (fun g _ _ wx => ∃ i : Nat, i + g = l.length ∧ Bw w wx ∧ wx.heap[w.heap.size]? = some (.stringIter (bs l) i) ∧ Lib.NoAny l Asm.stops i)
  case atStart => exact ⟨0, by omega, (Bw.refl w).alloc _, by simp [World.alloc, World.iter, -World.alloc_eq], Lib.NoAny.zero _ _⟩
  case round =>
    obtain ⟨i, hig, hbw, hit, hno⟩ := hrel
    have HN : Hid _ := hno
    clear hno
    cases gk with
    | zero =>
      obtain rfl : i = l.length := by omega
      have hnx := fun ty => Lib.run_next_end_at (P := Tryd.prog) wr w.heap.size (bs l) l.length ty hit (by rw [bs_size]; omega)
      go_wp2
      go_ret
      exact ⟨Asm.ret_i1 (by rw [Lib.indexAny_none HN]), hbw⟩
    | succ g =>
      have hi : i < (bs l).size := by rw [bs_size]; omega
      have hil : i < l.length := by omega
      obtain ⟨x, hxl⟩ : ∃ x, l[i]? = some x := ⟨l[i], by simp⟩
      have hgx := bs_get l i x hxl hi
      by_cases hx : x.toNat < 128
      · have hnx := fun ty => Lib.run_next_ascii_at (P := Tryd.prog) wr w.heap.size (bs l) i ty hit hi (by rw [hgx]; exact hx)
        rw [hgx] at hnx
        have hit2 := Lib.iterAt_heap wr w.heap.size (bs l) i (i + 1) hit
        have hbw2 := hbw.iterAt (Nat.le_refl _) (bs l) (i + 1)
        generalize wr.iterAt w.heap.size (bs l) (i + 1) = w2 at *
        have hIR : ∀ w2, Calls Tryd.prog 75 #[.string ⟨#[32, 9, 44, 40, 41]⟩, .int .i32 (x.toNat : Int)] w2 (fun e w' => e = .returned (.int .i64 (Lib.indexByte Asm.stops x)) ∧ w' = w2) := fun w2 => by
          have := Any.strings_IndexRune_ascii (P := Tryd.prog) Tryd.lays152 ⟨#[32, 9, 44, 40, 41]⟩ (x.toNat : Int) w2 (by omega) (by omega)
          rw [show ((x.toNat : Int)).toNat.toUInt8 = x by simp] at this
          exact this
        have hcon := Lib.contains_iff_indexByte Asm.stops x
        have HX : Hid _ := hxl
        generalize Lib.indexByte Asm.stops x = q at *
        clear hxl hgx hit hbw hSh
        cases hin : Asm.stops.contains x
        · rw [hin] at hcon
          have hlt : ¬ ((0 : Int) ≤ q) := of_decide_eq_false hcon.symm
          have HI : Hid _ := hin
          clear hcon hin
          go_wp2_with (go_at_call 75; refine (hIR _).mono ?_; rintro e w3 ⟨rfl, rfl⟩)
          go_roundg g
          case measure => omega
          case rel => exact ⟨i + 1, by omega, hbw2, hit2, Lib.NoAny.succ HN HX HI⟩
        · rw [hin] at hcon
          have hge : (0 : Int) ≤ q := of_decide_eq_true hcon.symm
          have HI : Hid _ := hin
          clear hcon hin
          go_wp2_with (go_at_call 75; refine (hIR _).mono ?_; rintro e w3 ⟨rfl, rfl⟩)
          go_ret
          exact ⟨Asm.ret_i1 (by rw [Lib.indexAny_hit HN HX HI]), hbw2⟩
      · have hx2 : 128 ≤ x.toNat := by omega
        obtain ⟨d1, d2, d3⟩ := Asm.decode_hi (bs l) i hi (by rw [hgx]; exact hx2)
        have d4 := decode_high (bs l) i hi (by rw [hgx]; exact hx2)
        have d5 := decode_le (bs l) i
        have hnx := fun ty => Lib.run_next_any_at (P := Tryd.prog) wr w.heap.size (bs l) i ty hit hi
        generalize hdr : (Utf8.decode (bs l) i).1 = r at *
        generalize hdn : (Utf8.decode (bs l) i).2 = n at *
        have hit2 := Lib.iterAt_heap wr w.heap.size (bs l) i (i + n) hit
        have hbw2 := hbw.iterAt (Nat.le_refl _) (bs l) (i + n)
        generalize wr.iterAt w.heap.size (bs l) (i + n) = w2 at *
        have hIR := IndexRune_hi (r : Int) (by omega) (by omega) w2
        rw [bs_size] at d2
        have HM : Hid (Lib.NoAny l Asm.stops (i + n)) := Asm.noAny_many HN n (fun k hk => ⟨_, Asm.get_some l (i + k) (by omega), d3 k hk⟩)
        clear hxl hgx hit hbw hSh d3 hdr hdn
        go_wp2_with (go_at_call 75; refine hIR.mono ?_; rintro e w3 ⟨rfl, hb3⟩)
        go_roundg (g + 1 - n)
        case measure => omega
        case rel => exact ⟨i + n, by omega, hbw2.trans hb3, hb3.it hit2, HM⟩
theorem IndexAny_c (l : List UInt8) (w : World) (hl : l.length < 4294967281) :
    Calls Tryd.prog 58 #[.string (bs l), .string ⟨#[32, 9, 44, 40, 41]⟩] w fun e w' => e = .returned (.int .i64 (Lib.indexAny l [32, 9, 44, 40, 41])) ∧ Bw w w' := by
  by_cases h8 : l.length ≤ 8
  · exact IndexAny_few l w h8
  · have h116 : (Tryd.prog.info? (Tryd.lays153_ren.t 116)).map (fun i => (i.zero, i.size)) = some (some (.agg (Array.replicate 256 (.bool false))), 256) := by kernel_rfl
    have := Any.strings_IndexAny_long Tryd.lays153 (zero_of_info h116).1 (zero_of_info h116).2 (bs l) ⟨#[32, 9, 44, 40, 41]⟩ w (by decide) (by rw [bs_size]; omega) (by rw [bs_size]; omega) (by decide) (ascii_of_all (by decide))
    rw [bs_data] at this
    refine this.mono ?_
    rintro e w' ⟨rfl, rfl⟩
    exact ⟨rfl, ((Bw.refl w).alloc _).alloc _⟩
end Go.Proofs.YtllgkofibkobnaaDoor
