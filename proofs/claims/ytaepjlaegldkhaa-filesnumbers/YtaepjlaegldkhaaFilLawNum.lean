/- LAYER 11's law FilesNumbers. -/
import Derived.Test.YtaepjlaegldkhaaFilTab
namespace Go.Proofs.Ytaepjlaegldkhaa
open Go.ChangeShapes Go.WideShapes Go.ChangeAt Go.RowKit

set_option maxHeartbeats 8000000 in
set_option maxRecDepth 100000 in
theorem FilesNumbers_w (v0 : Value) (W : World) (h0 : ∃ l, NsS W v0 l ∧ ∀ n ∈ l, -9223372036854775808 ≤ n ∧ n ≤ 9223372036854775807) : Calls Try.prog 7 #[v0] W fun e w' => e = .returned (.bool true) ∧ Bw W w' := by
  obtain ⟨l, hS, -⟩ := h0
  obtain ⟨q, cap, rfl, hc1, hc2, hcell⟩ := RdR.at1 hS
  clear hS
  by_cases hbig : 40 < l.length
  · have hbi : (40 : Int) < (l.length : Int) := by omega
    go_enter Try.func7, Try.ntmps7
    go_wp2_with fail
    refine (awake11_c _).mono ?_
    rintro e w0 ⟨rfl, hb0⟩
    go_wp2_with fail
    go_returns
    exact ⟨rfl, hb0⟩
  have hbi : ¬ (40 : Int) < (l.length : Int) := by omega
  have HCell : Hid _ := hcell
  clear hcell
  go_enter Try.func7, Try.ntmps7
  go_wp2_with fail
  refine (awake11_c _).mono ?_
  rintro e w0 ⟨rfl, hb0⟩
  have kc := kcB w0 #[.int .u8 49] 1 rfl
  have hIs := Fil.oneS_is (name := Fil.na) (sh := []) (litB (w := w0) [49] (by simp)) (by intro x hx; simp at hx; unfold B8; omega) (RdR.nil _ _) (by simp)
  have gA : Bw W ((w0.alloc (.cells #[.int .u8 49] 5 (1, 2))).alloc (.cells #[.string Fil.na, .slice (some ⟨w0.heap.size, 0, none⟩) 1 1] 27)) := (hb0.alloc _).alloc _
  have hN := lNew gA _ _ hIs
  rw [World.size_alloc, Fil.new_one (Fil.good_one Fil.na_ok (by simp) (by simp) (by simp))] at hN
  clear hIs gA
  go_wp2_with fail
  refine hN.mono ?_
  rintro e w1 ⟨fb, A, rfl, h1, -, -, -⟩
  have g1 : LF W w1 fb A (Fil.sN ([⟨1, 0, 0⟩, ⟨2, 0, 0⟩, ⟨2, 0, 0⟩] ++ List.replicate 13 Fil.no)) := h1
  clear hN kc h1
  go_wp2_with fail
  rw [show w1.alloc (.cells #[Value.bool true, Value.bool true, Value.bool true, Value.bool false, Value.bool false, Value.bool false, Value.bool false, Value.bool false, Value.bool false, Value.bool false, Value.bool false, Value.bool false, Value.bool false, Value.bool false, Value.bool false, Value.bool false, Value.bool false, Value.bool false, Value.bool false, Value.bool false, Value.bool false, Value.bool false, Value.bool false, Value.bool false, Value.bool false, Value.bool false, Value.bool false, Value.bool false, Value.bool false, Value.bool false, Value.bool false, Value.bool false, Value.bool false, Value.bool false, Value.bool false, Value.bool false, Value.bool false, Value.bool false, Value.bool false, Value.bool false, Value.bool false, Value.bool false, Value.bool false, Value.bool false, Value.bool false, Value.bool false, Value.bool false, Value.bool false, Value.bool false, Value.bool false, Value.bool false, Value.bool false, Value.bool false, Value.bool false, Value.bool false, Value.bool false, Value.bool false, Value.bool false, Value.bool false, Value.bool false, Value.bool false, Value.bool false, Value.bool false, Value.bool false] 66) = w1.alloc (.cells (Fil.tab ([⟨1, 0, 0⟩, ⟨2, 0, 0⟩, ⟨2, 0, 0⟩] ++ List.replicate 13 Fil.no)).toArray 66) from rfl]
  have hT0 : TabS W (w1.alloc (.cells (Fil.tab ([⟨1, 0, 0⟩, ⟨2, 0, 0⟩, ⟨2, 0, 0⟩] ++ List.replicate 13 Fil.no)).toArray 66)) fb w1.heap.size A ([⟨1, 0, 0⟩, ⟨2, 0, 0⟩, ⟨2, 0, 0⟩] ++ List.replicate 13 Fil.no) :=
    ⟨g1.bw ((Bw.refl _).alloc _), Box.new w1 _ _, fun e => by have := (g1.f.in_ _ e).2; omega, g1.b.size⟩
  have hc0 : Fil.cnt ([⟨1, 0, 0⟩, ⟨2, 0, 0⟩, ⟨2, 0, 0⟩] ++ List.replicate 13 Fil.no) = 3 := by decide +kernel
  generalize ([⟨1, 0, 0⟩, ⟨2, 0, 0⟩, ⟨2, 0, 0⟩] ++ List.replicate 13 Fil.no) = op0 at *
  generalize w1.alloc (.cells (Fil.tab op0).toArray 66) = wA at *
  obtain ⟨ob, hob⟩ : ∃ ob, w1.heap.size = ob := ⟨_, rfl⟩
  rw [hob] at hT0 ⊢
  clear g1 hb0 hob
  go_loopg [5, 6] l.length (fun g mv j wr => ∃ k : Nat, ∃ op : List Fil.H, k + g = l.length ∧ j = .int .i64 k ∧ mv = .int .i64 (Fil.cnt op : Nat) ∧ TabS W wr fb ob A op)
  case atStart => exact ⟨0, op0, by omega, rfl, by rw [hc0]; rfl, hT0⟩
  case round =>
    obtain ⟨k, op, hkg, rfl, rfl, hT⟩ := hrel
    clear hT0 hc0
    by_cases hk : k = l.length
    · subst hk
      have hbF := hT.l.b
      clear hT
      go_wp2_with fail
      go_returns
      exact ⟨rfl, hbF⟩
    have hkl : k < l.length := by omega
    have hki : (k : Int) < (l.length : Int) := by omega
    obtain ⟨x, hx, -⟩ := dropAt hkl
    obtain ⟨b, o, rfl, hbl, c0⟩ := (show ∀ (i : Nat) s, l[i]? = some s → _ from HCell) k x hx
    have hbW : b ≠ ob := by have := hT.o; omega
    have e0 := hT.l.b.keep c0
    have hl16 : op.length = 16 := hT.l.f.ok.ln
    have hoblt := hT.lt
    have hcle : Fil.cnt op ≤ 16 := by have := Fil.cnt_le op; omega
    by_cases hr : 0 ≤ x ∧ x < 20
    · obtain ⟨p, rfl⟩ : ∃ p : Nat, x = p := ⟨x.toNat, by omega⟩
      have hp20 : (p : Int) < 20 := hr.2
      by_cases ho : ∃ y, op[p]? = some y ∧ Fil.isO y = true
      · obtain ⟨y, hy, hyo⟩ := ho
        have hp16 : p < 16 := by rw [← hl16]; exact (List.getElem?_eq_some_iff.1 hy).1
        have t0 := hT.t.c p _ (Fil.tab_lo hy)
        have t0f := hT.t.f p (by rw [Fil.tab_len hl16]; omega)
        rw [hyo] at t0
        have hQ : Bq ob wr (wr.setCell ⟨ob, p, none⟩ (.bool false)) := (Bq.refl _ _).set _ _
        have hB := hT.t.set p (by rw [Fil.tab_len hl16]; omega) (.bool false)
        rw [show Value.bool false = Value.bool (Fil.isO Fil.no) from rfl, Fil.tab_set (by omega)] at hB
        have hL : LF W (wr.setCell ⟨ob, p, none⟩ (.bool false)) fb A (Fil.sN op) := hT.l.fz (B := fun i => i = ob) (Fz.of_bq hQ rfl) (fun i hi e => hT.n (e ▸ hi)) (fun i e => e ▸ hT.o)
        have hCl := lClose hL p
        rw [Fil.close_sN hl16 hy hyo] at hCl
        have hcs := Fil.cnt_set hy Fil.no
        rw [hyo, show Fil.isO Fil.no = false from rfl] at hcs
        simp only [if_true, Bool.false_eq_true, if_false, Nat.add_zero] at hcs
        have hc1 := Fil.cnt_pos hy hyo
        have e0' := hQ.keep e0 (show b ≠ ob from hbW)
        have hno := hT.n
        have hoW := hT.o
        clear hT hL
        go_wp2_with fail
        refine hCl.mono ?_
        rintro e w3 ⟨rfl, h3, z3⟩
        have hB3 : Box w3 ob (Fil.tab (op.set p Fil.no)) := hB.blk (z3.block ob (by simpa [World.setCell] using hoblt) hno)
        have hT3 : TabS W w3 fb ob A (op.set p Fil.no) := ⟨h3, hB3, hno, hoW⟩
        go_wp2_with fail
        go_roundg (l.length - (k + 1))
        case measure => omega
        case rel => exact ⟨k + 1, _, by omega, by simp, by rw [hcs]; congr 1; omega, hT3⟩
      · have hno0 : ∀ y, op[p]? = some y → Fil.isO y = false := fun y hy => by
          cases h : Fil.isO y with
          | false => rfl
          | true => exact absurd ⟨y, hy, h⟩ ho
        have t0 : wr.cell? ⟨ob, p, none⟩ = some (.bool false) := by
          by_cases hp16 : p < 16
          · obtain ⟨y, hy⟩ : ∃ y, op[p]? = some y := ⟨_, List.getElem?_eq_getElem (by omega)⟩
            rw [← hno0 y hy]
            exact hT.t.c p _ (Fil.tab_lo hy)
          · exact hT.t.c p _ (Fil.tab_hi hl16 (by omega) (by omega))
        have hCl := lClose hT.l p
        rw [Fil.close_no hl16 hno0] at hCl
        have hT' := hT
        have HT : Hid _ := hT'
        clear hT hT' ho hno0
        go_wp2_with fail
        refine hCl.mono ?_
        rintro e w3 ⟨rfl, h3, z3⟩
        obtain ⟨_, _, hno, hoW⟩ := (show TabS W wr fb ob A op from HT)
        have hB3 : Box w3 ob (Fil.tab op) := Box.blk (show TabS W wr fb ob A op from HT).t (z3.block ob hoblt hno)
        have hT3 : TabS W w3 fb ob A op := ⟨h3, hB3, hno, hoW⟩
        go_wp2_with fail
        go_roundg (l.length - (k + 1))
        case measure => omega
        case rel => exact ⟨k + 1, op, by omega, by simp, rfl, hT3⟩
    · have hr2 : ¬ (0 ≤ x) ∨ ¬ (x < 20) := by omega
      rcases hr2 with hx0 | hx0
      · have hx1 : x < 0 := by omega
        have HT : Hid _ := hT
        clear hT hr
        go_wp2_with fail
        go_loopg [8] 17 (fun g wv wq => ∃ m : Nat, m + g = 17 ∧ wv = .int .i64 m ∧ wq = wr ∧ m ≤ 16 ∧ Hid (∀ (i : Nat) y, i < m → op[i]? = some y → Fil.isO y = true))
        case atStart => exact ⟨0, by omega, rfl, rfl, by omega, fun i y h => by omega⟩
        case round =>
          obtain ⟨m, hmg, rfl, rfl, hm16, HNo⟩ := hrel
          have hT := (show TabS W wr fb ob A op from HT)
          by_cases hm : m = 16
          · subst hm
            have hall : ∀ (i : Nat) y, i < op.length → op[i]? = some y → Fil.isO y = true := fun i y hi => (show ∀ (i : Nat) y, i < 16 → op[i]? = some y → Fil.isO y = true from HNo) i y (by omega)
            have hcn : (16 : Int) ≤ (Fil.cnt op : Int) := by rw [Fil.cnt_all hall, hl16]; omega
            have t0 : wr.cell? ⟨ob, 16, none⟩ = some (.bool false) := hT.t.c 16 _ (Fil.tab_hi hl16 (by omega) (by omega))
            have hOp := lOpen hT.l Fil.na
            rw [Fil.open_full (Fil.free_full hall)] at hOp
            have hno := hT.n
            have hoW := hT.o
            clear hT hall
            go_wp2_with fail
            refine hOp.mono ?_
            rintro e w3 ⟨rfl, h3, z3⟩
            have hB3 : Box w3 ob (Fil.tab op) := Box.blk (show TabS W wr fb ob A op from HT).t (z3.block ob hoblt hno)
            have hT3 : TabS W w3 fb ob A op := ⟨h3, hB3, hno, hoW⟩
            go_wp2_with fail
            go_roundg (l.length - (k + 1))
            case measure => omega
            case rel => exact ⟨k + 1, op, by omega, by simp, rfl, hT3⟩
          have hml : m < 16 := by omega
          have hmi : (m : Int) < 64 := by omega
          obtain ⟨y, hy⟩ : ∃ y, op[m]? = some y := ⟨_, List.getElem?_eq_getElem (by omega)⟩
          have t0 := hT.t.c m _ (Fil.tab_lo hy)
          have t0f := hT.t.f m (by rw [Fil.tab_len hl16]; omega)
          cases hyo : Fil.isO y with
          | true =>
            rw [hyo] at t0
            have HN2 : Hid (∀ (i : Nat) y, i < m + 1 → op[i]? = some y → Fil.isO y = true) := fun i y' hi hy' => by
              by_cases e : i = m
              · subst e; rw [hy] at hy'; obtain rfl := Option.some.inj hy'; exact hyo
              · exact (show ∀ (i : Nat) y, i < m → op[i]? = some y → Fil.isO y = true from HNo) i y' (by omega) hy'
            clear hT
            go_wp2_with fail
            go_roundg (17 - (m + 1))
            case measure => omega
            case rel => exact ⟨m + 1, by omega, by simp, rfl, by omega, HN2⟩
          | false =>
            rw [hyo] at t0
            have hcn : ¬ (16 : Int) ≤ (Fil.cnt op : Int) := by have := Fil.cnt_lt hy hyo; omega
            have hOp := lOpen hT.l Fil.na
            rw [Fil.open_sN (Fil.free_tab hy hyo (show ∀ (i : Nat) y, i < m → op[i]? = some y → Fil.isO y = true from HNo))] at hOp
            have hcs := Fil.cnt_set hy ⟨1, 1, 0⟩
            rw [hyo, show Fil.isO ⟨1, 1, 0⟩ = true from rfl] at hcs
            simp only [if_true, Bool.false_eq_true, if_false, Nat.sub_zero] at hcs
            have hno := hT.n
            have hoW := hT.o
            clear hT
            go_wp2_with fail
            refine hOp.mono ?_
            rintro e w3 ⟨rfl, h3, z3⟩
            have hB3 : Box w3 ob (Fil.tab op) := Box.blk (show TabS W wr fb ob A op from HT).t (z3.block ob hoblt hno)
            have h3' : LF W w3 fb A (Fil.sN (op.set m ⟨1, 1, 0⟩)) := h3
            have r0 := hB3.c m _ (Fil.tab_lo hy)
            have r0f := hB3.f m (by rw [Fil.tab_len hl16]; omega)
            have hQ : Bq ob w3 (w3.setCell ⟨ob, m, none⟩ (.bool true)) := (Bq.refl _ _).set _ _
            have hB4 := hB3.set m (by rw [Fil.tab_len hl16]; omega) (.bool true)
            rw [show Value.bool true = Value.bool (Fil.isO ⟨1, 1, 0⟩) from rfl, Fil.tab_set (by omega)] at hB4
            have hL4 : LF W (w3.setCell ⟨ob, m, none⟩ (.bool true)) fb A (Fil.sN (op.set m ⟨1, 1, 0⟩)) := h3'.fz (B := fun i => i = ob) (Fz.of_bq hQ rfl) (fun i hi e => hno (e ▸ hi)) (fun i e => e ▸ hoW)
            have HT4 : Hid (TabS W (w3.setCell ⟨ob, m, none⟩ (.bool true)) fb ob A (op.set m ⟨1, 1, 0⟩)) := ⟨hL4, hB4, hno, hoW⟩
            clear hB3 h3 h3' hB4 hL4
            go_wp2_with fail
            go_roundg (l.length - (k + 1))
            case measure => omega
            case rel => exact ⟨k + 1, _, by omega, by simp, by rw [hcs]; congr 1, HT4⟩
      · have hx1 : 20 ≤ x := by omega
        have hx2 : 0 ≤ x := by omega
        have HT : Hid _ := hT
        clear hT hr
        go_wp2_with fail
        go_loopg [8] 17 (fun g wv wq => ∃ m : Nat, m + g = 17 ∧ wv = .int .i64 m ∧ wq = wr ∧ m ≤ 16 ∧ Hid (∀ (i : Nat) y, i < m → op[i]? = some y → Fil.isO y = true))
        case atStart => exact ⟨0, by omega, rfl, rfl, by omega, fun i y h => by omega⟩
        case round =>
          obtain ⟨m, hmg, rfl, rfl, hm16, HNo⟩ := hrel
          have hT := (show TabS W wr fb ob A op from HT)
          by_cases hm : m = 16
          · subst hm
            have hall : ∀ (i : Nat) y, i < op.length → op[i]? = some y → Fil.isO y = true := fun i y hi => (show ∀ (i : Nat) y, i < 16 → op[i]? = some y → Fil.isO y = true from HNo) i y (by omega)
            have hcn : (16 : Int) ≤ (Fil.cnt op : Int) := by rw [Fil.cnt_all hall, hl16]; omega
            have t0 : wr.cell? ⟨ob, 16, none⟩ = some (.bool false) := hT.t.c 16 _ (Fil.tab_hi hl16 (by omega) (by omega))
            have hOp := lOpen hT.l Fil.na
            rw [Fil.open_full (Fil.free_full hall)] at hOp
            have hno := hT.n
            have hoW := hT.o
            clear hT hall
            go_wp2_with fail
            refine hOp.mono ?_
            rintro e w3 ⟨rfl, h3, z3⟩
            have hB3 : Box w3 ob (Fil.tab op) := Box.blk (show TabS W wr fb ob A op from HT).t (z3.block ob hoblt hno)
            have hT3 : TabS W w3 fb ob A op := ⟨h3, hB3, hno, hoW⟩
            go_wp2_with fail
            go_roundg (l.length - (k + 1))
            case measure => omega
            case rel => exact ⟨k + 1, op, by omega, by simp, rfl, hT3⟩
          have hml : m < 16 := by omega
          have hmi : (m : Int) < 64 := by omega
          obtain ⟨y, hy⟩ : ∃ y, op[m]? = some y := ⟨_, List.getElem?_eq_getElem (by omega)⟩
          have t0 := hT.t.c m _ (Fil.tab_lo hy)
          have t0f := hT.t.f m (by rw [Fil.tab_len hl16]; omega)
          cases hyo : Fil.isO y with
          | true =>
            rw [hyo] at t0
            have HN2 : Hid (∀ (i : Nat) y, i < m + 1 → op[i]? = some y → Fil.isO y = true) := fun i y' hi hy' => by
              by_cases e : i = m
              · subst e; rw [hy] at hy'; obtain rfl := Option.some.inj hy'; exact hyo
              · exact (show ∀ (i : Nat) y, i < m → op[i]? = some y → Fil.isO y = true from HNo) i y' (by omega) hy'
            clear hT
            go_wp2_with fail
            go_roundg (17 - (m + 1))
            case measure => omega
            case rel => exact ⟨m + 1, by omega, by simp, rfl, by omega, HN2⟩
          | false =>
            rw [hyo] at t0
            have hcn : ¬ (16 : Int) ≤ (Fil.cnt op : Int) := by have := Fil.cnt_lt hy hyo; omega
            have hOp := lOpen hT.l Fil.na
            rw [Fil.open_sN (Fil.free_tab hy hyo (show ∀ (i : Nat) y, i < m → op[i]? = some y → Fil.isO y = true from HNo))] at hOp
            have hcs := Fil.cnt_set hy ⟨1, 1, 0⟩
            rw [hyo, show Fil.isO ⟨1, 1, 0⟩ = true from rfl] at hcs
            simp only [if_true, Bool.false_eq_true, if_false, Nat.sub_zero] at hcs
            have hno := hT.n
            have hoW := hT.o
            clear hT
            go_wp2_with fail
            refine hOp.mono ?_
            rintro e w3 ⟨rfl, h3, z3⟩
            have hB3 : Box w3 ob (Fil.tab op) := Box.blk (show TabS W wr fb ob A op from HT).t (z3.block ob hoblt hno)
            have h3' : LF W w3 fb A (Fil.sN (op.set m ⟨1, 1, 0⟩)) := h3
            have r0 := hB3.c m _ (Fil.tab_lo hy)
            have r0f := hB3.f m (by rw [Fil.tab_len hl16]; omega)
            have hQ : Bq ob w3 (w3.setCell ⟨ob, m, none⟩ (.bool true)) := (Bq.refl _ _).set _ _
            have hB4 := hB3.set m (by rw [Fil.tab_len hl16]; omega) (.bool true)
            rw [show Value.bool true = Value.bool (Fil.isO ⟨1, 1, 0⟩) from rfl, Fil.tab_set (by omega)] at hB4
            have hL4 : LF W (w3.setCell ⟨ob, m, none⟩ (.bool true)) fb A (Fil.sN (op.set m ⟨1, 1, 0⟩)) := h3'.fz (B := fun i => i = ob) (Fz.of_bq hQ rfl) (fun i hi e => hno (e ▸ hi)) (fun i e => e ▸ hoW)
            have HT4 : Hid (TabS W (w3.setCell ⟨ob, m, none⟩ (.bool true)) fb ob A (op.set m ⟨1, 1, 0⟩)) := ⟨hL4, hB4, hno, hoW⟩
            clear hB3 h3 h3' hB4 hL4
            go_wp2_with fail
            go_roundg (l.length - (k + 1))
            case measure => omega
            case rel => exact ⟨k + 1, _, by omega, by simp, by rw [hcs]; congr 1, HT4⟩
end Go.Proofs.Ytaepjlaegldkhaa
