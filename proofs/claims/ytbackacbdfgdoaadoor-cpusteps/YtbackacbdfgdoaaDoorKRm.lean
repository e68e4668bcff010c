/- LAYER 12, the document's own memory in a law's hands: what a call may write, its pages and numbers of changes; bump. · LAYER 12, the document's own memory: bump. · LAYER 12, the document's own memory: Load, Store. · LAYER 12, the document's own memory: Store. -/
import Derived.Test.YtbackacbdfgdoaaDoorKRf
import Derived.Test.YtbackacbdfgdoaaDoorKPg
import Derived.Test.YtbackacbdfgdoaaDoorK7
namespace Go.Proofs.YtbackacbdfgdoaaDoor
open Go.ChangeShapes Go.WideShapes Go.ChangeAt Go.RowKit
set_option linter.unusedVariables false
set_option linter.unusedSimpArgs false

/-- From a to b: of the blocks that were there those of A alone may be others. -/
structure Fq (A : Nat → Prop) (a b : World) : Prop where
  b0 : Below 0 a b
  block : ∀ i, i < a.heap.size → ¬ A i → b.heap[i]? = a.heap[i]?
theorem Fq.refl (A : Nat → Prop) (a : World) : Fq A a a := ⟨Below.refl _ _, fun _ _ _ => rfl⟩
theorem Fq.of_bw {A : Nat → Prop} {a b : World} (h : Bw a b) : Fq A a b := ⟨Below.mono h (Nat.zero_le _), fun i hi _ => Below.block h i hi⟩
theorem Fq.of_bq {A : Nat → Prop} {a b : World} {pb : Nat} (h : Bq pb a b) (hp : A pb) : Fq A a b := ⟨h.b0, fun i hi hn => h.block i hi (fun e => hn (e ▸ hp))⟩
theorem Fq.trans {A : Nat → Prop} {a b c : World} (h : Fq A a b) (k : Fq A b c) : Fq A a c := ⟨h.b0.trans k.b0, fun i hi hn => (k.block i (Nat.lt_of_lt_of_le hi h.b0.size) hn).trans (h.block i hi hn)⟩
theorem Fq.toBw {A : Nat → Prop} {w a b : World} (h : Fq A a b) (g : Bw w a) (hA : ∀ i, A i → w.heap.size ≤ i) : Bw w b :=
  Below.trans g ⟨h.b0.os, h.b0.tape, h.b0.output, h.b0.size, fun i hi => h.block i (Nat.lt_of_lt_of_le hi g.size) (fun e => by have := hA i e; omega)⟩
theorem Fq.kp {A P : Nat → Prop} {a b : World} (h : Fq A a b) (hP : ∀ i, P i → ¬ A i) : Kp P a b := ⟨h.b0.size, fun i hi hp => h.block i hi (hP i hp)⟩
/-- A step: blocks of A were written; A' holds of the elder blocks none but A's. -/
structure Sq (A A' : Nat → Prop) (a b : World) : Prop where
  fz : Fq A a b
  le : ∀ i, i < a.heap.size → A' i → A i
theorem Sq.refl (A : Nat → Prop) (a : World) : Sq A A a a := ⟨Fq.refl _ _, fun _ _ h => h⟩
theorem Sq.trans {A B C : Nat → Prop} {a b c : World} (h : Sq A B a b) (k : Sq B C b c) : Sq A C a c :=
  ⟨⟨h.fz.b0.trans k.fz.b0, fun i hi hn => (k.fz.block i (Nat.lt_of_lt_of_le hi h.fz.b0.size) (fun e => hn (h.le i hi e))).trans (h.fz.block i hi hn)⟩, fun i hi e => h.le i hi (k.le i (Nat.lt_of_lt_of_le hi h.fz.b0.size) e)⟩
theorem Sq.of_bw {A : Nat → Prop} {a b : World} (k : Bw a b) : Sq A A a b := ⟨Fq.of_bw k, fun _ _ h => h⟩
theorem Fq.stp {A : Nat → Prop} {a b : World} (h : Fq A a b) : Sq A A a b := ⟨h, fun _ _ h => h⟩
/-- A slice of the call's own: its cells, none of them frozen. -/
theorem OwnR.box {e sz n : Nat} {cs : List Value} {a w : World} {g c : Nat} (h : OwnR e sz a w (.slice (some ⟨g, 0, none⟩) n c) n cs) : Box w g cs := by
  obtain ⟨h1, h2⟩ := h
  rcases h2 with ⟨h2, _⟩ | ⟨g', cap, cur, h3, h4, h5, h6, h7, h8, h9⟩
  · simp at h2
  · simp at h3
    obtain ⟨rfl, rfl⟩ := h3
    refine ⟨fun j u hu => ?_, fun j hj => ?_⟩
    · have hj := (List.getElem?_eq_some_iff.1 hu).1
      rw [← h9, List.getElem?_take] at hu
      split at hu
      · simp [World.cell?, h5]; simpa using hu
      · simp at hu
    · simp [World.frozen?, h5]
/-- A page's number of changes, as cells. -/
def gcl (x : Int × Int) : List Value := [.int .u32 x.1, .int .u32 x.2]
theorem gcl_len (x : Int × Int) : (gcl x).length = 2 := rfl
structure RMx (G : Nat → Prop) (w : World) (rb N : Nat) (S : MS) (b : Int) (v gv : Value) (gs : List (Int × Int)) : Prop where
  ok : S.Ok
  box : Box w rb [.int .i64 b, v, gv]
  row : ∃ q cap, v = .slice q S.th.length cap ∧ S.th.length ≤ cap ∧ cap ≤ 9223372036854775807 ∧ (0 < S.th.length → ∃ g, q = some ⟨g, 0, none⟩ ∧ g < w.heap.size ∧ Box w g (pgs S) ∧ G g ∧ g ≠ rb)
  gr : ∃ q cap, gv = .slice q gs.length cap ∧ gs.length ≤ cap ∧ cap ≤ 9223372036854775807 ∧ (0 < gs.length → ∃ g, q = some ⟨g, 0, none⟩ ∧ g < w.heap.size ∧ Box w g (gs.flatMap gcl) ∧ G g ∧ g ≠ rb ∧ v.ownBlock ≠ some g)
  gu : ∀ x ∈ gs, U4 x.1 ∧ U4 x.2
  gl : gs.length ≤ N
  grb : G rb
  rl : ∀ i, v.ownBlock = some i → i < w.heap.size
  gb : ∀ i, G i → i < w.heap.size
/-- Block rb is that memory; its blocks in G. -/
def RM (G : Nat → Prop) (w : World) (rb N : Nat) (S : MS) : Prop := ∃ b v gv gs, RMx G w rb N S b v gv gs
section
variable {G : Nat → Prop} {w w' : World} {rb N : Nat} {S : MS} {b : Int} {v gv : Value} {gs : List (Int × Int)}
theorem RMx.keep (h : RMx G w rb N S b v gv gs) (hs : w.heap.size ≤ w'.heap.size) (hk : ∀ i, i < w.heap.size → G i → w'.heap[i]? = w.heap[i]?) : RMx G w' rb N S b v gv gs := by
  refine ⟨h.ok, h.box.blk (hk rb h.box.lt h.grb), ?_, ?_, h.gu, h.gl, h.grb, fun i hi => Nat.lt_of_lt_of_le (h.rl i hi) hs, fun i hi => Nat.lt_of_lt_of_le (h.gb i hi) hs⟩
  · obtain ⟨q, cap, e, h1, h2, h3⟩ := h.row
    refine ⟨q, cap, e, h1, h2, fun h0 => ?_⟩
    obtain ⟨g, e2, h4, h5, h6, h7⟩ := h3 h0
    exact ⟨g, e2, Nat.lt_of_lt_of_le h4 hs, h5.blk (hk g h4 h6), h6, h7⟩
  · obtain ⟨q, cap, e, h1, h2, h3⟩ := h.gr
    refine ⟨q, cap, e, h1, h2, fun h0 => ?_⟩
    obtain ⟨g, e2, h4, h5, h6, h7, h8⟩ := h3 h0
    exact ⟨g, e2, Nat.lt_of_lt_of_le h4 hs, h5.blk (hk g h4 h6), h6, h7, h8⟩
theorem RM.keep (h : RM G w rb N S) (hs : w.heap.size ≤ w'.heap.size) (hk : ∀ i, i < w.heap.size → G i → w'.heap[i]? = w.heap[i]?) : RM G w' rb N S := by
  obtain ⟨b, v, gv, gs, h⟩ := h
  exact ⟨b, v, gv, gs, h.keep hs hk⟩
theorem RM.bw (h : RM G w rb N S) (g : Bw w w') : RM G w' rb N S := h.keep (Below.size g) (fun i hi _ => Below.block g i hi)
theorem RMx.bw (h : RMx G w rb N S b v gv gs) (g : Bw w w') : RMx G w' rb N S b v gv gs := h.keep (Below.size g) (fun i hi _ => Below.block g i hi)
theorem RM.kp {P : Nat → Prop} (h : RM G w rb N S) (k : Kp P w w') (hP : ∀ i, G i → P i) : RM G w' rb N S := h.keep k.1 (fun i hi hg => k.2 i hi (hP i hg))
/-- As mem2 leaves it. -/
theorem RM.new {a w : World} {rb : Nat} {S : MS} {b : Int} {v : Value} (hS : S.Ok) (hb : Box w rb [.int .i64 b, v, .slice none 0 0]) (ho : OwnR 77 258 a w v S.th.length (pgs S)) (hr : rb < a.heap.size) :
    RM (fun i => i = rb ∨ v.ownBlock = some i) w rb 0 S := by
  refine ⟨b, v, _, [], hS, hb, ?_, ⟨none, 0, rfl, Nat.le_refl _, by omega, fun h => by simp at h⟩, fun x hx => (by cases hx), Nat.le_refl _, Or.inl rfl, fun i hi => (ho.own i hi).2, fun i hi => hi.elim (fun e => e ▸ hb.lt) (fun e => (ho.own i e).2)⟩
  by_cases h0 : 0 < S.th.length
  · obtain ⟨g, c, rfl⟩ := ho.form h0
    obtain ⟨q, cap, e, e2, e3, -⟩ := ho.rd
    simp at e
    obtain ⟨rfl, rfl⟩ := e
    have hg := ho.own g rfl
    exact ⟨_, c, rfl, e2, e3, fun _ => ⟨g, rfl, hg.2, OwnR.box ho, Or.inr rfl, by omega⟩⟩
  · obtain ⟨q, cap, e, e2, e3, -⟩ := ho.rd
    exact ⟨q, cap, e, e2, e3, fun h => absurd h h0⟩
end
theorem RM.gb {G : Nat → Prop} {w : World} {rb N : Nat} {S : MS} (h : RM G w rb N S) : ∀ i, G i → i < w.heap.size := by
  obtain ⟨b, v, gv, gs, h⟩ := h
  exact h.gb
theorem infoGen : (Tryd.prog.info? 158).map (fun i => (i.zero, i.size, i.bytes)) = some (some (.agg #[.int .u32 0, .int .u32 0]), 2, 8) := by kernel_rfl
theorem gcl_upd {gs : List (Int × Int)} {j : Nat} {x : Int × Int} (hj : gs[j]? = some x) (y : Int) : (gs.flatMap gcl).set (j * 2 + 1) (.int .u32 y) = (gs.set j (x.1, y)).flatMap gcl := by
  induction gs generalizing j with
  | nil => simp at hj
  | cons a r ih =>
    cases j with
    | zero => simp at hj; subst hj; rfl
    | succ j =>
      have := ih (j := j) (by simpa using hj)
      rw [List.flatMap_cons, List.set_cons_succ, List.flatMap_cons, ← this, show (j + 1) * 2 + 1 = (gcl a).length + (j * 2 + 1) by rw [gcl_len]; omega, List.set_append_right _ _ (by omega)]
      congr 2
      omega
end Go.Proofs.YtbackacbdfgdoaaDoor
namespace Go.Proofs.YtbackacbdfgdoaaDoor
open Go.ChangeShapes Go.WideShapes Go.ChangeAt Go.RowKit
set_option linter.unusedVariables false
set_option linter.unusedSimpArgs false

/-- A page's number raised. -/
theorem RMx.up {G : Nat → Prop} {w : World} {rb N : Nat} {S : MS} {b : Int} {v : Value} {gs : List (Int × Int)} {g c j : Nat} {x : Int × Int} (h : RMx G w rb N S b v (.slice (some ⟨g, 0, none⟩) gs.length c) gs) (hj : gs[j]? = some x) (y : Int) (hy : U4 y) :
    RM G (w.setCell ⟨g, j * 2 + 1, none⟩ (.int .u32 y)) rb (N + 1) S ∧ Sq G G w (w.setCell ⟨g, j * 2 + 1, none⟩ (.int .u32 y)) := by
  have hjl := (List.getElem?_eq_some_iff.1 hj).1
  obtain ⟨q, cap, e, h1, h2, h3⟩ := h.gr
  simp at e
  obtain ⟨rfl, rfl⟩ := e
  obtain ⟨g', e2, h4, h5, h6, h7, h8⟩ := h3 (by omega)
  simp at e2
  subst e2
  have hq : Bq g w (w.setCell ⟨g, j * 2 + 1, none⟩ (.int .u32 y)) := (Bq.refl g w).set _ _
  refine ⟨⟨b, v, _, gs.set j (x.1, y), h.ok, h.box.ne (by omega) _ _, ?_, ⟨_, c, by rw [List.length_set], by rw [List.length_set]; exact h1, h2, fun h0 => ⟨g, rfl, Nat.lt_of_lt_of_le h4 hq.b0.size, ?_, h6, h7, h8⟩⟩, ?_, by rw [List.length_set]; have := h.gl; omega, h.grb, fun i hi => Nat.lt_of_lt_of_le (h.rl i hi) hq.b0.size, fun i hi => Nat.lt_of_lt_of_le (h.gb i hi) hq.b0.size⟩, (Fq.of_bq hq h6).stp⟩
  · obtain ⟨q, cap, e, k1, k2, k3⟩ := h.row
    refine ⟨q, cap, e, k1, k2, fun h0 => ?_⟩
    obtain ⟨g2, e2, k4, k5, k6, k7⟩ := k3 h0
    exact ⟨g2, e2, Nat.lt_of_lt_of_le k4 hq.b0.size, k5.ne (fun e3 => h8 (by rw [e, e2, e3]; rfl)) _ _, k6, k7⟩
  · rw [← gcl_upd hj]
    exact h5.set _ (by rw [chunk_len gcl 2 gcl_len]; omega) _
  · intro z hz
    rcases List.mem_or_eq_of_mem_set hz with hz | rfl
    · exact h.gu z hz
    · exact ⟨(h.gu x (List.mem_of_getElem? hj)).1, hy⟩
/-- A page's number put on. -/
theorem RMx.push {G : Nat → Prop} {w w3 : World} {rb N m : Nat} {S : MS} {b k : Int} {v gv : Value} {gs : List (Int × Int)} {g c : Nat} (h : RMx G w rb N S b v gv gs) (hk : U4 k) (ho : OwnR 158 2 w w3 (.slice (some ⟨g, 0, none⟩) m c) m (gs.flatMap gcl ++ [.int .u32 k, .int .u32 1])) (hm : m = gs.length + 1) (hb : Bw w w3) :
    ∃ G', RM G' (w3.setCell ⟨rb, 2, none⟩ (.slice (some ⟨g, 0, none⟩) m c)) rb (N + 1) S ∧ Sq G G' w (w3.setCell ⟨rb, 2, none⟩ (.slice (some ⟨g, 0, none⟩) m c)) := by
  have hx := h.bw hb
  have hg := ho.own g rfl
  have hrl := h.box.lt
  have hgl := h.gl
  obtain ⟨q, cap, e, e2, e3, -⟩ := ho.rd
  simp at e
  obtain ⟨rfl, rfl⟩ := e
  have hq : Bq rb w3 (w3.setCell ⟨rb, 2, none⟩ (.slice (some ⟨g, 0, none⟩) m c)) := (Bq.refl rb w3).set _ _
  have hl : (gs ++ [(k, 1)]).length = m := by rw [List.length_append, hm]; rfl
  refine ⟨fun i => G i ∨ i = g, ⟨b, v, _, gs ++ [(k, 1)], hx.ok, hx.box.set 2 (by simp) _, ?_, ⟨_, c, by rw [hl], by rw [hl]; exact e2, e3, fun h0 => ⟨g, rfl, Nat.lt_of_lt_of_le hg.2 hq.b0.size, ?_, Or.inr rfl, by omega, fun e4 => ?_⟩⟩, ?_, by rw [hl, hm]; omega, Or.inl hx.grb, fun i hi => Nat.lt_of_lt_of_le (hx.rl i hi) hq.b0.size, fun i hi => Nat.lt_of_lt_of_le (hi.elim (hx.gb i) (fun e => e ▸ hg.2)) hq.b0.size⟩, ⟨(Fq.of_bw hb).trans (Fq.of_bq hq h.grb), fun i hi e => ?_⟩⟩
  · obtain ⟨q, cap, e, k1, k2, k3⟩ := hx.row
    refine ⟨q, cap, e, k1, k2, fun h0 => ?_⟩
    obtain ⟨g2, e2, k4, k5, k6, k7⟩ := k3 h0
    exact ⟨g2, e2, Nat.lt_of_lt_of_le k4 hq.b0.size, k5.ne k7 _ _, Or.inl k6, k7⟩
  · rw [List.flatMap_append]
    exact (OwnR.box ho).ne (by omega) _ _
  · have := h.rl g e4
    omega
  · intro z hz
    rcases List.mem_append.1 hz with hz | hz
    · exact h.gu z hz
    · simp at hz; subst hz; exact ⟨hk, (⟨by decide, by decide⟩ : U4 1)⟩
  · rcases e with e | e
    · exact e
    · omega
set_option maxRecDepth 100000 in
set_option maxHeartbeats 4000000 in
theorem bump_c {G : Nat → Prop} {w : World} {rb N : Nat} {S : MS} (h : RM G w rb N S) (a : Int) (ha : U4 a) (hN : N ≤ 100000) :
    Calls Tryd.prog 76 #[.pointer (some ⟨rb, 0, none⟩), .int .u32 a] w fun e w' => e = .returned (.tuple #[]) ∧ ∃ G', RM G' w' rb (N + 1) S ∧ Sq G G' w w' := by
  obtain ⟨b, v, gv, gs, hx⟩ := h
  have c2 := hx.box.c 2 _ rfl
  have f2 := hx.box.f 2 (by simp)
  have hgl := hx.gl
  obtain ⟨q, cap, rfl, hl1, hl2, hg⟩ := hx.gr
  obtain ⟨ha1, ha2⟩ := ha
  have hw : (a - a % 256) % 4294967296 = a - a % 256 := by omega
  have hb1 : 0 ≤ a - a % 256 := by omega
  have hb2 : a - a % 256 < 4294967296 := by omega
  have HG : Hid _ := hg
  have HX : Hid _ := hx
  clear hg hx
  go_enter Tryd.func76, Tryd.ntmps76
  go_wp2_with fail
  go_loopg [5] gs.length (fun g s wr => wr = w ∧ ∃ j : Nat, j + g = gs.length ∧ s = .int .i64 j)
  case atStart => exact ⟨rfl, 0, by omega, rfl⟩
  case round =>
    obtain ⟨rfl, j, hjg, rfl⟩ := hrel
    by_cases hj : j < gs.length
    · obtain ⟨g, rfl, hgl2, hgb, -⟩ := HG.out (by omega)
      have hlt : (j : Int) < gs.length := by omega
      obtain ⟨x, hxj⟩ : ∃ x, gs[j]? = some x := ⟨_, List.getElem?_eq_getElem hj⟩
      have d1 := hgb.c (j * 2 + 0) (.int .u32 x.1) (by rw [chunk gcl 2 gcl_len _ _ _ _ hxj (by omega)]; rfl)
      have d2 := hgb.c (j * 2 + 1) (.int .u32 x.2) (by rw [chunk gcl 2 gcl_len _ _ _ _ hxj (by omega)]; rfl)
      have d3 := hgb.f (j * 2 + 1) (by rw [chunk_len gcl 2 gcl_len]; omega)
      have hu := HX.out.gu x (List.mem_of_getElem? hxj)
      have hup := fun y hy => HX.out.up hxj y hy
      obtain ⟨xb, xn⟩ := x
      dsimp only at d1 d2 hu
      rw [Nat.add_zero] at d1
      obtain ⟨⟨u0, u1⟩, u2, u3⟩ := hu
      clear hgb HG
      by_cases eb : xb = a - a % 256
      · have kb : (xb == a - a % 256) = true := by simpa using eb
        have HU : Hid _ := hup ((xn + 1) % 4294967296) ⟨by omega, by omega⟩
        clear eb hup HX
        go_wp2_with fail
        go_returns
        exact ⟨rfl, G, HU.out⟩
      · have kb : (xb == a - a % 256) = false := by simpa using eb
        clear eb hup
        go_wp2_with fail
        go_roundg (gs.length - (j + 1))
        case measure => omega
        case rel => exact ⟨rfl, j + 1, by omega, by simp⟩
    · have hlt : ¬ (j : Int) < gs.length := by omega
      have hE := OwnR.empty 158 2 (w0 := wr) (Nat.le_refl wr.heap.size)
      have hbE : Bw wr (wr.alloc (.cells #[] 158)) := (Bw.refl wr).alloc _
      have hR : RdR 2 (wr.alloc (.cells #[] 158)) (.slice q gs.length cap) gs.length (gs.flatMap gcl) := by
        refine RdR.bw ⟨q, cap, rfl, hl1, hl2, chunk_len gcl 2 gcl_len _, fun h0 => ?_⟩ hbE
        obtain ⟨g, e, h4, h5, -⟩ := HG.out h0
        exact ⟨g, 0, e, h4, fun i u hu => by rw [Nat.zero_add]; exact h5.c i u hu⟩
      obtain ⟨v1, w1, hr1, ho1, hb1w⟩ := appS (ty := 71) infoGen Tryd.underlying71 rfl (by decide) (by decide) hE hbE hR (fun u hu => by
        obtain ⟨x, _, hu⟩ := List.mem_flatMap.1 hu
        simp [gcl] at hu
        rcases hu with rfl | rfl <;> rfl) (by omega)
      rw [Nat.zero_add, List.nil_append] at ho1
      obtain ⟨v2, w2, hr2, ho2, hb2w⟩ := appR (ty := 71) infoGen Tryd.underlying71 rfl (by decide) (by decide) (OwnR.bw ho1 ((Bw.refl w1).alloc (.cells #[.int .u32 (a - a % 256), .int .u32 1] 158))) (hb1w.alloc _) ⟨w1.heap.size, 0, none⟩ 1 1 [.int .u32 (a - a % 256), .int .u32 1] rfl (cell_new w1 [.int .u32 (a - a % 256), .int .u32 1] 158) (fun u hu => by simp at hu; rcases hu with rfl | rfl <;> rfl) (by omega)
      obtain ⟨g, c, rfl⟩ := ho2.form (by omega)
      have hP := HX.out.push ⟨hb1, hb2⟩ ho2 rfl hb2w
      have hxb := (HX.out.bw hb2w).box
      have e2 := hxb.c 2 _ rfl
      have e2f := hxb.f 2 (by simp)
      have c2E := hbE.keep c2
      have HP : Hid _ := hP
      clear hP HX HG hR hE ho1 ho2 hxb hbE hb1w
      go_wp2_with (first | (at_builtin; refine wpApp rfl _ _ 71 rfl rfl rfl hr1 ?_) | (at_builtin; refine wpApp rfl _ _ 71 rfl rfl rfl hr2 ?_) | fail)
      go_returns
      exact ⟨rfl, HP.out⟩
end Go.Proofs.YtbackacbdfgdoaaDoor
namespace Go.Proofs.YtbackacbdfgdoaaDoor
open Go.ChangeShapes Go.WideShapes Go.ChangeAt Go.RowKit
set_option linter.unusedVariables false
set_option linter.unusedSimpArgs false

theorem flat_updA {α : Type} {f f' : α → List Value} {m : Nat} (hm : ∀ x, (f x).length = m) {j : Nat} (hj : j < m) {v : Value} {k : α} (hk : f' k = (f k).set j v) (ho : ∀ e, e ≠ k → f' e = f e) : ∀ (l : List α) (i : Nat), l.Nodup → l[i]? = some k → l.flatMap f' = (l.flatMap f).set (i * m + j) v := by
  intro l
  induction l with
  | nil => intro i _ h; simp at h
  | cons x r ih =>
    intro i hn h
    rw [List.nodup_cons] at hn
    cases i with
    | zero =>
      simp at h; subst h
      rw [List.flatMap_cons, List.flatMap_cons, Nat.zero_mul, Nat.zero_add, List.set_append_left _ _ (by rw [hm]; exact hj), hk]
      congr 1
      have : ∀ e ∈ r, f' e = f e := fun e he => ho e (fun h => hn.1 (h ▸ he))
      clear ih hn
      induction r with
      | nil => rfl
      | cons y t ih2 => rw [List.flatMap_cons, List.flatMap_cons, this y List.mem_cons_self, ih2 (fun e he => this e (List.mem_cons_of_mem _ he))]
    | succ i =>
      have hx : x ≠ k := fun e => hn.1 (e ▸ List.mem_of_getElem? (show r[i]? = some k by simpa using h))
      rw [List.flatMap_cons, List.flatMap_cons, List.set_append_right _ _ (by rw [hm, Nat.succ_mul]; omega), hm, show (i + 1) * m + j - m = i * m + j by rw [Nat.succ_mul]; omega, ← ih i hn.2 (by simpa using h), ho x hx]
theorem MS.ok_upd {S : MS} (h : S.Ok) {k : Int} {p p' : Pg} (hp : S.pg k = some p) (hp' : p'.Ok) : ({ S with pg := upd S.pg k (some p') } : MS).Ok := by
  refine ⟨h.budget, h.len, h.rise, h.rng, fun j => ?_, fun j q hq => ?_⟩
  · show (upd S.pg k (some p') j).isSome ↔ j ∈ S.th
    by_cases e : j = k
    · subst e
      rw [upd_same]
      exact ⟨fun _ => (h.mem j).1 (by rw [hp]; rfl), fun _ => rfl⟩
    · rw [upd_other _ _ e]; exact h.mem j
  · have hq' : upd S.pg k (some p') j = some q := hq
    by_cases e : j = k
    · subst e
      rw [upd_same] at hq'
      cases hq'
      exact hp'
    · rw [upd_other _ _ e] at hq'
      exact h.pg j q hq'
/-- The first i bytes of v laid in on that page. -/
def MS.wr (S : MS) (K : Int) (p : Pg) (o : Nat) (v : Int) (i : Nat) : MS := { S with pg := upd S.pg K (some (p.wrt o v i)) }
theorem MS.wr_ok {S : MS} (h : S.Ok) {K : Int} {p : Pg} (hp : S.pg K = some p) (o : Nat) (v : Int) (i : Nat) : (S.wr K p o v i).Ok :=
  MS.ok_upd h hp (Pg.wrt_ok (h.pg K p hp) o v i (h.pg K p hp).gen)
theorem MS.wr_pgc {S : MS} {K : Int} {p : Pg} (o : Nat) (v : Int) (i : Nat) : pgc (S.wr K p o v i) K = pgl (256 * K) p.perm (p.wrt o v i).byt := by
  unfold pgc MS.wr
  simp only [upd_same]
  rfl
theorem MS.wr_pgs {S : MS} (h : S.Ok) {K : Int} {p : Pg} {idx : Nat} (hi : S.th[idx]? = some K) (o : Nat) (v : Int) (i : Nat) (ho : o + i < 256) :
    pgs (S.wr K p o v (i + 1)) = (pgs (S.wr K p o v i)).set (idx * 258 + (2 + (o + i))) (.int .u8 (v / 256 ^ i % 256)) := by
  unfold pgs
  refine flat_updA (f := pgc (S.wr K p o v i)) (pgc_len _) (by omega) (k := K) ?_ (fun e he => ?_) S.th idx ?_ hi
  · rw [MS.wr_pgc, MS.wr_pgc, pgl_set _ _ _ ho]
    refine pgl_ext (fun j hj => ?_)
    show (if o ≤ j ∧ j < o + (i + 1) then v / 256 ^ (j - o) % 256 else p.byt j) = if j = o + i then v / 256 ^ i % 256 else if o ≤ j ∧ j < o + i then v / 256 ^ (j - o) % 256 else p.byt j
    by_cases e : j = o + i
    · subst e; rw [if_pos (by omega), if_pos rfl, show o + i - o = i by omega]
    · rw [if_neg e]
      by_cases e2 : o ≤ j ∧ j < o + i
      · rw [if_pos (by omega), if_pos e2]
      · rw [if_neg (by omega), if_neg e2]
  · unfold pgc MS.wr
    simp only [upd_other _ _ he]
  · exact h.rise.imp (fun {a b} hab => by omega)
/-- A byte written. -/
theorem RMx.byte {G : Nat → Prop} {w : World} {rb N : Nat} {S : MS} {K : Int} {p : Pg} {o i idx g c : Nat} {v b : Int} {gv : Value} {gs : List (Int × Int)} (hS : S.Ok) (hp : S.pg K = some p) (hi : S.th[idx]? = some K) (ho : o + i < 256)
    (h : RMx G w rb N (S.wr K p o v i) b (.slice (some ⟨g, 0, none⟩) S.th.length c) gv gs) :
    RMx G (w.setCell ⟨g, idx * 258 + (2 + (o + i)), none⟩ (.int .u8 (v / 256 ^ i % 256))) rb N (S.wr K p o v (i + 1)) b (.slice (some ⟨g, 0, none⟩) S.th.length c) gv gs ∧ G g := by
  have hil := (List.getElem?_eq_some_iff.1 hi).1
  obtain ⟨q, cap, e, k1, k2, k3⟩ := h.row
  simp at e
  obtain ⟨rfl, -, rfl⟩ := e
  obtain ⟨g', e2, k4, k5, k6, k7⟩ := k3 (by show 0 < S.th.length; omega)
  simp at e2
  subst e2
  have hq : Bq g w (w.setCell ⟨g, idx * 258 + (2 + (o + i)), none⟩ (.int .u8 (v / 256 ^ i % 256))) := (Bq.refl g w).set _ _
  refine ⟨⟨MS.wr_ok hS hp o v _, h.box.ne (Ne.symm k7) _ _, ⟨_, c, rfl, k1, k2, fun _ => ⟨g, rfl, Nat.lt_of_lt_of_le k4 hq.b0.size, ?_, k6, k7⟩⟩, ?_, h.gu, h.gl, h.grb, fun j hj => Nat.lt_of_lt_of_le (h.rl j hj) hq.b0.size, fun j hj => Nat.lt_of_lt_of_le (h.gb j hj) hq.b0.size⟩, k6⟩
  · rw [MS.wr_pgs hS hi o v i ho]
    refine k5.set _ ?_ _
    unfold pgs
    rw [chunk_len _ 258 (pgc_len _)]
    show _ < S.th.length * 258
    omega
  · obtain ⟨q, cap, e, j1, j2, j3⟩ := h.gr
    refine ⟨q, cap, e, j1, j2, fun h0 => ?_⟩
    obtain ⟨g2, e2, j4, j5, j6, j7, j8⟩ := j3 h0
    exact ⟨g2, e2, Nat.lt_of_lt_of_le j4 hq.b0.size, j5.ne (fun e3 => j8 (by rw [e3]; rfl)) _ _, j6, j7, j8⟩
/-- Another memory with the same pages' cells. -/
theorem RMx.as {G : Nat → Prop} {w : World} {rb N : Nat} {S T : MS} {v gv : Value} {b : Int} {gs : List (Int × Int)} (h : RMx G w rb N S b v gv gs) (hT : T.Ok) (ht : T.th = S.th) (hs : pgs T = pgs S) : RMx G w rb N T b v gv gs := by
  refine ⟨hT, h.box, ?_, h.gr, h.gu, h.gl, h.grb, h.rl, h.gb⟩
  obtain ⟨q, cap, e, k1, k2, k3⟩ := h.row
  rw [ht, hs]
  exact ⟨q, cap, e, k1, k2, k3⟩
theorem RM.mono {G : Nat → Prop} {w : World} {rb N M : Nat} {S : MS} (h : RM G w rb N S) (hm : N ≤ M) : RM G w rb M S := by
  obtain ⟨b, v, gv, gs, h⟩ := h
  exact ⟨b, v, gv, gs, h.ok, h.box, h.row, h.gr, h.gu, Nat.le_trans h.gl hm, h.grb, h.rl, h.gb⟩
/-! ### the tie to the reference's own words -/
structure RTi (S : MS) (ps : List RPg) : Prop where
  len : ps.length = S.th.length
  pg : ∀ (i : Nat) (k : Int), S.th[i]? = some k → ∃ p, S.pg k = some p ∧ ps[i]? = some ⟨256 * k, p.perm, p.byt⟩
theorem pair_ltI {l : List Int} (h : l.Pairwise (· < ·)) {i j : Nat} {x y : Int} (hij : i < j) (hx : l[i]? = some x) (hy : l[j]? = some y) : x < y := by
  obtain ⟨hi, rfl⟩ := List.getElem?_eq_some_iff.1 hx
  obtain ⟨hj, rfl⟩ := List.getElem?_eq_some_iff.1 hy
  exact List.pairwise_iff_getElem.1 h i j hi hj hij
theorem RTi.some {S : MS} {ps : List RPg} (h : RTi S ps) (hS : S.Ok) {k : Int} {p : Pg} (hk : S.pg k = some p) :
    phas ps (256 * k) = true ∧ ps[plb ps (256 * k)]? = some ⟨256 * k, p.perm, p.byt⟩ ∧ S.th[plb ps (256 * k)]? = some k ∧ pperm ps (256 * k) = p.perm := by
  have hm : k ∈ S.th := (hS.mem k).1 (by rw [hk]; rfl)
  obtain ⟨i, hi⟩ := List.getElem?_of_mem hm
  obtain ⟨p', hp', hx⟩ := h.pg i k hi
  rw [hk] at hp'
  cases hp'
  have hil : i ≤ ps.length := by have := (List.getElem?_eq_some_iff.1 hx).1; omega
  have hl : plb ps (256 * k) = i := by
    refine plb_at hil (fun j y hj hy => ?_) (fun y hy => ?_)
    · have hjl : j < S.th.length := by have := (List.getElem?_eq_some_iff.1 hy).1; have := h.len; omega
      have hj2 : S.th[j]? = Option.some S.th[j] := List.getElem?_eq_getElem hjl
      obtain ⟨p2, _, hy2⟩ := h.pg j _ hj2
      rw [hy2] at hy
      cases hy
      have := pair_ltI hS.rise hj hj2 hi
      show 256 * S.th[j] < 256 * k
      omega
    · rw [hx] at hy
      cases hy
      show ¬ (256 * k < 256 * k)
      omega
  have hh : phas ps (256 * k) = true := by unfold phas; rw [hl, hx]; simp
  refine ⟨hh, by rw [hl]; exact hx, by rw [hl]; exact hi, ?_⟩
  unfold pperm
  rw [hh, hl, hx]; rfl
theorem RTi.none {S : MS} {ps : List RPg} (h : RTi S ps) (_ : S.Ok) {k : Int} (hk : S.pg k = Option.none) : phas ps (256 * k) = false ∧ pperm ps (256 * k) = 0 := by
  have hh : phas ps (256 * k) = false := by
    cases hp : phas ps (256 * k)
    · rfl
    · obtain ⟨x, hx, hb⟩ := phas_some hp
      have hl : plb ps (256 * k) < S.th.length := by have := (List.getElem?_eq_some_iff.1 hx).1; have := h.len; omega
      obtain ⟨p2, hp2, hy⟩ := h.pg _ _ (List.getElem?_eq_getElem hl)
      rw [hy] at hx
      cases hx
      have e : S.th[plb ps (256 * k)] = k := by
        have hb' : 256 * S.th[plb ps (256 * k)] = 256 * k := hb
        omega
      rw [e, hk] at hp2
      cases hp2
  exact ⟨hh, by unfold pperm; rw [hh]; rfl⟩
theorem page_ofI (a : Int) : a - a % 256 = 256 * (a / 256) := by omega
theorem RTi.ask {S : MS} {ps : List RPg} (h : RTi S ps) (hS : S.Ok) (a size need : Int) : rAsk ps a size need = S.ask a size need := by
  unfold rAsk MS.ask
  rw [page_ofI]
  cases hk : S.pg (a / 256) with
  | none => rw [(h.none hS hk).1]; rfl
  | some p => rw [(h.some hS hk).1, (h.some hS hk).2.2.2]; rfl
theorem RTi.load {S : MS} {ps : List RPg} (h : RTi S ps) (hS : S.Ok) (a size need : Int) : rLoad ps a size need = S.load a size need := by
  unfold rLoad MS.load
  rw [h.ask hS, page_ofI]
  cases hk : S.pg (a / 256) with
  | none =>
    have h0 : S.ask a size need ≠ 0 := by
      unfold MS.ask; rw [hk]; split <;> simp
    rw [if_neg h0, if_neg h0]
  | some p => rw [(h.some hS hk).2.1]; rfl
def rps (S : MS) : List RPg := S.th.map fun k => match S.pg k with | some p => ⟨256 * k, p.perm, p.byt⟩ | none => ⟨0, 0, fun _ => 0⟩
theorem rps_tie {S : MS} (h : S.Ok) : RTi S (rps S) := by
  refine ⟨by unfold rps; rw [List.length_map], fun i k hk => ?_⟩
  obtain ⟨p, hp⟩ := Option.isSome_iff_exists.1 ((h.mem k).2 (List.mem_of_getElem? hk))
  exact ⟨p, hp, by unfold rps; rw [List.getElem?_map, hk, Option.map_some, hp]⟩
theorem RMx.prow {G : Nat → Prop} {w : World} {rb N : Nat} {S : MS} {v gv : Value} {b : Int} {gs : List (Int × Int)} (h : RMx G w rb N S b v gv gs) : PRow w v (rps S) := by
  have hS := h.ok
  have ht := rps_tie hS
  obtain ⟨q, cap, e, k1, k2, k3⟩ := h.row
  have hlen : (rps S).length = S.th.length := ht.len
  have hx : ∀ (i : Nat) (x : RPg), (rps S)[i]? = some x → ∃ (k : Int) (p : Pg), S.th[i]? = some k ∧ S.pg k = some p ∧ x = ⟨256 * k, p.perm, p.byt⟩ := fun i x hx => by
    have hi : i < S.th.length := by have := (List.getElem?_eq_some_iff.1 hx).1; omega
    obtain ⟨p, hp, hy⟩ := ht.pg i _ (List.getElem?_eq_getElem hi)
    rw [hy] at hx
    cases hx
    exact ⟨_, p, List.getElem?_eq_getElem hi, hp, rfl⟩
  refine ⟨q, cap, by rw [hlen]; exact e, fun x hm => ?_, by rw [hlen]; have := hS.len; have := hS.budget; omega, fun h0 => ?_⟩
  · obtain ⟨i, hi⟩ := List.getElem?_of_mem hm
    obtain ⟨k, p, a1, a2, rfl⟩ := hx i x hi
    have hr := hS.rng k (List.mem_of_getElem? a1)
    have ho := hS.pg k p a2
    exact ⟨⟨by show 0 ≤ 256 * k; omega, by show 256 * k < 4294967296; omega⟩, ho.perm, ho.byt⟩
  · rw [hlen] at h0
    obtain ⟨g, e2, k4, k5, -⟩ := k3 h0
    refine ⟨g, e2, fun i x hi => ?_⟩
    obtain ⟨k, p, a1, a2, rfl⟩ := hx i x hi
    have hc : ∀ j u, j < 258 → (pgl (256 * k) p.perm p.byt)[j]? = some u → w.cell? ⟨g, i * 258 + j, none⟩ = some u := fun j u hj hu => k5.c _ _ (by
      unfold pgs
      rw [chunk (pgc S) 258 (pgc_len S) _ _ _ _ a1 hj, show pgc S k = pgl (256 * k) p.perm p.byt by unfold pgc; rw [a2]]
      exact hu)
    exact ⟨by have := hc 0 _ (by omega) (pgl_b _ _ _); rwa [Nat.add_zero] at this, hc 1 _ (by omega) (pgl_p _ _ _), fun j hj => by have := hc (2 + j) _ (by omega) (pgl_y _ _ _ hj); rwa [← Nat.add_assoc] at this⟩
/-- Load. -/
theorem Load_r {G : Nat → Prop} {w : World} {rb N : Nat} {S : MS} (h : RM G w rb N S) (a size need : Int) (ha : U4 a) :
    Calls Tryd.prog 33 #[.pointer (some ⟨rb, 0, none⟩), .int .u32 a, .int .i64 size, .int .i64 need] w fun e w' => e = .returned (.tuple #[.int .u32 (S.load a size need), .int .i64 (S.ask a size need)]) ∧ Gr w w' := by
  obtain ⟨b, v, gv, gs, hx⟩ := h
  have hL := rLoad_c (hx.box.c 1 _ rfl) hx.prow a size need ha
  rw [(rps_tie hx.ok).load hx.ok, (rps_tie hx.ok).ask hx.ok] at hL
  exact hL
end Go.Proofs.YtbackacbdfgdoaaDoor
namespace Go.Proofs.YtbackacbdfgdoaaDoor
open Go.ChangeShapes Go.WideShapes Go.ChangeAt Go.RowKit
set_option linter.unusedVariables false
set_option linter.unusedSimpArgs false

theorem store_no {S : MS} {a size v : Int} (h : S.ask a size 2 ≠ 0) : S.store a size v = S := by unfold MS.store; rw [if_neg h]
theorem store_as {S : MS} {a size v : Int} {p : Pg} {n : Nat} (hS : S.Ok) (hp : S.pg (a / 256) = some p) (h0 : S.ask a size 2 = 0) (hn : size = n) : (S.store a size v).Ok ∧ (S.store a size v).th = (S.wr (a / 256) p (a % 256).toNat v n).th ∧ pgs (S.store a size v) = pgs (S.wr (a / 256) p (a % 256).toNat v n) := by
  subst hn
  unfold MS.store
  rw [if_pos h0, hp]
  simp only [Int.toNat_natCast]
  refine ⟨MS.ok_upd hS hp (Pg.wrt_ok (hS.pg _ p hp) _ v n ⟨by omega, by omega⟩), rfl, ?_⟩
  unfold pgs MS.wr
  congr 1
  funext k
  unfold pgc
  by_cases e : k = a / 256
  · subst e
    simp only [upd_same]
    try rfl
  · simp only [upd_other _ _ e]
set_option maxRecDepth 100000 in
set_option maxHeartbeats 4000000 in
theorem Store_r {G : Nat → Prop} {w : World} {rb N : Nat} {S : MS} (h : RM G w rb N S) (a size v : Int) (ha : U4 a) (hv : U4 v) (hN : N ≤ 100000) :
    Calls Tryd.prog 41 #[.pointer (some ⟨rb, 0, none⟩), .int .u32 a, .int .i64 size, .int .u32 v] w fun e w' => e = .returned (.int .i64 (S.ask a size 2)) ∧ ∃ G', RM G' w' rb (N + 1) (S.store a size v) ∧ Sq G G' w w' := by
  have hM := h
  obtain ⟨b, vv, gv, gs, hx⟩ := h
  have hS := hx.ok
  have c1 := hx.box.c 1 _ rfl
  have hA := rask_c c1 hx.prow a size 2 ha
  rw [(rps_tie hS).ask hS] at hA
  by_cases h0 : S.ask a size 2 = 0
  · have hR0 : rAskK (rps S) a size 2 = (plb (rps S) (a - a % 256) : Nat) := by unfold rAskK; rw [(rps_tie hS).ask hS, if_pos h0]
    obtain ⟨hs, hm, p, hp, hpm⟩ := ask_zero h0
    have hK := (rps_tie hS).some hS hp
    rw [page_ofI] at hR0
    rw [hR0] at hA
    obtain ⟨idx, hidx⟩ : ∃ i, plb (rps S) (256 * (a / 256)) = i := ⟨_, rfl⟩
    rw [hidx] at hA hK
    have hi := hK.2.2.1
    have hil := (List.getElem?_eq_some_iff.1 hi).1
    obtain ⟨o, ho⟩ : ∃ o : Nat, a % 256 = (o : Int) := ⟨(a % 256).toNat, by omega⟩
    obtain ⟨n, hn⟩ : ∃ n : Nat, size = n := ⟨size.toNat, by rcases hs with rfl | rfl | rfl <;> rfl⟩
    have hon : o + n ≤ 256 := by rcases hs with rfl | rfl | rfl <;> omega
    have hn4 : n ≤ 4 := by omega
    have hst := store_as (v := v) hS hp h0 hn
    rw [show (a % 256).toNat = o by omega] at hst
    have hwr0 : S.wr (a / 256) p o v 0 = S := by
      unfold MS.wr
      rw [Pg.wrt_zero]
      have : upd S.pg (a / 256) (some p) = S.pg := by
        funext k
        by_cases e : k = a / 256
        · subst e; rw [upd_same, hp]
        · rw [upd_other _ _ e]
      rw [this]
    obtain ⟨q, c, rfl, k1, k2, k3⟩ := hx.row
    obtain ⟨g, rfl, k4, k5, k6, k7⟩ := k3 (by omega)
    rw [h0] at hA ⊢
    subst hn
    have hBy := fun (X : World) (i : Nat) (hi2 : o + i < 256) (hX : RMx G X rb N (S.wr (a / 256) p o v i) b (.slice (some ⟨g, 0, none⟩) S.th.length c) gv gs) => RMx.byte hS hp hi hi2 hX
    have hFin := fun (X : World) (hX : RMx G X rb N (S.wr (a / 256) p o v n) b (.slice (some ⟨g, 0, none⟩) S.th.length c) gv gs) => (show RM G X rb N (S.store a n v) from ⟨b, _, gv, gs, hX.as hst.1 hst.2.1 hst.2.2⟩)
    have hXb := fun (X : World) (i : Nat) (hX : RMx G X rb N (S.wr (a / 256) p o v i) b (.slice (some ⟨g, 0, none⟩) S.th.length c) gv gs) => hX.row
    clear hK hR0 hidx hp hpm k1 k2 k3 k4 k5 h0
    have hidl : (idx : Int) < (S.th.length : Int) := by omega
    obtain ⟨a0, a1⟩ := ha
    obtain ⟨v0, v1⟩ := hv
    go_enter Tryd.func41, Tryd.ntmps41
    go_wp2_with fail
    refine hA.mono ?_
    rintro e w1 ⟨rfl, g1⟩
    clear hA
    have hx1 := hx.bw g1.b
    have HBy : Hid _ := hBy
    have HFin : Hid _ := hFin
    have HXb : Hid _ := hXb
    have HX1 : Hid _ := hx1
    have HW0 : Hid _ := hwr0
    have HI : Hid _ := hi
    clear hBy hFin hXb hx1 hwr0 hst hi c1 hx hM
    go_wp2_with fail
    go_loopg [11] n (fun gk s wr => ∃ i : Nat, i + gk = n ∧ s = .int .i64 i ∧ Fq G w wr ∧ RMx G wr rb N (S.wr (a / 256) p o v i) b (.slice (some ⟨g, 0, none⟩) S.th.length c) gv gs)
    case atStart => exact ⟨0, by omega, rfl, Fq.of_bw g1.b, by rw [HW0.out]; exact HX1.out⟩
    case round =>
      obtain ⟨i, hig, rfl, hF, hX⟩ := hrel
      have e1 := hX.box.c 1 _ rfl
      by_cases hi : i < n
      · have hin : (i : Int) < (n : Int) := by omega
        obtain ⟨q, cap, eq, -, -, hbx⟩ := HXb.out wr i hX
        obtain ⟨g', eg, -, hbx, -, -⟩ := hbx (by show 0 < S.th.length; omega)
        simp at eq
        obtain ⟨rfl, -, rfl⟩ := eq
        simp at eg
        subst eg
        have hpl : (pgs (S.wr (a / 256) p o v i)).length = S.th.length * 258 := chunk_len _ 258 (pgc_len _) _
        obtain ⟨u, hu⟩ : ∃ u, (pgs (S.wr (a / 256) p o v i))[idx * 258 + (2 + (o + i))]? = some u := ⟨_, List.getElem?_eq_getElem (by omega)⟩
        have d0 := hbx.c _ _ hu
        have d1 := hbx.f (idx * 258 + (2 + (o + i))) (by omega)
        rw [← Nat.add_assoc] at d0 d1
        have oi : (o : Int) + (i : Int) < 256 := by omega
        have i4 : (i : Int) < 4 := by omega
        clear hbx hpl hu
        go_wp2_with fail
        have hpw : (2 : Int) ^ (8 * i) = 256 ^ i := by
          rcases (show i = 0 ∨ i = 1 ∨ i = 2 ∨ i = 3 by omega) with rfl | rfl | rfl | rfl <;> rfl
        have hNx := (HBy.out wr i (by omega) hX).1
        rw [← hpw, ← Nat.add_assoc] at hNx
        go_roundg (n - (i + 1))
        case measure => omega
        case rel => exact ⟨i + 1, by omega, by simp, hF.trans (Fq.of_bq ((Bq.refl g wr).set _ _) k6), hNx⟩
      · obtain rfl : i = n := by omega
        have hRM := HFin.out wr hX
        have hBu := bump_c hRM a ⟨a0, a1⟩ hN
        go_wp2_with fail
        refine hBu.mono ?_
        rintro e w5 ⟨rfl, G', hG', hS'⟩
        go_wp2_with fail
        go_returns
        exact ⟨rfl, G', hG', hF.stp.trans hS'⟩
  · rw [store_no h0]
    have hn : (S.ask a size 2 != 0) = true := by simpa using h0
    go_enter Tryd.func41, Tryd.ntmps41
    go_wp2_with fail
    refine hA.mono ?_
    rintro e w1 ⟨rfl, g1⟩
    clear hA
    go_wp2_with fail
    go_returns
    exact ⟨rfl, G, (hM.bw g1.b).mono (by omega), Sq.of_bw g1.b⟩
end Go.Proofs.YtbackacbdfgdoaaDoor
