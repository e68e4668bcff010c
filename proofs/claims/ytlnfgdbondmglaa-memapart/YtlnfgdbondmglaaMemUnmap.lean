/- THE WALKS OF LAYER 3: Unmap. -/
import Derived.Test.YtlnfgdbondmglaaMemDel
namespace Go.Proofs.Ytlnfgdbondmglaa
open Go.ChangeShapes Go.WideShapes Go.ChangeAt Go.RowKit
set_option linter.unusedSimpArgs false
set_option linter.unusedVariables false

def genOf (S : MS) (k : Int) : Int := match S.pg k with | some p => (p.gen + 1) % 4294967296 | none => S.gone k
/-- The memory behind an Unmap. -/
def MS.unmap (S : MS) (f : Int) (c : Nat) : MS :=
  ⟨S.budget, S.th.take (lb S.th f) ++ S.th.drop (lb S.th (f + c)), fun k => if k ∈ stl S.th f c then none else S.pg k, fun k => if k ∈ stl S.th f c then genOf S k else S.gone k⟩
theorem mem_unmap {th : List Int} (hs : th.Pairwise (· < ·)) {f : Int} {c : Nat} {k : Int} : k ∈ th.take (lb th f) ++ th.drop (lb th (f + c)) ↔ k ∈ th ∧ k ∉ stl th f c := by
  have e : th = th.take (lb th f) ++ (stl th f c ++ th.drop (lb th (f + c))) := by
    have h1 := lb_mono hs (show f ≤ f + c by omega)
    unfold stl
    rw [show th.drop (lb th (f + c)) = (th.drop (lb th f)).drop (lb th (f + c) - lb th f) by rw [List.drop_drop]; congr 1; omega, List.take_append_drop, List.take_append_drop]
  have hnd : th.Nodup := hs.imp (fun h => by omega)
  rw [e] at hnd
  rw [List.nodup_append] at hnd
  obtain ⟨_, n2, n3⟩ := hnd
  rw [List.nodup_append] at n2
  obtain ⟨_, _, n4⟩ := n2
  constructor
  · intro hk
    refine ⟨?_, fun hx => ?_⟩
    · rw [e]
      rcases List.mem_append.1 hk with h | h
      · exact List.mem_append.2 (.inl h)
      · exact List.mem_append.2 (.inr (List.mem_append.2 (.inr h)))
    · rcases List.mem_append.1 hk with h | h
      · exact n3 k h k (List.mem_append.2 (.inl hx)) rfl
      · exact n4 k hx k h rfl
  · rintro ⟨h1, h2⟩
    rw [e] at h1
    rcases List.mem_append.1 h1 with h | h
    · exact List.mem_append.2 (.inl h)
    · rcases List.mem_append.1 h with h | h
      · exact absurd h h2
      · exact List.mem_append.2 (.inr h)
theorem MS.unmap_ok {S : MS} (h : S.Ok) (f : Int) (c : Nat) : (S.unmap f c).Ok := by
  have sub : (S.th.take (lb S.th f) ++ S.th.drop (lb S.th (f + c))).Sublist S.th := by
    have h1 := lb_mono h.rise (show f ≤ f + c by omega)
    have : S.th = S.th.take (lb S.th f) ++ S.th.drop (lb S.th f) := (List.take_append_drop _ _).symm
    conv => rhs; rw [this]
    refine List.Sublist.append (List.Sublist.refl _) ?_
    rw [show S.th.drop (lb S.th (f + c)) = (S.th.drop (lb S.th f)).drop (lb S.th (f + c) - lb S.th f) by rw [List.drop_drop]; congr 1; omega]
    exact List.drop_sublist _ _
  refine ⟨h.budget, ?_, h.rise.sublist sub, fun k hk => h.rng k (sub.subset hk), fun k => ?_, fun k p hk => ?_⟩
  · have := sub.length_le
    have := h.len
    simp only [MS.unmap]; omega
  · simp only [MS.unmap]
    rw [mem_unmap h.rise]
    by_cases e : k ∈ stl S.th f c
    · rw [if_pos e]; simp [e]
    · rw [if_neg e, h.mem]; simp [e]
  · simp only [MS.unmap] at hk
    by_cases e : k ∈ stl S.th f c
    · rw [if_pos e] at hk; cases hk
    · rw [if_neg e] at hk; exact h.pg k p hk

structure UmRel (w2 : World) (L : Lay) (N : Nat) (S : MS) (l : List Int) (m : Nat) (wr : World) : Prop where
  fr : Fr (fun i => i = L.bp ∨ i = L.bg) w2 wr
  pm : PMap wr L.bp N (fun k => if k ∈ l.take m then none else L.bk k)
  gm : UMap wr L.bg (N + m) (fun k => if k ∈ l.take m then genOf S k else S.gone k)

theorem Unmap_fin {w w2 wr w5 : World} {mb : Nat} {F : Nat → Prop} {N : Nat} {S : MS} {L : Lay} {f : Int} {c : Nat} {v' : Value} (h2 : OwnL w2 mb F N S L) (h0 : Fr F w w2)
    (hR : UmRel w2 L N S (stl S.th f c) (stl S.th f c).length wr) (hrow : w5.ownsRow 0 28 1 v' (S.unmap f c).th.length ((S.unmap f c).th.map (Value.int .u32)))
    (hfr : Fr (fun k => L.v.ownBlock = some k) wr w5) (hat : v'.ownBlock = L.v.ownBlock) {M : Nat} (hM : N + (stl S.th f c).length ≤ M) :
    Fr F w (w5.setCell ⟨mb, 1, none⟩ v') ∧ OwnL (w5.setCell ⟨mb, 1, none⟩ v') mb F M (S.unmap f c) ⟨v', L.bp, L.bg, fun k => if k ∈ stl S.th f c then none else L.bk k⟩ := by
  have hpm := hR.pm
  have hgm := hR.gm
  rw [List.take_length] at hpm hgm
  have lm := h2.lt _ h2.Fm
  have lp := h2.lt _ h2.Fp
  have lg := h2.lt _ h2.Fg
  obtain ⟨ep, cp, op⟩ := h2.pm.isMapObj
  obtain ⟨eg, cg, og⟩ := h2.gm.isMapObj
  have top := h2.top
  have nmp : mb ≠ L.bp := fun e => by rw [e, op] at top; simp at top
  have nmg : mb ≠ L.bg := fun e => by rw [e, og] at top; simp at top
  have nmv : ∀ g, L.v.ownBlock = some g → g ≠ mb ∧ g ≠ L.bp ∧ g ≠ L.bg := fun g hg => by
    obtain ⟨cc, oc⟩ := row_obj h2.row hg
    exact ⟨fun e => by rw [← e, oc] at top; simp at top, fun e => by rw [← e, oc] at op; simp at op, fun e => by rw [← e, oc] at og; simp at og⟩
  have szr := hR.fr.size
  have sz5 := hfr.size
  have szs : (w5.setCell ⟨mb, 1, none⟩ v').heap.size = w5.heap.size := by simp
  have FR : Fr F w2 (w5.setCell ⟨mb, 1, none⟩ v') := by
    refine Fr.setCell ?_ (.inl h2.Fm) _
    refine (hR.fr.mono (fun i _ e => ?_)).trans hfr (fun i _ e => h2.Fv i e)
    rcases e with e | e
    · rw [e]; exact h2.Fp
    · rw [e]; exact h2.Fg
  have keep : ∀ i, i < wr.heap.size → i ≠ mb → L.v.ownBlock ≠ some i → (w5.setCell ⟨mb, 1, none⟩ v').heap[i]? = wr.heap[i]? := fun i hi n1 n2 => by
    rw [Below.heap_setCell _ _ _ _ n1]; exact hfr.block i hi n2
  have top5 : w5.heap[mb]? = some (.cells #[.int .i64 S.budget, L.v, .map (some L.bp), .map (some L.bg)] 64 (0, 0)) := by
    rw [hfr.block mb (by omega) (fun e => (nmv _ e).1 rfl), hR.fr.block mb lm (by simp [nmp, nmg])]; exact top
  refine ⟨h0.trans FR (fun _ _ h => h), ?_⟩
  exact {
    top := by rw [heap_setCell_same top5]; rfl
    row := by
      refine row_congr hrow (fun g hg => Below.heap_setCell _ _ _ _ ?_)
      intro e
      obtain ⟨cc, oc⟩ := row_obj hrow hg
      rw [show g = mb from e, top5] at oc
      simp at oc
    pm := (hpm.congr (keep _ (by omega) (Ne.symm nmp) (fun e => (nmv _ e).2.1 rfl))).mono (by omega)
    gm := (hgm.congr (keep _ (by omega) (Ne.symm nmg) (fun e => (nmv _ e).2.2 rfl))).mono hM
    ne := h2.ne
    pgs := fun k b hb => by
      by_cases e : k ∈ stl S.th f c
      · simp [e] at hb
      · have hb' : L.bk k = some b := by simpa [e] using hb
        obtain ⟨p, y1, y2, y3⟩ := h2.pgs k b hb'
        have yl := h2.lt b y3
        refine ⟨p, (if_neg e).trans y1, ?_, y3⟩
        have n1 : b ≠ mb := fun e => by rw [e] at y2; rw [show w2.heap[mb]? = _ from y2] at top; simp at top
        have n2 : L.v.ownBlock ≠ some b := fun e => by obtain ⟨cc, oc⟩ := row_obj h2.row e; rw [show w2.heap[b]? = _ from y2] at oc; simp at oc
        have n3 : b ≠ L.bp := fun e => by rw [← e, show w2.heap[b]? = _ from y2] at op; simp at op
        have n4 : b ≠ L.bg := fun e => by rw [← e, show w2.heap[b]? = _ from y2] at og; simp at og
        exact ((keep b (by omega) n1 n2).trans (hR.fr.block b yl (by simp [n3, n4]))).trans y2
    non := fun k hk => by
      by_cases e : k ∈ stl S.th f c
      · exact if_pos e
      · have hk' : L.bk k = none := by simpa [e] using hk
        exact (if_neg e).trans (h2.non k hk')
    inj := fun k k' b e1 e2 => by
      by_cases x : k ∈ stl S.th f c
      · simp [x] at e1
      · by_cases x' : k' ∈ stl S.th f c
        · simp [x'] at e2
        · exact h2.inj k k' b (by simpa [x] using e1) (by simpa [x'] using e2)
    Fm := h2.Fm
    Fp := h2.Fp
    Fg := h2.Fg
    Fv := fun g hg => h2.Fv g (hat.symm.trans hg)
    lt := fun i hi => by have := h2.lt i hi; rw [szs]; omega
    ok := MS.unmap_ok h2.ok f c }

section
variable {w : World} {mb : Nat} {F : Nat → Prop} {N : Nat} {S : MS} {L : Lay}
theorem Unmap_bad (a n : Int) (ha : U4 a) (hn : U4 n) (hk : ¬ StOk a n) :
    Calls Try.prog 21 #[.pointer (some ⟨mb, 0, none⟩), .int .u32 a, .int .u32 n] w fun e w' => e = .returned (.int .i64 1) ∧ Gr w w' := by
  have hst := stretch_bad a n ha hn hk
  clear hk
  go_enter Try.func21, Try.ntmps21
  go_wp2_with fail
  refine (hst _).mono ?_
  rintro e w1 ⟨rfl, g1⟩
  go_wp2_with fail
  go_returns
  exact ⟨rfl, g1.alloc _ _⟩

theorem UmRel.start {w2 : World} (h2 : OwnL w2 mb F N S L) (l : List Int) : UmRel w2 L N S l 0 w2 := by
  refine ⟨Fr.refl _ _, ?_, ?_⟩
  · simpa using h2.pm
  · simpa using h2.gm
theorem UmRel.step {w2 wr w3 w4 : World} {l : List Int} {m : Nat} {x : Int} (h : UmRel w2 L N S l m wr) (hx : l[m]? = some x) {p : Pg} (hp : S.pg x = some p)
    (t3 : wr.drew.mapTurned w3 L.bg) (t4 : w3.mapTurned w4 L.bp) (hG : UMap w4 L.bg (N + m + 1) (upd (fun k => if k ∈ l.take m then genOf S k else S.gone k) x ((p.gen + 1) % 4294967296)))
    (hP : PMap w4 L.bp N (upd (fun k => if k ∈ l.take m then none else L.bk k) x none)) : UmRel w2 L N S l (m + 1) w4 := by
  refine ⟨(h.fr.drew.trans (mapTurned_fr t3 _ (.inr rfl)) (fun _ _ y => y)).trans (mapTurned_fr t4 _ (.inl rfl)) (fun _ _ y => y), ?_, ?_⟩
  · have : (upd (fun k => if k ∈ l.take m then none else L.bk k) x none) = (fun k => if k ∈ l.take (m + 1) then none else L.bk k) := by
      funext k
      unfold upd
      by_cases e : k = x
      · rw [if_pos e, if_pos ((take_succ_mem hx).2 (.inr e))]
      · rw [if_neg e]
        show (if k ∈ l.take m then none else L.bk k) = _
        by_cases c : k ∈ l.take m
        · rw [if_pos c, if_pos ((take_succ_mem hx).2 (.inl c))]
        · rw [if_neg c, if_neg (fun y => (take_succ_mem hx).1 y |>.elim c e)]
    rw [← this]; exact hP
  · have : (upd (fun k => if k ∈ l.take m then genOf S k else S.gone k) x ((p.gen + 1) % 4294967296)) = (fun k => if k ∈ l.take (m + 1) then genOf S k else S.gone k) := by
      funext k
      unfold upd
      by_cases e : k = x
      · subst e
        rw [if_pos rfl, if_pos ((take_succ_mem hx).2 (.inr rfl))]
        unfold genOf; rw [hp]
      · rw [if_neg e]
        show (if k ∈ l.take m then genOf S k else S.gone k) = _
        by_cases c : k ∈ l.take m
        · rw [if_pos c, if_pos ((take_succ_mem hx).2 (.inl c))]
        · rw [if_neg c, if_neg (fun y => (take_succ_mem hx).1 y |>.elim c e)]
    rw [← this]; exact hG

set_option maxRecDepth 100000 in
set_option maxHeartbeats 1000000 in
theorem Unmap_ok (h : OwnL w mb F N S L) (a n : Int) (ha : U4 a) (hn : U4 n) (hs : StOk a n) (c : Nat) (hc : (n + 255) / 256 = c) (f : Int) (hf : a / 256 = f) (hN : N + 4096 < maxLen) :
    Calls Try.prog 21 #[.pointer (some ⟨mb, 0, none⟩), .int .u32 a, .int .u32 n] w fun e w' => e = .returned (.int .i64 0) ∧ Fr F w w' ∧ Own w' mb F (N + 4096) (S.unmap f c) := by
  have hst := stretch_ok a n ha hn hs
  obtain ⟨hs1, _, hs3⟩ := hs
  obtain ⟨a0, a1⟩ := ha
  obtain ⟨n0, n1⟩ := hn
  have hc1 : 1 ≤ c := by omega
  rw [hc, hf] at hst hs3
  have f0 : 0 ≤ f := by omega
  have f1 : f ≤ 16777216 := by omega
  have hbud := h.ok.budget
  have hlen : S.th.length ≤ 4096 := by have := h.ok.len; omega
  have hrise := h.ok.rise
  have hij : lb S.th f ≤ lb S.th (f + c) := lb_mono hrise (by omega)
  have hjl : lb S.th (f + c) ≤ S.th.length := lb_le hrise _
  have hsl : (stl S.th f c).length = lb S.th (f + c) - lb S.th f := stl_length hrise f c
  have hmb := h.lt _ h.Fm
  have hthl : (S.unmap f c).th.length = S.th.length - (lb S.th (f + c) - lb S.th f) := by
    simp only [MS.unmap, List.length_append, List.length_take, List.length_drop]; omega
  obtain ⟨i, hi⟩ : ∃ i, i = lb S.th f := ⟨_, rfl⟩
  obtain ⟨j, hj⟩ : ∃ j, j = lb S.th (f + c) := ⟨_, rfl⟩
  rw [← hi] at hij hsl hthl
  rw [← hj] at hij hjl hsl hthl
  have hsn := stl_nodup hrise f c
  have hsat : ∀ m, m < j - i → (stl S.th f c)[m]? = S.th[i + m]? := fun m hm => by rw [stl_at hrise (by omega), hi]
  have hrowm : (S.unmap f c).th = S.th.take i ++ S.th.drop j := by rw [hi, hj]; rfl
  clear hc hf
  go_enter Try.func21, Try.ntmps21
  go_wp2_with fail
  refine (hst _).mono ?_
  rintro e w1 ⟨rfl, g1⟩
  go_wp2_with fail
  have ga : Gr w (w1.alloc (.cells #[.int .u32 f, .int .u32 c] 66)) := g1.alloc _ _
  refine (among_c (h.gr ga) f c ⟨f0, f1⟩ ⟨by omega, by omega⟩).mono ?_
  rw [← hi, ← hj]
  rintro e w2 ⟨rfl, g2⟩
  have g3 := ga.trans g2
  have h2 := h.gr g3
  have lm2 := h2.lt _ h2.Fm
  have lp := h2.lt _ h2.Fp
  have lg := h2.lt _ h2.Fg
  obtain ⟨ep, cp, op⟩ := h2.pm.isMapObj
  obtain ⟨eg, cg, og⟩ := h2.gm.isMapObj
  have nmp : mb ≠ L.bp := fun e => by rw [← e, h2.top] at op; simp at op
  have nmg : mb ≠ L.bg := fun e => by rw [← e, h2.top] at og; simp at og
  have c1 := h2.c1
  have FIN := fun wr w5 v' => @Unmap_fin w w2 wr w5 mb F N S L f c v' h2 (g3.fr F)
  have rowat : ∀ wr, UmRel w2 L N S (stl S.th f c) (stl S.th f c).length wr → wr.ownsRow 0 28 1 L.v S.th.length (S.th.map (Value.int .u32)) := fun wr hR =>
    row_congr h2.row (fun g hg => hR.fr.block g (h2.lt _ (h2.Fv g hg)) (by
        obtain ⟨cc, oc⟩ := row_obj h2.row hg
        rintro (e | e)
        · rw [← e, oc] at op; simp at op
        · rw [← e, oc] at og; simp at og))
  -- what is left behind the loop
  have TAIL : ∀ wr, UmRel w2 L N S (stl S.th f c) (stl S.th f c).length wr → wr.cell? ⟨mb, 1, none⟩ = some L.v ∧
      Calls Try.prog 46 #[L.v, .int .i64 i, .int .i64 j] wr fun e w5 => ∃ q' m' cap', e = .returned (.slice q' m' cap') ∧ w5.cell? ⟨mb, 1, none⟩ = some L.v ∧ w5.frozen? ⟨mb, 1, none⟩ = false ∧
        Fr F w (w5.setCell ⟨mb, 1, none⟩ (.slice q' m' cap')) ∧ Own (w5.setCell ⟨mb, 1, none⟩ (.slice q' m' cap')) mb F (N + 4096) (S.unmap f c) := by
    intro wr hR
    refine ⟨?_, ?_⟩
    · rw [hR.fr.cell (p := ⟨mb, 1, none⟩) lm2 (by show ¬ (mb = _ ∨ mb = _); simp [nmp, nmg])]; exact c1
    · refine (Delete_c (rowat wr hR) hlen i j hij hjl).mono ?_
      rintro e w5 ⟨v', rfl, rw5, fr5, at5⟩
      obtain ⟨q', cap', rfl⟩ := row_shape rw5
      have top5 : w5.heap[mb]? = some (.cells #[.int .i64 S.budget, L.v, .map (some L.bp), .map (some L.bg)] 64 (0, 0)) := by
        rw [fr5.block mb (Nat.lt_of_lt_of_le lm2 hR.fr.size) (fun e => by obtain ⟨cc, oc⟩ := row_obj h2.row e; rw [h2.top] at oc; simp at oc), hR.fr.block mb lm2 (by simp [nmp, nmg])]; exact h2.top
      refine ⟨q', _, cap', rfl, by simp [World.cell?, top5], by simp [World.frozen?, top5], ?_⟩
      have HF := FIN wr w5 _ hR (by rw [hthl, hrowm]; exact rw5) fr5 at5 (M := N + 4096) (by omega)
      exact ⟨HF.1, _, HF.2⟩
  clear FIN rowat
  have s1 : w2.cell? ⟨w1.heap.size, 1, none⟩ = some (.int .u32 c) := g2.keep (by simp)
  rcases row_cells h.row with ⟨hnil, hv⟩ | ⟨g, cap, hv, hcell⟩
  · obtain rfl : j = 0 := by rw [hnil] at hjl; simpa using hjl
    obtain rfl : i = 0 := by omega
    have hR0 : UmRel w2 L N S (stl S.th f c) (stl S.th f c).length w2 := by rw [hsl]; exact UmRel.start h2 _
    obtain ⟨_, TL⟩ := TAIL w2 hR0
    rw [hv] at c1 TL
    clear hi hj hnil hsl hthl hsat hij hjl TAIL
    go_wp2_with fail
    refine wp_loop_rounds 1 ?_
    rw [rounds_succ]
    go_wp2_with fail
    refine TL.mono ?_
    rintro e w5 ⟨q', m', cap', rfl, k5, z5, HF1, HF2⟩
    clear TL
    go_wp2_with fail
    go_returns
    exact ⟨rfl, HF1, HF2⟩
  · have hcap : S.th.length ≤ cap := by
      rcases h.row.2 with ⟨_, e⟩ | ⟨_, _, _, e, _, _, e2, _⟩
      · rw [hv] at *; rename_i e0; cases e0
      · rw [hv] at e; cases e; exact e2
    rw [hv] at c1 TAIL
    obtain ⟨n3, hn3⟩ : ∃ n3, n3 = S.th.length := ⟨_, rfl⟩
    rw [← hn3] at c1 TAIL hcap hjl hlen
    have HN3 : Hid _ := hn3
    have HI : Hid _ := hi
    have HJ : Hid _ := hj
    clear hn3 hi hj
    by_cases hije : i = j
    · subst hije
      have hR0 : UmRel w2 L N S (stl S.th f c) (stl S.th f c).length w2 := by rw [hsl, Nat.sub_self]; exact UmRel.start h2 _
      obtain ⟨_, TL⟩ := TAIL w2 hR0
      obtain ⟨A, hA⟩ : ∃ A : Addr, (if cap = i then some (⟨g, 0, none⟩ : Addr) else some ⟨g, i, none⟩) = some A := by
        by_cases c : cap = i
        · exact ⟨_, if_pos c⟩
        · exact ⟨_, if_neg c⟩
      go_wp2_with fail
      refine wp_loop_rounds 1 ?_
      rw [rounds_succ]
      go_wp2_with fail
      refine TL.mono ?_
      rintro e w5 ⟨q', m', cap', rfl, k5, z5, HF1, HF2⟩
      clear TL TAIL
      go_wp2_with fail
      go_returns
      exact ⟨rfl, HF1, HF2⟩
    · have hlt : i < j := by omega
      have hci : ¬ cap = i := by omega
      obtain ⟨d, hd⟩ : ∃ d, d = j - i := ⟨_, rfl⟩
      rw [← hd] at hsat hsl
      have HD : Hid (d = j - i) := hd
      have hji : (j : Int) - (i : Int) = (d : Int) := by omega
      clear hd
      go_wp2_with fail
      go_loopw [36] (fun x wr => ∃ m : Nat, m ≤ d ∧ x = .int .i64 m ∧ UmRel w2 L N S (stl S.th f c) m wr) (fun x _ => d - (intOf x).toNat)
      case atStart => exact ⟨0, Nat.zero_le _, rfl, UmRel.start h2 _⟩
      case round =>
        obtain ⟨m, hm, rfl, hR⟩ := hrel
        by_cases hmc : m = d
        · have hR0 : UmRel w2 L N S (stl S.th f c) (stl S.th f c).length wr := by rw [hsl, ← hmc]; exact hR
          obtain ⟨kk, TL⟩ := TAIL wr hR0
          subst hmc
          clear TAIL hsat
          go_wp2_with fail
          refine TL.mono ?_
          rintro e w5 ⟨q', m', cap', rfl, k5, z5, HF1, HF2⟩
          clear TL
          go_wp2_with fail
          go_returns
          exact ⟨rfl, HF1, HF2⟩
        · have hlt1 : (m : Int) < (d : Int) := by omega
          have hlt2 : m < d := by omega
          have hdd := HD.out
          have him : i + m < S.th.length := by have := HN3.out; omega
          have hg0 : L.v.ownBlock = some g := by rw [hv]; rfl
          obtain ⟨cc, oc⟩ := row_obj h2.row hg0
          have hgl : g < w2.heap.size := h2.lt _ (h2.Fv g hg0)
          have hx0 := hsat m hlt2
          rw [List.getElem?_eq_getElem him] at hx0
          obtain ⟨x, hx⟩ : ∃ x, x = S.th[i + m] := ⟨_, rfl⟩
          rw [← hx] at hx0
          have hd2 : wr.cell? ⟨g, i + m, none⟩ = some (.int .u32 x) := by
            rw [hR.fr.cell (p := ⟨g, i + m, none⟩) hgl (by rintro (e | e); rw [← e] at op; rw [oc] at op; simp at op; rw [← e] at og; rw [oc] at og; simp at og), g3.cell g _ (by
              have := h.lt _ (h.Fv g hg0); exact this), hcell (i + m) him, hx]
            simp [him]
          have hmem : x ∈ S.th := by rw [hx]; exact List.getElem_mem _
          have hrng := h.ok.rng x hmem
          have hx4 : U4 x := ⟨by omega, by omega⟩
          obtain ⟨p, hpg⟩ : ∃ p, S.pg x = some p := Option.isSome_iff_exists.1 ((h.ok.mem x).2 hmem)
          obtain ⟨b, hb, hq, hFb⟩ := h2.pgb hpg
          have nbp : b ≠ L.bp := fun e => by rw [← e, show w2.heap[b]? = _ from hq] at op; simp at op
          have nbg : b ≠ L.bg := fun e => by rw [← e, show w2.heap[b]? = _ from hq] at og; simp at og
          have hq2 : IsPg wr b p := (hR.fr.block b hq.lt (by simp [nbp, nbg])).trans hq
          have hgen := hq2.gen
          have hfx : (if x ∈ (stl S.th f c).take m then none else L.bk x) = some b := by rw [if_neg (not_in_take hsn hx0)]; exact hb
          have hl0 : (Instr.lookup 61 (.map (some L.bp)) (.int .u32 x) false).run Try.prog wr = .ok (.pointer (some ⟨b, 0, none⟩)) wr := by
            have := hR.pm.look1 hx4
            rw [hfx] at this; exact this
          have hl1 : (Instr.lookup 61 (.map (some L.bp)) (.int .u32 x) false).run Try.prog wr.drew = .ok (.pointer (some ⟨b, 0, none⟩)) wr.drew := by
            have := (hR.pm.congr (w' := wr.drew) rfl).look1 hx4
            rw [hfx] at this; exact this
          have k2 : wr.cell? ⟨mb, 2, none⟩ = some (.map (some L.bp)) := by
            rw [hR.fr.cell (p := ⟨mb, 2, none⟩) lm2 (by show ¬ (mb = _ ∨ mb = _); simp [nmp, nmg])]; exact h2.c2
          have k3 : wr.cell? ⟨mb, 3, none⟩ = some (.map (some L.bg)) := by
            rw [hR.fr.cell (p := ⟨mb, 3, none⟩) lm2 (by show ¬ (mb = _ ∨ mb = _); simp [nmp, nmg])]; exact h2.c3
          have hu : U4 ((p.gen + 1) % 4294967296) := by unfold U4; omega
          have hmn : N + m < maxLen := by have := HN3.out; omega
          obtain ⟨w3, hrun, hG3, hT3⟩ := (hR.gm.congr (w' := wr.drew) rfl).store hmn hx4 hu
          have hg3 := hT3.grown
          have sz3 := hR.fr.size
          have hP3 := hR.pm.congr (w' := w3) (hg3.block L.bp (show L.bp < wr.heap.size by omega) (fun e => h2.ne (Option.some.inj e)))
          have k2' : w3.cell? ⟨mb, 2, none⟩ = some (.map (some L.bp)) := by
            rw [World.cell?_of_block (w := wr) (a := ⟨mb, 2, none⟩) (hg3.block mb (show mb < wr.heap.size by omega) (fun e => nmg (Option.some.inj e)))]; exact k2
          obtain ⟨w4, hdr, hP4, hT4⟩ := hP3.drop hx4 0
          have hG4 := hG3.congr (w' := w4) (hT4.grown.block L.bg (by have := hg3.size; simp only [World.size_drew] at this; omega) (fun e => h2.ne (Option.some.inj e).symm))
          have ST := hR.step hx0 hpg hT3 hT4 hG4 hP4
          clear hx hx0 hfx hG3 hG4 hP3 hP4 hT3 hg3 hT4 TAIL hsat hcell hmc hdd hq hq2
          go_wp2_with fail
          go_region
          go_wp2_with fail
          go_roundw
          case rel => exact ⟨m + 1, by omega, by simp, ST⟩
          case measure => simp [intOf]; omega
end
end Go.Proofs.Ytlnfgdbondmglaa
