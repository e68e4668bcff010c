/- LAYER 8's walks: segments of the call's own, each with bytes of its own. -/
import Derived.Test.YtaejcbmmapcpgaaImgW5
import Derived.Test.YtaejcbmmapcpgaaBoxQ
namespace Go.Proofs.Ytaejcbmmapcpgaa
open Go.ChangeShapes Go.WideShapes Go.ChangeAt Go.RowKit

theorem Bq.ap {pb : Nat} {a w w' : World} {v v' : Value} (h : Bq pb a w) (k : Ap w w' v v') (ho : ∀ j, v.ownBlock = some j → a.heap.size ≤ j) : Bq pb a w' :=
  ⟨h.b0.trans k.b, fun i hi hn => (k.block i (Nat.lt_of_lt_of_le hi h.b0.size) (fun e => by have := ho i e; omega)).trans (h.block i hi hn)⟩
theorem OwnR.own {e sz n : Nat} {cs : List Value} {a w : World} {v : Value} (h : OwnR e sz a w v n cs) : ∀ j, v.ownBlock = some j → a.heap.size ≤ j ∧ j < w.heap.size := fun j hj => by
  rcases h.2 with ⟨h2, _⟩ | ⟨b, cap, cur, h3, h4, h5, h6⟩
  · rw [h2] at hj; simp [Value.ownBlock] at hj
  · rw [h3] at hj; simp [Value.ownBlock] at hj; subst hj; exact ⟨h4, (Array.getElem?_eq_some_iff.1 h5).1⟩
/-- append of one element onto a slice of the call's own: that slice's block alone was written. -/
theorem appA {e sz bytes : Nat} {z : Value} {t ty : TypeId} (hinf : (Try.prog.info? e).map (fun i => (i.zero, i.size, i.bytes)) = some (some z, sz, bytes)) (ht : Try.prog.underlying t = some (.slice e)) (hzs : z.cells.size = sz) (hsz : 0 < sz) (hby : bytes ≤ 100)
    {a wr : World} {v : Value} {n : Nat} {cs : List Value} (hown : OwnR e sz a wr v n cs) (hle : a.heap.size ≤ wr.heap.size) (c : Nat) (news : List Value) (hl : news.length = sz) (h1 : ∀ u ∈ news, u.oneCell' = true) (hn : n ≤ 10000) :
    ∃ v' w', (Builtin.append_ #[t, t] ty #[v, .slice (some ⟨wr.heap.size, 0, none⟩) 1 c]).run Try.prog (wr.alloc (.cells news.toArray e)) = .ok v' w' ∧ OwnR e sz a w' v' (n + 1) (cs ++ news) ∧ Ap wr w' v v' := by
  obtain ⟨i, hi, he⟩ := Option.map_eq_some_iff.1 hinf
  simp only [Prod.mk.injEq] at he
  obtain ⟨hz, hs, hb⟩ := he
  have hmul : (n + 1) * bytes ≤ 10001 * 100 := Nat.mul_le_mul (by omega) hby
  have hoA := OwnR.bw hown ((Bw.refl wr).alloc (.cells news.toArray e))
  obtain ⟨v', w', hr, ho, hg, -, hloc⟩ := run_append_own_at (P := Try.prog) (w := wr.alloc (.cells news.toArray e)) a.heap.size t ty e i z sz bytes ht hi hz hs hb hzs hsz v n cs hoA ⟨wr.heap.size, 0, none⟩ 1 c news (by omega) (cell_new wr news e) h1 (by unfold maxLen; omega) (by omega) (by simp; omega)
  refine ⟨v', w', hr, ho, (Ap.refl wr v).alloc (.cells news.toArray e) |>.trans ⟨⟨hg.os, hg.tape, hg.output, hg.size, fun k hk => by omega⟩, fun k hk hkn => hg.block k hk (fun e => hkn e.symm), ?_⟩⟩
  rcases hloc with h | h
  · exact Or.inl h
  · exact Or.inr ⟨_, Nat.le_refl _, h⟩
theorem Rd8.ap {w w' : World} {v v' u : Value} {l : List Int} (h : Rd8 w u l) (k : Ap w w' v v') (hn : ∀ b n c, u = .slice (some b) n c → 0 < n → v.ownBlock ≠ some b.block) : Rd8 w' u l := by
  obtain ⟨q, cap, h1, h2, h3, h4, h5⟩ := h
  refine ⟨q, cap, h1, h2, h3, h4, fun h0 => ?_⟩
  obtain ⟨b', o, rfl, h7, h8⟩ := h5 h0
  have hb := hn _ _ _ h1 h0
  exact ⟨b', o, rfl, Nat.lt_of_lt_of_le h7 k.b.size, fun j x hj => (k.cell (p := ⟨b', o + j, none⟩) h7 hb).trans (h8 j x hj)⟩
theorem Rd8.lt {w : World} {u : Value} {l : List Int} (h : Rd8 w u l) : ∀ b n c, u = .slice (some b) n c → 0 < n → b.block < w.heap.size := fun b n c e hn => by
  obtain ⟨q, cap, h1, h2, h3, h4, h5⟩ := h
  rw [h1] at e
  simp at e
  obtain ⟨rfl, rfl, rfl⟩ := e
  obtain ⟨b', o, h6, h7, h8⟩ := h5 hn
  simp at h6
  subst h6
  exact h7
/-- Segments of the call's own, each with bytes that lie elsewhere. -/
def SegQ (T : Nat) (a w : World) (v : Value) (l : List Img.Seg) : Prop :=
  ∃ us : List Value, us.length = l.length ∧ OwnR T 4 a w v l.length (Img.cells l us) ∧ (∀ (i : Nat) s u, l[i]? = some s → us[i]? = some u → Rd8 w u s.bytes ∧ ∀ b n c, u = .slice (some b) n c → 0 < n → a.heap.size ≤ b.block ∧ v.ownBlock ≠ some b.block) ∧ ∀ s ∈ l, Img.Wf s
theorem SegQ.nil (T : Nat) (a w : World) : SegQ T a w (.slice none 0 0) [] := ⟨[], rfl, OwnR.nil _ _ _ _, by simp, by simp⟩
theorem SegQ.bw {T : Nat} {a w w' : World} {v : Value} {l : List Img.Seg} (h : SegQ T a w v l) (g : Bw w w') : SegQ T a w' v l := by
  obtain ⟨us, h1, h2, h3, h4⟩ := h
  exact ⟨us, h1, h2.bw g, fun i s u x y => ⟨(h3 i s u x y).1.bw g, (h3 i s u x y).2⟩, h4⟩
theorem SegQ.own {T : Nat} {a w : World} {v : Value} {l : List Img.Seg} (h : SegQ T a w v l) : ∀ j, v.ownBlock = some j → a.heap.size ≤ j ∧ j < w.heap.size := by
  obtain ⟨us, h1, h2, h3, h4⟩ := h
  exact h2.own
theorem SegQ.set {T : Nat} {a w : World} {v : Value} {l : List Img.Seg} (h : SegQ T a w v l) {pb : Nat} (hp : pb < a.heap.size) (j : Nat) (x : Value) : SegQ T a (w.setCell ⟨pb, j, none⟩ x) v l := by
  obtain ⟨us, h1, h2, h3, h4⟩ := h
  exact ⟨us, h1, h2.set hp j x, fun i s u y z => ⟨RdR.q (h3 i s u y z).1 ((Bq.refl pb w).set j x) (fun b n c e hn => by have := ((h3 i s u y z).2 b n c e hn).1; omega), (h3 i s u y z).2⟩, h4⟩
theorem SegQ.s {T : Nat} {a w : World} {v : Value} {l : List Img.Seg} (h : SegQ T a w v l) : SegS w v l := by
  obtain ⟨us, h1, h2, h3, h4⟩ := h
  exact ⟨us, h1, h2.rd, fun i s u x y => (h3 i s u x y).1, h4⟩
theorem Img.cells_app {l : List Img.Seg} {us : List Value} (h : us.length = l.length) (s : Img.Seg) (u : Value) : Img.cells (l ++ [s]) (us ++ [u]) = Img.cells l us ++ Img.segC s u := by
  unfold Img.cells
  rw [List.zip_append h.symm, List.flatMap_append]
  simp
theorem infoSeg : (Try.prog.info? 30).map (fun i => (i.zero, i.size, i.bytes)) = some (some (.agg #[.int .u32 0, .int .u32 0, .int .i64 0, .slice none 0 0]), 4, 40) := by kernel_rfl
theorem SegQ.push {T : Nat} {t ty : TypeId} {z : Value} {bytes : Nat} (hinf : (Try.prog.info? T).map (fun i => (i.zero, i.size, i.bytes)) = some (some z, 4, bytes)) (hzs : z.cells.size = 4) (hby : bytes ≤ 100) (ht : Try.prog.underlying t = some (.slice T)) {a wr : World} {v : Value} {l : List Img.Seg} (h : SegQ T a wr v l) (hle : a.heap.size ≤ wr.heap.size) (hn : l.length ≤ 1000) (s : Img.Seg) (hs : Img.Wf s) (q : Option Addr) (k c0 : Nat) (hu : Rd8 wr (.slice q k c0) s.bytes) (hf : ∀ b, q = some b → 0 < k → a.heap.size ≤ b.block ∧ v.ownBlock ≠ some b.block) (c : Nat) :
    ∃ v' w', (Builtin.append_ #[t, t] ty #[v, .slice (some ⟨wr.heap.size, 0, none⟩) 1 c]).run Try.prog (wr.alloc (.cells (Img.segC s (.slice q k c0)).toArray T)) = .ok v' w' ∧ SegQ T a w' v' (l ++ [s]) ∧ Ap wr w' v v' := by
  obtain ⟨us, h1, h2, h3, h4⟩ := h
  obtain ⟨v', w', hr, ho, hA⟩ := appA (ty := ty) hinf ht hzs (by omega) hby h2 hle c (Img.segC s (.slice q k c0)) rfl (fun x hx => by simp [Img.segC] at hx; rcases hx with rfl | rfl | rfl | rfl <;> rfl) (by omega)
  have hne : ∀ {b : Addr}, b.block < wr.heap.size → v.ownBlock ≠ some b.block → v'.ownBlock ≠ some b.block := fun {b} hb hv e => by
    rcases hA.own with h | ⟨n, hn, h⟩
    · exact hv (h ▸ e)
    · rw [h] at e; simp at e; omega
  refine ⟨v', w', hr, ⟨us ++ [.slice q k c0], by simp [h1], by rw [Img.cells_app h1, List.length_append]; exact ho, fun i s' u' x y => ?_, fun s' hs' => ?_⟩, hA⟩
  · by_cases hi : i < l.length
    · rw [List.getElem?_append_left hi] at x
      rw [List.getElem?_append_left (by omega)] at y
      obtain ⟨e1, e2⟩ := h3 i s' u' x y
      exact ⟨e1.ap hA (fun b n c e hn => (e2 b n c e hn).2), fun b n c e hn => ⟨(e2 b n c e hn).1, hne (e1.lt b n c e hn) (e2 b n c e hn).2⟩⟩
    · have hi2 := (List.getElem?_eq_some_iff.1 x).1
      simp at hi2
      obtain rfl : i = l.length := by omega
      simp at x
      rw [← h1] at y
      simp at y
      subst x y
      exact ⟨hu.ap hA (fun b n c e hn => by simp at e; exact (hf b e.1 (by omega)).2), fun b n c e hn => by simp at e; exact ⟨(hf b e.1 (by omega)).1, hne (hu.lt b n c (by simp [e]) hn) (hf b e.1 (by omega)).2⟩⟩
  · rcases List.mem_append.1 hs' with h | h
    · exact h4 s' h
    · simp at h; subst h; exact hs
/-- Behind writes into a box that was there ahead of them. -/
theorem SegQ.q {T : Nat} {a w w' : World} {v : Value} {l : List Img.Seg} {pb : Nat} (h : SegQ T a w v l) (hp : pb < a.heap.size) (g : Bq pb w w') : SegS w' v l := by
  obtain ⟨us, h1, h2, h3, h4⟩ := h
  refine ⟨us, h1, RdR.q h2.rd g (fun b n c e hn => ?_), fun i s u x y => RdR.q (h3 i s u x y).1 g (fun b n c e hn => by have := ((h3 i s u x y).2 b n c e hn).1; omega), h4⟩
  have := (h2.own b.block (by rw [e]; rfl)).1
  omega
end Go.Proofs.Ytaejcbmmapcpgaa
