/- LAYER 11's walks: Read. -/
import Derived.Test.YtaepjlaegldkhaaFilW7
import Derived.Test.YtaepjlaegldkhaaFeeW7
namespace Go.Proofs.Ytaepjlaegldkhaa
open Go.ChangeShapes Go.WideShapes Go.ChangeAt Go.RowKit

theorem Fee.take_range {sh : List Int} (h : ∀ x ∈ sh, 0 ≤ x) (a : Nat) {n : Int} (hn : 0 ≤ n) : 0 ≤ (Fee.take sh a n).1 ∧ (Fee.take sh a n).1 ≤ n := by
  unfold Fee.take
  rw [if_neg (by omega)]
  cases hm : sh[a]? with
  | none => dsimp only; omega
  | some m =>
    have := h m (List.mem_of_getElem? hm)
    dsimp only; omega
theorem FS.take {w0 w : World} {fb : Nat} {A : Nat → Prop} {s : Fil.St} (h : FS w0 w fb A s) (n : Int) : ∃ ub, w.cell? ⟨fb, 0, none⟩ = some (.pointer (some ⟨ub, 0, none⟩)) ∧ Calls Try.prog 33 #[.pointer (some ⟨ub, 0, none⟩), .int .i64 n] w fun e w' => e = .returned (.int .i64 (Fee.take s.sh s.a n).1) ∧ FS w0 w' fb A { s with a := (Fee.take s.sh s.a n).2 } ∧ Fz A w w' := by
  obtain ⟨ub, v1, v2, vs, us, h⟩ := h
  refine ⟨ub, h.box.c 0 _ rfl, (Take_c w ub s.sh s.rd s.ck s.a s.b s.c h.use h.ok.l1 n).mono ?_⟩
  rintro e w' ⟨rfl, hu, hq, hk⟩
  obtain ⟨r1, r2⟩ := h.onUb hq hu hk
  exact ⟨rfl, ⟨_, _, _, _, _, r1⟩, r2⟩
/-- A part is copied. -/
theorem copy_part {w X : World} {rd : List Int} {b n g : Nat} (hO : Own8 w X (.slice (some ⟨g, 0, none⟩) n n) (List.replicate n 0)) (hg : w.heap.size ≤ g) (hb : Bw w X) {q : Option Addr} {cap : Nat} (hR : Rd8 w (.slice q rd.length cap) rd) (lb : b ≤ rd.length) {q' : Option Addr} (hq : ∀ b' o, q = some ⟨b', o, none⟩ → b < rd.length → q' = some ⟨b', o + b, none⟩) (hn : n ≤ rd.length - b) :
    ∃ w2, (Builtin.copy_ #[25, 25] 3 #[.slice (some ⟨g, 0, none⟩) n n, .slice q' (rd.length - b) (cap - b)]).run Try.prog X = .ok (.int .i64 n) w2 ∧ Own8 w w2 (.slice (some ⟨g, 0, none⟩) n n) ((rd.drop b).take n) ∧ Bw w w2 := by
  have hmin : min (rd.length - b) n = n := by omega
  by_cases hm : 0 < n
  · obtain ⟨q1, cap1, e1, hc1, hc2, hcell⟩ := hR.open
    simp at e1
    obtain ⟨rfl, rfl⟩ := e1
    obtain ⟨b', o, rfl, hb'lt, hcc⟩ := hcell (by omega)
    obtain rfl := hq _ _ rfl (by omega)
    have hlen : ((rd.drop b).take n).length = n := by rw [List.length_take, List.length_drop]; omega
    obtain ⟨hcp, hO2, hB2⟩ := cp8 (l := List.replicate n 0) (by rw [List.length_replicate]; exact hO) ⟨b', o + b, none⟩ (rd.length - b) (cap - b) ((rd.drop b).take n) (by rw [List.length_replicate, hlen]; omega) (fun j x hx => by
      rw [Addr.add_lit, Nat.add_assoc]
      have hj : j < n := by have := (List.getElem?_eq_some_iff.1 hx).1; rw [hlen] at this; exact this
      rw [List.getElem?_take_of_lt hj, List.getElem?_drop] at hx
      exact hb.keep (hcc _ _ hx)) 3
    rw [hlen] at hcp hO2
    rw [List.length_replicate] at hcp hO2
    have e0 : (List.replicate n (0 : Int)).drop n = [] := List.drop_eq_nil_of_le (by simp)
    rw [e0, List.append_nil] at hO2
    exact ⟨_, hcp, hO2, hB2 hg hb⟩
  · obtain rfl : n = 0 := by omega
    have := run_copy_none (P := Try.prog) X 25 25 3 5 (some ⟨g, 0, none⟩) q' 0 0 (rd.length - b) (cap - b) Try.underlying25 sz8 (by omega)
    exact ⟨_, this, by simpa using hO, hb⟩
set_option maxHeartbeats 4000000 in
set_option maxRecDepth 100000 in
theorem fRead_c {w0 w : World} {fb : Nat} {A : Nat → Prop} {s : Fil.St} (h : FS w0 w fb A s) (fd n : Int) (hp : ∀ (i : Nat) x, s.op[i]? = some x → x.pos ≤ 4611686018427387904) :
    Calls Try.prog 13 #[.pointer (some ⟨fb, 0, none⟩), .int .i64 fd, .int .i64 n] w fun e w' => ∃ v, e = .returned (.tuple #[v, .int .i64 (Fil.read s fd n).2.1]) ∧ Own8 w w' v (Fil.read s fd n).1 ∧ FS w0 w' fb A (Fil.read s fd n).2.2 ∧ Fz A w w' := by
  have hK := fKind_c h fd
  have HFS : Hid _ := h
  by_cases h1 : (Fil.hd s fd).kind ≠ 1
  · rw [show Fil.read s fd n = ([], -9, s) by unfold Fil.read; rw [if_pos h1]]
    have h1b : (((Fil.hd s fd).kind == 1) = false) := by simpa using h1
    generalize (Fil.hd s fd).kind = kd at *
    clear h h1
    go_enter Try.func13, Try.ntmps13
    go_wp2_with (go_at_call 32; refine hK.mono ?_; rintro e w2 ⟨rfl, hb⟩)
    go_returns
    exact ⟨_, rfl, Own8.nil _ _, FS.bw HFS hb, Fz.of_bw hb⟩
  have h1' : (Fil.hd s fd).kind = 1 := Classical.not_not.1 h1
  obtain ⟨k, x, rfl, hk16, hx, hd⟩ := h.num (fd := fd) (by rw [h1']; decide)
  rw [hd] at h1'
  have hsrc : x.src < s.srcs.length := by
    rcases h.ok.kd k x hx with e | e | e
    · rw [e] at h1'; simp at h1'
    · exact e.2
    · rw [e.1] at h1'; simp at h1'
  have hS : Fil.read s k n = (Fil.got s x n, ((Fil.got s x n).length : Int), { s with op := s.op.set k { x with pos := x.pos + (Fil.got s x n).length }, a := (Fee.take s.sh s.a (min (max n 0) 4096)).2 }) := by
    unfold Fil.read; rw [hd, if_neg (by rw [h1']; decide), Int.toNat_natCast]
  rw [hS]
  clear hS
  generalize hN : (Fil.got s x n).length = N
  rw [hd, h1'] at hK
  have hpos := hp k x hx
  have hsl := h.ok.ls.2
  obtain ⟨tr1, tr2⟩ := Fee.take_range h.ok.sh s.a (n := min (max n 0) 4096) (by omega)
  have hgot : Fil.got s x n = ((Fil.data s x).drop x.pos).take (Fee.take s.sh s.a (min (max n 0) 4096)).1.toNat := rfl
  generalize hT : min (max n 0) 4096 = T at *
  obtain ⟨m, hm⟩ : ∃ m : Nat, (Fee.take s.sh s.a T).1 = m := ⟨(Fee.take s.sh s.a T).1.toNat, by omega⟩
  rw [hm, Int.toNat_natCast] at hgot
  have hTk := fun X (g : Bw w X) => (h.bw g).take T
  have hki : (k : Int) < 16 := by omega
  clear h hd hp h1
  go_enter Try.func13, Try.ntmps13
  go_wp2_with (go_at_call 32; refine hK.mono ?_; rintro e w2 ⟨rfl, hb⟩; obtain ⟨ub, c0, hTake⟩ := hTk _ hb; clear hTk)
  refine hTake.mono ?_
  rintro e w3 ⟨rfl, hF3, hz3⟩
  have hz := (Fz.of_bw hb).trans hz3
  obtain ⟨⟨c0', c1, c2⟩, f0, f1, f2⟩ := hF3.cells (k := k) (x := x) hx
  obtain ⟨b, o, cap, qs, cs, d0, d1, d2, d3, d4, d5, d6⟩ := hF3.data (x := x) hsrc
  have eD : Fil.data { s with a := (Fee.take s.sh s.a T).2 } x = Fil.data s x := rfl
  rw [eD] at d1 d2 d4 d5
  have eL : ({ s with a := (Fee.take s.sh s.a T).2 } : Fil.St).srcs = s.srcs := rfl
  rw [eL] at d0 d6
  rw [hm]
  have HF3 : Hid _ := hF3
  clear hTake hF3 c0 eD eL
  obtain ⟨lo, hlo⟩ : ∃ lo, min x.pos (Fil.data s x).length = lo := ⟨_, rfl⟩
  have hloi : min (x.pos : Int) ((Fil.data s x).length : Int) = (lo : Int) := by omega
  have hlol : lo ≤ (Fil.data s x).length := by omega
  obtain ⟨q', hsl2, hq'⟩ := slice_from qs (Fil.data s x).length cs lo hlol d2
  obtain ⟨m2, hm2⟩ : ∃ m2, min m ((Fil.data s x).length - lo) = m2 := ⟨_, rfl⟩
  have hm2l : m2 ≤ (Fil.data s x).length - lo := by omega
  have hb3 : Bw w3 w3.drew := (Bw.refl w3).drew
  obtain ⟨w4, hmk, hO4, hb4⟩ := mk8 w3.drew m2 (by omega)
  obtain ⟨w5, hcp, hO5, hb5⟩ := copy_part hO4 (Nat.le_refl _) hb4 (d4.bw hb3) hlol hq' hm2l
  have hsz : w3.drew.heap.size = w3.heap.size := rfl
  rw [hsz] at hcp hO5
  have hB35 : Bw w3 w5 := hb3.trans hb5
  have hF5 := (show FS w0 w3 fb A _ from HF3).bw hB35
  obtain ⟨⟨e0, e1, e2⟩, g0, g1, g2⟩ := hF5.cells (k := k) (x := x) hx
  have hgl : (Fil.data s x).drop lo = (Fil.data s x).drop x.pos := by
    by_cases hpl : x.pos ≤ (Fil.data s x).length
    · rw [show lo = x.pos by omega]
    · rw [List.drop_eq_nil_of_le (by omega), List.drop_eq_nil_of_le (by omega)]
  have hge : ((Fil.data s x).drop lo).take m2 = Fil.got s x n := by
    rw [hgot, ← hgl, ← hm2, ← List.length_drop, List.take_eq_take_iff, Nat.min_assoc, Nat.min_self]
  obtain rfl : N = m2 := by rw [← hN, ← hge, List.length_take, List.length_drop]; omega
  rw [hge] at hO5
  obtain ⟨k1, k2⟩ := hF5.set1 (k := k) (x := x) hx (x.pos + N)
  have hltf := (hF5.in_ _ (show FS w0 w3 fb A _ from HF3).af)
  have hlt3 := ((show FS w0 w3 fb A _ from HF3).in_ _ (show FS w0 w3 fb A _ from HF3).af).2
  have HFin : Hid (Own8 w (w5.setCell ⟨fb, 2 + k * 3 + 2, none⟩ (.int .i64 (x.pos + N : Nat))) (.slice (some ⟨w3.heap.size, 0, none⟩) N N) (Fil.got s x n) ∧ FS w0 (w5.setCell ⟨fb, 2 + k * 3 + 2, none⟩ (.int .i64 (x.pos + N : Nat))) fb A { s with op := s.op.set k { x with pos := x.pos + N }, a := (Fee.take s.sh s.a T).2 } ∧ Fz A w (w5.setCell ⟨fb, 2 + k * 3 + 2, none⟩ (.int .i64 (x.pos + N : Nat)))) :=
    ⟨(hO5.heap (fun j hj => Below.heap_setCell _ _ _ _ (by simp [Value.ownBlock] at hj; show j ≠ fb; omega))).le (Nat.le_trans hz.b0.size (Nat.le_refl _)), k1, (hz.bw hB35).trans k2⟩
  have hpm : x.pos + N ≤ 4611686018427392000 := by omega
  clear hge hgl hgot k1 k2 hF5 hO5 hO4 hq' hltf
  have hm2i : min (m : Int) (((Fil.data s x).length - lo : Nat) : Int) = (N : Int) := by omega
  go_wp2_with fail
  go_region
  go_wp2_with (first | (at_builtin; refine wpList_copy_eq rfl _ _ 25 rfl rfl rfl hcp ?_) | go_in)
  go_returns
  exact ⟨_, rfl, HFin⟩
end Go.Proofs.Ytaepjlaegldkhaa
