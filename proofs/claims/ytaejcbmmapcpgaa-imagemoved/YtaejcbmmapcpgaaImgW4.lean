/- LAYER 8's walks: readHalf, readWord, appendHalf, appendWord, appendHead, appendRow. -/
import Derived.Test.YtaejcbmmapcpgaaImgW3
namespace Go.Proofs.Ytaejcbmmapcpgaa
open Go.ChangeShapes Go.WideShapes Go.ChangeAt Go.RowKit

set_option maxHeartbeats 1000000 in
set_option maxRecDepth 100000 in
theorem readHalf_c (w : World) (b o n cap : Nat) (h2 : 2 ≤ n) (x0 x1 : Int) (h0 : B8 x0) (h1 : B8 x1) (c0 : w.cell? ⟨b, o, none⟩ = some (.int .u8 x0)) (c1 : w.cell? ⟨b, o + 1, none⟩ = some (.int .u8 x1)) :
    Calls Try.prog 20 #[.slice (some ⟨b, o, none⟩) n cap] w fun e w' => e = .returned (.int .u16 (x0 + x1 * 256)) ∧ w' = w.drew := by
  have hn : (2 : Int) ≤ n := by omega
  obtain ⟨a0, a1⟩ := h0
  obtain ⟨b0, b1⟩ := h1
  have HE : Hid _ := u16_or8 (y := x0) (x := x1 * 256) a0 a1 (by omega) (by omega) (by omega)
  have e0 : x0 % 65536 = x0 := by omega
  have e1 : x1 % 65536 = x1 := by omega
  have f1 : x1 * 256 % 65536 = x1 * 256 := by omega
  have g0 : IntKind.u16.wrap x0 = x0 := by rw [IntKind.wrap_u16]; omega
  have g1 : IntKind.u16.wrap x1 = x1 := by rw [IntKind.wrap_u16]; omega
  have g2 : IntKind.u16.wrap (x1 * 256) = x1 * 256 := by rw [IntKind.wrap_u16]; omega
  go_enter Try.func20, Try.ntmps20
  go_wp2_with fail
  go_region
  go_wp2_with fail
  go_returns
  exact ⟨congrArg (fun x => Ending.returned (.int .u16 x)) HE, rfl⟩
theorem wpApp2 {P : Program} {w w' : World} {ops : Array Oper} {rest : List Oper} {o : Oper} {a : Act} {Q : Exit → Act → World → Prop} (hgd : o.guard = none) (s x : Operand) (t t2 : TypeId)
    (ho : o.op = .call { callee := .builtin .append, args := #[s, x], argTypes := #[t, t2] }) {v xv v' : Value} (hs : a.eval s = v) (hx : a.eval x = xv)
    (hr : (Builtin.append_ #[t, t2] o.type #[v, xv]).run P w = .ok v' w') (h : wpList P ops Q rest (a.put o.dst v') w') : wpList P ops Q (o :: rest) a w := by
  refine wpList_plain hgd fun K hK => ?_
  unfold Oper.wp execOp
  simp only [ho, resolve, invoke, builtin, Sem.run_bind, Sem.run_pure, Result.andThen_ok, List.map_toArray, List.map_cons, List.map_nil, hs, hx, hr]
  exact hK _ _ h
/-- A half at any place of the bytes L that lie at ⟨b, o⟩. -/
theorem readHalf_at (w : World) (L : List Int) (b o : Nat) (h8 : B8s L) (hc : ∀ (j : Nat) x, L[j]? = some x → w.cell? ⟨b, o + j, none⟩ = some (.int .u8 x)) (w' : World) (g : Bw w w') (off n cap : Nat) (hn : 2 ≤ n) (h0 : o ≤ off) (h1 : off + 2 ≤ o + L.length) :
    Calls Try.prog 20 #[.slice (some ⟨b, off, none⟩) n cap] w' fun e w'' => e = .returned (.int .u16 (Img.half L (off - o))) ∧ Bw w' w'' := by
  have cc : ∀ j, j < 2 → w'.cell? ⟨b, off + j, none⟩ = some (.int .u8 (Img.g L (off - o + j))) := fun j h => by
    have := g.keep (hc (off - o + j) _ (Img.g_at (l := L) (i := off - o + j) (by omega)))
    rwa [show o + (off - o + j) = off + j by omega] at this
  refine (readHalf_c w' b off n cap hn _ _ (Img.b8_g h8 _) (Img.b8_g h8 _) (cc 0 (by omega)) (cc 1 (by omega))).mono ?_
  rintro e w2 ⟨rfl, rfl⟩
  exact ⟨rfl, (Bw.refl _).drew⟩
set_option maxHeartbeats 1000000 in
set_option maxRecDepth 100000 in
theorem readWord_at (w : World) (L : List Int) (b o : Nat) (h8 : B8s L) (hc : ∀ (j : Nat) x, L[j]? = some x → w.cell? ⟨b, o + j, none⟩ = some (.int .u8 x)) (w' : World) (g : Bw w w') (off n cap : Nat) (hn : 4 ≤ n) (hcap : n ≤ cap) (h0 : o ≤ off) (h1 : off + 4 ≤ o + L.length) :
    Calls Try.prog 21 #[.slice (some ⟨b, off, none⟩) n cap] w' fun e w'' => e = .returned (.int .u32 (Img.word L (off - o))) ∧ Bw w' w'' := by
  have hH := fun X (k : Bw w' X) off n => readHalf_at w L b o h8 hc X (g.trans k) off n
  have hn2 : (2 : Int) ≤ n := by omega
  have hnc : (n : Int) ≤ cap := by omega
  have hc2 : cap ≠ 2 := by omega
  have hoff : off + 2 - o = off - o + 2 := by omega
  obtain ⟨p0, p1⟩ := Img.half_bd h8 (off - o)
  obtain ⟨q0, q1⟩ := Img.half_bd h8 (off - o + 2)
  have HE : Hid _ := u32_or16 (y := Img.half L (off - o)) (x := Img.half L (off - o + 2) * 65536) p0 p1 (by omega) (by omega) (by omega)
  unfold Img.word
  have e0 : Img.half L (off - o) % 4294967296 = Img.half L (off - o) := by omega
  have e1 : Img.half L (off - o + 2) % 4294967296 = Img.half L (off - o + 2) := by omega
  have f1 : Img.half L (off - o + 2) * 65536 % 4294967296 = Img.half L (off - o + 2) * 65536 := by omega
  clear hc
  have hB : Bw w' w'.drew := (Bw.refl w').drew
  go_enter Try.func21, Try.ntmps21
  go_wp2_with fail
  go_region_held3 (fun wr => True) (exact trivial)
    ((go_at_call 20; refine (hH _ hB _ _ _ (by omega) (by omega) (by omega)).mono ?_; rintro e w3 ⟨rfl, hb3⟩; replace hB := hB.trans hb3; clear hb3; try simp only [hoff]))
  all_goals (go_wp2_with fail)
  all_goals go_returns
  all_goals (exact ⟨congrArg (fun x => Ending.returned (.int .u32 x)) (by simp only [IntKind.wrap_u32, e0, e1, f1]; exact HE), hB⟩)
set_option maxHeartbeats 1000000 in
set_option maxRecDepth 100000 in
theorem appendHalf_c {w0 wr : World} {v : Value} {l : List Int} (x : Int) (x0 : 0 ≤ x) (x1 : x < 65536) (hown : Own8 w0 wr v l) (hbw : Bw w0 wr) (hn : l.length ≤ 100000) :
    Calls Try.prog 37 #[v, .int .u16 x] wr fun e w' => ∃ v', e = .returned v' ∧ Own8 w0 w' v' (l ++ Img.le2 x) ∧ Bw w0 w' ∧ Ap wr w' v v' := by
  obtain ⟨v', w', hr, h2, h3, h4⟩ := app8 hown hbw (Img.le2 x) (by simp [Img.le2]) (by simp [Img.le2]; omega) 2
  have hr2 : (Builtin.append_ #[28, 28] 28 #[v, .slice (some ⟨wr.heap.size, 0, none⟩) 2 2]).run Try.prog (wr.alloc (.cells #[.int .u8 (x % 256), .int .u8 (x / 256)] 5)) = .ok v' w' := hr
  clear hr
  go_enter Try.func37, Try.ntmps37
  go_wp2_with (first | (at_builtin; refine wpApp rfl _ _ 28 rfl rfl rfl hr2 ?_) | go_in)
  go_returns
  exact ⟨v', rfl, h2, h3, h4⟩
theorem Img.le4_le2 (x : Int) : Img.le2 (x % 65536) ++ Img.le2 (x / 65536) = Img.le4 x := by
  have a : x % 65536 % 256 = x % 256 := by omega
  have b : x % 65536 / 256 = x / 256 % 256 := by omega
  have c : x / 65536 / 256 = x / 16777216 := by omega
  simp only [Img.le2, Img.le4, a, b, c, List.cons_append, List.nil_append]
set_option maxHeartbeats 1000000 in
set_option maxRecDepth 100000 in
theorem appendWord_c {w0 wr : World} {v : Value} {l : List Int} (x : Int) (x0 : 0 ≤ x) (x1 : x < 4294967296) (hown : Own8 w0 wr v l) (hbw : Bw w0 wr) (hn : l.length ≤ 90000) :
    Calls Try.prog 38 #[v, .int .u32 x] wr fun e w' => ∃ v', e = .returned v' ∧ Own8 w0 w' v' (l ++ Img.le4 x) ∧ Bw w0 w' ∧ Ap wr w' v v' := by
  have hA := appendHalf_c (x % 65536) (by omega) (by omega) hown hbw (by omega)
  have HL : Hid _ := Img.le4_le2 x
  have e1 : IntKind.u16.wrap x = x % 65536 := by rw [IntKind.wrap_u16]
  have e2 : IntKind.u16.wrap (x / 65536) = x / 65536 := by rw [IntKind.wrap_u16]; omega
  have e3 : x / 65536 % 65536 = x / 65536 := by omega
  go_enter Try.func38, Try.ntmps38
  go_wp2_with fail
  refine hA.mono ?_
  rintro e w2 ⟨v2, rfl, ho2, hb2, ha2⟩
  have hA2 := appendHalf_c (x / 65536) (by omega) (by omega) ho2 hb2 (by rw [List.length_append, Img.le2_len]; omega)
  clear hA
  go_wp2_with fail
  refine hA2.mono ?_
  rintro e w3 ⟨v3, rfl, ho3, hb3, ha3⟩
  clear hA2
  go_wp2_with fail
  go_returns
  exact ⟨v3, rfl, by rw [List.append_assoc, show _ = _ from HL] at ho3; exact ho3, hb3, ha2.trans ha3⟩
def Img.magic : List Int := [127, 69, 76, 70, 1, 1, 1, 0, 0, 0, 0, 0, 0, 0, 0, 0]
set_option maxHeartbeats 1000000 in
set_option maxRecDepth 100000 in
theorem app_magic {w0 wr : World} (hbw : Bw w0 wr) : ∃ v' w', (Builtin.append_ #[28, 9] 28 #[.slice none 0 0, .string ⟨#[127, 69, 76, 70, 1, 1, 1, 0, 0, 0, 0, 0, 0, 0, 0, 0]⟩]).run Try.prog wr = .ok v' w' ∧ Own8 w0 w' v' Img.magic ∧ Bw w0 w' ∧ Ap wr w' (.slice none 0 0) v' := by
  obtain ⟨i, hi, he⟩ := Option.map_eq_some_iff.1 info8
  simp only [Prod.mk.injEq] at he
  obtain ⟨hz, hs, hb⟩ := he
  obtain ⟨v', w', hr, ho, hg, _⟩ := Lib.run_append_own_string (P := Try.prog) (w := wr) wr.heap.size 28 9 28 5 i Try.underlying28 Try.underlying9 hi hz hs hb (.slice none 0 0) 0 [] (World.ownsRow_nil _ _ _ _) ⟨#[127, 69, 76, 70, 1, 1, 1, 0, 0, 0, 0, 0, 0, 0, 0, 0]⟩ (by decide) (by decide) (Nat.le_refl _)
  have ho2 : w'.ownsRow wr.heap.size 5 1 v' Img.magic.length (ints8 Img.magic) := ho
  have hA : Ap wr w' (.slice none 0 0) v' := by
    refine ⟨⟨hg.os, hg.tape, hg.output, hg.size, fun k hk => by omega⟩, fun k hk _ => hg.block k hk (by simp [Value.ownBlock]), ?_⟩
    rcases ho.2 with ⟨_, h2⟩ | ⟨g', cap, cur, rfl, h4, _⟩
    · simp [ByteArray.size] at h2
    · exact Or.inr ⟨g', h4, rfl⟩
  exact ⟨v', w', hr, (Own8.of ho2).le hbw.size, hA.toBw hbw (by simp [Value.ownBlock]), hA⟩
set_option maxHeartbeats 4000000 in
set_option maxRecDepth 100000 in
theorem appendHead_c {w0 wr : World} (e c : Int) (e0 : 0 ≤ e) (e1 : e < 4294967296) (c0 : 0 ≤ c) (c1 : c < 65536) (hbw : Bw w0 wr) :
    Calls Try.prog 24 #[.slice none 0 0, .int .u32 e, .int .u16 c] wr fun r w' => ∃ v', r = .returned v' ∧ Own8 w0 w' v' (Img.head e c) ∧ Bw w0 w' ∧ Ap wr w' (.slice none 0 0) v' := by
  obtain ⟨v1, w1, hr1, hO, hB, hA⟩ := app_magic hbw
  go_enter Try.func24, Try.ntmps24
  go_wp2_with (first
    | (go_at_call 37; refine (appendHalf_c _ (by omega) (by omega) hO hB (by simp [Img.magic, Img.le2_len, Img.le4_len])).mono ?_; clear hO hB; rintro e w2 ⟨v2, rfl, hO, hB, hA2⟩; replace hA := hA.trans hA2; clear hA2)
    | (go_at_call 38; refine (appendWord_c _ (by omega) (by omega) hO hB (by simp [Img.magic, Img.le2_len, Img.le4_len])).mono ?_; clear hO hB; rintro e w2 ⟨v2, rfl, hO, hB, hA2⟩; replace hA := hA.trans hA2; clear hA2)
    | (at_builtin; refine wpApp2 rfl _ _ 28 9 rfl rfl rfl hr1 ?_) | go_in)
  go_returns
  exact ⟨_, rfl, hO, hB, hA⟩
set_option maxHeartbeats 4000000 in
set_option maxRecDepth 100000 in
theorem appendRow_c {w0 wr : World} {v : Value} {l : List Int} (p a c z m : Int) (hp : 0 ≤ p ∧ p < 4294967296) (ha : 0 ≤ a ∧ a < 4294967296) (hc : 0 ≤ c ∧ c < 4294967296) (hz : 0 ≤ z ∧ z < 4294967296) (hm : 0 ≤ m ∧ m < 4294967296) (hown : Own8 w0 wr v l) (hbw : Bw w0 wr) (hn : l.length ≤ 80000) :
    Calls Try.prog 25 #[v, .agg #[.int .u32 p, .int .u32 a, .int .u32 c, .int .u32 z, .int .u32 m]] wr fun r w' => ∃ v', r = .returned v' ∧ Own8 w0 w' v' (l ++ Img.row p a c z m) ∧ Bw w0 w' ∧ Ap wr w' v v' := by
  have HNo : Hid (v.ownBlock ≠ some wr.heap.size) := fun e => by have := (hown.blk _ e).2; omega
  obtain ⟨wB, hwB, hO, hB, hA0, d0, d1, d2, d3, d4, hlt⟩ : ∃ wB, wr.alloc (.cells #[.int .u32 p, .int .u32 a, .int .u32 c, .int .u32 z, .int .u32 m] 62) = wB ∧ Own8 w0 wB v l ∧ Bw w0 wB ∧ Ap wr wB v v ∧ wB.cell? ⟨wr.heap.size, 0, none⟩ = some (.int .u32 p) ∧ wB.cell? ⟨wr.heap.size, 1, none⟩ = some (.int .u32 a) ∧ wB.cell? ⟨wr.heap.size, 2, none⟩ = some (.int .u32 c) ∧ wB.cell? ⟨wr.heap.size, 3, none⟩ = some (.int .u32 z) ∧ wB.cell? ⟨wr.heap.size, 4, none⟩ = some (.int .u32 m) ∧ wr.heap.size < wB.heap.size :=
    ⟨_, rfl, hown.bw ((Bw.refl wr).alloc _), hbw.alloc _, (Ap.refl wr v).alloc _, by rw [World.cell?_alloc_at _ _ _ _ (by simp)]; rfl, by rw [World.cell?_alloc_at _ _ _ _ (by simp)]; rfl, by rw [World.cell?_alloc_at _ _ _ _ (by simp)]; rfl, by rw [World.cell?_alloc_at _ _ _ _ (by simp)]; rfl, by rw [World.cell?_alloc_at _ _ _ _ (by simp)]; rfl, by simp⟩
  have hA := Ap.refl wB v
  have x0 := d0; have x1 := d1; have x2 := d2; have x3 := d3; have x4 := d4
  obtain ⟨hp0, hp1⟩ := hp; obtain ⟨ha0, ha1⟩ := ha; obtain ⟨hc0, hc1⟩ := hc; obtain ⟨hz0, hz1⟩ := hz; obtain ⟨hm0, hm1⟩ := hm
  have HD : Hid (wB.cell? ⟨wr.heap.size, 0, none⟩ = some (.int .u32 p) ∧ wB.cell? ⟨wr.heap.size, 1, none⟩ = some (.int .u32 a) ∧ wB.cell? ⟨wr.heap.size, 2, none⟩ = some (.int .u32 c) ∧ wB.cell? ⟨wr.heap.size, 3, none⟩ = some (.int .u32 z) ∧ wB.cell? ⟨wr.heap.size, 4, none⟩ = some (.int .u32 m)) := ⟨d0, d1, d2, d3, d4⟩
  clear d0 d1 d2 d3 d4 hown hbw
  go_enter Try.func25, Try.ntmps25
  go_wp2_with fail
  clear hwB
  (refine (appendWord_c _ (by omega) (by omega) hO hB (by first | omega | (simp [Img.le4_len]; omega))).mono ?_; clear hO hB x0 x1 x2 x3 x4; rintro e w2 ⟨v2, rfl, hO, hB, hA2⟩; replace hA := hA.trans hA2; clear hA2; have x0 := (hA.cell (p := ⟨wr.heap.size, 0, none⟩) hlt HNo).trans (And.left HD); have x1 := (hA.cell (p := ⟨wr.heap.size, 1, none⟩) hlt HNo).trans (And.left (And.right HD)); have x2 := (hA.cell (p := ⟨wr.heap.size, 2, none⟩) hlt HNo).trans (And.left (And.right (And.right HD))); have x3 := (hA.cell (p := ⟨wr.heap.size, 3, none⟩) hlt HNo).trans (And.left (And.right (And.right (And.right HD)))); have x4 := (hA.cell (p := ⟨wr.heap.size, 4, none⟩) hlt HNo).trans (And.right (And.right (And.right (And.right HD)))))
  go_wp2_with
    (go_at_call 38; refine (appendWord_c _ (by omega) (by omega) hO hB (by first | omega | (simp [Img.le4_len]; omega))).mono ?_; clear hO hB x0 x1 x2 x3 x4; rintro e w2 ⟨v2, rfl, hO, hB, hA2⟩; replace hA := hA.trans hA2; clear hA2; have x0 := (hA.cell (p := ⟨wr.heap.size, 0, none⟩) hlt HNo).trans (And.left HD); have x1 := (hA.cell (p := ⟨wr.heap.size, 1, none⟩) hlt HNo).trans (And.left (And.right HD)); have x2 := (hA.cell (p := ⟨wr.heap.size, 2, none⟩) hlt HNo).trans (And.left (And.right (And.right HD))); have x3 := (hA.cell (p := ⟨wr.heap.size, 3, none⟩) hlt HNo).trans (And.left (And.right (And.right (And.right HD)))); have x4 := (hA.cell (p := ⟨wr.heap.size, 4, none⟩) hlt HNo).trans (And.right (And.right (And.right (And.right HD)))))
  go_returns
  rw [show Img.le4 1 = [1, 0, 0, 0] from rfl, show Img.le4 256 = [0, 1, 0, 0] from rfl] at hO
  exact ⟨_, rfl, by simpa [Img.row, List.append_assoc] using hO, hB, hA0.trans hA⟩
end Go.Proofs.Ytaejcbmmapcpgaa
