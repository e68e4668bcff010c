/- LAYER 9, the reference's: SameFeed of two that are the same. -/
import Derived.Test.YtmecompcffphcaaFeeR6
namespace Go.Proofs.Ytmecompcffphcaa
open Go.ChangeShapes Go.WideShapes Go.ChangeAt Go.RowKit
set_option linter.unusedSimpArgs false

theorem IsFd.form {w : World} {v : Value} {f : Fee.Fd} (h : IsFd w v f) : ∃ qa ca qi ci qs cs qr cr qc cc qf cf, v = .agg #[.slice qa f.args.length ca, .slice qi f.input.length ci, .slice qs f.short.length cs, .slice qr f.random.length cr, .slice qc f.clock.length cc, .slice qf f.files.length cf] := by
  obtain ⟨va, vi, vs, vr, vc, vf, rfl, ha, hi, hs, hr, hc, hf, -⟩ := h
  obtain ⟨qa, ca, rfl, -⟩ := RdR.form ha
  obtain ⟨qi, ci, rfl, -⟩ := Rd8.open hi
  obtain ⟨qs, cs, rfl, -⟩ := RdR.form hs
  obtain ⟨qr, cr, rfl, -⟩ := Rd8.open hr
  obtain ⟨qc, cc, rfl, -⟩ := RdR.form hc
  obtain ⟨qf, cf, rfl, -⟩ := hf.form
  exact ⟨qa, ca, qi, ci, qs, cs, qr, cr, qc, cc, qf, cf, rfl⟩
set_option maxHeartbeats 4000000 in
set_option maxRecDepth 100000 in
theorem rSame_c (va vb : Value) (f : Fee.Fd) (w : World) (ha : IsFd w va f) (hb : IsFd w vb f) (hz : Fee.Sz f) : Calls Try.prog 12 #[va, vb] w fun e w' => e = .returned (.bool true) ∧ Bw w w' := by
  have hPa := fun X (g : Bw w X) => rPut_c va f X (ha.bw g) hz
  have hPb := fun X (g : Bw w X) => rPut_c vb f X (hb.bw g) hz
  obtain ⟨a1, a2, a3, a4, a5, a6, a7, a8, a9, a10, a11, a12, rfl⟩ := ha.form
  obtain ⟨b1, b2, b3, b4, b5, b6, b7, b8, b9, b10, b11, b12, rfl⟩ := hb.form
  generalize f.args.length = na at *
  generalize f.input.length = ni at *
  generalize f.short.length = ns at *
  generalize f.random.length = nr at *
  generalize f.clock.length = nc at *
  generalize f.files.length = nf at *
  have g2 : Bw w ((w.alloc (.cells #[.slice a1 na a2, .slice a3 ni a4, .slice a5 ns a6, .slice a7 nr a8, .slice a9 nc a10, .slice a11 nf a12] 36)).alloc (.cells #[.slice b1 na b2, .slice b3 ni b4, .slice b5 ns b6, .slice b7 nr b8, .slice b9 nc b10, .slice b11 nf b12] 36)) := ((Bw.refl w).alloc _).alloc _
  have hB := Box.new (w.alloc (.cells #[.slice a1 na a2, .slice a3 ni a4, .slice a5 ns a6, .slice a7 nr a8, .slice a9 nc a10, .slice a11 nf a12] 36)) [.slice b1 na b2, .slice b3 ni b4, .slice b5 ns b6, .slice b7 nr b8, .slice b9 nc b10, .slice b11 nf b12] 36
  rw [World.size_alloc] at hB
  clear ha hb hz
  go_enter Try.func12, Try.ntmps12
  go_wp2_with fail
  refine (hPa _ g2).mono ?_
  rintro e w3 ⟨u3, rfl, o3, h3⟩
  obtain ⟨q3, c3, hu3, -⟩ := Rd8.open (Own8.rd o3.own)
  have hB3 := hB.bw h3
  replace g2 := g2.trans h3
  have c0 := hB3.c 0 _ rfl; have c1 := hB3.c 1 _ rfl; have c2 := hB3.c 2 _ rfl; have c3' := hB3.c 3 _ rfl; have c4 := hB3.c 4 _ rfl; have c5 := hB3.c 5 _ rfl
  clear hB hPa
  obtain ⟨L, hL⟩ : ∃ L, (if Fee.good f = true then Fee.put f else []) = L := ⟨_, rfl⟩
  obtain ⟨G, hG⟩ : ∃ G, Fee.good f = G := ⟨_, rfl⟩
  have HL : Hid _ := hL
  have HG : Hid _ := hG
  rw [hL] at o3 hu3
  rw [hG]
  clear hL hG
  go_wp2_with fail
  refine (hPb _ g2).mono ?_
  rintro e w4 ⟨u4, rfl, o4, h4⟩
  rw [show _ = L from HL] at o4
  rw [show _ = G from HG]
  have hv3 := conv8 ((o3.own).bw h4)
  have hv4 := conv8 o4.own
  obtain ⟨q4, c4', hu4, -⟩ := Rd8.open (Own8.rd o4.own)
  subst hu3 hu4
  replace g2 := g2.trans h4
  clear hPb hB3 c0 c1 c2 c3' c4 c5 o3 o4
  go_wp2_with fail
  go_returns
  exact ⟨rfl, g2⟩
end Go.Proofs.Ytmecompcffphcaa
