/- LAYER 9's walks: Put, whole. -/
import Derived.Test.YtmecompcffphcaaFeeP
namespace Go.Proofs.Ytmecompcffphcaa
open Go.ChangeShapes Go.WideShapes Go.ChangeAt Go.RowKit
set_option linter.unusedSimpArgs false

theorem flat_le {α : Type} (F : α → List Int) (B : Nat) : ∀ (l : List α), (∀ x ∈ l, (F x).length ≤ B) → (l.flatMap F).length ≤ l.length * B
  | [], _ => by simp
  | x :: r, h => by
    rw [List.flatMap_cons, List.length_append, List.length_cons, Nat.succ_mul]
    have h1 := h x (by simp)
    have h2 := flat_le F B r (fun y hy => h y (by simp [hy]))
    omega
theorem take_le {α : Type} {F : α → List Int} {B : Nat} {l : List α} (h : ∀ x ∈ l, (F x).length ≤ B) (k N : Nat) (hl : l.length ≤ N) : ((l.take k).flatMap F).length ≤ N * B := by
  have h1 := flat_le F B (l.take k) (fun x hx => h x (List.mem_of_mem_take hx))
  rw [List.length_take] at h1
  have h2 : min k l.length * B ≤ N * B := Nat.mul_le_mul_right _ (by omega)
  omega
theorem Fee.from_ok : ∀ (r l : List Fee.Fl) (k : Nat), Fee.filesFrom l k r = true → ∀ x ∈ r, Fee.fileOk x = true
  | [], _, _, _, x, hx => by simp at hx
  | f :: r, l, k, h, x, hx => by
    simp only [Fee.filesFrom, Bool.and_eq_true] at h
    rcases List.mem_cons.1 hx with rfl | hx
    · exact h.1.1
    · exact Fee.from_ok r l (k + 1) h.2 x hx
theorem Fee.good_parts {f : Fee.Fd} (h : Fee.good f = true) : (∀ s ∈ f.args, s.size ≤ 200) ∧ (∀ n ∈ f.short, 0 ≤ n ∧ n ≤ 4096) ∧ ∀ x ∈ f.files, x.name.size ≤ 40 ∧ x.data.length ≤ 4096 := by
  unfold Fee.good Fee.argsOk Fee.shortOk Fee.filesOk at h
  simp only [Bool.and_eq_true, List.all_eq_true] at h
  refine ⟨fun s hs => ?_, fun n hn => ?_, fun x hx => ?_⟩
  · have := h.1.1.1.1.1.2 s hs
    simp only [Fee.argOk, Bool.and_eq_true, decide_eq_true_eq] at this
    exact this.1
  · have := h.1.1.1.2.2 n hn
    simp only [Fee.shOk, Bool.and_eq_true, decide_eq_true_eq] at this
    exact this
  · have := Fee.from_ok _ _ _ h.2.2 x hx
    simp only [Fee.fileOk, Bool.and_eq_true, decide_eq_true_eq] at this
    exact ⟨this.1.1.2, this.2⟩
theorem conv_all {w w' : World} {v : Value} {l : List Int} (h : Rd8 w v l) (g : Bw w w') : (convert 22 9 v).run Try.prog w' = .ok (.string (strOfNums l)) w' := by
  have h2 := h.bw g
  obtain ⟨q, cap, rfl, h3, h4, hc⟩ := h2.open
  cases q with
  | none =>
    have h0 : l.length = 0 := Nat.eq_zero_of_not_pos (fun h0 => by obtain ⟨b, o, e, _⟩ := hc h0; simp at e)
    obtain rfl : l = [] := List.eq_nil_of_length_eq_zero h0
    exact run_convert_bytes_nil w' 22 5 Try.underlying22 Try.underlying5 0 cap _ Try.underlying9
  | some a =>
    by_cases h0 : 0 < l.length
    · obtain ⟨b, o, e, _, hcc⟩ := hc h0
      simp at e
      subst e
      exact conv8R rfl hcc
    · obtain rfl : l = [] := List.eq_nil_of_length_eq_zero (by omega)
      exact run_convert_bytes_arg w' 22 5 Try.underlying22 Try.underlying5 a.block a.off 0 cap [] rfl (fun i hi => by omega) _ Try.underlying9
theorem strOf_size (a : List Int) : (strOfNums a).size = a.length := by simp [strOfNums, ByteArray.size]
def PutPost (f : Fee.Fd) (w : World) (e : Ending) (w' : World) : Prop := ∃ u, e = .returned (.tuple #[u, .int .i64 (if Fee.good f then 0 else 1)]) ∧ P8 w w' u (if Fee.good f then Fee.put f else []) ∧ Bw w w'
set_option maxHeartbeats 8000000 in
set_option maxRecDepth 100000 in
theorem Put_c (v : Value) (f : Fee.Fd) (w : World) (hv : IsFd w v f) : Calls Try.prog 9 #[v] w fun e w' => PutPost f w e w' := by
  have hG := fun X (g : Bw w X) => Good_c v f X (hv.bw g)
  obtain ⟨va, vi, vs, vr, vc, vf, rfl, ha, hi, hs, hr, hc, hf, hwf⟩ := hv
  have hci := fun X (g : Bw w X) => conv_all hi g
  have hcr := fun X (g : Bw w X) => conv_all hr g
  obtain ⟨qi, ci, rfl, -⟩ := Rd8.open hi
  obtain ⟨qr, cr, rfl, -⟩ := Rd8.open hr
  obtain ⟨qa, ca, rfl, ha1, -, hca⟩ := RdR.at1 ha
  obtain ⟨qs, cs, rfl, hs1, -, hcs⟩ := RdR.at1 hs
  obtain ⟨qc, cc, rfl, hc1, -, hcc⟩ := RdR.at1 hc
  obtain ⟨qf, cf, rfl, hf1, -, hcf⟩ := hf.open
  have hi8 := hwf.i8; have hr8 := hwf.r8; have hck := hwf.ck
  have hf8 : ∀ x ∈ f.files, B8s x.data := by obtain ⟨_, _, _, _, h⟩ := hf; exact h
  have hBx := Box.new w [.slice qa f.args.length ca, .slice qi f.input.length ci, .slice qs f.short.length cs, .slice qr f.random.length cr, .slice qc f.clock.length cc, .slice qf f.files.length cf] 28
  have g0 : Bw w (w.alloc (.cells #[.slice qa f.args.length ca, .slice qi f.input.length ci, .slice qs f.short.length cs, .slice qr f.random.length cr, .slice qc f.clock.length cc, .slice qf f.files.length cf] 28)) := (Bw.refl w).alloc _
  clear ha hi hs hr hc hf hwf
  cases hgd : Fee.good f with
  | false =>
    simp only [hgd] at hG
    go_enter Try.func9, Try.ntmps9
    go_wp2_with fail
    refine (hG _ g0).mono ?_
    rintro e w2 ⟨rfl, h2⟩
    have hb2 := g0.trans h2
    clear hG hBx h2 g0 hca hcs hcc hcf hci hcr
    go_wp2_with fail
    go_returns
    exact ⟨_, by rw [hgd]; rfl, by rw [hgd]; exact P8.nil _ _, hb2⟩
  | true =>
    obtain ⟨p1, p2, p3⟩ := Fee.good_parts hgd
    obtain ⟨l1, l2, l3, l4, l5, l6⟩ := Fee.good_len hgd
    simp only [hgd] at hG
    have HG : Hid _ := hgd
    go_enter Try.func9, Try.ntmps9
    go_wp2_with fail
    refine (hG _ g0).mono ?_
    rintro e w2 ⟨rfl, h2⟩
    have hX := hBx.bw h2
    have hb2 := g0.trans h2
    obtain ⟨fb, hfb⟩ : ∃ fb, w.heap.size = fb := ⟨_, rfl⟩
    rw [hfb] at hX ⊢
    have x0 := hX.c 0 _ rfl; have x1 := hX.c 1 _ rfl; have x2 := hX.c 2 _ rfl; have x3 := hX.c 3 _ rfl; have x4 := hX.c 4 _ rfl; have x5 := hX.c 5 _ rfl
    have s1 : ∀ x ∈ f.args, (Fee.argB x).length ≤ 204 := fun x hx => by unfold Fee.argB; rw [Fee.txt_len, Fee.sb_len]; have := p1 x hx; omega
    have s2 : ∀ x ∈ f.short, (Fee.w4 x).length ≤ 4 := fun x _ => Nat.le_refl _
    have s3 : ∀ x ∈ f.clock, (Fee.w4 x).length ≤ 4 := fun x _ => Nat.le_refl _
    have s4 : ∀ x ∈ f.files, (Fee.flB x).length ≤ 4144 := fun x hx => by unfold Fee.flB; rw [List.length_append, Fee.txt_len, Fee.txt_len, Fee.sb_len]; have := p3 x hx; omega
    have S1 := fun k => take_le s1 k 16 l4
    have S2 := fun k => take_le s2 k 64 l1
    have S3 := fun k => take_le s3 k 64 l3
    have S4 := fun k => take_le s4 k 8 l6
    have W4 := Fee.w4_len
    have TX := Fee.txt_len
    have kx0 := fun X (g : Bw w2 X) => g.keep x0
    have kx1 := fun X (g : Bw w2 X) => g.keep x1
    have kx2 := fun X (g : Bw w2 X) => g.keep x2
    have kx3 := fun X (g : Bw w2 X) => g.keep x3
    have kx4 := fun X (g : Bw w2 X) => g.keep x4
    have kx5 := fun X (g : Bw w2 X) => g.keep x5
    have hki := fun X (g : Bw w2 X) => hci X (hb2.trans g)
    have hkr := fun X (g : Bw w2 X) => hcr X (hb2.trans g)
    have hsi := strOf_size f.input
    have hsr := strOf_size f.random
    have bi := Fee.sb_of hi8
    have br := Fee.sb_of hr8
    have m1 : (f.args.length : Int) ≤ 16 := by omega
    clear hBx hX h2 hG hci hcr s1 s2 s3 s4 x1 x2 x3 x4 x5
    go_wp2_with fail
    refine (fCount_c (w0 := w2) (f.args.length : Int) (by omega) (by omega) (P8.nil w2 w2) (Bw.refl _) (by simp)).mono ?_
    rintro e wr ⟨vb, rfl, hown, hbw, -⟩
    have y0 := kx0 _ hbw
    clear x0
    go_wp2_with fail
    clear y0
    go_loopg [4, 23] f.args.length (fun g x j wr => ∃ k : Nat, ∃ u : Value, k + g = f.args.length ∧ u = x ∧ j = .int .i64 k ∧ P8 w2 wr u (([] ++ Fee.w4 f.args.length) ++ (f.args.take k).flatMap Fee.argB) ∧ Bw w2 wr)
    case atStart => exact ⟨0, _, by omega, rfl, rfl, by simpa using hown, hbw⟩
    case round =>
      obtain ⟨k, vb, hkg, rfl, rfl, hown, hbw⟩ := hrel
      by_cases hk : k = f.args.length
      · subst hk
        rw [List.take_length] at hown
        have y1 := kx1 _ hbw
        have hcv := hki _ hbw
        go_wp2_with fail
        refine (fText_c (strOfNums f.input) (by rw [hsi]; omega) hown hbw (by simp only [List.length_append, W4, TX, List.length_nil]; have := S1 f.args.length; have := S2 f.short.length; have := S3 f.clock.length; have := S4 f.files.length; simp only [List.take_length] at *; omega)).mono ?_
        clear hown hbw y1 hcv
        rintro e wr ⟨vb, rfl, hown, hbw, -⟩
        rw [bi] at hown
        have y1 := kx2 _ hbw
        have mm : (f.short.length : Int) ≤ 64 := by omega
        go_wp2_with fail
        refine (fCount_c (f.short.length : Int) (by omega) (by omega) hown hbw (by simp only [List.length_append, W4, TX, List.length_nil]; have := S1 f.args.length; have := S2 f.short.length; have := S3 f.clock.length; have := S4 f.files.length; simp only [List.take_length] at *; omega)).mono ?_
        clear hown hbw y1
        rintro e wr ⟨vb, rfl, hown, hbw, -⟩
        have y1 := kx2 _ hbw
        go_wp2_with fail
        clear y1
        go_loopg [4, 44] f.short.length (fun g x j wr => ∃ k : Nat, ∃ u : Value, k + g = f.short.length ∧ u = x ∧ j = .int .i64 k ∧ P8 w2 wr u (((([] ++ Fee.w4 f.args.length) ++ f.args.flatMap Fee.argB) ++ Fee.txt f.input ++ Fee.w4 f.short.length) ++ (f.short.take k).flatMap Fee.w4) ∧ Bw w2 wr)
        case atStart => exact ⟨0, _, by omega, rfl, rfl, by simpa using hown, hbw⟩
        case round =>
          obtain ⟨k, vb, hkg, rfl, rfl, hown, hbw⟩ := hrel
          by_cases hk : k = f.short.length
          · subst hk
            rw [List.take_length] at hown
            have y1 := kx3 _ hbw
            have hcv := hkr _ hbw
            go_wp2_with fail
            refine (fText_c (strOfNums f.random) (by rw [hsr]; omega) hown hbw (by simp only [List.length_append, W4, TX, List.length_nil]; have := S1 f.args.length; have := S2 f.short.length; have := S3 f.clock.length; have := S4 f.files.length; simp only [List.take_length] at *; omega)).mono ?_
            clear hown hbw y1 hcv
            rintro e wr ⟨vb, rfl, hown, hbw, -⟩
            rw [br] at hown
            have y1 := kx4 _ hbw
            have mm : (f.clock.length : Int) ≤ 64 := by omega
            go_wp2_with fail
            refine (fCount_c (f.clock.length : Int) (by omega) (by omega) hown hbw (by simp only [List.length_append, W4, TX, List.length_nil]; have := S1 f.args.length; have := S2 f.short.length; have := S3 f.clock.length; have := S4 f.files.length; simp only [List.take_length] at *; omega)).mono ?_
            clear hown hbw y1
            rintro e wr ⟨vb, rfl, hown, hbw, -⟩
            have y1 := kx4 _ hbw
            go_wp2_with fail
            clear y1
            go_loopg [4, 65] f.clock.length (fun g x j wr => ∃ k : Nat, ∃ u : Value, k + g = f.clock.length ∧ u = x ∧ j = .int .i64 k ∧ P8 w2 wr u (((((([] ++ Fee.w4 f.args.length) ++ f.args.flatMap Fee.argB) ++ Fee.txt f.input ++ Fee.w4 f.short.length) ++ f.short.flatMap Fee.w4) ++ Fee.txt f.random ++ Fee.w4 f.clock.length) ++ (f.clock.take k).flatMap Fee.w4) ∧ Bw w2 wr)
            case atStart => exact ⟨0, _, by omega, rfl, rfl, by simpa using hown, hbw⟩
            case round =>
              obtain ⟨k, vb, hkg, rfl, rfl, hown, hbw⟩ := hrel
              by_cases hk : k = f.clock.length
              · subst hk
                rw [List.take_length] at hown
                have y1 := kx5 _ hbw
                have mm : (f.files.length : Int) ≤ 8 := by omega
                go_wp2_with fail
                refine (fCount_c (f.files.length : Int) (by omega) (by omega) hown hbw (by simp only [List.length_append, W4, TX, List.length_nil]; have := S1 f.args.length; have := S2 f.short.length; have := S3 f.clock.length; have := S4 f.files.length; simp only [List.take_length] at *; omega)).mono ?_
                clear hown hbw y1
                rintro e wr ⟨vb, rfl, hown, hbw, -⟩
                have y1 := kx5 _ hbw
                go_wp2_with fail
                clear y1
                go_loopg [4, 81] f.files.length (fun g x j wr => ∃ k : Nat, ∃ u : Value, k + g = f.files.length ∧ u = x ∧ j = .int .i64 k ∧ P8 w2 wr u (((((((([] ++ Fee.w4 f.args.length) ++ f.args.flatMap Fee.argB) ++ Fee.txt f.input ++ Fee.w4 f.short.length) ++ f.short.flatMap Fee.w4) ++ Fee.txt f.random ++ Fee.w4 f.clock.length) ++ f.clock.flatMap Fee.w4) ++ Fee.w4 f.files.length) ++ (f.files.take k).flatMap Fee.flB) ∧ Bw w2 wr)
                case atStart => exact ⟨0, _, by omega, rfl, rfl, by simpa using hown, hbw⟩
                case round =>
                  obtain ⟨k, vb, hkg, rfl, rfl, hown, hbw⟩ := hrel
                  by_cases hk : k = f.files.length
                  · subst hk
                    rw [List.take_length] at hown
                    have HFin : Hid (P8 w2 wr vb (((((((([] ++ Fee.w4 f.args.length) ++ f.args.flatMap Fee.argB) ++ Fee.txt f.input ++ Fee.w4 f.short.length) ++ f.short.flatMap Fee.w4) ++ Fee.txt f.random ++ Fee.w4 f.clock.length) ++ f.clock.flatMap Fee.w4) ++ Fee.w4 f.files.length) ++ f.files.flatMap Fee.flB) ∧ Bw w2 wr) := ⟨hown, hbw⟩
                    have HB2 : Hid _ := hb2
                    clear hown hbw
                    go_wp2_with fail
                    go_returns
                    refine ⟨_, by rw [show _ = true from HG]; rfl, ?_, (show Bw w w2 from HB2).trans (show _ ∧ _ from HFin).2⟩
                    rw [show _ = true from HG, if_pos rfl]
                    have h := (show _ ∧ _ from HFin).1.le (w0 := w) (show Bw w w2 from HB2).size
                    rw [List.nil_append] at h
                    exact h
                  · have hkl : k < f.files.length := by omega
                    have hki2 : (k : Int) < (f.files.length : Int) := by omega
                    obtain ⟨x, hx, -⟩ := dropAt hkl
                    have hmem := List.mem_of_getElem? hx
                    obtain ⟨b, o, qx, cx, rfl, hb, c0, c1, -, -, hRx⟩ := hcf k x hx
                    have d0 := (hb2.trans hbw).keep c0
                    have d1 := (hb2.trans hbw).keep c1
                    have HT : Hid _ := take_flat Fee.flB hx
                    obtain ⟨z1, z2⟩ := p3 x hmem
                    have bx := Fee.sb_of (hf8 x hmem)
                    have hsx := strOf_size x.data
                    have hcx := fun X (g : Bw w2 X) => conv_all hRx (hb2.trans g)
                    have hXx : Box (wr.alloc (.cells #[.string x.name, .slice qx x.data.length cx] 55)) wr.heap.size [.string x.name, .slice qx x.data.length cx] := Box.new wr _ _
                    clear hx c0 c1 hRx
                    go_wp2_with fail
                    refine (fText_c x.name (by omega) (OwnR.bw hown ((Bw.refl wr).alloc _)) (hbw.alloc _) (by simp only [List.length_append, W4, TX, List.length_nil]; have q1 := S1 f.args.length; have q2 := S2 f.short.length; have q3 := S3 f.clock.length; have q4 := S1 k; have q5 := S2 k; have q6 := S3 k; have q7 := S4 k; simp only [List.take_length] at q1 q2 q3; omega)).mono ?_
                    rintro e w4 ⟨v4, rfl, o4, b4, a4⟩
                    have hbk := hown.blk
                    have hX4 := hXx.blk (a4 wr.heap.size (by simp) (fun e => by have := (hbk _ e).2; omega))
                    have e1 := hX4.c 1 _ rfl
                    have hcv := hcx _ b4
                    have sbl := Fee.sb_len x.name
                    clear hX4 hXx a4 hbk hcx d0 d1
                    go_wp2_with fail
                    refine (fText_c (strOfNums x.data) (by rw [hsx]; omega) o4 b4 (by simp only [List.length_append, W4, TX, List.length_nil, sbl]; have q1 := S1 f.args.length; have q2 := S2 f.short.length; have q3 := S3 f.clock.length; have q7 := S4 k; simp only [List.take_length] at q1 q2 q3; omega)).mono ?_
                    rintro e w5 ⟨v5, rfl, o5, b5, -⟩
                    rw [bx] at o5
                    go_wp2_with fail
                    go_roundg (f.files.length - (k + 1))
                    case measure => omega
                    case rel => exact ⟨k + 1, _, by omega, rfl, by simp, by rw [show _ = _ from HT, ← List.append_assoc]; unfold Fee.flB; rw [← List.append_assoc]; exact o5, b5⟩
              · have hkl : k < f.clock.length := by omega
                have hki2 : (k : Int) < (f.clock.length : Int) := by omega
                obtain ⟨x, hx, -⟩ := dropAt hkl
                have hmem := List.mem_of_getElem? hx
                obtain ⟨b, o, rfl, hb, c0⟩ := hcc k x hx
                have d0 := (hb2.trans hbw).keep c0
                have HT : Hid _ := take_flat Fee.w4 hx
                clear hx c0
                go_wp2_with fail
                refine (fWord_c x (hck x hmem).1 (hck x hmem).2 hown hbw (by simp only [List.length_append, W4, TX, List.length_nil]; have q1 := S1 f.args.length; have q2 := S2 f.short.length; have q3 := S3 f.clock.length; have q4 := S1 k; have q5 := S2 k; have q6 := S3 k; have q7 := S4 k; simp only [List.take_length] at q1 q2 q3; omega)).mono ?_
                rintro e w4 ⟨v4, rfl, o4, b4, -⟩
                go_wp2_with fail
                go_roundg (f.clock.length - (k + 1))
                case measure => omega
                case rel => exact ⟨k + 1, _, by omega, rfl, by simp, by rw [show _ = _ from HT, ← List.append_assoc]; exact o4, b4⟩
          · have hkl : k < f.short.length := by omega
            have hki2 : (k : Int) < (f.short.length : Int) := by omega
            obtain ⟨x, hx, -⟩ := dropAt hkl
            have hmem := List.mem_of_getElem? hx
            obtain ⟨b, o, rfl, hb, c0⟩ := hcs k x hx
            have d0 := (hb2.trans hbw).keep c0
            have HT : Hid _ := take_flat Fee.w4 hx
            clear hx c0
            go_wp2_with fail
            refine (fCount_c x (p2 x hmem).1 (by have := (p2 x hmem).2; omega) hown hbw (by simp only [List.length_append, W4, TX, List.length_nil]; have q1 := S1 f.args.length; have q2 := S2 f.short.length; have q3 := S3 f.clock.length; have q4 := S1 k; have q5 := S2 k; have q6 := S3 k; have q7 := S4 k; simp only [List.take_length] at q1 q2 q3; omega)).mono ?_
            rintro e w4 ⟨v4, rfl, o4, b4, -⟩
            go_wp2_with fail
            go_roundg (f.short.length - (k + 1))
            case measure => omega
            case rel => exact ⟨k + 1, _, by omega, rfl, by simp, by rw [show _ = _ from HT, ← List.append_assoc]; exact o4, b4⟩
      · have hkl : k < f.args.length := by omega
        have hki2 : (k : Int) < (f.args.length : Int) := by omega
        obtain ⟨x, hx, -⟩ := dropAt hkl
        have hmem := List.mem_of_getElem? hx
        obtain ⟨b, o, rfl, hb, c0⟩ := hca k x hx
        have d0 := (hb2.trans hbw).keep c0
        have HT : Hid _ := take_flat Fee.argB hx
        clear hx c0
        go_wp2_with fail
        refine (fText_c x (by have := p1 x hmem; omega) hown hbw (by simp only [List.length_append, W4, TX, List.length_nil]; have q1 := S1 f.args.length; have q2 := S2 f.short.length; have q3 := S3 f.clock.length; have q4 := S1 k; have q5 := S2 k; have q6 := S3 k; have q7 := S4 k; simp only [List.take_length] at q1 q2 q3; omega)).mono ?_
        rintro e w4 ⟨v4, rfl, o4, b4, -⟩
        go_wp2_with fail
        go_roundg (f.args.length - (k + 1))
        case measure => omega
        case rel => exact ⟨k + 1, _, by omega, rfl, by simp, by rw [show _ = _ from HT, ← List.append_assoc]; exact o4, b4⟩
end Go.Proofs.Ytmecompcffphcaa
