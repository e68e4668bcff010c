/- Chapter 9: the reference's GetFeed answers as Get does. -/
import Derived.Test.YtmecompcffphcaaFeeGt7
import Derived.Test.YtmecompcffphcaaFeeGt8
namespace Go.Proofs.Ytmecompcffphcaa
open Go.ChangeShapes Go.WideShapes Go.ChangeAt Go.RowKit
set_option linter.unusedVariables false

structure Ref.Ok {α : Type} (Q : α → Prop) (st : List Int → Bool → α × List Int × Bool) : Prop where
  ok : ∀ L fl, B8s L → L.length ≤ 900000 → Q (st L fl).1 ∧ B8s (st L fl).2.1 ∧ (st L fl).2.1.length ≤ 900000
theorem Ref.ok_num : Ref.Ok (fun n => 0 ≤ n ∧ n < 4294967296) Ref.num := ⟨fun L fl h hl => by have := Ref.num_bd fl h; exact ⟨⟨this.1, this.2.1⟩, this.2.2.1, by omega⟩⟩
theorem Ref.ok_rt : Ref.Ok (fun t => B8s t ∧ t.length ≤ 900000) Ref.rt := ⟨fun L fl h hl => by have := Ref.rt_bd fl h; exact ⟨⟨this.1, by omega⟩, this.2.1, by omega⟩⟩
theorem Ref.ok_arg : Ref.Ok (fun s : ByteArray => s.size ≤ 1000000) Ref.arg := ⟨fun L fl h hl => by have := Ref.ok_rt.ok L fl h hl; exact ⟨by show (strOfNums _).size ≤ _; rw [strOfNums_size]; omega, this.2⟩⟩
theorem Ref.ok_file : Ref.Ok (fun f : Fee.Fl => f.name.size ≤ 1000000 ∧ B8s f.data) Ref.file := ⟨fun L fl h hl => by
  have h1 := Ref.ok_rt.ok L fl h hl
  have h2 := Ref.ok_rt.ok _ (Ref.rt L fl).2.2 h1.2.1 h1.2.2
  exact ⟨⟨by show (strOfNums _).size ≤ _; rw [strOfNums_size]; omega, h2.1.1⟩, h2.2⟩⟩
theorem Ref.ok_many {α : Type} {Q : α → Prop} {st : List Int → Bool → α × List Int × Bool} (h : Ref.Ok Q st) : ∀ n, Ref.Ok (fun l : List α => ∀ x ∈ l, Q x) (Ref.many st n)
  | 0 => ⟨fun L fl hb hl => ⟨by simp [Ref.many], hb, hl⟩⟩
  | n + 1 => ⟨fun L fl hb hl => by
    rw [Ref.many]
    split
    · exact ⟨by simp, hb, hl⟩
    · obtain ⟨a1, a2, a3⟩ := h.ok L fl hb hl
      obtain ⟨b1, b2, b3⟩ := (Ref.ok_many h n).ok _ (st L fl).2.2 a2 a3
      exact ⟨fun x hx => by rcases List.mem_cons.1 hx with rfl | hx; exact a1; exact b1 x hx, b2, b3⟩⟩
theorem Ref.Ok.at {α : Type} {Q : α → Prop} {st : List Int → Bool → α × List Int × Bool} (h : Ref.Ok Q st) {L R : List Int} {fl b : Bool} {x : α} (e : st L fl = (x, R, b)) (h8 : B8s L) (hl : L.length ≤ 900000) : Q x ∧ B8s R ∧ R.length ≤ 900000 := by
  have := h.ok L fl h8 hl
  rw [e] at this
  exact this
theorem Ref.get_ok (L : List Int) (h8 : B8s L) (hl : L.length ≤ 900000) : ∃ n k c q : Nat, ∃ A I S R C F L7 f7, Ref.Parts L n k c q A I S R C F L7 f7 ∧ (B8s I ∧ (∀ n ∈ S, 0 ≤ n ∧ n < 4294967296) ∧ B8s R ∧ (∀ n ∈ C, 0 ≤ n ∧ n < 4294967296) ∧ ∀ f ∈ F, B8s f.data) ∧ Fee.Sz ⟨A, I, S, R, C, F⟩ ∧ Ref.fin n k c q L7 f7 ⟨A, I, S, R, C, F⟩ = ((Fee.get L).1, decide ((Fee.get L).2 = 0)) := by
  obtain ⟨n, La, fa, en⟩ : ∃ n La fa, Ref.num L false = (n, La, fa) := ⟨_, _, _, rfl⟩
  obtain ⟨on, a8, al⟩ := Ref.ok_num.at en h8 hl
  obtain ⟨n, rfl⟩ : ∃ m : Nat, n = m := ⟨n.toNat, by omega⟩
  obtain ⟨A, L2, f2, eA⟩ : ∃ A L2 f2, Ref.many Ref.arg (min (n : Int).toNat 20) La fa = (A, L2, f2) := ⟨_, _, _, rfl⟩
  obtain ⟨oA, b8, bl⟩ := (Ref.ok_many Ref.ok_arg _).at eA a8 al
  obtain ⟨I, L3, f3, eI⟩ : ∃ A L2' f2', Ref.rt L2 f2 = (A, L2', f2') := ⟨_, _, _, rfl⟩
  obtain ⟨oI, c8, cl⟩ := Ref.ok_rt.at eI b8 bl
  obtain ⟨k, Lb, fb, ek⟩ : ∃ n La fa, Ref.num L3 f3 = (n, La, fa) := ⟨_, _, _, rfl⟩
  obtain ⟨ok, d8, dl⟩ := Ref.ok_num.at ek c8 cl
  obtain ⟨k, rfl⟩ : ∃ m : Nat, k = m := ⟨k.toNat, by omega⟩
  obtain ⟨S, L4, f4, eS⟩ : ∃ A L2 f2, Ref.many Ref.num (min (k : Int).toNat 70) Lb fb = (A, L2, f2) := ⟨_, _, _, rfl⟩
  obtain ⟨oS, e8, el⟩ := (Ref.ok_many Ref.ok_num _).at eS d8 dl
  obtain ⟨R, L5, f5, eR⟩ : ∃ A L2' f2', Ref.rt L4 f4 = (A, L2', f2') := ⟨_, _, _, rfl⟩
  obtain ⟨oR, g8, gl⟩ := Ref.ok_rt.at eR e8 el
  obtain ⟨c, Lc, fc, ec⟩ : ∃ n La fa, Ref.num L5 f5 = (n, La, fa) := ⟨_, _, _, rfl⟩
  obtain ⟨oc, i8, il⟩ := Ref.ok_num.at ec g8 gl
  obtain ⟨c, rfl⟩ : ∃ m : Nat, c = m := ⟨c.toNat, by omega⟩
  obtain ⟨C, L6, f6, eC⟩ : ∃ A L2 f2, Ref.many Ref.num (min (c : Int).toNat 70) Lc fc = (A, L2, f2) := ⟨_, _, _, rfl⟩
  obtain ⟨oC, j8, jl⟩ := (Ref.ok_many Ref.ok_num _).at eC i8 il
  obtain ⟨q, Ld, fd, eq⟩ : ∃ n La fa, Ref.num L6 f6 = (n, La, fa) := ⟨_, _, _, rfl⟩
  obtain ⟨oq, m8, ml⟩ := Ref.ok_num.at eq j8 jl
  obtain ⟨q, rfl⟩ : ∃ m : Nat, q = m := ⟨q.toNat, by omega⟩
  obtain ⟨F, L7, f7, eF⟩ : ∃ A L2 f2, Ref.many Ref.file (min (q : Int).toNat 20) Ld fd = (A, L2, f2) := ⟨_, _, _, rfl⟩
  obtain ⟨oF, p8, pl⟩ := (Ref.ok_many Ref.ok_file _).at eF m8 ml
  refine ⟨n, k, c, q, A, I, S, R, C, F, L7, f7, ⟨La, fa, L2, f2, L3, f3, Lb, fb, L4, f4, L5, f5, Lc, fc, L6, f6, Ld, fd, en, eA, eI, ek, eS, eR, ec, eC, eq, eF⟩, ⟨oI.1, oS, oR.1, oC, fun f hf => (oF f hf).2⟩, ⟨oA, fun f hf => (oF f hf).1⟩, ?_⟩
  have D1 : ∀ A' I' S' R' C' F' R7, Fee.parts L false = ((A', I', S', R', C', F'), R7, false) → (A = A' ∧ I = I' ∧ S = S' ∧ R = R' ∧ C = C' ∧ F = F' ∧ L7 = R7 ∧ f7 = false) ∧ n ≤ 16 ∧ k ≤ 64 ∧ c ≤ 64 ∧ q ≤ 8 := by
    intro A' I' S' R' C' F' R7 h
    obtain ⟨M2, h1, h⟩ := pair_inv (stb_pair (stb_rt _) (stb_pair (stb_some (stb_rn _)) (stb_pair (stb_rt _) (stb_pair (stb_some stb_rw) (stb_some stb_file))))) h
    obtain ⟨M3, h2, h⟩ := pair_inv (stb_pair (stb_some (stb_rn _)) (stb_pair (stb_rt _) (stb_pair (stb_some stb_rw) (stb_some stb_file)))) h
    obtain ⟨M4, h3, h⟩ := pair_inv (stb_pair (stb_rt _) (stb_pair (stb_some stb_rw) (stb_some stb_file))) h
    obtain ⟨M5, h4, h⟩ := pair_inv (stb_pair (stb_some stb_rw) (stb_some stb_file)) h
    obtain ⟨M6, h5, h6⟩ := pair_inv (stb_some stb_file) h
    obtain ⟨n', X1, x1, y1, z1⟩ := some_inv stb_arg h1
    rw [en] at x1
    simp only [Prod.mk.injEq] at x1
    obtain ⟨rfl, rfl, rfl⟩ := x1
    have u1 := (sim_many sim_arg stb_arg _).fwd _ _ _ z1
    rw [show min (n : Int).toNat 20 = (n : Int).toNat by omega, u1] at eA
    simp only [Prod.mk.injEq] at eA
    obtain ⟨rfl, rfl, rfl⟩ := eA
    have u2 := (Ref.rt_fwd h2).1
    rw [eI] at u2
    simp only [Prod.mk.injEq] at u2
    obtain ⟨rfl, rfl, rfl⟩ := u2
    obtain ⟨n', X1, x1, y2, z1⟩ := some_inv (stb_rn _) h3
    rw [ek] at x1
    simp only [Prod.mk.injEq] at x1
    obtain ⟨rfl, rfl, rfl⟩ := x1
    have u1 := (sim_many (sim_rn 4096) (stb_rn _) _).fwd _ _ _ z1
    rw [show min (k : Int).toNat 70 = (k : Int).toNat by omega, u1] at eS
    simp only [Prod.mk.injEq] at eS
    obtain ⟨rfl, rfl, rfl⟩ := eS
    have u2 := (Ref.rt_fwd h4).1
    rw [eR] at u2
    simp only [Prod.mk.injEq] at u2
    obtain ⟨rfl, rfl, rfl⟩ := u2
    obtain ⟨n', X1, x1, y3, z1⟩ := some_inv stb_rw h5
    rw [ec] at x1
    simp only [Prod.mk.injEq] at x1
    obtain ⟨rfl, rfl, rfl⟩ := x1
    have u1 := (sim_many sim_rw stb_rw _).fwd _ _ _ z1
    rw [show min (c : Int).toNat 70 = (c : Int).toNat by omega, u1] at eC
    simp only [Prod.mk.injEq] at eC
    obtain ⟨rfl, rfl, rfl⟩ := eC
    obtain ⟨n', X1, x1, y4, z1⟩ := some_inv stb_file h6
    rw [eq] at x1
    simp only [Prod.mk.injEq] at x1
    obtain ⟨rfl, rfl, rfl⟩ := x1
    have u1 := (sim_many sim_file stb_file _).fwd _ _ _ z1
    rw [show min (q : Int).toNat 20 = (q : Int).toNat by omega, u1] at eF
    simp only [Prod.mk.injEq] at eF
    obtain ⟨rfl, rfl, rfl⟩ := eF
    exact ⟨⟨rfl, rfl, rfl, rfl, rfl, rfl, rfl, rfl⟩, by omega, by omega, by omega, by omega⟩
  have D2 : f7 = false → n ≤ 16 → k ≤ 64 → c ≤ 64 → q ≤ 8 → Fee.good ⟨A, I, S, R, C, F⟩ = true → Fee.parts L false = ((A, I, S, R, C, F), L7, false) := by
    rintro rfl hn hk hc hq hg
    obtain ⟨p1, p2, p3⟩ := Fee.good_parts hg
    obtain ⟨l1, l2, l3, l4, l5, l6⟩ := Fee.good_len hg
    dsimp only at p1 p2 p3 l1 l2 l3 l4 l5 l6
    rw [show min (q : Int).toNat 20 = (q : Int).toNat by omega] at eF
    rw [show min (c : Int).toNat 70 = (c : Int).toNat by omega] at eC
    rw [show min (k : Int).toNat 70 = (k : Int).toNat by omega] at eS
    rw [show min (n : Int).toNat 20 = (n : Int).toNat by omega] at eA
    obtain ⟨rfl, v6⟩ := (sim_many sim_file stb_file _).back _ _ _ _ eF p3
    obtain ⟨rfl, -⟩ := Ref.num_back eq
    obtain ⟨rfl, v5⟩ := (sim_many sim_rw stb_rw _).back _ _ _ _ eC (fun _ _ => trivial)
    obtain ⟨rfl, -⟩ := Ref.num_back ec
    obtain ⟨rfl, v4⟩ := Ref.rt_back (m := 4096) eR (by omega)
    obtain ⟨rfl, v3⟩ := (sim_many (sim_rn 4096) (stb_rn _) _).back _ _ _ _ eS (fun x hx => (p2 x hx).2)
    obtain ⟨rfl, -⟩ := Ref.num_back ek
    obtain ⟨rfl, v2⟩ := Ref.rt_back (m := 4096) eI (by omega)
    obtain ⟨rfl, v1⟩ := (sim_many sim_arg stb_arg _).back _ _ _ _ eA p1
    exact pair_mk (some_mk en (by omega) v1) (pair_mk v2 (pair_mk (some_mk ek (by omega) v3) (pair_mk v4 (pair_mk (some_mk ec (by omega) v5) (some_mk eq (by omega) v6)))))
  unfold Ref.fin
  by_cases hb : f7 = true ∨ 0 < L7.length ∨ (16 : Int) < n ∨ (64 : Int) < k ∨ (64 : Int) < c ∨ (8 : Int) < q ∨ Fee.good ⟨A, I, S, R, C, F⟩ = false
  · rw [if_pos hb]
    have hget : Fee.get L = (Fee.noFd, 3) := by
      unfold Fee.get
      by_cases hx : (Fee.parts L false).2.2 = true ∨ 0 < (Fee.parts L false).2.1.length ∨ Fee.good (Fee.fdOf (Fee.parts L false).1) = false
      · rw [if_pos hx]
      · exfalso
        obtain ⟨⟨A', I', S', R', C', F'⟩, R7, b7, hp⟩ : ∃ p R7 b7, Fee.parts L false = (p, R7, b7) := ⟨_, _, _, rfl⟩
        rw [hp] at hx
        dsimp only [Fee.fdOf] at hx
        have hb7 : b7 = false := by cases b7; rfl; exact absurd (Or.inl rfl) hx
        subst hb7
        obtain ⟨⟨rfl, rfl, rfl, rfl, rfl, rfl, rfl, rfl⟩, g1, g2, g3, g4⟩ := D1 _ _ _ _ _ _ _ hp
        rcases hb with h | h | h | h | h | h | h
        · cases h
        · exact hx (Or.inr (Or.inl h))
        · omega
        · omega
        · omega
        · omega
        · exact hx (Or.inr (Or.inr h))
    rw [hget]
    rfl
  · rw [if_neg hb]
    have hf : f7 = false := by cases f7; rfl; exact absurd (Or.inl rfl) hb
    have hg : Fee.good ⟨A, I, S, R, C, F⟩ = true := by
      cases h : Fee.good ⟨A, I, S, R, C, F⟩ with
      | true => rfl
      | false => exact absurd (Or.inr (Or.inr (Or.inr (Or.inr (Or.inr (Or.inr h)))))) hb
    have hL : ¬ 0 < L7.length := fun h => hb (Or.inr (Or.inl h))
    have h1 : ¬ (16 : Int) < n := fun h => hb (Or.inr (Or.inr (Or.inl h)))
    have h2 : ¬ (64 : Int) < k := fun h => hb (Or.inr (Or.inr (Or.inr (Or.inl h))))
    have h3 : ¬ (64 : Int) < c := fun h => hb (Or.inr (Or.inr (Or.inr (Or.inr (Or.inl h)))))
    have h4 : ¬ (8 : Int) < q := fun h => hb (Or.inr (Or.inr (Or.inr (Or.inr (Or.inr (Or.inl h))))))
    have hp := D2 hf (by omega) (by omega) (by omega) (by omega) hg
    have hget : Fee.get L = (⟨A, I, S, R, C, F⟩, 0) := by
      have hng : ¬ ((false : Bool) = true ∨ 0 < L7.length ∨ Fee.good ⟨A, I, S, R, C, F⟩ = false) := by
        rintro (h | h | h)
        · cases h
        · exact hL h
        · rw [hg] at h; cases h
      unfold Fee.get
      rw [hp]
      exact if_neg hng
    rw [hget]
    rfl
/-- GetFeed is Get. -/
theorem rGetF_c (w : World) (v : Value) (L : List Int) (hv : Rd8 w v L) (h8 : B8s L) (hl : L.length ≤ 900000) : Calls Try.prog 8 #[v] w fun e w' => ∃ u, e = .returned (.tuple #[u, .bool (decide ((Fee.get L).2 = 0))]) ∧ IsFd w' u (Fee.get L).1 ∧ Bw w w' := by
  obtain ⟨n, k, c, q, A, I, S, R, C, F, L7, f7, hP, hO, hS, hfin⟩ := Ref.get_ok L h8 hl
  have h := rGet_c w v L hv h8 hl n k c q A I S R C F L7 f7 hP hO hS
  rw [hfin] at h
  exact h
end Go.Proofs.Ytmecompcffphcaa
