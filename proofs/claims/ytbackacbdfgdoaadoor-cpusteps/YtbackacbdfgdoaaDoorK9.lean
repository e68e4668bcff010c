/- LAYER 12's walks: reckon, branch. · PLAIN: how a step's parts meet the contracts (the State that is worked on: x0 nought, the place and the count ahead). · PLAIN: a step that cannot be done leaves the State; one that can tells nothing. · PLAIN, LAYER 12: the memory of three pages that the laws make. -/
import Derived.Test.YtbackacbdfgdoaaDoorK8
import Derived.Test.YtbackacbdfgdoaaDoorK1
import Derived.Test.YtbackacbdfgdoaaDoorK7
namespace Go.Proofs.YtbackacbdfgdoaaDoor
open Go.ChangeShapes Go.WideShapes Go.ChangeAt Go.RowKit
open Cpu
set_option linter.unusedVariables false
set_option linter.unusedSimpArgs false

namespace Cpu
def rckV (s : St) (op : Int) (rs1 rs2 : Nat) (imm : Int) : Int := Alu.val (Rv.kd op) (s.x rs1) (if op ≤ 27 then imm % 4294967296 else s.x rs2)
end Cpu
set_option maxRecDepth 100000 in
set_option maxHeartbeats 1000000 in
theorem reckon_c {w : World} {b : Nat} {s : St} (h : SB w b s) (hk : KTab w) (hx : ∀ k, U4 (s.x k)) (op : Int) (hop : 19 ≤ op ∧ op ≤ 45) (rd rs1 rs2 : Nat) (hrd : rd < 32) (h1 : rs1 < 32) (h2 : rs2 < 32) (imm : Int) :
    Calls Tryd.prog 64 #[Rv.iv ⟨op, rd, rs1, rs2, imm⟩, .pointer (some ⟨b, 0, none⟩)] w fun e w' => e = .returned (.tuple #[]) ∧ SB w' b (s.put rd (rckV s op rs1 rs2 imm)) ∧ Bq b w w' := by
  unfold Rv.iv
  have hl := h.lt
  have c1 := h.c h1
  have c2 := h.c h2
  have cd := h.c hrd
  have fd := h.f (i := rd) (by omega)
  have hk' : KTab (w.alloc (.cells #[.int .i64 op, .int .i64 rd, .int .i64 rs1, .int .i64 rs2, .int .i32 imm] 28)) := fun i hi => ((Bw.refl w).alloc _).keep (hk i hi)
  have i0 : (rd : Int) < 32 := by omega
  have i1 : (rs1 : Int) < 32 := by omega
  have i2 : (rs2 : Int) < 32 := by omega
  have x1 := hx rs1
  have x2 := hx rs2
  unfold Cpu.rckV
  generalize s.x rs1 = a1 at *
  generalize s.x rs2 = a2 at *
  obtain ⟨o0, o1⟩ := hop
  by_cases h27 : op ≤ 27
  · rw [if_pos h27]
    go_enter Tryd.func64, Tryd.ntmps64
    go_wp2_with (go_at_call 21; refine (Kind_c op ⟨by omega, by omega⟩ _ hk').mono ?_; rintro e w2 ⟨rfl, rfl⟩)
    go_region
    all_goals go_wp2_with fail
    all_goals go_region_with (go_at_call 22; refine (Do_c _ _ _ x1 (U4.mod _) _).mono ?_; rintro e w2 ⟨rfl, rfl⟩)
    all_goals go_wp2_with fail
    all_goals go_returns
    all_goals exact ⟨rfl, by (repeat' (first | (with_reducible assumption) | (with_reducible refine SB.put ?_ (by assumption) _) | (with_reducible refine SB.setPc ?_ _) | (with_reducible refine SB.setRet ?_ _) | (with_reducible refine SB.al ?_ _) | (with_reducible refine SB.dr ?_) | (with_reducible refine SB.drN ?_ _) | (with_reducible refine SB.ne ?_ (by omega) _ _) | (with_reducible refine SB.bw ?_ (by assumption)))), by (repeat' (first | (with_reducible assumption) | (with_reducible exact Bq.refl _ _) | (with_reducible refine Bq.set ?_ _ _) | (with_reducible refine Bq.al ?_ _) | (with_reducible refine Bq.dr ?_) | (with_reducible refine Bq.drN ?_ _) | (with_reducible refine Bq.hi ?_ (by omega) _ _) | (with_reducible refine Bq.trans ?_ (by assumption)) | (with_reducible refine Bq.bw ?_ (by assumption))))⟩
  · rw [if_neg h27]
    have h28 : 27 < op := by omega
    go_enter Tryd.func64, Tryd.ntmps64
    go_wp2_with (go_at_call 21; refine (Kind_c op ⟨by omega, by omega⟩ _ hk').mono ?_; rintro e w2 ⟨rfl, rfl⟩)
    go_region
    all_goals go_wp2_with fail
    all_goals go_region_with (go_at_call 22; refine (Do_c _ _ _ x1 x2 _).mono ?_; rintro e w2 ⟨rfl, rfl⟩)
    all_goals go_wp2_with fail
    all_goals go_returns
    all_goals exact ⟨rfl, by (repeat' (first | (with_reducible assumption) | (with_reducible refine SB.put ?_ (by assumption) _) | (with_reducible refine SB.setPc ?_ _) | (with_reducible refine SB.setRet ?_ _) | (with_reducible refine SB.al ?_ _) | (with_reducible refine SB.dr ?_) | (with_reducible refine SB.drN ?_ _) | (with_reducible refine SB.ne ?_ (by omega) _ _) | (with_reducible refine SB.bw ?_ (by assumption)))), by (repeat' (first | (with_reducible assumption) | (with_reducible exact Bq.refl _ _) | (with_reducible refine Bq.set ?_ _ _) | (with_reducible refine Bq.al ?_ _) | (with_reducible refine Bq.dr ?_) | (with_reducible refine Bq.drN ?_ _) | (with_reducible refine Bq.hi ?_ (by omega) _ _) | (with_reducible refine Bq.trans ?_ (by assumption)) | (with_reducible refine Bq.bw ?_ (by assumption))))⟩
end Go.Proofs.YtbackacbdfgdoaaDoor
namespace Go.Proofs.YtbackacbdfgdoaaDoor
open Cpu
namespace Cpu
/-- The State that do works on. -/
def aft (s : St) : St := ⟨fun k => if k = 0 then 0 else s.x k, next s, s.ret + 1⟩
theorem aft_x (s : St) (k : Nat) : (aft s).x k = if k = 0 then 0 else s.x k := rfl
theorem aft_reg (s : St) {r : Nat} (h : r < 32) : (aft s).x r = reg s r := by
  rw [aft_x]
  unfold reg
  by_cases h0 : r = 0
  · subst h0; simp
  · rw [if_neg h0, if_neg (by omega)]; simp
theorem reg_aft (s : St) (r : Int) : reg (aft s) r = reg s r := by
  unfold reg
  by_cases h : r < 1 ∨ 32 ≤ r
  · rw [if_pos h, if_pos h]
  · rw [if_neg h, if_neg h, aft_x, if_neg (by omega)]
theorem adr_aft (i : Rv.Ins) (s : St) : adr i (aft s) = adr i s := by unfold adr; rw [reg_aft]
theorem St.ext' {a b : St} (h1 : a.x = b.x) (h2 : a.pc = b.pc) (h3 : a.ret = b.ret) : a = b := by
  obtain ⟨_, _, _⟩ := a; obtain ⟨_, _, _⟩ := b; simp_all
theorem done_eq (s : St) {r : Nat} (v p : Int) : (({ aft s with pc := p } : St).put r v).put 0 0 = done s r v p := by
  apply St.ext'
  · funext i
    unfold done aft St.put
    by_cases h0 : i = 0
    · simp [h0]
    · by_cases h1 : i = r <;> simp [h0, h1]
  · rfl
  · rfl
theorem done_next (s : St) {r : Nat} (v : Int) : ((aft s).put r v).put 0 0 = done s r v (next s) := done_eq s v (next s)
theorem done_jump (s : St) {r : Nat} (v p : Int) : ({ (aft s).put r v with pc := p } : St).put 0 0 = done s r v p := done_eq s v p
theorem done_zero (s : St) (p : Int) : ({ aft s with pc := p } : St).put 0 0 = done s 0 0 p := by
  rw [show done s 0 0 p = done s ((0 : Nat) : Int) 0 p from rfl, ← done_eq s 0 p]
  apply St.ext'
  · funext i; unfold St.put; dsimp only; split <;> rfl
  · rfl
  · rfl
theorem done_stay (s : St) : (aft s).put 0 0 = done s 0 0 (next s) := done_zero s (next s)
theorem aft_u4 {s : St} (h : s.Ok) (k : Nat) : U4 ((aft s).x k) := by
  unfold aft; dsimp only; split
  · exact ⟨by omega, by omega⟩
  · exact h.x k
variable (S : MS) (i : Rv.Ins) (s : St)
theorem run_b (h : 5 ≤ i.op ∧ i.op ≤ 10) : run S i s = brn S s i := by
  unfold run; rw [if_neg (by omega), if_neg (by omega), if_neg (by omega), if_neg (by omega), if_pos (by omega)]
theorem run_l (h : 11 ≤ i.op ∧ i.op ≤ 15) : run S i s = lod S s i := by
  unfold run; rw [if_neg (by omega), if_neg (by omega), if_neg (by omega), if_neg (by omega), if_neg (by omega), if_pos (by omega)]
theorem run_s (h : 16 ≤ i.op ∧ i.op ≤ 18) : run S i s = sto S s i := by
  unfold run; rw [if_neg (by omega), if_neg (by omega), if_neg (by omega), if_neg (by omega), if_neg (by omega), if_neg (by omega), if_pos (by omega)]
theorem run_r (h : 19 ≤ i.op ∧ i.op ≤ 45) : run S i s = rck S s i := by
  unfold run; rw [if_neg (by omega), if_neg (by omega), if_neg (by omega), if_neg (by omega), if_neg (by omega), if_neg (by omega), if_neg (by omega), if_pos (by omega)]
theorem run_f (h : 46 ≤ i.op ∧ i.op ≤ 47) : run S i s = ⟨done s 0 0 (next s), nx, S⟩ := by
  unfold run; rw [if_neg (by omega), if_neg (by omega), if_neg (by omega), if_neg (by omega), if_neg (by omega), if_neg (by omega), if_neg (by omega), if_neg (by omega), if_pos (by omega)]
theorem hop_ev (r v to : Int) : (hop S s r v to).ev = jmpE to := by unfold hop jmpE; split <;> rfl
theorem hop_mem (r v to : Int) : (hop S s r v to).mem = S := by unfold hop; split <;> rfl
theorem hop_st {r : Nat} (v to : Int) (h : (hop S s r v to).ev.kind = 0) : (jmpS ((aft s).put r v) to).put 0 0 = (hop S s r v to).st := by
  by_cases ht : to % 4 = 0
  · have e : hop S s r v to = ⟨done s r v to, nx, S⟩ := by unfold hop; rw [if_pos ht]
    rw [e]
    unfold jmpS; rw [if_pos ht]
    exact done_jump s v to
  · have e : hop S s r v to = ⟨s, ⟨7, to, 0⟩, S⟩ := by unfold hop; rw [if_neg ht]
    rw [e] at h
    simp at h
theorem hop_st0 (to : Int) (h : (hop S s 0 0 to).ev.kind = 0) : (jmpS (aft s) to).put 0 0 = (hop S s 0 0 to).st := by
  by_cases ht : to % 4 = 0
  · have e : hop S s 0 0 to = ⟨done s 0 0 to, nx, S⟩ := by unfold hop; rw [if_pos ht]
    rw [e]
    unfold jmpS; rw [if_pos ht]
    exact done_zero s to
  · have e : hop S s 0 0 to = ⟨s, ⟨7, to, 0⟩, S⟩ := by unfold hop; rw [if_neg ht]
    rw [e] at h
    simp at h
theorem even32 {A : Int} (h : U4 A) : bits .andNot .u32 A 1 = A - A % 2 := by
  obtain ⟨h0, h1⟩ := h
  rw [u32_andNot A 1 h0 h1 (by omega) (by omega)]
  have e : (4294967295 - (1 : Int).toNat) = 4294967294 := by decide
  rw [e]
  have hd : (A.toNat &&& 4294967294) / 2 = A.toNat / 2 := by
    rw [Nat.and_div_two]
    have : A.toNat / 2 &&& (4294967294 / 2) = A.toNat / 2 % 2 ^ 31 := Nat.and_two_pow_sub_one_eq_mod _ 31
    rw [this, Nat.mod_eq_of_lt (by omega)]
  have hm : (A.toNat &&& 4294967294) % 2 ^ 1 = 0 := by
    rw [← Nat.and_two_pow_sub_one_eq_mod, Nat.and_assoc]
    have : (4294967294 : Nat) &&& (2 ^ 1 - 1) = 0 := by decide
    rw [this, Nat.and_zero]
  omega
end Cpu
end Go.Proofs.YtbackacbdfgdoaaDoor
namespace Go.Proofs.YtbackacbdfgdoaaDoor
open Cpu
namespace Cpu
theorem hop_no (S : MS) (s : St) (r v to : Int) (h : (Cpu.hop S s r v to).ev.kind ≠ 0) : (Cpu.hop S s r v to).st = s := by
  unfold Cpu.hop at h ⊢; split
  · rename_i ht; rw [if_pos ht] at h; exact absurd rfl h
  · rfl
theorem hop_ok (S : MS) (s : St) (r v to : Int) (h : (Cpu.hop S s r v to).ev.kind = 0) : (Cpu.hop S s r v to).ev = nx := by
  unfold Cpu.hop at h ⊢; split
  · rfl
  · rename_i ht; rw [if_neg ht] at h; simp at h
theorem brn_no (S : MS) (s : St) (i : Rv.Ins) (h : (brn S s i).ev.kind ≠ 0) : (brn S s i).st = s := by
  unfold brn at h ⊢; split
  · rename_i ht; rw [if_pos ht] at h; exact hop_no _ _ _ _ _ h
  · rename_i ht; rw [if_neg ht] at h; exact absurd rfl h
theorem brn_ok (S : MS) (s : St) (i : Rv.Ins) (h : (brn S s i).ev.kind = 0) : (brn S s i).ev = nx := by
  unfold brn at h ⊢; split
  · rename_i ht; rw [if_pos ht] at h; exact hop_ok _ _ _ _ _ h
  · rfl
theorem lod_no (S : MS) (s : St) (i : Rv.Ins) (h : (lod S s i).ev.kind ≠ 0) : (lod S s i).st = s := by
  unfold lod at h ⊢; split
  · rename_i ht; rw [if_pos ht] at h; exact absurd rfl h
  · rfl
theorem lod_ok (S : MS) (s : St) (i : Rv.Ins) (h : (lod S s i).ev.kind = 0) : (lod S s i).ev = nx := by
  unfold lod at h ⊢; split
  · rfl
  · rename_i ht; rw [if_neg ht] at h; simp at h
theorem sto_no (S : MS) (s : St) (i : Rv.Ins) (h : (sto S s i).ev.kind ≠ 0) : (sto S s i).st = s ∧ (sto S s i).mem = S := by
  unfold sto at h ⊢; split
  · rename_i ht; rw [if_pos ht] at h; exact absurd rfl h
  · exact ⟨rfl, rfl⟩
theorem sto_ok (S : MS) (s : St) (i : Rv.Ins) (h : (sto S s i).ev.kind = 0) : (sto S s i).ev = nx := by
  unfold sto at h ⊢; split
  · rfl
  · rename_i ht; rw [if_neg ht] at h; simp at h
/-- The classes of Ops. -/
theorem run_cases (S : MS) (i : Rv.Ins) (s : St) :
    (∃ v, run S i s = ⟨done s i.rd v (next s), nx, S⟩) ∨ (∃ r v to, run S i s = Cpu.hop S s r v to) ∨ run S i s = brn S s i ∨ run S i s = lod S s i ∨ run S i s = sto S s i ∨ run S i s = ⟨done s 0 0 (next s), nx, S⟩ ∨
    run S i s = ⟨s, ⟨5, s.pc, 0⟩, S⟩ ∨ run S i s = ⟨s, ⟨6, s.pc, 0⟩, S⟩ := by
  obtain ⟨R, hR⟩ : ∃ R, run S i s = R := ⟨_, rfl⟩
  rw [hR]
  unfold run at hR
  by_cases h : i.op = 1
  · rw [if_pos h] at hR; exact Or.inl ⟨_, hR.symm⟩
  rw [if_neg h] at hR; clear h
  by_cases h : i.op = 2
  · rw [if_pos h] at hR; exact Or.inl ⟨_, hR.symm⟩
  rw [if_neg h] at hR; clear h
  by_cases h : i.op = 3
  · rw [if_pos h] at hR; exact Or.inr (Or.inl ⟨_, _, _, hR.symm⟩)
  rw [if_neg h] at hR; clear h
  by_cases h : i.op = 4
  · rw [if_pos h] at hR; exact Or.inr (Or.inl ⟨_, _, _, hR.symm⟩)
  rw [if_neg h] at hR; clear h
  by_cases h : i.op ≤ 10
  · rw [if_pos h] at hR; exact Or.inr (Or.inr (Or.inl hR.symm))
  rw [if_neg h] at hR; clear h
  by_cases h : i.op ≤ 15
  · rw [if_pos h] at hR; exact Or.inr (Or.inr (Or.inr (Or.inl hR.symm)))
  rw [if_neg h] at hR; clear h
  by_cases h : i.op ≤ 18
  · rw [if_pos h] at hR; exact Or.inr (Or.inr (Or.inr (Or.inr (Or.inl hR.symm))))
  rw [if_neg h] at hR; clear h
  by_cases h : i.op ≤ 45
  · rw [if_pos h] at hR; exact Or.inl ⟨_, hR.symm⟩
  rw [if_neg h] at hR; clear h
  by_cases h : i.op ≤ 47
  · rw [if_pos h] at hR; exact Or.inr (Or.inr (Or.inr (Or.inr (Or.inr (Or.inl hR.symm)))))
  rw [if_neg h] at hR; clear h
  by_cases h : i.op = 48
  · rw [if_pos h] at hR; exact Or.inr (Or.inr (Or.inr (Or.inr (Or.inr (Or.inr (Or.inl hR.symm))))))
  rw [if_neg h] at hR; clear h
  exact Or.inr (Or.inr (Or.inr (Or.inr (Or.inr (Or.inr (Or.inr hR.symm))))))
theorem run_no (S : MS) (i : Rv.Ins) (s : St) (h : (run S i s).ev.kind ≠ 0) : (run S i s).st = s ∧ (run S i s).mem = S := by
  rcases run_cases S i s with ⟨v, e⟩ | ⟨r, v, to, e⟩ | e | e | e | e | e | e <;> rw [e] at h ⊢
  · exact absurd rfl h
  · exact ⟨hop_no _ _ _ _ _ h, hop_mem _ _ _ _ _⟩
  · refine ⟨brn_no _ _ _ h, ?_⟩
    unfold brn; split
    · exact hop_mem _ _ _ _ _
    · rfl
  · refine ⟨lod_no _ _ _ h, ?_⟩
    unfold lod; split <;> rfl
  · exact sto_no _ _ _ h
  · exact absurd rfl h
  · exact ⟨rfl, rfl⟩
  · exact ⟨rfl, rfl⟩
theorem run_ok (S : MS) (i : Rv.Ins) (s : St) (h : (run S i s).ev.kind = 0) : (run S i s).ev = nx := by
  rcases run_cases S i s with ⟨v, e⟩ | ⟨r, v, to, e⟩ | e | e | e | e | e | e <;> rw [e] at h ⊢
  · exact hop_ok _ _ _ _ _ h
  · exact brn_ok _ _ _ h
  · exact lod_ok _ _ _ h
  · exact sto_ok _ _ _ h
  · simp at h
  · simp at h
theorem fetch_ok {S : MS} (h : S.Ok) {pc : Int} (h0 : (fetch S pc).2.kind = 0) : InsOk (fetch S pc).1 ∧ 1 ≤ (fetch S pc).1.op := by
  unfold fetch at h0 ⊢
  by_cases ha : S.ask pc 4 4 = 0
  · rw [if_pos ha] at h0 ⊢
    by_cases ho : (Rv.dec (S.load pc 4 4)).op = 0
    · rw [if_pos ho] at h0; simp at h0
    · rw [if_neg ho]
      have hi := dec_ok (MS.load_u4 h pc 4 4)
      exact ⟨hi, by have := hi.op; show 1 ≤ (Rv.dec (S.load pc 4 4)).op; omega⟩
  · rw [if_neg ha] at h0; simp at h0
def zst : St := ⟨fun _ => 0, 0, 0⟩
theorem arr_zst : arr zst = #[.int .u32 0, .int .u32 0, .int .u32 0, .int .u32 0, .int .u32 0, .int .u32 0, .int .u32 0, .int .u32 0, .int .u32 0, .int .u32 0, .int .u32 0, .int .u32 0, .int .u32 0, .int .u32 0, .int .u32 0, .int .u32 0, .int .u32 0, .int .u32 0, .int .u32 0, .int .u32 0, .int .u32 0, .int .u32 0, .int .u32 0, .int .u32 0, .int .u32 0, .int .u32 0, .int .u32 0, .int .u32 0, .int .u32 0, .int .u32 0, .int .u32 0, .int .u32 0, .int .u32 0, .int .i64 0] := by rfl
end Cpu
end Go.Proofs.YtbackacbdfgdoaaDoor
namespace Go.Proofs.YtbackacbdfgdoaaDoor
open Cpu
set_option linter.unusedVariables false
namespace Cpu
def base3 : MS := (((MS.new 50).mapS 4096 256 5).mapS 65536 256 3).mapS 65792 256 1
def poke (S : MS) (a : Int) (l : List Int) : MS := if l = [] then S else S.put a l.length (fun i => l.getD i 0)
def cbs (ws : List Int) : List Int := (ws.take 64).flatMap Fee.w4
def mkS (ws db : List Int) : MS := poke (poke base3 4096 (cbs ws)) 65536 (db.take 512)
/-- The permissions of the three pages. -/
def p3 (k : Int) : Option Int := if k = 16 then some 5 else if k = 256 then some 3 else if k = 257 then some 1 else none
theorem mapS_ok {S : MS} {a n p : Int} (h : S.mapE a n p = 0) : S.mapS a n p = S.map (a / 256) ((n + 255) / 256).toNat p := if_pos h
theorem m1 : (MS.new 50).mapE 4096 256 5 = 0 := by decide +kernel
theorem e1 : (MS.new 50).mapS 4096 256 5 = (MS.new 50).map 16 1 5 := by rw [mapS_ok m1]; rfl
theorem t1 : ((MS.new 50).mapS 4096 256 5).th = [16] := by rw [e1]; decide +kernel
theorem m2 : ((MS.new 50).mapS 4096 256 5).mapE 65536 256 3 = 0 := by rw [e1]; decide +kernel
theorem e2 : ((MS.new 50).mapS 4096 256 5).mapS 65536 256 3 = ((MS.new 50).map 16 1 5).map 256 1 3 := by
  rw [mapS_ok m2, e1]; rfl
theorem t2 : (((MS.new 50).mapS 4096 256 5).mapS 65536 256 3).th = [16, 256] := by rw [e2]; decide +kernel
theorem m3 : (((MS.new 50).mapS 4096 256 5).mapS 65536 256 3).mapE 65792 256 1 = 0 := by rw [e2]; decide +kernel
theorem e3 : base3 = (((MS.new 50).map 16 1 5).map 256 1 3).map 257 1 1 := by
  unfold base3
  rw [mapS_ok m3, e2]; rfl
theorem t3 : base3.th = [16, 256, 257] := by rw [e3]; decide +kernel
theorem i2 : InsSpec ((MS.new 50).mapS 4096 256 5).th (lb ((MS.new 50).mapS 4096 256 5).th (65536 / 256)) := by rw [t1]; exact Insert_end [16]
theorem i3 : InsSpec (((MS.new 50).mapS 4096 256 5).mapS 65536 256 3).th (lb (((MS.new 50).mapS 4096 256 5).mapS 65536 256 3).th (65792 / 256)) := by rw [t2]; exact Insert_end [16, 256]

/-- A memory of these three pages, whatever stands in them. -/
structure T3 (S : MS) : Prop where
  pm : ∀ k, (S.pg k).map (·.perm) = p3 k
  th : S.th = [16, 256, 257]
  bd : S.budget = 50
theorem T3.base : T3 base3 := by
  refine ⟨fun k => ?_, t3, by rw [e3]; rfl⟩
  rw [e3]
  unfold MS.map p3
  simp only
  by_cases h3 : k = 257
  · subst h3; rfl
  · by_cases h2 : k = 256
    · subst h2; rfl
    · by_cases h1 : k = 16
      · subst h1; rfl
      · rw [if_neg (by omega), if_neg (by omega), if_neg (by omega), if_neg h1, if_neg h2, if_neg h3]; rfl
theorem T3.put {S : MS} (h : T3 S) (a : Int) (n : Nat) (bs : Nat → Int) : T3 (S.put a n bs) := by
  refine ⟨fun k => ?_, h.th, h.bd⟩
  rw [← h.pm k]
  unfold MS.put MS.putJ
  simp only
  split
  · cases S.pg k <;> rfl
  · rfl
theorem T3.poke {S : MS} (h : T3 S) (a : Int) (l : List Int) : T3 (poke S a l) := by
  unfold Cpu.poke
  split
  · exact h
  · exact h.put _ _ _
theorem T3.made (ws db : List Int) : T3 (mkS ws db) := (T3.base.poke _ _).poke _ _
theorem T3.store {S : MS} (h : T3 S) (a size v : Int) : T3 (S.store a size v) := by
  unfold MS.store
  split
  · split
    · rename_i p hp
      refine ⟨fun k => ?_, h.th, h.bd⟩
      rw [← h.pm k]
      show ((upd S.pg (a / 256) _) k).map _ = _
      by_cases e : k = a / 256
      · subst e; rw [upd_same, hp]; rfl
      · rw [upd_other _ _ e]
    · exact h
  · exact h
theorem T3.run {S : MS} (h : T3 S) (i : Rv.Ins) (s : St) : T3 (Cpu.run S i s).mem := by
  rcases run_cases S i s with ⟨v, e⟩ | ⟨r, v, to, e⟩ | e | e | e | e | e | e <;> rw [e]
  · exact h
  · rw [hop_mem]; exact h
  · unfold brn; split
    · rw [hop_mem]; exact h
    · exact h
  · unfold lod; split <;> exact h
  · unfold sto; split
    · exact h.store _ _ _
    · exact h
  · exact h
  · exact h
  · exact h
theorem T3.step {S : MS} (h : T3 S) (s : St) : T3 (Cpu.step S s).mem := by
  unfold Cpu.step; split
  · exact h.run _ _
  · exact h
theorem T3.pg {S : MS} (h : T3 S) {k q : Int} (hk : p3 k = some q) : ∃ p, S.pg k = some p ∧ p.perm = q := by
  have := h.pm k
  rw [hk] at this
  exact Option.map_eq_some_iff.1 this
theorem T3.none {S : MS} (h : T3 S) {k : Int} (hk : p3 k = none) : S.pg k = none := by
  have := h.pm k
  rw [hk] at this
  exact Option.map_eq_none_iff.1 this
theorem T3.may {S : MS} (h : T3 S) {a : Int} {n : Nat} (ha : a = 4096 ∧ n ≤ 256 ∨ a = 65536 ∧ n ≤ 512) : May S a n 0 := by
  refine ⟨by omega, fun j hj => ?_⟩
  unfold MayAt
  have hb : ∀ x, (bits .and .i64 x 0 == 0) = true ↔ bits .and .i64 x 0 = 0 := fun x => by simp
  unfold cnt at hj
  split at hj
  · omega
  rcases ha with ⟨rfl, hn⟩ | ⟨rfl, hn⟩
  · have : j = 0 := by omega
    subst this
    obtain ⟨p, h1, h2⟩ := h.pg (k := 16) (q := 5) rfl
    exact ⟨p, h1, by rw [h2]; decide⟩
  · have : j = 0 ∨ j = 1 := by omega
    rcases this with rfl | rfl
    · obtain ⟨p, h1, h2⟩ := h.pg (k := 256) (q := 3) rfl
      exact ⟨p, h1, by rw [h2]; decide⟩
    · obtain ⟨p, h1, h2⟩ := h.pg (k := 257) (q := 1) rfl
      exact ⟨p, h1, by rw [h2]; decide⟩
end Cpu
theorem cnt_div12 {a : Int} {n i : Nat} (h : i < n) : ∃ j : Nat, j < cnt a n ∧ (a + (i : Int)) / 256 = a / 256 + j := by
  have h0 : 0 ≤ a % 256 ∧ a % 256 < 256 := by omega
  refine ⟨((a % 256 + i) / 256).toNat, ?_, by omega⟩
  unfold cnt
  rw [if_neg (by omega)]
  omega
theorem put_at12 {S : MS} {a : Int} {n : Nat} {need : Int} {bs : Nat → Int} (hm : May S a n need) {i : Nat} (hi : i < n) : (S.put a n bs).at (a + i) = bs i := by
  obtain ⟨j, hj, e⟩ := cnt_div12 (a := a) hi
  obtain ⟨p, hp, _⟩ := hm.2 j hj
  unfold MS.at MS.put MS.putJ
  simp only
  rw [e, if_pos (by omega), hp]
  simp only [Option.map, putPg]
  have h0 : 0 ≤ (a + (i : Int)) % 256 ∧ (a + (i : Int)) % 256 < 256 := by omega
  rw [if_pos (by omega)]
  congr 1; omega
theorem put_out12 {S : MS} {a : Int} {n : Nat} {bs : Nat → Int} {x : Int} (hx : x < a ∨ a + n ≤ x) : (S.put a n bs).at x = S.at x := by
  unfold MS.at MS.put MS.putJ
  simp only
  have h0 : 0 ≤ x % 256 ∧ x % 256 < 256 := by omega
  by_cases hc : a / 256 ≤ x / 256 ∧ x / 256 < a / 256 + ((cnt a n : Nat) : Int)
  · rw [if_pos hc]
    cases S.pg (x / 256) with
    | none => rfl
    | some p =>
      simp only [Option.map, putPg]
      rw [if_neg (by omega)]
  · rw [if_neg hc]
theorem load_at12 {S : MS} {a need : Int} {p : Pg} (hp : S.pg (a / 256) = some p) (ha : a % 4 = 0) (hb : (bits .and .i64 p.perm need == need) = true) : S.ask a 4 need = 0 ∧ S.load a 4 need = S.at a + S.at (a + 1) * 256 + S.at (a + 2) * 65536 + S.at (a + 3) * 16777216 := by
  have h0 : S.ask a 4 need = 0 := ask_pg hp ⟨by omega, ha⟩ hb
  refine ⟨h0, ?_⟩
  rw [load_pg hp h0]
  have e : ∀ i : Nat, i < 4 → S.at (a + i) = p.byt ((a % 256).toNat + i) := fun i hi => by
    unfold MS.at
    rw [show (a + (i : Int)) / 256 = a / 256 by omega, hp]
    simp only
    congr 1; omega
  have e0 := e 0 (by omega)
  have e1 := e 1 (by omega)
  have e2 := e 2 (by omega)
  have e3 := e 3 (by omega)
  simp at e0 e1 e2 e3
  unfold Pg.val
  rw [if_neg (by omega), if_neg (by omega), e0, e1, e2, e3]
namespace Cpu
theorem cbs_len (ws : List Int) : (cbs ws).length = 4 * (ws.take 64).length := by unfold cbs; rw [chunk_len Fee.w4 4 Fee.w4_len]; omega
theorem poke_at {S : MS} {a need : Int} {l : List Int} (hm : May S a l.length need) {i : Nat} {x : Int} (hx : l[i]? = some x) : (poke S a l).at (a + i) = x := by
  have hi := (List.getElem?_eq_some_iff.1 hx).1
  unfold poke
  rw [if_neg (by intro e; subst e; simp at hi), put_at12 hm hi, List.getD_eq_getElem?_getD, hx]
  rfl
theorem poke_out {S : MS} {a : Int} {l : List Int} {x : Int} (hx : x < a ∨ a + l.length ≤ x) : (poke S a l).at x = S.at x := by
  unfold poke
  split
  · rfl
  · exact put_out12 hx
/-- The code's words stand there. -/
theorem mkS_word (ws db : List Int) {i : Nat} {x : Int} (hi : i < 64) (hx : ws[i]? = some x) (hu : U4 x) : (mkS ws db).ask (4096 + 4 * (i : Int)) 4 4 = 0 ∧ (mkS ws db).load (4096 + 4 * (i : Int)) 4 4 = x := by
  have hil := (List.getElem?_eq_some_iff.1 hx).1
  obtain ⟨p, h1, h2⟩ := (T3.made ws db).pg (k := (4096 + 4 * (i : Int)) / 256) (q := 5) (by rw [show (4096 + 4 * (i : Int)) / 256 = 16 by omega]; rfl)
  obtain ⟨h3, h4⟩ := load_at12 (need := 4) h1 (by omega) (by rw [h2]; decide)
  refine ⟨h3, ?_⟩
  rw [h4]
  have hl : (cbs ws).length ≤ 256 := by rw [cbs_len]; simp; omega
  have hm : May base3 4096 (cbs ws).length 0 := T3.base.may (Or.inl ⟨rfl, hl⟩)
  have hx2 : (ws.take 64)[i]? = some x := by rw [List.getElem?_take_of_lt hi]; exact hx
  have e : ∀ j : Nat, j < 4 → ∀ y, (Fee.w4 x)[j]? = some y → (mkS ws db).at (4096 + 4 * (i : Int) + j) = y := fun j hj y hy => by
    unfold mkS
    rw [poke_out (Or.inl (by omega)), show 4096 + 4 * (i : Int) + (j : Int) = 4096 + ((i * 4 + j : Nat) : Int) by omega]
    refine poke_at hm ?_
    unfold cbs
    rw [chunk Fee.w4 4 Fee.w4_len _ _ _ _ hx2 hj, hy]
  have e0 := e 0 (by omega) _ rfl
  have e1 := e 1 (by omega) _ rfl
  have e2 := e 2 (by omega) _ rfl
  have e3 := e 3 (by omega) _ rfl
  obtain ⟨u0, u1⟩ := hu
  have q0 : (mkS ws db).at (4096 + 4 * (i : Int)) = x % 256 := by simpa using e0
  rw [q0, show (mkS ws db).at (4096 + 4 * (i : Int) + 1) = x / 256 % 256 from e1, show (mkS ws db).at (4096 + 4 * (i : Int) + 2) = x / 65536 % 256 from e2, show (mkS ws db).at (4096 + 4 * (i : Int) + 3) = x / 16777216 from e3]
  omega
theorem enc_u4 {i : Rv.Ins} (h : 1 ≤ i.op ∧ i.op ≤ 49) : U4 (Rv.enc i) := by
  obtain ⟨a, b⟩ := Rv.enc_U32 h
  exact ⟨a, by omega⟩
theorem dec_zero : (Rv.dec 0).op = 0 := by decide +kernel
/-- What Fetch finds there. -/
theorem fetch_ins (ws db : List Int) {k : Nat} {i : Rv.Ins} (hk : k < 64) (hx : ws[k]? = some (Rv.enc i)) (hg : Rv.good i) (hm : -2147483648 ≤ i.imm ∧ i.imm < 2147483648) : fetch (mkS ws db) (4096 + 4 * (k : Int)) = (i, nx) := by
  obtain ⟨h1, h2⟩ := mkS_word ws db hk hx (enc_u4 hg.1)
  unfold fetch
  rw [if_pos h1, h2, Rv.dec_enc hg hm, if_neg (by have := hg.1; omega)]
theorem step_ins (ws db : List Int) {k : Nat} {i : Rv.Ins} (s : St) (hk : k < 64) (hx : ws[k]? = some (Rv.enc i)) (hg : Rv.good i) (hm : -2147483648 ≤ i.imm ∧ i.imm < 2147483648) (hp : s.pc = 4096 + 4 * (k : Int)) : Cpu.step (mkS ws db) s = Cpu.run (mkS ws db) i s := by
  unfold Cpu.step
  rw [hp, fetch_ins ws db hk hx hg hm]
  exact if_pos rfl
end Cpu
end Go.Proofs.YtbackacbdfgdoaaDoor
