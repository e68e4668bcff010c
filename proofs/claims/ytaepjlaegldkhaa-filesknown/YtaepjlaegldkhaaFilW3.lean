/- LAYER 11's walks: which File has that Name. -/
import Derived.Test.YtaepjlaegldkhaaFilW2
namespace Go.Proofs.Ytaepjlaegldkhaa
open Go.ChangeShapes Go.WideShapes Go.ChangeAt Go.RowKit

theorem idx_hit {α : Type} {p : α → Bool} {l : List α} {k : Nat} {x : α} (hx : l[k]? = some x) (hp : p x = true) (hno : ∀ (i : Nat) y, i < k → l[i]? = some y → p y = false) : l.findIdx? p = some k := by
  rw [List.findIdx?_eq_some_iff_getElem]
  obtain ⟨hk, he⟩ := List.getElem?_eq_some_iff.1 hx
  refine ⟨hk, by rw [he]; exact hp, fun j hj => ?_⟩
  rw [hno j l[j] hj (List.getElem?_eq_getElem (by omega))]; simp
theorem idx_none {α : Type} {p : α → Bool} {l : List α} (hno : ∀ (i : Nat) y, i < l.length → l[i]? = some y → p y = false) : l.findIdx? p = none := by
  rw [List.findIdx?_eq_none_iff]
  intro y hy
  obtain ⟨i, hi, rfl⟩ := List.getElem_of_mem hy
  exact hno i _ hi (List.getElem?_eq_getElem hi)
theorem ret_i {a b : Int} {w w' : World} (h : a = b) (g : Bw w w') : Ending.returned (.int .i64 a) = .returned (.int .i64 b) ∧ Bw w w' := ⟨by rw [h], g⟩
def Fil.same (name : ByteArray) (f : Fee.Fl) : Bool := f.name.toList == name.toList
def Fil.idx (l : List Fee.Fl) (name : ByteArray) : Int := match l.findIdx? (Fil.same name) with | some i => i | none => -1
theorem Fil.find_idx (l : List Fee.Fl) (name : ByteArray) : Fil.find l name = 1 + Fil.idx (l.drop 1) name := by
  unfold Fil.find Fil.idx
  rw [show (fun f : Fee.Fl => f.name.toList == name.toList) = Fil.same name from rfl]
  cases (l.drop 1).findIdx? (Fil.same name) with
  | none => rfl
  | some i => dsimp only; omega
set_option maxHeartbeats 1000000 in
set_option maxRecDepth 100000 in
theorem find1_c {w : World} {B : Nat} {name : ByteArray} (hB : w.cell? ⟨B, 0, none⟩ = some (.string name)) (nm : ByteArray) (u : Value) : Calls Try.prog 45 #[.agg #[.string nm, u], .pointer (some ⟨B, 0, none⟩)] w fun e w' => e = .returned (.bool (nm.toList == name.toList)) ∧ Bw w w' := by
  have h1 := ((Bw.refl w).alloc (.cells #[.string nm, u] 27)).keep hB
  have h2 := (Box.new w [.string nm, u] 27).c 0 _ rfl
  go_enter Try.func45, Try.ntmps45
  go_wp2
  go_returns
  exact ⟨rfl, by (repeat' (first | (with_reducible assumption) | (with_reducible exact Bw.refl _) | (with_reducible refine Bw.alloc ?_ _) | (with_reducible refine Bw.drew ?_) | (with_reducible refine Bw.drewN ?_ _) | (with_reducible refine Bw.setCell ?_ ?_ _) | exact Nat.le_refl _))⟩
set_option maxHeartbeats 2000000 in
set_option maxRecDepth 100000 in
theorem idxFunc_c {w : World} {B : Nat} {name : ByteArray} (hB : w.cell? ⟨B, 0, none⟩ = some (.string name)) (l : List Fee.Fl) (b o cap : Nat) (hl : l.length ≤ 10000)
    (hc : ∀ (i : Nat) f, l[i]? = some f → ∃ qs cs, w.cell? ⟨b, o + i * 2, none⟩ = some (.string f.name) ∧ w.cell? ⟨b, o + i * 2 + 1, none⟩ = some (.slice qs f.data.length cs)) :
    Calls Try.prog 44 #[.slice (some ⟨b, o, none⟩) l.length cap, .func (.func 45) #[] #[.pointer (some ⟨B, 0, none⟩)]] w fun e w' => e = .returned (.int .i64 (Fil.idx l name)) ∧ Bw w w' := by
  have hl2 : (l.length : Int) ≤ 10000 := by omega
  generalize hR : Fil.idx l name = R
  have HR : Hid _ := hR
  clear hR
  go_enter Try.func44, Try.ntmps44
  go_wp2
  go_loopg [5, 8] l.length (fun gg _ s8 wr => ∃ k : Nat, k + gg = l.length ∧ s8 = .int .i64 k ∧ Bw w wr ∧ Hid (∀ (i : Nat) y, i < k → l[i]? = some y → Fil.same name y = false))
  case atStart => exact ⟨0, by omega, rfl, Bw.refl _, fun i y h => by omega⟩
  case round =>
    obtain ⟨k, hkg, rfl, hbw, HNo⟩ := hrel
    by_cases hk : k = l.length
    · subst hk
      have HF : Hid (-1 = R) := by
        have h := (show _ = R from HR)
        unfold Fil.idx at h
        rw [idx_none (show ∀ (i : Nat) y, i < l.length → l[i]? = some y → Fil.same name y = false from HNo)] at h
        exact h
      clear hc
      go_wp2
      go_returns
      exact ret_i HF hbw
    · have hkl : k < l.length := by omega
      have hki : (k : Int) < (l.length : Int) := by omega
      obtain ⟨f, hs, -⟩ := dropAt hkl
      obtain ⟨qs, cs, c0, c1⟩ := hc k f hs
      replace c0 := hbw.keep c0
      replace c1 := hbw.keep c1
      have hcall := find1_c (hbw.keep hB) f.name (.slice qs f.data.length cs)
      clear hc
      cases hq : Fil.same name f with
      | true =>
        rw [show (f.name.toList == name.toList) = true from hq] at hcall
        have HF : Hid ((k : Int) = R) := by
          have h := (show _ = R from HR)
          unfold Fil.idx at h
          rw [idx_hit hs hq (show ∀ (i : Nat) y, i < k → l[i]? = some y → Fil.same name y = false from HNo)] at h
          exact h
        clear hs hq
        go_wp2_with fail
        refine hcall.mono ?_
        rintro e w' ⟨rfl, hb'⟩
        go_wp2_with fail
        go_returns
        exact ret_i HF (hbw.trans hb')
      | false =>
        rw [show (f.name.toList == name.toList) = false from hq] at hcall
        have HN2 : Hid (∀ (i : Nat) y, i < k + 1 → l[i]? = some y → Fil.same name y = false) := fun i y hi hy => by
          by_cases e : i = k
          · subst e; rw [hs] at hy; obtain rfl := Option.some.inj hy; exact hq
          · exact (show ∀ (i : Nat) y, i < k → l[i]? = some y → Fil.same name y = false from HNo) i y (by omega) hy
        clear hs hq HNo
        go_wp2_with fail
        refine hcall.mono ?_
        rintro e w' ⟨rfl, hb'⟩
        go_wp2_with fail
        go_roundg (l.length - (k + 1))
        case measure => omega
        case rel => exact ⟨k + 1, by omega, by simp, hbw.trans hb', HN2⟩
end Go.Proofs.Ytaepjlaegldkhaa
