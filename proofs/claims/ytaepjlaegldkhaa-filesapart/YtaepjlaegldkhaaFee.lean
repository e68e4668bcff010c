/- LAYER 9, plain: feeds: what may be, what is used. -/
import Derived.Test.YtaepjlaegldkhaaBoxQ
import Derived.Test.YtaepjlaegldkhaaShelf
namespace Go.Proofs.Ytaepjlaegldkhaa
open Go.ChangeShapes Go.WideShapes Go.ChangeAt Go.RowKit

structure Fee.Fl where
  name : ByteArray
  data : List Int
structure Fee.Fd where
  args : List ByteArray
  input : List Int
  short : List Int
  random : List Int
  clock : List Int
  files : List Fee.Fl
def Fee.noFd : Fee.Fd := ⟨[], [], [], [], [], []⟩
def Fee.nul (s : ByteArray) : Bool := decide (0 ≤ Lib.indexByte s.data.toList 0)
def Fee.argOk (s : ByteArray) : Bool := decide (s.size ≤ 200) && !Fee.nul s
def Fee.argsOk (l : List ByteArray) : Bool := decide (l.length ≤ 16) && l.all Fee.argOk
def Fee.shOk (n : Int) : Bool := decide (0 ≤ n) && decide (n ≤ 4096)
def Fee.shortOk (l : List Int) : Bool := decide (l.length ≤ 64) && l.all Fee.shOk
def Fee.fileOk (f : Fee.Fl) : Bool := decide (f.name.size ≠ 0) && decide (f.name.size ≤ 40) && !Fee.nul f.name && decide (f.data.length ≤ 4096)
def Fee.has (l : List Fee.Fl) (name : ByteArray) : Bool := l.any fun f => f.name.toList == name.toList
/-- The files of l from place k on stand. -/
def Fee.filesFrom (l : List Fee.Fl) (k : Nat) : List Fee.Fl → Bool
  | [] => true
  | f :: r => Fee.fileOk f && !Fee.has (l.take k) f.name && Fee.filesFrom l (k + 1) r
def Fee.filesOk (l : List Fee.Fl) : Bool := decide (l.length ≤ 8) && Fee.filesFrom l 0 l
def Fee.good (f : Fee.Fd) : Bool := Fee.argsOk f.args && decide (f.input.length ≤ 4096) && Fee.shortOk f.short && decide (f.random.length ≤ 4096) && decide (f.clock.length ≤ 64) && Fee.filesOk f.files
/-- Slices of texts, of ints, of words, that read so. -/
def TxS (w : World) (v : Value) (l : List ByteArray) : Prop := RdR 1 w v l.length (l.map Value.string)
def NsS (w : World) (v : Value) (l : List Int) : Prop := RdR 1 w v l.length (l.map (Value.int .i64))
def WsS (w : World) (v : Value) (l : List Int) : Prop := RdR 1 w v l.length (l.map (Value.int .u32))
def Fee.flC (f : Fee.Fl) (u : Value) : List Value := [.string f.name, u]
def Fee.cells (l : List Fee.Fl) (us : List Value) : List Value := (l.zip us).flatMap fun p => Fee.flC p.1 p.2
/-- A slice of files that reads so. -/
def FlS (w : World) (v : Value) (l : List Fee.Fl) : Prop :=
  ∃ us : List Value, us.length = l.length ∧ RdR 2 w v l.length (Fee.cells l us) ∧ (∀ (i : Nat) f u, l[i]? = some f → us[i]? = some u → Rd8 w u f.data) ∧ ∀ f ∈ l, B8s f.data
structure Fee.Wf (f : Fee.Fd) : Prop where
  i8 : B8s f.input
  sh : ∀ n ∈ f.short, -9223372036854775808 ≤ n ∧ n ≤ 9223372036854775807
  r8 : B8s f.random
  ck : ∀ n ∈ f.clock, 0 ≤ n ∧ n < 4294967296
/-- A feed as Go holds it. -/
def IsFd (w : World) (v : Value) (f : Fee.Fd) : Prop :=
  ∃ va vi vs vr vc vf, v = .agg #[va, vi, vs, vr, vc, vf] ∧ TxS w va f.args ∧ Rd8 w vi f.input ∧ NsS w vs f.short ∧ Rd8 w vr f.random ∧ WsS w vc f.clock ∧ FlS w vf f.files ∧ Fee.Wf f
theorem FlS.bw {w w' : World} {v : Value} {l : List Fee.Fl} (h : FlS w v l) (g : Bw w w') : FlS w' v l := by
  obtain ⟨us, h1, h2, h3, h4⟩ := h
  exact ⟨us, h1, h2.bw g, fun i f u a b => (h3 i f u a b).bw g, h4⟩
theorem FlS.nil (w : World) : FlS w (.slice none 0 0) [] := ⟨[], rfl, RdR.nil _ _, by simp, by simp⟩
theorem IsFd.bw {w w' : World} {v : Value} {f : Fee.Fd} (h : IsFd w v f) (g : Bw w w') : IsFd w' v f := by
  obtain ⟨va, vi, vs, vr, vc, vf, h0, h1, h2, h3, h4, h5, h6, h7⟩ := h
  exact ⟨va, vi, vs, vr, vc, vf, h0, RdR.bw h1 g, Rd8.bw h2 g, RdR.bw h3 g, Rd8.bw h4 g, RdR.bw h5 g, h6.bw g, h7⟩
theorem RdR.at1 {α : Type} {F : α → Value} {w : World} {v : Value} {l : List α} (h : RdR 1 w v l.length (l.map F)) : ∃ q cap, v = .slice q l.length cap ∧ l.length ≤ cap ∧ cap ≤ 9223372036854775807 ∧
    ∀ (i : Nat) s, l[i]? = some s → ∃ b o, q = some ⟨b, o, none⟩ ∧ b < w.heap.size ∧ w.cell? ⟨b, o + i, none⟩ = some (F s) := by
  obtain ⟨q, cap, h1, h2, h3, h4, h5⟩ := h
  refine ⟨q, cap, h1, h2, h3, fun i s hs => ?_⟩
  obtain ⟨b, o, h6, h7, h8⟩ := h5 (by have := (List.getElem?_eq_some_iff.1 hs).1; omega)
  exact ⟨b, o, h6, h7, h8 i _ (by rw [List.getElem?_map, hs]; rfl)⟩
theorem FlS.open {w : World} {v : Value} {l : List Fee.Fl} (h : FlS w v l) : ∃ q cap, v = .slice q l.length cap ∧ l.length ≤ cap ∧ cap ≤ 9223372036854775807 ∧
    ∀ (i : Nat) f, l[i]? = some f → ∃ b o qs cs, q = some ⟨b, o, none⟩ ∧ b < w.heap.size ∧ w.cell? ⟨b, o + i * 2, none⟩ = some (.string f.name) ∧ w.cell? ⟨b, o + i * 2 + 1, none⟩ = some (.slice qs f.data.length cs) ∧ f.data.length ≤ cs ∧ cs ≤ 9223372036854775807 ∧ Rd8 w (.slice qs f.data.length cs) f.data := by
  obtain ⟨us, hus, ⟨q, cap, h1, h2, h3, h4, h5⟩, hr, hw⟩ := h
  refine ⟨q, cap, h1, h2, h3, fun i f hf => ?_⟩
  have hi : i < l.length := (List.getElem?_eq_some_iff.1 hf).1
  obtain ⟨b, o, h6, h7, h8⟩ := h5 (by omega)
  have hu : us[i]? = some us[i] := List.getElem?_eq_getElem (by omega)
  have hz : (l.zip us)[i]? = some (f, us[i]) := by rw [List.getElem?_zip_eq_some]; exact ⟨hf, hu⟩
  have c : ∀ j u, (Fee.flC f us[i])[j]? = some u → w.cell? ⟨b, o + i * 2 + j, none⟩ = some u := fun j u hj => by
    rw [Nat.add_assoc]
    exact h8 _ u (by unfold Fee.cells; rw [chunk (fun p : Fee.Fl × Value => Fee.flC p.1 p.2) 2 (fun _ => rfl) (l.zip us) i (f, us[i]) j hz (List.getElem?_eq_some_iff.1 hj).1]; exact hj)
  have hR := hr i f _ hf hu
  obtain ⟨qs, cs, e, e1, e2, _⟩ := hR.open
  rw [e] at hR
  exact ⟨b, o, qs, cs, h6, h7, c 0 _ rfl, by rw [← e]; exact c 1 _ rfl, e1, e2, hR⟩
theorem ret_bool {a b : Bool} {w w' : World} (h : a = b) (g : Bw w w') : Ending.returned (.bool a) = .returned (.bool b) ∧ Bw w w' := ⟨by rw [h], g⟩
theorem dropAt {α : Type} {l : List α} {k : Nat} (h : k < l.length) : ∃ s, l[k]? = some s ∧ l.drop k = s :: l.drop (k + 1) := ⟨l[k], List.getElem?_eq_getElem h, List.drop_eq_getElem_cons h⟩
end Go.Proofs.Ytaepjlaegldkhaa
