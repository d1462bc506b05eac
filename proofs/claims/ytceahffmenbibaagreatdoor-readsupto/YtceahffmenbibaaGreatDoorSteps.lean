/- A script that came in, opened: each step's five cells. -/
import Derived.Test.YtceahffmenbibaaGreatDoorChecked
import Derived.WalkKit
import Derived.ProofKit
import Derived.OpenShut
import Derived.Deep.Slices
namespace Go.Proofs.YtceahffmenbibaaGreatDoor
open Go Go.ChangeShapes Go.WideShapes Go.ChangeAt Go.RowKit Go.Deep Go.ChangeMaps

/-- a step as it came in -/
abbrev Stp : Type := Int × Int × Int × ByteArray × ByteArray
def Stp.k (x : Stp) : Int := x.1
def Stp.n (x : Stp) : Int := x.2.1
def Stp.m (x : Stp) : Int := x.2.2.1
def Stp.s (x : Stp) : ByteArray := x.2.2.2.1
def Stp.t (x : Stp) : ByteArray := x.2.2.2.2

theorem Tryz.cellsStep : Tryz.prog.cellsOf 59 = 5 := by kernel_rfl
theorem Tryz.cellsInt : Tryz.prog.cellsOf 3 = 1 := by kernel_rfl
theorem Tryz.cellsStr : Tryz.prog.cellsOf 9 = 1 := by kernel_rfl

/-- the five cells of step i, and their readings -/
def StepAt (w : World) (a : Addr) (i : Nat) (x : Stp) : Prop :=
  w.cell? (a.add (i * 5 + 0)) = some (.int .i64 x.k) ∧ w.cell? (a.add (i * 5 + 1)) = some (.int .i64 x.n) ∧ w.cell? (a.add (i * 5 + 2)) = some (.int .i64 x.m) ∧
  w.cell? (a.add (i * 5 + 3)) = some (.string x.s) ∧ w.cell? (a.add (i * 5 + 4)) = some (.string x.t) ∧ x.s.size ≤ maxLen ∧ x.t.size ≤ maxLen ∧
  (Lit.int .i64 x.k).wf = true ∧ (Lit.int .i64 x.n).wf = true ∧ (Lit.int .i64 x.m).wf = true

def stepData {H : Type} (x : Stp) : DataW H := .agg [.lit (.int .i64 x.k), .lit (.int .i64 x.n), .lit (.int .i64 x.m), .lit (.string x.s.data.toList), .lit (.string x.t.data.toList)]

section
variable {H : Type} {enc : TypeId × Value → H} {w : World} {base : Nat} {spare : Nat → Bool} {held : Bool}


theorem five_of {α : Type} {l : List α} (h : l.length = 5) : ∃ a b c d e, l = [a, b, c, d, e] := by
  match l, h with
  | [a, b, c, d, e], _ => exact ⟨a, b, c, d, e, rfl⟩

theorem step_of {n : Nat} {cs : List Value} {d : DataW H × List MemPlace} (h : DataW.trod enc Tryz.prog w base spare held n 59 cs = some d) :
    ∃ x : Stp, cs = [.int .i64 x.k, .int .i64 x.n, .int .i64 x.m, .string x.s, .string x.t] ∧ d = (stepData x, []) ∧ x.s.size ≤ maxLen ∧ x.t.size ≤ maxLen ∧
      (Lit.int .i64 x.k).wf = true ∧ (Lit.int .i64 x.n).wf = true ∧ (Lit.int .i64 x.m).wf = true := by
  obtain ⟨xs, k, _, hxy, hlen, hxl, hf⟩ := DataW.trod_struct Tryz.underlying59 h
  rw [Tryz.cellsStep] at hlen
  obtain ⟨y0, y1, y2, y3, y4, rfl⟩ := five_of hxl
  obtain ⟨v0, v1, v2, v3, v4, rfl⟩ := five_of hlen
  · have g0 := hf 0 _ rfl
    have g1 := hf 1 _ rfl
    have g2 := hf 2 _ rfl
    have g3 := hf 3 _ rfl
    have g4 := hf 4 _ rfl
    simp [Tryz.cellsInt, Tryz.cellsStr] at g0 g1 g2 g3 g4
    obtain ⟨a0, e0, rfl, w0⟩ := DataW.trod_int Tryz.underlying3 g0
    obtain ⟨a1, e1, rfl, w1⟩ := DataW.trod_int Tryz.underlying3 g1
    obtain ⟨a2, e2, rfl, w2⟩ := DataW.trod_int Tryz.underlying3 g2
    obtain ⟨a3, e3, rfl, w3⟩ := DataW.trod_string Tryz.underlying9 g3
    obtain ⟨a4, e4, rfl, w4⟩ := DataW.trod_string Tryz.underlying9 g4
    simp at e0 e1 e2 e3 e4
    subst e0 e1 e2 e3 e4
    exact ⟨(a0, a1, a2, a3, a4), rfl, by rw [hxy]; rfl, w3, w4, w0, w1, w2⟩

/-- A SCRIPT OPENED: nil, or a row of steps. -/
theorem open_script {fuel : Nat} {cs : List Value} {x : DataW H × List MemPlace} (h : DataW.trod enc Tryz.prog w base spare held fuel 22 cs = some x) :
    (cs = [.slice none 0 0] ∧ x = (.nil, [])) ∨
    ∃ (a : Addr) (len cap : Nat) (q : Nat → Stp) (sp : List (DataW H)), cs = [.slice (some a) len cap] ∧ len ≤ cap ∧ cap ≤ maxLen ∧ x.1 = .slice ((List.range len).map fun i => stepData (q i)) sp ∧
      ∀ i, i < len → StepAt w a i (q i) := by
  rcases open_slice Tryz.underlying22 h with h0 | ⟨a, len, cap, m, n, D, Pl, rfl, _, hl, hm, hmm, rfl, hx⟩
  · exact Or.inl h0
  right
  have hlm : len ≤ m := by rw [hmm]; split <;> omega
  rw [Tryz.cellsStep] at hx
  have each : ∀ i, i < m → ∃ q : Stp, StepAt w a i q ∧ D i = stepData q := fun i hi => by
    obtain ⟨cs', h1, h2⟩ := hx i hi
    obtain ⟨q, rfl, hd, r⟩ := step_of h2
    obtain ⟨_, _, hcell⟩ := World.cells?_some h1
    simp only [Prod.mk.injEq] at hd
    have c0 := hcell 0 (by omega)
    have c1 := hcell 1 (by omega)
    have c2 := hcell 2 (by omega)
    have c3 := hcell 3 (by omega)
    have c4 := hcell 4 (by omega)
    rw [add_add] at c0 c1 c2 c3 c4
    exact ⟨q, ⟨c0, c1, c2, c3, c4, r⟩, hd.1⟩
  obtain ⟨q, hq⟩ := choose_lt each
  refine ⟨a, len, cap, q, (List.range (m - len)).map fun j => D (len + j), rfl, hl, hm, ?_, fun i hi => (hq i (by omega)).1⟩
  show DataW.slice _ _ = _
  rw [List.map_congr_left (fun i hi => (hq i (by have := List.mem_range.1 hi; omega)).2)]
end
end Go.Proofs.YtceahffmenbibaaGreatDoor
