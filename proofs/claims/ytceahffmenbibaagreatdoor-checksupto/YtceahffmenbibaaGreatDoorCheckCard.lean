/- Laid, Laid2, CheckCard. -/
import Derived.Test.YtceahffmenbibaaGreatDoorRows
import Derived.Test.YtceahffmenbibaaGreatDoorChkLaw
import Derived.Deep.DeepHandedRow
import Derived.Deep.DeepWitnessRowRef
import Derived.LaidLaws
import Derived.ChangeOld
import Derived.Below
import Derived.Test.YtceahffmenbibaaGreatDoorCards
import Derived.Test.YtceahffmenbibaaGreatDoorTie
import Derived.Lib.LaidTab
namespace Go.Proofs.YtceahffmenbibaaGreatDoor
open Go Go.ChangeShapes Go.WideShapes Go.ChangeAt Go.RowKit

theorem Tryz.own : ownKnob Tryz.prog.godebug = none := by kernel_rfl
theorem Tryz.laidOut : laidOutB Tryz.prog = true := by kernel_rfl

def synS : ByteArray := { data := #[105, 110, 118, 97, 108, 105, 100, 32, 115, 121, 110, 116, 97, 120] }
def rngS : ByteArray := { data := #[118, 97, 108, 117, 101, 32, 111, 117, 116, 32, 111, 102, 32, 114, 97, 110, 103, 101] }
def putCells (h : Array Obj) (g : Nat) (cs : Array Value) : Array Obj := h.modify g fun
  | .cells _ t frozen => .cells cs t frozen
  | o => o
def intCells (k : IntKind) (l : List Int) : Array Value := (l.map fun z => Value.int k z).toArray
def tab_deBruijn32tab : List Int := [0, 1, 28, 2, 29, 14, 24, 3, 30, 22, 20, 15, 25, 17, 4, 8, 31, 27, 13, 23, 21, 19, 16, 7, 26, 12, 18, 6, 11, 5, 10, 9]
def tab_deBruijn64tab : List Int := [0, 1, 56, 2, 57, 49, 28, 3, 61, 58, 42, 50, 38, 29, 17, 4, 62, 47, 59, 36, 45, 43, 51, 22, 53, 39, 33, 30, 24, 18, 12, 5, 63, 55, 48, 27, 60, 41, 37, 16, 46, 35, 44, 21, 52, 32, 23, 11, 54, 26, 40, 15, 34, 20, 31, 10, 25, 14, 19, 9, 13, 8, 7, 6]
def tab_uint64pow10 : List Int := [1, 10, 100, 1000, 10000, 100000, 1000000, 10000000, 100000000, 1000000000, 10000000000, 100000000000, 1000000000000, 10000000000000, 100000000000000, 1000000000000000, 10000000000000000, 100000000000000000, 1000000000000000000, 10000000000000000000]
set_option maxRecDepth 100000 in
/-- ONE START THAT FITS: the settled world with two blocks more (the two errors' structs), the listed variables holding what their initialisers lay. -/
theorem start (os : Os) : ∃ w0 : World, w0.os = os ∧
    (w0.forCall (fun _ _ => 0) ⟨#[], #[.slice none 0 0], []⟩).variablesRefB Tryz.prog = true ∧
    ((w0.forCall (fun _ _ => 0) ⟨#[], #[.slice none 0 0], []⟩).heap.toList.drop Tryz.prog.globals.size).take ((begin Tryz.prog (fun _ _ => 0) default).world.heap.size - Tryz.prog.globals.size) =
      (begin Tryz.prog (fun _ _ => 0) default).world.heap.toList.drop Tryz.prog.globals.size ∧
    Input.okWideB Tryz.prog (w0.forCall (fun _ _ => 0) ⟨#[], #[.slice none 0 0], []⟩) 5 ⟨#[], #[.slice none 0 0], []⟩ = true ∧
    Input.okWideB Tryz.prog (w0.forCall (fun _ _ => 0) ⟨#[], #[.slice none 0 0], []⟩) 3 ⟨#[], #[.slice none 0 0], []⟩ = true ∧
    laidMet Tryz.prog Rows.lubysRow.laid (w0.forCall (fun _ _ => 0) ⟨#[], #[.slice none 0 0], []⟩).memory ∧
    ∀ (H : Type) (enc : TypeId × Value → H), DataW.whole enc Tryz.prog (w0.forCall (fun _ _ => 0) ⟨#[], #[.slice none 0 0], []⟩).memory [22] [] false [Value.slice none 0 0] 8 = some ([.nil], [], []) :=
  ⟨(let w0 := World.holding Tryz.prog os ⟨#[.cells #[.string synS] 256, .cells #[.string rngS] 256], #[], []⟩
      let h0 := putCells w0.heap 2 #[.iface 254 (.pointer (some ⟨(World.holding Tryz.prog default ⟨#[], #[], []⟩).heap.size, 0, none⟩))]
      let h1 := putCells h0 3 #[.iface 254 (.pointer (some ⟨(World.holding Tryz.prog default ⟨#[], #[], []⟩).heap.size + 1, 0, none⟩))]
      let h2 := putCells h1 4 (intCells .u8 tab_deBruijn32tab)
      let h3 := putCells h2 5 (intCells .u8 tab_deBruijn64tab)
      let h4 := putCells h3 1 (intCells .u64 tab_uint64pow10)
      { w0 with heap := h4 }),
    rfl, by kernel_rfl, by kernel_rfl, by kernel_rfl, by kernel_rfl, laidMet_of_run' 8 (by kernel_rfl) (by kernel_rfl), fun _ _ => by kernel_rfl⟩
end Go.Proofs.YtceahffmenbibaaGreatDoor

namespace Go.Proofs.YtceahffmenbibaaGreatDoor
open Go Go.ChangeShapes Go.WideShapes Go.ChangeAt Go.RowKit
set_option maxRecDepth 100000 in
/-- ONE START THAT FITS: the settled world with two blocks more (the two errors' structs), the listed variables holding what their initialisers lay. -/
theorem start2 (os : Os) : ∃ w0 : World, w0.os = os ∧
    (w0.forCall (fun _ _ => 0) ⟨#[], #[.slice none 0 0], []⟩).variablesRefB Tryz.prog = true ∧
    ((w0.forCall (fun _ _ => 0) ⟨#[], #[.slice none 0 0], []⟩).heap.toList.drop Tryz.prog.globals.size).take ((begin Tryz.prog (fun _ _ => 0) default).world.heap.size - Tryz.prog.globals.size) =
      (begin Tryz.prog (fun _ _ => 0) default).world.heap.toList.drop Tryz.prog.globals.size ∧
    Input.okWideB Tryz.prog (w0.forCall (fun _ _ => 0) ⟨#[], #[.slice none 0 0], []⟩) 4 ⟨#[], #[.slice none 0 0], []⟩ = true ∧
    laidMet Tryz.prog Rows.lubysRow.laid (w0.forCall (fun _ _ => 0) ⟨#[], #[.slice none 0 0], []⟩).memory ∧
    ∀ (H : Type) (enc : TypeId × Value → H), DataW.whole enc Tryz.prog (w0.forCall (fun _ _ => 0) ⟨#[], #[.slice none 0 0], []⟩).memory [22] [] false [Value.slice none 0 0] 8 = some ([.nil], [], []) :=
  ⟨(let w0 := World.holding Tryz.prog os ⟨#[.cells #[.string synS] 256, .cells #[.string rngS] 256], #[], []⟩
      let h0 := putCells w0.heap 2 #[.iface 254 (.pointer (some ⟨(World.holding Tryz.prog default ⟨#[], #[], []⟩).heap.size, 0, none⟩))]
      let h1 := putCells h0 3 #[.iface 254 (.pointer (some ⟨(World.holding Tryz.prog default ⟨#[], #[], []⟩).heap.size + 1, 0, none⟩))]
      let h2 := putCells h1 4 (intCells .u8 tab_deBruijn32tab)
      let h3 := putCells h2 5 (intCells .u8 tab_deBruijn64tab)
      let h4 := putCells h3 1 (intCells .u64 tab_uint64pow10)
      { w0 with heap := h4 }),
    rfl, by kernel_rfl, by kernel_rfl, by kernel_rfl, laidMet_of_run' 8 (by kernel_rfl) (by kernel_rfl), fun _ _ => by kernel_rfl⟩
end Go.Proofs.YtceahffmenbibaaGreatDoor

namespace Go.Proofs.YtceahffmenbibaaGreatDoor
namespace Ck
open Go Go.ChangeShapes Go.WideShapes Go.ChangeAt Go.RowKit Rd
set_option linter.unusedVariables false
set_option linter.unusedSimpArgs false

/-! ## the bound -/
theorem bulk_mem {H : Type} {l : List (DataW H)} {x : DataW H} (h : x ∈ l) : Rows.uptoBulk x ≤ Rows.uptoBulkAll l := by
  induction l with
  | nil => simp at h
  | cons y l ih =>
    simp only [Rows.uptoBulkAll]
    rcases List.mem_cons.1 h with e | e
    · subst e; omega
    · have := ih e; omega
theorem bulk_step {H : Type} (x : Stp) : x.s.size + x.t.size ≤ Rows.uptoBulk (stepData (H := H) x) := by
  have h1 : x.s.data.toList.length = x.s.size := by simp
  have h2 : x.t.data.toList.length = x.t.size := by simp
  simp only [stepData, Rows.uptoBulk, Rows.uptoBulkAll]
  omega
theorem script_of {H : Type} {enc : TypeId × Value → H} {w : World} {spare : Nat → Bool} {held : Bool} {fuel : Nat} {a : Option Addr} {len cap : Nat} {x : DataW H × List MemPlace}
    (h : DataW.trod enc Tryz.prog w 0 spare held fuel 22 [.slice a len cap] = some x) (hb : Rows.uptoBulk x.1 ≤ 1048576) : ∃ q, IsScript w a len q := by
  rcases open_script h with ⟨hcs, _⟩ | ⟨ad, l, c, q, sp, hcs, hl, hm, hx, hq⟩
  · simp only [List.cons.injEq, Value.slice.injEq, and_true] at hcs
    exact ⟨fun _ => (0, 0, 0, ByteArray.empty, ByteArray.empty), .inl hcs.2.1⟩
  · simp only [List.cons.injEq, Value.slice.injEq, and_true] at hcs
    obtain ⟨rfl, rfl, rfl⟩ := hcs
    refine ⟨q, ?_⟩
    by_cases h0 : len = 0
    · exact .inl h0
    · have hs : ad.spot = none := by simpa [Addr.add] using World.cell?_spot (hq 0 (by omega)).1
      obtain ⟨b, off, spot⟩ := ad
      simp only at hs
      subst hs
      refine .inr ⟨b, off, rfl, by omega, ?_, hq, fun i hi => ?_⟩
      · obtain ⟨c0, _⟩ := step_cells (hq 0 (by omega))
        exact block_lt_of_cell c0
      · rw [hx] at hb
        simp only [Rows.uptoBulk] at hb
        have h1 : Rows.uptoBulk (stepData (H := H) (q i)) ≤ Rows.uptoBulkAll ((List.range len).map fun i => stepData (H := H) (q i)) := bulk_mem (List.mem_map.2 ⟨i, List.mem_range.2 hi, rfl⟩)
        have h2 := bulk_step (H := H) (q i)
        omega

/-! ## what the world's shape and the row's list give -/
theorem pwType : (Tryz.prog.globals[1]?).map (·.type) = some 232 := by kernel_rfl
def db : String := Rows.checksUptoRow.named.getD 3 ""
theorem db_global : Tryz.prog.globalNamed db = some 5 := by kernel_rfl
theorem dbType : (Tryz.prog.globals[5]?).map (·.type) = some 268 := by kernel_rfl
theorem glob_of {W : World} (hL : laidMetH Tryz.prog Rows.checksUptoRow.laid W) (hsh : W.ShapedOpen Tryz.prog) : GT W := by
  obtain ⟨m, hm⟩ : ∃ m, W.cell? ⟨0, 0, none⟩ = some (.int .i64 m) := Tryz.laysM219.s1_3 W hsh
  have h : laidMet Tryz.prog Rows.checksUptoRow.laid W := hL
  obtain ⟨ps, ⟨_, _, _, _, _, _, _, _, _, _, ⟨g2, t2, cs2, fuel2, p2, q2, hg2, ht2, hvar2, hd2, ⟨g', t', cs, fuel, p, q, hg', ht', hvar, hd, _, _⟩, _⟩, _⟩, _⟩ := h
  have T : Lib.TabIs Tryz.prog W db .u8 (Lib.deBruijn64tab.map fun (n : Nat) => (n : Int)) := by
    obtain rfl := Option.some.inj (db_global.symm.trans hg2)
    obtain rfl := Option.some.inj (dbType.symm.trans ht2)
    have := Lib.cells_of_tab (k := .u8) (zs := Lib.deBruijn64tab.map fun (n : Nat) => (n : Int)) Tryz.underlying268 Tryz.underlying5 (by kernel_rfl) (by kernel_rfl) hd2
    show World.var? _ _ _ = _
    rw [← this]
    exact hvar2
  have TA : TabAt 5 Lib.deBruijn64tab W := fun j hj => by
    have := T.cell db_global j (by simpa using hj)
    rw [this]
    congr 2
    rw [List.getD_eq_getElem?_getD, List.getD_eq_getElem?_getD, List.getElem?_map, List.getElem?_eq_getElem hj]
    rfl
  have lt : (5 : Nat) < W.heap.size := block_lt_of_cell (TA 0 (by decide))
  refine ⟨⟨⟨m, hm⟩, ?_, by omega⟩, TA, lt⟩
  obtain rfl := Option.some.inj (pw_global.symm.trans hg')
  obtain rfl := Option.some.inj (pwType.symm.trans ht')
  have := Lib.cells_of_tab (k := .u64) (zs := Lib.pow10Tab) Tryz.underlying232 Tryz.underlying82 (by kernel_rfl) (by kernel_rfl) hd
  show World.var? _ _ _ = _
  rw [← this]
  exact hvar

set_option maxRecDepth 100000 in
/-- WHAT THE WALKS GIVE, FOR EVERY ARGUMENT -/
theorem contract (H : Type) (enc : TypeId × Value → H) (W : World) (base : Nat) (args : Array Value) (ds gs : List (DataW H)) (before : List MemPlace)
    (hval : ∀ (j : Nat) t v, Tryz.f4.params[j]? = some t → args[j]? = some v → Value.okWide Tryz.prog W .any base t v)
    (hW : DataW.Whole enc Tryz.prog Tryz.f4.params.toList Rows.checksSpec.vars false W args.toList ds gs before)
    (hk : Rows.uptoSmall H (ds ++ gs) = true) (hg : GT W) :
    Calls Tryz.prog 4 args W fun e W' => ∃ v, e = .returned v ∧ Rows.checksSpec.post enc Tryz.prog Tryz.f4 false true false false W args v W' := by
  have hW' := hW
  obtain ⟨p, q, hA0, hV, rfl, hfz, hnd⟩ := hW
  have hA : DataW.TrodAll enc Tryz.prog W 0 (fun _ => true) true Tryz.f4.params.toList args.toList ds p := hA0
  rw [Tryz.params4] at hA hval
  obtain ⟨v0, vs0, d0, ds0, p0, q0, hargs, rfl, rfl, h0, r0⟩ := trodAll_cons hA
  obtain ⟨rfl, rfl, rfl⟩ := trodAll_nil r0
  obtain rfl : args = #[v0] := by cases args; simp_all
  obtain ⟨rfl, rfl⟩ := trodVars_none hV
  obtain ⟨a0, len0, cap0, rfl⟩ := okWide_slice Tryz.underlying22 (hval 0 22 v0 rfl rfl)
  have k0 := h0
  have lt0 : ∀ x ∈ p0, x.block < W.heap.size := by obtain ⟨m, hm⟩ := k0; exact DataW.trod_lt m _ _ _ hm
  have hbk : Rows.uptoBulk d0 ≤ 1048576 := by
    have h := of_decide_eq_true hk
    simp only [List.cons_append, List.nil_append, Rows.uptoBulkAll] at h
    omega
  obtain ⟨q0, w0⟩ : ∃ q, IsScript W a0 len0 q := by
    obtain ⟨fuel, hf⟩ := h0
    exact script_of hf hbk
  clear hA0
  refine (checks_any a0 len0 cap0 q0 W hg w0).mono fun e W' ⟨he, bel⟩ => ?_
  subst he
  exact ⟨_, rfl, _, _, _, [], _, [], hW', trodAll_mk1 (shut_bool Tryz.underlying4 _), (trodAll_cons_mk (Below.trod Tryz.laidOut (by kernel_rfl) (of_decide_eq_true (by kernel_rfl)) k0 bel lt0) trodAll_mk0), rfl, bel.frame _, fun h => by cases h⟩

set_option maxRecDepth 100000 in
theorem lifted (os : Os) (started : os.Started) (H : Type) (enc : TypeId × Value → H) (F : Stop.Interp) :
    ReturnsInHanded {} Tryz.checked os 4 .any ((Rows.OpenSpec.upto Rows.checksSpec).preRow enc Tryz.prog Tryz.f4 Rows.checksUptoRow.domain false Rows.checksUptoRow.laid) (((Rows.OpenSpec.upto Rows.checksSpec).at F).post enc Tryz.prog Tryz.f4 false true false false) := by
  obtain ⟨w0, hos, s1, s2, s3, hlaid, hx⟩ := start2 os
  refine returnsInHanded_of_row (C := Tryz.checked) (s := Rows.OpenSpec.upto Rows.checksSpec) Tryz.own started (by kernel_rfl) Tryz.func4
    (witness_row_atRef (enc := enc) (C := Tryz.checked) false w0 #[.slice none 0 0] hos s1 s2 s3
      (OpenSpec.preRow_of_cond 8 (hx H enc) (by kernel_rfl) (fun k hk => by cases hk; kernel_rfl) (by kernel_rfl) hlaid)) ?_
  intro W base args ds gs before hval hW _ hcond _ hL hsh _
  exact contract H enc W base args ds gs before hval hW (hcond _ rfl) (glob_of hL hsh)

theorem said : Rows.ChecksUptoSaid :=
  OpenClaim.holds_of_cond 4 Tryz.f4 rfl rfl rfl rfl rfl rfl rfl ⟨rfl, rfl, rfl, rfl, rfl⟩ rfl rfl rfl rfl rfl (by kernel_rfl) Tryz.func4 (by kernel_rfl)
    (of_decide_eq_true (by kernel_rfl)) (by unfold Func.isWrapper; first | (rw [if_pos (by decide +kernel)]; kernel_rfl) | (rw [if_neg (by decide +kernel)]; exact ⟨rfl, rfl⟩))
    (fun os started H enc _ F => by rw [OpenClaim.pre_eq_preRow]; exact lifted os started H enc F)

/-- No parameter wants a stand-in; the program's own looks are off: what the card asks. -/
theorem plain (f : FuncId) (fn : Func) (hf : Tryz.pinned.checked.prog.funcNamed Rows.checksUptoRow.func = some f) (hfn : Tryz.pinned.checked.prog.funcs[f]? = some fn) :
    true = Tryz.pinned.checked.prog.looks [] ∧ ∀ (j : Nat) t, fn.params[j]? = some t → Tryz.pinned.checked.prog.wantsStandIn t = false := by
  obtain rfl : f = 4 := Option.some.inj ((show Tryz.prog.funcNamed Rows.checksUptoRow.func = some 4 by kernel_rfl).symm.trans hf) |>.symm
  obtain rfl : fn = Tryz.f4 := (Option.some.inj (Tryz.func4.symm.trans hfn)).symm
  refine ⟨by kernel_rfl, fun j t ht => ?_⟩
  rw [Tryz.params4] at ht
  obtain rfl : t = 22 := by simpa using Array.mem_of_getElem? ht
  exact (show Tryz.prog.wantsStandIn 22 = false by kernel_rfl)
end Ck

/-- THE CARD -/
theorem checksUpto_holds : Rows.ChecksUptoCardSaid :=
  Claim7.holds_tied_plain_at .later [] _ _ _ _ Ck.said (fun _ h => by cases h) (by kernel_rfl) (fun _ h => by cases h) checksUpto_row_tie rfl ⟨rfl, rfl⟩ (by kernel_rfl) rfl Ck.plain (by kernel_rfl)
#print axioms checksUpto_holds
end Go.Proofs.YtceahffmenbibaaGreatDoor
