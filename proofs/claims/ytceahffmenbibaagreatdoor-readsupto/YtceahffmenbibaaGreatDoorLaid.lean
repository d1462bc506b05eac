/- One start that fits the laid rows, and the cards' plain facts, for any law of this seat. -/
import Derived.Test.YtceahffmenbibaaGreatDoorRows
import Derived.Test.YtceahffmenbibaaGreatDoorSteps
import Derived.Deep.DeepHandedRow
import Derived.Deep.DeepWitnessRowRef
import Derived.LaidLaws
import Derived.ChangeOld
import Derived.Below
namespace Go.Proofs.YtceahffmenbibaaGreatDoor
open Go Go.ChangeShapes Go.WideShapes Go.ChangeAt Go.RowKit

theorem Tryz.own : ownKnob Tryz.prog.godebug = none := by kernel_rfl
theorem Tryz.laidOut : laidOutB Tryz.prog = true := by kernel_rfl

def synS : ByteArray := { data := #[105, 110, 118, 97, 108, 105, 100, 32, 115, 121, 110, 116, 97, 120] }
def rngS : ByteArray := { data := #[118, 97, 108, 117, 101, 32, 111, 117, 116, 32, 111, 102, 32, 114, 97, 110, 103, 101] }
def putCells (h : Array Obj) (g : Nat) (cs : Array Value) : Array Obj := h.modify g fun
  | .cells _ t frozen => .cells cs t frozen
  | o => o
def intCells (k : IntKind) (l : List Int) : Array Value := (l.map fun z => Value.int k z).toArray
def tab_deBruijn32tab : List Int := [0, 1, 28, 2, 29, 14, 24, 3, 30, 22, 20, 15, 25, 17, 4, 8, 31, 27, 13, 23, 21, 19, 16, 7, 26, 12, 18, 6, 11, 5, 10, 9]
def tab_deBruijn64tab : List Int := [0, 1, 56, 2, 57, 49, 28, 3, 61, 58, 42, 50, 38, 29, 17, 4, 62, 47, 59, 36, 45, 43, 51, 22, 53, 39, 33, 30, 24, 18, 12, 5, 63, 55, 48, 27, 60, 41, 37, 16, 46, 35, 44, 21, 52, 32, 23, 11, 54, 26, 40, 15, 34, 20, 31, 10, 25, 14, 19, 9, 13, 8, 7, 6]
def tab_uint64pow10 : List Int := [1, 10, 100, 1000, 10000, 100000, 1000000, 10000000, 100000000, 1000000000, 10000000000, 100000000000, 1000000000000, 10000000000000, 100000000000000, 1000000000000000, 10000000000000000, 100000000000000000, 1000000000000000000, 10000000000000000000]
set_option maxRecDepth 100000 in
/-- ONE START THAT FITS: the settled world with two blocks more (the two errors' structs), the listed variables holding what their initialisers lay. -/
theorem start (os : Os) : ∃ w0 : World, w0.os = os ∧
    (w0.forCall (fun _ _ => 0) ⟨#[], #[.slice none 0 0], []⟩).variablesRefB Tryz.prog = true ∧
    ((w0.forCall (fun _ _ => 0) ⟨#[], #[.slice none 0 0], []⟩).heap.toList.drop Tryz.prog.globals.size).take ((begin Tryz.prog (fun _ _ => 0) default).world.heap.size - Tryz.prog.globals.size) =
      (begin Tryz.prog (fun _ _ => 0) default).world.heap.toList.drop Tryz.prog.globals.size ∧
    Input.okWideB Tryz.prog (w0.forCall (fun _ _ => 0) ⟨#[], #[.slice none 0 0], []⟩) 5 ⟨#[], #[.slice none 0 0], []⟩ = true ∧
    Input.okWideB Tryz.prog (w0.forCall (fun _ _ => 0) ⟨#[], #[.slice none 0 0], []⟩) 3 ⟨#[], #[.slice none 0 0], []⟩ = true ∧
    laidMet Tryz.prog Rows.lubysRow.laid (w0.forCall (fun _ _ => 0) ⟨#[], #[.slice none 0 0], []⟩).memory ∧
    ∀ (H : Type) (enc : TypeId × Value → H), DataW.whole enc Tryz.prog (w0.forCall (fun _ _ => 0) ⟨#[], #[.slice none 0 0], []⟩).memory [22] [] false [Value.slice none 0 0] 8 = some ([.nil], [], []) :=
  ⟨(let w0 := World.holding Tryz.prog os ⟨#[.cells #[.string synS] 256, .cells #[.string rngS] 256], #[], []⟩
      let h0 := putCells w0.heap 2 #[.iface 254 (.pointer (some ⟨(World.holding Tryz.prog default ⟨#[], #[], []⟩).heap.size, 0, none⟩))]
      let h1 := putCells h0 3 #[.iface 254 (.pointer (some ⟨(World.holding Tryz.prog default ⟨#[], #[], []⟩).heap.size + 1, 0, none⟩))]
      let h2 := putCells h1 4 (intCells .u8 tab_deBruijn32tab)
      let h3 := putCells h2 5 (intCells .u8 tab_deBruijn64tab)
      let h4 := putCells h3 1 (intCells .u64 tab_uint64pow10)
      { w0 with heap := h4 }),
    rfl, by kernel_rfl, by kernel_rfl, by kernel_rfl, by kernel_rfl, laidMet_of_run' 8 (by kernel_rfl) (by kernel_rfl), fun _ _ => by kernel_rfl⟩
end Go.Proofs.YtceahffmenbibaaGreatDoor
