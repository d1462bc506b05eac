/- The head of Reads. -/
import Derived.Test.YtceahffmenbibaaGreatDoorLawF
namespace Go.Proofs.YtceahffmenbibaaGreatDoor
namespace Rd
open Go Go.RowKit Go.Deep Go.Proofs
set_option linter.unusedVariables false
set_option linter.unusedSimpArgs false

def smallS : ByteArray := { data := #[112, 32, 99, 110, 102, 32, 50, 32, 50, 10, 49, 32, 45, 50, 32, 48, 10, 50, 32, 48, 10] }
set_option maxRecDepth 100000 in
theorem small_read : readB smallS.data.toList = (2, [[1, -2], [2]], 0) := by decide +kernel

theorem read_small (w : World) (hg : Glob w) : Calls Tryz.prog 18 #[.string smallS] w fun e w' => Below w.heap.size w w' ∧
    ∃ a c, e = .returned (.tuple #[.int .i64 2, .slice a 2 c, .int .i64 0]) ∧ RdLists w' (.slice a 2 c) [[1, -2], [2]] := by
  refine (read_any smallS w (by decide) hg).mono ?_
  rintro e w' ⟨hb, u, rfl, hu⟩
  rw [read_eq, small_read] at hu ⊢
  have hr : RdLists w' u [[1, -2], [2]] := by
    rcases hu with ⟨h, _⟩ | h
    · simp at h
    · exact h.read
  obtain ⟨a, c, b, rfl, h⟩ := hr
  exact ⟨hb, a, c, rfl, a, c, b, rfl, h⟩

theorem lit_read (w : World) (t1 t2 : TypeId) : RdLists (((w.alloc (.cells #[.int .i64 1, .int .i64 (-2)] t1)).alloc (.cells #[.int .i64 2] t1)).alloc
    (.cells #[.slice (some ⟨w.heap.size, 0, none⟩) 2 2, .slice (some ⟨w.heap.size + 1, 0, none⟩) 1 1] t2)) (.slice (some ⟨w.heap.size + 1 + 1, 0, none⟩) 2 2) [[1, -2], [2]] := by
  refine ⟨_, 2, w.heap.size + 1 + 1, rfl, fun _ => rfl, fun i hi => ?_⟩
  have hi : i < 2 := hi
  obtain rfl | rfl : i = 0 ∨ i = 1 := by omega
  · refine ⟨.slice (some ⟨w.heap.size, 0, none⟩) 2 2, by simp [World.cell?_alloc_at], _, 2, w.heap.size, rfl, fun _ => rfl, fun j hj => ?_⟩
    have hj : j < 2 := hj
    obtain rfl | rfl : j = 0 ∨ j = 1 := by omega
    · refine cell_alloc_old (cell_alloc_old ?_); simp [World.cell?_alloc_at]
    · refine cell_alloc_old (cell_alloc_old ?_); simp [World.cell?_alloc_at]
  · refine ⟨.slice (some ⟨w.heap.size + 1, 0, none⟩) 1 1, by simp [World.cell?_alloc_at], _, 1, w.heap.size + 1, rfl, fun _ => rfl, fun j hj => ?_⟩
    have hj : j < 1 := hj
    obtain rfl : j = 0 := by omega
    refine cell_alloc_old ?_
    simp [World.cell?_alloc_at]

set_option maxHeartbeats 4000000 in
theorem heads_read (w : World) (hg : Glob w) : Calls Tryz.prog 27 #[.int .i64 1] w fun e w' => e = .returned (.bool true) ∧ Below w.heap.size w w' := by
  have HG := hide hg
  clear hg
  go_enter Tryz.func27, Tryz.ntmps27
  go_wp2_with fail
  refine (read_small w (unhide HG)).mono ?_
  rintro e1 w1 ⟨hb1, ua, uc, rfl, hu⟩
  have HB1 := hide hb1
  have HU := hide hu
  clear hb1 hu
  go_wp2_with fail
  refine (same_any _ _ [[1, -2], [2]] _ (RdLists.later (unhide HU) ((((Below.refl _ _).alloc (Nat.le_refl _) _).alloc (by simp) _).alloc (by simp; omega) _)) (lit_read w1 _ _) (by simp) (fun i => ?_)).mono ?_
  · rcases i with _ | _ | i <;> simp
  rintro e2 w2 ⟨rfl, dn, hw2⟩
  have B2 : Hid (Below w.heap.size w w2) := by
    rw [hw2]
    refine bel_drewN' ?_ _
    have := (unhide HB1).size
    exact (((unhide HB1).alloc this _).alloc (by simp; omega) _).alloc (by simp; omega) _
  clear hw2 HB1 HU
  go_wp2
  go_ret
  exact ⟨rfl, unhide B2⟩
end Rd
end Go.Proofs.YtceahffmenbibaaGreatDoor
