/- Phld, Pnew, Pchk, Steps, ChkLaw. -/
import Derived.Test.YtceahffmenbibaaGreatDoorPrem
import Derived.Test.YtceahffmenbibaaGreatDoorPisr
import Derived.Test.YtceahffmenbibaaGreatDoorCref10
import Derived.Deep.CutRange
import Derived.Test.YtceahffmenbibaaGreatDoorRread
import Derived.Test.YtceahffmenbibaaGreatDoorReq
import Derived.Test.YtceahffmenbibaaGreatDoorChecked
import Derived.WalkKit
import Derived.ProofKit
import Derived.OpenShut
import Derived.Deep.Slices
namespace Go.Proofs.YtceahffmenbibaaGreatDoor
namespace Rd
open Go Go.RowKit Go.Deep
set_option linter.unusedVariables false
set_option linter.unusedSimpArgs false
attribute [local go_sem ↓] Go.wp_at_zero Go.wp_at_succ

/-- a store that holds these clauses; N: no more has been done to it -/
def Has (B sb : Nat) (L : List Cl) (N : Nat) (w : World) : Prop :=
  ∃ (cv : Value) (mb : Nat) (gone : Int) (u : Key) (wv : Nat → Value) (es : List Ent) (wl : Nat → List Nat), Sto B sb w cv mb gone u wv es wl ∧ SInv es wl u L ∧ es.length ≤ N ∧ -(N : Int) ≤ gone ∧ gone ≤ (N : Int) ∧ L.length ≤ N
variable {B sb N : Nat} {L : List Cl} {c : Cl} {w w' : World}
theorem Has.later (h : Has B sb L N w) (hb : Below w.heap.size w w') : Has B sb L N w' := by
  obtain ⟨cv, mb, gone, u, wv, es, wl, h1, r⟩ := h
  exact ⟨cv, mb, gone, u, wv, es, wl, h1.later hb, r⟩
theorem Has.bsize (h : Has B sb L N w) : B ≤ w.heap.size := by
  obtain ⟨cv, mb, gone, u, wv, es, wl, h1, r⟩ := h
  exact h1.bsize
theorem Has.lits (h : Has B sb L N w) : ∀ d ∈ L, ∀ l ∈ d, In50 l := by
  obtain ⟨cv, mb, gone, u, wv, es, wl, h1, h2, r⟩ := h
  exact h2.lits
theorem addE_len (es : List Ent) (s : Key) : (addE es s).length ≤ es.length + 1 := by
  unfold addE
  split <;> simp
theorem add_has (h : Has B sb L N w) (hT : Tab B w) (hc : ∀ l ∈ c, In50 l) (hN : N ≤ 1048576) :
    Calls Tryz.prog 68 #[.pointer (some ⟨sb, 0, none⟩), keyV (setOf c)] w fun e w' => e = .returned (.tuple #[]) ∧ Below B w w' ∧ Keeps w w' ∧ Has B sb (L ++ [c]) (N + 1) w' := by
  obtain ⟨cv, mb, gone, u, wv, es, wl, h1, h2, h3, h4, h5, h6⟩ := h
  refine (add_any (setOf c) w (setOf_lit hc) h2.units.ok (by omega) (fun k hk => Nat.le_trans (h2.winv.len hk) (by omega)) ⟨by omega, by omega⟩ (fun e he => by rw [h2.cnt e he]; exact Nat.le_trans List.countP_le_length (by omega)) h1 hT).mono ?_
  rintro e w' ⟨q1, q2, q3, cv', wv', g', q4, q5⟩
  refine ⟨q1, q2, q3, cv', mb, g', _, wv', _, _, q5, h2.add hc, Nat.le_trans (addE_len _ _) (by omega), ?_, ?_, by simp; omega⟩
  · rcases q4 with e | e <;> rw [e] <;> omega
  · rcases q4 with e | e <;> rw [e] <;> omega
theorem rem_has (h : Has B sb L N w) (hT : Tab B w) (hc : ∀ l ∈ c, In50 l) (hN : N ≤ 1048576) :
    Calls Tryz.prog 76 #[.pointer (some ⟨sb, 0, none⟩), keyV (setOf c)] w fun e w' => Below B w w' ∧ Keeps w w' ∧ ((rem L c = none ∧ e = .returned (.bool false) ∧ Has B sb L N w') ∨ ∃ L', rem L c = some L' ∧ e = .returned (.bool true) ∧ Has B sb L' (N + 1) w') := by
  obtain ⟨cv, mb, gone, u, wv, es, wl, h1, h2, h3, h4, h5, h6⟩ := h
  refine (remove_any c w hc (by omega) ⟨by omega, by omega⟩ h1 hT h2 (by omega)).mono ?_
  rintro e w' ⟨q1, q2, q3⟩
  refine ⟨q1, q2, ?_⟩
  rcases q3 with ⟨r1, r2, cv', mb', g', u', wv', es', wl', r3, r4, r5, r6⟩ | ⟨L', r1, r2, cv', mb', g', u', wv', es', wl', r3, r4, r5, r6⟩
  · exact .inl ⟨r1, r2, cv', mb', g', u', wv', es', wl', r3, r4, by omega, by omega, by omega, h6⟩
  · exact .inr ⟨L', r1, r2, cv', mb', g', u', wv', es', wl', r3, r4, by omega, by omega, by omega, by have := (rem_mem r1).2; omega⟩
theorem right_has (h : Has B sb L N w) (hT : Tab B w) (hc : ∀ l ∈ c, In50 l) (hN : N ≤ 1048576) :
    Calls Tryz.prog 77 #[.pointer (some ⟨sb, 0, none⟩), keyV (setOf c), keyV (firstOf c)] w fun e w' => ∃ b, e = .returned (.bool b) ∧ Below B w w' ∧ Keeps w w' ∧ Has B sb L N w' ∧ (b = true ↔ RightP L c) := by
  obtain ⟨cv, mb, gone, u, wv, es, wl, h1, h2, h3, h4, h5, h6⟩ := h
  refine (isRight_any c w hc (by omega) h1 hT h2).mono ?_
  rintro e w' ⟨b, wv', es', wl', q1, q2, q3, q4, q5, q6, q7⟩
  exact ⟨b, q1, q2, q3, ⟨cv, mb, gone, u, wv', es', wl', q4, h2.same q5 q6, by rw [sigs_len q5]; exact h3, h4, h5, h6⟩, q7⟩
/-! ### a step -/
def stepRow (g : Bool) (s f : Key) : List Value := [.bool g, .int .u64 (s.1 : Int), .int .u64 (s.2 : Int), .int .u64 (f.1 : Int), .int .u64 (f.2 : Int)]
def TakeRet (B sb : Nat) (L : List Cl) (N : Nat) (g : Bool) (c : Cl) (w : World) (e : Ending) (w' : World) : Prop := Below B w w' ∧ Keeps w w' ∧
  ((g = true ∧ rem L c = none ∧ e = .returned (.bool false)) ∨ (∃ L', g = true ∧ rem L c = some L' ∧ e = .returned (.bool true) ∧ Has B sb L' (N + 1) w') ∨
   (g = false ∧ ¬ RightP L c ∧ e = .returned (.bool false)) ∨ (g = false ∧ RightP L c ∧ e = .returned (.bool true) ∧ Has B sb (L ++ [c]) (N + 1) w'))
set_option maxHeartbeats 1000000 in
set_option maxRecDepth 100000 in
theorem take_any (g : Bool) (h : Has B sb L N w) (hT : Tab B w) (hc : ∀ l ∈ c, In50 l) (hN : N ≤ 1048576) :
    Calls Tryz.prog 42 #[.pointer (some ⟨sb, 0, none⟩), stepV g (setOf c) (firstOf c)] w fun e w' => TakeRet B sb L N g c w e w' := by
  have HH := hide h
  have HT := hide hT
  have HC := hide hc
  have hB := h.bsize
  have QR : Hid (∀ V, Below w.heap.size w V → Calls Tryz.prog 76 #[.pointer (some ⟨sb, 0, none⟩), keyV (setOf c)] V fun e w' => Below B w w' ∧ Keeps w w' ∧ ((rem L c = none ∧ e = .returned (.bool false)) ∨ ∃ L', rem L c = some L' ∧ e = .returned (.bool true) ∧ Has B sb L' (N + 1) w')) := fun V hV => by
    refine (rem_has ((unhide HH).later hV) ((unhide HT).later (hV.mono hB)) (unhide HC) hN).mono ?_
    rintro e w' ⟨q1, q2, q3⟩
    refine ⟨(hV.mono hB).trans q1, (Keeps.of_below hV).trans q2, ?_⟩
    rcases q3 with ⟨r1, r2, _⟩ | r
    · exact .inl ⟨r1, r2⟩
    · exact .inr r
  have QI : Hid (∀ V, Below w.heap.size w V → Calls Tryz.prog 77 #[.pointer (some ⟨sb, 0, none⟩), keyV (setOf c), keyV (firstOf c)] V fun e w' => ∃ b, e = .returned (.bool b) ∧ Hid (Below B w w' ∧ Keeps V w' ∧ Has B sb L N w' ∧ Tab B w' ∧ (b = true ↔ RightP L c))) := fun V hV => by
    have T := (unhide HT).later (hV.mono hB)
    refine (right_has ((unhide HH).later hV) T (unhide HC) hN).mono ?_
    rintro e w' ⟨b, q1, q2, q3, q4, q5⟩
    exact ⟨b, q1, (hV.mono hB).trans q2, q3, q4, T.later q2, q5⟩
  have QA : Hid (∀ V, Has B sb L N V → Tab B V → Calls Tryz.prog 68 #[.pointer (some ⟨sb, 0, none⟩), keyV (setOf c)] V fun e w' => e = .returned (.tuple #[]) ∧ Below B V w' ∧ Keeps V w' ∧ Has B sb (L ++ [c]) (N + 1) w') := fun V h1 h2 => add_has h1 h2 (unhide HC) hN
  obtain ⟨s, hs⟩ : ∃ s, setOf c = s := ⟨_, rfl⟩
  obtain ⟨f, hf⟩ : ∃ f, firstOf c = f := ⟨_, rfl⟩
  rw [hs] at QR QI QA ⊢
  rw [hf] at QI ⊢
  unfold keyV at QR QI QA
  unfold stepV
  clear h hT hc hs hf
  go_enter Tryz.func42, Tryz.ntmps42
  go_upto_region 1 with fail
  obtain ⟨W, hWd⟩ : ∃ W, W = w.alloc (Obj.cells #[.bool g, .int .u64 (s.1 : Int), .int .u64 (s.2 : Int), .int .u64 (f.1 : Int), .int .u64 (f.2 : Int)] 86) := ⟨_, rfl⟩
  have BW : Hid (Below w.heap.size w W) := by rw [hWd]; exact (Below.refl _ _).alloc (Nat.le_refl _) _
  have FW : Hid (Foreign W w.heap.size) := by rw [hWd]; exact foreign_new _ _ _ (by decide)
  have x0 : W.cell? ⟨w.heap.size, 0, none⟩ = some (.bool g) := by rw [hWd]; simp
  have x1 : W.cell? ⟨w.heap.size, 1, none⟩ = some (.int .u64 (s.1 : Int)) := by rw [hWd]; simp
  have x2 : W.cell? ⟨w.heap.size, 2, none⟩ = some (.int .u64 (s.2 : Int)) := by rw [hWd]; simp
  have x3 : W.cell? ⟨w.heap.size, 3, none⟩ = some (.int .u64 (f.1 : Int)) := by rw [hWd]; simp
  have x4 : W.cell? ⟨w.heap.size, 4, none⟩ = some (.int .u64 (f.2 : Int)) := by rw [hWd]; simp
  rw [← hWd]
  clear hWd
  cases g with
  | true =>
    go_wp2_with fail
    with_reducible refine (unhide QR _ (unhide BW)).mono ?_
    rintro e6 w6 ⟨q1, q2, q3⟩
    have B6 := hide q1
    have K6 := hide q2
    clear q1 q2
    rcases q3 with ⟨r1, rfl⟩ | ⟨L', r1, rfl, r3⟩
    · have R := hide r1
      clear r1
      simp only []
      go_wp2
      go_ret
      exact ⟨unhide B6, unhide K6, .inl ⟨rfl, unhide R, rfl⟩⟩
    · have R := hide r1
      have R3 := hide r3
      clear r1 r3
      simp only []
      go_wp2
      go_ret
      exact ⟨unhide B6, unhide K6, .inr (.inl ⟨L', rfl, unhide R, rfl, unhide R3⟩)⟩
  | false =>
    go_wp2_with fail
    with_reducible refine (unhide QI _ (unhide BW)).mono ?_
    rintro e6 w6 ⟨b, rfl, H6⟩
    simp only []
    have z1 := ((unhide H6).2.1.cell (j := 1) (unhide FW)).trans x1
    have z2 := ((unhide H6).2.1.cell (j := 2) (unhide FW)).trans x2
    have KW : Hid (Keeps w w6) := (Keeps.of_below (unhide BW)).trans (unhide H6).2.1
    clear x0 x1 x2 x3 x4
    cases b with
    | false =>
      have R : Hid (¬ RightP L c) := fun h => by have := (unhide H6).2.2.2.2.2 h; cases this
      go_wp2
      go_ret
      exact ⟨(unhide H6).1, unhide KW, .inr (.inr (.inl ⟨rfl, unhide R, rfl⟩))⟩
    | true =>
      have R : Hid (RightP L c) := (unhide H6).2.2.2.2.1 rfl
      go_wp2_with fail
      with_reducible refine (unhide QA _ (unhide H6).2.2.1 (unhide H6).2.2.2.1).mono ?_
      rintro e7 w7 ⟨rfl, q1, q2, q3⟩
      simp only []
      have BE := hide ((unhide H6).1.trans q1)
      have KE := hide ((unhide KW).trans q2)
      have HE := hide q3
      clear q1 q2 q3
      go_wp2
      go_ret
      exact ⟨unhide BE, unhide KE, .inr (.inr (.inr ⟨rfl, unhide R, rfl, unhide HE⟩))⟩
set_option maxHeartbeats 1000000 in
theorem ends_any (g : Bool) (s f : Key) (hs : s.ok) (w : World) :
    Calls Tryz.prog 43 #[stepV g s f] w fun e w' => e = .returned (.bool (!g && emptyB s)) ∧ Below w.heap.size w w' := by
  have QE := hide (fun V => isEmpty_any s V hs)
  unfold keyV at QE
  unfold stepV
  obtain ⟨em, hem⟩ : ∃ em, emptyB s = em := ⟨_, rfl⟩
  rw [hem] at QE ⊢
  clear hem
  go_enter Tryz.func43, Tryz.ntmps43
  cases g with
  | true =>
    have BW : Hid (Below w.heap.size w (w.alloc (.cells #[.bool true, .int .u64 (s.1 : Int), .int .u64 (s.2 : Int), .int .u64 (f.1 : Int), .int .u64 (f.2 : Int)] 86))) := (Below.refl _ _).alloc (Nat.le_refl _) _
    go_wp2
    go_ret
    exact ⟨rfl, unhide BW⟩
  | false =>
    have BW : Hid (Below w.heap.size w (w.alloc (.cells #[.bool false, .int .u64 (s.1 : Int), .int .u64 (s.2 : Int), .int .u64 (f.1 : Int), .int .u64 (f.2 : Int)] 86))) := (Below.refl _ _).alloc (Nat.le_refl _) _
    go_wp2_with fail
    with_reducible refine (unhide QE _).mono ?_
    rintro e6 w6 ⟨rfl, hb6⟩
    simp only []
    have B6 : Hid (Below w.heap.size w w6) := (unhide BW).trans (hb6.mono (by simp))
    clear hb6
    go_wp2
    go_ret
    exact ⟨by simp, unhide B6⟩
end Rd
end Go.Proofs.YtceahffmenbibaaGreatDoor

namespace Go.Proofs.YtceahffmenbibaaGreatDoor
namespace Rd
open Go Go.RowKit Go.Deep
set_option linter.unusedVariables false
set_option linter.unusedSimpArgs false
attribute [local go_sem ↓] Go.wp_at_zero Go.wp_at_succ

theorem newRow_set1 (mb : Nat) : Tryz.zeroCells134.setIfInBounds 1 (.map (some mb)) = (newRow mb (0, 0)).toArray := by
  apply Array.toList_inj.1
  rw [Array.toList_setIfInBounds, Tryz.zeroSto]; rfl
def NewRel (H : Nat) (w : World) (cl : List Cl) (i11 : Value) (wr : World) : Prop :=
  ∃ i : Nat, i11 = .int .i64 i ∧ i ≤ cl.length ∧ Hid (Below H w wr ∧ Has H (H + 1) (cl.take i) i wr ∧ Tab H wr)
set_option maxHeartbeats 1000000 in
set_option maxRecDepth 100000 in
theorem newStore_any (cl : List Cl) (v : Value) (w : World) (hv : RdLists w v cl) (hl : ∀ c ∈ cl, ∀ l ∈ c, In50 l) (hlen : cl.length ≤ 20001) (hln : ∀ c ∈ cl, c.length ≤ 20001) (hT : Tab w.heap.size w) :
    Calls Tryz.prog 39 #[v] w fun e w' => e = .returned (.pointer (some ⟨w.heap.size + 1, 0, none⟩)) ∧ Below w.heap.size w w' ∧ Has w.heap.size (w.heap.size + 1) cl cl.length w' ∧ Tab w.heap.size w' := by
  obtain ⟨a, cp, b, rfl, ha, hcl⟩ := hv
  have HCL := hide hcl
  have HL := hide hl
  have HLN := hide hln
  have hmm := @run_makeMap Tryz.prog
  clear hcl hl hln
  go_enter Tryz.func39, Tryz.ntmps39
  go_upto_region 2 with fail
  obtain ⟨Y, hY⟩ : ∃ Y, Y = (w.alloc (.map #[] 0)).alloc (.cells (Tryz.zeroCells134.setIfInBounds 1 (.map (some w.heap.size))) 134) := ⟨_, rfl⟩
  have BY : Hid (Below w.heap.size w Y) := by unfold Hid; rw [hY]; exact ((Below.refl _ _).alloc (Nat.le_refl _) _).alloc (by simp) _
  have SY : Hid (Sto w.heap.size (w.heap.size + 1) Y (.slice none 0 0) w.heap.size 0 (0, 0) (fun _ => .slice none 0 0) [] (fun _ => [])) := by
    unfold Hid
    refine Sto.fresh ?_ ?_ (by omega) (Nat.le_refl _)
    · rw [hY, newRow_set1]
      have := heap_alloc_new (w.alloc (.map #[] 0)) (.cells (newRow w.heap.size (0, 0)).toArray 134)
      simpa using this
    · rw [hY]
      refine (mapIs_made w).kept ?_
      rw [Below.heap_alloc _ _ _ (by simp)]
  rw [← hY]
  clear hY hmm
  have T0 : Hid (Below w.heap.size w Y ∧ Has w.heap.size (w.heap.size + 1) (cl.take 0) 0 Y ∧ Tab w.heap.size Y) :=
    ⟨unhide BY, ⟨_, _, _, _, _, _, _, unhide SY, by rw [List.take_zero]; exact SInv.empty, Nat.le_refl _, by omega, by omega, by simp⟩, hT.later (unhide BY)⟩
  clear SY BY
  go_wp2
  go_loopw [11] (fun i wr => NewRel w.heap.size w cl i wr) (fun i _ => cl.length - (intOf i).toNat)
  case atStart => exact ⟨0, rfl, Nat.zero_le _, T0⟩
  case round =>
    clear T0
    obtain ⟨i, rfl, hil, T⟩ := hrel
    by_cases hlt : i < cl.length
    · have ha' := ha (by omega)
      subst ha'
      obtain ⟨u, hu1, hu2⟩ := unhide HCL i hlt
      have blt : b < w.heap.size := block_lt_of_cell hu1
      have hu3 := ((unhide T).1.cell (p := ⟨b, i, none⟩) blt).trans hu1
      have ud : cl.getD i [] = cl[i] := by rw [List.getD_eq_getElem?_getD, List.getElem?_eq_getElem hlt]; rfl
      rw [ud] at hu2
      have HU : Hid (RdRow wr u cl[i]) := by
        obtain ⟨ra, rc, rb, e1, e2, e3⟩ := hu2
        refine ⟨ra, rc, rb, e1, e2, fun j hj => ?_⟩
        have := e3 j hj
        rw [(unhide T).1.cell (p := ⟨rb, j, none⟩) (block_lt_of_cell this)]
        exact this
      have c50 : Hid (∀ l ∈ cl[i], In50 l) := unhide HL _ (List.getElem_mem _)
      have QS := hide (setOf_any cl[i] u wr (unhide HU) (fun l hl => in50_lit (unhide c50 l hl)) (Nat.le_trans (unhide HLN _ (List.getElem_mem _)) (by omega)))
      have TK : Hid (cl.take (i + 1) = cl.take i ++ [cl[i]]) := by
        unfold Hid; rw [List.take_add_one, List.getElem?_eq_getElem hlt]; rfl
      have QA : Hid (∀ V, Below wr.heap.size wr V → Calls Tryz.prog 68 #[.pointer (some ⟨w.heap.size + 1, 0, none⟩), keyV (setOf cl[i])] V fun e w' => e = .returned (.tuple #[]) ∧ Hid (Below w.heap.size w w' ∧ Has w.heap.size (w.heap.size + 1) (cl.take (i + 1)) (i + 1) w' ∧ Tab w.heap.size w')) := fun V hV => by
        have hB := (unhide T).2.1.bsize
        have TV := (unhide T).2.2.later (hV.mono hB)
        refine (add_has ((unhide T).2.1.later hV) TV (unhide c50) (by omega)).mono ?_
        rintro e w' ⟨q1, q2, q3, q4⟩
        exact ⟨q1, ((unhide T).1.trans (hV.mono hB)).trans q2, by rw [unhide TK]; exact q4, TV.later q2⟩
      unfold keyV at QS QA
      generalize setOf cl[i] = sk at QS QA
      have ii0 : (0 : Int) ≤ (i : Int) := by omega
      have ii1 : (i : Int) < (cl.length : Int) := by omega
      clear hu1 hu2 HU c50 TK ud
      go_wp2_with fail
      with_reducible refine (unhide QS).mono ?_
      rintro e6 w6 ⟨rfl, hb6⟩
      simp only []
      have B6 := hide hb6
      clear hb6
      go_wp2_with fail
      with_reducible refine (unhide QA _ (unhide B6)).mono ?_
      rintro e7 w7 ⟨rfl, H7⟩
      simp only []
      go_wp2
      go_roundw
      case rel => exact ⟨i + 1, ret_int' (by omega), by omega, H7⟩
      case measure => simp [intOf]; omega
    · have ei : i = cl.length := by omega
      subst ei
      have TT := unhide T
      rw [List.take_length] at TT
      have TH := hide TT
      clear TT
      go_wp2
      go_ret
      exact ⟨rfl, (unhide TH).1, (unhide TH).2.1, (unhide TH).2.2⟩
end Rd
end Go.Proofs.YtceahffmenbibaaGreatDoor

namespace Go.Proofs.YtceahffmenbibaaGreatDoor
namespace Rd
open Go Go.RowKit Go.Deep Go.Proofs
set_option linter.unusedVariables false
set_option linter.unusedSimpArgs false
attribute [local go_sem ↓] Go.wp_at_zero Go.wp_at_succ

theorem cut_nlB (s : ByteArray) (m : Int) (w : World) (hs : s.size ≤ 1048576) (hm : w.cell? ⟨0, 0, none⟩ = some (.int .i64 m)) :
    Calls Tryz.prog 40 #[.string s, .string ⟨#[10]⟩] w fun e w' => ∃ x y : ByteArray, e = .returned (.tuple #[.string x, .string y, .bool (hasB 10 s.data.toList)]) ∧
      Hid (hasB 10 s.data.toList = true → x.data.toList = upto 10 s.data.toList ∧ y.data.toList = s.data.toList.drop ((upto 10 s.data.toList).length + 1)) ∧ x.size ≤ s.size ∧ ∃ n, w' = w.drewN n := by
  refine (Tryz.strings_Cut s _ m _ (by omega) hm).mono ?_
  rintro e w' ⟨rfl, hn⟩
  rw [show Lib.cut s.data.toList (⟨#[10]⟩ : ByteArray).data.toList = _ from cut_one 10 _]
  cases h : hasB 10 s.data.toList
  · exact ⟨_, _, rfl, (fun h => by cases h), by show s.data.toList.toArray.size ≤ s.size; simp, hn⟩
  · refine ⟨_, _, rfl, fun _ => ⟨rfl, rfl⟩, ?_, hn⟩
    show (upto 10 s.data.toList).toArray.size ≤ s.size
    have h1 : (upto 10 s.data.toList).length ≤ s.data.toList.length := by unfold upto; exact (List.takeWhile_sublist _).length_le
    simp at h1 ⊢; exact h1
theorem emptyB_set {c : Cl} (hc : ∀ l ∈ c, In50 l) : emptyB (setOf c) = c.isEmpty := by
  unfold emptyB
  cases c with
  | nil => rfl
  | cons l r =>
    have h : (setOf (l :: r)).has l = true := by rw [has_setOf (fun x hx => in50_ne (hc x hx))]; simp
    have : setOf (l :: r) ≠ (0, 0) := (nonempty_iff _).2 ⟨l, h⟩
    rw [decide_eq_false this]; rfl
theorem lineB_nil (v : Bs) : lineB v [] = none := rfl
def ChkRel (B sb n0 : Nat) (v : Bs) (proof : ByteArray) (L0 : List Cl) (w2 : World) (k10 r11 : Value) (wr : World) : Prop :=
  ∃ (k : Nat) (x : ByteArray) (L : List Cl), k10 = .int .i64 k ∧ r11 = .string x ∧ x.size + 2 * k ≤ proof.size ∧ Hid (Below B w2 wr ∧ Has B sb L (n0 + k) wr ∧ Tab B wr) ∧ Hid (∀ res, chk v L (splitR 10 x.data.toList) k res → chk v L0 (splitB 10 proof.data.toList) 0 res)
set_option maxHeartbeats 4000000 in
set_option maxRecDepth 100000 in
theorem check_any (s proof : ByteArray) (w : World) (hs : s.size ≤ maxLen) (hp : proof.size ≤ 1048576) (hg : Glob w) (hT : Tab w.heap.size w) :
    Calls Tryz.prog 20 #[.string s, .string proof] w fun e w' => Below w.heap.size w w' ∧ CheckRet s proof e := by
  have HG := hide hg
  have HT := hide hT
  have QR := hide (read_any s w hs hg)
  rw [read_eq] at QR
  have CK : Hid (∀ a b : Nat, (readB s.data.toList).2.2 = 0 → chk (Lib.decDigits (readB s.data.toList).1.toNat) (readB s.data.toList).2.1 (splitB 10 proof.data.toList) 0 (a, b) → Checked s.data.toList proof.data.toList ((a : Int), (b : Int))) := fun a b h0 h => by
    unfold Checked; rw [if_pos h0]; exact ⟨a, b, rfl, h⟩
  have CN : Hid (¬ (readB s.data.toList).2.2 = 0 → Checked s.data.toList proof.data.toList (0, (readB s.data.toList).2.2)) := fun h => by
    unfold Checked; rw [if_neg h]
  have RO := hide (readB_ok (s := s.data.toList))
  clear hg hT
  generalize readB s.data.toList = r at QR CK CN RO
  obtain ⟨v1, L0, er⟩ := r
  simp only at QR CK CN RO
  go_enter Tryz.func20, Tryz.ntmps20
  go_wp2_with fail
  with_reducible refine (unhide QR).mono ?_
  rintro e1 w1 ⟨hb1, u1, rfl, hu1⟩
  simp only [] at hu1
  have B1 := hide hb1
  have RL : Hid (RdLists w1 u1 L0) := by
    rcases hu1 with ⟨e1, e2⟩ | h
    · subst e1 e2; exact rdLists_nil w1
    · exact h.read
  clear hb1 hu1 QR
  simp only []
  by_cases h0 : er = 0
  · obtain ⟨V, hV, hv1, H50, hl1, hl2⟩ := unhide RO h0
    subst h0
    subst hv1
    have CKV : Hid (∀ a b : Nat, chk (Lib.decDigits V) L0 (splitB 10 proof.data.toList) 0 (a, b) → Checked s.data.toList proof.data.toList ((a : Int), (b : Int))) := fun a b h => unhide CK a b rfl (by simpa using h)
    have T1 : Hid (Tab w1.heap.size w1) := by
      have t := (unhide HT).later (unhide B1)
      exact ⟨t.1, by have := t.2; have := (unhide B1).size; omega⟩
    have G1 := hide (Glob.later (unhide B1) (unhide HG))
    have QN := hide (newStore_any L0 u1 w1 (unhide RL) H50 hl1 hl2 (unhide T1))
    have HBB := (unhide B1).size
    have H4 : Hid (4 ≤ w1.heap.size) := (unhide G1).2.2
    clear RO CK CN H50 hl2 RL HT
    go_wp2_with fail
    with_reducible refine (unhide QN).mono ?_
    rintro e2 w2 ⟨rfl, hb2, hh2, ht2⟩
    simp only []
    have G2 := hide (Glob.later hb2 (unhide G1))
    have B2 : Hid (Below w.heap.size w w2) := (unhide B1).trans (hb2.mono HBB)
    have S0 : Hid (Below w1.heap.size w2 w2 ∧ Has w1.heap.size (w1.heap.size + 1) L0 (L0.length + 0) w2 ∧ Tab w1.heap.size w2) := ⟨Below.refl _ _, hh2, ht2⟩
    generalize w1.heap.size = B at S0 H4 HBB ⊢
    clear QN hb2 hh2 ht2 G1 B1 T1 HG
    go_wp2
    go_loopw [10, 11] (fun k t wr => ChkRel B (B + 1) L0.length (Lib.decDigits V) proof L0 w2 k t wr) (fun _ t _ => sizeOfStr t)
    case atStart => exact ⟨0, proof, L0, rfl, rfl, by omega, S0, fun res h => by rw [splitB_eq]; exact h⟩
    case round =>
      clear S0
      obtain ⟨k, x, L, rfl, rfl, hxk, M, HCH⟩ := hrel
      by_cases x0 : x.size = 0
      · have xl : x.data.toList = [] := List.eq_nil_of_length_eq_zero (by simpa using x0)
        have R : Hid (Checked s.data.toList proof.data.toList ((k : Int), 5)) := unhide CKV k 5 (unhide HCH _ (by rw [xl]; exact chk_nothing))
        have pe : x.toList.isEmpty = true := isEmpty_of x0
        have BE : Hid (Below w.heap.size w wr) := (unhide B2).trans ((unhide M).1.mono HBB)
        clear M HCH xl
        go_wp2
        go_ret2
        exact ⟨unhide BE, _, _, rfl, unhide R⟩
      · have xl : x.data.toList ≠ [] := fun e => x0 (by have := congrArg List.length e; simpa using this)
        have pe : x.toList.isEmpty = false := notEmpty_of x0
        have GR := hide (Glob.below (unhide H4) (unhide M).1 (unhide G2))
        obtain ⟨⟨mx, hmx⟩, _, _⟩ := unhide GR
        have QC := hide (cut_nlB x mx wr (by omega) hmx)
        clear hmx
        have L50 : Hid (∀ g c, lineB (Lib.decDigits V) (upto 10 x.data.toList) = some (g, c) → ∀ l ∈ c, In50 l) := fun g c h => lineB50 hV h
        have QI : Hid (∀ X, Below wr.heap.size wr X → Calls Tryz.prog 36 #[.int .i64 V] X fun e w' => ∃ z : ByteArray, e = .returned (.string z) ∧ Hid (z.data.toList = Lib.decDigits V) ∧ Below X.heap.size X w') := fun X hX => itoa_any V (by omega) X (Glob.later hX (unhide GR))
        have QP : Hid (∀ X (l z : ByteArray), Below wr.heap.size wr X → l.size ≤ 1048576 → z.data.toList = Lib.decDigits V → Calls Tryz.prog 41 #[.string l, .string z] X fun e w' => Below X.heap.size X w' ∧ StepRet V l e) := fun X l z hX hl hz => by
          obtain ⟨⟨m', hm'⟩, _, _⟩ := Glob.later hX (unhide GR)
          exact parseStep_any l z V m' X hl hV hz hm'
        go_wp2_with fail
        with_reducible refine (unhide QC).mono ?_
        rintro e3 w3 ⟨l, y, rfl, HLY, lsz, n3, rfl⟩
        simp only []
        have B3 : Hid (Below wr.heap.size wr (wr.drewN n3)) := bel_drewN' (Below.refl _ _) _
        generalize wr.drewN n3 = w3 at B3 ⊢
        obtain ⟨hb, hhb⟩ : ∃ hb, hasB 10 x.data.toList = hb := ⟨_, rfl⟩
        rw [hhb]
        have HHB := hide hhb
        clear hhb QC
        go_wp2_with fail
        with_reducible refine (unhide QI _ (unhide B3)).mono ?_
        rintro e4 w4 ⟨z, rfl, hz, hb4⟩
        simp only []
        have B4 : Hid (Below wr.heap.size wr w4) := (unhide B3).trans (hb4.mono (unhide B3).size)
        clear hb4
        go_wp2_with fail
        with_reducible refine (unhide QP _ l z (unhide B4) (by omega) (unhide hz)).mono ?_
        rintro e5 w5 ⟨hb5, hr5⟩
        have B5 : Hid (Below wr.heap.size wr w5) := (unhide B4).trans (hb5.mono (unhide B4).size)
        have MB := (unhide M).2.1.bsize
        have BE : Hid (Below w.heap.size w wr) := (unhide B2).trans ((unhide M).1.mono HBB)
        have sE := (unhide BE).size
        clear hb5 QI QP
        rcases hr5 with ⟨hl, rfl⟩ | ⟨g, c, hl, rfl⟩
        · have R : Hid (Checked s.data.toList proof.data.toList (((k + 1 : Nat) : Int), 3)) := unhide CKV (k + 1) 3 (unhide HCH _ (by
            cases hb with
            | true => exact chk_form (unhide HHB) (by rw [← (unhide HLY (unhide HHB)).1]; exact hl)
            | false => exact chk_open xl (unhide HHB)))
          have BF : Hid (Below w.heap.size w (w5.alloc (.cells #[.bool false, .int .u64 0, .int .u64 0, .int .u64 0, .int .u64 0] 86))) := ((unhide BE).trans ((unhide B5).mono sE)).alloc (by have := (unhide B5).size; omega) _
          unfold stepV
          clear hl M HCH HLY
          cases hb with
          | true =>
            simp only []
            go_wp2
            go_ret2
            exact ⟨unhide BF, _, _, rfl, unhide R⟩
          | false =>
            simp only []
            go_wp2
            go_ret2
            exact ⟨unhide BF, _, _, rfl, unhide R⟩
        · cases hb with
          | false =>
            have R : Hid (Checked s.data.toList proof.data.toList (((k + 1 : Nat) : Int), 3)) := unhide CKV (k + 1) 3 (unhide HCH _ (chk_open xl (unhide HHB)))
            have BF : Hid (∀ o, Below w.heap.size w (w5.alloc o)) := fun o => ((unhide BE).trans ((unhide B5).mono sE)).alloc (by have := (unhide B5).size; omega) _
            unfold stepV
            clear hl M HCH HLY
            simp only []
            go_wp2
            go_ret2
            exact ⟨unhide BF _, _, _, rfl, unhide R⟩
          | true =>
            have HX := unhide HHB
            obtain ⟨ly1, ly2⟩ := unhide HLY HX
            rw [ly1] at hl
            have c50 := unhide L50 g c hl
            have une : (upto 10 x.data.toList).length ≠ 0 := fun e => by
              rw [List.eq_nil_of_length_eq_zero e, lineB_nil] at hl; cases hl
            have hxl : (upto 10 x.data.toList).length < x.data.toList.length := of_decide_eq_true HX
            have yz : y.size + 2 ≤ x.size := by
              have h1 := congrArg List.length ly2
              have h2 : x.data.toList.length = x.size := by simp
              have h3 : y.data.toList.length = y.size := by simp
              rw [List.length_drop, h2, h3] at h1
              rw [h2] at hxl
              omega
            have QE : Hid (∀ X, Calls Tryz.prog 43 #[stepV g (setOf c) (firstOf c)] X fun e w' => e = .returned (.bool (!g && c.isEmpty)) ∧ Below X.heap.size X w') := fun X => by
              have := ends_any g (setOf c) (firstOf c) (setOf_lit c50) X
              rw [emptyB_set c50] at this; exact this
            have QT : Hid (∀ X, Below wr.heap.size wr X → Calls Tryz.prog 42 #[.pointer (some ⟨B + 1, 0, none⟩), stepV g (setOf c) (firstOf c)] X fun e w' => ∃ b, e = .returned (.bool b) ∧ Hid (Below B X w' ∧ Keeps X w' ∧ Tab B w') ∧ Hid (b = false → Checked s.data.toList proof.data.toList (((k + 1 : Nat) : Int), 4)) ∧ Hid (b = true → ∃ L', Has B (B + 1) L' (L0.length + (k + 1)) w' ∧ ((!g && c.isEmpty) = true → Checked s.data.toList proof.data.toList (((k + 1 : Nat) : Int), 0)) ∧ ((!g && c.isEmpty) = false → ∀ res, chk (Lib.decDigits V) L' (splitR 10 y.data.toList) (k + 1) res → chk (Lib.decDigits V) L0 (splitB 10 proof.data.toList) 0 res))) := fun X hX => by
              have TX := (unhide M).2.2.later (hX.mono MB)
              refine (take_any (c := c) g ((unhide M).2.1.later hX) TX c50 (by omega)).mono ?_
              rintro e w' ⟨q1, q2, q3⟩
              rcases q3 with ⟨rfl, r1, r2⟩ | ⟨L', rfl, r1, r2, r3⟩ | ⟨rfl, r1, r2⟩ | ⟨rfl, r1, r2, r3⟩
              · exact ⟨false, r2, ⟨q1, q2, TX.later q1⟩, fun _ => unhide CKV (k + 1) 4 (unhide HCH _ (chk_gone HX hl r1)), fun h => by cases h⟩
              · refine ⟨true, r2, ⟨q1, q2, TX.later q1⟩, (fun h => by cases h), fun _ => ⟨L', r3, fun h => by simp at h, fun _ res h => unhide HCH _ ((chk_del HX hl r1).2 (by rw [← ly2]; exact h))⟩⟩
              · exact ⟨false, r2, ⟨q1, q2, TX.later q1⟩, fun _ => unhide CKV (k + 1) 4 (unhide HCH _ (chk_wrong HX hl r1)), fun h => by cases h⟩
              · refine ⟨true, r2, ⟨q1, q2, TX.later q1⟩, (fun h => by cases h), fun _ => ⟨L ++ [c], r3, fun h => ?_, fun h res h2 => ?_⟩⟩
                · have : c = [] := by cases c with
                    | nil => rfl
                    | cons a b => simp at h
                  subst this
                  exact unhide CKV (k + 1) 0 (unhide HCH _ (chk_end HX hl r1))
                · have : c ≠ [] := fun e => by rw [e] at h; simp at h
                  exact unhide HCH _ ((chk_add HX hl r1 this).2 (by rw [← ly2]; exact h2))
            obtain ⟨en, hen⟩ : ∃ en, (!g && c.isEmpty) = en := ⟨_, rfl⟩
            rw [hen] at QE QT
            obtain ⟨sc, hsc⟩ : ∃ a, setOf c = a := ⟨_, rfl⟩
            obtain ⟨fc, hfc⟩ : ∃ a, firstOf c = a := ⟨_, rfl⟩
            rw [hsc, hfc] at QE QT ⊢
            have BX : Hid (Below wr.heap.size wr (w5.alloc (.cells #[.bool g, .int .u64 (sc.1 : Int), .int .u64 (sc.2 : Int), .int .u64 (fc.1 : Int), .int .u64 (fc.2 : Int)] 86))) := (unhide B5).alloc (unhide B5).size _
            have FX := hide (foreign_new w5 #[.bool g, .int .u64 (sc.1 : Int), .int .u64 (sc.2 : Int), .int .u64 (fc.1 : Int), .int .u64 (fc.2 : Int)] 86 (by decide))
            have M1 := hide (unhide M).1
            unfold stepV at QE QT ⊢
            clear hen hsc hfc hl c50 ly1 ly2 une hxl HX HLY L50 M HCH CKV
            simp only []
            go_wp2_with fail
            with_reducible refine (unhide QT _ (unhide BX)).mono ?_
            rintro e6 w6 ⟨b, rfl, H6, HF, HT6⟩
            simp only []
            have B6 : Hid (Below w.heap.size w w6) := (unhide BE).trans (((unhide BX).mono sE).trans ((unhide H6).1.mono HBB))
            cases b with
            | false =>
              have R := hide (unhide HF rfl)
              go_wp2
              go_ret2
              exact ⟨unhide B6, _, _, rfl, unhide R⟩
            | true =>
              obtain ⟨L', hh6, hE1, hE2⟩ := unhide HT6 rfl
              have HH6 := hide hh6
              have HE1 := hide hE1
              have HE2 := hide hE2
              have x0' := ((unhide H6).2.1.cell (j := 0) (unhide FX)).trans (by simp : _ = some (.bool g))
              have x1' := ((unhide H6).2.1.cell (j := 1) (unhide FX)).trans (by simp : _ = some (.int .u64 (sc.1 : Int)))
              have x2' := ((unhide H6).2.1.cell (j := 2) (unhide FX)).trans (by simp : _ = some (.int .u64 (sc.2 : Int)))
              have x3' := ((unhide H6).2.1.cell (j := 3) (unhide FX)).trans (by simp : _ = some (.int .u64 (fc.1 : Int)))
              have x4' := ((unhide H6).2.1.cell (j := 4) (unhide FX)).trans (by simp : _ = some (.int .u64 (fc.2 : Int)))
              clear hh6 hE1 hE2 HT6 HF
              go_wp2_with fail
              with_reducible refine (unhide QE _).mono ?_
              rintro e7 w7 ⟨rfl, hb7⟩
              simp only []
              have B7 : Hid (Below w.heap.size w w7) := (unhide B6).trans (hb7.mono (unhide B6).size)
              have M7 : Hid (Below B w2 w7 ∧ Has B (B + 1) L' (L0.length + (k + 1)) w7 ∧ Tab B w7) :=
                ⟨((unhide M1).trans (((unhide BX).mono MB).trans (unhide H6).1)).trans (hb7.mono (unhide HH6).bsize), (unhide HH6).later hb7, (unhide H6).2.2.later (hb7.mono (unhide HH6).bsize)⟩
              clear hb7 x0' x1' x2' x3' x4'
              cases en with
              | true =>
                have R := hide (unhide HE1 rfl)
                go_wp2
                go_ret2
                exact ⟨unhide B7, _, _, rfl, unhide R⟩
              | false =>
                have RR := hide (unhide HE2 rfl)
                go_wp2
                go_roundw
                case rel => exact ⟨k + 1, y, L', ret_int' (by omega), rfl, by omega, M7, unhide RR⟩
                case measure => simp [sizeOfStr]; omega
  · have R : Hid (Checked s.data.toList proof.data.toList (0, er)) := unhide CN h0
    have hne : (er != 0) = true := by simpa using h0
    go_wp2
    go_ret2
    exact ⟨unhide B1, _, _, rfl, unhide R⟩
end Rd
end Go.Proofs.YtceahffmenbibaaGreatDoor

namespace Go.Proofs.YtceahffmenbibaaGreatDoor
open Go Go.ChangeShapes Go.WideShapes Go.ChangeAt Go.RowKit Go.Deep Go.ChangeMaps

/-- a step as it came in -/
abbrev Stp : Type := Int × Int × Int × ByteArray × ByteArray
def Stp.k (x : Stp) : Int := x.1
def Stp.n (x : Stp) : Int := x.2.1
def Stp.m (x : Stp) : Int := x.2.2.1
def Stp.s (x : Stp) : ByteArray := x.2.2.2.1
def Stp.t (x : Stp) : ByteArray := x.2.2.2.2

theorem Tryz.cellsStep : Tryz.prog.cellsOf 59 = 5 := by kernel_rfl
theorem Tryz.cellsInt : Tryz.prog.cellsOf 3 = 1 := by kernel_rfl
theorem Tryz.cellsStr : Tryz.prog.cellsOf 9 = 1 := by kernel_rfl

/-- the five cells of step i, and their readings -/
def StepAt (w : World) (a : Addr) (i : Nat) (x : Stp) : Prop :=
  w.cell? (a.add (i * 5 + 0)) = some (.int .i64 x.k) ∧ w.cell? (a.add (i * 5 + 1)) = some (.int .i64 x.n) ∧ w.cell? (a.add (i * 5 + 2)) = some (.int .i64 x.m) ∧
  w.cell? (a.add (i * 5 + 3)) = some (.string x.s) ∧ w.cell? (a.add (i * 5 + 4)) = some (.string x.t) ∧ x.s.size ≤ maxLen ∧ x.t.size ≤ maxLen ∧
  (Lit.int .i64 x.k).wf = true ∧ (Lit.int .i64 x.n).wf = true ∧ (Lit.int .i64 x.m).wf = true

def stepData {H : Type} (x : Stp) : DataW H := .agg [.lit (.int .i64 x.k), .lit (.int .i64 x.n), .lit (.int .i64 x.m), .lit (.string x.s.data.toList), .lit (.string x.t.data.toList)]

section
variable {H : Type} {enc : TypeId × Value → H} {w : World} {base : Nat} {spare : Nat → Bool} {held : Bool}


theorem five_of {α : Type} {l : List α} (h : l.length = 5) : ∃ a b c d e, l = [a, b, c, d, e] := by
  match l, h with
  | [a, b, c, d, e], _ => exact ⟨a, b, c, d, e, rfl⟩

theorem step_of {n : Nat} {cs : List Value} {d : DataW H × List MemPlace} (h : DataW.trod enc Tryz.prog w base spare held n 59 cs = some d) :
    ∃ x : Stp, cs = [.int .i64 x.k, .int .i64 x.n, .int .i64 x.m, .string x.s, .string x.t] ∧ d = (stepData x, []) ∧ x.s.size ≤ maxLen ∧ x.t.size ≤ maxLen ∧
      (Lit.int .i64 x.k).wf = true ∧ (Lit.int .i64 x.n).wf = true ∧ (Lit.int .i64 x.m).wf = true := by
  obtain ⟨xs, k, _, hxy, hlen, hxl, hf⟩ := DataW.trod_struct Tryz.underlying59 h
  rw [Tryz.cellsStep] at hlen
  obtain ⟨y0, y1, y2, y3, y4, rfl⟩ := five_of hxl
  obtain ⟨v0, v1, v2, v3, v4, rfl⟩ := five_of hlen
  · have g0 := hf 0 _ rfl
    have g1 := hf 1 _ rfl
    have g2 := hf 2 _ rfl
    have g3 := hf 3 _ rfl
    have g4 := hf 4 _ rfl
    simp [Tryz.cellsInt, Tryz.cellsStr] at g0 g1 g2 g3 g4
    obtain ⟨a0, e0, rfl, w0⟩ := DataW.trod_int Tryz.underlying3 g0
    obtain ⟨a1, e1, rfl, w1⟩ := DataW.trod_int Tryz.underlying3 g1
    obtain ⟨a2, e2, rfl, w2⟩ := DataW.trod_int Tryz.underlying3 g2
    obtain ⟨a3, e3, rfl, w3⟩ := DataW.trod_string Tryz.underlying9 g3
    obtain ⟨a4, e4, rfl, w4⟩ := DataW.trod_string Tryz.underlying9 g4
    simp at e0 e1 e2 e3 e4
    subst e0 e1 e2 e3 e4
    exact ⟨(a0, a1, a2, a3, a4), rfl, by rw [hxy]; rfl, w3, w4, w0, w1, w2⟩

/-- A SCRIPT OPENED: nil, or a row of steps. -/
theorem open_script {fuel : Nat} {cs : List Value} {x : DataW H × List MemPlace} (h : DataW.trod enc Tryz.prog w base spare held fuel 22 cs = some x) :
    (cs = [.slice none 0 0] ∧ x = (.nil, [])) ∨
    ∃ (a : Addr) (len cap : Nat) (q : Nat → Stp) (sp : List (DataW H)), cs = [.slice (some a) len cap] ∧ len ≤ cap ∧ cap ≤ maxLen ∧ x.1 = .slice ((List.range len).map fun i => stepData (q i)) sp ∧
      ∀ i, i < len → StepAt w a i (q i) := by
  rcases open_slice Tryz.underlying22 h with h0 | ⟨a, len, cap, m, n, D, Pl, rfl, _, hl, hm, hmm, rfl, hx⟩
  · exact Or.inl h0
  right
  have hlm : len ≤ m := by rw [hmm]; split <;> omega
  rw [Tryz.cellsStep] at hx
  have each : ∀ i, i < m → ∃ q : Stp, StepAt w a i q ∧ D i = stepData q := fun i hi => by
    obtain ⟨cs', h1, h2⟩ := hx i hi
    obtain ⟨q, rfl, hd, r⟩ := step_of h2
    obtain ⟨_, _, hcell⟩ := World.cells?_some h1
    simp only [Prod.mk.injEq] at hd
    have c0 := hcell 0 (by omega)
    have c1 := hcell 1 (by omega)
    have c2 := hcell 2 (by omega)
    have c3 := hcell 3 (by omega)
    have c4 := hcell 4 (by omega)
    rw [add_add] at c0 c1 c2 c3 c4
    exact ⟨q, ⟨c0, c1, c2, c3, c4, r⟩, hd.1⟩
  obtain ⟨q, hq⟩ := choose_lt each
  refine ⟨a, len, cap, q, (List.range (m - len)).map fun j => D (len + j), rfl, hl, hm, ?_, fun i hi => (hq i (by omega)).1⟩
  show DataW.slice _ _ = _
  rw [List.map_congr_left (fun i hi => (hq i (by have := List.mem_range.1 hi; omega)).2)]
end
end Go.Proofs.YtceahffmenbibaaGreatDoor

namespace Go.Proofs.YtceahffmenbibaaGreatDoor
namespace Ck
open Go Go.RowKit Go.Deep Rd
set_option linter.unusedVariables false
set_option linter.unusedSimpArgs false

def GT (w : World) : Prop := Glob w ∧ Tab w.heap.size w
theorem GT.below {B : Nat} {w w' : World} (h : GT w) (hB : 6 ≤ B) (hb : Below B w w') : GT w' := by
  refine ⟨Glob.below (by omega) hb h.1, ?_⟩
  have t : Tab B w := ⟨h.2.1, by show (5 : Nat) < B; omega⟩
  have t2 := t.later hb
  exact ⟨t2.1, by have := h.2.2; have := hb.size; omega⟩
theorem GT.six {w : World} (h : GT w) : 6 ≤ w.heap.size := by have : (5 : Nat) < w.heap.size := h.2.2; omega
theorem GT.later {w w' : World} (h : GT w) (hb : Below w.heap.size w w') : GT w' := h.below h.six hb

theorem chk_code (v : Bs) : ∀ (ps : List Bs) (L : List Cl) (k : Nat) (res : Nat × Nat), chk v L ps k res → res.2 ≤ 5
  | [], L, k, res, h => by simp only [chk] at h; rw [h]; exact Nat.le_refl _
  | p :: r, L, k, res, h => by
    unfold chk at h
    split at h
    · split at h <;> rw [h] <;> simp
    · split at h
      · rw [h]; simp
      · split at h
        · rw [h]; simp
        · exact chk_code v r _ _ _ h
      · rename_i c hl
        rcases Classical.em (RightP L c) with hR | hR
        · have g := h.2 hR
          split at g
          · rw [g]; simp
          · exact chk_code v r _ _ _ g
        · rw [h.1 hR]; simp
theorem read_err (s : Bs) : 0 ≤ (readB s).2.2 ∧ (readB s).2.2 ≤ 6 := by
  unfold readB body
  repeat' split
  all_goals simp
theorem checked_err {s p : Bs} {n f : Int} (h : Rd.Checked s p (n, f)) : 0 ≤ f ∧ f ≤ 6 := by
  unfold Rd.Checked at h
  split at h
  · obtain ⟨a, b, e, hc⟩ := h
    have := chk_code _ _ _ _ _ hc
    simp only [Prod.mk.injEq] at e
    simp only at this
    omega
  · simp only [Prod.mk.injEq] at h
    rw [h.2]; exact read_err s
set_option maxHeartbeats 400000 in
theorem num_any (n : Int) (w : World) (h : (Lit.int .i64 n).wf = true) : Calls Tryz.prog 49 #[.int .i64 n] w fun e w' => e = .returned (.int .i64 n) ∧ w' = w := by
  have hb := bounds_i64 h
  go_enter Tryz.func49, Tryz.ntmps49
  go_wp2
  go_ret
  exact ⟨rfl, rfl⟩
set_option maxHeartbeats 400000 in
theorem still_none (b : Nat) (w : World) (h : w.cell? ⟨b, 1, none⟩ = some (.slice none 0 0)) :
    Calls Tryz.prog 29 #[.pointer (some ⟨b, 0, none⟩)] w fun e w' => e = .returned (.bool true) ∧ w' = w := by
  go_enter Tryz.func29, Tryz.ntmps29
  go_wp2
  go_loop [3] (fun i => i = .int .i64 0) (fun _ => 0)
  case atStart => rfl
  case round =>
    subst hrel
    go_wp2
    go_ret
    exact ⟨rfl, rfl⟩
/-- the five cells of step i, the address written out -/
theorem step_cells {w : World} {b off i : Nat} {x : Stp} (h : StepAt w ⟨b, off, none⟩ i x) :
    w.cell? ⟨b, off + i * 5, none⟩ = some (.int .i64 x.k) ∧ w.cell? ⟨b, off + i * 5 + 1, none⟩ = some (.int .i64 x.n) ∧ w.cell? ⟨b, off + i * 5 + 2, none⟩ = some (.int .i64 x.m) ∧
    w.cell? ⟨b, off + i * 5 + 3, none⟩ = some (.string x.s) ∧ w.cell? ⟨b, off + i * 5 + 4, none⟩ = some (.string x.t) := by
  obtain ⟨h0, h1, h2, h3, h4, _⟩ := h
  simp only [Addr.add_lit, ← Nat.add_assoc, Nat.add_zero] at h0 h1 h2 h3 h4
  exact ⟨h0, h1, h2, h3, h4⟩
theorem num_small (f : Int) (w : World) (h : 0 ≤ f ∧ f ≤ 6) : Calls Tryz.prog 49 #[.int .i64 f] w fun e w' => e = .returned (.int .i64 f) ∧ w' = w := by
  obtain rfl | rfl | rfl | rfl | rfl | rfl | rfl : f = 0 ∨ f = 1 ∨ f = 2 ∨ f = 3 ∨ f = 4 ∨ f = 5 ∨ f = 6 := by omega
  all_goals exact num_any _ _ (by decide)
set_option maxHeartbeats 1000000 in
theorem plays_check (hv : Value) (n m : Int) (s t : ByteArray) (w : World) (hg : GT w) (hs : s.size ≤ maxLen) (ht : t.size ≤ 1048576) :
    Calls Tryz.prog 28 #[hv, .agg #[.int .i64 2, .int .i64 n, .int .i64 m, .string s, .string t]] w fun e w' => e = .returned (.bool true) ∧ Below w.heap.size w w' := by
  have HG := hide hg
  have HS := hide hs
  have HT := hide ht
  clear hg hs ht
  go_enter Tryz.func28, Tryz.ntmps28
  have QC : Hid (∀ X, Below w.heap.size w X → Calls Tryz.prog 20 #[.string s, .string t] X fun e w' => Below X.heap.size X w' ∧ CheckRet s t e) := fun X hX => check_any s t X (unhide HS) (unhide HT) ((unhide HG).later hX).1 ((unhide HG).later hX).2
  have QD : Hid (∀ X, Calls Tryz.prog 50 #[.string s, .string t] X fun e w' => Below X.heap.size X w' ∧ CheckRet s t e) := fun X => rcheck_any s t X (unhide HS) (unhide HT)
  have BW : Hid (Below w.heap.size w (w.alloc (.cells #[.int .i64 2, .int .i64 n, .int .i64 m, .string s, .string t] 59))) := (Below.refl _ _).alloc (Nat.le_refl _) _
  go_wp2_with fail
  with_reducible refine (unhide QC _ (unhide BW)).mono ?_
  rintro e1 w1 ⟨hb1, n1, f1, rfl, hc1⟩
  have B1 : Hid (Below w.heap.size w w1) := (unhide BW).trans (hb1.mono (by simp))
  have s1 : w.heap.size < w1.heap.size := by have := hb1.size; simp at this; omega
  have q3 : w1.cell? ⟨w.heap.size, 3, none⟩ = some (.string s) := by
    rw [hb1.cell (p := ⟨w.heap.size, 3, none⟩) (by simp)]; simp
  have q4 : w1.cell? ⟨w.heap.size, 4, none⟩ = some (.string t) := by
    rw [hb1.cell (p := ⟨w.heap.size, 4, none⟩) (by simp)]; simp
  have HC1 := hide hc1
  clear hb1 hc1
  simp only []
  go_wp2_with fail
  with_reducible refine (unhide QD _).mono ?_
  rintro e2 w2 ⟨hb2, n2, f2, rfl, hc2⟩
  have B2 : Hid (Below w.heap.size w w2) := (unhide B1).trans (hb2.mono (unhide B1).size)
  have EQ := checked_inj hc2 (unhide HC1)
  simp only [Prod.mk.injEq] at EQ
  obtain ⟨rfl, rfl⟩ := EQ
  have QN := hide (fun X => num_small f2 X (checked_err hc2))
  clear hb2 hc2 q3 q4
  simp only []
  go_wp2_with (go_at_call 49; refine (unhide QN _).mono ?_; rintro e w' ⟨rfl, rfl⟩)
  go_ret
  exact ⟨rfl, unhide B2⟩

/-! ### the head -/
def sqS : ByteArray := { data := #[112, 32, 99, 110, 102, 32, 50, 32, 52, 10, 49, 32, 50, 32, 48, 32, 45, 49, 32, 50, 32, 48, 10, 49, 32, 45, 50, 32, 48, 32, 45, 49, 32, 45, 50, 32, 48, 10] }
def p1S : ByteArray := { data := #[50, 32, 48, 10, 48, 10] }
def p2S : ByteArray := { data := #[48, 10] }
def sqL : List Cl := [[1, 2], [-1, 2], [1, -2], [-1, -2]]
set_option maxRecDepth 100000 in
theorem sq_read : readB sqS.data.toList = (2, sqL, 0) := by decide +kernel
theorem two_no {M : Int → Prop} {c : Cl} {x y : Int} (hc : ∀ l ∈ c, l = x ∨ l = y) (h : M (-x) ∨ M (-y)) : ¬ Two M c := by
  rintro ⟨a, ha, b, hb, hab, h1, h2⟩
  rcases hc a ha with e | e <;> rcases hc b hb with e' | e' <;> subst e <;> subst e'
  · exact hab rfl
  · rcases h with h | h
    · exact h1 h
    · exact h2 h
  · rcases h with h | h
    · exact h2 h
    · exact h1 h
  · exact hab rfl
theorem met_of {M : Int → Prop} {L : List Cl} (hs : Stable L M) {x y : Int} (hm : [x, y] ∈ L) (h : M (-x) ∨ M (-y)) : M x ∨ M y := by
  rcases hs _ hm with ⟨l, hl, h1⟩ | h2
  · simp only [List.mem_cons, List.not_mem_nil, or_false] at hl
    rcases hl with e | e <;> subst e
    · exact .inl h1
    · exact .inr h1
  · exact absurd h2 (two_no (fun l hl => by simpa using hl) h)
theorem right1 : RightP sqL [2] := .inl fun M hM hl hs => by
  have h2 : M (-2) := hl (-2) (by decide)
  have n2 : ¬ M 2 := fun h => hM 2 h h2
  rcases met_of hs (x := 1) (y := 2) (by decide) (.inr h2) with h | h
  · rcases met_of hs (x := -1) (y := 2) (by decide) (.inr h2) with h' | h'
    · exact hM 1 h h'
    · exact n2 h'
  · exact n2 h
theorem right2 : RightP (sqL ++ [[2]]) [] := .inl fun M hM hl hs => by
  have h2 : M 2 := by
    rcases hs [2] (by decide) with ⟨l, hl, h1⟩ | h
    · simp only [List.mem_cons, List.not_mem_nil, or_false] at hl
      subst hl; exact h1
    · obtain ⟨a, ha, b, hb, hab, _⟩ := h
      simp only [List.mem_cons, List.not_mem_nil, or_false] at ha hb
      exact absurd (ha.trans hb.symm) hab
  have n2 : ¬ M (-2) := fun h => hM 2 h2 h
  have h2' : M (-(-2)) := by rw [show (-(-2) : Int) = 2 by decide]; exact h2
  rcases met_of hs (x := 1) (y := -2) (by decide) (.inr h2') with h | h
  · rcases met_of hs (x := -1) (y := -2) (by decide) (.inr h2') with h' | h'
    · exact hM 1 h h'
    · exact n2 h'
  · exact n2 h
theorem wrong0 : ¬ RightP sqL [] := rightP_nil fun h => h (fun _ => False) (fun _ h _ => h) (fun l hl => by simp [opp] at hl) (fun c hc => by
  have two : ∀ x y : Int, x ≠ y → c = [x, y] → Two (fun _ => False) c := fun x y hxy e => by
    subst e; exact ⟨x, by simp, y, by simp, hxy, fun h => h, fun h => h⟩
  unfold sqL at hc
  simp only [List.mem_cons, List.not_mem_nil, or_false] at hc
  rcases hc with e | e | e | e
  · exact .inr (two _ _ (by decide) e)
  · exact .inr (two _ _ (by decide) e)
  · exact .inr (two _ _ (by decide) e)
  · exact .inr (two _ _ (by decide) e))
theorem sq_chk1 : chk (Lib.decDigits 2) sqL [[50, 32, 48], [48], []] 0 (2, 0) := by
  unfold chk
  rw [if_neg (by decide), show lineB (Lib.decDigits 2) [50, 32, 48] = some (false, [2]) by decide +kernel]
  refine ⟨fun h => absurd right1 h, fun _ => ?_⟩
  rw [if_neg (by decide)]
  unfold chk
  rw [if_neg (by decide), show lineB (Lib.decDigits 2) [48] = some (false, []) by decide +kernel]
  exact ⟨fun h => absurd right2 h, fun _ => by rw [if_pos (by decide)]⟩
theorem sq_chk2 : chk (Lib.decDigits 2) sqL [[48], []] 0 (1, 4) := by
  unfold chk
  rw [if_neg (by decide), show lineB (Lib.decDigits 2) [48] = some (false, []) by decide +kernel]
  exact ⟨fun _ => rfl, fun h => absurd h wrong0⟩
theorem sq_checked1 : Rd.Checked sqS.data.toList p1S.data.toList (2, 0) := by
  unfold Rd.Checked
  rw [sq_read, if_pos rfl]
  refine ⟨2, 0, rfl, ?_⟩
  rw [show splitB 10 p1S.data.toList = [[50, 32, 48], [48], []] by decide +kernel]
  exact sq_chk1
theorem sq_checked2 : Rd.Checked sqS.data.toList p2S.data.toList (1, 4) := by
  unfold Rd.Checked
  rw [sq_read, if_pos rfl]
  refine ⟨1, 4, rfl, ?_⟩
  rw [show splitB 10 p2S.data.toList = [[48], []] by decide +kernel]
  exact sq_chk2
theorem check1 (w : World) (hg : GT w) : Calls Tryz.prog 20 #[.string sqS, .string p1S] w fun e w' => e = .returned (.tuple #[.int .i64 2, .int .i64 0]) ∧ Below w.heap.size w w' := by
  refine (check_any sqS p1S w (by decide) (by decide) hg.1 hg.2).mono ?_
  rintro e w' ⟨hb, n, f, rfl, hc⟩
  have := checked_inj hc sq_checked1
  simp only [Prod.mk.injEq] at this
  obtain ⟨rfl, rfl⟩ := this
  exact ⟨rfl, hb⟩
theorem check2 (w : World) (hg : GT w) : Calls Tryz.prog 20 #[.string sqS, .string p2S] w fun e w' => e = .returned (.tuple #[.int .i64 1, .int .i64 4]) ∧ Below w.heap.size w w' := by
  refine (check_any sqS p2S w (by decide) (by decide) hg.1 hg.2).mono ?_
  rintro e w' ⟨hb, n, f, rfl, hc⟩
  have := checked_inj hc sq_checked2
  simp only [Prod.mk.injEq] at this
  obtain ⟨rfl, rfl⟩ := this
  exact ⟨rfl, hb⟩
set_option maxHeartbeats 1000000 in
theorem heads_check (w : World) (hg : GT w) : Calls Tryz.prog 27 #[.int .i64 2] w fun e w' => e = .returned (.bool true) ∧ Below w.heap.size w w' := by
  have HG := hide hg
  clear hg
  go_enter Tryz.func27, Tryz.ntmps27
  go_wp2_with fail
  refine (check1 w (unhide HG)).mono ?_
  rintro e1 w1 ⟨rfl, hb1⟩
  have B1 := hide hb1
  clear hb1
  simp only []
  go_wp2_with fail
  refine (check2 w1 ((unhide HG).later (unhide B1))).mono ?_
  rintro e2 w2 ⟨rfl, hb2⟩
  have B2 : Hid (Below w.heap.size w w2) := (unhide B1).trans (hb2.mono (unhide B1).size)
  clear hb2
  simp only []
  go_wp2
  go_ret
  exact ⟨rfl, unhide B2⟩

/-! ### the script -/
set_option maxHeartbeats 1000000 in
theorem upTo_check (b off len cap : Nat) (q : Nat → Stp) (w : World) (hg : GT w) (hl : len ≤ maxLen) (hq : ∀ i, i < len → StepAt w ⟨b, off, none⟩ i (q i)) (hz : ∀ i, i < len → (q i).s.size ≤ 1048576 ∧ (q i).t.size ≤ 1048576) (hb : b < w.heap.size) :
    Calls Tryz.prog 15 #[.slice (some ⟨b, off, none⟩) len cap, .int .i64 2] w fun e w' => e = .returned (.int .i64 (-1)) ∧ Below w.heap.size w w' := by
  unfold maxLen at hl
  have HQ := hide hq
  have HZ := hide hz
  have HG := hide hg
  clear hq hz hg
  go_enter Tryz.func15, Tryz.ntmps15
  go_wp2_with fail
  refine (heads_check w (unhide HG)).mono ?_
  rintro e wh ⟨rfl, hbh⟩
  have BH := hide hbh
  have HH := hide ((unhide HG).later hbh)
  have keepH : Hid (∀ o, wh.cell? ⟨b, o, none⟩ = w.cell? ⟨b, o, none⟩) := fun o => hbh.cell (p := ⟨b, o, none⟩) hb
  have hbw : b < wh.heap.size := by have := hbh.size; omega
  clear hbh
  simp only []
  go_wp2
  go_loopw [5, 7, 8] (fun ok i st wr => ∃ k : Nat, k ≤ len ∧ i = .int .i64 k ∧ ok = .bool true ∧ Hid (Below (wh.heap.size + 1) (wh.alloc (.cells #[.int .i64 0, .slice none 0 0] 57)) wr)) (fun _ i _ _ => len - (intOf i).toNat)
  case atStart => exact ⟨0, Nat.zero_le _, rfl, rfl, Below.refl _ _⟩
  case round =>
    obtain ⟨k, hk, rfl, rfl, hbel'⟩ := hrel
    have hbel := unhide hbel'
    have hsz := hbel.size
    have hH : wr.cell? ⟨wh.heap.size, 1, none⟩ = some (.slice none 0 0) := by
      rw [hbel.cell (p := ⟨wh.heap.size, 1, none⟩) (by simp)]
      simp [World.cell?_alloc_at]
    have GR : Hid (GT wr) := ((unhide HH).later ((Below.refl _ _).alloc (Nat.le_refl _) _)).below (by have := (unhide HH).six; omega) hbel
    by_cases hlt : k < len
    · obtain ⟨c0, c1, c2, c3, c4⟩ := step_cells (unhide HQ k hlt)
      obtain ⟨z1, z2⟩ := unhide HZ k hlt
      have keep : ∀ o, wr.cell? ⟨b, o, none⟩ = w.cell? ⟨b, o, none⟩ := fun o => by
        rw [hbel.cell (p := ⟨b, o, none⟩) (by simp; omega), World.cell?_alloc_lt _ _ _ hbw]
        exact unhide keepH o
      rw [← keep] at c0 c1 c2 c3 c4
      clear keep hbel
      generalize (q k).k = xk at c0
      generalize (q k).n = xn at c1
      generalize (q k).m = xm at c2
      generalize (q k).s = xs at c3 z1
      generalize (q k).t = xt at c4 z2
      by_cases h3 : xk = 2
      · subst h3
        have QP := hide (fun hv => plays_check hv xn xm xs xt wr (unhide GR) (Nat.le_trans z1 (by unfold maxLen; omega)) z2)
        go_wp2_with fail
        refine (unhide QP _).mono ?_
        rintro e w1 ⟨rfl, hb1⟩
        have hH1 : w1.cell? ⟨wh.heap.size, 1, none⟩ = some (.slice none 0 0) := by
          rw [hb1.cell (p := ⟨wh.heap.size, 1, none⟩) (by simp at hsz ⊢; omega)]
          exact hH
        have BN : Hid (Below (wh.heap.size + 1) (wh.alloc (.cells #[.int .i64 0, .slice none 0 0] 57)) w1) := (unhide hbel').trans (hb1.mono (by simp at hsz ⊢; omega))
        clear hb1
        simp only []
        go_wp2_with (go_at_call 29; refine (still_none _ _ hH1).mono ?_; rintro e w2 ⟨rfl, rfl⟩)
        go_roundw
        case rel => exact ⟨k + 1, by omega, by go_num, rfl, BN⟩
        case measure => simp [intOf]; omega
      · have h3' : (xk == 2) = false := by simpa using h3
        go_wp2
        go_roundw
        case rel => exact ⟨k + 1, by omega, by go_num, rfl, hbel'⟩
        case measure => simp [intOf]; omega
    · have BE : Hid (Below w.heap.size w wr) := (unhide BH).trans ((((Below.refl _ _).alloc (Nat.le_refl _) _).trans (hbel.mono (by omega))).mono (unhide BH).size)
      clear hbel
      go_wp2
      go_ret
      exact ⟨rfl, unhide BE⟩
set_option maxHeartbeats 1000000 in
theorem upTo_empty (ao : Option Addr) (cap : Nat) (w : World) (hg : GT w) :
    Calls Tryz.prog 15 #[.slice ao 0 cap, .int .i64 2] w fun e w' => e = .returned (.int .i64 (-1)) ∧ Below w.heap.size w w' := by
  have HG := hide hg
  clear hg
  go_enter Tryz.func15, Tryz.ntmps15
  go_wp2_with fail
  refine (heads_check w (unhide HG)).mono ?_
  rintro e wh ⟨rfl, hbh⟩
  have BE : Hid (Below w.heap.size w (wh.alloc (.cells #[.int .i64 0, .slice none 0 0] 57))) := hbh.alloc hbh.size _
  clear hbh
  simp only []
  go_wp2
  go_loop [7] (fun i => i = .int .i64 0) (fun _ => 0)
  case atStart => rfl
  case round =>
    subst hrel
    go_wp2
    go_ret
    exact ⟨rfl, unhide BE⟩
/-- what the law is told of its script -/
def IsScript (w : World) (a : Option Addr) (len : Nat) (q : Nat → Stp) : Prop :=
  len = 0 ∨ ∃ b off, a = some ⟨b, off, none⟩ ∧ len ≤ maxLen ∧ b < w.heap.size ∧ (∀ i, i < len → StepAt w ⟨b, off, none⟩ i (q i)) ∧ ∀ i, i < len → (q i).s.size ≤ 1048576 ∧ (q i).t.size ≤ 1048576
theorem upTo_any (a : Option Addr) (len cap : Nat) (q : Nat → Stp) (w : World) (hg : GT w) (h : IsScript w a len q) :
    Calls Tryz.prog 15 #[.slice a len cap, .int .i64 2] w fun e w' => e = .returned (.int .i64 (-1)) ∧ Below w.heap.size w w' := by
  rcases h with rfl | ⟨b, off, rfl, hl, hb, hq, hz⟩
  · exact upTo_empty a cap w hg
  · exact upTo_check b off len cap q w hg hl hq hz hb
set_option maxHeartbeats 400000 in
theorem checks_any (a : Option Addr) (len cap : Nat) (q : Nat → Stp) (w : World) (hg : GT w) (h : IsScript w a len q) :
    Calls Tryz.prog 4 #[.slice a len cap] w fun e w' => e = .returned (.bool true) ∧ Below w.heap.size w w' := by
  have H := hide h
  have HG := hide hg
  clear h hg
  go_enter Tryz.func4, Tryz.ntmps4
  go_wp2_with (go_at_call 15; refine (upTo_any a len cap q _ (unhide HG) (unhide H)).mono ?_; rintro e w' ⟨rfl, hb⟩)
  go_ret
  exact ⟨rfl, hb⟩
end Ck
end Go.Proofs.YtceahffmenbibaaGreatDoor
