/- The walk of parse. -/
import Derived.Test.YtceahffmenbibaaGreatDoorRcount
import Derived.Test.YtceahffmenbibaaGreatDoorRtok
import Derived.Test.YtceahffmenbibaaGreatDoorRows
import Derived.WalkSmall
import Derived.Lib.LaidTab
import Derived.Lib.SmallJoins
import Derived.Shelf.SlSorted.Search
namespace Go.Proofs.YtceahffmenbibaaGreatDoor
namespace Rd
open Go Go.RowKit Go.Proofs
set_option linter.unusedVariables false
set_option linter.unusedSimpArgs false

/-- the name of the table of powers of ten, as the row has it -/
def pw : String := Rows.lubysRow.named.getD 1 ""
theorem pw_global : Tryz.prog.globalNamed pw = some 1 := by kernel_rfl
/-- WHAT THE LIBRARY READS OF ITS VARIABLES -/
def Glob (w : World) : Prop := (∃ m, w.cell? ⟨0, 0, none⟩ = some (.int .i64 m)) ∧ Lib.TabIs Tryz.prog w pw .u64 Lib.pow10Tab ∧ 4 ≤ w.heap.size
theorem Glob.below {B : Nat} {w w' : World} (hB : 4 ≤ B) (h : Below B w w') (hg : Glob w) : Glob w' := by
  obtain ⟨⟨m, hm⟩, ht, hs⟩ := hg
  have := h.size
  refine ⟨⟨m, ?_⟩, var?_below h pw_global (by omega) ht, by omega⟩
  rw [h.cell (p := ⟨0, 0, none⟩) (by show (0 : Nat) < B; omega)]; exact hm
theorem Glob.later {w w' : World} (h : Below w.heap.size w w') (hg : Glob w) : Glob w' := Glob.below hg.2.2 h hg

theorem itoa_any (n : Nat) (hn : n ≤ 20000) (w : World) (hg : Glob w) :
    Calls Tryz.prog 36 #[.int .i64 n] w fun e w' => ∃ x : ByteArray, e = .returned (.string x) ∧ Hid (x.data.toList = Lib.decDigits n) ∧ Below w.heap.size w w' := by
  refine (Any.strconv_Itoa Tryz.laysM171 n (by omega) (by omega) w hg.2.1).mono ?_
  rintro e w' ⟨rfl, k, os, rfl⟩
  refine ⟨_, rfl, ?_, below_grown_sl _ _ _ _ (Nat.le_refl _)⟩
  unfold Hid Lib.itoa
  rw [if_neg (by omega)]
  simp

theorem gap_pred (w : World) : PredAt Tryz.prog 64 #[] encR gapRune w := fun W r _ => by
  refine (isGap_any r W).mono ?_
  rintro e w' ⟨rfl, rfl⟩
  exact ⟨rfl, 0, rfl⟩

theorem fields_any (s : ByteArray) (w : World) (hs : s.size ≤ 20000) :
    Calls Tryz.prog 63 #[.string s, .func (.func 64) #[] #[]] w fun e w' => ∃ (A : Nat) (T : List ByteArray), e = .returned (.slice (some ⟨A, 0, none⟩) T.length T.length) ∧
      Hid (bss T = toks s.data.toList) ∧ w.heap.size ≤ A ∧ A < w'.heap.size ∧ Hid (∀ j (h : j < T.length), w'.cell? ⟨A, j, none⟩ = some (.string T[j])) ∧ Below w.heap.size w w' ∧ T.length ≤ 20000 ∧ Hid (∀ x ∈ T, x.size ≤ 20000) := by
  refine (Tryz.strings_FieldsFunc 64 #[] (enters_of Tryz.func64 (by kernel_rfl) rfl) gapRune s w (by omega) (gap_pred w)).mono ?_
  rintro e w' ⟨A, rfl, hA, hown, hb⟩
  have ht := fields_toks s
  have hl := toks_len s.data.toList
  rw [← ht] at hl
  refine ⟨A, Lib.goFieldsP gapRune s, rfl, ht, hA, (hown.lt A rfl).2, fun j h => ?_, hb, ?_, fun x hx => ?_⟩
  · have := hown.cells (g := A) rfl j (.string (Lib.goFieldsP gapRune s)[j]) (by simp [h])
    simpa [Addr.add_lit] using this
  · have := hl.1; simp at this; omega
  · have := hl.2 x.data.toList (List.mem_map.2 ⟨x, hx, rfl⟩)
    simp at this; omega

/-- what parse finds -/
def parseB (s : Bs) : Option (Bs × List Bs) :=
  match (skipF (s.length + 1) s).bind cutP with
  | none => none
  | some (v, c, r) => if okAll v (toks r) && closedB (toks r) && Lib.decDigits (zeros (toks r)) == c then some (v, toks r) else none

/-- what parse answers -/
def ParseEnd (s : Bs) (w w' : World) (e : Ending) : Prop :=
  (parseB s = none ∧ e = .returned (.tuple #[.agg (prs ⟨#[]⟩ 0 0 none 0), .bool false])) ∨
  ∃ (v : ByteArray) (T : List ByteArray) (A : Nat), parseB s = some (v.data.toList, bss T) ∧ e = .returned (.tuple #[.agg (prs v (zeros (bss T)) (lits (bss T)) (some ⟨A, 0, none⟩) T.length), .bool true]) ∧
    w.heap.size ≤ A ∧ A < w'.heap.size ∧ (∀ j (h : j < T.length), w'.cell? ⟨A, j, none⟩ = some (.string T[j])) ∧ T.length ≤ 20000 ∧ (∀ x ∈ T, x.size ≤ 20000) ∧ v.size ≤ 20000

theorem parse_skip {s : Bs} (h : skipF (s.length + 1) s = none) : parseB s = none := by unfold parseB; rw [h]; rfl
theorem parse_cut {s x : Bs} (h : skipF (s.length + 1) s = some x) (h' : (cutP x).isSome = false) : parseB s = none := by
  have : cutP x = none := by simpa using h'
  unfold parseB; rw [h]; simp [this]
theorem parse_some {s x v c r : Bs} (h : skipF (s.length + 1) s = some x) (h' : (cutP x).isSome = true) (hp : ∀ o, cutP x = some o → o = (v, c, r)) :
    parseB s = if okAll v (toks r) && closedB (toks r) && Lib.decDigits (zeros (toks r)) == c then some (v, toks r) else none := by
  obtain ⟨o, ho⟩ := Option.isSome_iff_exists.1 h'
  have := hp o ho
  subst this
  unfold parseB; rw [h]; simp [ho]

theorem bel_drewN {B : Nat} {a w : World} (h : Below B a w) (n : Nat) : Below B a (w.drewN n) := h.trans ⟨rfl, rfl, rfl, Nat.le_refl _, fun _ _ => rfl⟩
theorem cell_set {w : World} {b i A j : Nat} {v : Value} (h : A ≠ b) : (w.setCell ⟨b, i, none⟩ v).cell? ⟨A, j, none⟩ = w.cell? ⟨A, j, none⟩ :=
  World.cell?_of_block (Below.heap_setCell _ _ _ _ h)
theorem size_len (s : ByteArray) : s.data.toList.length = s.size := by simp
theorem below4 {w w' : World} (h : Below w.heap.size w w') (v0 v1 v2 v3 : Value) :
    Below w.heap.size w ((((w'.setCell ⟨w.heap.size, 0, none⟩ v0).setCell ⟨w.heap.size, 1, none⟩ v1).setCell ⟨w.heap.size, 2, none⟩ v2).setCell ⟨w.heap.size, 3, none⟩ v3) :=
  (((h.setCell (Nat.le_refl _) _).setCell (Nat.le_refl _) _).setCell (Nat.le_refl _) _).setCell (Nat.le_refl _) _

set_option maxHeartbeats 1000000 in
theorem parse_any (s : ByteArray) (w : World) (hs : s.size ≤ 20000) (hg : Glob w) :
    Calls Tryz.prog 34 #[.string s] w fun e w' => Below w.heap.size w w' ∧ ParseEnd s.data.toList w w' e := by
  have HG := hide hg
  obtain ⟨⟨m, hm⟩, _, h16⟩ := hg
  have hm1 : ∀ o, (w.alloc o).cell? ⟨0, 0, none⟩ = some (.int .i64 m) := fun o => by rw [World.cell?_alloc_lt _ _ _ (by show (0 : Nat) < w.heap.size; omega)]; exact hm
  clear hm
  go_enter Tryz.func34, Tryz.ntmps34
  go_wp2_with fail
  refine (skipComments_any s m _ hs (hm1 _)).mono ?_
  rintro e w1 ⟨⟨n1, rfl⟩, x, ⟨hk, rfl⟩ | ⟨hk, hx, rfl⟩⟩
  · have HP : Hid (parseB s.data.toList = none) := parse_skip (by rw [size_len]; exact hk)
    clear hk hm1
    go_wp2
    exact bodyPost_ret (v := .tuple #[.agg (prs ⟨#[]⟩ 0 0 none 0), .bool false]) (by simp [results, Tryz.results34, go_sem]) rfl ⟨below4 (bel_drewN ((Below.refl _ _).alloc (Nat.le_refl _) _) _) _ _ _ _, .inl ⟨unhide HP, rfl⟩⟩
  · go_wp2_with fail
    refine (cutProblem_any x m _ hx (by exact hm1 _)).mono ?_
    rintro e w2 ⟨⟨n2, rfl⟩, a, b, z, rfl, hp, ha, hb, hz⟩
    cases c1 : (cutP x.data.toList).isSome with
    | false =>
      have HP : Hid (parseB s.data.toList = none) := parse_cut (by rw [size_len]; exact hk) c1
      clear hk hm1 hp c1
      go_wp2
      exact bodyPost_ret (v := .tuple #[.agg (prs ⟨#[]⟩ 0 0 none 0), .bool false]) (by simp [results, Tryz.results34, go_sem]) rfl ⟨below4 (bel_drewN ((Below.refl _ _).alloc (Nat.le_refl _) _) _) _ _ _ _, .inl ⟨unhide HP, rfl⟩⟩
    | true =>
      have HP := hide (parse_some (s := s.data.toList) (by rw [size_len]; exact hk) c1 hp)
      clear hk hm1 hp c1
      go_wp2_with fail
      refine (fields_any z _ hz).mono ?_
      rintro e w3 ⟨A, T, rfl, hT, hA, hA', hcell, hb3, hn, hsz⟩
      rw [← unhide hT] at HP
      clear hT
      have b3 : Hid (Below w.heap.size w w3) := (bel_drewN ((Below.refl _ _).alloc (Nat.le_refl _) _) _).trans (hb3.mono (by simp))
      have s3 := hb3.size
      simp at s3 hA
      have kept : ∀ j, w3.cell? ⟨w.heap.size, j, none⟩ = (#[Value.string ⟨#[]⟩, .int .i64 0, .int .i64 0, .slice none 0 0] : Array Value)[j]? := fun j => by
        rw [hb3.cell (p := ⟨w.heap.size, j, none⟩) (by simp)]
        exact World.cell?_alloc_at _ _ _ _ rfl
      have froz : ∀ j, w3.frozen? ⟨w.heap.size, j, none⟩ = false := fun j => by
        rw [hb3.frozen (p := ⟨w.heap.size, j, none⟩) (by simp)]
        simp [go_sem]
      clear hb3
      go_wp2_with fail
      refine (countTokens_any T a A _ hn (unhide hsz) ha hA' (unhide hcell)).mono ?_
      rintro e w4 ⟨hb4, hend⟩
      have b4 : Hid (Below w.heap.size w w4) := (unhide b3).trans (hb4.mono (by omega))
      have s4 := hb4.size
      have q0 : w4.cell? ⟨w.heap.size, 0, none⟩ = some (.string ⟨#[]⟩) := (hb4.cell (p := ⟨w.heap.size, 0, none⟩) (by show w.heap.size < _; omega)).trans (kept 0)
      have q1 : w4.cell? ⟨w.heap.size, 1, none⟩ = some (.int .i64 0) := (hb4.cell (p := ⟨w.heap.size, 1, none⟩) (by show w.heap.size < _; omega)).trans (kept 1)
      have q2 : w4.cell? ⟨w.heap.size, 2, none⟩ = some (.int .i64 0) := (hb4.cell (p := ⟨w.heap.size, 2, none⟩) (by show w.heap.size < _; omega)).trans (kept 2)
      have q3 : w4.cell? ⟨w.heap.size, 3, none⟩ = some (.slice none 0 0) := (hb4.cell (p := ⟨w.heap.size, 3, none⟩) (by show w.heap.size < _; omega)).trans (kept 3)
      have f4 : ∀ j, w4.frozen? ⟨w.heap.size, j, none⟩ = false := fun j => (hb4.frozen (p := ⟨w.heap.size, j, none⟩) (by show w.heap.size < _; omega)).trans (froz j)
      have HC4 : Hid (∀ j (h : j < T.length), w4.cell? ⟨A, j, none⟩ = some (.string T[j])) := fun j h => (hb4.cell (p := ⟨A, j, none⟩) hA').trans (unhide hcell j h)
      have hlt : w.heap.size < w4.heap.size := by omega
      clear kept froz hb4 hcell b3
      rcases hend with ⟨hok, rfl⟩ | ⟨hok, rfl⟩
      · cases c2 : closedB (bss T) with
        | false =>
          have HN : Hid (parseB s.data.toList = none) := by unfold Hid; rw [unhide HP, hok, c2]; rfl
          clear HP hok c2
          go_wp2
          exact bodyPost_ret (v := .tuple #[.agg (prs ⟨#[]⟩ 0 0 none 0), .bool false]) (by simp [results, Tryz.results34, go_sem, q0, q1, q2, q3, hlt]) rfl ⟨(below4 (unhide b4) _ _ _ _).alloc (by simp; omega) _, .inl ⟨unhide HN, rfl⟩⟩
        | true =>
          have HP2 : Hid (parseB s.data.toList = if Lib.decDigits (zeros (bss T)) == b.data.toList then some (a.data.toList, bss T) else none) := by unfold Hid; rw [unhide HP, hok, c2]; rfl
          clear HP hok c2
          have zl := zeros_le (bss T)
          have zl' : (bss T).length = T.length := by simp [bss]
          go_wp2_with fail
          refine (itoa_any (zeros (bss T)) (by omega) _ ((Glob.later (unhide b4) (unhide HG)).later ((Below.refl _ _).alloc (Nat.le_refl _) _))).mono ?_
          rintro e w5 ⟨y, rfl, hy, hb5⟩
          have b5 : Hid (Below w.heap.size w w5) := (unhide b4).trans (((Below.refl _ _).alloc (by omega) _).trans (hb5.mono (by simp; omega)))
          have s5 := hb5.size
          simp at s5
          have r0 : w5.cell? ⟨w.heap.size, 0, none⟩ = some (.string ⟨#[]⟩) := (hb5.cell (p := ⟨w.heap.size, 0, none⟩) (by simp; omega)).trans ((World.cell?_alloc_lt _ _ _ (by exact hlt)).trans q0)
          have r1 : w5.cell? ⟨w.heap.size, 1, none⟩ = some (.int .i64 0) := (hb5.cell (p := ⟨w.heap.size, 1, none⟩) (by simp; omega)).trans ((World.cell?_alloc_lt _ _ _ (by exact hlt)).trans q1)
          have r2 : w5.cell? ⟨w.heap.size, 2, none⟩ = some (.int .i64 0) := (hb5.cell (p := ⟨w.heap.size, 2, none⟩) (by simp; omega)).trans ((World.cell?_alloc_lt _ _ _ (by exact hlt)).trans q2)
          have r3 : w5.cell? ⟨w.heap.size, 3, none⟩ = some (.slice none 0 0) := (hb5.cell (p := ⟨w.heap.size, 3, none⟩) (by simp; omega)).trans ((World.cell?_alloc_lt _ _ _ (by exact hlt)).trans q3)
          have f5 : ∀ j, w5.frozen? ⟨w.heap.size, j, none⟩ = false := fun j => (hb5.frozen (p := ⟨w.heap.size, j, none⟩) (by simp; omega)).trans (by simp [go_sem, hlt, f4])
          have t0 : w5.cell? ⟨w4.heap.size, 0, none⟩ = some (.string a) := (hb5.cell (p := ⟨w4.heap.size, 0, none⟩) (by simp)).trans (World.cell?_alloc_at _ _ _ _ rfl)
          have t1 : w5.cell? ⟨w4.heap.size, 1, none⟩ = some (.int .i64 (zeros (bss T))) := (hb5.cell (p := ⟨w4.heap.size, 1, none⟩) (by simp)).trans (World.cell?_alloc_at _ _ _ _ rfl)
          have t2 : w5.cell? ⟨w4.heap.size, 2, none⟩ = some (.int .i64 (lits (bss T))) := (hb5.cell (p := ⟨w4.heap.size, 2, none⟩) (by simp)).trans (World.cell?_alloc_at _ _ _ _ rfl)
          have t3 : w5.cell? ⟨w4.heap.size, 3, none⟩ = some (.slice (some ⟨A, 0, none⟩) T.length T.length) := (hb5.cell (p := ⟨w4.heap.size, 3, none⟩) (by simp)).trans (World.cell?_alloc_at _ _ _ _ rfl)
          have HC5 : Hid (∀ j (h : j < T.length), w5.cell? ⟨A, j, none⟩ = some (.string T[j])) := fun j h => (hb5.cell (p := ⟨A, j, none⟩) (by simp; omega)).trans ((World.cell?_alloc_lt _ _ _ (by show A < _; omega)).trans (unhide HC4 j h))
          clear hb5 q0 q1 q2 q3 f4 HC4
          cases c3 : (!y.toList == b.toList) with
          | true =>
            have HN : Hid (parseB s.data.toList = none) := by
              unfold Hid; rw [unhide HP2, ← unhide hy]
              rw [ByteArray.toList_eq, ByteArray.toList_eq] at c3
              simp at c3
              simp [c3]
            clear HP2
            go_wp2
            exact bodyPost_ret (v := .tuple #[.agg (prs ⟨#[]⟩ 0 0 none 0), .bool false]) (by simp [results, Tryz.results34, go_sem, r0, r1, r2, r3]) rfl ⟨below4 (unhide b5) _ _ _ _, .inl ⟨unhide HN, rfl⟩⟩
          | false =>
            have HN : Hid (parseB s.data.toList = some (a.data.toList, bss T)) := by
              unfold Hid; rw [unhide HP2, ← unhide hy]
              rw [ByteArray.toList_eq, ByteArray.toList_eq] at c3
              simp at c3
              simp [c3]
            clear HP2
            go_wp2
            refine bodyPost_ret (v := .tuple #[.agg (prs a (zeros (bss T)) (lits (bss T)) (some ⟨A, 0, none⟩) T.length), .bool true]) (by simp [results, Tryz.results34, go_sem, r0, r1, r2, r3]) rfl ⟨below4 (unhide b5) _ _ _ _, .inr ⟨a, T, A, unhide HN, rfl, by omega, by simp; omega, fun j h => ?_, hn, unhide hsz, ha⟩⟩
            rw [cell_set (by omega), cell_set (by omega), cell_set (by omega), cell_set (by omega)]
            exact unhide HC5 j h
      · have HN : Hid (parseB s.data.toList = none) := by unfold Hid; rw [unhide HP, hok]; rfl
        clear HP hok
        go_wp2
        exact bodyPost_ret (v := .tuple #[.agg (prs ⟨#[]⟩ 0 0 none 0), .bool false]) (by simp [results, Tryz.results34, go_sem, q0, q1, q2, q3, hlt]) rfl ⟨(below4 (unhide b4) _ _ _ _).alloc (by simp; omega) _, .inl ⟨unhide HN, rfl⟩⟩
end Rd
end Go.Proofs.YtceahffmenbibaaGreatDoor
