/- Walks of the program's functions that take a text apart. -/
import Derived.Test.YtceahffmenbibaaGreatDoorRprog1
import Derived.Test.YtceahffmenbibaaGreatDoorShelf
namespace Go.Proofs.YtceahffmenbibaaGreatDoor
namespace Rd
open Go Go.RowKit Go.Proofs
set_option linter.unusedVariables false
set_option linter.unusedSimpArgs false

theorem strip_eq (t : Bs) : Lib.trimPrefix t [45] = strip t := by
  unfold Lib.trimPrefix Lib.hasPrefix strip
  cases t with
  | nil => simp
  | cons c r =>
    by_cases h : c = 45
    · subst h; simp [List.isPrefixOf]
    · have h' : ¬ (45 : UInt8) = c := fun e => h e.symm
      simp [List.isPrefixOf, h, h']
theorem strip_len (t : Bs) : (strip t).length ≤ t.length := by
  unfold strip; split <;> simp
theorem size_mk (l : Bs) : (⟨l.toArray⟩ : ByteArray).size = l.length := by simp [ByteArray.size]

/-- a text of these bytes -/
theorem trimMinus (t : ByteArray) (w : World) :
    Calls Tryz.prog 113 #[.string t, .string ⟨#[45]⟩] w fun e w' => ∃ x : ByteArray, e = .returned (.string x) ∧ Hid (x.data.toList = strip t.data.toList) ∧ w' = w := by
  refine (Tryz.strings_TrimPrefix t _ _).mono ?_
  rintro e w' ⟨rfl, rfl⟩
  exact ⟨_, rfl, strip_eq _, rfl⟩
theorem len_of {x : ByteArray} {l : Bs} (h : x.data.toList = l) : x.size = l.length := by rw [← h]; simp
theorem toList_of {x : ByteArray} {l : Bs} (h : x.data.toList = l) : x.toList = l := by rw [ByteArray.toList_eq, h]

set_option maxHeartbeats 400000 in
theorem isLiteral_any (t v : ByteArray) (w : World) (ht : t.size ≤ maxLen) (hv : v.size ≤ maxLen) :
    Calls Tryz.prog 72 #[.string t, .string v] w fun e w' => e = .returned (.bool (litB v.data.toList t.data.toList)) ∧ w' = w := by
  go_enter Tryz.func72, Tryz.ntmps72
  go_wp2_with fail
  refine (trimMinus t _).mono ?_
  rintro e w' ⟨x, rfl, hx, rfl⟩
  have hz : x.size ≤ maxLen := by rw [len_of (unhide hx)]; have := strip_len t.data.toList; simp at this; omega
  have E0 : Hid (litB v.data.toList t.data.toList = (numB x.data.toList && !(x.data.toList == [48]) && !above x.data.toList v.data.toList)) := by
    unfold Hid litB; rw [unhide hx]
  clear hx
  by_cases c1 : numB x.data.toList = true
  · by_cases c2 : (!x.toList == [48]) = true
    · have E : Hid (litB v.data.toList t.data.toList = !above x.data.toList v.data.toList) := by
        unfold Hid; rw [unhide E0, c1]; rw [ByteArray.toList_eq] at c2; rw [c2]; simp
      clear E0
      have HC := hide c1; clear c1
      go_wp2_with fail
      refine (isNumber_any x _ hz).mono ?_
      rintro e w1 ⟨rfl, rfl⟩
      rw [unhide HC]
      go_wp2_with fail
      refine (isAbove_any x v _ hz hv).mono ?_
      rintro e w2 ⟨rfl, rfl⟩
      go_wp2
      go_ret
      exact ⟨ret_bool (by rw [unhide E]), rfl⟩
    · have c2' : (!x.toList == [48]) = false := by simpa using c2
      clear c2
      have E : Hid (litB v.data.toList t.data.toList = false) := by
        unfold Hid; rw [unhide E0, c1]; rw [ByteArray.toList_eq] at c2'; rw [c2']; simp
      clear E0
      have HC := hide c1; clear c1
      go_wp2_with fail
      refine (isNumber_any x _ hz).mono ?_
      rintro e w1 ⟨rfl, rfl⟩
      rw [unhide HC]
      go_wp2
      go_ret
      exact ⟨ret_bool (by rw [unhide E]), rfl⟩
  · have c1' : numB x.data.toList = false := by simpa using c1
    clear c1
    have E : Hid (litB v.data.toList t.data.toList = false) := by
      unfold Hid; rw [unhide E0, c1']; simp
    clear E0
    have HC := hide c1'; clear c1'
    go_wp2_with fail
    refine (isNumber_any x _ hz).mono ?_
    rintro e w1 ⟨rfl, rfl⟩
    rw [unhide HC]
    go_wp2
    go_ret
    exact ⟨ret_bool (by rw [unhide E]), rfl⟩

/-- the gaps, as a test on runes -/
def gapR (r : Nat) : Bool := r == 32 || r == 9 || r == 10
set_option maxHeartbeats 400000 in
theorem isGap_any (r : Nat) (w : World) :
    Calls Tryz.prog 64 #[.int .i32 r] w fun e w' => e = .returned (.bool (gapR r)) ∧ w' = w := by
  have e1 : ((r : Int) == 32) = (r == 32) := by rw [Bool.eq_iff_iff]; simp; omega
  have e2 : ((r : Int) == 9) = (r == 9) := by rw [Bool.eq_iff_iff]; simp; omega
  have e3 : ((r : Int) == 10) = (r == 10) := by rw [Bool.eq_iff_iff]; simp; omega
  cases c1 : (r == 32) <;> cases c2 : (r == 9) <;> cases c3 : (r == 10)
  all_goals
    rw [c1] at e1
    rw [c2] at e2
    rw [c3] at e3
    have E : Hid (gapR r = ((r == 32) || (r == 9) || (r == 10))) := rfl
    rw [c1, c2, c3] at E
    clear c1 c2 c3
    go_enter Tryz.func64, Tryz.ntmps64
    go_wp2
    go_ret
    exact ⟨ret_bool (by rw [unhide E]; rfl), rfl⟩

/-! ### lines -/
theorem index_ten : ∀ (l : Bs), Lib.index l [10] = if ended l then ((line l).length : Int) else -1
  | [] => by simp [Lib.index, ended, line]
  | c :: r => by
    have ih := index_ten r
    by_cases h : c = 10
    · subst h; simp [Lib.index, ended, line, List.isPrefixOf]
    · have h' : ¬ (10 : UInt8) = c := fun e => h e.symm
      unfold Lib.index
      rw [show List.isPrefixOf [10] (c :: r) = false from by simp [List.isPrefixOf, h'], ih]
      have e1 : line (c :: r) = c :: line r := by simp [line, h]
      have e2 : ended (c :: r) = ended r := by simp [ended, e1]
      rw [e2, e1]
      cases ended r <;> simp
theorem cut_ten (l : Bs) : Lib.cut l [10] = if ended l then (line l, rest l, true) else (l, [], false) := by
  unfold Lib.cut
  rw [index_ten]
  cases h : ended l with
  | true =>
    have ht : l.take (line l).length = line l := by
      unfold line
      have := List.takeWhile_prefix (l := l) (p := fun c => !(c == 10))
      exact (List.prefix_iff_eq_take.1 this).symm
    simp [ht, rest]
  | false => simp

theorem cut_nl (s : ByteArray) (m : Int) (w : World) (hs : s.size ≤ 20000) (hm : w.cell? ⟨0, 0, none⟩ = some (.int .i64 m)) :
    Calls Tryz.prog 40 #[.string s, .string ⟨#[10]⟩] w fun e w' => ∃ x y : ByteArray, e = .returned (.tuple #[.string x, .string y, .bool (ended s.data.toList)]) ∧
      Hid (x.data.toList = if ended s.data.toList then line s.data.toList else s.data.toList) ∧ Hid (y.data.toList = if ended s.data.toList then rest s.data.toList else []) ∧ ∃ n, w' = w.drewN n := by
  refine (Tryz.strings_Cut s _ m _ (by omega) hm).mono ?_
  rintro e w' ⟨rfl, hn⟩
  rw [show Lib.cut s.data.toList (⟨#[10]⟩ : ByteArray).data.toList = _ from cut_ten _]
  cases ended s.data.toList
  · exact ⟨_, _, rfl, rfl, rfl, hn⟩
  · exact ⟨_, _, rfl, rfl, rfl, hn⟩

theorem line_len (l : Bs) : (line l).length ≤ l.length := by unfold line; exact (List.takeWhile_prefix _).length_le
theorem rest_len {l : Bs} (h : ended l = true) : (rest l).length < l.length := by
  simp [ended] at h
  simp [rest]; omega
theorem hasPrefix_c (l : Bs) : Lib.hasPrefix l [99] = (l.head? == some 99) := by
  unfold Lib.hasPrefix
  cases l with
  | nil => rfl
  | cons c r =>
    by_cases h : c = 99
    · subst h; simp [List.isPrefixOf]
    · have h1 : ((99 : UInt8) == c) = false := by simpa using fun e => h e.symm
      have h2 : (c == (99 : UInt8)) = false := by simpa using h
      simp [List.isPrefixOf, h1, h2]

/-- skipping comments, as the program goes -/
def skipF : Nat → Bs → Option Bs
  | 0, _ => none
  | f + 1, l => if Lib.hasPrefix l [99] then (if ended l && comment (line l) then skipF f (rest l) else none) else some l

def sizeOfStr : Value → Nat
  | .string x => x.size
  | _ => 0
def okCell (w : World) : Prop := ∃ m, w.cell? ⟨0, 0, none⟩ = some (.int .i64 m)
def skipRet (x : ByteArray) (o : Option Bs) : Prop := match o with | none => False | some l => x.data.toList = l

set_option maxHeartbeats 1000000 in
theorem skipComments_any (s : ByteArray) (m : Int) (w : World) (hs : s.size ≤ 20000) (hm : w.cell? ⟨0, 0, none⟩ = some (.int .i64 m)) :
    Calls Tryz.prog 60 #[.string s] w fun e w' => (∃ n, w' = w.drewN n) ∧ ∃ x : ByteArray,
      ((skipF (s.size + 1) s.data.toList = none ∧ e = .returned (.tuple #[.string x, .bool false])) ∨
       (skipF (s.size + 1) s.data.toList = some x.data.toList ∧ x.size ≤ 20000 ∧ e = .returned (.tuple #[.string x, .bool true]))) := by
  go_enter Tryz.func60, Tryz.ntmps60
  go_wp2
  go_loopw [0, 4, 5, 6] (fun t _ _ _ wr => ∃ (x : ByteArray) (f n : Nat), t = .string x ∧ x.size < f ∧ x.size ≤ 20000 ∧ wr = w.drewN n ∧ Hid (skipF f x.data.toList = skipF (s.size + 1) s.data.toList)) (fun t _ _ _ _ => sizeOfStr t)
  case atStart => exact ⟨s, s.size + 1, 0, rfl, by omega, hs, rfl, rfl⟩
  case round =>
    obtain ⟨x, f, n, rfl, hf, hx, rfl, HF⟩ := hrel
    obtain ⟨g, rfl⟩ : ∃ g, f = g + 1 := ⟨f - 1, by omega⟩
    have hmn : (w.drewN n).cell? ⟨0, 0, none⟩ = some (.int .i64 m) := hm
    go_wp2_with fail
    refine (Tryz.strings_HasPrefix x _ _).mono ?_
    rintro e w' ⟨rfl, rfl⟩
    cases c0 : Lib.hasPrefix x.data.toList (⟨#[99]⟩ : ByteArray).data.toList with
    | false =>
      have E : Hid (skipF (g + 1) x.data.toList = some x.data.toList) := by unfold Hid skipF; rw [show Lib.hasPrefix x.data.toList [99] = false from c0]; rfl
      clear c0
      go_wp2
      go_ret2
      exact ⟨⟨n, rfl⟩, x, .inr ⟨(unhide HF).symm.trans (unhide E), hx, rfl⟩⟩
    | true =>
      have C0 := hide c0
      clear c0
      go_wp2_with fail
      refine (cut_nl x m _ hx hmn).mono ?_
      rintro e w1 ⟨y, z, rfl, hy, hz, n1, rfl⟩
      cases c1 : ended x.data.toList with
      | false =>
        have E : Hid (skipF (g + 1) x.data.toList = none) := by unfold Hid skipF; rw [show Lib.hasPrefix x.data.toList [99] = true from unhide C0, c1]; rfl
        clear c1 hy hz
        go_wp2
        go_ret2
        exact ⟨⟨_, rfl⟩, _, .inl ⟨(unhide HF).symm.trans (unhide E), rfl⟩⟩
      | true =>
        have hy' : Hid (y.data.toList = line x.data.toList) := by unfold Hid; rw [unhide hy, c1]; rfl
        have hz' : Hid (z.data.toList = rest x.data.toList) := by unfold Hid; rw [unhide hz, c1]; rfl
        have hzs : z.size < x.size := by rw [len_of (unhide hz')]; have := rest_len c1; simp at this; exact this
        have E0 : Hid (skipF (g + 1) x.data.toList = if comment y.data.toList then skipF g z.data.toList else none) := by
          unfold Hid; rw [unhide hy', unhide hz', skipF]; rw [show Lib.hasPrefix x.data.toList [99] = true from unhide C0, c1]; simp
        clear hy hz c1 hy' hz'
        by_cases c2 : (!y.toList == [99]) = true
        · cases c3 : Lib.hasPrefix y.data.toList (⟨#[99, 32]⟩ : ByteArray).data.toList with
          | false =>
            have E : Hid (skipF (g + 1) x.data.toList = none) := by
              unfold Hid; rw [unhide E0]; unfold comment
              rw [show Lib.hasPrefix y.data.toList [99, 32] = false from c3, ← ByteArray.toList_eq]
              simp at c2; simp [c2]
            have C3 := hide c3
            clear c3
            go_wp2_with fail
            refine (Tryz.strings_HasPrefix y _ _).mono ?_
            rintro e w2 ⟨rfl, rfl⟩
            rw [unhide C3]
            go_wp2
            go_ret2
            exact ⟨⟨_, rfl⟩, _, .inl ⟨(unhide HF).symm.trans (unhide E), rfl⟩⟩
          | true =>
            have E : Hid (skipF (g + 1) x.data.toList = skipF g z.data.toList) := by
              unfold Hid; rw [unhide E0]; unfold comment
              rw [show Lib.hasPrefix y.data.toList [99, 32] = true from c3]; simp
            have C3 := hide c3
            clear c3
            go_wp2_with fail
            refine (Tryz.strings_HasPrefix y _ _).mono ?_
            rintro e w2 ⟨rfl, rfl⟩
            rw [unhide C3]
            go_wp2
            go_roundw
            case rel => exact ⟨z, g, n + n1, rfl, by omega, by omega, rfl, (unhide E).symm.trans (unhide HF)⟩
            case measure => simpa [sizeOfStr] using hzs
        · have c2' : (!y.toList == [99]) = false := by simpa using c2
          clear c2
          have E : Hid (skipF (g + 1) x.data.toList = skipF g z.data.toList) := by
            unfold Hid; rw [unhide E0]; unfold comment
            rw [← ByteArray.toList_eq]
            simp at c2'; simp [c2']
          go_wp2
          go_roundw
          case rel => exact ⟨z, g, n + n1, rfl, by omega, by omega, rfl, (unhide E).symm.trans (unhide HF)⟩
          case measure => simpa [sizeOfStr] using hzs
end Rd
end Go.Proofs.YtceahffmenbibaaGreatDoor
