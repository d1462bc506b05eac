/- Walks of the small functions on texts: the document's own (number, above, value) and the program's (isNumber, isAbove). -/
import Derived.Test.YtceahffmenbibaaGreatDoorChecked
import Derived.Test.YtceahffmenbibaaGreatDoorRspec
import Derived.WalkKit
import Derived.WalkLawsBesides
import Derived.WalkSpells
import Derived.Below
namespace Go.Proofs.YtceahffmenbibaaGreatDoor
namespace Rd
open Go Go.RowKit
set_option linter.unusedVariables false
set_option linter.unusedSimpArgs false

theorem hide {p : Prop} (h : p) : Hid p := h
theorem unhide {p : Prop} (h : Hid p) : p := h.out
theorem ret_bool {a b : Bool} (h : a = b) : Ending.returned (.bool a) = .returned (.bool b) := by rw [h]
theorem ret_int {a b : Int} (h : a = b) : Ending.returned (.int .i64 a) = .returned (.int .i64 b) := by rw [h]
theorem take_snoc (s : ByteArray) (k : Nat) (h : k < s.size) : s.data.toList.take (k + 1) = s.data.toList.take k ++ [s[k]] := by
  rw [List.take_succ_eq_append_getElem (by simpa using h)]; rfl
theorem take_all (s : ByteArray) {k : Nat} (h : ¬ k < s.size) : s.data.toList.take k = s.data.toList := List.take_of_length_le (by simpa using h)

/-- so far all are digits -/
def digs (s : ByteArray) (k : Nat) : Prop := (s.data.toList.take k).all isDig = true
theorem digs_succ {s : ByteArray} {k : Nat} (h : digs s k) (hk : k < s.size) (h1 : 48 ≤ (s[k].toNat : Int)) (h2 : (s[k].toNat : Int) ≤ 57) : digs s (k + 1) := by
  unfold digs at *
  rw [take_snoc s k hk, List.all_append, h]
  simp [isDig]; omega
theorem not_digs {s : ByteArray} {k : Nat} (hk : k < s.size) (h : (s[k].toNat : Int) < 48 ∨ 57 < (s[k].toNat : Int)) : numB s.data.toList = false := by
  have hm : s[k] ∈ s.data.toList := by simp [ByteArray.getElem_eq_getElem_data]
  have : s.data.toList.all isDig = false := by
    rw [Bool.eq_false_iff]; intro ha
    have := List.all_eq_true.1 ha _ hm
    simp [isDig] at this; omega
  simp [numB, this]
theorem numB_one {s : ByteArray} (h : digs s s.size) (h1 : s.size = 1) : numB s.data.toList = true := by
  unfold digs at h
  rw [take_all s (by omega)] at h
  have : s.data.toList.length = 1 := by simpa using h1
  simp [numB, h, this]
theorem numB_none {s : ByteArray} (h1 : s.size = 0) : numB s.data.toList = false := by
  have : s.data.toList = [] := List.eq_nil_of_length_eq_zero (by simpa using h1)
  simp [numB, this]
theorem numB_many {s : ByteArray} (h : digs s s.size) (h1 : 1 < s.size) : numB s.data.toList = ((s[0].toNat : Int) != 48) := by
  unfold digs at h
  rw [take_all s (by omega)] at h
  have hl : s.data.toList.length = s.size := by simp
  have hh : s.data.toList.head? = some s[0] := by
    rw [List.head?_eq_getElem?, List.getElem?_eq_getElem (by omega)]; rfl
  have e : (s[0] == 48) = ((s[0].toNat : Int) == 48) := by
    rw [Bool.eq_iff_iff]; simp [← UInt8.toNat_inj]; omega
  have h2 : (s.size == 1) = false := by simp; omega
  rw [numB, h, hl, hh, h2]
  simp [h1, bne, e]

set_option maxHeartbeats 400000 in
theorem number_any (s : ByteArray) (w : World) (hs : s.size ≤ maxLen) :
    Calls Tryz.prog 81 #[.string s] w fun e w' => e = .returned (.bool (numB s.data.toList)) ∧ w' = w := by
  unfold maxLen at hs
  go_enter Tryz.func81, Tryz.ntmps81
  go_wp2
  go_loop [3] (fun i => ∃ k : Nat, k ≤ s.size ∧ i = .int .i64 k ∧ Hid (digs s k)) (fun i => s.size - (intOf i).toNat)
  case atStart => exact ⟨0, Nat.zero_le _, rfl, rfl⟩
  case round =>
    obtain ⟨k, hk, rfl, hd⟩ := hrel
    by_cases hlt : k < s.size
    · by_cases hc1 : (s[k].toNat : Int) < 48
      · go_wp2
        go_ret
        exact ⟨ret_bool (not_digs hlt (by omega)).symm, rfl⟩
      · by_cases hc2 : 57 < (s[k].toNat : Int)
        · go_wp2
          go_ret
          exact ⟨ret_bool (not_digs hlt (by omega)).symm, rfl⟩
        · go_wp2
          go_round
          case rel => exact ⟨k + 1, by omega, by go_num, digs_succ (unhide hd) hlt (by omega) (by omega)⟩
          case measure => simp [intOf]; omega
    · have e : k = s.size := by omega
      subst e
      by_cases h1 : s.size = 1
      · have E := hide (numB_one (unhide hd) h1)
        have hb : ((s.size : Int) == 1) = true := by simp; omega
        go_wp2
        go_ret
        exact ⟨ret_bool (by rw [unhide E]), rfl⟩
      · by_cases h0 : s.size = 0
        · have E := hide (numB_none h0)
          have hb : ((s.size : Int) == 1) = false := by simp; omega
          go_wp2
          go_ret
          exact ⟨ret_bool (by rw [unhide E]), rfl⟩
        · have E := hide (numB_many (unhide hd) (by omega))
          have hb : ((s.size : Int) == 1) = false := by simp; omega
          have h01 : 1 < s.size := by omega
          go_wp2
          go_ret
          exact ⟨ret_bool (by rw [unhide E]), rfl⟩

set_option maxHeartbeats 400000 in
theorem above_any (a b : ByteArray) (w : World) (ha : a.size ≤ maxLen) (hb : b.size ≤ maxLen) :
    Calls Tryz.prog 82 #[.string a, .string b] w fun e w' => e = .returned (.bool (above a.data.toList b.data.toList)) ∧ w' = w := by
  unfold maxLen at ha hb
  by_cases h : a.size = b.size
  · have hq : ((a.size : Int) != (b.size : Int)) = false := by simp [h]
    have E : Hid (above a.data.toList b.data.toList = (!Op.bytesLess a.toList b.toList && !(a.toList == b.toList))) := by
      unfold Hid above
      rw [if_pos (by simpa using h), ByteArray.toList_eq, ByteArray.toList_eq]
    clear h
    go_enter Tryz.func82, Tryz.ntmps82
    go_wp2
    go_ret
    exact ⟨ret_bool (by rw [unhide E]), rfl⟩
  · have hq : ((a.size : Int) != (b.size : Int)) = true := by simp; omega
    have E : Hid (above a.data.toList b.data.toList = decide (b.size < a.size)) := by
      unfold Hid above
      rw [if_neg (by simpa using h)]
      simp
    go_enter Tryz.func82, Tryz.ntmps82
    go_wp2
    go_ret
    exact ⟨ret_bool (by rw [unhide E]), rfl⟩

set_option maxHeartbeats 400000 in
theorem isAbove_any (a b : ByteArray) (w : World) (ha : a.size ≤ maxLen) (hb : b.size ≤ maxLen) :
    Calls Tryz.prog 35 #[.string a, .string b] w fun e w' => e = .returned (.bool (above a.data.toList b.data.toList)) ∧ w' = w := by
  unfold maxLen at ha hb
  by_cases h : a.size = b.size
  · have hq : ((a.size : Int) != (b.size : Int)) = false := by simp [h]
    have E : Hid (above a.data.toList b.data.toList = (!Op.bytesLess a.toList b.toList && !(a.toList == b.toList))) := by
      unfold Hid above
      rw [if_pos (by simpa using h), ByteArray.toList_eq, ByteArray.toList_eq]
    clear h
    go_enter Tryz.func35, Tryz.ntmps35
    go_wp2
    go_ret
    exact ⟨ret_bool (by rw [unhide E]), rfl⟩
  · have hq : ((a.size : Int) != (b.size : Int)) = true := by simp; omega
    have E : Hid (above a.data.toList b.data.toList = decide (b.size < a.size)) := by
      unfold Hid above
      rw [if_neg (by simpa using h)]
      simp
    go_enter Tryz.func35, Tryz.ntmps35
    go_wp2
    go_ret
    exact ⟨ret_bool (by rw [unhide E]), rfl⟩

theorem valTo_bd : ∀ (l : Bs), l.all isDig = true → ∀ n, l.length ≤ n → 0 ≤ valTo l ∧ valTo l < 10 ^ n := by
  intro l
  suffices h : ∀ (k : Nat) (l : Bs), l.length = k → l.all isDig = true → 0 ≤ valTo l ∧ valTo l < 10 ^ k by
    intro hl n hn
    have := h l.length l rfl hl
    have hp : (10 : Int) ^ l.length ≤ 10 ^ n := by
      have : 10 ^ l.length ≤ 10 ^ n := Nat.pow_le_pow_right (by omega) hn
      exact_mod_cast this
    omega
  intro k
  induction k with
  | zero => intro l h _; rw [List.eq_nil_of_length_eq_zero h]; simp [valTo]
  | succ k ih =>
    intro l h hl
    have hne : l ≠ [] := by intro h0; subst h0; simp at h
    rw [← List.dropLast_concat_getLast hne] at hl ⊢
    rw [List.all_append, Bool.and_eq_true] at hl
    have b := ih l.dropLast (by simp; omega) hl.1
    have hc := hl.2
    simp [isDig] at hc
    rw [valTo_snoc, Int.pow_succ]
    omega

set_option maxHeartbeats 400000 in
theorem value_any (s : ByteArray) (w : World) (hd : s.data.toList.all isDig = true) :
    Calls Tryz.prog 83 #[.string s] w fun e w' => e = .returned (.int .i64 (value9 s.data.toList)) ∧ w' = w := by
  have HD := hide hd; clear hd
  go_enter Tryz.func83, Tryz.ntmps83
  go_wp2
  go_loop [3, 4] (fun n i => ∃ k : Nat, k ≤ s.size ∧ k ≤ 9 ∧ i = .int .i64 k ∧ n = .int .i64 (valTo (s.data.toList.take k))) (fun _ i => s.size - (intOf i).toNat)
  case atStart => exact ⟨0, Nat.zero_le _, by omega, rfl, rfl⟩
  case round =>
    obtain ⟨k, hk, hk9, rfl, rfl⟩ := hrel
    have hb := valTo_bd (s.data.toList.take k) (List.all_eq_true.2 fun x hx => List.all_eq_true.1 (unhide HD) x (List.mem_of_mem_take hx)) 9 (by simp; omega)
    by_cases hlt : k < s.size
    · by_cases h9 : k < 9
      · have hts := take_snoc s k hlt
        have hsn := valTo_snoc (s.data.toList.take k) s[k]
        have HS : Hid (valTo (s.data.toList.take (k + 1)) = 10 * valTo (s.data.toList.take k) + ((s[k].toNat : Int) - 48)) := by rw [hts]; exact hsn
        clear hsn hts
        have hm : s[k] ∈ s.data.toList := by simp [ByteArray.getElem_eq_getElem_data]
        have hdg := List.all_eq_true.1 (unhide HD) _ hm
        simp [isDig] at hdg
        clear hm
        have hd1 : 48 ≤ (s[k].toNat : Int) := by omega
        have hd2 : (s[k].toNat : Int) ≤ 57 := by omega
        clear hdg
        go_wp2
        go_round
        case rel => exact ⟨k + 1, by omega, by omega, by go_num, by rw [unhide HS]⟩
        case measure => simp [intOf]; omega
      · have E : Hid (value9 s.data.toList = valTo (s.data.toList.take k)) := by
          have : k = 9 := by omega
          subst this; rfl
        go_wp2
        go_ret
        exact ⟨ret_int (unhide E).symm, rfl⟩
    · have E : Hid (value9 s.data.toList = valTo (s.data.toList.take k)) := by
        unfold Hid value9
        rw [take_all s hlt, List.take_of_length_le (by simp; omega)]
      go_wp2
      go_ret
      exact ⟨ret_int (unhide E).symm, rfl⟩
end Rd
end Go.Proofs.YtceahffmenbibaaGreatDoor
