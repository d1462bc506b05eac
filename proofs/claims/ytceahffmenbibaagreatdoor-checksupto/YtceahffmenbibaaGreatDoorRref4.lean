/- Walk of the document's digits. -/
import Derived.Test.YtceahffmenbibaaGreatDoorRref3
namespace Go.Proofs.YtceahffmenbibaaGreatDoor
namespace Rd
open Go Go.RowKit
set_option linter.unusedVariables false
set_option linter.unusedSimpArgs false

def ahead (m : Nat) : Bs := if m < 10 then [] else Lib.decDigits (m / 10)
theorem decDigits_split (m : Nat) : Lib.decDigits m = ahead m ++ [UInt8.ofNat (48 + m % 10)] := by
  rw [Lib.decDigits]
  unfold ahead
  by_cases h : m < 10
  · rw [dif_pos h, if_pos h, Nat.mod_eq_of_lt h]; rfl
  · rw [dif_neg h, if_neg h]

/-- the byte of a number -/
def dig (z : Int) : UInt8 := UInt8.ofNat z.toNat
theorem size_dig (z : Int) (x : ByteArray) : ((⟨#[dig z]⟩ : ByteArray) ++ x).size = x.size + 1 := by
  rw [ByteArray.size_append]; show 1 + x.size = _; omega
theorem conv1 (W : World) (z : Int) (h0 : 0 ≤ z) (h1 : z ≤ 255) :
    (convert 107 9 (.slice (some ⟨W.heap.size, 0, none⟩) 1 1)).run Tryz.prog (W.alloc (.cells #[.int .u8 z] 5)) = .ok (.string ⟨#[dig z]⟩) (W.alloc (.cells #[.int .u8 z] 5)) := by
  refine run_convert_bytes_back (l := [dig z]) _ _ _ 5 _ _ Tryz.underlying107 Tryz.underlying5 Tryz.underlying9 ?_
  intro j hj
  match j, hj with
  | 0, _ =>
    have : ((dig z).toNat : Int) = z := by unfold dig; simp; omega
    simp [Addr.add, this]

theorem ofNat_eq (m : Nat) : dig (48 + (m : Int) % 10) = UInt8.ofNat (48 + m % 10) := by
  unfold dig
  congr 1

set_option maxHeartbeats 1000000 in
set_option maxRecDepth 100000 in
theorem digits_any (n : Nat) (w : World) (hn : n ≤ 20000) :
    Calls Tryz.prog 84 #[.int .i64 n] w fun e w' => ∃ x : ByteArray, e = .returned (.string x) ∧ Hid (x.data.toList = Lib.decDigits n) ∧ Below w.heap.size w w' := by
  have hm : 0 ≤ (n : Int) % 10 := by omega
  have hm' : (n : Int) % 10 ≤ 9 := by omega
  have cv := fun W => conv1 W (48 + (n : Int) % 10) (by omega) (by omega)
  go_enter Tryz.func84, Tryz.ntmps84
  go_wp2
  go_loopw [0, 3] (fun t s wr => ∃ (m : Nat) (x : ByteArray), t = .int .i64 m ∧ m ≤ 20000 ∧ s = .string x ∧ Hid (Lib.decDigits n = ahead m ++ x.data.toList) ∧ x.size + m ≤ 20001 ∧ Hid (Below w.heap.size w wr)) (fun t _ _ => (intOf t).toNat)
  case atStart => exact ⟨n, _, rfl, hn, rfl, by unfold Hid; rw [decDigits_split, ofNat_eq], by show 1 + n ≤ 20001; omega, (Below.refl _ _).alloc (Nat.le_refl _) _⟩
  case round =>
    clear cv hm hm'
    obtain ⟨m, x, rfl, hm20, rfl, HD, hsz, HB⟩ := hrel
    by_cases h10 : m < 10
    · have E : Hid (x.data.toList = Lib.decDigits n) := by unfold Hid; rw [unhide HD, ahead, if_pos h10]; rfl
      go_wp2
      go_ret
      exact ⟨x, rfl, E, unhide HB⟩
    · have cv := fun W => conv1 W (48 + (m : Int) / 10 % 10) (by omega) (by omega)
      have hq0 : 0 ≤ (m : Int) / 10 % 10 := by omega
      have hq1 : (m : Int) / 10 % 10 ≤ 9 := by omega
      have sb := (unhide HB).size
      have E : Hid (Lib.decDigits n = ahead (m / 10) ++ ((⟨#[dig (48 + (m : Int) / 10 % 10)]⟩ : ByteArray) ++ x).data.toList) := by
        unfold Hid
        rw [unhide HD, append_list]
        conv => lhs; rw [ahead, if_neg h10, decDigits_split (m / 10)]
        rw [show (48 + (m : Int) / 10 % 10) = 48 + ((m / 10 : Nat) : Int) % 10 from by omega, ofNat_eq]
        simp
      go_wp2
      go_roundw
      case rel => exact ⟨m / 10, _, by go_num, by omega, rfl, E, by rw [size_dig]; omega, (unhide HB).alloc sb _⟩
      case measure => simp [intOf]; omega
end Rd
end Go.Proofs.YtceahffmenbibaaGreatDoor
