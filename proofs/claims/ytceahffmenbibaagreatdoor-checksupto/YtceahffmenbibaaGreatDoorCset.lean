/- Walks of the program's sets of literals. -/
import Derived.Test.YtceahffmenbibaaGreatDoorCpop
import Derived.Test.YtceahffmenbibaaGreatDoorRnum
import Derived.Laws.Bits64b
namespace Go.Proofs.YtceahffmenbibaaGreatDoor
namespace Rd
open Go Go.RowKit
set_option linter.unusedVariables false
set_option linter.unusedSimpArgs false

def keyV (s : Key) : Value := .agg #[.int .u64 (s.1 : Int), .int .u64 (s.2 : Int)]
theorem below3 {B : Nat} {a w : World} (h : Below B a w) (hB : B ≤ w.heap.size) (o1 o2 o3 : Obj) : Below B a (((w.alloc o1).alloc o2).alloc o3) :=
  ((h.alloc hB o1).alloc (by simp; omega) o2).alloc (by simp; omega) o3
theorem below2 {B : Nat} {a w : World} (h : Below B a w) (hB : B ≤ w.heap.size) (o1 o2 : Obj) : Below B a ((w.alloc o1).alloc o2) :=
  (h.alloc hB o1).alloc (by simp; omega) o2
theorem bits_andNot_nat (a b : Nat) (ha : a < wide) (hb : b < wide) : bits .andNot .u64 (a : Int) (b : Int) = ((andNot a b : Nat) : Int) := by
  unfold wide at ha hb
  have h1 : (BitVec.ofInt 64 (a : Int)).toNat = a := by
    rw [BitVec.ofInt_natCast, BitVec.toNat_ofNat]; exact Nat.mod_eq_of_lt (by omega)
  have h2 : (BitVec.ofInt 64 (b : Int)).toNat = b := by
    rw [BitVec.ofInt_natCast, BitVec.toNat_ofNat]; exact Nat.mod_eq_of_lt (by omega)
  have e : (BitVec.ofInt 64 (a : Int) &&& ~~~ BitVec.ofInt 64 (b : Int)).toNat = andNot a b := by
    refine Nat.eq_of_testBit_eq fun i => ?_
    rw [testBit_andNot, BitVec.testBit_toNat, BitVec.getLsbD_and, BitVec.getLsbD_not, ← BitVec.testBit_toNat, ← BitVec.testBit_toNat, h1, h2]
    by_cases hi : i < 64
    · simp [hi]
    · have : a.testBit i = false := Nat.testBit_lt_two_pow (Nat.lt_of_lt_of_le (show a < 2 ^ 64 from ha) (Nat.pow_le_pow_right (n := 2) (by decide) (show 64 ≤ i by omega)))
      simp [this]
  show IntKind.u64.wrap ((BitVec.ofInt 64 (a : Int) &&& ~~~ BitVec.ofInt 64 (b : Int)).toNat : Int) = _
  have hl := andNot_lt (a := a) (b := b) ha
  unfold wide at hl
  rw [e, IntKind.wrap_u64]
  omega

theorem union_any (s t : Key) (w : World) (hs : s.ok) (ht : t.ok) :
    Calls Tryz.prog 75 #[keyV s, keyV t] w fun e w' => e = .returned (keyV (s.un t)) ∧ Below w.heap.size w w' := by
  unfold keyV Key.un
  rw [← bits_or_u64_nat s.1 t.1 hs.1 ht.1, ← bits_or_u64_nat s.2 t.2 hs.2 ht.2]
  go_enter Tryz.func75, Tryz.ntmps75
  go_wp2
  exact bodyPost_ret (v := .agg #[.int .u64 (bits .or .u64 s.1 t.1), .int .u64 (bits .or .u64 s.2 t.2)]) (by simp [results, Tryz.results75, go_sem]) rfl ⟨rfl, below3 (Below.refl _ _) (Nat.le_refl _) _ _ _⟩
theorem without_any (s t : Key) (w : World) (hs : s.ok) (ht : t.ok) :
    Calls Tryz.prog 114 #[keyV s, keyV t] w fun e w' => e = .returned (keyV (s.wo t)) ∧ Below w.heap.size w w' := by
  unfold keyV Key.wo
  rw [← bits_andNot_nat s.1 t.1 hs.1 ht.1, ← bits_andNot_nat s.2 t.2 hs.2 ht.2]
  go_enter Tryz.func114, Tryz.ntmps114
  go_wp2
  exact bodyPost_ret (v := .agg #[.int .u64 (bits .andNot .u64 s.1 t.1), .int .u64 (bits .andNot .u64 s.2 t.2)]) (by simp [results, Tryz.results114, go_sem]) rfl ⟨rfl, below3 (Below.refl _ _) (Nat.le_refl _) _ _ _⟩
theorem opposites_any (s : Key) (w : World) :
    Calls Tryz.prog 118 #[keyV s] w fun e w' => e = .returned (keyV s.op) ∧ Below w.heap.size w w' := by
  unfold keyV Key.op
  go_enter Tryz.func118, Tryz.ntmps118
  go_wp2
  exact bodyPost_ret (v := .agg #[.int .u64 (s.2 : Int), .int .u64 (s.1 : Int)]) (by simp [results, Tryz.results118, go_sem]) rfl ⟨rfl, below2 (Below.refl _ _) (Nat.le_refl _) _ _⟩
def emptyB (s : Key) : Bool := decide (s = (0, 0))
theorem emptyB_iff (s : Key) : (((s.1 ||| s.2 : Nat) : Int) == 0) = emptyB s := by
  unfold emptyB
  rw [Bool.eq_iff_iff]
  simp only [beq_iff_eq, decide_eq_true_eq]
  rw [← empty_iff]; omega
theorem isEmpty_any (s : Key) (w : World) (hs : s.ok) :
    Calls Tryz.prog 74 #[keyV s] w fun e w' => e = .returned (.bool (emptyB s)) ∧ Below w.heap.size w w' := by
  rw [← emptyB_iff, ← bits_or_u64_nat s.1 s.2 hs.1 hs.2]
  unfold keyV
  go_enter Tryz.func74, Tryz.ntmps74
  go_wp2
  go_ret
  exact ⟨rfl, (Below.refl _ _).alloc (Nat.le_refl _) _⟩
def meetB (s t : Key) : Bool := (s.1 &&& t.1) ||| (s.2 &&& t.2) != 0
theorem meetB_iff (s t : Key) : meetB s t = true ↔ ∃ l, s.has l = true ∧ t.has l = true := by
  rw [← meets_iff]; unfold meetB; simp
theorem meets_any (s t : Key) (w : World) (hs : s.ok) (ht : t.ok) :
    Calls Tryz.prog 168 #[keyV s, keyV t] w fun e w' => e = .returned (.bool (meetB s t)) ∧ Below w.heap.size w w' := by
  have e : meetB s t = (bits .or .u64 (bits .and .u64 s.1 t.1) (bits .and .u64 s.2 t.2) != 0) := by
    rw [bits_and_u64_nat s.1 t.1 hs.1 ht.1, bits_and_u64_nat s.2 t.2 hs.2 ht.2, bits_or_u64_nat _ _ (Nat.lt_of_le_of_lt Nat.and_le_left hs.1) (Nat.lt_of_le_of_lt Nat.and_le_left hs.2)]
    unfold meetB
    rw [Bool.eq_iff_iff]; simp only [bne_iff_ne, ne_eq]; omega
  rw [e]
  unfold keyV
  go_enter Tryz.func168, Tryz.ntmps168
  go_wp2
  go_ret
  exact ⟨rfl, below2 (Below.refl _ _) (Nat.le_refl _) _ _⟩
def clashB (s : Key) : Bool := s.1 &&& s.2 != 0
theorem clashB_iff (s : Key) : clashB s = true ↔ ∃ l, s.has l = true ∧ s.has (-l) = true := by
  rw [← clash_iff]; unfold clashB; simp
theorem clashes_any (s : Key) (w : World) (hs : s.ok) :
    Calls Tryz.prog 166 #[keyV s] w fun e w' => e = .returned (.bool (clashB s)) ∧ Below w.heap.size w w' := by
  have e : clashB s = (bits .and .u64 s.1 s.2 != 0) := by
    rw [bits_and_u64_nat s.1 s.2 hs.1 hs.2]
    unfold clashB
    rw [Bool.eq_iff_iff]; simp only [bne_iff_ne, ne_eq]; omega
  rw [e]
  unfold keyV
  go_enter Tryz.func166, Tryz.ntmps166
  go_wp2
  go_ret
  exact ⟨rfl, (Below.refl _ _).alloc (Nat.le_refl _) _⟩
end Rd
end Go.Proofs.YtceahffmenbibaaGreatDoor
