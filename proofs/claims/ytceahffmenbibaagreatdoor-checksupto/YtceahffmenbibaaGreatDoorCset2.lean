/- Walks of the program's sets of literals: one, place, size, single. -/
import Derived.Test.YtceahffmenbibaaGreatDoorCset
import Derived.Shelf.Spec.TrailingZeros
import Derived.Deep.QuietTactic
import Derived.BigQuiet
namespace Go.Proofs.YtceahffmenbibaaGreatDoor
namespace Rd
open Go Go.RowKit
set_option linter.unusedVariables false
set_option linter.unusedSimpArgs false

theorem low_key {x : Nat} (h0 : x ≠ 0) (h : x < wide) : bits .and .u64 (x : Int) (IntKind.u64.wrap (-(x : Int))) = ((2 ^ Lib.ctz 64 x : Nat) : Int) := by
  have e1 : IntKind.u64.wrap (-(x : Int)) = ((18446744073709551616 - x : Nat) : Int) := by unfold wide at h; rw [IntKind.wrap_u64]; omega
  rw [e1, bits_and_u64_nat x _ h (by omega)]
  congr 1
  exact (Lib.lowest_bit 64 x h0 h).1
set_option maxHeartbeats 1000000 in
theorem one_lo (x c : Int) (w : World) (hx : (x == 0) = true) (y : Int) (k : bits .and .u64 y (IntKind.u64.wrap (-y)) = c) :
    Calls Tryz.prog 158 #[.agg #[.int .u64 x, .int .u64 y]] w fun e w' => e = .returned (.agg #[.int .u64 0, .int .u64 c]) ∧ Below w.heap.size w w' := by
  have hx' : (x != 0) = false := by simpa using hx
  clear hx
  go_enter Tryz.func158, Tryz.ntmps158
  go_wp2
  exact bodyPost_ret (v := .agg #[.int .u64 0, .int .u64 c]) (by simp [results, Tryz.results158, go_sem, k]) rfl ⟨rfl, below2 (Below.refl _ _) (Nat.le_refl _) _ _⟩
set_option maxHeartbeats 1000000 in
theorem one_hi (x c : Int) (w : World) (hx : (x != 0) = true) (y : Int) (k : bits .and .u64 x (IntKind.u64.wrap (-x)) = c) :
    Calls Tryz.prog 158 #[.agg #[.int .u64 x, .int .u64 y]] w fun e w' => e = .returned (.agg #[.int .u64 c, .int .u64 0]) ∧ Below w.heap.size w w' := by
  go_enter Tryz.func158, Tryz.ntmps158
  go_wp2
  exact bodyPost_ret (v := .agg #[.int .u64 c, .int .u64 0]) (by simp [results, Tryz.results158, go_sem, k]) rfl ⟨rfl, below2 (Below.refl _ _) (Nat.le_refl _) _ _⟩
theorem one_any (s : Key) (w : World) (hs : s.ok) (h0 : s ≠ (0, 0)) :
    Calls Tryz.prog 158 #[keyV s] w fun e w' => e = .returned (keyV s.one) ∧ Below w.heap.size w w' := by
  unfold Key.one
  by_cases h : s.1 = 0
  · have h2 : s.2 ≠ 0 := by
      intro e; apply h0; obtain ⟨a, b⟩ := s; simp only at h e; rw [h, e]
    rw [if_neg (by simpa using h)]
    exact one_lo _ _ w (by rw [h]; rfl) _ (low_key h2 hs.2)
  · rw [if_pos h]
    exact one_hi _ _ w (by simpa using h) _ (low_key h hs.1)
set_option maxHeartbeats 1000000 in
theorem tz_core (x k idx : Nat) (w : World) (hx0 : ((x : Int) == 0) = false)
    (key : IntKind.u64.wrap (bits BinOp.and IntKind.u64 (x : Int) (IntKind.u64.wrap (-(x : Int))) * 285870213051353865) / 288230376151711744 = (idx : Int))
    (hi : idx < 64) (hk : k < 64) (hcell : w.cell? ⟨5, idx, none⟩ = some (.int .u8 k)) :
    Calls Tryz.prog 228 #[.int .u64 x] w fun e w' => e = .returned (.int .i64 k) ∧ w = w' := by
  go_enter Tryz.func228, Tryz.ntmps228
  go_wp2_with (simp only [key])
  go_ret
  exact ⟨rfl, rfl⟩
theorem tz_any (x : Nat) (w : World) (hx : x < wide) (h0 : x ≠ 0) (hT : TabAt 5 Lib.deBruijn64tab w) :
    Calls Tryz.prog 228 #[.int .u64 x] w fun e w' => e = .returned (.int .i64 (Lib.ctz 64 x)) ∧ w = w' := by
  obtain ⟨hlow, hk⟩ := Lib.lowest_bit 64 x h0 hx
  obtain ⟨hi, htab⟩ := Lib.deBruijn64_at _ hk
  have hcell := hT _ hi
  rw [htab] at hcell
  exact tz_core x _ _ w (by simp; omega) (tz64_key x _ hx h0 hlow) hi hk hcell
set_option maxHeartbeats 1000000 in
theorem ones_core (x y1 y2 y3 y4 y5 y6 y7 : Int) (w : World)
    (k1 : IntKind.u64.wrap (bits .and .u64 (x / 2) 6148914691236517205 + bits .and .u64 x 6148914691236517205) = y1)
    (k2 : IntKind.u64.wrap (bits .and .u64 (y1 / 4) 3689348814741910323 + bits .and .u64 y1 3689348814741910323) = y2)
    (k3 : bits .and .u64 (IntKind.u64.wrap (y2 / 16 + y2)) 1085102592571150095 = y3)
    (k4 : IntKind.u64.wrap (y3 + y3 / 256) = y4) (k5 : IntKind.u64.wrap (y4 + y4 / 65536) = y5) (k6 : IntKind.u64.wrap (y5 + y5 / 4294967296) = y6)
    (k7 : bits .and .i64 (wrap64 y6) 127 = y7) :
    Calls Tryz.prog 160 #[.int .u64 x] w fun e w' => e = .returned (.int .i64 y7) ∧ w = w' := by
  go_enter Tryz.func160, Tryz.ntmps160
  go_wp2_with (simp only [k1, k2, k3, k4, k5, k6, k7])
  go_ret
  exact ⟨rfl, rfl⟩
theorem wraps_i64' (n : Int) (h0 : 0 ≤ n) (h1 : n < 2 ^ 63) : IntKind.i64.wrap n = n := by
  have h2 : n < 9223372036854775808 := h1
  rw [IntKind.wrap_i64]; omega
theorem mask127 (z : Nat) (h : z < 9223372036854775808) : bits .and .i64 (z : Int) 127 = ((z % 128 : Nat) : Int) := by
  have := (bits_nat .i64 63 (by decide) wraps_i64' z 127 h (by decide)).1
  rw [show ((127 : Nat) : Int) = 127 from rfl] at this
  rw [this]
  congr 1
  exact Nat.and_two_pow_sub_one_eq_mod z 7
theorem ones_any (x : Nat) (w : World) (hx : x < wide) :
    Calls Tryz.prog 160 #[.int .u64 x] w fun e w' => e = .returned (.int .i64 (pc x)) ∧ w = w' := by
  obtain ⟨z4, h4⟩ : ∃ z, z = p3 8 x + p3 8 x / 256 := ⟨_, rfl⟩
  obtain ⟨z5, h5⟩ : ∃ z, z = z4 + z4 / 65536 := ⟨_, rfl⟩
  obtain ⟨z6, h6⟩ : ∃ z, z = z5 + z5 / 4294967296 := ⟨_, rfl⟩
  obtain ⟨e7, b4, b5, b6, b3, _⟩ := pop_end x z4 z5 z6 hx h4 h5 h6
  have l1 : p1 8 x ≤ 12297829382473034410 := by
    have h1 : (x / 2 &&& rep 85 8) ≤ rep 85 8 := Nat.and_le_right
    have h2 : (x &&& rep 85 8) ≤ rep 85 8 := Nat.and_le_right
    have h3 : rep 85 8 = 6148914691236517205 := by decide
    unfold p1; omega
  have l2 : p2 8 x ≤ 7378697629483820646 := by
    have h1 : (p1 8 x / 4 &&& rep 51 8) ≤ rep 51 8 := Nat.and_le_right
    have h2 : (p1 8 x &&& rep 51 8) ≤ rep 51 8 := Nat.and_le_right
    have h3 : rep 51 8 = 3689348814741910323 := by decide
    unfold p2; omega
  unfold wide at *
  refine ones_core x (p1 8 x : Nat) (p2 8 x : Nat) (p3 8 x : Nat) (z4 : Nat) (z5 : Nat) (z6 : Nat) (pc x : Nat) w ?_ ?_ ?_ ?_ ?_ ?_ ?_
  · rw [show (x : Int) / 2 = ((x / 2 : Nat) : Int) by omega, show (6148914691236517205 : Int) = ((6148914691236517205 : Nat) : Int) from rfl, bits_and_u64_nat _ _ (by omega) (by omega), bits_and_u64_nat _ _ hx (by omega), IntKind.wrap_u64]
    have : p1 8 x = (x / 2 &&& 6148914691236517205) + (x &&& 6148914691236517205) := rfl
    omega
  · rw [show ((p1 8 x : Nat) : Int) / 4 = ((p1 8 x / 4 : Nat) : Int) by omega, show (3689348814741910323 : Int) = ((3689348814741910323 : Nat) : Int) from rfl, bits_and_u64_nat _ _ (by omega) (by omega), bits_and_u64_nat _ _ (by omega) (by omega), IntKind.wrap_u64]
    have : p2 8 x = (p1 8 x / 4 &&& 3689348814741910323) + (p1 8 x &&& 3689348814741910323) := rfl
    omega
  · have e : IntKind.u64.wrap (((p2 8 x : Nat) : Int) / 16 + (p2 8 x : Nat)) = ((p2 8 x / 16 + p2 8 x : Nat) : Int) := by rw [IntKind.wrap_u64]; omega
    rw [e, show (1085102592571150095 : Int) = ((1085102592571150095 : Nat) : Int) from rfl, bits_and_u64_nat _ _ (by omega) (by omega)]
    rfl
  · rw [IntKind.wrap_u64]; omega
  · rw [IntKind.wrap_u64]; omega
  · rw [IntKind.wrap_u64]; omega
  · rw [← e7]
    have hw : wrap64 (z6 : Int) = (z6 : Int) := by unfold wrap64; omega
    rw [hw, mask127 z6 b6]
theorem bel_drewN'' {B : Nat} {a w : World} (h : Below B a w) (n : Nat) : Below B a (w.drewN n) := h.trans ⟨rfl, rfl, rfl, Nat.le_refl _, fun _ _ => rfl⟩
theorem ones_any' (x : Nat) (w : World) (hx : x < wide) :
    Calls Tryz.prog 160 #[.int .u64 x] w fun e w' => e = .returned (.int .i64 (pc x)) ∧ w' = w :=
  (ones_any x w hx).mono fun e w' h => ⟨h.1, h.2.symm⟩
set_option maxHeartbeats 1000000 in
set_option maxRecDepth 100000 in
theorem size_any (s : Key) (w : World) (hs : s.ok) :
    Calls Tryz.prog 110 #[keyV s] w fun e w' => e = .returned (.int .i64 (s.size : Nat)) ∧ Below w.heap.size w w' := by
  have h1 : pc s.1 ≤ 64 := (pop_end s.1 _ _ _ hs.1 rfl rfl rfl).2.2.2.2.2
  have h2 : pc s.2 ≤ 64 := (pop_end s.2 _ _ _ hs.2 rfl rfl rfl).2.2.2.2.2
  obtain ⟨o1, o2⟩ := hs
  obtain ⟨a, b⟩ := s
  have q1 := fun w => ones_any' a w o1
  have q2 := fun w => ones_any' b w o2
  simp only at h1 h2
  unfold keyV Key.size
  simp only
  generalize pc a = pa at *
  generalize pc b = pb at *
  clear o1 o2
  go_enter Tryz.func110, Tryz.ntmps110
  go_wp2
  generalize hW : w.alloc (Obj.cells #[Value.int IntKind.u64 (a : Int), Value.int IntKind.u64 (b : Int)] 84) = W
  have c0 : W.cell? ⟨w.heap.size, 0, none⟩ = some (.int .u64 (a : Int)) := by rw [← hW]; simp
  have c1 : W.cell? ⟨w.heap.size, 1, none⟩ = some (.int .u64 (b : Int)) := by rw [← hW]; simp
  have HW := hide hW
  clear hW
  go_quiet ((go_at_call 160; first | with_reducible exact Calls.quiet_of_same (q1 _) | with_reducible exact Calls.quiet_of_same (q2 _)))
  go_wp2
  go_ret
  refine ⟨?_, ?_⟩
  · show Ending.returned (.int .i64 ((pa : Int) + (pb : Int))) = _
    rw [← Int.natCast_add]
  · refine bel_drewN'' ?_ _
    rw [← unhide HW]
    exact (Below.refl _ _).alloc (Nat.le_refl _) _

theorem tab_alloc {g : Nat} {tab : List Nat} {w : World} (h : TabAt g tab w) (o : Obj) : TabAt g tab (w.alloc o) := by
  intro j hj
  have := h j hj
  rw [← this]
  exact ((Below.refl w.heap.size w).alloc (Nat.le_refl _) o).cell (p := ⟨g, j, none⟩) (block_lt_of_cell this)
theorem tab_later {g : Nat} {tab : List Nat} {w w' : World} (h : TabAt g tab w) (hb : Below w.heap.size w w') : TabAt g tab w' := by
  intro j hj
  have := h j hj
  rw [← this]
  exact hb.cell (p := ⟨g, j, none⟩) (block_lt_of_cell this)
theorem ctz_pow (k : Nat) (hk : k < 64) : Lib.ctz 64 (2 ^ k) = k := by
  have h0 : 2 ^ k ≠ 0 := Nat.ne_of_gt (Nat.two_pow_pos k)
  have h1 : 2 ^ k < wide := show 2 ^ k < 2 ^ 64 from Nat.pow_lt_pow_right (by decide) hk
  have := (low_bit h0 h1).1
  rw [Nat.testBit_two_pow] at this
  simpa using (of_decide_eq_true this).symm
set_option maxHeartbeats 1000000 in
set_option maxRecDepth 100000 in
theorem place_hi (a b : Nat) (w : World) (ha : a < wide) (h0 : ((a : Int) != 0) = true) (k : Nat) (hk : k < 64) (e : Lib.ctz 64 a = k) (hT : TabAt 5 Lib.deBruijn64tab w) :
    Calls Tryz.prog 199 #[.agg #[.int .u64 (a : Int), .int .u64 (b : Int)]] w fun e w' => e = .returned (.int .i64 k) ∧ Below w.heap.size w w' := by
  have hn : a ≠ 0 := by intro e; subst e; simp at h0
  have q1 := fun o => tz_any a (w.alloc o) ha hn (tab_alloc hT o)
  rw [e] at q1
  clear hT hn ha e
  go_enter Tryz.func199, Tryz.ntmps199
  go_wp2_with fail
  refine (q1 _).mono ?_
  rintro e1 w1 ⟨rfl, rfl⟩
  go_wp2
  go_ret
  exact ⟨rfl, (Below.refl _ _).alloc (Nat.le_refl _) _⟩
set_option maxHeartbeats 1000000 in
set_option maxRecDepth 100000 in
theorem place_lo (a b : Nat) (w : World) (hb : b < wide) (h0 : ((a : Int) != 0) = false) (hb0 : b ≠ 0) (k : Nat) (hk : k < 64) (e : Lib.ctz 64 b = k) (hT : TabAt 5 Lib.deBruijn64tab w) :
    Calls Tryz.prog 199 #[.agg #[.int .u64 (a : Int), .int .u64 (b : Int)]] w fun e w' => e = .returned (.int .i64 (64 + k : Nat)) ∧ Below w.heap.size w w' := by
  have q1 := fun o => tz_any b (w.alloc o) hb hb0 (tab_alloc hT o)
  rw [e] at q1
  clear hT hb0 hb e
  go_enter Tryz.func199, Tryz.ntmps199
  go_wp2_with fail
  refine (q1 _).mono ?_
  rintro e1 w1 ⟨rfl, rfl⟩
  go_wp2
  go_ret
  exact ⟨by show Ending.returned (.int .i64 (64 + (k : Int))) = _; rw [Int.natCast_add]; rfl, (Below.refl _ _).alloc (Nat.le_refl _) _⟩
theorem place_any (l : Int) (w : World) (hl : IsLit l) (hT : TabAt 5 Lib.deBruijn64tab w) :
    Calls Tryz.prog 199 #[keyV (single l)] w fun e w' => e = .returned (.int .i64 (place l : Nat)) ∧ Below w.heap.size w w' := by
  unfold keyV single place
  rcases hl with h | h
  · rw [if_neg (by omega), if_pos (by omega)]
    have hp : 2 ^ (l.toNat - 1) ≠ 0 := Nat.ne_of_gt (Nat.two_pow_pos _)
    exact place_hi _ _ w (show _ < 2 ^ 64 from Nat.pow_lt_pow_right (by decide) (by omega)) (by rw [bne_iff_ne]; exact_mod_cast hp) _ (by omega) (ctz_pow _ (by omega)) hT
  · rw [if_pos (by omega), if_neg (by omega)]
    exact place_lo _ _ w (show _ < 2 ^ 64 from Nat.pow_lt_pow_right (by decide) (by omega)) rfl (Nat.ne_of_gt (Nat.two_pow_pos _)) _ (by omega) (ctz_pow _ (by omega)) hT
set_option maxHeartbeats 1000000 in
theorem single_any (l : Int) (w : World) (hl : IsLit l) :
    Calls Tryz.prog 73 #[.int .i64 l] w fun e w' => e = .returned (keyV (single l)) ∧ Below w.heap.size w w' := by
  unfold keyV single
  rcases hl with h | h
  · obtain ⟨k, rfl⟩ : ∃ k : Nat, l = (k : Int) + 1 := ⟨(l - 1).toNat, by omega⟩
    have hp : 2 ^ k < 18446744073709551616 := show 2 ^ k < 2 ^ 64 from Nat.pow_lt_pow_right (by decide) (by omega)
    have e : IntKind.u64.wrap (2 ^ k) = ((2 ^ k : Nat) : Int) := by
      rw [IntKind.wrap_u64, show (2 : Int) ^ k = ((2 ^ k : Nat) : Int) by simp]; generalize 2 ^ k = z at hp ⊢; omega
    rw [if_neg (by omega), show ((k : Int) + 1).toNat - 1 = k by omega, ← e]
    clear e hp
    go_enter Tryz.func73, Tryz.ntmps73
    go_wp2
    exact bodyPost_ret (v := .agg #[.int .u64 (IntKind.u64.wrap (2 ^ k)), .int .u64 0]) (by simp [results, Tryz.results73, go_sem]) rfl ⟨rfl, (Below.refl _ _).alloc (Nat.le_refl _) _⟩
  · obtain ⟨k, rfl⟩ : ∃ k : Nat, l = -((k : Int) + 1) := ⟨(-l - 1).toNat, by omega⟩
    have hp : 2 ^ k < 18446744073709551616 := show 2 ^ k < 2 ^ 64 from Nat.pow_lt_pow_right (by decide) (by omega)
    have e : IntKind.u64.wrap (2 ^ k) = ((2 ^ k : Nat) : Int) := by
      rw [IntKind.wrap_u64, show (2 : Int) ^ k = ((2 ^ k : Nat) : Int) by simp]; generalize 2 ^ k = z at hp ⊢; omega
    rw [if_pos (by omega), show (-(-((k : Int) + 1))).toNat - 1 = k by omega, ← e]
    clear e hp
    go_enter Tryz.func73, Tryz.ntmps73
    go_wp2
    exact bodyPost_ret (v := .agg #[.int .u64 0, .int .u64 (IntKind.u64.wrap (2 ^ k))]) (by simp [results, Tryz.results73, go_sem]) rfl ⟨rfl, (Below.refl _ _).alloc (Nat.le_refl _) _⟩
end Rd
end Go.Proofs.YtceahffmenbibaaGreatDoor
