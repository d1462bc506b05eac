/- Walks of the document's checker: the marks. -/
import Derived.Test.YtceahffmenbibaaGreatDoorCref1
import Derived.Outline
namespace Go.Proofs.YtceahffmenbibaaGreatDoor
namespace Rd
open Go Go.RowKit Go.Deep
set_option linter.unusedVariables false
set_option linter.unusedSimpArgs false

abbrev Mk : Type := Nat → Int
def markV (m : Mk) (l : Int) : Int := if l < 0 then -(m (-l).toNat) else m l.toNat
def MarkAt (w : World) (b : Nat) (m : Mk) : Prop := w.rowIs b 220 51 (fun j => .int .i64 (m j))
/-- marks as they come about -/
def MkOk (m : Mk) : Prop := m 0 = 0 ∧ ∀ j, m j = -1 ∨ m j = 0 ∨ m j = 1
def In50 (l : Int) : Prop := (1 ≤ l ∧ l ≤ 50) ∨ (-50 ≤ l ∧ l ≤ -1)

set_option maxHeartbeats 1000000 in
theorem is_any (b : Nat) (m : Mk) (l : Int) (w : World) (hm : MarkAt w b m) (ok : MkOk m) (hl : In50 l) :
    Calls Tryz.prog 202 #[.pointer (some ⟨b, 0, none⟩), .int .i64 l] w fun e w' => e = .returned (.int .i64 (markV m l)) ∧ w = w' := by
  unfold markV
  rcases hl with h | h
  · obtain ⟨k, rfl⟩ : ∃ k : Nat, l = (k : Int) := ⟨l.toNat, by omega⟩
    have c := hm.cell (show k < 51 by omega)
    have e : ((k : Int)).toNat = k := by omega
    rw [if_neg (by omega), e]
    clear e hm
    generalize m k = x at c ⊢
    go_enter Tryz.func202, Tryz.ntmps202
    go_wp2
    go_ret
    exact ⟨rfl, rfl⟩
  · obtain ⟨k, rfl⟩ : ∃ k : Nat, l = -(k : Int) := ⟨(-l).toNat, by omega⟩
    have c := hm.cell (show k < 51 by omega)
    have e : (-(-(k : Int))).toNat = k := by omega
    have bd := ok.2 k
    rw [if_pos (by omega), e]
    clear e hm
    generalize m k = x at c bd ⊢
    have b1 : -1 ≤ x ∧ x ≤ 1 := by omega
    obtain ⟨b1, b2⟩ := b1
    clear bd
    go_enter Tryz.func202, Tryz.ntmps202
    go_wp2
    go_ret
    exact ⟨rfl, rfl⟩
def markSet (m : Mk) (l : Int) : Mk := fun j => if l < 0 then (if j = (-l).toNat then -1 else m j) else (if j = l.toNat then 1 else m j)
set_option maxHeartbeats 1000000 in
theorem set_any (b : Nat) (m : Mk) (l : Int) (w : World) (hm : MarkAt w b m) (ok : MkOk m) (hl : In50 l) :
    Calls Tryz.prog 171 #[.pointer (some ⟨b, 0, none⟩), .int .i64 l] w fun e w' =>
      (markV m l = -1 ∧ e = .returned (.bool false) ∧ w = w') ∨ (markV m l ≠ -1 ∧ e = .returned (.bool true) ∧ ∃ o v, w' = w.setCell ⟨b, o, none⟩ v ∧ MarkAt w' b (markSet m l)) := by
  have q := is_any b m l w hm ok hl
  have HM := hide hm
  have E0 : Hid (markV m l = markV m l) := rfl
  unfold Hid at E0
  obtain ⟨x, hx⟩ : ∃ x, x = markV m l := ⟨_, rfl⟩
  rw [← hx] at q ⊢
  by_cases hx1 : x = -1
  · have hb : (x == -1) = true := by simpa using hx1
    go_enter Tryz.func171, Tryz.ntmps171
    go_wp2_with fail
    with_reducible refine q.mono ?_
    rintro e1 w1 ⟨rfl, rfl⟩
    go_wp2
    go_ret
    exact .inl ⟨hx1, rfl, rfl⟩
  · have hb : (x == -1) = false := by simpa using hx1
    rcases hl with h | h
    · obtain ⟨k, rfl⟩ : ∃ k : Nat, l = (k : Int) := ⟨l.toNat, by omega⟩
      have c := hm.cell (show k < 51 by omega)
      have f := hm.frozen k
      clear hm
      go_enter Tryz.func171, Tryz.ntmps171
      go_wp2_with fail
      with_reducible refine q.mono ?_
      rintro e1 w1 ⟨rfl, rfl⟩
      go_wp2
      go_ret
      refine .inr ⟨hx1, rfl, k, .int .i64 1, rfl, ?_⟩
      refine ((unhide HM).set k _).congr fun i hi => ?_
      have e : ((k : Int)).toNat = k := by omega
      have e2 : ¬ ((k : Int) < 0) := by omega
      simp only [markSet, e2, if_false, e]
      split <;> rfl
    · obtain ⟨k, rfl⟩ : ∃ k : Nat, l = -(k : Int) := ⟨(-l).toNat, by omega⟩
      have c := hm.cell (show k < 51 by omega)
      have f := hm.frozen k
      clear hm
      go_enter Tryz.func171, Tryz.ntmps171
      go_wp2_with fail
      with_reducible refine q.mono ?_
      rintro e1 w1 ⟨rfl, rfl⟩
      go_wp2
      go_ret
      refine .inr ⟨hx1, rfl, k, .int .i64 (-1), rfl, ?_⟩
      refine ((unhide HM).set k _).congr fun i hi => ?_
      have e : (-(-(k : Int))).toNat = k := by omega
      have e2 : (-(k : Int) < 0) := by omega
      simp only [markSet, e2, if_true, e]
      split <;> rfl

/-- what the marks say of the first literals of a clause, none of which is true -/
structure OpenAt (m : Mk) (d : List Int) (n : Nat) (one : Int) : Prop where
  no : ∀ l ∈ d, markV m l ≠ 1
  none : n = 0 → ∀ l ∈ d, markV m l = -1
  one : n = 1 → one ∈ d ∧ markV m one = 0 ∧ ∀ x ∈ d, x ≠ one → markV m x = -1
  two : 2 ≤ n → ∃ a ∈ d, ∃ b ∈ d, a ≠ b ∧ markV m a = 0 ∧ markV m b = 0
theorem openAt_nil (m : Mk) : OpenAt m [] 0 0 := ⟨by simp, by simp, by simp, by omega⟩
theorem OpenAt.new {m : Mk} {d : List Int} {n : Nat} {one : Int} (h : OpenAt m d n one) {x : Int} (hv : markV m x = 0) (ht : x ∉ d) : OpenAt m (d ++ [x]) (n + 1) x where
  no := fun l hl => by
    rcases List.mem_append.1 hl with hl | hl
    · exact h.no l hl
    · simp at hl; rw [hl, hv]; decide
  none := by omega
  one := fun e => by
    refine ⟨by simp, hv, fun y hy hne => ?_⟩
    rcases List.mem_append.1 hy with hy | hy
    · exact h.none (by omega) y hy
    · simp at hy; exact absurd hy hne
  two := fun e => by
    rcases Nat.lt_or_ge n 2 with h2 | h2
    · obtain ⟨h1, h3, _⟩ := h.one (by omega)
      exact ⟨one, by simp [h1], x, by simp, fun e => ht (e ▸ h1), h3, hv⟩
    · obtain ⟨a, ha, b, hb, r⟩ := h.two h2
      exact ⟨a, by simp [ha], b, by simp [hb], r⟩
theorem OpenAt.old {m : Mk} {d : List Int} {n : Nat} {one : Int} (h : OpenAt m d n one) {x : Int} (hv : markV m x = -1 ∨ x ∈ d) (h1 : markV m x ≠ 1) : OpenAt m (d ++ [x]) n one where
  no := fun l hl => by
    rcases List.mem_append.1 hl with hl | hl
    · exact h.no l hl
    · simp at hl; rw [hl]; exact h1
  none := fun e l hl => by
    rcases List.mem_append.1 hl with hl | hl
    · exact h.none e l hl
    · simp at hl; rw [hl]
      rcases hv with hv | hv
      · exact hv
      · exact h.none e x hv
  one := fun e => by
    obtain ⟨h1, h2, h3⟩ := h.one e
    refine ⟨by simp [h1], h2, fun y hy hne => ?_⟩
    rcases List.mem_append.1 hy with hy | hy
    · exact h3 y hy hne
    · simp at hy; rw [hy] at hne ⊢
      rcases hv with hv | hv
      · exact hv
      · exact h3 x hv hne
  two := fun e => by
    obtain ⟨a, ha, b, hb, r⟩ := h.two e
    exact ⟨a, by simp [ha], b, by simp [hb], r⟩
theorem markV_ways {m : Mk} (h : MkOk m) (l : Int) : markV m l = -1 ∨ markV m l = 0 ∨ markV m l = 1 := by
  unfold markV
  split
  · rcases h.2 (-l).toNat with e | e | e <;> rw [e] <;> simp
  · exact h.2 _
theorem rdRow_take {w : World} {a : Option Addr} {b cap : Nat} {c : List Int} (k : Nat) (hk : k ≤ c.length) (ha : 0 < c.length → a = some ⟨b, 0, none⟩) (hc : ∀ j, j < c.length → w.cell? ⟨b, j, none⟩ = some (.int .i64 (c.getD j 0))) : RdRow w (.slice a k cap) (c.take k) := by
  have e : (c.take k).length = k := by simp; omega
  refine ⟨a, cap, b, by rw [e], fun h => ha (by omega), fun j hj => ?_⟩
  rw [hc j (by omega)]
  congr 2
  rw [List.getD_eq_getElem?_getD, List.getD_eq_getElem?_getD, List.getElem?_take, if_pos (by omega)]

/-- a list of numbers that can be read and cut -/
def RowC (w : World) (u : Value) (xs : List Int) : Prop := ∃ (a : Option Addr) (c b : Nat), u = .slice a xs.length c ∧ xs.length ≤ c ∧ (0 < xs.length → a = some ⟨b, 0, none⟩) ∧ ∀ j, j < xs.length → w.cell? ⟨b, j, none⟩ = some (.int .i64 (xs.getD j 0))
theorem RowC.rd {w : World} {u : Value} {xs : List Int} (h : RowC w u xs) : RdRow w u xs := by
  obtain ⟨a, c, b, h1, h2, h3⟩ := h; exact ⟨a, c, b, h1, h3⟩
theorem rowC_own {w : World} {B ti : Nat} {u : Value} {xs : List Int} (h : w.ownsRow B ti 1 u xs.length (intsV xs)) : RowC w u xs := by
  have hc := h
  rcases h.2 with ⟨rfl, h0⟩ | ⟨g, cap, cur, rfl, _, _, hn, _⟩
  · exact ⟨none, 0, 0, by rw [h0], by omega, fun hh => by omega, fun j hj => by omega⟩
  · refine ⟨some ⟨g, 0, none⟩, cap, g, rfl, hn, fun _ => rfl, fun j hj => ?_⟩
    have := hc.cells (g := g) rfl j (.int .i64 (xs.getD j 0)) (by simp [intsV, hj, List.getD_eq_getElem?_getD])
    simpa [Addr.add_lit] using this
set_option maxHeartbeats 1000000 in
set_option maxRecDepth 100000 in
theorem open_any (b : Nat) (m : Mk) (c : List Int) (u : Value) (w : World) (hm : MarkAt w b m) (ok : MkOk m) (hl : ∀ l ∈ c, In50 l) (hc : c.length ≤ 1048576) (hu : RowC w u c) :
    Calls Tryz.prog 172 #[.pointer (some ⟨b, 0, none⟩), u] w fun e w' => (∃ d, w' = w.drewN d) ∧
      ((∃ l ∈ c, markV m l = 1) ∧ e = .returned (.tuple #[.bool true, .int .i64 0, .int .i64 0]) ∨ ∃ n one, n ≤ c.length ∧ e = .returned (.tuple #[.bool false, .int .i64 (n : Nat), .int .i64 one]) ∧ OpenAt m c n one) := by
  have q1 := fun d l h => is_any b m l (w.drewN d) hm ok h
  have W := fun l => markV_ways ok l
  clear hm ok
  obtain ⟨a, cap, rb, rfl, hcap, haa, hcell⟩ := hu
  have q2 : Hid (∀ k l d n, k ≤ c.length → Calls Tryz.prog 124 #[.slice a k cap, .int .i64 l] ((w.drewN d).drewN n) fun e w' => e = .returned (.bool (hasL (c.take k) l)) ∧ w' = (w.drewN d).drewN n) := fun k l d n hk =>
    (has_any (c.take k) _ l ((w.drewN d).drewN n) (by simp; omega) (rdRow_take k hk haa hcell)).mono fun e w' h => ⟨h.1, h.2.symm⟩
  have HC := hide hcell
  have HA := hide haa
  have HL := hide hl
  have HW := hide W
  have Q1 := hide q1
  clear hcell haa hl W q1
  go_enter Tryz.func172, Tryz.ntmps172
  go_wp2
  go_loopw [7, 8, 9] (fun n o i wr => ∃ (k r d : Nat) (one : Int), wr = w.drewN d ∧ k ≤ c.length ∧ r ≤ k ∧ n = .int .i64 r ∧ o = .int .i64 one ∧ i = .int .i64 k ∧ Hid (OpenAt m (c.take k) r one)) (fun _ _ i _ => c.length - (intOf i).toNat)
  case atStart => exact ⟨0, 0, 0, 0, rfl, Nat.zero_le _, Nat.zero_le _, rfl, rfl, rfl, openAt_nil m⟩
  case round =>
    obtain ⟨k, r, d, one, rfl, hk, hr, rfl, rfl, rfl, ho⟩ := hrel
    by_cases hlt : k < c.length
    · have hcl : (w.drewN d).cell? ⟨rb, k, none⟩ = some (.int .i64 (c.getD k 0)) := unhide HC k hlt
      have hx := unhide HA (by omega)
      subst hx
      have T : Hid (c.take (k + 1) = c.take k ++ [c.getD k 0]) := by
        unfold Hid; rw [List.take_succ_eq_append_getElem hlt]; simp [List.getD_eq_getElem?_getD, hlt]
      have hmem : Hid (c.getD k 0 ∈ c) := by unfold Hid; simp [List.getD_eq_getElem?_getD, hlt]
      generalize c.getD k 0 = x at hcl T hmem
      have q := unhide Q1 d x (unhide HL x (unhide hmem))
      have q3 : Hid (∀ n, Calls Tryz.prog 124 #[.slice (some ⟨rb, 0, none⟩) k cap, .int .i64 x] ((w.drewN d).drewN n) fun e w' => e = .returned (.bool (hasL (c.take k) x)) ∧ w' = (w.drewN d).drewN n) := fun n => unhide q2 k x d n (by omega)
      obtain ⟨W, hW⟩ : ∃ W, W = w.drewN d := ⟨_, rfl⟩
      rw [← hW] at hcl q q3 ⊢
      have HWd := hide hW
      clear hW q2 Q1
      go_wp2_with fail
      with_reducible refine q.mono ?_
      rintro e1 w1 ⟨rfl, rfl⟩
      clear q
      have ws := unhide HW x
      obtain ⟨v, hv⟩ : ∃ v, v = markV m x := ⟨_, rfl⟩
      have HV := hide hv
      rw [← hv] at ws ⊢
      clear hv
      rcases ws with rfl | rfl | rfl
      · have O := hide ((unhide ho).old (x := x) (.inl (unhide HV).symm) (by rw [← unhide HV]; decide))
        rw [← unhide T] at O
        go_wp2
        go_quiet ((go_at_call 124; exact Calls.quiet_of_same (unhide q3 _)))
        go_wp2
        go_roundw
        case rel => exact ⟨k + 1, r, _, one, by rw [unhide HWd]; exact World.drewN_drewN .., by omega, by omega, rfl, rfl, by go_num, O⟩
        case measure => simp [intOf]; omega
      · go_wp2
        go_quiet ((go_at_call 124; exact Calls.quiet_of_same (unhide q3 _)))
        cases ht : hasL (c.take k) x with
        | true =>
          have O := hide ((unhide ho).old (x := x) (.inr (List.contains_iff_mem.1 ht)) (by rw [← unhide HV]; decide))
          rw [← unhide T] at O
          go_wp2
          go_roundw
          case rel => exact ⟨k + 1, r, _, one, by rw [unhide HWd]; exact World.drewN_drewN .., by omega, by omega, rfl, rfl, by go_num, O⟩
          case measure => simp [intOf]; omega
        | false =>
          have O := hide ((unhide ho).new (x := x) (unhide HV).symm (fun hm => by have := List.contains_iff_mem.2 hm; unfold hasL at ht; rw [this] at ht; cases ht))
          rw [← unhide T] at O
          go_wp2
          go_roundw
          case rel => exact ⟨k + 1, r + 1, _, x, by rw [unhide HWd]; exact World.drewN_drewN .., by omega, by omega, by go_num, rfl, by go_num, O⟩
          case measure => simp [intOf]; omega
      · have M : Hid (∃ l ∈ c, markV m l = 1) := ⟨x, unhide hmem, (unhide HV).symm⟩
        go_wp2
        go_ret3
        exact ⟨⟨_, unhide HWd⟩, .inl ⟨unhide M, rfl⟩⟩
    · have e : k = c.length := by omega
      subst e
      rw [List.take_of_length_le (Nat.le_refl _)] at ho
      go_wp2
      go_ret3
      exact ⟨⟨_, rfl⟩, .inr ⟨r, one, hr, rfl, unhide ho⟩⟩
end Rd
end Go.Proofs.YtceahffmenbibaaGreatDoor
