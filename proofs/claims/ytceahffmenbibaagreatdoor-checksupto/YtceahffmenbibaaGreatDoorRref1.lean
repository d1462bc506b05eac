/- Walks of the document's own reader: split, tokens, digits. -/
import Derived.Test.YtceahffmenbibaaGreatDoorRnum
import Derived.Test.YtceahffmenbibaaGreatDoorRcls
import Derived.Test.YtceahffmenbibaaGreatDoorRtok
import Derived.Maps.AppendAt
namespace Go.Proofs.YtceahffmenbibaaGreatDoor
namespace Rd
open Go Go.RowKit
set_option linter.unusedVariables false
set_option linter.unusedSimpArgs false

theorem Tryz.infoStr : (Tryz.prog.info? 9).map (fun i => (i.zero, i.size, i.bytes)) = some (some (.string ⟨#[]⟩), 1, 16) := by kernel_rfl
def bsl (T : List ByteArray) : List Bs := T.map fun x => x.data.toList
def strV (T : List ByteArray) : List Value := T.map Value.string

theorem extract_sub (s : ByteArray) (a b : Nat) : (s.extract a b).data.toList = sub s.data.toList a b := by
  rw [Lib.extract_data, sub, List.drop_take]

theorem splitTo_len (c : UInt8) (l : Bs) : (splitTo c l).1.length ≤ l.length := by
  suffices h : ∀ (l : Bs) (st : List Bs × Bs), (l.foldl (fun st x => if x == c then (st.1 ++ [st.2], []) else (st.1, st.2 ++ [x])) st).1.length ≤ st.1.length + l.length by
    have := h l ([], []); simpa [splitTo] using this
  intro l
  induction l with
  | nil => intro st; simp
  | cons x r ih =>
    intro st
    simp only [List.foldl_cons, List.length_cons]
    have := ih (if x == c then (st.1 ++ [st.2], []) else (st.1, st.2 ++ [x]))
    split at this
    · rename_i h; rw [if_pos h]; simp only [List.length_append, List.length_cons, List.length_nil] at this; omega
    · rename_i h; rw [if_neg h]; simp only at this; omega

/-- what the loop has -/
def SplitAt (q : UInt8) (s : ByteArray) (k fr : Nat) (P : List ByteArray) : Prop := splitTo q (s.data.toList.take k) = (bsl P, sub s.data.toList fr k) ∧ fr ≤ k ∧ k ≤ s.size ∧ ∀ x ∈ P, x.size ≤ s.size
theorem SplitAt.len {q : UInt8} {s : ByteArray} {k fr : Nat} {P : List ByteArray} (h : SplitAt q s k fr P) : P.length ≤ k := by
  have := splitTo_len q (s.data.toList.take k)
  rw [h.1] at this
  simp [bsl] at this
  omega
theorem sub_succ {s : ByteArray} {fr k : Nat} (h : fr ≤ k) (hk : k < s.size) : sub s.data.toList fr (k + 1) = sub s.data.toList fr k ++ [s[k]] := by
  unfold sub
  rw [take_snoc s k hk, List.drop_append_of_le_length (by simp; omega)]
theorem SplitAt.hit {q : UInt8} {s : ByteArray} {k fr : Nat} {P : List ByteArray} (h : SplitAt q s k fr P) (hk : k < s.size) (hc : (s[k].toNat : Int) = (q.toNat : Int)) : SplitAt q s (k + 1) (k + 1) (P ++ [s.extract fr k]) := by
  obtain ⟨h1, h2, h3, h4⟩ := h
  have e : s[k] = q := by rw [← UInt8.toNat_inj]; omega
  refine ⟨?_, Nat.le_refl _, by omega, ?_⟩
  · rw [take_snoc s k hk, splitTo_snoc, h1, e]
    simp only [bsl, List.map_append, List.map_cons, List.map_nil, extract_sub]
    simp [sub]
  · intro x hx
    simp at hx
    rcases hx with hx | rfl
    · exact h4 x hx
    · simp; omega
theorem SplitAt.miss {q : UInt8} {s : ByteArray} {k fr : Nat} {P : List ByteArray} (h : SplitAt q s k fr P) (hk : k < s.size) (hc : ¬ (s[k].toNat : Int) = (q.toNat : Int)) : SplitAt q s (k + 1) fr P := by
  obtain ⟨h1, h2, h3, h4⟩ := h
  have e : (s[k] == q) = false := by
    rw [beq_eq_false_iff_ne]; intro e; apply hc; rw [e]
  refine ⟨?_, by omega, by omega, h4⟩
  rw [take_snoc s k hk, splitTo_snoc, h1, e, sub_succ h2 hk]
  simp
theorem SplitAt.done {q : UInt8} {s : ByteArray} {fr : Nat} {P : List ByteArray} (h : SplitAt q s s.size fr P) : bsl (P ++ [s.extract fr s.size]) = splitB q s.data.toList := by
  obtain ⟨h1, h2, h3, h4⟩ := h
  rw [take_all s (by omega)] at h1
  unfold splitB
  rw [h1]
  simp only [bsl, List.map_append, List.map_cons, List.map_nil, extract_sub]

set_option maxHeartbeats 1000000 in
theorem split_any (q : UInt8) (s : ByteArray) (w : World) (hs : s.size ≤ 1048576) :
    Calls Tryz.prog 86 #[.string s, .int .u8 (q.toNat : Int)] w fun e w' => ∃ (v : Value) (P : List ByteArray), e = .returned v ∧ Hid (bsl P = splitB q s.data.toList) ∧ Hid (w'.ownsRow w.heap.size 9 1 v P.length (strV P)) ∧ Below w.heap.size w w' ∧
      Hid (∀ x ∈ P, x.size ≤ s.size) := by
  obtain ⟨i0, hi, hz0, hz1, hz2⟩ := info_parts Tryz.infoStr
  go_enter Tryz.func86, Tryz.ntmps86
  go_wp2
  go_loopw [5, 6, 7] (fun v f i wr => ∃ (k fr : Nat) (P : List ByteArray), k ≤ s.size ∧ fr ≤ k ∧ i = .int .i64 k ∧ f = .int .i64 fr ∧ Hid (SplitAt q s k fr P) ∧ wr.ownsRow w.heap.size 9 1 v P.length (strV P) ∧ Below w.heap.size w wr) (fun _ _ i _ => s.size - (intOf i).toNat)
  case atStart => exact ⟨0, 0, [], Nat.zero_le _, Nat.le_refl _, rfl, rfl, ⟨by simp [splitTo, bsl, sub], Nat.le_refl _, Nat.zero_le _, by simp⟩, World.ownsRow_nil _ _ _ _, Below.refl _ _⟩
  case round =>
    obtain ⟨k, fr, P, hk, hfr, rfl, rfl, hsp, hown, hb⟩ := hrel
    have pl := (unhide hsp).len
    have hbs := hb.size
    by_cases hlt : k < s.size
    · by_cases hc : (s[k].toNat : Int) = (q.toNat : Int)
      · have N := hide ((unhide hsp).hit hlt hc)
        have hc' : ((s[k].toNat : Int) == (q.toNat : Int)) = true := by simpa using hc
        clear hc
        go_wp2_with (at_builtin; refine wpList_append_own _ rfl _ _ 70 rfl w.heap.size 9 i0 (.string ⟨#[]⟩) 1 16 Tryz.underlying70 hi hz0 hz1 hz2 rfl (by decide) _ _ _ rfl (hown.alloc _) ⟨wr.heap.size, 0, none⟩ 1 1 [.string (s.extract fr k)] rfl rfl (cell_one_new _ _ _) (by simp [Value.oneCell']) (by unfold maxLen; omega) (by omega) (by simp; omega) ?_)
        intro v' w1 hown' hgrow _
        have R1 : Hid (w1.ownsRow w.heap.size 9 1 v' (P ++ [s.extract fr k]).length (strV (P ++ [s.extract fr k]))) := by
          unfold Hid strV at *; simpa using hown'
        have R2 : Hid (Below w.heap.size w w1) := (hb.alloc hbs _).grown hgrow (by simp; omega) (fun k hk => (hown.lt k hk).1)
        clear hown' hgrow hown hb
        go_wp2
        go_roundw
        case rel => exact ⟨k + 1, k + 1, _, by omega, Nat.le_refl _, by go_num, by go_num, unhide N, unhide R1, unhide R2⟩
        case measure => simp [intOf]; omega
      · have N := hide ((unhide hsp).miss hlt hc)
        have hc' : ((s[k].toNat : Int) == (q.toNat : Int)) = false := by simpa using hc
        clear hc
        have R1 := hide hown
        have R2 := hide hb
        clear hown hb
        go_wp2
        go_roundw
        case rel => exact ⟨k + 1, fr, P, by omega, by omega, by go_num, rfl, unhide N, unhide R1, unhide R2⟩
        case measure => simp [intOf]; omega
    · have e : k = s.size := by omega
      subst e
      have N := hide (unhide hsp).done
      have N4 := hide (unhide hsp).2.2.2
      go_wp2_with (at_builtin; refine wpList_append_own _ rfl _ _ 70 rfl w.heap.size 9 i0 (.string ⟨#[]⟩) 1 16 Tryz.underlying70 hi hz0 hz1 hz2 rfl (by decide) _ _ _ rfl (hown.alloc _) ⟨wr.heap.size, 0, none⟩ 1 1 [.string (s.extract fr s.size)] rfl rfl (cell_one_new _ _ _) (by simp [Value.oneCell']) (by unfold maxLen; omega) (by omega) (by simp; omega) ?_)
      intro v' w1 hown' hgrow _
      have R1 : Hid (w1.ownsRow w.heap.size 9 1 v' (P ++ [s.extract fr s.size]).length (strV (P ++ [s.extract fr s.size]))) := by
        unfold Hid strV at *; simpa using hown'
      have R2 : Hid (Below w.heap.size w w1) := (hb.alloc hbs _).grown hgrow (by simp; omega) (fun k hk => (hown.lt k hk).1)
      clear hown' hgrow hown hb
      go_wp2
      go_ret
      refine ⟨_, _, rfl, N, R1, unhide R2, ?_⟩
      intro x hx
      simp at hx
      rcases hx with hx | rfl
      · exact unhide N4 x hx
      · simp
end Rd
end Go.Proofs.YtceahffmenbibaaGreatDoor
