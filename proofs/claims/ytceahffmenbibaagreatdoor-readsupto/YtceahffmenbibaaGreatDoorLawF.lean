/- Walk of a step that reads. -/
import Derived.Test.YtceahffmenbibaaGreatDoorLawE
import Derived.Test.YtceahffmenbibaaGreatDoorReq
import Derived.OpenShut
namespace Go.Proofs.YtceahffmenbibaaGreatDoor
namespace Rd
open Go Go.RowKit Go.Deep Go.Proofs
set_option linter.unusedVariables false
set_option linter.unusedSimpArgs false

theorem headF_len : ∀ (f : Nat) {l v c r : Bs}, headF f l = some (v, c, r) → r.length ≤ l.length
  | 0, l, v, c, r, h => by simp [headF] at h
  | f + 1, l, v, c, r, h => by
    unfold headF at h
    split at h
    · rename_i he
      have hr := rest_len he
      split at h
      · have := headF_len f h; omega
      · obtain ⟨x, hx, e⟩ := Option.map_eq_some_iff.1 h
        simp only [Prod.mk.injEq] at e
        rw [← e.2.2]; omega
    · cases h

/-- what a reading is like -/
structure Nice (s : Bs) (r : Int × List (List Int) × Int) : Prop where
  len : r.2.1.length ≤ s.length
  len2 : r.2.1.length ≤ 20000
  inner : ∀ j, (r.2.1.getD j []).length ≤ 20000
  lo : 0 ≤ r.2.2
  hi : r.2.2 ≤ 2

theorem nice_nil (s : Bs) (c : Int) (h0 : 0 ≤ c) (h2 : c ≤ 2) (v : Int) : Nice s (v, [], c) := ⟨by simp, by simp, by simp, h0, h2⟩
theorem read_nice (s : Bs) : Nice s (readB s) := by
  unfold readB
  by_cases h : 20000 < s.length
  · rw [if_pos h]; exact nice_nil _ _ (by omega) (by omega) _
  · rw [if_neg h]
    cases hh : headF (s.length + 1) s with
    | none => exact nice_nil _ _ (by omega) (by omega) _
    | some o =>
      obtain ⟨v, c, r⟩ := o
      simp only
      have hr := headF_len _ hh
      have ht := (toks_len r).1
      have cl := clausesTo_lens (toks r)
      unfold body
      split
      · split
        · split
          · exact nice_nil _ _ (by omega) (by omega) _
          · refine ⟨by simp only; omega, by simp only; omega, fun j => ?_, by simp, by simp⟩
            simp only
            rw [cls_eq _ (toks r) rfl]
            have := cls_len (zeros (toks r)) (toks r) j
            omega
        · exact nice_nil _ _ (by omega) (by omega) _
      · exact nice_nil _ _ (by omega) (by omega) _

set_option maxHeartbeats 400000 in
theorem num_any (n : Int) (w : World) (h0 : 0 ≤ n) (h2 : n ≤ 2) : Calls Tryz.prog 49 #[.int .i64 n] w fun e w' => e = .returned (.int .i64 n) ∧ w' = w := by
  go_enter Tryz.func49, Tryz.ntmps49
  go_wp2
  go_ret
  exact ⟨rfl, rfl⟩

/-- what Read handed over, nothing of it held -/
theorem fresh_of {w w3 : World} {H N : Nat} {kv : Value} {es : List Ent} {u : Value} {cl : List (List Int)} {Bs : Nat} (hH : Hold w H N kv es (fun _ => False)) (hB : w.heap.size < Bs) (hs : Bs ≤ w3.heap.size)
    (h : (cl = [] ∧ u = .slice none 0 0) ∨ Lists 43 3 Bs w3 u cl) : ∃ ao CB B, u = .slice ao cl.length cl.length ∧ Fresh w3 H kv ao CB B cl ∧ ∀ c, Rs CB B cl.length 0 c → w.heap.size ≤ c := by
  have hl := hH.lt
  have hk : ∀ c, w.heap.size ≤ c → some c ≠ kv.ownBlock := fun c hc e => by have := hH.rowNe c e.symm; omega
  rcases h with ⟨rfl, rfl⟩ | h
  · refine ⟨none, w.heap.size, fun _ => 0, rfl, ⟨.inl ⟨rfl, rfl⟩, fun j hj => by simp at hj, fun j j' _ hj => by simp at hj, hl, by omega, ?_⟩, ?_⟩
    · rintro c (rfl | ⟨j, _, hj, _⟩)
      · exact hk _ (Nat.le_refl _)
      · simp at hj
    · rintro c (rfl | ⟨j, _, hj, _⟩)
      · exact Nat.le_refl _
      · simp at hj
  · obtain ⟨CB, B, rfl, h2, h3, h4, h5⟩ := h.ex
    have hr : ∀ c, Rs CB B cl.length 0 c → w.heap.size ≤ c := by
      rintro c (rfl | ⟨j, _, hj, rfl⟩)
      · omega
      · have := (h4 j hj).1; omega
    exact ⟨_, CB, B, rfl, ⟨.inr ⟨rfl, h3⟩, h4, h5, by omega, h3.lt, fun c hc => hk c (hr c hc)⟩, hr⟩

theorem Lists.later {te ti base : Nat} {w w' : World} {v : Value} {cl : List (List Int)} (h : Lists te ti base w v cl) (hb : Below w.heap.size w w') : Lists te ti base w' v cl := by
  obtain ⟨CB, B, h1, h2, h3, h4, h5⟩ := h.ex
  exact ⟨CB, B, h1, h2, h3.of_block (hb.block _ h3.lt), fun j hj => ⟨(h4 j hj).1, (h4 j hj).2.of_block (hb.block _ (h4 j hj).2.lt)⟩, h5⟩

/-- a step's turn of the world -/
def Sh (H : Nat) (kv : Value) (k : Nat) : Prop := k = H ∨ some k = kv.ownBlock

set_option maxHeartbeats 4000000 in
theorem plays_read (H N : Nat) (kv : Value) (es : List Ent) (n m : Int) (s t : ByteArray) (w : World) (hH : Hold w H N kv es (fun _ => False)) (hg : Glob w) (hs : s.size ≤ maxLen) (hN : N + s.size ≤ 2900000) :
    Calls Tryz.prog 28 #[.pointer (some ⟨H, 0, none⟩), .agg #[.int .i64 1, .int .i64 n, .int .i64 m, .string s, .string t]] w fun e w' => e = .returned (.bool true) ∧
      ∃ N' kv' es', N' ≤ N + s.size + 1 ∧ Hold w' H N' kv' es' (fun _ => False) ∧ Chg w w' (Sh H kv) := by
  have HH := hide hH
  have HG := hide hg
  have HS := hide hs
  clear hH hg hs
  go_enter Tryz.func28, Tryz.ntmps28
  go_wp2_with fail
  refine (read_any s _ (unhide HS) ((unhide HG).later ((Below.refl _ _).alloc (Nat.le_refl _) _))).mono ?_
  rintro e1 w1 ⟨hb1, u, rfl, hu⟩
  rw [read_eq] at hu ⊢
  have NI := hide (read_nice s.data.toList)
  have HB1 := hide hb1
  have HU := hide hu
  have s1 := hb1.size
  simp at s1
  have q : ∀ j, w1.cell? ⟨w.heap.size, j, none⟩ = (#[Value.int .i64 1, .int .i64 n, .int .i64 m, .string s, .string t] : Array Value)[j]? := fun j => by
    rw [hb1.cell (p := ⟨w.heap.size, j, none⟩) (by simp)]
    exact World.cell?_alloc_new _ _ _ _
  have q3 : w1.cell? ⟨w.heap.size, 3, none⟩ = some (.string s) := q 3
  clear hb1 hu q
  obtain ⟨ua, uc, hsh⟩ : ∃ a c, u = .slice a (readB s.data.toList).2.1.length c := by
    rcases unhide HU with ⟨e, e2⟩ | h
    · exact ⟨none, 0, by rw [e, e2]; rfl⟩
    · obtain ⟨CB, B, e, _⟩ := h.ex
      exact ⟨_, _, e⟩
  subst hsh
  go_wp2_with fail
  refine (rread_any s _ (unhide HS)).mono ?_
  rintro e2 w2 ⟨hb2, u2, rfl, hu2, -⟩
  have HU2 := hide hu2
  have HB2 := hide hb2
  have s2 := hb2.size
  clear hu2 hb2
  obtain ⟨vb, vc, hsh2⟩ : ∃ a c, u2 = .slice a (readB s.data.toList).2.1.length c := by
    obtain ⟨a, c, b, e, _⟩ := unhide HU2
    exact ⟨a, c, e⟩
  subst hsh2
  have L1 : Hid ((readB s.data.toList).2.1 = [] ∧ Value.slice ua (readB s.data.toList).2.1.length uc = .slice none 0 0 ∨ Lists 43 3 (w.heap.size + 1) w2 (.slice ua (readB s.data.toList).2.1.length uc) (readB s.data.toList).2.1) := by
    rcases unhide HU with h | h
    · exact .inl h
    · refine .inr (Lists.mono (h.later (unhide HB2)) (by simp))
  have B2 : Hid (Below w.heap.size w w2) := ((Below.refl _ _).alloc (Nat.le_refl _) _).trans (((unhide HB1).mono (by simp)).trans ((unhide HB2).mono (by omega)))
  clear HU HB1 HB2
  generalize readB s.data.toList = r at *
  obtain ⟨rv, cl, rc⟩ := r
  have HCL := hide (show cl.length ≤ s.data.toList.length ∧ cl.length ≤ 20000 from ⟨(unhide NI).len, (unhide NI).len2⟩)
  have HCI := hide (show ∀ j, (cl.getD j []).length ≤ 20000 from (unhide NI).inner)
  have n0 : 0 ≤ rc := (unhide NI).lo
  have n2 : rc ≤ 2 := (unhide NI).hi
  clear NI
  go_wp2_with fail
  have RD1 : RdLists w2 (.slice ua cl.length uc) cl := by
    rcases unhide L1 with ⟨h1, h2⟩ | h
    · have h1 : cl = [] := h1
      subst h1
      rw [h2]; exact ⟨none, 0, 0, rfl, fun h => by simp at h, fun j h => by simp at h⟩
    · exact h.read
  refine (same_any _ _ cl w2 RD1 (unhide HU2) (unhide HCL).2 (unhide HCI)).mono ?_
  rintro e3 w3 ⟨rfl, dn, hw3⟩
  have B3 : Hid (Below w.heap.size w w3) := by rw [hw3]; exact bel_drewN' (unhide B2) _
  have L3 : Hid (cl = [] ∧ Value.slice ua cl.length uc = .slice none 0 0 ∨ Lists 43 3 (w.heap.size + 1) w3 (.slice ua cl.length uc) cl) := by
    rcases unhide L1 with h | h
    · exact .inl h
    · exact .inr (h.later (by rw [hw3]; exact bel_drewN' (Below.refl _ _) _))
  have s3 : w2.heap.size ≤ w3.heap.size := by rw [hw3]; simp
  clear hw3 L1 B2 RD1 HU2
  obtain ⟨ao, CB, B, e4, hF, hR⟩ := fresh_of (Bs := w.heap.size + 1) (unhide HH) (by omega) (by omega) (unhide L3)
  have hH3 : Hold w3 H N kv es (Rs CB B cl.length 0) := (unhide HH).keep (Chg.of_below (S := fun _ => False) (unhide B3)) id (fun _ h => h.elim) (fun k hk hl => by have := hR k hk; omega)
  cases e4
  have HF := hide hF
  have HR := hide hR
  have HH3 := hide hH3
  clear hF hR hH3 L3
  go_wp2_with fail
  have hsz : s.data.toList.length = s.size := by simp
  refine (lists_any H N kv es ua CB B cl w3 (unhide HH3) (unhide HF) (by have := (unhide HCL).1; omega) (unhide HCL).2 (unhide HCI)).mono ?_
  rintro e5 w5 ⟨rfl, kv', es', hH5, hC5⟩
  have HH5 := hide hH5
  have C5 : Hid (Chg w w5 (Sh H kv)) := (Chg.of_below (unhide B3)).trans hC5 (fun k hk h => by
    rcases h with rfl | h | h
    · exact .inl rfl
    · exact .inr h
    · have := unhide HR k h; omega)
  clear hH5 hC5 HH3 HF HR
  go_wp2_with fail
  refine (num_any rc w5 n0 n2).mono ?_
  rintro e6 w6 ⟨rfl, rfl⟩
  have g1 : (rv == rv) = true := by simp
  have g2 : (rc == rc) = true := by simp
  go_wp2
  go_ret
  exact ⟨rfl, N + cl.length + 1, kv', es', by have := (unhide HCL).1; omega, unhide HH5, unhide C5⟩
end Rd
end Go.Proofs.YtceahffmenbibaaGreatDoor
