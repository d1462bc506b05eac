/- Walk of the program's setOf. -/
import Derived.Test.YtceahffmenbibaaGreatDoorPhas
import Derived.Test.YtceahffmenbibaaGreatDoorCref8
namespace Go.Proofs.YtceahffmenbibaaGreatDoor
namespace Rd
open Go Go.RowKit Go.Deep
set_option linter.unusedVariables false
set_option linter.unusedSimpArgs false
attribute [local go_sem ↓] Go.wp_at_zero Go.wp_at_succ

def keyF (s : Key) : Nat → Value := pairF (.int .u64 (s.1 : Int)) (.int .u64 (s.2 : Int))
structure SetSt (H : Nat) (w : World) (s : Key) (wr : World) : Prop where
  res : wr.rowIs H 84 2 (keyF (0, 0))
  cur : wr.rowIs (H + 1) 84 2 (keyF s)
  below : Below H w wr
  hs : H + 2 ≤ wr.heap.size
def SetRel (H : Nat) (w : World) (xs : List Int) (i : Value) (wr : World) : Prop := ∃ k : Nat, k ≤ xs.length ∧ i = .int .i64 k ∧ Hid (SetSt H w (setOf (xs.take k)) wr)
theorem SetSt.put {H : Nat} {w wr w7 : World} {s t : Key} (h : SetSt H w s wr) (hb : Below wr.heap.size wr w7) : SetSt H w t ((w7.setCell ⟨H + 1, 0, none⟩ (.int .u64 (t.1 : Int))).setCell ⟨H + 1, 1, none⟩ (.int .u64 (t.2 : Int))) where
  res := ((h.res.of_block (hb.block _ (by have := h.hs; omega))).setOther (by simp) _).setOther (by simp) _
  cur := (((h.cur.of_block (hb.block _ (by have := h.hs; omega))).set 0 _).set 1 _).congr fun i hi => by
    match i, hi with
    | 0, _ => rfl
    | 1, _ => rfl
  below := ((h.below.trans (hb.mono (by have := h.hs; omega))).setCell (by simp) _).setCell (by simp) _
  hs := by have := h.hs; have := hb.size; simp [World.setCell]; omega
set_option maxHeartbeats 1000000 in
set_option maxRecDepth 100000 in
theorem setOf_any (xs : List Int) (v : Value) (w : World) (hv : RdRow w v xs) (hl : ∀ l ∈ xs, IsLit l) (hlen : xs.length ≤ 1048576) :
    Calls Tryz.prog 69 #[v] w fun e w' => e = .returned (keyV (setOf xs)) ∧ Below w.heap.size w w' := by
  obtain ⟨ua, uc, ub, rfl, hua, hucell⟩ := hv
  have HU := hide hucell
  have HUA := hide hua
  have HL := hide hl
  clear hucell hua hl
  go_enter Tryz.func69, Tryz.ntmps69
  go_wp2
  obtain ⟨W, hW⟩ : ∃ W, W = (w.alloc (Obj.cells #[Value.int IntKind.u64 0, Value.int IntKind.u64 0] 84)).alloc (Obj.cells #[Value.int IntKind.u64 0, Value.int IntKind.u64 0] 84) := ⟨_, rfl⟩
  rw [← hW]
  have S0 : Hid (SetSt w.heap.size w (0, 0) W) := by
    unfold Hid; rw [hW]
    exact ⟨(rowIs_two w _ _ _).alloc _, rowIs_two' w _ _ _ _, below2 (Below.refl _ _) (Nat.le_refl _) _ _, by simp⟩
  clear hW
  go_loopw [8] (fun i wr => SetRel w.heap.size w xs i wr) (fun i _ => xs.length - (intOf i).toNat)
  case atStart => exact ⟨0, Nat.zero_le _, rfl, S0⟩
  case round =>
    clear S0
    obtain ⟨k, hk, rfl, hst⟩ := hrel
    have c0 := (unhide hst).cur.cell (i := 0) (by omega)
    have c1 := (unhide hst).cur.cell (i := 1) (by omega)
    have f0 := (unhide hst).cur.frozen 0
    have f1 := (unhide hst).cur.frozen 1
    have r0 := (unhide hst).res.cell (i := 0) (by omega)
    have r1 := (unhide hst).res.cell (i := 1) (by omega)
    have g0 := (unhide hst).res.frozen 0
    have g1 := (unhide hst).res.frozen 1
    unfold keyF pairF at c0 c1 r0 r1
    simp only [if_true, show ¬ (1 = 0) by decide, if_false] at c0 c1 r0 r1
    have hh := (unhide hst).hs
    have lit : ∀ l ∈ xs.take k, IsLit l := fun l h => unhide HL l (List.mem_of_mem_take h)
    have ok := setOf_ok lit
    clear lit
    by_cases hlt : k < xs.length
    · have hcl := unhide HU k hlt
      have hx := unhide HUA (by omega)
      subst hx
      have hcl' : wr.cell? ⟨ub, k, none⟩ = some (.int .i64 (xs.getD k 0)) := by rw [(unhide hst).below.cell (p := ⟨ub, k, none⟩) (block_lt_of_cell hcl)]; exact hcl
      have T : Hid (setOf (xs.take (k + 1)) = (setOf (xs.take k)).un (single (xs.getD k 0))) := by
        unfold Hid; rw [List.take_succ_eq_append_getElem hlt, setOf_snoc]; simp [List.getD_eq_getElem?_getD, hlt]
      have xl : IsLit (xs.getD k 0) := unhide HL _ (by simp [List.getD_eq_getElem?_getD, hlt])
      clear hcl
      generalize xs.getD k 0 = x at hcl' T xl
      have q1 := hide (fun W' => single_any x W' xl)
      have q2 := hide (fun W' => union_any (setOf (xs.take k)) (single x) W' ok (single_ok xl))
      rw [← unhide T] at q2
      unfold keyV at q1 q2
      have ub' : ub < w.heap.size := block_lt_of_cell (unhide HU k hlt)
      generalize single x = sx at q1 q2 T
      generalize hsk : setOf (xs.take k) = sk at c0 c1 q2 hst ok T
      generalize hsn : setOf (xs.take (k + 1)) = sn at q2 T
      have HSN := hide hsn
      clear ok xl T hsk hsn
      go_wp2
      go_region_with (first
        | (go_at_call 73; refine (unhide q1 _).mono ?_; rintro e6 w6 ⟨rfl, hb6⟩; have B6 : Hid (Below wr.heap.size wr w6) := (Below.refl _ _).drew.trans hb6; have d0 := ((unhide B6).cell (p := ⟨w.heap.size + 1, 0, none⟩) (by simp; omega)).trans c0; have d1 := ((unhide B6).cell (p := ⟨w.heap.size + 1, 1, none⟩) (by simp; omega)).trans c1; have s6 := hb6.size; clear hb6)
        | (go_at_call 75; refine (unhide q2 _).mono ?_; rintro e7 w7 ⟨rfl, hb7⟩; have B7 : Hid (Below wr.heap.size wr w7) := (unhide B6).trans (hb7.mono (unhide B6).size); have e0 := ((unhide B7).cell (p := ⟨w.heap.size + 1, 0, none⟩) (by simp; omega)).trans c0; have e1 := ((unhide B7).cell (p := ⟨w.heap.size + 1, 1, none⟩) (by simp; omega)).trans c1; have e2 := ((unhide B7).frozen (p := ⟨w.heap.size + 1, 0, none⟩) (by simp; omega)).trans f0; have e3 := ((unhide B7).frozen (p := ⟨w.heap.size + 1, 1, none⟩) (by simp; omega)).trans f1; clear hb7))
      all_goals
        have SN := hide ((unhide hst).put (t := sn) (unhide B7))
        go_wp2
        go_roundw
        case rel => exact ⟨k + 1, by omega, ret_int' (by omega), by rw [unhide HSN]; exact SN⟩
        case measure => simp [intOf]; omega
    · have e : k = xs.length := by omega
      subst e
      rw [List.take_of_length_le (Nat.le_refl _)] at hst c0 c1
      obtain ⟨sk, hsk⟩ : ∃ x, x = setOf xs := ⟨_, rfl⟩
      rw [← hsk] at hst c0 c1
      have HSK := hide hsk
      clear hsk ok
      go_wp2
      refine bodyPost_ret (v := .agg #[.int .u64 (sk.1 : Int), .int .u64 (sk.2 : Int)]) (by simp [results, Tryz.results69, go_sem, r0, r1]) rfl ⟨by rw [← unhide HSK]; rfl, ?_⟩
      exact (((unhide hst).below.setCell (by simp) _).setCell (by simp) _)
end Rd
end Go.Proofs.YtceahffmenbibaaGreatDoor
