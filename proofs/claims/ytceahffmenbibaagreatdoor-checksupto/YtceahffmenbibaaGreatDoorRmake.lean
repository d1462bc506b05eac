/- The walk of makeClauses. -/
import Derived.Test.YtceahffmenbibaaGreatDoorRparse
import Derived.Test.YtceahffmenbibaaGreatDoorRmem
import Derived.Deep.RegionWith
import Derived.Deep.QuietTactic
import Derived.BigQuiet
namespace Go.Proofs.YtceahffmenbibaaGreatDoor
namespace Rd
open Go Go.RowKit Go.Proofs Go.Deep
set_option linter.unusedVariables false
set_option linter.unusedSimpArgs false

theorem bcell {W w1 : World} (hb : Below W.heap.size W w1) : (∀ b o, b < W.heap.size → w1.cell? ⟨b, o, none⟩ = W.cell? ⟨b, o, none⟩) ∧ (∀ b o, b < W.heap.size → w1.frozen? ⟨b, o, none⟩ = W.frozen? ⟨b, o, none⟩) :=
  ⟨fun b o h => hb.cell (p := ⟨b, o, none⟩) h, fun b o h => hb.frozen (p := ⟨b, o, none⟩) h⟩

set_option maxHeartbeats 400000 in
theorem toInt_any (t : ByteArray) (n : Int) (w : World) (hl : t.size ≤ 18) (h : Lib.atoi t.data.toList = some n) :
    Calls Tryz.prog 37 #[.string t] w fun e w' => e = .returned (.int .i64 n) ∧ Below w.heap.size w w' := by
  have H := hide h; clear h
  go_enter Tryz.func37, Tryz.ntmps37
  go_wp2_with fail
  refine (Tryz.strconv_Atoi t n hl (unhide H) _).mono ?_
  rintro e w1 ⟨rfl, s, rfl⟩
  go_wp2
  go_ret
  exact ⟨rfl, Joins.below_bytesWorld _ _ _ _ (Nat.le_refl _)⟩

theorem idx_zero : ∀ (zs : List ByteArray) (i : Nat), 0 < zeros (bss zs) → Lib.idxFromS zs ⟨#[48]⟩ i = ((i + ((bss zs).takeWhile nz).length : Nat) : Int)
  | [], i, h => by simp [bss, zeros] at h
  | z :: r, i, h => by
    have e : (z = (⟨#[48]⟩ : ByteArray)) ↔ zero z.data.toList = true := by
      unfold zero
      constructor
      · intro h; subst h; rfl
      · intro h
        have h' : z.data.toList = [48] := by simpa using h
        exact ByteArray.ext (Array.toList_inj.1 h')
    have hb : bss (z :: r) = z.data.toList :: bss r := rfl
    unfold Lib.idxFromS
    by_cases hz : zero z.data.toList = true
    · rw [if_pos (e.2 hz), hb]
      simp [nz, hz]
    · have hz' : zero z.data.toList = false := by simpa using hz
      rw [if_neg (fun h => hz (e.1 h)), idx_zero r (i + 1) (by rw [hb, zeros_cons, hz'] at h; simpa using h), hb]
      simp [nz, hz']
      omega

theorem Tryz.infoInt : (Tryz.prog.info? 3).map (fun i => (i.zero, i.size, i.bytes)) = some (some (.int .i64 0), 1, 8) := by kernel_rfl
theorem Tryz.infoInts : (Tryz.prog.info? 43).map (fun i => (i.zero, i.size, i.bytes)) = some (some (.slice none 0 0), 1, 24) := by kernel_rfl

/-- every literal is short -/
def shortLits (T : List Bs) : Prop := ∀ t ∈ T, zero t = false → Lib.atoi t = some (litVal t) ∧ t.length ≤ 18

theorem cls_len : ∀ (c : Nat) (T : List Bs) (j : Nat), ((cls c T).getD j []).length ≤ T.length
  | 0, T, j => by simp [cls]
  | c + 1, T, 0 => by
    simp only [cls, List.getD_cons_zero, List.length_map]
    exact (List.takeWhile_prefix _).length_le
  | c + 1, T, j + 1 => by
    simp only [cls, List.getD_cons_succ]
    have := cls_len c (T.drop ((T.takeWhile nz).length + 1)) j
    simp only [List.length_drop] at this
    omega

/-- where the k-th clause's tokens begin -/
structure Cut (T : List ByteArray) (C : Nat) (cl : List (List Int)) (k off : Nat) : Prop where
  le : off ≤ T.length
  zs : zeros (bss (T.drop off)) = C - k
  cs : cls (C - k) (bss (T.drop off)) = cl.drop k

structure CutNext (T : List ByteArray) (C : Nat) (cl : List (List Int)) (k off e : Nat) : Prop where
  idx : ((bss (T.drop off)).takeWhile nz).length = e
  lt : off + e < T.length
  len : (cl.getD k []).length = e
  lits : ∀ q (h : off + q < T.length), q < e → zero (T[off + q]).data.toList = false ∧ litVal (T[off + q]).data.toList = (cl.getD k []).getD q 0
  next : Cut T C cl (k + 1) (off + e + 1)

theorem bss_drop (T : List ByteArray) (n : Nat) : bss (T.drop n) = (bss T).drop n := by simp [bss, List.map_drop]

theorem Cut.step {T : List ByteArray} {C : Nat} {cl : List (List Int)} {k off : Nat} (h : Cut T C cl k off) (hk : k < C) : CutNext T C cl k off ((bss (T.drop off)).takeWhile nz).length := by
  have hz : 0 < zeros (bss (T.drop off)) := by rw [h.zs]; omega
  obtain ⟨R, h1, h2, h3, h4⟩ := cut_zero hz
  have hcs := h.cs
  rw [show C - k = (C - (k + 1)) + 1 by omega, cls, h2] at hcs
  have hk' : cl.getD k [] = ((bss (T.drop off)).takeWhile nz).map litVal := by
    rw [List.getD_eq_getElem?_getD]
    have : (cl.drop k)[0]? = cl[k]? := by simp
    rw [← this, ← hcs]; rfl
  have hd : cl.drop (k + 1) = cls (C - (k + 1)) R := by
    have : (cl.drop k).drop 1 = cl.drop (k + 1) := by rw [List.drop_drop]
    rw [← this, ← hcs]; rfl
  have hlen := congrArg List.length h1
  simp only [List.length_append, List.length_cons] at hlen
  have hbl : (bss (T.drop off)).length = T.length - off := by simp [bss]
  have hR : bss (T.drop (off + ((bss (T.drop off)).takeWhile nz).length + 1)) = R := by
    rw [bss_drop, Nat.add_assoc, ← List.drop_drop, ← bss_drop, h2]
  refine ⟨rfl, by omega, by rw [hk']; simp, ?_, ⟨by omega, by rw [hR]; have := h.zs; omega, by rw [hR, hd]⟩⟩
  intro q hq hqe
  have hget : (bss (T.drop off))[q]? = some (T[off + q]).data.toList := by
    simp [bss, hq]
  have htw : ((bss (T.drop off)).takeWhile nz)[q]? = some (T[off + q]).data.toList := by
    rw [h1, List.getElem?_append_left hqe] at hget
    exact hget
  refine ⟨h4 _ (List.mem_of_getElem? htw), ?_⟩
  rw [hk', List.getD_eq_getElem?_getD, List.getElem?_map, htw]
  rfl

theorem idx_at {T : List ByteArray} {C : Nat} {cl : List (List Int)} {k off : Nat} (h : Cut T C cl k off) (hk : k < C) : Lib.idxOfS ((T.drop off).take (T.length - off)) ⟨#[48]⟩ = ((((bss (T.drop off)).takeWhile nz).length : Nat) : Int) := by
  rw [List.take_of_length_le (by simp)]
  unfold Lib.idxOfS
  rw [idx_zero _ 0 (by rw [h.zs]; omega)]
  simp

set_option maxHeartbeats 2000000 in
theorem makeClauses_any (v : ByteArray) (T : List ByteArray) (A : Nat) (w : World) (hn : T.length ≤ 20000) (hA : A < w.heap.size)
    (hc : ∀ j (h : j < T.length), w.cell? ⟨A, j, none⟩ = some (.string T[j])) (hs : shortLits (bss T)) :
    Calls Tryz.prog 38 #[.agg (prs v (zeros (bss T)) (lits (bss T)) (some ⟨A, 0, none⟩) T.length)] w fun e w' => ∃ u, e = .returned u ∧ Below w.heap.size w w' ∧
      Lists 43 3 w.heap.size w' u (cls (zeros (bss T)) (bss T)) := by
  have HC := hide hc; clear hc
  have HS := hide hs; clear hs
  have zl := zeros_le (bss T)
  have zl' : (bss T).length = T.length := by simp [bss]
  obtain ⟨C, hC⟩ : ∃ C, C = zeros (bss T) := ⟨_, rfl⟩
  obtain ⟨cl, hcl⟩ : ∃ cl, cl = cls (zeros (bss T)) (bss T) := ⟨_, rfl⟩
  have HL : Hid (cl.length = C) := by unfold Hid; rw [hcl, hC]; exact cls_length _ _
  have HCL : Hid (cl = cls C (bss T)) := by unfold Hid; rw [hcl, hC]
  have HZ := hide hC
  rw [← hcl, ← hC]
  have hC' : C ≤ 20000 := by omega
  have HLs : ∀ j, Hid ((cl.getD j []).length ≤ 20000) := fun j => by
    unfold Hid
    rw [hcl]
    have := cls_len (zeros (bss T)) (bss T) j
    omega
  clear hC hcl zl zl'
  have mk1 := run_make_row' (P := Tryz.prog) 32 43 (.slice none 0 0) 24 Tryz.underlying32 Tryz.infoInts rfl .i64 .i64 C (by omega) (by omega)
  go_enter Tryz.func38, Tryz.ntmps38
  go_wp2
  have M0 : Hid (Mem 43 3 w.heap.size (w.heap.size + 1) cl w ((w.alloc (.cells (prs v C (lits (bss T)) (some ⟨A, 0, none⟩) T.length) 72)).alloc (.cells (madeCells #[.slice none 0 0] C) 43)) 0 (fun _ => 0) 20001) := by
    refine ⟨?_, fun j hj => absurd hj (Nat.not_lt_zero _), fun j j' _ h => absurd h (Nat.not_lt_zero _), ((Below.refl _ _).alloc (Nat.le_refl _) _).alloc (by simp) _, by omega⟩
    rw [unhide HL]
    have hr := World.rowIs_made (w.alloc (.cells (prs v C (lits (bss T)) (some ⟨A, 0, none⟩) T.length) 72)) (.slice none 0 0) C 43
    simp only [World.size_alloc] at hr
    exact hr.congr fun i hi => by simp [outAt]
  go_loopw [4, 16] (fun t i wr => ∃ (k off : Nat) (B : Nat → Nat) (ao : Option Addr), k ≤ C ∧ i = .int .i64 k ∧ t = .slice ao (T.length - off) (T.length - off) ∧ (off < T.length → ao = some ⟨A, off, none⟩) ∧
      Hid (Cut T C cl k off) ∧ Hid (Mem 43 3 w.heap.size (w.heap.size + 1) cl w wr k B 20001)) (fun _ i _ => C - (intOf i).toNat)
  case atStart => exact ⟨0, 0, fun _ => 0, some ⟨A, 0, none⟩, Nat.zero_le _, rfl, rfl, fun _ => rfl, ⟨Nat.zero_le _, (unhide HZ).symm, (unhide HCL).symm⟩, M0⟩
  case round =>
    clear M0 mk1
    obtain ⟨k, off, B, ao, hk, rfl, rfl, hao, hcut, hmem⟩ := hrel
    by_cases hlt : k < C
    · have N := hide ((unhide hcut).step hlt)
      have I := hide (idx_at (unhide hcut) hlt)
      obtain ⟨e, he⟩ : ∃ e, e = ((bss (T.drop off)).takeWhile nz).length := ⟨_, rfl⟩
      rw [← he] at N I
      clear he
      have n1 := (unhide N).lt
      have hao' := hao (by omega)
      subst hao'
      have cC := (unhide hmem).outer.cell (i := k) (by rw [unhide HL]; exact hlt)
      rw [show outAt cl B k k = .slice none 0 0 from by simp [outAt]] at cC
      have fC := (unhide hmem).outer.frozen k
      have lC := (unhide hmem).outer.lt
      clear hao
      go_wp2_with fail
      refine (Tryz.slices_Index_string A off (T.length - off) (T.length - off) (T.drop off) _ _ (by simp) (by omega) ?_).mono ?_
      · intro j hj
        rw [(unhide hmem).below.cell (p := ⟨A, off + j, none⟩) hA]
        have hj' : off + j < T.length := by simp at hj; omega
        rw [unhide HC (off + j) hj']
        simp [List.getD_eq_getElem?_getD, hj']
      rintro e1 w1 ⟨rfl, rfl⟩
      rw [unhide I]
      have mk2 := run_make_row' (P := Tryz.prog) 43 3 (.int .i64 0) 8 Tryz.underlying43 Tryz.infoInt rfl .i64 .i64 e (by omega) (by omega)
      go_wp2
      have M1 : Hid (Mem 43 3 w.heap.size (w.heap.size + 1) cl w ((w1.setCell ⟨w.heap.size + 1, k, none⟩ (.slice (some ⟨w1.heap.size, 0, none⟩) e e)).alloc (.cells (madeCells #[.int .i64 0] e) 3)) (k + 1) (fun j => if j = k then w1.heap.size else B j) 0) :=
        (unhide hmem).push (by rw [unhide HL]; exact hlt) (fun j hj => by
          have := unhide (HLs j)
          omega) e (unhide N).len.symm
      clear mk2 cC fC
      go_loopw [30] (fun i wr => ∃ p : Nat, p ≤ e ∧ i = .int .i64 p ∧ Hid (Mem 43 3 w.heap.size (w.heap.size + 1) cl w wr (k + 1) (fun j => if j = k then w1.heap.size else B j) p)) (fun i _ => e - (intOf i).toNat)
      case atStart => exact ⟨0, Nat.zero_le _, rfl, M1⟩
      case round =>
        clear M1
        obtain ⟨p, hp, rfl, hm⟩ := hrel
        by_cases hpe : p < e
        · have cO := (unhide hm).outer.cell (i := k) (by rw [unhide HL]; exact hlt)
          rw [show outAt cl (fun j => if j = k then w1.heap.size else B j) (k + 1) k = .slice (some ⟨w1.heap.size, 0, none⟩) e e from by simp [outAt, inV]; exact (unhide N).len] at cO
          have hin := ((unhide hm).inner k (by omega)).2
          simp only [if_true] at hin
          have cI := hin.cell (i := p) (by rw [(unhide N).len]; exact hpe)
          rw [show partAt (cl.getD k []) (k + 1 == k + 1) p p = .int .i64 0 from by simp [partAt]] at cI
          have fI := hin.frozen p
          have lI := hin.lt
          have lO := (unhide hm).outer.lt
          clear hin
          have hlT : off + p < T.length := by omega
          have cT : wr.cell? ⟨A, off + p, none⟩ = some (.string T[off + p]) := by
            rw [(unhide hm).below.cell (p := ⟨A, off + p, none⟩) hA]; exact unhide HC (off + p) hlT
          obtain ⟨z1, z2⟩ := (unhide N).lits p hlT hpe
          obtain ⟨s1, s2⟩ := unhide HS (T[off + p]).data.toList (by simp only [bss, List.mem_map]; exact ⟨_, List.getElem_mem hlT, rfl⟩) z1
          rw [z2] at s1
          have s3 : (T[off + p]).size ≤ 18 := by simpa using s2
          obtain ⟨t, ht⟩ : ∃ t, t = T[off + p] := ⟨_, rfl⟩
          rw [← ht] at cT s1 s3
          have S1 := hide s1
          clear ht s1 s2 z1 z2
          obtain ⟨x, hx⟩ : ∃ x, x = (cl.getD k []).getD p 0 := ⟨_, rfl⟩
          rw [← hx] at S1
          have HX := hide hx
          clear hx
          have hAr : A < wr.heap.size := by have := (unhide hm).below.size; omega
          go_wp2
          go_region_with ((go_at_call 37; refine (toInt_any t x _ s3 (unhide S1)).mono ?_; rintro e2 w2 ⟨rfl, hb2⟩; have d1 := (hb2.cell (p := ⟨w1.heap.size, p, none⟩) lI).trans cI; have d2 := (hb2.frozen (p := ⟨w1.heap.size, p, none⟩) lI).trans fI; have d3 := (hb2.cell (p := ⟨w.heap.size + 1, k, none⟩) lO).trans cO; have HB2 := hide hb2; clear hb2))
          all_goals
            go_wp2
            go_roundw
            case rel =>
              refine ⟨p + 1, by omega, by go_num, ?_⟩
              have m2 := ((unhide hm).later ((Below.refl _ wr).drew.trans (unhide HB2))).put x (unhide HX)
              simp only [if_true] at m2
              exact m2
            case measure => simp [intOf]; omega
        · have e1 : p = e := by omega
          subst e1
          have nx := hide (unhide N).next
          have ML : Hid (Mem 43 3 w.heap.size (w.heap.size + 1) cl w wr (k + 1) (fun j => if j = k then w1.heap.size else B j) 20001) := by
            have h := unhide hm
            refine ⟨h.outer, fun j hj => ⟨(h.inner j hj).1, (h.inner j hj).2.congr fun q hq => ?_⟩, h.incr, h.below, h.basele⟩
            by_cases e : j = k
            · subst e
              rw [(unhide N).len] at hq
              rw [partAt_full hq, partAt_full (by omega)]
            · have : (j + 1 == k + 1) = false := by simp; omega
              rw [this, partAt_false, partAt_false]
          go_wp2
          refine ⟨⟨k + 1, off + p + 1, _, (if T.length - off = p + 1 then some { block := A, off := off } else some { block := A, off := off + (p + 1) }), by omega, by go_num, ?_, fun h => ?_, unhide nx, unhide ML⟩, by simp [intOf]; omega⟩
          · rw [show T.length - (off + p + 1) = T.length - off - (p + 1) by omega]
          · rw [if_neg (by omega), show off + (p + 1) = off + p + 1 by omega]
    · have e1 : k = C := by omega
      subst e1
      have hl := unhide hmem
      rw [← unhide HL] at hl
      have LL := hide (hl.lists (fun j hj => by have := unhide (HLs j); omega))
      have HB := hide hl.below
      clear hl
      rw [unhide HL] at LL
      go_wp2
      go_ret
      exact ⟨_, rfl, unhide HB, unhide LL⟩
end Rd
end Go.Proofs.YtceahffmenbibaaGreatDoor
