/- Walk of lists, the body. -/
import Derived.Test.YtceahffmenbibaaGreatDoorLawC
namespace Go.Proofs.YtceahffmenbibaaGreatDoor
namespace Rd
open Go Go.RowKit Go.Deep
set_option linter.unusedVariables false
set_option linter.unusedSimpArgs false

/-- the second loop -/
structure Mid2 (w wr : World) (H N : Nat) (kv kv' : Value) (es : List Ent) (ao : Option Addr) (CB : Nat) (B : Nat → Nat) (cl : List (List Int)) (OB i : Nat) : Prop where
  hold : Hold wr H (N + cl.length + 1) kv' es (fun c => c = CB)
  outer : (ao = none ∧ cl = []) ∨ (ao = some ⟨CB, 0, none⟩ ∧ wr.rowIs CB 43 cl.length (ownAt B cl (.slice (some ⟨OB, 0, none⟩) 1 1) i))
  own : wr.cell? ⟨OB, 0, none⟩ = some (.int .i64 (mkv (N + cl.length + 1)))
  chg : Chg w wr (St H kv CB B cl.length)
  at' : kv'.ownBlock = kv.ownBlock ∨ ∃ g, kv'.ownBlock = some g ∧ w.heap.size ≤ g
  new : w.heap.size ≤ OB

theorem Mid2.step {w wr : World} {H N : Nat} {kv kv' : Value} {es : List Ent} {ao : Option Addr} {CB : Nat} {B : Nat → Nat} {cl : List (List Int)} {OB i : Nat} (h : Mid2 w wr H N kv kv' es ao CB B cl OB i) (hf : Fresh w H kv ao CB B cl) (hi : i < cl.length) (hk : some CB ≠ kv'.ownBlock) :
    Mid2 w (wr.setCell ⟨CB, i, none⟩ (.slice (some ⟨OB, 0, none⟩) 1 1)) H N kv kv' es ao CB B cl OB (i + 1) where
  hold := h.hold.put (by have := hf.low; omega) hk rfl i _
  outer := by
    rcases h.outer with ⟨e, e2⟩ | ⟨e, hr⟩
    · rw [e2] at hi; simp at hi
    · refine .inr ⟨e, (hr.set i _).congr fun j hj => ?_⟩
      unfold ownAt
      by_cases e : j = i
      · subst e; simp
      · by_cases e' : j < i
        · simp [e, e', show j < i + 1 by omega]
        · simp [e, e', show ¬ j < i + 1 by omega]
  own := by
    have hne : OB ≠ CB := by have := h.new; have := hf.cblt; omega
    rw [World.cell?_of_block (w := wr) (a := ⟨OB, 0, none⟩) (Below.heap_setCell _ _ _ _ hne)]; exact h.own
  chg := h.chg.trans (Chg.setCell wr (S := fun k => k = CB) _ _ rfl) (fun x _ e => .inr (.inr (.inl e)))
  at' := h.at'
  new := h.new

set_option maxHeartbeats 4000000 in
theorem lists_any (H N : Nat) (kv : Value) (es : List Ent) (ao : Option Addr) (CB : Nat) (B : Nat → Nat) (cl : List (List Int)) (w : World) (hH : Hold w H N kv es (Rs CB B cl.length 0)) (hF : Fresh w H kv ao CB B cl)
    (hN : N + cl.length ≤ 2999999) (hC : cl.length ≤ 20000) (hi : ∀ j, (cl.getD j []).length ≤ 20000) :
    Calls Tryz.prog 48 #[.pointer (some ⟨H, 0, none⟩), .slice ao cl.length cl.length] w fun e w' => e = .returned (.tuple #[]) ∧ ∃ kv' es',
      Hold w' H (N + cl.length + 1) kv' es' (fun _ => False) ∧ Chg w w' (St H kv CB B cl.length) := by
  obtain ⟨i0, hi0, hz0, hz1, hz2⟩ := info_parts Tryz.infoInts'
  obtain ⟨j0, hj0, hy0, hy1, hy2⟩ := info_parts Tryz.infoKept
  have HF := hide hF
  have HI := hide hi
  have M0 : Hid (Mid1 w w H N kv kv es ao CB B cl 0) := ⟨hH, hF.shape, fun j _ hj => (hF.inner j hj).2, Chg.refl _ _, .inl rfl⟩
  have HLEN := hide hH.len
  clear hH hF hi
  go_enter Tryz.func48, Tryz.ntmps48
  go_wp2
  go_loopw [4] (fun i wr => ∃ (k : Nat) (kv' : Value) (es' : List Ent), k ≤ cl.length ∧ i = .int .i64 k ∧ Hid (Mid1 w wr H N kv kv' es' ao CB B cl k)) (fun i _ => cl.length - (intOf i).toNat)
  case atStart => exact ⟨0, kv, es, Nat.zero_le _, rfl, M0⟩
  case round =>
    clear M0
    obtain ⟨k, kv', es', hk', rfl, hm⟩ := hrel
    by_cases hlt : k < cl.length
    · obtain ⟨hao, hrow⟩ : ao = some ⟨CB, 0, none⟩ ∧ wr.rowIs CB 43 cl.length (fun j => inV (B j) (cl.getD j [])) := by
        rcases (unhide hm).outer with ⟨_, e⟩ | h
        · rw [e] at hlt; simp at hlt
        · exact h
      subst hao
      have ck := hrow.cell hlt
      simp only [inV] at ck
      have lw := hrow.lt
      have Hk := hide ((unhide hm).hold)
      have hb1 : B k ≠ H := by have := ((unhide HF).inner k hlt).1; have := (unhide HF).low; omega
      have hb2 := (unhide hm).ne (unhide HF) (B k) (.inr ⟨k, Nat.zero_le _, hlt, rfl⟩)
      have hrl : ∀ c, Rs CB B cl.length k c → c < wr.heap.size := fun c hc => by
        have := ((unhide HF).rlt c (hc.mono (Nat.zero_le _))).1; have := (unhide hm).chg.size; omega
      have hil := unhide HI k
      have IN := hide ((unhide hm).inner k (Nat.le_refl _) hlt)
      have HB2 := hide hb2
      have HRl := hide hrl
      obtain ⟨xs, hxs⟩ : ∃ xs, xs = cl.getD k [] := ⟨_, rfl⟩
      rw [← hxs] at ck hil IN
      clear hrow hb2 hrl hxs
      go_wp2_with fail
      refine (clause_any H (N + k) kv' es' (Rs CB B cl.length k) (B k) xs.length _ wr (unhide Hk) (unhide IN) (fun j hj => ⟨_, rfl⟩) hb1 (unhide HB2) (.inr ⟨k, Nat.le_refl _, hlt, rfl⟩) (unhide HRl) (by omega) hil).mono ?_
      rintro e1 w1 ⟨rfl, kv2, es2, hh, hc, ha⟩
      have NX := hide ((unhide hm).next (unhide HF) hlt hh hc ha)
      clear hh hc ha
      go_wp2
      go_roundw
      case rel => exact ⟨k + 1, kv2, es2, by omega, by go_num, NX⟩
      case measure => simp [intOf]; omega
    · have e1 : k = cl.length := by omega
      subst e1
      have m := unhide hm
      have c0 := m.hold.c0
      have f0 := m.hold.fz
      go_wp2_with (go_at_call 54; refine (mark_cast (N + cl.length) _ (by omega)).mono ?_; rintro e2 w2 ⟨rfl, rfl⟩)
      have kne := m.ne (unhide HF) CB (.inl rfl)
      have M2 : Hid (Mid2 w ((wr.setCell ⟨H, 0, none⟩ (.int .i64 ((N : Int) + cl.length + 1))).alloc (.cells #[.int .i64 (mkv (N + cl.length + 1))] 3)) H N kv kv' es' ao CB B cl wr.heap.size 0) := by
        have hs : (wr.setCell ⟨H, 0, none⟩ (.int .i64 ((N : Int) + cl.length + 1))).heap.size = wr.heap.size := by simp [World.setCell]
        refine ⟨?_, ?_, ?_, ?_, m.at', m.chg.size⟩
        · refine ((m.hold.count (N + cl.length + 1) (by omega)).later ((Below.refl _ _).alloc (Nat.le_refl _) _)).keep (S := fun _ => False) (Chg.refl _ _) (fun h => h) (fun k h => h.elim) (fun c e _ => .inl e)
        · rcases m.outer with e | ⟨e, hr⟩
          · exact .inl e
          · exact .inr ⟨e, ((hr.setOther (a := ⟨H, 0, none⟩) (by have := (unhide HF).low; show CB ≠ H; omega) _).alloc _).congr fun j hj => by simp [ownAt]⟩
        · rw [← hs]; exact World.cell?_alloc_new _ _ _ _
        · exact (m.chg.trans (Chg.setCell wr (S := fun k => k = H) _ _ rfl) (fun x _ e => .inl e)).trans (Chg.of_below (S := fun _ => False) ((Below.refl _ _).alloc (Nat.le_refl _) _)) (fun x _ e => e.elim)
      have HLT0 := m.hold.lt
      have KO0 := m.hold.rowNe
      obtain ⟨OB, hOB⟩ : ∃ OB, OB = wr.heap.size := ⟨_, rfl⟩
      rw [← hOB] at M2 HLT0 KO0 ⊢
      have HLT := hide HLT0
      have KO := hide KO0
      have E4 : Hid (es'.length ≤ 4 * (N + cl.length)) := m.hold.len
      clear m hm c0 f0 HLT0 KO0 hOB
      go_loopw [7] (fun i wr => ∃ k : Nat, k ≤ cl.length ∧ i = .int .i64 k ∧ Hid (Mid2 w wr H N kv kv' es' ao CB B cl OB k)) (fun i _ => cl.length - (intOf i).toNat)
      case atStart => exact ⟨0, Nat.zero_le _, rfl, M2⟩
      case round =>
        clear M2
        obtain ⟨p, hp, rfl, hm2⟩ := hrel
        by_cases hpl : p < cl.length
        · obtain ⟨hao, hrow⟩ : ao = some ⟨CB, 0, none⟩ ∧ wr.rowIs CB 43 cl.length (ownAt B cl (.slice (some ⟨OB, 0, none⟩) 1 1) p) := by
            rcases (unhide hm2).outer with ⟨_, e⟩ | h
            · rw [e] at hpl; simp at hpl
            · exact h
          subst hao
          have ck := hrow.cell hpl
          rw [show ownAt B cl (.slice (some ⟨OB, 0, none⟩) 1 1) p p = inV (B p) (cl.getD p []) from by simp [ownAt]] at ck
          simp only [inV] at ck
          have fk := hrow.frozen p
          have NX := hide ((unhide hm2).step (unhide HF) hpl kne)
          clear hrow
          go_wp2
          go_roundw
          case rel => exact ⟨p + 1, by omega, by go_num, NX⟩
          case measure => simp [intOf]; omega
        · have e2 : p = cl.length := by omega
          subst e2
          have m := unhide hm2
          have OL : Hid (OldsV wr ao cl.length (.slice (some ⟨OB, 0, none⟩) 1 1)) := by
            intro c hc j x hj
            have hjl : j < cl.length := by have := (List.getElem?_eq_some_iff.1 hj).1; simpa using this
            rw [List.getElem?_replicate, if_pos hjl] at hj
            rcases m.outer with ⟨_, e⟩ | ⟨e, hr⟩
            · rw [e] at hjl; simp at hjl
            · rw [e] at hc; cases hc
              rw [Addr.add_lit, ← Option.some.inj hj]
              have := hr.cell hjl
              rw [show ownAt B cl (.slice (some ⟨OB, 0, none⟩) 1 1) cl.length j = (.slice (some ⟨OB, 0, none⟩) 1 1) from by simp [ownAt, hjl]] at this
              simpa using this
          have HNo : Hid (ao = none → cl.length = 0 ∧ cl.length = 0) := fun e => by
            rcases m.outer with ⟨_, e2⟩ | ⟨e2, _⟩
            · rw [e2]; exact ⟨rfl, rfl⟩
            · rw [e] at e2; cases e2
          have hnw := m.new
          clear hm2
          go_wp2_with (at_builtin; refine wpList_append_grows _ rfl (.tmp 47) (.tmp 49) 32 rfl 43 i0 (.slice none 0 0) 1 24 Tryz.underlying32 hi0 hz0 hz1 hz2 rfl (by decide) ao cl.length cl.length (List.replicate cl.length (.slice (some ⟨OB, 0, none⟩) 1 1)) rfl (unhide HNo) (by simp) (fun c hc j u hj => cell_alloc_old (unhide OL c hc j u hj)) _ 1 1 [(.slice (some ⟨OB, 0, none⟩) 1 1)] rfl rfl (cells_new _ [_] _) (by simp [Value.oneCell']) (by omega) (by unfold maxLen; omega) (by omega) ?_)
          intro va wa hva hga
          have Ba := hide (bel_grown hga)
          have hva' : wa.ownsRow (wr.heap.size + 1) 43 1 va (cl.length + 1) (List.replicate cl.length (.slice (some ⟨OB, 0, none⟩) 1 1) ++ List.replicate 1 (.slice (some ⟨OB, 0, none⟩) 1 1)) := by simpa using hva
          have Ra := hide ((newRowV_of hva' (by omega)).mono (B' := wr.heap.size) (by omega))
          have OLa := hide ((unhide OL).later (unhide Ba))
          clear hva hva' hga OL
          go_wp2_with (at_builtin; refine wpList_append_grows _ rfl (.tmp 51) (.tmp 54) 32 rfl 43 i0 (.slice none 0 0) 1 24 Tryz.underlying32 hi0 hz0 hz1 hz2 rfl (by decide) ao cl.length cl.length (List.replicate cl.length (.slice (some ⟨OB, 0, none⟩) 1 1)) rfl (unhide HNo) (by simp) (fun c hc j u hj => cell_alloc_old (unhide OLa c hc j u hj)) _ 2 2 [(.slice (some ⟨OB, 0, none⟩) 1 1), (.slice (some ⟨OB, 0, none⟩) 1 1)] rfl rfl (cells_new _ [_, _] _) (by simp [Value.oneCell']) (by omega) (by unfold maxLen; omega) (by omega) ?_)
          intro vb wb hvb hgb
          have Bb := hide (bel_grown hgb)
          have sa := (unhide Ba).size
          have hvb' : wb.ownsRow (wa.heap.size + 1) 43 1 vb (cl.length + 2) (List.replicate cl.length (.slice (some ⟨OB, 0, none⟩) 1 1) ++ List.replicate 2 (.slice (some ⟨OB, 0, none⟩) 1 1)) := by simpa using hvb
          have Rb := hide ((newRowV_of hvb' (by omega)).mono (B' := wr.heap.size) (by omega))
          have OLb := hide ((unhide OLa).later (unhide Bb))
          clear hvb hvb' hgb OLa
          go_wp2_with (at_builtin; refine wpList_append_grows _ rfl (.tmp 56) (.tmp 60) 32 rfl 43 i0 (.slice none 0 0) 1 24 Tryz.underlying32 hi0 hz0 hz1 hz2 rfl (by decide) ao cl.length cl.length (List.replicate cl.length (.slice (some ⟨OB, 0, none⟩) 1 1)) rfl (unhide HNo) (by simp) (fun c hc j u hj => cell_alloc_old (unhide OLb c hc j u hj)) _ 3 3 [(.slice (some ⟨OB, 0, none⟩) 1 1), (.slice (some ⟨OB, 0, none⟩) 1 1), (.slice (some ⟨OB, 0, none⟩) 1 1)] rfl rfl (cells_new _ [_, _, _] _) (by simp [Value.oneCell']) (by omega) (by unfold maxLen; omega) (by omega) ?_)
          intro vc wc hvc hgc
          have Bc := hide (bel_grown hgc)
          have sbb := (unhide Bb).size
          have scc := (unhide Bc).size
          have hvc' : wc.ownsRow (wb.heap.size + 1) 43 1 vc (cl.length + 3) (List.replicate cl.length (.slice (some ⟨OB, 0, none⟩) 1 1) ++ List.replicate 3 (.slice (some ⟨OB, 0, none⟩) 1 1)) := by simpa using hvc
          have Rc := hide ((newRowV_of hvc' (by omega)).mono (B' := wr.heap.size) (by omega))
          clear hvc hvc' hgc OLb
          have Rb2 := hide ((unhide Rb).later (unhide Bc))
          have Ra2 := hide (((unhide Ra).later (unhide Bb)).later (unhide Bc))
          have Ball : Hid (Below wr.heap.size wr wc) := ((unhide Ba).trans ((unhide Bb).mono sa)).trans ((unhide Bc).mono (by omega))
          have HBc := hide (m.hold.later (unhide Ball))
          have M := hide m
          clear m Ra Rb Ba Bb Bc
          obtain ⟨ga, ca, rfl, hga, ra⟩ := unhide Ra2
          obtain ⟨gb, cb, rfl, hgb, rb⟩ := unhide Rb2
          obtain ⟨gc, cc, rfl, hgc, rc⟩ := unhide Rc
          have RA := hide ra
          have RB := hide rb
          have RC := hide rc
          clear ra rb rc Ra2 Rb2 Rc
          have c1 := (unhide HBc).c1
          have f1 := (unhide HBc).fz
          have el := (unhide HBc).len
          have hHl := (unhide HBc).lt
          go_wp2_with (at_builtin; refine wpList_append_own_at _ rfl (.tmp 66) (.tmp 79) 55 rfl (H + 1) 102 j0 _ 4 80 Tryz.underlying55 hj0 hy0 hy1 hy2 rfl (by decide) kv' _ _ rfl ((unhide HBc).own.alloc _) ⟨wc.heap.size, 0, none⟩ 4 4 _ rfl rfl (cells_new _ _ _) (by simp [Value.oneCell']) (by unfold maxLen; omega) (by omega) (by simp; omega) ?_)
          intro kw wd hown' hgrow _ hat
          have hHk : some H ≠ kv'.ownBlock := fun e => by have := (unhide HBc).rowNe H e.symm; omega
          have d1 : wd.cell? ⟨H, 1, none⟩ = some kv' := hgrow.cell (cell_alloc_old c1) hHk
          have d2 : wd.frozen? ⟨H, 1, none⟩ = false := by
            rw [World.frozen?_of_block (w := wc) (a := ⟨H, 1, none⟩) ((hgrow.block H (by simp; omega) hHk).trans (Below.heap_alloc _ _ _ hHl))]; exact f1 1
          have OBc : wc.cell? ⟨OB, 0, none⟩ = some (.int .i64 (mkv (N + cl.length + 1))) := by
            have := (unhide M).own
            rw [(unhide Ball).cell (p := ⟨OB, 0, none⟩) (block_lt_of_cell this)]; exact this
          have frOB : Fr H kv' (fun _ => False) OB := by
            have h1 := unhide HLT
            refine ⟨by omega, fun e => ?_, fun h => h⟩
            have := unhide KO OB e.symm; omega
          have fresh : ∀ g, wr.heap.size ≤ g → Fr H kv' (fun _ => False) g := fun g hg => by
            have h1 := (unhide M).hold.lt
            refine ⟨by omega, fun e => ?_, fun h => h⟩
            have := (unhide M).hold.rowNe g e.symm; omega
          have frCB : Fr H kv' (fun _ => False) CB := ⟨by have := (unhide HF).low; omega, kne, fun h => h⟩
          have HF2 : Hid (Hold (wd.setCell ⟨H, 1, none⟩ kw) H (N + cl.length + 1) kw (es' ++ [(N + cl.length + 1, .slice none 0 0, .slice ao cl.length cl.length), (N + cl.length + 1, .slice none 0 0, .slice (some ⟨ga, 0, none⟩) (cl.length + 1) ca), (N + cl.length + 1, .slice none 0 0, .slice (some ⟨gb, 0, none⟩) (cl.length + 2) cb), (N + cl.length + 1, .slice none 0 0, .slice (some ⟨gc, 0, none⟩) (cl.length + 3) cc)]) (fun _ => False)) := by
            refine (unhide HBc).push (R' := fun _ => False) hgrow (by simpa [entCells] using hown') hat ?_ (fun c hc => hc.elim) (by have := unhide E4; simp; omega)
            intro e he
            simp only [List.mem_cons, List.not_mem_nil, or_false] at he
            rcases he with rfl | rfl | rfl | rfl
            · refine ⟨by simp; omega, okRow_nil _ _ _, ⟨ao, cl.length, cl.length, CB, rfl, by omega, fun h0 => ?_, fun j hj => ⟨OB, 1, ?_, frOB, OBc⟩⟩⟩
              · rcases (unhide M).outer with ⟨_, e⟩ | ⟨e, _⟩
                · rw [e] at h0; simp at h0
                · exact ⟨e, frCB⟩
              · rcases (unhide M).outer with ⟨_, e⟩ | ⟨e, hr⟩
                · rw [e] at hj; simp at hj
                · have := hr.cell hj
                  rw [show ownAt B cl (.slice (some ⟨OB, 0, none⟩) 1 1) cl.length j = (.slice (some ⟨OB, 0, none⟩) 1 1) from by simp [ownAt, hj]] at this
                  rw [(unhide Ball).cell (p := ⟨CB, j, none⟩) (block_lt_of_cell this)]; exact this
            · exact ⟨by simp; omega, okRow_nil _ _ _, ⟨_, _, ca, ga, rfl, by omega, fun _ => ⟨rfl, fresh ga hga⟩, fun j hj => ⟨OB, 1, unhide RA j hj, frOB, OBc⟩⟩⟩
            · exact ⟨by simp; omega, okRow_nil _ _ _, ⟨_, _, cb, gb, rfl, by omega, fun _ => ⟨rfl, fresh gb hgb⟩, fun j hj => ⟨OB, 1, unhide RB j hj, frOB, OBc⟩⟩⟩
            · exact ⟨by simp; omega, okRow_nil _ _ _, ⟨_, _, cc, gc, rfl, by omega, fun _ => ⟨rfl, fresh gc hgc⟩, fun j hj => ⟨OB, 1, unhide RC j hj, frOB, OBc⟩⟩⟩
          have CG : Hid (Chg w (wd.setCell ⟨H, 1, none⟩ kw) (St H kv CB B cl.length)) := by
            have a1 : Chg w wc (St H kv CB B cl.length) := (unhide M).chg.trans (Chg.of_below (S := fun _ => False) (unhide Ball)) (fun x _ e => e.elim)
            have a2 : Chg w wd (St H kv CB B cl.length) := a1.trans ((Chg.of_below (S := fun k => some k = kv'.ownBlock) ((Below.refl _ _).alloc (Nat.le_refl _) _)).trans (Chg.grown (S := fun k => some k = kv'.ownBlock) hgrow (fun k hk => hk.symm)) (fun x _ e => e)) (fun x hx e => by
              rcases (unhide M).at' with e2 | ⟨g, e2, hg⟩
              · exact .inr (.inl (by rw [← e2]; exact e))
              · rw [e2] at e; simp at e; omega)
            exact a2.trans (Chg.setCell wd (S := fun k => k = H) _ _ rfl) (fun x _ e => .inl e)
          obtain ⟨ka, kc, hkv⟩ := own_shape4 hown'
          subst hkv
          clear hown' hgrow hat
          go_wp2
          go_end0
          exact ⟨rfl, _, _, unhide HF2, unhide CG⟩
end Rd
end Go.Proofs.YtceahffmenbibaaGreatDoor
