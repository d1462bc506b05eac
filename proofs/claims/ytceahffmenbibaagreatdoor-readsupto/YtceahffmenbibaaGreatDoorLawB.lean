/- Walk of clause. -/
import Derived.Test.YtceahffmenbibaaGreatDoorLawA
namespace Go.Proofs.YtceahffmenbibaaGreatDoor
namespace Rd
open Go Go.RowKit Go.Deep
set_option linter.unusedVariables false
set_option linter.unusedSimpArgs false

theorem Tryz.infoKept : (Tryz.prog.info? 102).map (fun i => (i.zero, i.size, i.bytes)) = some (some (.agg #[.int .i64 0, .slice none 0 0, .slice none 0 0, .slice none 0 0]), 4, 80) := by kernel_rfl

/-- what may turn while a list is taken -/
def Sc (H : Nat) (kv : Value) (b : Nat) (k : Nat) : Prop := k = H ∨ some k = kv.ownBlock ∨ k = b

def markAt (f : Nat → Value) (m : Int) (k j : Nat) : Value := if j < k then .int .i64 m else f j

structure Mid (w wr : World) (H N : Nat) (kv : Value) (es : List Ent) (R : Nat → Prop) (b n : Nat) (f : Nat → Value) (k : Nat) : Prop where
  hold : Hold wr H (N + 1) kv es R
  row : wr.rowIs b 3 n (markAt f (mkv (N + 1)) k)
  chg : Chg w wr (Sc H kv b)

theorem Mid.step {w wr : World} {H N : Nat} {kv : Value} {es : List Ent} {R : Nat → Prop} {b n : Nat} {f : Nat → Value} {k : Nat} (h : Mid w wr H N kv es R b n f k) (hb : b ≠ H) (hk : some b ≠ kv.ownBlock) (hR : R b) :
    Mid w (wr.setCell ⟨b, k, none⟩ (.int .i64 (mkv (N + 1)))) H N kv es R b n f (k + 1) where
  hold := h.hold.put hb hk hR k _
  row := (h.row.set k _).congr fun j hj => by
    unfold markAt
    by_cases e : j = k
    · subst e; simp
    · by_cases e' : j < k
      · simp [e, e', show j < k + 1 by omega]
      · simp [e, e', show ¬ j < k + 1 by omega]
  chg := h.chg.trans (Chg.setCell wr (S := fun k => k = b) _ _ rfl) (fun x _ e => .inr (.inr e))

theorem mark_succ (N : Nat) (w : World) (hN : N ≤ 3000000) : Calls Tryz.prog 54 #[.int .i64 ((N : Int) + 1)] w fun e w' => e = .returned (.int .i64 (mkv (N + 1))) ∧ w = w' :=
  (mark_any (N + 1) w (by omega)).mono fun e w' h => ⟨h.1, h.2.symm⟩
theorem mark_cast (M : Nat) (w : World) (hN : M ≤ 3000000) : Calls Tryz.prog 54 #[.int .i64 (((M : Nat) : Int) + 1)] w fun e w' => e = .returned (.int .i64 (mkv (M + 1))) ∧ w = w' := mark_succ M w hN
theorem cells_new (w : World) (C : List Value) (t : TypeId) : ∀ j u, C[j]? = some u → (w.alloc (.cells C.toArray t)).cell? ((⟨w.heap.size, 0, none⟩ : Addr).add j) = some u := by
  intro j u h
  rw [Addr.add_lit, Nat.zero_add, World.cell?_alloc_new]
  simpa using h
/-- a new list of so many marks -/
def NewRow (B : Nat) (w : World) (v : Value) (k : Nat) (m : Int) : Prop := ∃ g c, v = .slice (some ⟨g, 0, none⟩) k c ∧ B ≤ g ∧ ∀ j, j < k → w.cell? ⟨g, j, none⟩ = some (.int .i64 m)
theorem newRow_of {w : World} {B n d : Nat} {v : Value} {m : Int} {t : TypeId} (h : w.ownsRow B t 1 v (n + d) (List.replicate n (.int .i64 m) ++ List.replicate d (.int .i64 m))) (hd : 0 < d) : NewRow B w v (n + d) m := by
  have hc := h
  rcases h.2 with ⟨_, h0⟩ | ⟨g, cap, cur, rfl, hg, _⟩
  · omega
  · refine ⟨g, cap, rfl, hg, fun j hj => ?_⟩
    have := hc.cells (g := g) rfl j (.int .i64 m) (by rw [List.replicate_append_replicate, List.getElem?_replicate, if_pos hj])
    simpa [Addr.add_lit] using this
theorem NewRow.later {B : Nat} {w w' : World} {v : Value} {k : Nat} {m : Int} (h : NewRow B w v k m) (hb : Below w.heap.size w w') : NewRow B w' v k m := by
  obtain ⟨g, c, h1, h2, h3⟩ := h
  refine ⟨g, c, h1, h2, fun j hj => ?_⟩
  have := h3 j hj
  rw [hb.cell (p := ⟨g, j, none⟩) (block_lt_of_cell this)]; exact this
theorem NewRow.mono {B B' : Nat} {w : World} {v : Value} {k : Nat} {m : Int} (h : NewRow B w v k m) (hB : B' ≤ B) : NewRow B' w v k m := by
  obtain ⟨g, c, h1, h2, h3⟩ := h
  exact ⟨g, c, h1, by omega, h3⟩
theorem bel_grown {w w' : World} {o : Obj} (hg : (w.alloc o).grownBy w' none) : Below w.heap.size w w' :=
  ((Below.refl _ _).alloc (Nat.le_refl _) _).grown hg (by simp) (fun k hk => by cases hk)
/-- old marks, to be read in a later world -/
def Olds (w : World) (b k : Nat) (m : Int) : Prop := ∀ c : Addr, some (⟨b, 0, none⟩ : Addr) = some c → ∀ j u, (List.replicate k (Value.int .i64 m))[j]? = some u → w.cell? (c.add j) = some u
theorem Olds.later {w w' : World} {b k : Nat} {m : Int} (h : Olds w b k m) (hb : Below w.heap.size w w') : Olds w' b k m := fun c hc j u hj => by
  have := h c hc j u hj
  rw [hb.cell (block_lt_of_cell this)]; exact this

theorem cell_alloc_old {w : World} {o : Obj} {a : Addr} {v : Value} (h : w.cell? a = some v) : (w.alloc o).cell? a = some v := by
  rw [World.cell?_alloc_lt _ _ _ (block_lt_of_cell h)]; exact h

set_option maxHeartbeats 4000000 in
theorem clause_any (H N : Nat) (kv : Value) (es : List Ent) (R : Nat → Prop) (b n : Nat) (f : Nat → Value) (w : World) (hH : Hold w H N kv es R) (hrow : w.rowIs b 3 n f) (hf : ∀ j, j < n → ∃ x, f j = .int .i64 x) (hb : b ≠ H) (hk : some b ≠ kv.ownBlock) (hR : R b)
    (hRl : ∀ c, R c → c < w.heap.size) (hN : N ≤ 3000000) (hn : n ≤ 20000) :
    Calls Tryz.prog 85 #[.pointer (some ⟨H, 0, none⟩), .slice (some ⟨b, 0, none⟩) n n] w fun e w' => e = .returned (.tuple #[]) ∧ ∃ kv' es',
      Hold w' H (N + 1) kv' es' (fun c => R c ∧ c ≠ b) ∧ Chg w w' (Sc H kv b) ∧ (kv'.ownBlock = kv.ownBlock ∨ ∃ g, kv'.ownBlock = some g ∧ w.heap.size ≤ g) := by
  obtain ⟨i0, hi, hz0, hz1, hz2⟩ := info_parts Tryz.infoInt'
  obtain ⟨j0, hj, hy0, hy1, hy2⟩ := info_parts Tryz.infoKept
  have c0 := hH.c0
  have fz := hH.fz
  have HH := hide hH
  have HR := hide hrow
  have HF := hide hf
  have HRl := hide hRl
  clear hH hrow hf hRl
  go_enter Tryz.func85, Tryz.ntmps85
  go_wp2
  have M0 : Hid (Mid w (w.setCell ⟨H, 0, none⟩ (.int .i64 ((N : Int) + 1))) H N kv es R b n f 0) := by
    refine ⟨(unhide HH).count (N + 1) (by omega), ?_, Chg.setCell w _ _ (.inl rfl)⟩
    exact ((unhide HR).setOther (a := ⟨H, 0, none⟩) (by exact hb) _).congr fun j hj => by simp [markAt]
  clear c0 fz
  go_loopw [5] (fun i wr => ∃ k : Nat, k ≤ n ∧ i = .int .i64 k ∧ Hid (Mid w wr H N kv es R b n f k)) (fun i _ => n - (intOf i).toNat)
  case atStart => exact ⟨0, Nat.zero_le _, rfl, M0⟩
  case round =>
    clear M0
    obtain ⟨k, hk', rfl, hm⟩ := hrel
    by_cases hlt : k < n
    · have ck := (unhide hm).row.cell hlt
      have fk := (unhide hm).row.frozen k
      obtain ⟨x, hx⟩ := unhide HF k hlt
      rw [show markAt f (mkv (N + 1)) k k = .int .i64 x from by simp [markAt, hx]] at ck
      have N' := hide ((unhide hm).step hb hk hR)
      clear hx
      go_wp2_with (go_at_call 54; refine (mark_succ N _ hN).mono ?_; rintro e1 w1 ⟨rfl, rfl⟩)
      go_roundw
      case rel => exact ⟨k + 1, by omega, by go_num, N'⟩
      case measure => simp [intOf]; omega
    · have e1 : k = n := by omega
      subst e1
      have m := unhide hm
      have OL : Hid (Olds wr b k (mkv (N + 1))) := by
        intro c hc j u hj
        cases hc
        have hjl : j < k := by have := (List.getElem?_eq_some_iff.1 hj).1; simpa using this
        rw [List.getElem?_replicate, if_pos hjl] at hj
        rw [Addr.add_lit, ← Option.some.inj hj]
        have := m.row.cell hjl
        rw [show markAt f (mkv (N + 1)) k j = .int .i64 (mkv (N + 1)) from by simp [markAt, hjl]] at this
        simpa using this
      have HB := hide m.hold
      have HRw := hide m.row
      have HCg := hide m.chg
      clear m hm
      go_wp2_with (first
        | (go_at_call 54; refine (mark_succ N _ hN).mono ?_; rintro e1 w1 ⟨rfl, rfl⟩)
        | (at_builtin; refine wpList_append_grows _ rfl (.tmp 31) (.tmp 34) 43 rfl 3 i0 (.int .i64 0) 1 8 Tryz.underlying43 hi hz0 hz1 hz2 rfl (by decide) (some ⟨b, 0, none⟩) k k (List.replicate k (.int .i64 (mkv (N + 1)))) rfl (by simp) (by simp) (fun c hc j u hj => cell_alloc_old (unhide OL c hc j u hj)) _ 1 1 [.int .i64 (mkv (N + 1))] rfl rfl (cell_one_new _ _ _) (by simp [Value.oneCell']) (by omega) (by unfold maxLen; omega) (by omega) ?_))
      intro va wa hva hga
      have Ba := hide (bel_grown hga)
      have hva' : wa.ownsRow (wr.heap.size + 1) 3 1 va (k + 1) (List.replicate k (.int .i64 (mkv (N + 1))) ++ List.replicate 1 (.int .i64 (mkv (N + 1)))) := by simpa using hva
      have Ra := hide ((newRow_of hva' (by omega)).mono (B' := wr.heap.size) (by omega))
      clear hva'
      have OLa := hide ((unhide OL).later (unhide Ba))
      clear hva hga OL
      go_wp2_with (first
        | (go_at_call 54; refine (mark_succ N _ hN).mono ?_; rintro e1 w1 ⟨rfl, rfl⟩)
        | (at_builtin; refine wpList_append_grows _ rfl (.tmp 36) (.tmp 41) 43 rfl 3 i0 (.int .i64 0) 1 8 Tryz.underlying43 hi hz0 hz1 hz2 rfl (by decide) (some ⟨b, 0, none⟩) k k (List.replicate k (.int .i64 (mkv (N + 1)))) rfl (by simp) (by simp) (fun c hc j u hj => cell_alloc_old (unhide OLa c hc j u hj)) _ 2 2 [.int .i64 (mkv (N + 1)), .int .i64 (mkv (N + 1))] rfl rfl (cells_new _ [_, _] _) (by simp [Value.oneCell']) (by omega) (by unfold maxLen; omega) (by omega) ?_))
      intro vb wb hvb hgb
      have Bb := hide (bel_grown hgb)
      have sa := (unhide Ba).size
      have hvb' : wb.ownsRow (wa.heap.size + 1) 3 1 vb (k + 2) (List.replicate k (.int .i64 (mkv (N + 1))) ++ List.replicate 2 (.int .i64 (mkv (N + 1)))) := by simpa using hvb
      have Rb := hide ((newRow_of hvb' (by omega)).mono (B' := wr.heap.size) (by omega))
      clear hvb'
      have OLb := hide ((unhide OLa).later (unhide Bb))
      clear hvb hgb OLa
      go_wp2_with (first
        | (go_at_call 54; refine (mark_succ N _ hN).mono ?_; rintro e1 w1 ⟨rfl, rfl⟩)
        | (at_builtin; refine wpList_append_grows _ rfl (.tmp 43) (.tmp 50) 43 rfl 3 i0 (.int .i64 0) 1 8 Tryz.underlying43 hi hz0 hz1 hz2 rfl (by decide) (some ⟨b, 0, none⟩) k k (List.replicate k (.int .i64 (mkv (N + 1)))) rfl (by simp) (by simp) (fun c hc j u hj => cell_alloc_old (unhide OLb c hc j u hj)) _ 3 3 [.int .i64 (mkv (N + 1)), .int .i64 (mkv (N + 1)), .int .i64 (mkv (N + 1))] rfl rfl (cells_new _ [_, _, _] _) (by simp [Value.oneCell']) (by omega) (by unfold maxLen; omega) (by omega) ?_))
      intro vc wc hvc hgc
      have Bc := hide (bel_grown hgc)
      have sbb := (unhide Bb).size
      have scc := (unhide Bc).size
      have hvc' : wc.ownsRow (wb.heap.size + 1) 3 1 vc (k + 3) (List.replicate k (.int .i64 (mkv (N + 1))) ++ List.replicate 3 (.int .i64 (mkv (N + 1)))) := by simpa using hvc
      have Rc := hide ((newRow_of hvc' (by omega)).mono (B' := wr.heap.size) (by omega))
      clear hvc'
      clear hvc hgc OLb
      have Rb2 := hide ((unhide Rb).later (unhide Bc))
      have Ra2 := hide (((unhide Ra).later (unhide Bb)).later (unhide Bc))
      have Ball : Hid (Below wr.heap.size wr wc) := ((unhide Ba).trans ((unhide Bb).mono sa)).trans ((unhide Bc).mono (by omega))
      have HBc := hide ((unhide HB).later (unhide Ball))
      have HRc : Hid (wc.rowIs b 3 k (markAt f (mkv (N + 1)) k)) := (unhide HRw).of_block ((unhide Ball).block _ (unhide HRw).lt)
      clear Ra Rb Ba Bb Bc
      obtain ⟨ga, ca, rfl, hga, ra⟩ := unhide Ra2
      obtain ⟨gb, cb, rfl, hgb, rb⟩ := unhide Rb2
      obtain ⟨gc, cc, rfl, hgc, rc⟩ := unhide Rc
      have RA := hide ra
      have RB := hide rb
      have RC := hide rc
      clear ra rb rc Ra2 Rb2 Rc
      have c1 := (unhide HBc).c1
      have f1 := (unhide HBc).fz
      have el := (unhide HBc).len
      have hHl := (unhide HBc).lt
      go_wp2_with (at_builtin; refine wpList_append_own_at _ rfl (.tmp 56) (.tmp 69) 55 rfl (H + 1) 102 j0 _ 4 80 Tryz.underlying55 hj hy0 hy1 hy2 rfl (by decide) kv _ _ rfl ((unhide HBc).own.alloc _) ⟨wc.heap.size, 0, none⟩ 4 4 _ rfl rfl (cells_new _ _ _) (by simp [Value.oneCell']) (by unfold maxLen; omega) (by omega) (by simp; omega) ?_)
      intro kv' wd hown' hgrow _ hat
      have hHk : some H ≠ kv.ownBlock := fun e => by have := (unhide HBc).rowNe H e.symm; omega
      have d1 : wd.cell? ⟨H, 1, none⟩ = some kv := hgrow.cell (cell_alloc_old c1) hHk
      have d2 : wd.frozen? ⟨H, 1, none⟩ = false := by
        rw [World.frozen?_of_block (w := wc) (a := ⟨H, 1, none⟩) ((hgrow.block H (by simp; omega) hHk).trans (Below.heap_alloc _ _ _ hHl))]; exact f1 1
      have fresh : ∀ g, wr.heap.size ≤ g → Fr H kv (fun c => R c ∧ c ≠ b) g := fun g hg => by
        have h1 := (unhide HB).lt
        refine ⟨by omega, fun e => ?_, fun hr => ?_⟩
        · have := (unhide HB).rowNe g e.symm; omega
        · have := unhide HRl g hr.1; have := (unhide HCg).size; omega
      have HF2 : Hid (Hold (wd.setCell ⟨H, 1, none⟩ kv') H (N + 1) kv' (es ++ [(N + 1, .slice (some ⟨b, 0, none⟩) k k, .slice none 0 0), (N + 1, .slice (some ⟨ga, 0, none⟩) (k + 1) ca, .slice none 0 0), (N + 1, .slice (some ⟨gb, 0, none⟩) (k + 2) cb, .slice none 0 0), (N + 1, .slice (some ⟨gc, 0, none⟩) (k + 3) cc, .slice none 0 0)]) (fun c => R c ∧ c ≠ b)) := by
        refine (unhide HBc).push (R' := fun c => R c ∧ c ≠ b) hgrow (by simpa [entCells] using hown') hat ?_ (fun c hc => hc.1) (by have := (unhide HH).len; simp; omega)
        intro e he
        simp only [List.mem_cons, List.not_mem_nil, or_false] at he
        rcases he with rfl | rfl | rfl | rfl
        · refine ⟨by simp; omega, ⟨_, k, k, b, rfl, by omega, fun _ => ⟨rfl, hb, hk, fun hr => hr.2 rfl⟩, fun j hj => ?_⟩, okMany_nil _ _ _⟩
          have := (unhide HRc).cell hj
          rw [show markAt f (mkv (N + 1)) k j = .int .i64 (mkv (N + 1)) from by simp [markAt, hj]] at this
          exact this
        · exact ⟨by simp; omega, ⟨_, _, ca, ga, rfl, by omega, fun _ => ⟨rfl, fresh ga hga⟩, fun j hj => unhide RA j hj⟩, okMany_nil _ _ _⟩
        · exact ⟨by simp; omega, ⟨_, _, cb, gb, rfl, by omega, fun _ => ⟨rfl, fresh gb hgb⟩, fun j hj => unhide RB j hj⟩, okMany_nil _ _ _⟩
        · exact ⟨by simp; omega, ⟨_, _, cc, gc, rfl, by omega, fun _ => ⟨rfl, fresh gc hgc⟩, fun j hj => unhide RC j hj⟩, okMany_nil _ _ _⟩
      have CG : Hid (Chg w (wd.setCell ⟨H, 1, none⟩ kv') (Sc H kv b)) := by
        have a1 : Chg w wc (Sc H kv b) := (unhide HCg).trans (Chg.of_below (S := fun _ => False) (unhide Ball)) (fun x _ e => e.elim)
        have a2 : Chg w wd (Sc H kv b) := a1.trans ((Chg.of_below (S := Sc H kv b) ((Below.refl _ _).alloc (Nat.le_refl _) _)).trans (Chg.grown (S := Sc H kv b) hgrow (fun k hk => .inr (.inl hk.symm))) (fun x _ e => e)) (fun x _ e => e)
        exact a2.trans (Chg.setCell wd (S := Sc H kv b) _ _ (.inl rfl)) (fun x _ e => e)
      have AT : Hid (kv'.ownBlock = kv.ownBlock ∨ ∃ g, kv'.ownBlock = some g ∧ w.heap.size ≤ g) := by
        rcases hat with e | e
        · exact .inl e
        · exact .inr ⟨_, e, by have := (unhide HCg).size; omega⟩
      obtain ⟨ka, kc, hkv⟩ := own_shape4 hown'
      subst hkv
      clear hown' hgrow hat
      go_wp2
      go_end0
      exact ⟨rfl, _, _, unhide HF2, unhide CG, unhide AT⟩
end Rd
end Go.Proofs.YtceahffmenbibaaGreatDoor
