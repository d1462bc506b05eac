/- Tord. -/
import Derived.Test.YtceahffmenbibaaGreatDoorG04
import Derived.Test.YtceahffmenbibaaGreatDoorG40
set_option linter.unusedVariables false
set_option linter.unusedSimpArgs false
namespace Go.Proofs.YtceahffmenbibaaGreatDoor
namespace So
open Rd
def EqL (L L':List Cl):Prop:=∀ e:Cl,L.countP (fun d=>sameB d e)=L'.countP (fun d=>sameB d e)
variable {L L':List Cl} {c:Cl}
theorem EqL.symm (h:EqL L L'):EqL L' L:=fun e=>(h e).symm
theorem EqL.sets (h:EqL L L'):SameSets L L':=fun c hc=>by
 have h1:0 < L.countP (fun d=>sameB d c):=List.countP_pos_iff.2 ⟨c,hc,sameB_mem.2 fun _=>Iff.rfl⟩
 rw [h c] at h1
 obtain ⟨d,hd,hs⟩:=List.countP_pos_iff.1 h1
 exact ⟨d,hd,fun l=>(sameB_mem.1 hs l).symm⟩
theorem EqL.of_perm (h:L.Perm L'):EqL L L':=fun e=>h.countP_eq _
theorem EqL.snoc (h:EqL L L') (c:Cl):EqL (L ++ [c]) (L' ++ [c]):=fun e=>by
 rw [List.countP_append,List.countP_append,h e]
theorem EqL.right (h:EqL L L') (hr:RightP L c):RightP L' c:=by
 rcases hr with hr | ⟨l,r,e,hr⟩
 ·exact .inl (conf_same h.sets (fun _ h=>h) hr)
 ·refine .inr ⟨l,r,e,fun D hD hl=>?_⟩
  obtain ⟨D',h1,h2⟩:=h.symm.sets D hD
  refine conf_same h.sets (fun x hx=>?_) (hr D' h1 ((h2 _).1 hl))
  rcases List.mem_append.1 hx with hx | hx
  ·exact List.mem_append_left _ hx
  ·obtain ⟨y,g1,g2,rfl⟩:=mem_opp.1 hx
   exact List.mem_append_right _ (mem_opp.2 ⟨y,(h2 y).2 g1,g2,rfl⟩)
theorem rem_none:∀ {L:List Cl} {c:Cl},rem L c=none→L.countP (fun d=>sameB d c)=0
 | [],c,h=>rfl
 | d :: r,c,h=>by
  unfold rem at h
  split at h
  ·cases h
  ·rename_i hd
   rw [List.countP_cons,if_neg hd]
   cases hr:rem r c with
   | none=>rw [rem_none hr]
   | some M=>rw [hr] at h;cases h
theorem EqL.rem (h:EqL L L') {M:List Cl} (hr:rem L c=some M):∃ M',rem L' c=some M'∧EqL M M':=by
 have hp:0 < L.countP (fun d=>sameB d c):=by
  refine Nat.pos_of_ne_zero fun e=>?_
  have key:∀ {L:List Cl} {M:List Cl},Rd.rem L c=some M→L.countP (fun d=>sameB d c) ≠ 0:=by
   intro L
   induction L with
   | nil=>intro M h;simp [Rd.rem] at h
   | cons d r ih=>
    intro M h
    unfold Rd.rem at h
    rw [List.countP_cons]
    split at h
    ·rename_i hd;rw [if_pos hd];omega
    ·rename_i hd
     rw [if_neg hd]
     cases hr:Rd.rem r c with
     | none=>rw [hr] at h;cases h
     | some N=>have:=ih hr;omega
  exact key hr e
 obtain ⟨M1,a1,a2⟩:=rem_some hp
 rw [hr] at a1
 obtain rfl:=Option.some.inj a1
 obtain ⟨M2,b1,b2⟩:=rem_some (L:=L') (c:=c) (by rw [← h c];exact hp)
 refine ⟨M2,b1,fun e=>?_⟩
 have:=a2 e
 have:=b2 e
 have:=h e
 omega
theorem chk_order {v:Bs}:∀ (ps:List Bs) {L L':List Cl} (k:Nat) (res:Nat × Nat),EqL L L'→chk v L ps k res→chk v L' ps k res
 | [],L,L',k,res,hE,h=>h
 | p :: r,L,L',k,res,hE,h=>by
  unfold chk at h ⊢
  split
  ·rename_i hr
   rw [if_pos hr] at h;exact h
  ·rename_i hr
   rw [if_neg hr] at h
   split
   ·rename_i hl;rw [hl] at h;exact h
   ·rename_i c hl
    rw [hl] at h
    simp only at h
    cases hm:rem L c with
    | none=>
     rw [hm] at h
     cases hm':rem L' c with
     | none=>exact h
     | some M'=>
      obtain ⟨M,g,_⟩:=hE.symm.rem hm'
      rw [hm] at g;cases g
    | some M=>
     rw [hm] at h
     obtain ⟨M',g1,g2⟩:=hE.rem hm
     rw [g1]
     exact chk_order r (k + 1) res g2 h
   ·rename_i c hl
    rw [hl] at h
    simp only at h
    refine ⟨fun hn=>h.1 fun hR=>hn (hE.right hR),fun hR=>?_⟩
    have h2:=h.2 (hE.symm.right hR)
    split
    ·rename_i he;rw [if_pos he] at h2;exact h2
    ·rename_i he;rw [if_neg he] at h2;exact chk_order r (k + 1) res (hE.snoc c) h2
end So
end Go.Proofs.YtceahffmenbibaaGreatDoor
