/- Qsto Qchk. -/
import Derived.Test.YtceahffmenbibaaGreatDoorG20
import Derived.Test.YtceahffmenbibaaGreatDoorG12
set_option linter.unusedVariables false
set_option linter.unusedSimpArgs false
namespace Go.Proofs.YtceahffmenbibaaGreatDoor
namespace Rd
theorem look_none {es:List Ent} {s:Key}:look es s=none↔∀ e ∈ es,e.set ≠ s:=by
 unfold look
 rw [List.findIdx?_eq_none_iff]
 constructor
 ·intro h e he;have:=h e he;simpa using this
 ·intro h e he;simpa using h e he
structure SInv (es:List Ent) (wl:Nat→List Nat) (u:Key) (L:List Cl):Prop where
 winv:WInv es wl
 dist:(es.map Ent.set).Nodup
 cnt:∀ e ∈ es,e.times=L.countP (fun d=>decide (setOf d=e.set))
 all:∀ d ∈ L,∃ e ∈ es,e.set=setOf d
 lits:∀ c ∈ L,∀ l ∈ c,In50 l
 units:Units es u
variable {es es':List Ent} {wl wl':Nat→List Nat} {u:Key} {L:List Cl} {c:Cl}
theorem SInv.rep (h:SInv es wl u L):Rep es L where
 ofE:=fun e he ht=>by
  rw [h.cnt e he] at ht
  obtain ⟨d,hd,hs⟩:=List.countP_pos_iff.1 ht
  exact ⟨d,hd,of_decide_eq_true hs⟩
 from':=fun d hd=>by
  obtain ⟨e,he,hs⟩:=h.all d hd
  refine ⟨e,he,?_,hs⟩
  rw [h.cnt e he]
  exact List.countP_pos_iff.2 ⟨d,hd,by rw [hs];simp⟩
 lits:=h.lits
theorem units_sigs (h:sigs es'=sigs es) (hU:Units es u):Units es' u:=⟨hU.ok,fun l il=>by
 rw [hU.iff l il]
 constructor
 ·rintro ⟨e,he,h1,h2⟩
  obtain ⟨e',he',e1,e2⟩:=sigs_mem h.symm he
  exact ⟨e',he',by rw [e2];exact h1,by rw [e1];exact h2⟩
 ·rintro ⟨e,he,h1,h2⟩
  obtain ⟨e',he',e1,e2⟩:=sigs_mem h he
  exact ⟨e',he',by rw [e2];exact h1,by rw [e1];exact h2⟩⟩
theorem sets_sigs (es:List Ent):es.map Ent.set=(sigs es).map Prod.fst:=by unfold sigs;rw [List.map_map];rfl
theorem SInv.same (h:SInv es wl u L) (hs:sigs es'=sigs es) (hW:WInv es' wl'):SInv es' wl' u L where
 winv:=hW
 dist:=by rw [sets_sigs,hs,← sets_sigs];exact h.dist
 cnt:=fun e he=>by
  obtain ⟨e',he',e1,e2⟩:=sigs_mem hs he
  rw [← e2,← e1];exact h.cnt e' he'
 all:=fun d hd=>by
  obtain ⟨e,he,h1⟩:=h.all d hd
  obtain ⟨e',he',e1,e2⟩:=sigs_mem hs.symm he
  exact ⟨e',he',by rw [e1];exact h1⟩
 lits:=h.lits
 units:=units_sigs hs h.units
theorem dist_at (h:(es.map Ent.set).Nodup) {i j:Nat} (hi:i < es.length) (hj:j < es.length) (e:(es[i]).set=(es[j]).set):i=j:=by
 have h1:(es.map Ent.set)[i]'(by simpa using hi)=(es.map Ent.set)[j]'(by simpa using hj):=by simpa using e
 exact (List.getElem_inj h).1 h1
theorem look_at (h:(es.map Ent.set).Nodup) {i:Nat} (hi:i < es.length):look es (es[i]).set=some i:=by
 cases e:look es (es[i]).set with
 | none=>exact absurd rfl (look_none.1 e _ (List.getElem_mem hi))
 | some j=>
  obtain ⟨hj,hs⟩:=look_some e
  rw [dist_at h hj hi hs]
theorem there_iff (h:(es.map Ent.set).Nodup) (s:Key):there es s=true↔∃ e ∈ es,0 < e.times∧e.set=s:=by
 unfold there
 constructor
 ·intro ht
  cases e:look es s with
  | none=>rw [e] at ht;cases ht
  | some i=>
   rw [e] at ht
   obtain ⟨hi,hs⟩:=look_some e
   simp only [List.getElem?_eq_getElem hi] at ht
   exact ⟨_,List.getElem_mem hi,of_decide_eq_true ht,hs⟩
 ·rintro ⟨e,he,ht,hs⟩
  obtain ⟨i,hi,rfl⟩:=List.mem_iff_getElem.1 he
  rw [← hs,look_at h hi]
  simp only [List.getElem?_eq_getElem hi]
  exact decide_eq_true ht
theorem there_empty (h:(es.map Ent.set).Nodup):there es (0,0)=false↔NoEmpty es:=by
 rw [← Bool.not_eq_true,there_iff h]
 constructor
 ·intro hn e he ht h0;exact hn ⟨e,he,ht,h0⟩
 ·rintro hn ⟨e,he,ht,h0⟩;exact hn e he ht h0
theorem bL_spec {s:Key} (hs:s.ok) (h:2 ≤ s.size):IsLit (aL s)∧IsLit (bL s)∧aL s ≠ bL s∧s.has (aL s)=true∧s.has (bL s)=true:=by
 have h0:s ≠ (0,0):=by
  obtain ⟨a,b,_,ha,_⟩:=size_two hs h
  exact (nonempty_iff s).2 ⟨a,ha⟩
 obtain ⟨_,p2,p3⟩:=oneL_spec hs h0
 obtain ⟨_,q2,q3⟩:=oneL_spec (wo_ok hs _) (size_two_wo hs h (isLit_ne p3))
 rw [has_wo,Bool.and_eq_true,Bool.not_eq_true',has_single (isLit_ne p3)] at q2
 exact ⟨p3,q3,fun e=>by have:=q2.2;unfold aL bL at e;rw [← e] at this;simp at this,p2,q2.1⟩
theorem enterW_at {wl:Nat→List Nat} {s:Key} {n:Nat} (hs:s.ok) (h:2 ≤ s.size) (k:Nat):enterW wl s n k=if k=place (aL s)∨k=place (bL s) then wl k ++ [n] else wl k:=by
 obtain ⟨ia,ib,hab,_,_⟩:=bL_spec hs h
 have hp:place (bL s) ≠ place (aL s):=fun e=>hab (place_inj ia ib e.symm)
 unfold enterW
 rw [if_pos h]
 simp only [hp,if_false]
 by_cases h1:k=place (bL s)
 ·rw [if_pos h1,if_pos (.inr h1),h1]
 ·rw [if_neg h1]
  by_cases h2:k=place (aL s)
  ·rw [if_pos h2,if_pos (.inl h2),h2]
  ·rw [if_neg h2,if_neg (by rintro (h | h);exact h2 h;exact h1 h)]
theorem enterE_set (s:Key):(enterE s).set=s:=by unfold enterE;dsimp only
theorem WInv.enterG (h:WInv es wl) {s:Key} {E:Ent} (hs:s.ok) (hE1:E.set=s) (hE2:E.watched=(enterE s).watched):WInv (es ++ [E]) (enterW wl s es.length):=by
 have get:∀ j (hj:j < (es ++ [E]).length),(∃ h0:j < es.length,(es ++ [E])[j]=es[j])∨(j=es.length∧(es ++ [E])[j]=E):=fun j hj=>by
  rcases Nat.lt_or_ge j es.length with h0 | h0
  ·exact .inl ⟨h0,List.getElem_append_left h0⟩
  ·have:j=es.length:=by simp at hj;omega
   subst this
   exact .inr ⟨rfl,by simp⟩
 have sub:∀ k x,x ∈ wl k→x ∈ enterW wl s es.length k:=fun k x hx=>by
  by_cases hz:2 ≤ s.size
  ·rw [enterW_at hs hz];split
   ·exact List.mem_append_left _ hx
   ·exact hx
  ·unfold enterW;rw [if_neg hz];exact hx
 exact {
  two:=fun j hj hz=>by
   rcases get j hj with ⟨h0,e⟩ | ⟨rfl,e⟩
   ·rw [e] at hz ⊢
    obtain ⟨a,b,h1,h2,h3,h4,h5,h6,h7,h8⟩:=h.two j h0 hz
    exact ⟨a,b,h1,h2,h3,h4,h5,h6,sub _ _ h7,sub _ _ h8⟩
   ·rw [e] at hz ⊢
    have hz':2 ≤ s.size:=by rw [hE1] at hz;exact hz
    obtain ⟨ia,ib,hab,ha,hb⟩:=bL_spec hs hz'
    refine ⟨aL s,bL s,hab,ia,ib,by rw [hE1];exact ha,by rw [hE1];exact hb,?_,?_,?_⟩
    ·rw [hE2]
     unfold enterE;simp only [if_pos hz']
    ·rw [enterW_at hs hz',if_pos (.inl rfl)];simp
    ·rw [enterW_at hs hz',if_pos (.inr rfl)];simp
  one:=fun j hj hz=>by
   rcases get j hj with ⟨h0,e⟩ | ⟨rfl,e⟩
   ·rw [e] at hz ⊢;exact h.one j h0 hz
   ·rw [e] at hz ⊢
    have hz':¬ 2 ≤ s.size:=by rw [hE1] at hz;exact hz
    rw [hE2]
    unfold enterE;simp only [if_neg hz']
  lists:=fun k hk j hj=>by
   have old:j ∈ wl k→∃ h:j < (es ++ [E]).length,2 ≤ ((es ++ [E])[j]).set.size∧∃ l,IsLit l∧place l=k∧((es ++ [E])[j]).watched.has l=true:=fun hj=>by
    obtain ⟨h0,h1,l,h2,h3,h4⟩:=h.lists k hk j hj
    refine ⟨by simp;omega,?_⟩
    rw [List.getElem_append_left h0]
    exact ⟨h1,l,h2,h3,h4⟩
   by_cases hz:2 ≤ s.size
   ·rw [enterW_at hs hz] at hj
    split at hj
    ·rename_i hk'
     rcases List.mem_append.1 hj with hj | hj
     ·exact old hj
     ·obtain rfl:j=es.length:=by simpa using hj
      obtain ⟨ia,ib,hab,ha,hb⟩:=bL_spec hs hz
      refine ⟨by simp,?_⟩
      rw [show (es ++ [E])[es.length]'(by simp)=E by simp]
      refine ⟨by rw [hE1];exact hz,?_⟩
      have hw:E.watched=(single (aL s)).un (single (bL s)):=by
       rw [hE2]
       unfold enterE;simp only [if_pos hz]
      rcases hk' with e | e
      ·exact ⟨aL s,ia,e.symm,by rw [hw,has_un,has_single (isLit_ne ia)];simp⟩
      ·exact ⟨bL s,ib,e.symm,by rw [hw,has_un,has_single (isLit_ne ib)];simp⟩
    ·exact old hj
   ·unfold enterW at hj;rw [if_neg hz] at hj;exact old hj
  nodup:=fun k hk=>by
   by_cases hz:2 ≤ s.size
   ·rw [enterW_at hs hz]
    split
    ·rw [List.nodup_append]
     refine ⟨h.nodup k hk,by simp,fun a ha b hb e=>?_⟩
     obtain ⟨h0,_⟩:=h.lists k hk a ha
     have:b=es.length:=by simpa using hb
     omega
    ·exact h.nodup k hk
   ·unfold enterW;rw [if_neg hz];exact h.nodup k hk
  ok:=fun e he=>by
   rcases List.mem_append.1 he with he | he
   ·exact h.ok e he
   ·obtain rfl:e=E:=by simpa using he
    rw [hE1];exact hs }
theorem WInv.enter (h:WInv es wl) {s:Key} (hs:s.ok) (t:Nat):WInv (es ++ [{ enterE s with times:=t }]) (enterW wl s es.length):=by
 refine h.enterG hs ?_ ?_
 ·dsimp only;exact enterE_set s
 ·dsimp only
theorem nodup_snoc {s:Key} (h:(es.map Ent.set).Nodup) (hn:look es s=none) (t:Nat):((es ++ [{ enterE s with times:=t }]).map Ent.set).Nodup:=by
 rw [List.map_append,List.nodup_append]
 refine ⟨h,by simp,fun a ha b hb e=>?_⟩
 obtain ⟨x,hx,rfl⟩:=List.mem_map.1 ha
 have:b=s:=by simpa [enterE] using hb
 exact look_none.1 hn x hx (by rw [e,this])
theorem mod_at (es:List Ent) (i:Nat) (f:Ent→Ent) {e:Ent} (he:e ∈ es.modify i f):(∃ j,∃ hj:j < es.length,j ≠ i∧e=es[j])∨∃ hi:i < es.length,e=f es[i]:=by
 obtain ⟨j,hj,rfl⟩:=List.mem_iff_getElem.1 he
 rw [List.length_modify] at hj
 rw [List.getElem_modify]
 split
 ·rename_i h;subst h;exact .inr ⟨hj,rfl⟩
 ·rename_i h;exact .inl ⟨j,hj,fun e=>h e.symm,rfl⟩
theorem mem_mod_other (es:List Ent) (i:Nat) (f:Ent→Ent) {j:Nat} (hj:j < es.length) (hne:j ≠ i):es[j] ∈ es.modify i f:=by
 refine List.mem_iff_getElem.2 ⟨j,by rw [List.length_modify];exact hj,?_⟩
 rw [List.getElem_modify,if_neg (fun e=>hne e.symm)]
theorem mem_mod_self (es:List Ent) (i:Nat) (f:Ent→Ent) (hi:i < es.length):f es[i] ∈ es.modify i f:=by
 refine List.mem_iff_getElem.2 ⟨i,by rw [List.length_modify];exact hi,?_⟩
 rw [List.getElem_modify,if_pos rfl]
theorem WInv.times (h:WInv es wl) (hl:es'.length=es.length) (hg:∀ j (h:j < es.length) (h':j < es'.length),(es'[j]).set=(es[j]).set∧(es'[j]).watched=(es[j]).watched):WInv es' wl where
 two:=fun j hj hz=>by
  obtain ⟨e1,e2⟩:=hg j (by omega) hj
  rw [e1] at hz ⊢;rw [e2]
  exact h.two j (by omega) hz
 one:=fun j hj hz=>by
  obtain ⟨e1,e2⟩:=hg j (by omega) hj
  rw [e1] at hz;rw [e2]
  exact h.one j (by omega) hz
 lists:=fun k hk j hj=>by
  obtain ⟨h0,h1,h2⟩:=h.lists k hk j hj
  obtain ⟨e1,e2⟩:=hg j h0 (by omega)
  exact ⟨by omega,by rw [e1];exact h1,by rw [e2];exact h2⟩
 nodup:=h.nodup
 ok:=fun e he=>by
  obtain ⟨j,hj,rfl⟩:=List.mem_iff_getElem.1 he
  rw [(hg j (by omega) hj).1]
  exact h.ok _ (List.getElem_mem _)
theorem WInv.modT (h:WInv es wl) (i:Nat) (f:Nat→Nat):WInv (es.modify i (fun e=>{ e with times:=f e.times })) wl:=by
 refine h.times (by simp) fun j h0 h'=>?_
 rw [List.getElem_modify]
 split <;> exact ⟨rfl,rfl⟩
theorem dist_modT (i:Nat) (f:Nat→Nat):(es.modify i (fun e=>{ e with times:=f e.times })).map Ent.set=es.map Ent.set:=by
 refine List.ext_getElem? fun j=>?_
 rw [List.getElem?_map,List.getElem?_map,List.getElem?_modify]
 split <;> cases es[j]? <;> rfl
theorem setOf_lit (hc:∀ l ∈ c,In50 l):(setOf c).ok:=setOf_ok fun l hl=>in50_lit (hc l hl)
theorem cnt_snoc (L:List Cl) (c:Cl) (s:Key):(L ++ [c]).countP (fun d=>decide (setOf d=s))=L.countP (fun d=>decide (setOf d=s)) + (if setOf c=s then 1 else 0):=by
 rw [List.countP_append]
 congr 1
 by_cases h:setOf c=s <;> simp [h]
theorem single_size {l:Int} (h:IsLit l):(single l).size=1:=by
 rcases Nat.lt_trichotomy (single l).size 1 with h1 | h1 | h1
 ·have:=size_zero (single_ok h) (by omega)
  have h2:(single l).has l=true:=by rw [has_single (isLit_ne h)];simp
  rw [this,has_empty] at h2;cases h2
 ·exact h1
 ·obtain ⟨a,b,hab,ha,hb⟩:=size_two (single_ok h) h1
  rw [has_single (isLit_ne h)] at ha hb
  exact absurd ((of_decide_eq_true ha).trans (of_decide_eq_true hb).symm) hab
theorem single_inj' {a b:Int} (ha:IsLit a) (hb:IsLit b) (h:single a=single b):a=b:=by
 have h2:(single a).has a=true:=by rw [has_single (isLit_ne ha)];simp
 rw [h,has_single (isLit_ne hb)] at h2
 exact of_decide_eq_true h2
theorem SInv.add (h:SInv es wl u L) (hc:∀ l ∈ c,In50 l):SInv (addE es (setOf c)) (addW es wl (setOf c)) (if (setOf c).size=1 then u.un (setOf c) else u) (L ++ [c]):=by
 have sok:=setOf_lit hc
 have lits':∀ d ∈ L ++ [c],∀ l ∈ d,In50 l:=fun d hd=>by
  rcases List.mem_append.1 hd with hd | hd
  ·exact h.lits d hd
  ·obtain rfl:d=c:=by simpa using hd
   exact hc
 have un:∀ es2:List Ent,(∀ s,(∃ e ∈ es2,0 < e.times∧e.set=s)↔(∃ e ∈ es,0 < e.times∧e.set=s)∨s=setOf c)→Units es2 (if (setOf c).size=1 then u.un (setOf c) else u):=fun es2 hx=>by
  refine ⟨?_,fun l il=>?_⟩
  ·split
   ·exact un_ok h.units.ok sok
   ·exact h.units.ok
  ·rw [hx,← h.units.iff l il]
   split
   ·rename_i h1
    obtain ⟨m,im,hm⟩:=size_one sok h1
    rw [has_un,Bool.or_eq_true]
    constructor
    ·rintro (h2 | h2)
     ·exact .inl h2
     ·rw [hm,has_single (isLit_ne im)] at h2
      rw [of_decide_eq_true h2];exact .inr hm.symm
    ·rintro (h2 | h2)
     ·exact .inl h2
     ·exact .inr (by rw [← h2,has_single (isLit_ne il)];simp)
   ·rename_i h1
    constructor
    ·exact .inl
    ·rintro (h2 | h2)
     ·exact h2
     ·exact absurd (by rw [← h2];exact single_size il) h1
 cases hl:look es (setOf c) with
 | none=>
  have e1:addE es (setOf c)=es ++ [{ enterE (setOf c) with times:=1 }]:=by unfold addE;rw [hl]
  have e2:addW es wl (setOf c)=enterW wl (setOf c) es.length:=by unfold addW;rw [hl]
  rw [e1,e2]
  have hno:=look_none.1 hl
  exact {
   winv:=h.winv.enter sok 1
   dist:=nodup_snoc h.dist hl 1
   cnt:=fun e he=>by
    rw [cnt_snoc]
    rcases List.mem_append.1 he with he | he
    ·rw [if_neg (fun h=>hno e he h.symm),h.cnt e he];rfl
    ·obtain rfl:e=_:=by simpa using he
     show 1=L.countP (fun d=>decide (setOf d=setOf c)) + (if setOf c=setOf c then 1 else 0)
     rw [if_pos rfl]
     have:L.countP (fun d=>decide (setOf d=setOf c))=0:=by
      rw [List.countP_eq_zero]
      intro d hd hs
      obtain ⟨e,he,h1⟩:=h.all d hd
      exact hno e he (h1.trans (of_decide_eq_true hs))
     omega
   all:=fun d hd=>by
    rcases List.mem_append.1 hd with hd | hd
    ·obtain ⟨e,he,h1⟩:=h.all d hd
     exact ⟨e,List.mem_append_left _ he,h1⟩
    ·obtain rfl:d=c:=by simpa using hd
     exact ⟨_,List.mem_append_right _ (List.mem_singleton.2 rfl),rfl⟩
   lits:=lits'
   units:=un _ fun s=>by
    constructor
    ·rintro ⟨e,he,ht,hs⟩
     rcases List.mem_append.1 he with he | he
     ·exact .inl ⟨e,he,ht,hs⟩
     ·obtain rfl:e=_:=by simpa using he
      exact .inr hs.symm
    ·rintro (⟨e,he,ht,hs⟩ | rfl)
     ·exact ⟨e,List.mem_append_left _ he,ht,hs⟩
     ·exact ⟨_,List.mem_append_right _ (List.mem_singleton.2 rfl),Nat.one_pos,rfl⟩ }
 | some i=>
  have e1:addE es (setOf c)=es.modify i (fun e=>{ e with times:=e.times + 1 }):=by unfold addE;rw [hl]
  have e2:addW es wl (setOf c)=wl:=by unfold addW;rw [hl]
  rw [e1,e2]
  obtain ⟨hi,hs⟩:=look_some hl
  exact {
   winv:=h.winv.modT i (· + 1)
   dist:=by rw [dist_modT i (· + 1)];exact h.dist
   cnt:=fun e he=>by
    rw [cnt_snoc]
    rcases mod_at es i _ he with ⟨j,hj,hne,rfl⟩ | ⟨_,rfl⟩
    ·rw [if_neg (fun h2=>hne (dist_at h.dist hj hi (by rw [hs];exact h2.symm))),h.cnt _ (List.getElem_mem hj)];rfl
    ·show (es[i]).times + 1=L.countP (fun d=>decide (setOf d=(es[i]).set)) + (if setOf c=(es[i]).set then 1 else 0)
     rw [if_pos hs.symm,h.cnt _ (List.getElem_mem hi)]
   all:=fun d hd=>by
    have key:∀ s,(∃ e ∈ es,e.set=s)→∃ e ∈ es.modify i (fun e=>{ e with times:=e.times + 1 }),e.set=s:=by
     rintro s ⟨e,he,h1⟩
     obtain ⟨j,hj,rfl⟩:=List.mem_iff_getElem.1 he
     by_cases e:j=i
     ·subst e;exact ⟨_,mem_mod_self es j _ hj,h1⟩
     ·exact ⟨_,mem_mod_other es i _ hj e,h1⟩
    rcases List.mem_append.1 hd with hd | hd
    ·exact key _ (h.all d hd)
    ·obtain rfl:d=c:=by simpa using hd
     exact key _ ⟨_,List.getElem_mem hi,hs⟩
   lits:=lits'
   units:=un _ fun s=>by
    constructor
    ·rintro ⟨e,he,ht,h1⟩
     rcases mod_at es i _ he with ⟨j,hj,hne,rfl⟩ | ⟨_,rfl⟩
     ·exact .inl ⟨_,List.getElem_mem hj,ht,h1⟩
     ·exact .inr (by rw [← h1];exact hs)
    ·rintro (⟨e,he,ht,h1⟩ | rfl)
     ·obtain ⟨j,hj,rfl⟩:=List.mem_iff_getElem.1 he
      by_cases e:j=i
      ·subst e;exact ⟨_,mem_mod_self es j _ hj,Nat.succ_pos _,h1⟩
      ·exact ⟨_,mem_mod_other es i _ hj e,ht,h1⟩
     ·exact ⟨_,mem_mod_self es i _ hi,Nat.succ_pos _,hs⟩ }
theorem sameB_iff {d:Cl} (hd:∀ l ∈ d,In50 l) (hc:∀ l ∈ c,In50 l):sameB d c=true↔setOf d=setOf c:=by
 have h1:=has_setOf (fun l hl=>in50_ne (hd l hl))
 have h2:=has_setOf (fun l hl=>in50_ne (hc l hl))
 unfold sameB
 rw [Bool.and_eq_true,List.all_eq_true,List.all_eq_true]
 constructor
 ·rintro ⟨a,b⟩
  refine key_ext fun x=>?_
  rw [h1,h2]
  apply decide_eq_decide.2
  exact ⟨fun hx=>by have:=a x hx;simpa using this,fun hx=>by have:=b x hx;simpa using this⟩
 ·intro h
  have key:∀ x,x ∈ d↔x ∈ c:=fun x=>by
   have:decide (x ∈ d)=decide (x ∈ c):=by rw [← h1,← h2,h]
   simpa using this
  exact ⟨fun x hx=>by simpa using (key x).1 hx,fun x hx=>by simpa using (key x).2 hx⟩
theorem remC_none:∀ {L:List Cl} (hL:∀ d ∈ L,∀ l ∈ d,In50 l) (hc:∀ l ∈ c,In50 l),rem L c=none↔∀ d ∈ L,setOf d ≠ setOf c
 | [],_,_=>by simp [rem]
 | d :: r,hL,hc=>by
  have hd:=hL d (List.mem_cons_self ..)
  have ih:=remC_none (L:=r) (fun d hd=>hL d (List.mem_cons_of_mem _ hd)) hc
  unfold rem
  by_cases h:sameB d c=true
  ·rw [if_pos h]
   simp only [List.mem_cons,reduceCtorEq,false_iff]
   intro hx
   exact hx d (.inl rfl) ((sameB_iff hd hc).1 h)
  ·rw [if_neg h,Option.map_eq_none_iff,ih]
   constructor
   ·intro hx e he
    rcases List.mem_cons.1 he with rfl | he
    ·exact fun e=>h ((sameB_iff hd hc).2 e)
    ·exact hx e he
   ·intro hx e he;exact hx e (List.mem_cons_of_mem _ he)
theorem rem_cnt:∀ {L L':List Cl} (hL:∀ d ∈ L,∀ l ∈ d,In50 l) (hc:∀ l ∈ c,In50 l),rem L c=some L'→∀ s,L.countP (fun d=>decide (setOf d=s))=L'.countP (fun d=>decide (setOf d=s)) + (if setOf c=s then 1 else 0)
 | [],L',_,_,h=>by simp [rem] at h
 | d :: r,L',hL,hc,h=>by
  have hd:=hL d (List.mem_cons_self ..)
  have ih:=@rem_cnt r
  unfold rem at h
  intro s
  by_cases hs:sameB d c=true
  ·rw [if_pos hs] at h
   obtain rfl:=Option.some.inj h
   have e:=(sameB_iff hd hc).1 hs
   rw [List.countP_cons,e]
   congr 1
   by_cases h2:setOf c=s <;> simp [h2]
  ·rw [if_neg hs] at h
   obtain ⟨r',hr,rfl⟩:=Option.map_eq_some_iff.1 h
   have:=ih (fun d hd=>hL d (List.mem_cons_of_mem _ hd)) hc hr s
   rw [List.countP_cons,List.countP_cons,this]
   omega
theorem rem_sub:∀ {L L':List Cl},rem L c=some L'→∀ d ∈ L',d ∈ L
 | [],L',h=>by simp [rem] at h
 | d :: r,L',h=>by
  unfold rem at h
  split at h
  ·obtain rfl:=Option.some.inj h
   exact fun x hx=>List.mem_cons_of_mem _ hx
  ·obtain ⟨r',hr,rfl⟩:=Option.map_eq_some_iff.1 h
   intro x hx
   rcases List.mem_cons.1 hx with rfl | hx
   ·exact List.mem_cons_self ..
   ·exact List.mem_cons_of_mem _ (rem_sub hr x hx)
theorem SInv.rem_none (h:SInv es wl u L) (hc:∀ l ∈ c,In50 l):rem L c=none↔there es (setOf c)=false:=by
 rw [remC_none h.lits hc,← Bool.not_eq_true,there_iff h.dist]
 constructor
 ·rintro hx ⟨e,he,ht,hs⟩
  obtain ⟨d,hd,h1⟩:=h.rep.ofE e he ht
  exact hx d hd (h1.trans hs)
 ·intro hx d hd hs
  obtain ⟨e,he,ht,h1⟩:=h.rep.from' d hd
  exact hx ⟨e,he,ht,h1.trans hs⟩
theorem SInv.rem (h:SInv es wl u L) (hc:∀ l ∈ c,In50 l) {L':List Cl} (hr:rem L c=some L') {i:Nat} (hi:i < es.length) (hs:(es[i]).set=setOf c):
  SInv (es.modify i (fun e=>{ e with times:=e.times - 1 })) wl (if (es[i]).times=1∧(setOf c).size=1 then u.wo (setOf c) else u) L':=by
 have sok:=setOf_lit hc
 have hcn:=rem_cnt h.lits hc hr
 have hti:(es[i]).times=L'.countP (fun d=>decide (setOf d=setOf c)) + 1:=by
  rw [h.cnt _ (List.getElem_mem hi),hs,hcn,if_pos rfl]
 have key:∀ s,(∃ e ∈ es.modify i (fun e=>{ e with times:=e.times - 1 }),0 < e.times∧e.set=s)↔(∃ e ∈ es,0 < e.times∧e.set=s)∧((es[i]).times=1→s ≠ setOf c):=fun s=>by
  constructor
  ·rintro ⟨e,he,ht,h1⟩
   rcases mod_at es i _ he with ⟨j,hj,hne,rfl⟩ | ⟨_,rfl⟩
   ·exact ⟨⟨_,List.getElem_mem hj,ht,h1⟩,fun _ e=>hne (dist_at h.dist hj hi (by rw [h1,e,hs]))⟩
   ·simp only at ht h1
    exact ⟨⟨_,List.getElem_mem hi,by omega,h1⟩,fun e=>by omega⟩
  ·rintro ⟨⟨e,he,ht,h1⟩,h2⟩
   obtain ⟨j,hj,rfl⟩:=List.mem_iff_getElem.1 he
   by_cases e:j=i
   ·subst e
    refine ⟨_,mem_mod_self es j _ hj,?_,h1⟩
    simp only
    rcases Nat.lt_or_ge 1 (es[j]).times with h3 | h3
    ·omega
    ·exact absurd (h1.symm.trans hs) (h2 (by omega))
   ·exact ⟨_,mem_mod_other es i _ hj e,ht,h1⟩
 exact {
  winv:=h.winv.modT i (· - 1)
  dist:=by rw [dist_modT i (· - 1)];exact h.dist
  cnt:=fun e he=>by
   rcases mod_at es i _ he with ⟨j,hj,hne,rfl⟩ | ⟨_,rfl⟩
   ·rw [h.cnt _ (List.getElem_mem hj),hcn,if_neg (fun h2=>hne (dist_at h.dist hj hi (by rw [hs];exact h2.symm)))];rfl
   ·show (es[i]).times - 1=L'.countP (fun d=>decide (setOf d=(es[i]).set))
    rw [hti,hs];omega
  all:=fun d hd=>by
   obtain ⟨e,he,h1⟩:=h.all d (rem_sub hr d hd)
   obtain ⟨j,hj,rfl⟩:=List.mem_iff_getElem.1 he
   by_cases e:j=i
   ·subst e;exact ⟨_,mem_mod_self es j _ hj,h1⟩
   ·exact ⟨_,mem_mod_other es i _ hj e,h1⟩
  lits:=fun d hd=>h.lits d (rem_sub hr d hd)
  units:=by
   refine ⟨?_,fun l il=>?_⟩
   ·split
    ·exact wo_ok h.units.ok _
    ·exact h.units.ok
   ·rw [key,← h.units.iff l il]
    split
    ·rename_i h1
     obtain ⟨m,im,hm⟩:=size_one sok h1.2
     rw [has_wo,Bool.and_eq_true,Bool.not_eq_true',hm,has_single (isLit_ne im)]
     refine and_congr_right fun _=>?_
     constructor
     ·intro h2 _ h3
      have:=single_inj' il im h3
      rw [this] at h2;simp at h2
     ·intro h2
      have:=h2 h1.1
      exact decide_eq_false fun e=>this (by rw [e])
    ·rename_i h1
     constructor
     ·intro h2
      refine ⟨h2,fun h3 h4=>h1 ⟨h3,by rw [← h4];exact single_size il⟩⟩
     ·exact fun h2=>h2.1 }
theorem sigs_snoc (es:List Ent) (e:Ent):sigs (es ++ [e])=sigs es ++ [(e.set,e.times)]:=by unfold sigs;simp
theorem mem_sigs {e:Ent} (he:e ∈ es):(e.set,e.times) ∈ sigs es:=List.mem_map.2 ⟨e,he,rfl⟩
theorem of_sigs {p:Key × Nat} (hp:p ∈ sigs es):∃ e ∈ es,e.set=p.1∧e.times=p.2:=by
 obtain ⟨e,he,rfl⟩:=List.mem_map.1 hp
 exact ⟨e,he,rfl,rfl⟩
theorem SInv.anew (h:SInv es wl u L) (hs:sigs es'=(sigs es).filter (fun p=>decide (0 < p.2))) (hW:WInv es' wl'):SInv es' wl' u L:=by
 have old:∀ e ∈ es',∃ e0 ∈ es,e0.set=e.set∧e0.times=e.times∧0 < e.times:=fun e he=>by
  have:=mem_sigs he
  rw [hs,List.mem_filter] at this
  obtain ⟨e0,he0,h1,h2⟩:=of_sigs this.1
  exact ⟨e0,he0,h1,h2,of_decide_eq_true this.2⟩
 have new:∀ e ∈ es,0 < e.times→∃ e0 ∈ es',e0.set=e.set∧e0.times=e.times:=fun e he ht=>by
  have:(e.set,e.times) ∈ sigs es':=by rw [hs,List.mem_filter];exact ⟨mem_sigs he,decide_eq_true ht⟩
  exact of_sigs this
 exact {
  winv:=hW
  dist:=by
   rw [sets_sigs,hs]
   have:((sigs es).filter (fun p=>decide (0 < p.2))).Sublist (sigs es):=List.filter_sublist
   refine (this.map Prod.fst).nodup ?_
   rw [← sets_sigs];exact h.dist
  cnt:=fun e he=>by
   obtain ⟨e0,he0,h1,h2,_⟩:=old e he
   rw [← h2,← h1];exact h.cnt e0 he0
  all:=fun d hd=>by
   obtain ⟨e,he,ht,h1⟩:=h.rep.from' d hd
   obtain ⟨e0,he0,h2,_⟩:=new e he ht
   exact ⟨e0,he0,h2.trans h1⟩
  lits:=h.lits
  units:=⟨h.units.ok,fun l il=>by
   rw [h.units.iff l il]
   constructor
   ·rintro ⟨e,he,h1,h2⟩
    obtain ⟨e0,he0,h3,h4⟩:=new e he h1
    exact ⟨e0,he0,by rw [h4];exact h1,h3.trans h2⟩
   ·rintro ⟨e,he,h1,h2⟩
    obtain ⟨e0,he0,h3,h4,h5⟩:=old e he
    exact ⟨e0,he0,by rw [h4];exact h5,h3.trans h2⟩⟩ }
theorem WInv.empty:WInv [] (fun _=>[]) where
 two:=fun j h=>by simp at h
 one:=fun j h=>by simp at h
 lists:=fun k _ j hj=>by simp at hj
 nodup:=fun _ _=>List.nodup_nil
 ok:=fun e he=>by simp at he
theorem SInv.empty:SInv [] (fun _=>[]) (0,0) [] where
 winv:=WInv.empty
 dist:=List.nodup_nil
 cnt:=fun e he=>by simp at he
 all:=fun d hd=>by simp at hd
 lits:=fun c hc=>by simp at hc
 units:=⟨empty_ok,fun l _=>by rw [has_empty];simp⟩
end Rd
end Go.Proofs.YtceahffmenbibaaGreatDoor
namespace Go.Proofs.YtceahffmenbibaaGreatDoor
namespace Rd
variable {v:Bs} {L L':List Cl} {k:Nat} {r:Bs} {c:Cl} {res:Nat × Nat}
theorem chk_nothing:chk v L (splitR 10 []) k (k,5):=by
 rw [splitR_upto]
 have:hasB 10 []=false:=by decide
 rw [this]
 unfold chk;simp
theorem chk_open (h0:r ≠ []) (h:hasB 10 r=false):chk v L (splitR 10 r) k (k + 1,3):=by
 rw [splitR_upto,h]
 unfold chk
 cases r with
 | nil=>exact absurd rfl h0
 | cons a b=>simp
theorem chk_eq (h:hasB 10 r=true):chk v L (splitR 10 r) k res=(match lineB v (upto 10 r) with
   | none=>res=(k + 1,3)
   | some (true,c)=>(match rem L c with
     | none=>res=(k + 1,4)
     | some L'=>chk v L' (splitR 10 (r.drop ((upto 10 r).length + 1))) (k + 1) res)
   | some (false,c)=>(¬ RightP L c→res=(k + 1,4))∧(RightP L c→if c.isEmpty then res=(k + 1,0) else chk v (L ++ [c]) (splitR 10 (r.drop ((upto 10 r).length + 1))) (k + 1) res)):=by
 rw [splitR_upto,h,if_pos rfl]
 obtain ⟨a,b,e⟩:=splitR_ne 10 (r.drop ((upto 10 r).length + 1))
 rw [e]
 conv=>lhs;unfold chk
 simp only [List.isEmpty_cons,Bool.false_eq_true,if_false]
 rfl
theorem chk_form (h:hasB 10 r=true) (hl:lineB v (upto 10 r)=none):chk v L (splitR 10 r) k (k + 1,3):=by
 rw [chk_eq h,hl]
theorem chk_gone (h:hasB 10 r=true) (hl:lineB v (upto 10 r)=some (true,c)) (hr:rem L c=none):chk v L (splitR 10 r) k (k + 1,4):=by
 rw [chk_eq h,hl];simp only [hr]
theorem chk_del (h:hasB 10 r=true) (hl:lineB v (upto 10 r)=some (true,c)) (hr:rem L c=some L'):chk v L (splitR 10 r) k res↔chk v L' (splitR 10 (r.drop ((upto 10 r).length + 1))) (k + 1) res:=by
 rw [chk_eq h,hl];simp only [hr]
theorem chk_wrong (h:hasB 10 r=true) (hl:lineB v (upto 10 r)=some (false,c)) (hr:¬ RightP L c):chk v L (splitR 10 r) k (k + 1,4):=by
 rw [chk_eq h,hl];exact ⟨fun _=>rfl,fun h=>absurd h hr⟩
theorem chk_end (h:hasB 10 r=true) (hl:lineB v (upto 10 r)=some (false,[])) (hr:RightP L []):chk v L (splitR 10 r) k (k + 1,0):=by
 rw [chk_eq h,hl];exact ⟨fun h=>absurd hr h,fun _=>by simp⟩
theorem chk_add (h:hasB 10 r=true) (hl:lineB v (upto 10 r)=some (false,c)) (hr:RightP L c) (hc:c ≠ []):chk v L (splitR 10 r) k res↔chk v (L ++ [c]) (splitR 10 (r.drop ((upto 10 r).length + 1))) (k + 1) res:=by
 rw [chk_eq h,hl]
 have:c.isEmpty=false:=by cases c with
  | nil=>exact absurd rfl hc
  | cons a b=>rfl
 simp only [this,Bool.false_eq_true,if_false]
 exact ⟨fun h=>h.2 hr,fun h=>⟨fun h2=>absurd hr h2,fun _=>h⟩⟩
theorem rightP_of {es es':List Ent} {u d:Key} {l:Int} (R:Rep es L) (hc:∀ x ∈ c,In50 x) (hl:∃ r,c=l :: r) (P:SprPost es es' (0,0) (u.un (setOf c).op) d false) (hU:Units es u) (hn:¬ Conf L (opp c 0)):RightP L c↔∀ e ∈ es,RatOk es d l e:=by
 obtain ⟨r,rfl⟩:=hl
 rw [rat_all R hc (in50_ne (hc l (List.mem_cons_self ..))) P hU]
 constructor
 ·rintro (h | ⟨l',r',e,h⟩)
  ·exact absurd h hn
  ·obtain ⟨rfl,rfl⟩:=List.cons.inj e
   exact h
 ·exact fun h=>.inr ⟨l,r,rfl,h⟩
theorem rightP_nil (hn:¬ Conf L (opp [] 0)):¬ RightP L []:=by
 rintro (h | ⟨l,r,e,_⟩)
 ·exact hn h
 ·cases e
end Rd
end Go.Proofs.YtceahffmenbibaaGreatDoor
