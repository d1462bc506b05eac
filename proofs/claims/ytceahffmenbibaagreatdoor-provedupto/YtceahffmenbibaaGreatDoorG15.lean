/- Pfal Pmov Pwst. -/
import Derived.Test.YtceahffmenbibaaGreatDoorG14
set_option linter.unusedVariables false
set_option linter.unusedSimpArgs false
namespace Go.Proofs.YtceahffmenbibaaGreatDoor
namespace Rd
structure WInv (es:List Ent) (wl:Nat→List Nat):Prop where
 two:∀ j (h:j < es.length),2 ≤ (es[j]).set.size→∃ a b,a ≠ b∧IsLit a∧IsLit b∧(es[j]).set.has a=true∧(es[j]).set.has b=true∧(es[j]).watched=(single a).un (single b)∧j ∈ wl (place a)∧j ∈ wl (place b)
 one:∀ j (h:j < es.length),¬ 2 ≤ (es[j]).set.size→(es[j]).watched=(0,0)
 lists:∀ k,k < 128→∀ j ∈ wl k,∃ h:j < es.length,2 ≤ (es[j]).set.size∧∃ l,IsLit l∧place l=k∧(es[j]).watched.has l=true
 nodup:∀ k,k < 128→(wl k).Nodup
 ok:∀ e ∈ es,e.set.ok
theorem WInv.wtwo {es:List Ent} {wl:Nat→List Nat} (h:WInv es wl):WTwo es:=fun j hj hs=>by
 obtain ⟨a,b,hab,ia,ib,ha,hb,hw,_⟩:=h.two j hj hs
 exact ⟨a,b,hab,ha,hb,by rw [hw,has_un,has_single (isLit_ne ia)];simp,by rw [hw,has_un,has_single (isLit_ne ib)];simp⟩
theorem WInv.pair {es:List Ent} {wl:Nat→List Nat} (h:WInv es wl) {lit:Int} (il:IsLit lit) {j:Nat} (hj:j ∈ wl (place lit)):∃ (hl:j < es.length) (b:Int),2 ≤ (es[j]).set.size∧b ≠ lit∧IsLit b∧(es[j]).set.has lit=true∧(es[j]).set.has b=true∧(es[j]).watched=(single lit).un (single b)∧j ∈ wl (place b):=by
 obtain ⟨hl,hs,l,i1,hp,hw⟩:=h.lists _ (place_lt il) j hj
 have e:=place_inj i1 il hp
 subst e
 obtain ⟨a,b,hab,ia,ib,ha,hb,hwe,ja,jb⟩:=h.two j hl hs
 rw [hwe,has_un,has_single (isLit_ne ia),has_single (isLit_ne ib)] at hw
 simp only [Bool.or_eq_true,decide_eq_true_eq] at hw
 rcases hw with e | e
 ·subst e;exact ⟨hl,b,hs,fun e=>hab e.symm,ib,ha,hb,hwe,jb⟩
 ·subst e
  refine ⟨hl,a,hs,hab,ia,hb,ha,?_,ja⟩
  rw [hwe];exact key_ext fun x=>by rw [has_un,has_un,Bool.or_comm]
structure FInv (es0:List Ent) (lit:Int) (down0:Key) (orig:List Nat) (i:Nat) (es:List Ent) (wl:Nat→List Nat) (kl:List Nat) (forced:Key):Prop where
 same:sigs es=sigs es0
 winv:WInv es (fun k=>if k=place lit then kl ++ orig.drop i else wl k)
 old:∀ j (h0:j < es0.length) (h:j < es.length) l,(es[j]).watched.has l=true→(es0[j]).watched.has l=true∨down0.has (-l)=false
 sound:∀ M,Cons M→HasP down0 M→StableE es0 M→HasP forced M
 kept:∀ j ∈ kl,∀ h:j < es.length,0 < (es[j]).times→∃ l,(es[j]).set.has l=true∧(down0.un forced).has l=true
 cons:NoClash down0→NoClash (down0.un forced)
 fresh:∀ l,forced.has l=true→down0.has l=false
 fok:forced.ok
 klen:kl.length ≤ i
 ilen:i ≤ orig.length
variable {es0 es:List Ent} {lit:Int} {down0 forced:Key} {orig kl:List Nat} {i:Nat} {wl:Nat→List Nat}
theorem FInv.start (h:WInv es0 wl):FInv es0 lit down0 (wl (place lit)) 0 es0 wl [] (0,0) where
 same:=rfl
 winv:=by
  have e:(fun k=>if k=place lit then [] ++ (wl (place lit)).drop 0 else wl k)=wl:=by
   funext k;split
   ·rename_i e;rw [e];rfl
   ·rfl
  rw [e];exact h
 old:=fun j h0 h l hl=>.inl hl
 sound:=fun M _ _ _ l hl=>by rw [has_empty] at hl;cases hl
 kept:=fun j hj=>by simp at hj
 cons:=fun h=>by
  have:down0.un (0,0)=down0:=key_ext fun x=>by rw [has_un,has_empty,Bool.or_false]
  rw [this];exact h
 fresh:=fun l hl=>by rw [has_empty] at hl;cases hl
 fok:=empty_ok
 klen:=Nat.zero_le _
 ilen:=Nat.zero_le _
theorem drop_at {orig:List Nat} {i:Nat} (hi:i < orig.length):orig.drop i=orig[i] :: orig.drop (i + 1):=List.drop_eq_getElem_cons hi
theorem FInv.keepWinv (h:FInv es0 lit down0 orig i es wl kl forced) (hi:i < orig.length):WInv es (fun k=>if k=place lit then (kl ++ [orig[i]]) ++ orig.drop (i + 1) else wl k):=by
 have e:(kl ++ [orig[i]]) ++ orig.drop (i + 1)=kl ++ orig.drop i:=by rw [drop_at hi];simp
 rw [e];exact h.winv
theorem FInv.skip (h:FInv es0 lit down0 orig i es wl kl forced) (hi:i < orig.length) (hm:∀ hj:orig[i] < es.length,0 < (es[orig[i]]).times→∃ l,(es[orig[i]]).set.has l=true∧(down0.un forced).has l=true):FInv es0 lit down0 orig (i + 1) es wl (kl ++ [orig[i]]) forced where
 same:=h.same
 winv:=h.keepWinv hi
 old:=h.old
 sound:=h.sound
 kept:=fun j hj hl ht=>by
  rcases List.mem_append.1 hj with hj | hj
  ·exact h.kept j hj hl ht
  ·simp at hj;subst hj;exact hm hl ht
 cons:=h.cons
 fresh:=h.fresh
 fok:=h.fok
 klen:=by have:=h.klen;simp;omega
 ilen:=hi
theorem free_has (s d:Key) (l:Int):(s.wo d.op).has l=(s.has l && !d.has (-l)):=by rw [has_wo,has_op]
theorem stable_at (hs:sigs es=sigs es0) {M:Int→Prop} (hst:StableE es0 M) {j:Nat} (hj:j < es.length) (ht:0 < (es[j]).times):(∃ l,(es[j]).set.has l=true∧M l)∨∃ a b,a ≠ b∧(es[j]).set.has a=true∧(es[j]).set.has b=true∧¬ M (-a)∧¬ M (-b):=
 (stableE_sigs hs).1 hst _ (List.getElem_mem hj) ht
theorem FInv.unit (h:FInv es0 lit down0 orig i es wl kl forced) (hi:i < orig.length) (hj:orig[i] < es.length) (ht:0 < (es[orig[i]]).times) {l:Int} (il:IsLit l) (hf:(es[orig[i]]).set.wo (down0.un forced).op=single l) (hn:¬ ∃ x,(es[orig[i]]).set.has x=true∧(down0.un forced).has x=true):
  FInv es0 lit down0 orig (i + 1) es wl (kl ++ [orig[i]]) (forced.un (single l)):=by
 have fr:∀ x,((es[orig[i]]).set.has x && !(down0.un forced).has (-x))=decide (x=l):=fun x=>by rw [← free_has,hf,has_single (isLit_ne il)]
 have hl:=fr l
 simp only [decide_true,Bool.and_eq_true,Bool.not_eq_true'] at hl
 have hnd:(down0.un forced).has l=false:=by
  cases e:(down0.un forced).has l with
  | false=>rfl
  | true=>exact absurd ⟨l,hl.1,e⟩ hn
 have un3:down0.un (forced.un (single l))=(down0.un forced).un (single l):=key_ext fun x=>by simp only [has_un,Bool.or_assoc]
 exact {
  same:=h.same
  winv:=h.keepWinv hi
  old:=h.old
  sound:=fun M hM hd hst x hx=>by
   rw [has_un,Bool.or_eq_true] at hx
   have hF:=h.sound M hM hd hst
   rcases hx with hx | hx
   ·exact hF x hx
   ·rw [has_single (isLit_ne il)] at hx
    have ex:x=l:=of_decide_eq_true hx
    subst ex
    have hD:HasP (down0.un forced) M:=fun y hy=>by
     rw [has_un,Bool.or_eq_true] at hy
     rcases hy with hy | hy
     ·exact hd y hy
     ·exact hF y hy
    have fl:∀ y,(es[orig[i]]).set.has y=true→y ≠ x→M (-y):=fun y hy hne=>by
     have:=fr y
     rw [hy,Bool.true_and,show decide (y=x)=false from by simpa using hne] at this
     simp only [Bool.not_eq_false'] at this
     exact hD _ this
    rcases stable_at h.same hst hj ht with ⟨y,h1,h2⟩ | ⟨a,b,hab,ha,hb,na,nb⟩
    ·by_cases e:y=x
     ·rw [← e];exact h2
     ·exact absurd (fl y h1 e) (fun h3=>hM y h2 h3)
    ·exfalso
     by_cases e:a=x
     ·exact nb (fl b hb (fun e2=>hab (by rw [e,e2])))
     ·exact na (fl a ha e)
  kept:=fun j hjk hl' ht'=>by
   rw [un3]
   rcases List.mem_append.1 hjk with hjk | hjk
   ·obtain ⟨y,h1,h2⟩:=h.kept j hjk hl' ht'
    exact ⟨y,h1,by rw [has_un,h2];rfl⟩
   ·simp at hjk;subst hjk
    exact ⟨l,hl.1,by rw [has_un,has_single (isLit_ne il)];simp⟩
  cons:=fun hc x hx=>by
   have hcc:=h.cons hc
   rw [un3] at hx ⊢
   rw [has_un,Bool.or_eq_true] at hx
   rw [has_un,Bool.or_eq_false_iff]
   rcases hx with hx | hx
   ·refine ⟨hcc x hx,?_⟩
    rw [has_single (isLit_ne il)]
    simp only [decide_eq_false_iff_not]
    intro e
    have e':x=-l:=by omega
    rw [e',hl.2] at hx;cases hx
   ·rw [has_single (isLit_ne il)] at hx
    have ex:x=l:=of_decide_eq_true hx
    subst ex
    refine ⟨hl.2,?_⟩
    rw [has_single (isLit_ne il)]
    have:=isLit_ne il
    simp;omega
  fresh:=fun x hx=>by
   rw [has_un,Bool.or_eq_true] at hx
   rcases hx with hx | hx
   ·exact h.fresh x hx
   ·rw [has_single (isLit_ne il)] at hx
    have ex:x=l:=of_decide_eq_true hx
    subst ex
    rw [has_un,Bool.or_eq_false_iff] at hnd
    exact hnd.1
  fok:=un_ok h.fok (single_ok il)
  klen:=by have:=h.klen;simp;omega
  ilen:=hi }
theorem FInv.confl (h:FInv es0 lit down0 orig i es wl kl forced) (hi:i < orig.length) (hj:orig[i] < es.length) (ht:0 < (es[orig[i]]).times) (hf:(es[orig[i]]).set.wo (down0.un forced).op=(0,0)):FalsPost es0 es lit down0 forced true where
 same:=h.same
 old:=h.old
 sound:=fun M hM hd hst=>by
  exfalso
  have hF:=h.sound M hM hd hst
  have hD:HasP (down0.un forced) M:=fun y hy=>by
   rw [has_un,Bool.or_eq_true] at hy
   rcases hy with hy | hy
   ·exact hd y hy
   ·exact hF y hy
  have fl:∀ y,(es[orig[i]]).set.has y=true→M (-y):=fun y hy=>by
   have:=free_has (es[orig[i]]).set (down0.un forced) y
   rw [hf,has_empty,hy,Bool.true_and] at this
   have h2:(down0.un forced).has (-y)=true:=by simpa using this.symm
   exact hD _ h2
  rcases stable_at h.same hst hj ht with ⟨y,h1,h2⟩ | ⟨a,b,hab,ha,hb,na,nb⟩
  ·exact hM y h2 (fl y h1)
  ·exact na (fl a ha)
 kept:=fun e=>by cases e
 cons:=h.cons
 fresh:=h.fresh
 fok:=h.fok
theorem FInv.done (h:FInv es0 lit down0 orig orig.length es wl kl forced) (il:IsLit lit):FalsPost es0 es lit down0 forced false∧WInv es (fun k=>if k=place lit then kl else wl k):=by
 have e:kl ++ orig.drop orig.length=kl:=by simp
 have hw:=h.winv
 rw [e] at hw
 refine ⟨{
  same:=h.same
  old:=h.old
  sound:=fun M hM hd hst=>⟨h.sound M hM hd hst,rfl⟩
  kept:=fun _ j hj ht hwl=>by
   have hs:2 ≤ (es[j]).set.size:=by
    rcases Nat.lt_or_ge (es[j]).set.size 2 with hlt | hge
    ·rw [hw.one j hj (Nat.not_le.2 hlt),has_empty] at hwl;cases hwl
    ·exact hge
   obtain ⟨a,b,hab,ia,ib,_,_,hwe,ja,jb⟩:=hw.two j hj hs
   rw [hwe,has_un,has_single (isLit_ne ia),has_single (isLit_ne ib)] at hwl
   simp only [Bool.or_eq_true,decide_eq_true_eq] at hwl
   have hjk:j ∈ kl:=by
    rcases hwl with e | e
    ·subst e;simpa using ja
    ·subst e;simpa using jb
   exact h.kept j hjk hj ht
  cons:=h.cons
  fresh:=h.fresh
  fok:=h.fok },hw⟩
end Rd
end Go.Proofs.YtceahffmenbibaaGreatDoor
namespace Go.Proofs.YtceahffmenbibaaGreatDoor
namespace Rd
theorem withW_at (es:List Ent) (i:Nat) (k:Key) (j:Nat) (h:j < (withW es i k).length) (h0:j < es.length):(withW es i k)[j]=if i=j then { es[j] with watched:=k } else es[j]:=by
 simp only [withW,List.getElem_modify]
theorem withW_self (es:List Ent) (i:Nat) (k:Key) (h:i < (withW es i k).length) (h0:i < es.length):(withW es i k)[i]={ es[i] with watched:=k }:=by
 rw [withW_at es i k i h h0,if_pos rfl]
theorem withW_other (es:List Ent) (i:Nat) (k:Key) (j:Nat) (hne:j ≠ i) (h:j < (withW es i k).length) (h0:j < es.length):(withW es i k)[j]=es[j]:=by
 rw [withW_at es i k j h h0,if_neg (fun e=>hne e.symm)]
theorem withW_twice (es:List Ent) (i:Nat) (k k':Key):withW (withW es i k) i k'=withW es i k':=by
 refine List.ext_getElem (by simp [withW_len]) fun j h1 h2=>?_
 have h3:j < (withW es i k).length:=by rw [withW_len] at h1;exact h1
 have h4:j < es.length:=by rw [withW_len] at h3;exact h3
 rw [withW_at _ _ _ _ h1 h3,withW_at _ _ _ _ h2 h4,withW_at _ _ _ _ h3 h4]
 split <;> rfl
theorem withW_sigs (es:List Ent) (i:Nat) (k:Key):sigs (withW es i k)=sigs es:=by
 refine List.ext_getElem (by simp [sigs,withW_len]) fun j h1 h2=>?_
 have h4:j < es.length:=by simpa [sigs] using h2
 have h3:j < (withW es i k).length:=by rw [withW_len];exact h4
 simp only [sigs,List.getElem_map]
 rw [withW_at _ _ _ _ h3 h4]
 split <;> rfl
theorem withW_set (es:List Ent) (i:Nat) (k:Key) (j:Nat) (h:j < (withW es i k).length) (h0:j < es.length):((withW es i k)[j]).set=(es[j]).set∧((withW es i k)[j]).times=(es[j]).times:=by
 rw [withW_at _ _ _ _ h h0];split <;> exact ⟨rfl,rfl⟩
variable {es0 es:List Ent} {lit:Int} {down0 forced:Key} {orig kl:List Nat} {i:Nat} {wl:Nat→List Nat}
theorem FInv.nd (h:FInv es0 lit down0 orig i es wl kl forced) (il:IsLit lit) (hi:i < orig.length):(kl ++ orig[i] :: orig.drop (i + 1)).Nodup:=by
 have:=h.winv.nodup _ (place_lt il)
 simp only [if_true] at this
 rw [drop_at hi] at this;exact this
theorem FInv.notin (h:FInv es0 lit down0 orig i es wl kl forced) (il:IsLit lit) (hi:i < orig.length):orig[i] ∉ kl ++ orig.drop (i + 1):=by
 have:=h.nd il hi
 rw [List.nodup_append] at this
 obtain ⟨_,h2,h3⟩:=this
 rw [List.nodup_cons] at h2
 intro hm
 rcases List.mem_append.1 hm with hm | hm
 ·exact h3 _ hm _ (List.mem_cons_self ..) rfl
 ·exact h2.1 hm
theorem FInv.pair (h:FInv es0 lit down0 orig i es wl kl forced) (il:IsLit lit) (hi:i < orig.length):∃ (hl:orig[i] < es.length) (b:Int),2 ≤ (es[orig[i]]).set.size∧b ≠ lit∧IsLit b∧(es[orig[i]]).set.has lit=true∧(es[orig[i]]).set.has b=true∧(es[orig[i]]).watched=(single lit).un (single b)∧orig[i] ∈ wl (place b):=by
 obtain ⟨hl,b,h1,h2,h3,h4,h5,h6,h7⟩:=h.winv.pair il (j:=orig[i]) (by
  show orig[i] ∈ (if place lit=place lit then kl ++ orig.drop i else wl (place lit))
  rw [if_pos rfl,drop_at hi];exact List.mem_append_right _ (List.mem_cons_self ..))
 have:place b ≠ place lit:=fun e=>h2 (place_inj h3 il e)
 rw [if_neg this] at h7
 exact ⟨hl,b,h1,h2,h3,h4,h5,h6,h7⟩
theorem FInv.move (h:FInv es0 lit down0 orig i es wl kl forced) (hi:i < orig.length) (il:IsLit lit) {c:Int} (ic:IsLit c) (hj:orig[i] < es.length) (hsc:(es[orig[i]]).set.has c=true) (hcl:c ≠ lit) (hcw:(es[orig[i]]).watched.has c=false) (hnc:(down0.un forced).has (-c)=false):
  FInv es0 lit down0 orig (i + 1) (withW es orig[i] (((es[orig[i]]).watched.wo (single lit)).un (single c))) (fun k=>if k=place c then wl k ++ [orig[i]] else wl k) kl forced:=by
 obtain ⟨_,b,hs2,hbl,ib,hlit,hb,hwe,hjb⟩:=h.pair il hi
 have hni:=h.notin il hi
 have hnd:=h.nd il hi
 have hcb:c ≠ b:=fun e=>by
  rw [hwe,has_un,has_single (isLit_ne il),has_single (isLit_ne ib),e] at hcw;simp at hcw
 have hw':((es[orig[i]]).watched.wo (single lit)).un (single c)=(single b).un (single c):=key_ext fun x=>by
  rw [has_un,has_un,has_wo,hwe,has_un,has_single (isLit_ne il),has_single (isLit_ne ib)]
  by_cases e1:x=lit
  ·subst e1
   have e2:¬ x=b:=fun e=>hbl e.symm
   simp [e2]
  ·simp [e1]
 rw [hw']
 have pl:place b ≠ place lit:=fun e=>hbl (place_inj ib il e)
 have pcl:place c ≠ place lit:=fun e=>hcl (place_inj ic il e)
 have len:∀ {j},j < (withW es orig[i] ((single b).un (single c))).length→j < es.length:=fun h=>by rwa [withW_len] at h
 have hW:∀ k,k ≠ place lit→∀ x,x ∈ wl k→x ∈ (if k=place lit then kl ++ orig.drop (i + 1) else if k=place c then wl k ++ [orig[i]] else wl k):=fun k hk x hx=>by
  rw [if_neg hk];split
  ·exact List.mem_append_left _ hx
  ·exact hx
 have hO:∀ k x,x ≠ orig[i]→x ∈ (if k=place lit then kl ++ orig.drop i else wl k)→x ∈ (if k=place lit then kl ++ orig.drop (i + 1) else if k=place c then wl k ++ [orig[i]] else wl k):=fun k x hne hx=>by
  by_cases e:k=place lit
  ·rw [if_pos e] at hx ⊢
   rw [drop_at hi] at hx
   rcases List.mem_append.1 hx with hx | hx
   ·exact List.mem_append_left _ hx
   ·rcases List.mem_cons.1 hx with hx | hx
    ·exact absurd hx hne
    ·exact List.mem_append_right _ hx
  ·rw [if_neg e] at hx;exact hW k e x hx
 exact {
  same:=by rw [withW_sigs];exact h.same
  winv:={
   two:=fun j hl hs=>by
    have hl0:=len hl
    obtain ⟨es1,es2⟩:=withW_set es orig[i] ((single b).un (single c)) j hl hl0
    rw [es1] at hs ⊢
    by_cases e:j=orig[i]
    ·subst e
     refine ⟨b,c,fun e=>hcb e.symm,ib,ic,hb,hsc,by rw [withW_self _ _ _ hl hl0],hW _ pl _ hjb,?_⟩
     show _ ∈ (if place c=place lit then kl ++ orig.drop (i + 1) else if place c=place c then wl (place c) ++ [orig[i]] else wl (place c))
     rw [if_neg pcl,if_pos rfl];simp
    ·obtain ⟨a,b',hab,ia,ib',ha,hb',hwa,ja,jb⟩:=h.winv.two j hl0 hs
     exact ⟨a,b',hab,ia,ib',ha,hb',by rw [withW_other _ _ _ _ e hl hl0];exact hwa,hO _ _ e ja,hO _ _ e jb⟩
   one:=fun j hl hs=>by
    have hl0:=len hl
    rw [(withW_set es orig[i] ((single b).un (single c)) j hl hl0).1] at hs
    by_cases e:j=orig[i]
    ·subst e;exact absurd hs2 hs
    ·rw [withW_other _ _ _ _ e hl hl0];exact h.winv.one j hl0 hs
   lists:=fun k hk j hjm=>by
    have hjm:j ∈ (if k=place lit then kl ++ orig.drop (i + 1) else if k=place c then wl k ++ [orig[i]] else wl k):=hjm
    by_cases e:k=place lit
    ·rw [if_pos e] at hjm
     have hne:j ≠ orig[i]:=fun e=>hni (e ▸ hjm)
     obtain ⟨hl0,hs,l,i1,i2,i3⟩:=h.winv.lists k hk j (by
      show j ∈ (if k=place lit then kl ++ orig.drop i else wl k)
      rw [if_pos e,drop_at hi]
      rcases List.mem_append.1 hjm with hx | hx
      ·exact List.mem_append_left _ hx
      ·exact List.mem_append_right _ (List.mem_cons_of_mem _ hx))
     have hl:j < (withW es orig[i] ((single b).un (single c))).length:=by rw [withW_len];exact hl0
     exact ⟨hl,by rw [withW_other _ _ _ _ hne hl hl0];exact hs,l,i1,i2,by rw [withW_other _ _ _ _ hne hl hl0];exact i3⟩
    ·rw [if_neg e] at hjm
     by_cases ej:j=orig[i]
     ·subst ej
      have hl:orig[i] < (withW es orig[i] ((single b).un (single c))).length:=by rw [withW_len];exact hj
      refine ⟨hl,by rw [withW_self _ _ _ hl hj];exact hs2,?_⟩
      by_cases ec:k=place c
      ·exact ⟨c,ic,ec.symm,by rw [withW_self _ _ _ hl hj];show ((single b).un (single c)).has c=true;rw [has_un,has_single (isLit_ne ic)];simp⟩
      ·rw [if_neg ec] at hjm
       obtain ⟨_,_,l,i1,i2,i3⟩:=h.winv.lists k hk _ (by
        show orig[i] ∈ (if k=place lit then kl ++ orig.drop i else wl k)
        rw [if_neg e];exact hjm)
       rw [hwe,has_un,has_single (isLit_ne il),has_single (isLit_ne ib)] at i3
       simp only [Bool.or_eq_true,decide_eq_true_eq] at i3
       rcases i3 with i3 | i3
       ·exact absurd (by rw [← i2,i3]) e
       ·exact ⟨b,ib,by rw [← i3];exact i2,by rw [withW_self _ _ _ hl hj];show ((single b).un (single c)).has b=true;rw [has_un,has_single (isLit_ne ib)];simp⟩
     ·have hjw:j ∈ wl k:=by
       split at hjm
       ·rcases List.mem_append.1 hjm with hx | hx
        ·exact hx
        ·simp at hx;exact absurd hx ej
       ·exact hjm
      obtain ⟨hl0,hs,l,i1,i2,i3⟩:=h.winv.lists k hk j (by
       show j ∈ (if k=place lit then kl ++ orig.drop i else wl k)
       rw [if_neg e];exact hjw)
      have hl:j < (withW es orig[i] ((single b).un (single c))).length:=by rw [withW_len];exact hl0
      exact ⟨hl,by rw [withW_other _ _ _ _ ej hl hl0];exact hs,l,i1,i2,by rw [withW_other _ _ _ _ ej hl hl0];exact i3⟩
   nodup:=fun k hk=>by
    show (if k=place lit then kl ++ orig.drop (i + 1) else if k=place c then wl k ++ [orig[i]] else wl k).Nodup
    have hn:=h.winv.nodup k hk
    by_cases e:k=place lit
    ·rw [if_pos e]
     exact hnd.sublist ((List.Sublist.refl kl).append (List.sublist_cons_self _ _))
    ·rw [if_neg e]
     have hn:(if k=place lit then kl ++ orig.drop i else wl k).Nodup:=hn
     rw [if_neg e] at hn
     split
     ·rename_i ec
      refine List.nodup_append.2 ⟨hn,by simp,fun x hx y hy=>?_⟩
      simp at hy;subst hy
      intro exy
      rw [exy] at hx
      obtain ⟨_,_,l,i1,i2,i3⟩:=h.winv.lists k hk orig[i] (by
       show orig[i] ∈ (if k=place lit then kl ++ orig.drop i else wl k)
       rw [if_neg e];exact hx)
      have:l=c:=place_inj i1 ic (i2.trans ec)
      rw [this] at i3
      first | (rw [hcw] at i3;cases i3) | (simp [hcw] at i3)
     ·exact hn
   ok:=fun e he=>by
    obtain ⟨j,hl,rfl⟩:=List.getElem_of_mem he
    rw [(withW_set es orig[i] _ j hl (len hl)).1]
    exact h.winv.ok _ (List.getElem_mem _) }
  old:=fun j h0 hl l hlw=>by
   have hl0:=len hl
   by_cases e:j=orig[i]
   ·subst e
    rw [withW_self _ _ _ hl hl0] at hlw
    have hlw:((single b).un (single c)).has l=true:=hlw
    rw [has_un,has_single (isLit_ne ib),has_single (isLit_ne ic)] at hlw
    simp only [Bool.or_eq_true,decide_eq_true_eq] at hlw
    rcases hlw with e | e
    ·exact h.old _ h0 hl0 l (by rw [hwe,has_un,has_single (isLit_ne ib),e];simp)
    ·subst e
     rw [has_un,Bool.or_eq_false_iff] at hnc
     exact .inr hnc.1
   ·rw [withW_other _ _ _ _ e hl hl0] at hlw
    exact h.old _ h0 hl0 l hlw
  sound:=h.sound
  kept:=fun j hjk hl ht=>by
   have hl0:=len hl
   obtain ⟨e1,e2⟩:=withW_set es orig[i] ((single b).un (single c)) j hl hl0
   rw [e1];rw [e2] at ht
   exact h.kept j hjk hl0 ht
  cons:=h.cons
  fresh:=h.fresh
  fok:=h.fok
  klen:=Nat.le_succ_of_le h.klen
  ilen:=hi }
end Rd
end Go.Proofs.YtceahffmenbibaaGreatDoor
namespace Go.Proofs.YtceahffmenbibaaGreatDoor
namespace Rd
open Go Go.RowKit Go.Deep
variable {B sb mb:Nat} {w w':World} {cv:Value} {gone:Int} {u:Key} {wv:Nat→Value} {es:List Ent} {wl:Nat→List Nat}
theorem natsV_set (xs:List Nat) (i a:Nat):natsV (xs.set i a)=(natsV xs).set i (.int .i64 (a:Int)):=by unfold natsV;rw [List.map_set]
theorem natsV_len (xs:List Nat):(natsV xs).length=xs.length:=by unfold natsV;simp
theorem Sto.wlt (h:Sto B sb w cv mb gone u wv es wl) {p gb n cap:Nat} (hp:p < 128) (hv:wv p=.slice (some ⟨gb,0,none⟩) n cap):∃ cur,w.heap[gb]? = some (.cells cur 3 (0,0))∧B ≤ gb∧n=(wl p).length∧n ≤ cap:=by
 rcases (h.wat p hp).2 with ⟨e,_⟩ | ⟨g,cap',cur,e,hb,hg,hn,_⟩
 ·rw [hv] at e;cases e
 ·rw [hv] at e;cases e;exact ⟨cur,hg,hb,rfl,hn⟩
theorem Sto.farW (h:Sto B sb w cv mb gone u wv es wl) {p gb n cap:Nat} (hp:p < 128) (hv:wv p=.slice (some ⟨gb,0,none⟩) n cap):sb ≠ gb∧mb ≠ gb∧(∀ g,cv.ownBlock=some g→g ≠ gb)∧∀ k,k < 128→k ≠ p→∀ g,(wv k).ownBlock=some g→g ≠ gb:=by
 obtain ⟨cur,hg,_⟩:=h.wlt hp hv
 refine ⟨fun e=>?_,fun e=>h.map.not_cells (by rw [e];exact hg),fun g hcg e=>?_,fun k hk hne g hkg e=>?_⟩
 ·obtain ⟨c,hr,_⟩:=h.row
  rw [e,hg] at hr;cases hr
 ·rcases h.cls.2 with ⟨e2,_⟩ | ⟨g',cap',cur',e2,_,hg',_⟩
  ·rw [e2] at hcg;cases hcg
  ·rw [e2] at hcg;cases hcg;simp only at e;rw [e,hg] at hg';cases hg'
 ·rcases h.apart k p hk hp hne with e3 | e3
  ·rw [e3] at hkg;cases hkg
  ·exact e3 (by rw [hkg,hv,e];rfl)
theorem Sto.intoWat {p gb n cap:Nat} {xs:List Nat} {ws:World} (h:Sto B sb w cv mb gone u wv es wl) (hp:p < 128) (hv:wv p=.slice (some ⟨gb,0,none⟩) n cap)
  (hown:ws.ownsRow B 3 1 (wv p) xs.length (natsV xs)) (hblk:∀ k,k ≠ gb→ws.heap[k]? = w.heap[k]?):Sto B sb ws cv mb gone u wv es (fun k=>if k=p then xs else wl k):=by
 obtain ⟨f1,f2,f3,f4⟩:=h.farW hp hv
 exact {
  row:=h.row.of_block (hblk _ f1)
  cls:=owns_block h.cls fun g hg=>hblk g (f3 g hg)
  map:=h.map.kept (hblk _ f2)
  wat:=fun k hk=>by
   by_cases e:k=p
   ·subst e;simp only [if_true];exact hown
   ·simp only [e,if_false]
    exact owns_block (h.wat k hk) fun g hg=>hblk g (f4 k hk e g hg)
  apart:=h.apart
  bsb:=h.bsb
  bmb:=h.bmb }
theorem Sto.setL {p gb n cap i a:Nat} (h:Sto B sb w cv mb gone u wv es wl) (hp:p < 128) (hv:wv p=.slice (some ⟨gb,0,none⟩) n cap):
  Sto B sb (w.setCell ⟨gb,i,none⟩ (.int .i64 (a:Int))) cv mb gone u wv es (fun k=>if k=p then (wl p).set i a else wl k):=by
 refine h.intoWat hp hv ?_ (fun k hk=>Below.heap_setCell _ _ _ _ hk)
 rw [natsV_set,List.length_set]
 have hw:=h.wat p hp
 obtain ⟨_,_,_,hn,_⟩:=h.wlt hp hv
 rw [hv,hn] at hw ⊢
 exact (hw.stored i _).1
theorem Sto.keepsL {p gb n cap:Nat} (h:Sto B sb w cv mb gone u wv es wl) (hp:p < 128) (hv:wv p=.slice (some ⟨gb,0,none⟩) n cap) (i:Nat) (x:Value):Keeps w (w.setCell ⟨gb,i,none⟩ x):=fun k hk=>Below.heap_setCell _ _ _ _ (fun e=>by
 obtain ⟨cur,hg,_⟩:=h.wlt hp hv
 obtain ⟨c,t,ht,_,_,h3⟩:=hk
 simp only at e
 rw [e,hg] at ht;cases ht;exact h3 rfl)
theorem natsV_take (xs:List Nat) (i:Nat):natsV (xs.take i)=(natsV xs).take i:=by unfold natsV;rw [List.map_take]
theorem owns_take {w:World} {B e:Nat} {a:Option Addr} {n k cap:Nat} {xs:List Value} (h:w.ownsRow B e 1 (.slice a n cap) n xs) (hk:k ≤ n):w.ownsRow B e 1 (.slice a k cap) k (xs.take k):=by
 have hl:=h.1
 refine ⟨by rw [List.length_take,hl];omega,?_⟩
 rcases h.2 with ⟨e2,h0⟩ | ⟨g,cap',cur,e2,hb,hg,hn,hm,hs,ht⟩
 ·cases e2
  have:k=0:=by omega
  subst this;exact .inl ⟨rfl,rfl⟩
 ·cases e2
  refine .inr ⟨g,cap,cur,rfl,hb,hg,by omega,hm,hs,?_⟩
  rw [← ht,List.take_take];congr 1;omega
theorem Sto.cutL {p n cap k0:Nat} {a:Option Addr} (h:Sto B sb w cv mb gone u wv es wl) (hp:p < 128) (hv:wv p=.slice a n cap) (hk:k0 ≤ (wl p).length):
  Sto B sb (w.setCell ⟨sb,5 + p,none⟩ (.slice a k0 cap)) cv mb gone u (fun k=>if k=p then .slice a k0 cap else wv k) es (fun k=>if k=p then (wl p).take k0 else wl k):=by
 have hw:=h.wat p hp
 have hn:n=(wl p).length:=by
  obtain ⟨a',c',e⟩:=own_shape hw
  rw [hv] at e;cases e;rfl
 have own:w.ownsRow B 3 1 (.slice a k0 cap) k0 (natsV ((wl p).take k0)):=by
  rw [natsV_take]
  rw [hv,hn] at hw
  exact owns_take hw hk
 have blk:(Value.slice a k0 cap).ownBlock=(wv p).ownBlock:=by rw [hv];cases a <;> rfl
 have hl:((wl p).take k0).length=k0:=by rw [List.length_take];omega
 exact {
  row:=(h.row.set (5 + p) _).congr fun i hi=>by
   match i with
   | 0=>rw [if_neg (by omega)];rfl
   | 1=>rw [if_neg (by omega)];rfl
   | 2=>rw [if_neg (by omega)];rfl
   | 3=>rw [if_neg (by omega)];rfl
   | 4=>rw [if_neg (by omega)];rfl
   | k + 5=>
    by_cases e:k=p
    ·subst e;simp [stoF,Nat.add_comm]
    ·have:¬ (k + 5=5 + p):=by omega
     simp [stoF,this,e]
  cls:=ownsRow_setCell_other h.cls (fun e=>h.far_sb.2.1 sb e rfl) _
  map:=h.map.kept (Below.heap_setCell _ _ _ _ h.far_sb.1)
  wat:=fun k hk'=>by
   by_cases e:k=p
   ·subst e
    simp only [if_true]
    rw [hl]
    exact ownsRow_setCell_other own (fun e=>h.far_sb.2.2 k hk' sb (by rw [← blk];exact e) rfl) _
   ·simp only [e,if_false]
    exact ownsRow_setCell_other (h.wat k hk') (fun e=>h.far_sb.2.2 k hk' sb e rfl) _
  apart:=fun k k' hk hk' hne=>by
   have e1:∀ x,(if x=p then Value.slice a k0 cap else wv x).ownBlock=(wv x).ownBlock:=fun x=>by
    split
    ·rename_i e;rw [e];exact blk
    ·rfl
   rw [e1,e1]
   exact h.apart k k' hk hk' hne
  bsb:=h.bsb
  bmb:=h.bmb }
def mix (kl orig:List Nat):List Nat:=kl ++ orig.drop kl.length
theorem mix_nil (orig:List Nat):mix [] orig=orig:=rfl
theorem mix_len {kl orig:List Nat} (h:kl.length ≤ orig.length):(mix kl orig).length=orig.length:=by unfold mix;simp;omega
theorem mix_at {kl orig:List Nat} {i:Nat} (h:kl.length ≤ i) (hi:i < orig.length) (hm:i < (mix kl orig).length):(mix kl orig)[i]=orig[i]:=by
 simp only [mix]
 rw [List.getElem_append_right h,List.getElem_drop]
 congr 1;omega
theorem mix_set {kl orig:List Nat} {a:Nat} (h:kl.length < orig.length):(mix kl orig).set kl.length a=mix (kl ++ [a]) orig:=by
 unfold mix
 rw [List.set_append_right _ _ (Nat.le_refl _),Nat.sub_self,drop_at h,List.set_cons_zero]
 simp
theorem mix_take {kl orig:List Nat}:(mix kl orig).take kl.length=kl:=by unfold mix;simp
end Rd
end Go.Proofs.YtceahffmenbibaaGreatDoor
