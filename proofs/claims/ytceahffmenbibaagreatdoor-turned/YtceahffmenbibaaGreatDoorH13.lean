/- Qsto. -/
import Derived.Test.YtceahffmenbibaaGreatDoorH11
set_option linter.unusedVariables false
set_option linter.unusedSimpArgs false
namespace Go.Proofs.YtceahffmenbibaaGreatDoor
namespace Rd
section
theorem rP {es:List dN} {s:Key}:look es s=none↔∀ e ∈ es,e.set ≠ s:=by
 unfold look;rw [List.findIdx?_eq_none_iff];constructor
 ·intro h e a;have:=h e a;simpa using this
 ·intro h e a;simpa using h e a
structure jX (es:List dN) (wl:Nat->List Nat) (u:Key) (L:List Cl):Prop where
 gT:fJ es wl
 qb:(es.map dN.set).Nodup
 cnt:∀ e ∈ es,e.times=L.countP (fun d=>decide (setOf d=e.set))
 all:∀ d ∈ L,∃ e ∈ es,e.set=setOf d
 lits:∀ c ∈ L,∀ l ∈ c,jG l
 jI:wN es u
variable {es es':List dN} {wl mr:Nat->List Nat} {u:Key} {L:List Cl} {c:Cl}
theorem jX.rep (h:jX es wl u L):UK es L where
 YA:=fun e b f=>by
  rw [h.cnt e b] at f;obtain ⟨d,hd,a⟩:=List.countP_pos_iff.1 f;exact ⟨d,hd,of_decide_eq_true a⟩
 from':=fun d hd=>by
  obtain ⟨e,b,a⟩:=h.all d hd;refine ⟨e,b,?_,a⟩;rw [h.cnt e b];exact List.countP_pos_iff.2 ⟨d,hd,by rw [a];simp⟩
 lits:=h.lits
theorem Il (h:sigs es'=sigs es) (k:wN es u):wN es' u:=⟨k.ok,fun l m=>by
 rw [k.iff l m];constructor
 ·rintro ⟨e,b,f,d⟩;obtain ⟨j,a,i,g⟩:=o5 h.symm b;exact ⟨j,a,by rw [g];exact f,by rw [i];exact d⟩
 ·rintro ⟨e,b,f,d⟩;obtain ⟨j,a,i,g⟩:=o5 h b;exact ⟨j,a,by rw [g];exact f,by rw [i];exact d⟩⟩
theorem rH (es:List dN):es.map dN.set=(sigs es).map Prod.fst:=by unfold sigs;rw [List.map_map];rfl
theorem jX.same (h:jX es wl u L) (b:sigs es'=sigs es) (k:fJ es' mr):jX es' mr u L where
 gT:=k
 qb:=by rw [rH,b,<- rH];exact h.qb
 cnt:=fun e f=>by
  obtain ⟨i,a,g,j⟩:=o5 b f;rw [<- j,<- g];exact h.cnt i a
 all:=fun d hd=>by
  obtain ⟨e,f,l⟩:=h.all d hd;obtain ⟨i,a,g,j⟩:=o5 b.symm f;exact ⟨i,a,by rw [g];exact l⟩
 lits:=h.lits
 jI:=Il b h.jI
theorem uG (h:(es.map dN.set).Nodup) {i j:Nat} (hi:i < es.length) (a:j < es.length) (e:(es[i]).set=(es[j]).set):i=j:=by
 have b:(es.map dN.set)[i]'(by simpa using hi)=(es.map dN.set)[j]'(by simpa using a):=by simpa using e
 exact (List.getElem_inj h).1 b
theorem TS (h:(es.map dN.set).Nodup) {i:Nat} (hi:i < es.length):look es (es[i]).set=some i:=by
 cases e:look es (es[i]).set with
 | none=>exact absurd rfl (rP.1 e _ (List.getElem_mem hi))
 | some j=>
  obtain ⟨b,a⟩:=mY e;rw [uG h b hi a]
theorem AP (h:(es.map dN.set).Nodup) (s:Key):there es s=true↔∃ e ∈ es,0 < e.times/\e.set=s:=by
 unfold there;constructor
 ·intro a
  cases e:look es s with
  | none=>rw [e] at a;cases a
  | some i=>
   rw [e] at a;obtain ⟨b,d⟩:=mY e;simp only [List.getElem?_eq_getElem b] at a;exact ⟨_,List.getElem_mem b,of_decide_eq_true a,d⟩
 ·rintro ⟨e,f,a,d⟩;obtain ⟨i,b,rfl⟩:=List.mem_iff_getElem.1 f;rw [<- d,TS h b];simp only [List.getElem?_eq_getElem b];exact decide_eq_true a
theorem vU (h:(es.map dN.set).Nodup):there es (0,0)=false↔rZ es:=by
 rw [<- Bool.not_eq_true,AP h];constructor
 ·intro b e d a f;exact b ⟨e,d,a,f⟩
 ·rintro b ⟨e,d,a,f⟩;exact b e d a f
theorem Dz {s:Key} (d:s.ok) (h:2 <= s.size):dY (aL s)/\dY (bL s)/\aL s ≠ bL s/\s.has (aL s)=true/\s.has (bL s)=true:=by
 have j:s ≠ (0,0):=by
  obtain ⟨a,b,_,i,_⟩:=size_two d h;exact (kF s).2 ⟨a,i⟩
 obtain ⟨_,p2,p3⟩:=mW d j;obtain ⟨_,f,g⟩:=mW (sD d _) (qG d h (dD p3));rw [kK,Bool.and_eq_true,Bool.not_eq_true',dh (dD p3)] at f;exact ⟨p3,g,fun e=>by have:=f.2;unfold aL bL at e;rw [<- e] at this;simp at this,p2,f.1⟩
theorem pF {wl:Nat->List Nat} {s:Key} {n:Nat} (i:s.ok) (h:2 <= s.size) (k:Nat):iO wl s n k=if k=place (aL s)\/k=place (bL s) then wl k ++ [n] else wl k:=by
 obtain ⟨g,f,d,_,_⟩:=Dz i h;have j:place (bL s) ≠ place (aL s):=fun e=>d (kg g f e.symm)
 unfold iO;rw [if_pos h];simp only [j,if_false];by_cases b:k=place (bL s)
 ·rw [if_pos b,if_pos (.inr b),b]
 ·rw [if_neg b];by_cases a:k=place (aL s)
  ·rw [if_pos a,if_pos (.inl a),a]
  ·rw [if_neg a,if_neg (by rintro (h | h);exact a h;exact b h)]
theorem Jk (s:Key):(eG s).set=s:=by unfold eG;dsimp only
theorem fJ.Wi (h:fJ es wl) {s:Key} {E:dN} (n:s.ok) (i:E.set=s) (p:E.watched=(eG s).watched):fJ (es ++ [E]) (iO wl s es.length):=by
 have v:∀ j (f:j < (es ++ [E]).length),(∃ m:j < es.length,(es ++ [E])[j]=es[j])\/(j=es.length/\(es ++ [E])[j]=E):=fun j f=>by
  rcases Nat.lt_or_ge j es.length with m | m
  ·exact .inl ⟨m,List.getElem_append_left m⟩
  ·have:j=es.length:=by simp at f;omega
   subst this;exact .inr ⟨rfl,by simp⟩
 have sub:∀ k x,x ∈ wl k->x ∈ iO wl s es.length k:=fun k x B=>by
  by_cases d:2 <= s.size
  ·rw [pF n d];split
   ·exact List.mem_append_left _ B
   ·exact B
  ·unfold iO;rw [if_neg d];exact B
 exact {
  two:=fun j f d=>by
   rcases v j f with ⟨m,e⟩ | ⟨rfl,e⟩
   ·rw [e] at d ⊢;obtain ⟨a,b,H,G,F,D,N,M,K,J⟩:=h.two j m d;exact ⟨a,b,H,G,F,D,N,M,sub _ _ K,sub _ _ J⟩
   ·rw [e] at d ⊢;have g:2 <= s.size:=by rw [i] at d;exact d
    obtain ⟨y,w,t,A,z⟩:=Dz n g;refine ⟨aL s,bL s,t,y,w,by rw [i];exact A,by rw [i];exact z,?_,?_,?_⟩
    ·rw [p];unfold eG;simp only [if_pos g]
    ·rw [pF n g,if_pos (.inl rfl)];simp
    ·rw [pF n g,if_pos (.inr rfl)];simp
  one:=fun j f d=>by
   rcases v j f with ⟨m,e⟩ | ⟨rfl,e⟩
   ·rw [e] at d ⊢;exact h.one j m d
   ·rw [e] at d ⊢;have g:¬ 2 <= s.size:=by rw [i] at d;exact d
    rw [p];unfold eG;simp only [if_neg g]
  lists:=fun k q j f=>by
   have o:j ∈ wl k->∃ h:j < (es ++ [E]).length,2 <= ((es ++ [E])[j]).set.size/\∃ l,dY l/\place l=k/\((es ++ [E])[j]).watched.has l=true:=fun f=>by
    obtain ⟨m,H,l,G,F,D⟩:=h.lists k q j f;refine ⟨by simp;omega,?_⟩;rw [List.getElem_append_left m];exact ⟨H,l,G,F,D⟩
   by_cases d:2 <= s.size
   ·rw [pF n d] at f;split at f
    ·rename_i C
     rcases List.mem_append.1 f with f | f
     ·exact o f
     ·obtain rfl:j=es.length:=by simpa using f
      obtain ⟨y,w,t,A,z⟩:=Dz n d;refine ⟨by simp,?_⟩;rw [show (es ++ [E])[es.length]'(by simp)=E by simp];refine ⟨by rw [i];exact d,?_⟩;have I:E.watched=(single (aL s)).un (single (bL s)):=by
       rw [p];unfold eG;simp only [if_pos d]
      rcases C with e | e
      ·exact ⟨aL s,y,e.symm,by rw [I,dL,dh (dD y)];simp⟩
      ·exact ⟨bL s,w,e.symm,by rw [I,dL,dh (dD w)];simp⟩
    ·exact o f
   ·unfold iO at f;rw [if_neg d] at f;exact o f
  nodup:=fun k q=>by
   by_cases d:2 <= s.size
   ·rw [pF n d];split
    ·rw [List.nodup_append];refine ⟨h.nodup k q,by simp,fun a A b z e=>?_⟩;obtain ⟨m,_⟩:=h.lists k q a A;have:b=es.length:=by simpa using z
     omega
    ·exact h.nodup k q
   ·unfold iO;rw [if_neg d];exact h.nodup k q
  ok:=fun e r=>by
   rcases List.mem_append.1 r with r | r
   ·exact h.ok e r
   ·obtain rfl:e=E:=by simpa using r
    rw [i];exact n }
theorem fJ.enter (h:fJ es wl) {s:Key} (a:s.ok) (t:Nat):fJ (es ++ [{ eG s with times:=t }]) (iO wl s es.length):=by
 refine h.Wi a ?_ ?_
 ·dsimp only;exact Jk s
 ·dsimp only
theorem IL {s:Key} (h:(es.map dN.set).Nodup) (f:look es s=none) (t:Nat):((es ++ [{ eG s with times:=t }]).map dN.set).Nodup:=by
 rw [List.map_append,List.nodup_append];refine ⟨h,by simp,fun a i b g e=>?_⟩;obtain ⟨x,d,rfl⟩:=List.mem_map.1 i;have:b=s:=by simpa [eG] using g
 exact rP.1 f x d (by rw [e,this])
theorem CZ (es:List dN) (i:Nat) (f:dN->dN) {e:dN} (b:e ∈ es.modify i f):(∃ j,∃ a:j < es.length,j ≠ i/\e=es[j])\/∃ d:i < es.length,e=f es[i]:=by
 obtain ⟨j,a,rfl⟩:=List.mem_iff_getElem.1 b;rw [List.length_modify] at a;rw [List.getElem_modify];split
 ·rename_i h;subst h;exact .inr ⟨a,rfl⟩
 ·rename_i h;exact .inl ⟨j,a,fun e=>h e.symm,rfl⟩
theorem lD (es:List dN) (i:Nat) (f:dN->dN) {j:Nat} (b:j < es.length) (a:j ≠ i):es[j] ∈ es.modify i f:=by
 refine List.mem_iff_getElem.2 ⟨j,by rw [List.length_modify];exact b,?_⟩;rw [List.getElem_modify,if_neg (fun e=>a e.symm)]
theorem kG (es:List dN) (i:Nat) (f:dN->dN) (hi:i < es.length):f es[i] ∈ es.modify i f:=by
 refine List.mem_iff_getElem.2 ⟨i,by rw [List.length_modify];exact hi,?_⟩;rw [List.getElem_modify,if_pos rfl]
theorem fJ.times (h:fJ es wl) (p:es'.length=es.length) (g:∀ j (h:j < es.length) (h':j < es'.length),(es'[j]).set=(es[j]).set/\(es'[j]).watched=(es[j]).watched):fJ es' wl where
 two:=fun j a b=>by
  obtain ⟨f,d⟩:=g j (by omega) a;rw [f] at b ⊢;rw [d];exact h.two j (by omega) b
 one:=fun j a b=>by
  obtain ⟨f,d⟩:=g j (by omega) a;rw [f] at b;rw [d];exact h.one j (by omega) b
 lists:=fun k i j a=>by
  obtain ⟨o,n,m⟩:=h.lists k i j a;obtain ⟨f,d⟩:=g j o (by omega);exact ⟨by omega,by rw [f];exact n,by rw [d];exact m⟩
 nodup:=h.nodup
 ok:=fun e l=>by
  obtain ⟨j,a,rfl⟩:=List.mem_iff_getElem.1 l;rw [(g j (by omega) a).1];exact h.ok _ (List.getElem_mem _)
theorem fJ.Xw (h:fJ es wl) (i:Nat) (f:Nat->Nat):fJ (es.modify i (fun e=>{ e with times:=f e.times })) wl:=by
 refine h.times (by simp) fun j a b=>?_
 rw [List.getElem_modify];split <;> exact ⟨rfl,rfl⟩
theorem BS (i:Nat) (f:Nat->Nat):(es.modify i (fun e=>{ e with times:=f e.times })).map dN.set=es.map dN.set:=by
 refine List.ext_getElem? fun j=>?_
 rw [List.getElem?_map,List.getElem?_map,List.getElem?_modify];split <;> cases es[j]? <;> rfl
theorem mR (b:∀ l ∈ c,jG l):(setOf c).ok:=xY fun l a=>nL (b l a)
theorem GI (L:List Cl) (c:Cl) (s:Key):(L ++ [c]).countP (fun d=>decide (setOf d=s))=L.countP (fun d=>decide (setOf d=s)) + (if setOf c=s then 1 else 0):=by
 rw [List.countP_append]
 congr 1
 by_cases h:setOf c=s <;> simp [h]
theorem vY {l:Int} (h:dY l):(single l).size=1:=by
 rcases Nat.lt_trichotomy (single l).size 1 with d | d | d
 ·have:=uW (fP h) (by omega);have i:(single l).has l=true:=by rw [dh (dD h)];simp
  rw [this,fw] at i;cases i
 ·exact d
 ·obtain ⟨a,b,e,g,f⟩:=size_two (fP h) d;rw [dh (dD h)] at g f;exact absurd ((of_decide_eq_true g).trans (of_decide_eq_true f).symm) e
theorem Eu {a b:Int} (f:dY a) (e:dY b) (h:single a=single b):a=b:=by
 have d:(single a).has a=true:=by rw [dh (dD f)];simp
 rw [h,dh (dD e)] at d;exact of_decide_eq_true d
theorem jX.add (h:jX es wl u L) (C:∀ l ∈ c,jG l):jX (xm es (setOf c)) (Ap es wl (setOf c)) (if (setOf c).size=1 then u.un (setOf c) else u) (L ++ [c]):=by
 have o:=mR C;have k:∀ d ∈ L ++ [c],∀ l ∈ d,jG l:=fun d hd=>by
  rcases List.mem_append.1 hd with hd | hd
  ·exact h.lits d hd
  ·obtain rfl:d=c:=by simpa using hd
   exact C
 have un:∀ r:List dN,(∀ s,(∃ e ∈ r,0 < e.times/\e.set=s)↔(∃ e ∈ es,0 < e.times/\e.set=s)\/s=setOf c)->wN r (if (setOf c).size=1 then u.un (setOf c) else u):=fun r E=>by
  refine ⟨?_,fun l y=>?_⟩
  ·split
   ·exact qB h.jI.ok o
   ·exact h.jI.ok
  ·rw [E,<- h.jI.iff l y];split
   ·rename_i b;obtain ⟨m,D,B⟩:=uh o b;rw [dL,Bool.or_eq_true];constructor
    ·rintro (f | f)
     ·exact .inl f
     ·rw [B,dh (dD D)] at f;rw [of_decide_eq_true f];exact .inr B.symm
    ·rintro (f | f)
     ·exact .inl f
     ·exact .inr (by rw [<- f,dh (dD y)];simp)
   ·rename_i b;constructor
    ·exact .inl
    ·rintro (f | f)
     ·exact f
     ·exact absurd (by rw [<- f];exact vY y) b
 cases q:look es (setOf c) with
 | none=>
  have A:xm es (setOf c)=es ++ [{ eG (setOf c) with times:=1 }]:=by unfold xm;rw [q]
  have z:Ap es wl (setOf c)=iO wl (setOf c) es.length:=by unfold Ap;rw [q]
  rw [A,z];have v:=rP.1 q;exact {
   gT:=h.gT.enter o 1
   qb:=IL h.qb q 1
   cnt:=fun e a=>by
    rw [GI]
    rcases List.mem_append.1 a with a | a
    ·rw [if_neg (fun h=>v e a h.symm),h.cnt e a];rfl
    ·obtain rfl:e=_:=by simpa using a
     show 1=L.countP (fun d=>decide (setOf d=setOf c)) + (if setOf c=setOf c then 1 else 0)
     rw [if_pos rfl];have:L.countP (fun d=>decide (setOf d=setOf c))=0:=by
      rw [List.countP_eq_zero];intro d hd g;obtain ⟨e,a,b⟩:=h.all d hd;exact v e a (b.trans (of_decide_eq_true g))
     omega
   all:=fun d hd=>by
    rcases List.mem_append.1 hd with hd | hd
    ·obtain ⟨e,a,b⟩:=h.all d hd;exact ⟨e,List.mem_append_left _ a,b⟩
    ·obtain rfl:d=c:=by simpa using hd
     exact ⟨_,List.mem_append_right _ (List.mem_singleton.2 rfl),rfl⟩
   lits:=k
   jI:=un _ fun s=>by
    constructor
    ·rintro ⟨e,a,p,g⟩
     rcases List.mem_append.1 a with a | a
     ·exact .inl ⟨e,a,p,g⟩
     ·obtain rfl:e=_:=by simpa using a
      exact .inr g.symm
    ·rintro (⟨e,a,p,g⟩ | rfl)
     ·exact ⟨e,List.mem_append_left _ a,p,g⟩
     ·exact ⟨_,List.mem_append_right _ (List.mem_singleton.2 rfl),Nat.one_pos,rfl⟩ }
 | some i=>
  have A:xm es (setOf c)=es.modify i (fun e=>{ e with times:=e.times + 1 }):=by unfold xm;rw [q]
  have z:Ap es wl (setOf c)=wl:=by unfold Ap;rw [q]
  rw [A,z];obtain ⟨x,g⟩:=mY q;exact {
   gT:=h.gT.Xw i (· + 1)
   qb:=by rw [BS i (· + 1)];exact h.qb
   cnt:=fun e a=>by
    rw [GI]
    rcases CZ es i _ a with ⟨j,n,w,rfl⟩ | ⟨_,rfl⟩
    ·rw [if_neg (fun f=>w (uG h.qb n x (by rw [g];exact f.symm))),h.cnt _ (List.getElem_mem n)];rfl
    ·show (es[i]).times + 1=L.countP (fun d=>decide (setOf d=(es[i]).set)) + (if setOf c=(es[i]).set then 1 else 0)
     rw [if_pos g.symm,h.cnt _ (List.getElem_mem x)]
   all:=fun d hd=>by
    have t:∀ s,(∃ e ∈ es,e.set=s)->∃ e ∈ es.modify i (fun e=>{ e with times:=e.times + 1 }),e.set=s:=by
     rintro s ⟨e,a,b⟩;obtain ⟨j,n,rfl⟩:=List.mem_iff_getElem.1 a;by_cases e:j=i
     ·subst e;exact ⟨_,kG es j _ n,b⟩
     ·exact ⟨_,lD es i _ n e,b⟩
    rcases List.mem_append.1 hd with hd | hd
    ·exact t _ (h.all d hd)
    ·obtain rfl:d=c:=by simpa using hd
     exact t _ ⟨_,List.getElem_mem x,g⟩
   lits:=k
   jI:=un _ fun s=>by
    constructor
    ·rintro ⟨e,a,p,b⟩
     rcases CZ es i _ a with ⟨j,n,w,rfl⟩ | ⟨_,rfl⟩
     ·exact .inl ⟨_,List.getElem_mem n,p,b⟩
     ·exact .inr (by rw [<- b];exact g)
    ·rintro (⟨e,a,p,b⟩ | rfl)
     ·obtain ⟨j,n,rfl⟩:=List.mem_iff_getElem.1 a;by_cases e:j=i
      ·subst e;exact ⟨_,kG es j _ n,Nat.succ_pos _,b⟩
      ·exact ⟨_,lD es i _ n e,p,b⟩
     ·exact ⟨_,kG es i _ x,Nat.succ_pos _,g⟩ }
theorem uX {d:Cl} (hd:∀ l ∈ d,jG l) (k:∀ l ∈ c,jG l):iH d c=true↔setOf d=setOf c:=by
 have j:=has_setOf (fun l g=>rU (hd l g));have i:=has_setOf (fun l g=>rU (k l g));unfold iH;rw [Bool.and_eq_true,List.all_eq_true,List.all_eq_true];constructor
 ·rintro ⟨a,b⟩;refine kH fun x=>?_
  rw [j,i];apply decide_eq_decide.2;exact ⟨fun e=>by have:=a x e;simpa using this,fun e=>by have:=b x e;simpa using this⟩
 ·intro h;have f:∀ x,x ∈ d↔x ∈ c:=fun x=>by
   have:decide (x ∈ d)=decide (x ∈ c):=by rw [<- j,<- i,h]
   simpa using this
  exact ⟨fun x e=>by simpa using (f x).1 e,fun x e=>by simpa using (f x).2 e⟩
theorem Bc:∀ {L:List Cl} (hL:∀ d ∈ L,∀ l ∈ d,jG l) (hc:∀ l ∈ c,jG l),rem L c=none↔∀ d ∈ L,setOf d ≠ setOf c
 | [],_,_=>by simp [rem]
 | d :: r,hL,hc=>by
  have hd:=hL d (List.mem_cons_self ..);have f:=Bc (L:=r) (fun d hd=>hL d (List.mem_cons_of_mem _ hd)) hc;unfold rem;by_cases h:iH d c=true
  ·rw [if_pos h];simp only [List.mem_cons,reduceCtorEq,false_iff];intro a;exact a d (.inl rfl) ((uX hd hc).1 h)
  ·rw [if_neg h,Option.map_eq_none_iff,f];constructor
   ·intro a e b
    rcases List.mem_cons.1 b with rfl | b
    ·exact fun e=>h ((uX hd hc).2 e)
    ·exact a e b
   ·intro a e b;exact a e (List.mem_cons_of_mem _ b)
theorem JV:∀ {L L':List Cl} (hL:∀ d ∈ L,∀ l ∈ d,jG l) (hc:∀ l ∈ c,jG l),rem L c=some L'->∀ s,L.countP (fun d=>decide (setOf d=s))=L'.countP (fun d=>decide (setOf d=s)) + (if setOf c=s then 1 else 0)
 | [],L',_,_,h=>by simp [rem] at h
 | d :: r,L',hL,hc,h=>by
  have hd:=hL d (List.mem_cons_self ..);have b:=@JV r;unfold rem at h;intro s;by_cases a:iH d c=true
  ·rw [if_pos a] at h;obtain rfl:=Option.some.inj h;have e:=(uX hd hc).1 a;rw [List.countP_cons,e]
   congr 1
   by_cases g:setOf c=s <;> simp [g]
  ·rw [if_neg a] at h;obtain ⟨i,f,rfl⟩:=Option.map_eq_some_iff.1 h;have:=b (fun d hd=>hL d (List.mem_cons_of_mem _ hd)) hc f s;rw [List.countP_cons,List.countP_cons,this];omega
theorem rJ:∀ {L L':List Cl},rem L c=some L'->∀ d ∈ L',d ∈ L
 | [],L',h=>by simp [rem] at h
 | d :: r,L',h=>by
  unfold rem at h;split at h
  ·obtain rfl:=Option.some.inj h;exact fun x a=>List.mem_cons_of_mem _ a
  ·obtain ⟨e,b,rfl⟩:=Option.map_eq_some_iff.1 h;intro x a
   rcases List.mem_cons.1 a with rfl | a
   ·exact List.mem_cons_self ..
   ·exact List.mem_cons_of_mem _ (rJ b x a)
theorem jX.Oy (h:jX es wl u L) (j:∀ l ∈ c,jG l):rem L c=none↔there es (setOf c)=false:=by
 rw [Bc h.lits j,<- Bool.not_eq_true,AP h.qb];constructor
 ·rintro a ⟨e,g,b,f⟩;obtain ⟨d,hd,i⟩:=h.rep.YA e g b;exact a d hd (i.trans f)
 ·intro a d hd f;obtain ⟨e,g,b,i⟩:=h.rep.from' d hd
  exact a ⟨e,g,b,i.trans f⟩
theorem jX.rem (h:jX es wl u L) (A:∀ l ∈ c,jG l) {r:List Cl} (y:rem L c=some r) {i:Nat} (hi:i < es.length) (n:(es[i]).set=setOf c):
  jX (es.modify i (fun e=>{ e with times:=e.times - 1 })) wl (if (es[i]).times=1/\(setOf c).size=1 then u.wo (setOf c) else u) r:=by
 have t:=mR A;have o:=JV h.lits A y;have x:(es[i]).times=r.countP (fun d=>decide (setOf d=setOf c)) + 1:=by
  rw [h.cnt _ (List.getElem_mem hi),n,o,if_pos rfl]
 have v:∀ s,(∃ e ∈ es.modify i (fun e=>{ e with times:=e.times - 1 }),0 < e.times/\e.set=s)↔(∃ e ∈ es,0 < e.times/\e.set=s)/\((es[i]).times=1->s ≠ setOf c):=fun s=>by
  constructor
  ·rintro ⟨e,k,q,a⟩
   rcases CZ es i _ k with ⟨j,f,g,rfl⟩ | ⟨_,rfl⟩
   ·exact ⟨⟨_,List.getElem_mem f,q,a⟩,fun _ e=>g (uG h.qb f hi (by rw [a,e,n]))⟩
   ·simp only at q a;exact ⟨⟨_,List.getElem_mem hi,by omega,a⟩,fun e=>by omega⟩
  ·rintro ⟨⟨e,k,q,a⟩,b⟩;obtain ⟨j,f,rfl⟩:=List.mem_iff_getElem.1 k;by_cases e:j=i
   ·subst e;refine ⟨_,kG es j _ f,?_,a⟩;simp only
    rcases Nat.lt_or_ge 1 (es[j]).times with p | p
    ·omega
    ·exact absurd (a.symm.trans n) (b (by omega))
   ·exact ⟨_,lD es i _ f e,q,a⟩
 exact {
  gT:=h.gT.Xw i (· - 1)
  qb:=by rw [BS i (· - 1)];exact h.qb
  cnt:=fun e k=>by
   rcases CZ es i _ k with ⟨j,f,g,rfl⟩ | ⟨_,rfl⟩
   ·rw [h.cnt _ (List.getElem_mem f),o,if_neg (fun b=>g (uG h.qb f hi (by rw [n];exact b.symm)))];rfl
   ·show (es[i]).times - 1=r.countP (fun d=>decide (setOf d=(es[i]).set))
    rw [x,n];omega
  all:=fun d hd=>by
   obtain ⟨e,k,a⟩:=h.all d (rJ y d hd);obtain ⟨j,f,rfl⟩:=List.mem_iff_getElem.1 k;by_cases e:j=i
   ·subst e;exact ⟨_,kG es j _ f,a⟩
   ·exact ⟨_,lD es i _ f e,a⟩
  lits:=fun d hd=>h.lits d (rJ y d hd)
  jI:=by
   refine ⟨?_,fun l w=>?_⟩
   ·split
    ·exact sD h.jI.ok _
    ·exact h.jI.ok
   ·rw [v,<- h.jI.iff l w];split
    ·rename_i a;obtain ⟨m,z,B⟩:=uh t a.2;rw [kK,Bool.and_eq_true,Bool.not_eq_true',B,dh (dD z)];refine and_congr_right fun _=>?_
     constructor
     ·intro b _ p;have:=Eu w z p;rw [this] at b;simp at b
     ·intro b;have:=b a.1;exact decide_eq_false fun e=>this (by rw [e])
    ·rename_i a;constructor
     ·intro b;refine ⟨b,fun p C=>a ⟨p,by rw [<- C];exact vY w⟩⟩
     ·exact fun b=>b.1 }
theorem AX (es:List dN) (e:dN):sigs (es ++ [e])=sigs es ++ [(e.set,e.times)]:=by unfold sigs;simp
theorem yD {e:dN} (a:e ∈ es):(e.set,e.times) ∈ sigs es:=List.mem_map.2 ⟨e,a,rfl⟩
theorem CO {p:Key × Nat} (a:p ∈ sigs es):∃ e ∈ es,e.set=p.1/\e.times=p.2:=by
 obtain ⟨e,b,rfl⟩:=List.mem_map.1 a;exact ⟨e,b,rfl,rfl⟩
theorem jX.anew (h:jX es wl u L) (m:sigs es'=(sigs es).filter (fun p=>decide (0 < p.2))) (r:fJ es' mr):jX es' mr u L:=by
 have j:∀ e ∈ es',∃ b ∈ es,b.set=e.set/\b.times=e.times/\0 < e.times:=fun e f=>by
  have:=yD f;rw [m,List.mem_filter] at this;obtain ⟨b,a,i,g⟩:=CO this.1;exact ⟨b,a,i,g,of_decide_eq_true this.2⟩
 have new:∀ e ∈ es,0 < e.times->∃ b ∈ es',b.set=e.set/\b.times=e.times:=fun e f k=>by
  have:(e.set,e.times) ∈ sigs es':=by rw [m,List.mem_filter];exact ⟨yD f,decide_eq_true k⟩
  exact CO this
 exact {
  gT:=r
  qb:=by
   rw [rH,m];have:((sigs es).filter (fun p=>decide (0 < p.2))).Sublist (sigs es):=List.filter_sublist;refine (this.map Prod.fst).nodup ?_;rw [<- rH];exact h.qb
  cnt:=fun e f=>by
   obtain ⟨b,a,i,g,_⟩:=j e f;rw [<- g,<- i];exact h.cnt b a
  all:=fun d hd=>by
   obtain ⟨e,f,k,i⟩:=h.rep.from' d hd
   obtain ⟨b,a,g,_⟩:=new e f k;exact ⟨b,a,g.trans i⟩
  lits:=h.lits
  jI:=⟨h.jI.ok,fun l q=>by
   rw [h.jI.iff l q];constructor
   ·rintro ⟨e,f,i,g⟩;obtain ⟨b,a,o,n⟩:=new e f i;exact ⟨b,a,by rw [n];exact i,o.trans g⟩
   ·rintro ⟨e,f,i,g⟩;obtain ⟨b,a,o,n,s⟩:=j e f;exact ⟨b,a,by rw [n];exact s,o.trans g⟩⟩ }
theorem fJ.empty:fJ [] (fun _=>[]) where
 two:=fun j h=>by simp at h
 one:=fun j h=>by simp at h
 lists:=fun k _ j a=>by simp at a
 nodup:=fun _ _=>List.nodup_nil
 ok:=fun e b=>by simp at b
theorem jX.empty:jX [] (fun _=>[]) (0,0) [] where
 gT:=fJ.empty
 qb:=List.nodup_nil
 cnt:=fun e a=>by simp at a
 all:=fun d hd=>by simp at hd
 lits:=fun c b=>by simp at b
 jI:=⟨kN,fun l _=>by rw [fw];simp⟩
end
end Rd
end Go.Proofs.YtceahffmenbibaaGreatDoor
