/- Qsto. -/
import Derived.Test.YtceahffmenbibaaGreatDoorG14
set_option linter.unusedVariables false
set_option linter.unusedSimpArgs false
namespace Go.Proofs.YtceahffmenbibaaGreatDoor
namespace Rd
section
theorem su {es:List dN} {s:Key}:look es s=none↔∀ e ∈ es,e.set ≠ s:=by
 unfold look;rw [List.findIdx?_eq_none_iff];constructor
 ·intro h e a;have:=h e a;simpa using this
 ·intro h e a;simpa using h e a
structure jY (es:List dN) (wl:Nat->List Nat) (u:Key) (L:List Cl):Prop where
 gU:fK es wl
 qm:(es.map dN.set).Nodup
 cnt:∀ e ∈ es,e.times=L.countP (fun d=>decide (setOf d=e.set))
 all:∀ d ∈ L,∃ e ∈ es,e.set=setOf d
 lits:∀ c ∈ L,∀ l ∈ c,jH l
 jJ:xe es u
variable {es es':List dN} {wl mE:Nat->List Nat} {u:Key} {L:List Cl} {c:Cl}
theorem jY.rep (h:jY es wl u L):UY es L where
 YI:=fun e b f=>by
  rw [h.cnt e b] at f;obtain ⟨d,hd,a⟩:=List.countP_pos_iff.1 f;exact ⟨d,hd,of_decide_eq_true a⟩
 from':=fun d hd=>by
  obtain ⟨e,b,a⟩:=h.all d hd;refine ⟨e,b,?_,a⟩;rw [h.cnt e b];exact List.countP_pos_iff.2 ⟨d,hd,by rw [a];simp⟩
 lits:=h.lits
theorem IE (h:sigs es'=sigs es) (k:xe es u):xe es' u:=⟨k.ok,fun l m=>by
 rw [k.iff l m];constructor
 ·rintro ⟨e,b,f,d⟩;obtain ⟨j,a,i,g⟩:=pg h.symm b;exact ⟨j,a,by rw [g];exact f,by rw [i];exact d⟩
 ·rintro ⟨e,b,f,d⟩;obtain ⟨j,a,i,g⟩:=pg h b;exact ⟨j,a,by rw [g];exact f,by rw [i];exact d⟩⟩
theorem rY (es:List dN):es.map dN.set=(sigs es).map Prod.fst:=by unfold sigs;rw [List.map_map];rfl
theorem jY.same (h:jY es wl u L) (b:sigs es'=sigs es) (k:fK es' mE):jY es' mE u L where
 gU:=k
 qm:=by rw [rY,b,<- rY];exact h.qm
 cnt:=fun e f=>by
  obtain ⟨i,a,g,j⟩:=pg b f;rw [<- j,<- g];exact h.cnt i a
 all:=fun d hd=>by
  obtain ⟨e,f,l⟩:=h.all d hd;obtain ⟨i,a,g,j⟩:=pg b.symm f;exact ⟨i,a,by rw [g];exact l⟩
 lits:=h.lits
 jJ:=IE b h.jJ
theorem uT (h:(es.map dN.set).Nodup) {i j:Nat} (hi:i < es.length) (a:j < es.length) (e:(es[i]).set=(es[j]).set):i=j:=by
 have b:(es.map dN.set)[i]'(by simpa using hi)=(es.map dN.set)[j]'(by simpa using a):=by simpa using e
 exact (List.getElem_inj h).1 b
theorem Ub (h:(es.map dN.set).Nodup) {i:Nat} (hi:i < es.length):look es (es[i]).set=some i:=by
 cases e:look es (es[i]).set with
 | none=>exact absurd rfl (su.1 e _ (List.getElem_mem hi))
 | some j=>
  obtain ⟨b,a⟩:=ni e;rw [uT h b hi a]
theorem Bf (h:(es.map dN.set).Nodup) (s:Key):there es s=true↔∃ e ∈ es,0 < e.times/\e.set=s:=by
 unfold there;constructor
 ·intro a
  cases e:look es s with
  | none=>rw [e] at a;cases a
  | some i=>
   rw [e] at a;obtain ⟨b,d⟩:=ni e;simp only [List.getElem?_eq_getElem b] at a;exact ⟨_,List.getElem_mem b,of_decide_eq_true a,d⟩
 ·rintro ⟨e,f,a,d⟩;obtain ⟨i,b,rfl⟩:=List.mem_iff_getElem.1 f;rw [<- d,Ub h b];simp only [List.getElem?_eq_getElem b];exact decide_eq_true a
theorem wH (h:(es.map dN.set).Nodup):there es (0,0)=false↔sN es:=by
 rw [<- Bool.not_eq_true,Bf h];constructor
 ·intro b e d a f;exact b ⟨e,d,a,f⟩
 ·rintro b ⟨e,d,a,f⟩;exact b e d a f
theorem DZ {s:Key} (d:s.ok) (h:2 <= s.size):dZ (aL s)/\dZ (bL s)/\aL s ≠ bL s/\s.has (aL s)=true/\s.has (bL s)=true:=by
 have j:s ≠ (0,0):=by
  obtain ⟨a,b,_,i,_⟩:=size_two d h;exact (kH s).2 ⟨a,i⟩
 obtain ⟨_,p2,p3⟩:=mY d j;obtain ⟨_,f,g⟩:=mY (sV d _) (qP d h (dE p3));rw [kM,Bool.and_eq_true,Bool.not_eq_true',di (dE p3)] at f;exact ⟨p3,g,fun e=>by have:=f.2;unfold aL bL at e;rw [<- e] at this;simp at this,p2,f.1⟩
theorem pM {wl:Nat->List Nat} {s:Key} {n:Nat} (i:s.ok) (h:2 <= s.size) (k:Nat):iP wl s n k=if k=place (aL s)\/k=place (bL s) then wl k ++ [n] else wl k:=by
 obtain ⟨g,f,d,_,_⟩:=DZ i h;have j:place (bL s) ≠ place (aL s):=fun e=>d (ko g f e.symm)
 unfold iP;rw [if_pos h];simp only [j,if_false];by_cases b:k=place (bL s)
 ·rw [if_pos b,if_pos (.inr b),b]
 ·rw [if_neg b];by_cases a:k=place (aL s)
  ·rw [if_pos a,if_pos (.inl a),a]
  ·rw [if_neg a,if_neg (by rintro (h | h);exact a h;exact b h)]
theorem Jv (s:Key):(eH s).set=s:=by unfold eH;dsimp only
theorem fK.Wo (h:fK es wl) {s:Key} {E:dN} (n:s.ok) (i:E.set=s) (p:E.watched=(eH s).watched):fK (es ++ [E]) (iP wl s es.length):=by
 have v:∀ j (f:j < (es ++ [E]).length),(∃ m:j < es.length,(es ++ [E])[j]=es[j])\/(j=es.length/\(es ++ [E])[j]=E):=fun j f=>by
  rcases Nat.lt_or_ge j es.length with m | m
  ·exact .inl ⟨m,List.getElem_append_left m⟩
  ·have:j=es.length:=by simp at f;omega
   subst this;exact .inr ⟨rfl,by simp⟩
 have sub:∀ k x,x ∈ wl k->x ∈ iP wl s es.length k:=fun k x B=>by
  by_cases d:2 <= s.size
  ·rw [pM n d];split
   ·exact List.mem_append_left _ B
   ·exact B
  ·unfold iP;rw [if_neg d];exact B
 exact {
  two:=fun j f d=>by
   rcases v j f with ⟨m,e⟩ | ⟨rfl,e⟩
   ·rw [e] at d ⊢;obtain ⟨a,b,H,G,F,D,N,M,K,J⟩:=h.two j m d;exact ⟨a,b,H,G,F,D,N,M,sub _ _ K,sub _ _ J⟩
   ·rw [e] at d ⊢;have g:2 <= s.size:=by rw [i] at d;exact d
    obtain ⟨y,w,t,A,z⟩:=DZ n g;refine ⟨aL s,bL s,t,y,w,by rw [i];exact A,by rw [i];exact z,?_,?_,?_⟩
    ·rw [p];unfold eH;simp only [if_pos g]
    ·rw [pM n g,if_pos (.inl rfl)];simp
    ·rw [pM n g,if_pos (.inr rfl)];simp
  one:=fun j f d=>by
   rcases v j f with ⟨m,e⟩ | ⟨rfl,e⟩
   ·rw [e] at d ⊢;exact h.one j m d
   ·rw [e] at d ⊢;have g:¬ 2 <= s.size:=by rw [i] at d;exact d
    rw [p];unfold eH;simp only [if_neg g]
  lists:=fun k q j f=>by
   have o:j ∈ wl k->∃ h:j < (es ++ [E]).length,2 <= ((es ++ [E])[j]).set.size/\∃ l,dZ l/\place l=k/\((es ++ [E])[j]).watched.has l=true:=fun f=>by
    obtain ⟨m,H,l,G,F,D⟩:=h.lists k q j f;refine ⟨by simp;omega,?_⟩
    rw [List.getElem_append_left m];exact ⟨H,l,G,F,D⟩
   by_cases d:2 <= s.size
   ·rw [pM n d] at f;split at f
    ·rename_i C
     rcases List.mem_append.1 f with f | f
     ·exact o f
     ·obtain rfl:j=es.length:=by simpa using f
      obtain ⟨y,w,t,A,z⟩:=DZ n d;refine ⟨by simp,?_⟩
      rw [show (es ++ [E])[es.length]'(by simp)=E by simp]
      refine ⟨by rw [i];exact d,?_⟩
      have I:E.watched=(single (aL s)).un (single (bL s)):=by
       rw [p];unfold eH;simp only [if_pos d]
      rcases C with e | e
      ·exact ⟨aL s,y,e.symm,by rw [I,dL,di (dE y)];simp⟩
      ·exact ⟨bL s,w,e.symm,by rw [I,dL,di (dE w)];simp⟩
    ·exact o f
   ·unfold iP at f;rw [if_neg d] at f;exact o f
  nodup:=fun k q=>by
   by_cases d:2 <= s.size
   ·rw [pM n d];split
    ·rw [List.nodup_append];refine ⟨h.nodup k q,by simp,fun a A b z e=>?_⟩
     obtain ⟨m,_⟩:=h.lists k q a A;have:b=es.length:=by simpa using z
     omega
    ·exact h.nodup k q
   ·unfold iP;rw [if_neg d];exact h.nodup k q
  ok:=fun e r=>by
   rcases List.mem_append.1 r with r | r
   ·exact h.ok e r
   ·obtain rfl:e=E:=by simpa using r
    rw [i];exact n }
theorem fK.enter (h:fK es wl) {s:Key} (a:s.ok) (t:Nat):fK (es ++ [{ eH s with times:=t }]) (iP wl s es.length):=by
 refine h.Wo a ?_ ?_
 ·dsimp only;exact Jv s
 ·dsimp only
theorem I7 {s:Key} (h:(es.map dN.set).Nodup) (f:look es s=none) (t:Nat):((es ++ [{ eH s with times:=t }]).map dN.set).Nodup:=by
 rw [List.map_append,List.nodup_append];refine ⟨h,by simp,fun a i b g e=>?_⟩
 obtain ⟨x,d,rfl⟩:=List.mem_map.1 i;have:b=s:=by simpa [eH] using g
 exact su.1 f x d (by rw [e,this])
theorem Dp (es:List dN) (i:Nat) (f:dN->dN) {e:dN} (b:e ∈ es.modify i f):(∃ j,∃ a:j < es.length,j ≠ i/\e=es[j])\/∃ d:i < es.length,e=f es[i]:=by
 obtain ⟨j,a,rfl⟩:=List.mem_iff_getElem.1 b;rw [List.length_modify] at a;rw [List.getElem_modify];split
 ·rename_i h;subst h;exact .inr ⟨a,rfl⟩
 ·rename_i h;exact .inl ⟨j,a,fun e=>h e.symm,rfl⟩
theorem lK (es:List dN) (i:Nat) (f:dN->dN) {j:Nat} (b:j < es.length) (a:j ≠ i):es[j] ∈ es.modify i f:=by
 refine List.mem_iff_getElem.2 ⟨j,by rw [List.length_modify];exact b,?_⟩
 rw [List.getElem_modify,if_neg (fun e=>a e.symm)]
theorem kI (es:List dN) (i:Nat) (f:dN->dN) (hi:i < es.length):f es[i] ∈ es.modify i f:=by
 refine List.mem_iff_getElem.2 ⟨i,by rw [List.length_modify];exact hi,?_⟩
 rw [List.getElem_modify,if_pos rfl]
theorem fK.times (h:fK es wl) (p:es'.length=es.length) (g:∀ j (h:j < es.length) (h':j < es'.length),(es'[j]).set=(es[j]).set/\(es'[j]).watched=(es[j]).watched):fK es' wl where
 two:=fun j a b=>by
  obtain ⟨f,d⟩:=g j (by omega) a
  rw [f] at b ⊢;rw [d];exact h.two j (by omega) b
 one:=fun j a b=>by
  obtain ⟨f,d⟩:=g j (by omega) a
  rw [f] at b;rw [d];exact h.one j (by omega) b
 lists:=fun k i j a=>by
  obtain ⟨o,n,m⟩:=h.lists k i j a;obtain ⟨f,d⟩:=g j o (by omega)
  exact ⟨by omega,by rw [f];exact n,by rw [d];exact m⟩
 nodup:=h.nodup
 ok:=fun e l=>by
  obtain ⟨j,a,rfl⟩:=List.mem_iff_getElem.1 l;rw [(g j (by omega) a).1]
  exact h.ok _ (List.getElem_mem _)
theorem fK.XH (h:fK es wl) (i:Nat) (f:Nat->Nat):fK (es.modify i (fun e=>{ e with times:=f e.times })) wl:=by
 refine h.times (by simp) fun j a b=>?_
 rw [List.getElem_modify];split <;> exact ⟨rfl,rfl⟩
theorem Ch (i:Nat) (f:Nat->Nat):(es.modify i (fun e=>{ e with times:=f e.times })).map dN.set=es.map dN.set:=by
 refine List.ext_getElem? fun j=>?_
 rw [List.getElem?_map,List.getElem?_map,List.getElem?_modify];split <;> cases es[j]? <;> rfl
theorem mV (b:∀ l ∈ c,jH l):(setOf c).ok:=yx fun l a=>nP (b l a)
theorem Ha (L:List Cl) (c:Cl) (s:Key):(L ++ [c]).countP (fun d=>decide (setOf d=s))=L.countP (fun d=>decide (setOf d=s)) + (if setOf c=s then 1 else 0):=by
 rw [List.countP_append]
 congr 1
 by_cases h:setOf c=s <;> simp [h]
theorem wL {l:Int} (h:dZ l):(single l).size=1:=by
 rcases Nat.lt_trichotomy (single l).size 1 with d | d | d
 ·have:=vE (fQ h) (by omega)
  have i:(single l).has l=true:=by rw [di (dE h)];simp
  rw [this,fB] at i;cases i
 ·exact d
 ·obtain ⟨a,b,e,g,f⟩:=size_two (fQ h) d;rw [di (dE h)] at g f;exact absurd ((of_decide_eq_true g).trans (of_decide_eq_true f).symm) e
theorem ED {a b:Int} (f:dZ a) (e:dZ b) (h:single a=single b):a=b:=by
 have d:(single a).has a=true:=by rw [di (dE f)];simp
 rw [h,di (dE e)] at d;exact of_decide_eq_true d
theorem jY.add (h:jY es wl u L) (C:∀ l ∈ c,jH l):jY (xE es (setOf c)) (AQ es wl (setOf c)) (if (setOf c).size=1 then u.un (setOf c) else u) (L ++ [c]):=by
 have o:=mV C;have k:∀ d ∈ L ++ [c],∀ l ∈ d,jH l:=fun d hd=>by
  rcases List.mem_append.1 hd with hd | hd
  ·exact h.lits d hd
  ·obtain rfl:d=c:=by simpa using hd
   exact C
 have un:∀ r:List dN,(∀ s,(∃ e ∈ r,0 < e.times/\e.set=s)↔(∃ e ∈ es,0 < e.times/\e.set=s)\/s=setOf c)->xe r (if (setOf c).size=1 then u.un (setOf c) else u):=fun r E=>by
  refine ⟨?_,fun l y=>?_⟩
  ·split
   ·exact qK h.jJ.ok o
   ·exact h.jJ.ok
  ·rw [E,<- h.jJ.iff l y];split
   ·rename_i b;obtain ⟨m,D,B⟩:=uB o b;rw [dL,Bool.or_eq_true];constructor
    ·rintro (f | f)
     ·exact .inl f
     ·rw [B,di (dE D)] at f;rw [of_decide_eq_true f];exact .inr B.symm
    ·rintro (f | f)
     ·exact .inl f
     ·exact .inr (by rw [<- f,di (dE y)];simp)
   ·rename_i b;constructor
    ·exact .inl
    ·rintro (f | f)
     ·exact f
     ·exact absurd (by rw [<- f];exact wL y) b
 cases q:look es (setOf c) with
 | none=>
  have A:xE es (setOf c)=es ++ [{ eH (setOf c) with times:=1 }]:=by unfold xE;rw [q]
  have z:AQ es wl (setOf c)=iP wl (setOf c) es.length:=by unfold AQ;rw [q]
  rw [A,z];have v:=su.1 q;exact {
   gU:=h.gU.enter o 1
   qm:=I7 h.qm q 1
   cnt:=fun e a=>by
    rw [Ha]
    rcases List.mem_append.1 a with a | a
    ·rw [if_neg (fun h=>v e a h.symm),h.cnt e a];rfl
    ·obtain rfl:e=_:=by simpa using a
     show 1=L.countP (fun d=>decide (setOf d=setOf c)) + (if setOf c=setOf c then 1 else 0)
     rw [if_pos rfl];have:L.countP (fun d=>decide (setOf d=setOf c))=0:=by
      rw [List.countP_eq_zero];intro d hd g;obtain ⟨e,a,b⟩:=h.all d hd;exact v e a (b.trans (of_decide_eq_true g))
     omega
   all:=fun d hd=>by
    rcases List.mem_append.1 hd with hd | hd
    ·obtain ⟨e,a,b⟩:=h.all d hd;exact ⟨e,List.mem_append_left _ a,b⟩
    ·obtain rfl:d=c:=by simpa using hd
     exact ⟨_,List.mem_append_right _ (List.mem_singleton.2 rfl),rfl⟩
   lits:=k
   jJ:=un _ fun s=>by
    constructor
    ·rintro ⟨e,a,p,g⟩
     rcases List.mem_append.1 a with a | a
     ·exact .inl ⟨e,a,p,g⟩
     ·obtain rfl:e=_:=by simpa using a
      exact .inr g.symm
    ·rintro (⟨e,a,p,g⟩ | rfl)
     ·exact ⟨e,List.mem_append_left _ a,p,g⟩
     ·exact ⟨_,List.mem_append_right _ (List.mem_singleton.2 rfl),Nat.one_pos,rfl⟩ }
 | some i=>
  have A:xE es (setOf c)=es.modify i (fun e=>{ e with times:=e.times + 1 }):=by unfold xE;rw [q]
  have z:AQ es wl (setOf c)=wl:=by unfold AQ;rw [q]
  rw [A,z];obtain ⟨x,g⟩:=ni q;exact {
   gU:=h.gU.XH i (· + 1)
   qm:=by rw [Ch i (· + 1)];exact h.qm
   cnt:=fun e a=>by
    rw [Ha]
    rcases Dp es i _ a with ⟨j,n,w,rfl⟩ | ⟨_,rfl⟩
    ·rw [if_neg (fun f=>w (uT h.qm n x (by rw [g];exact f.symm))),h.cnt _ (List.getElem_mem n)];rfl
    ·show (es[i]).times + 1=L.countP (fun d=>decide (setOf d=(es[i]).set)) + (if setOf c=(es[i]).set then 1 else 0)
     rw [if_pos g.symm,h.cnt _ (List.getElem_mem x)]
   all:=fun d hd=>by
    have t:∀ s,(∃ e ∈ es,e.set=s)->∃ e ∈ es.modify i (fun e=>{ e with times:=e.times + 1 }),e.set=s:=by
     rintro s ⟨e,a,b⟩;obtain ⟨j,n,rfl⟩:=List.mem_iff_getElem.1 a;by_cases e:j=i
     ·subst e;exact ⟨_,kI es j _ n,b⟩
     ·exact ⟨_,lK es i _ n e,b⟩
    rcases List.mem_append.1 hd with hd | hd
    ·exact t _ (h.all d hd)
    ·obtain rfl:d=c:=by simpa using hd
     exact t _ ⟨_,List.getElem_mem x,g⟩
   lits:=k
   jJ:=un _ fun s=>by
    constructor
    ·rintro ⟨e,a,p,b⟩
     rcases Dp es i _ a with ⟨j,n,w,rfl⟩ | ⟨_,rfl⟩
     ·exact .inl ⟨_,List.getElem_mem n,p,b⟩
     ·exact .inr (by rw [<- b];exact g)
    ·rintro (⟨e,a,p,b⟩ | rfl)
     ·obtain ⟨j,n,rfl⟩:=List.mem_iff_getElem.1 a;by_cases e:j=i
      ·subst e;exact ⟨_,kI es j _ n,Nat.succ_pos _,b⟩
      ·exact ⟨_,lK es i _ n e,p,b⟩
     ·exact ⟨_,kI es i _ x,Nat.succ_pos _,g⟩ }
theorem vF {d:Cl} (hd:∀ l ∈ d,jH l) (k:∀ l ∈ c,jH l):iH d c=true↔setOf d=setOf c:=by
 have j:=has_setOf (fun l g=>sI (hd l g))
 have i:=has_setOf (fun l g=>sI (k l g))
 unfold iH;rw [Bool.and_eq_true,List.all_eq_true,List.all_eq_true];constructor
 ·rintro ⟨a,b⟩;refine kJ fun x=>?_
  rw [j,i];apply decide_eq_decide.2;exact ⟨fun e=>by have:=a x e;simpa using this,fun e=>by have:=b x e;simpa using this⟩
 ·intro h;have f:∀ x,x ∈ d↔x ∈ c:=fun x=>by
   have:decide (x ∈ d)=decide (x ∈ c):=by rw [<- j,<- i,h]
   simpa using this
  exact ⟨fun x e=>by simpa using (f x).1 e,fun x e=>by simpa using (f x).2 e⟩
theorem Bt:∀ {L:List Cl} (hL:∀ d ∈ L,∀ l ∈ d,jH l) (hc:∀ l ∈ c,jH l),rem L c=none↔∀ d ∈ L,setOf d ≠ setOf c
 | [],_,_=>by simp [rem]
 | d :: r,hL,hc=>by
  have hd:=hL d (List.mem_cons_self ..);have f:=Bt (L:=r) (fun d hd=>hL d (List.mem_cons_of_mem _ hd)) hc
  unfold rem;by_cases h:iH d c=true
  ·rw [if_pos h];simp only [List.mem_cons,reduceCtorEq,false_iff];intro a;exact a d (.inl rfl) ((vF hd hc).1 h)
  ·rw [if_neg h,Option.map_eq_none_iff,f];constructor
   ·intro a e b
    rcases List.mem_cons.1 b with rfl | b
    ·exact fun e=>h ((vF hd hc).2 e)
    ·exact a e b
   ·intro a e b;exact a e (List.mem_cons_of_mem _ b)
theorem Tz:∀ {L L':List Cl} (hL:∀ d ∈ L,∀ l ∈ d,jH l) (hc:∀ l ∈ c,jH l),rem L c=some L'->∀ s,L.countP (fun d=>decide (setOf d=s))=L'.countP (fun d=>decide (setOf d=s)) + (if setOf c=s then 1 else 0)
 | [],L',_,_,h=>by simp [rem] at h
 | d :: r,L',hL,hc,h=>by
  have hd:=hL d (List.mem_cons_self ..);have b:=@Tz r;unfold rem at h;intro s;by_cases a:iH d c=true
  ·rw [if_pos a] at h;obtain rfl:=Option.some.inj h;have e:=(vF hd hc).1 a;rw [List.countP_cons,e]
   congr 1
   by_cases g:setOf c=s <;> simp [g]
  ·rw [if_neg a] at h;obtain ⟨i,f,rfl⟩:=Option.map_eq_some_iff.1 h;have:=b (fun d hd=>hL d (List.mem_cons_of_mem _ hd)) hc f s
   rw [List.countP_cons,List.countP_cons,this];omega
theorem rZ:∀ {L L':List Cl},rem L c=some L'->∀ d ∈ L',d ∈ L
 | [],L',h=>by simp [rem] at h
 | d :: r,L',h=>by
  unfold rem at h;split at h
  ·obtain rfl:=Option.some.inj h;exact fun x a=>List.mem_cons_of_mem _ a
  ·obtain ⟨e,b,rfl⟩:=Option.map_eq_some_iff.1 h;intro x a
   rcases List.mem_cons.1 a with rfl | a
   ·exact List.mem_cons_self ..
   ·exact List.mem_cons_of_mem _ (rZ b x a)
theorem jY.OU (h:jY es wl u L) (j:∀ l ∈ c,jH l):rem L c=none↔there es (setOf c)=false:=by
 rw [Bt h.lits j,<- Bool.not_eq_true,Bf h.qm];constructor
 ·rintro a ⟨e,g,b,f⟩;obtain ⟨d,hd,i⟩:=h.rep.YI e g b;exact a d hd (i.trans f)
 ·intro a d hd f;obtain ⟨e,g,b,i⟩:=h.rep.from' d hd
  exact a ⟨e,g,b,i.trans f⟩
theorem jY.rem (h:jY es wl u L) (A:∀ l ∈ c,jH l) {r:List Cl} (y:rem L c=some r) {i:Nat} (hi:i < es.length) (n:(es[i]).set=setOf c):
  jY (es.modify i (fun e=>{ e with times:=e.times - 1 })) wl (if (es[i]).times=1/\(setOf c).size=1 then u.wo (setOf c) else u) r:=by
 have t:=mV A;have o:=Tz h.lits A y;have x:(es[i]).times=r.countP (fun d=>decide (setOf d=setOf c)) + 1:=by
  rw [h.cnt _ (List.getElem_mem hi),n,o,if_pos rfl]
 have v:∀ s,(∃ e ∈ es.modify i (fun e=>{ e with times:=e.times - 1 }),0 < e.times/\e.set=s)↔(∃ e ∈ es,0 < e.times/\e.set=s)/\((es[i]).times=1->s ≠ setOf c):=fun s=>by
  constructor
  ·rintro ⟨e,k,q,a⟩
   rcases Dp es i _ k with ⟨j,f,g,rfl⟩ | ⟨_,rfl⟩
   ·exact ⟨⟨_,List.getElem_mem f,q,a⟩,fun _ e=>g (uT h.qm f hi (by rw [a,e,n]))⟩
   ·simp only at q a;exact ⟨⟨_,List.getElem_mem hi,by omega,a⟩,fun e=>by omega⟩
  ·rintro ⟨⟨e,k,q,a⟩,b⟩;obtain ⟨j,f,rfl⟩:=List.mem_iff_getElem.1 k;by_cases e:j=i
   ·subst e;refine ⟨_,kI es j _ f,?_,a⟩;simp only
    rcases Nat.lt_or_ge 1 (es[j]).times with p | p
    ·omega
    ·exact absurd (a.symm.trans n) (b (by omega))
   ·exact ⟨_,lK es i _ f e,q,a⟩
 exact {
  gU:=h.gU.XH i (· - 1)
  qm:=by rw [Ch i (· - 1)];exact h.qm
  cnt:=fun e k=>by
   rcases Dp es i _ k with ⟨j,f,g,rfl⟩ | ⟨_,rfl⟩
   ·rw [h.cnt _ (List.getElem_mem f),o,if_neg (fun b=>g (uT h.qm f hi (by rw [n];exact b.symm)))];rfl
   ·show (es[i]).times - 1=r.countP (fun d=>decide (setOf d=(es[i]).set))
    rw [x,n];omega
  all:=fun d hd=>by
   obtain ⟨e,k,a⟩:=h.all d (rZ y d hd);obtain ⟨j,f,rfl⟩:=List.mem_iff_getElem.1 k;by_cases e:j=i
   ·subst e;exact ⟨_,kI es j _ f,a⟩
   ·exact ⟨_,lK es i _ f e,a⟩
  lits:=fun d hd=>h.lits d (rZ y d hd)
  jJ:=by
   refine ⟨?_,fun l w=>?_⟩
   ·split
    ·exact sV h.jJ.ok _
    ·exact h.jJ.ok
   ·rw [v,<- h.jJ.iff l w];split
    ·rename_i a;obtain ⟨m,z,B⟩:=uB t a.2;rw [kM,Bool.and_eq_true,Bool.not_eq_true',B,di (dE z)];refine and_congr_right fun _=>?_
     constructor
     ·intro b _ p;have:=ED w z p;rw [this] at b;simp at b
     ·intro b;have:=b a.1;exact decide_eq_false fun e=>this (by rw [e])
    ·rename_i a;constructor
     ·intro b;refine ⟨b,fun p C=>a ⟨p,by rw [<- C];exact wL w⟩⟩
     ·exact fun b=>b.1 }
theorem Bl (es:List dN) (e:dN):sigs (es ++ [e])=sigs es ++ [(e.set,e.times)]:=by unfold sigs;simp
theorem yR {e:dN} (a:e ∈ es):(e.set,e.times) ∈ sigs es:=List.mem_map.2 ⟨e,a,rfl⟩
theorem Dg {p:Key × Nat} (a:p ∈ sigs es):∃ e ∈ es,e.set=p.1/\e.times=p.2:=by
 obtain ⟨e,b,rfl⟩:=List.mem_map.1 a;exact ⟨e,b,rfl,rfl⟩
theorem jY.anew (h:jY es wl u L) (m:sigs es'=(sigs es).filter (fun p=>decide (0 < p.2))) (r:fK es' mE):jY es' mE u L:=by
 have j:∀ e ∈ es',∃ b ∈ es,b.set=e.set/\b.times=e.times/\0 < e.times:=fun e f=>by
  have:=yR f;rw [m,List.mem_filter] at this;obtain ⟨b,a,i,g⟩:=Dg this.1;exact ⟨b,a,i,g,of_decide_eq_true this.2⟩
 have new:∀ e ∈ es,0 < e.times->∃ b ∈ es',b.set=e.set/\b.times=e.times:=fun e f k=>by
  have:(e.set,e.times) ∈ sigs es':=by rw [m,List.mem_filter];exact ⟨yR f,decide_eq_true k⟩
  exact Dg this
 exact {
  gU:=r
  qm:=by
   rw [rY,m];have:((sigs es).filter (fun p=>decide (0 < p.2))).Sublist (sigs es):=List.filter_sublist
   refine (this.map Prod.fst).nodup ?_;rw [<- rY];exact h.qm
  cnt:=fun e f=>by
   obtain ⟨b,a,i,g,_⟩:=j e f;rw [<- g,<- i];exact h.cnt b a
  all:=fun d hd=>by
   obtain ⟨e,f,k,i⟩:=h.rep.from' d hd
   obtain ⟨b,a,g,_⟩:=new e f k;exact ⟨b,a,g.trans i⟩
  lits:=h.lits
  jJ:=⟨h.jJ.ok,fun l q=>by
   rw [h.jJ.iff l q];constructor
   ·rintro ⟨e,f,i,g⟩;obtain ⟨b,a,o,n⟩:=new e f i;exact ⟨b,a,by rw [n];exact i,o.trans g⟩
   ·rintro ⟨e,f,i,g⟩;obtain ⟨b,a,o,n,s⟩:=j e f;exact ⟨b,a,by rw [n];exact s,o.trans g⟩⟩ }
theorem fK.empty:fK [] (fun _=>[]) where
 two:=fun j h=>by simp at h
 one:=fun j h=>by simp at h
 lists:=fun k _ j a=>by simp at a
 nodup:=fun _ _=>List.nodup_nil
 ok:=fun e b=>by simp at b
theorem jY.empty:jY [] (fun _=>[]) (0,0) [] where
 gU:=fK.empty
 qm:=List.nodup_nil
 cnt:=fun e a=>by simp at a
 all:=fun d hd=>by simp at hd
 lits:=fun c b=>by simp at b
 jJ:=⟨kQ,fun l _=>by rw [fB];simp⟩
end
end Rd
end Go.Proofs.YtceahffmenbibaaGreatDoor
