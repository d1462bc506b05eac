/- Plog Pfal Pmov Pwst. -/
import Derived.Test.YtceahffmenbibaaGreatDoorG09
import Derived.Test.YtceahffmenbibaaGreatDoorG00
set_option linter.unusedVariables false
set_option linter.unusedSimpArgs false
namespace Go.Proofs.YtceahffmenbibaaGreatDoor
namespace Rd
def iL (es:List dN) (M:Int->Prop):Prop:=∀ e ∈ es,0 < e.times->(∃ l,e.set.has l=true/\M l)\/∃ a b,a ≠ b/\e.set.has a=true/\e.set.has b=true/\¬ M (-a)/\¬ M (-b)
def sigs (es:List dN):List (Key × Nat):=es.map fun e=>(e.set,e.times)
def xI (k:Key) (M:Int->Prop):Prop:=∀ l,k.has l=true->M l
theorem mK {es c:List dN} (h:sigs c=sigs es) {M:Int->Prop}:iL es M↔iL c M:=by
 have f:∀ (a b:List dN),sigs a=sigs b->iL a M->iL b M:=fun a b j n e m k=>by
  have l:(e.set,e.times) ∈ sigs a:=by rw [j];exact List.mem_map.2 ⟨e,m,rfl⟩
  obtain ⟨o,g,d⟩:=List.mem_map.1 l;simp only [Prod.mk.injEq] at d;have:=n o g (by rw [d.2];exact k)
  rw [d.1] at this;exact this
 exact ⟨f es c h.symm,f c es h⟩
theorem EF {es a:List dN} (h:sigs a=sigs es) {j:Nat} (d:j < es.length) (b:j < a.length):(a[j]).set=(es[j]).set/\(a[j]).times=(es[j]).times:=by
 have c:(sigs a)[j]? = (sigs es)[j]? := by rw [h]
 unfold sigs at c;rw [List.getElem?_map,List.getElem?_map,List.getElem?_eq_getElem d,List.getElem?_eq_getElem b] at c;simpa using c
theorem pq {es a:List dN} (h:sigs a=sigs es):a.length=es.length:=by
 have:=congrArg List.length h;simpa [sigs] using this
def oL (k:Key):Prop:=∀ l,k.has l=true->k.has (-l)=false
theorem Ny {k:Key}:oW k=false↔oL k:=by
 rw [<- Bool.not_eq_true,zM];constructor
 ·intro h l b
  cases e:k.has (-l) with
  | false=>rfl
  | true=>exact absurd ⟨l,b,e⟩ h
 ·rintro h ⟨l,c,a⟩;rw [h l c] at a;cases a
theorem Di {k:Key} (h:oL k):Cons (fun l=>k.has l=true):=fun l c b=>by
 have a:k.has (-l)=true:=b;rw [h l c] at a;cases a
structure iE (es es':List dN) (lit:Int) (down forced:Key) (conflict:Bool):Prop where
 same:sigs es'=sigs es
 old:∀ j (h:j < es.length) (h':j < es'.length) l,(es'[j]).watched.has l=true->(es[j]).watched.has l=true\/down.has (-l)=false
 sound:∀ M,Cons M->xI down M->iL es M->xI forced M/\conflict=false
 kept:conflict=false->∀ j (h':j < es'.length),0 < (es'[j]).times->(es'[j]).watched.has lit=true->∃ l,(es'[j]).set.has l=true/\(down.un forced).has l=true
 cons:oL down->oL (down.un forced)
 fresh:∀ l,forced.has l=true->down.has l=false
 Gx:forced.ok
def X5 (es:List dN):Prop:=∀ j (h:j < es.length),2 <= (es[j]).set.size->∃ a b,a ≠ b/\(es[j]).set.has a=true/\(es[j]).set.has b=true/\(es[j]).watched.has a=true/\(es[j]).watched.has b=true
def Rest (es:List dN) (D:Key):Prop:=∀ j (h:j < es.length),0 < (es[j]).times->2 <= (es[j]).set.size->(∃ l,(es[j]).set.has l=true/\D.has l=true)\/∀ l,(es[j]).watched.has l=true->D.has (-l)=false
theorem IQ (es:List dN):Rest es (0,0):=fun j h _ _=>.inr fun l _=>fB _
structure NS (es0:List dN) (base:Key) (es:List dN) (down pending:Key):Prop where
 same:sigs es=sigs es0
 sub:∀ l,pending.has l=true->down.has l=true
 inc:∀ l,base.has l=true->down.has l=true
 under:∀ M,Cons M->xI base M->iL es0 M->xI down M
 watch:∀ j (h:j < es.length),0 < (es[j]).times->2 <= (es[j]).set.size->(∃ l,(es[j]).set.has l=true/\down.has l=true)\/∀ l,(es[j]).watched.has l=true->down.has (-l)=true->pending.has (-l)=true
 TR:oL down
 Yq:down.ok
 Ym:pending.ok
theorem NS.start {es:List dN} {dI a:Key} (f:Rest es dI) (hd:dI.ok) (b:a.ok) (g:oL (dI.un a)):NS es (dI.un a) es (dI.un a) (a.wo dI) where
 same:=rfl
 sub:=fun l h=>by rw [kM,Bool.and_eq_true] at h;rw [dL,h.1,Bool.or_true]
 inc:=fun l h=>h
 under:=fun M _ h _=>h
 watch:=fun j h d e=>by
  rcases f j h d e with ⟨l,c,k⟩ | c
  ·exact .inl ⟨l,c,by rw [dL,k];rfl⟩
  ·refine .inr fun l b hd=>?_
   rw [dL,c l b,Bool.false_or] at hd;rw [kM,hd,c l b];rfl
 TR:=g
 Yq:=qK hd b
 Ym:=sV b _
theorem NS.step {es0 es f:List dN} {base c a forced:Key} {p:Int} (h:NS es0 base es c a) (A:a.has p=true) (n:p ≠ 0) (F:iE es f (-p) c forced false):
  NS es0 base f (c.un forced) ((a.wo (single p)).un forced) where
 same:=F.same.trans h.same
 sub:=fun l b=>by
  rw [dL,Bool.or_eq_true] at b;rw [dL,Bool.or_eq_true]
  rcases b with b | b
  ·rw [kM,Bool.and_eq_true] at b;exact .inl (h.sub l b.1)
  ·exact .inr b
 inc:=fun l b=>by rw [dL,h.inc l b];rfl
 under:=fun M s v g l b=>by
  rw [dL,Bool.or_eq_true] at b;have hd:=h.under M s v g
  rcases b with b | b
  ·exact hd l b
  ·exact (F.sound M s hd ((mK h.same.symm).2 g |> fun x=>x)).1 l b
 watch:=fun j k r g=>by
  have d:j < es.length:=by rw [<- pq F.same];exact k
  obtain ⟨t,y⟩:=EF F.same d k;by_cases q:∃ l,(f[j]).set.has l=true/\(c.un forced).has l=true
  ·exact .inl q
  ·refine .inr fun l b hd=>?_
   rw [dL,Bool.or_eq_true] at hd ⊢
   rcases hd with hd | hd
   ·
    left
    rcases F.old j d k l b with o | o
    ·rcases h.watch j d (by rw [<- y];exact r) (by rw [<- t];exact g) with ⟨x,x1,x2⟩ | hw
     ·exact absurd ⟨x,by rw [t];exact x1,by rw [dL,x2];rfl⟩ q
     ·have m:=hw l o hd;rw [kM,m,di n];have:¬ (-l=p):=fun e=>by
       have z:l=-p:=by omega
       rw [z] at b;exact q (F.kept rfl j k r b)
      simp [this]
    ·rw [o] at hd;cases hd
   ·exact .inr hd
 TR:=F.cons h.TR
 Yq:=qK h.Yq F.Gx
 Ym:=qK (sV h.Ym _) F.Gx
theorem rest_step {es d:List dN} {D a forced:Key} {lit:Int} {b:Bool} (n:Rest es D) (p:∀ l,D.has l=true->a.has l=true) (F:iE es d lit a forced b):Rest d D:=fun j g k m=>by
 have c:j < es.length:=by rw [<- pq F.same];exact g
 obtain ⟨h,q⟩:=EF F.same c g
 rcases n j c (by rw [<- q];exact k) (by rw [<- h];exact m) with ⟨l,h1,h2⟩ | hw
 ·exact .inl ⟨l,by rw [h];exact h1,h2⟩
 ·refine .inr fun l o=>?_
  rcases F.old j c g l o with f | f
  ·exact hw l f
  ·cases e:D.has (-l) with
   | false=>rfl
   | true=>rw [p _ e] at f;cases f
theorem NS.conflict {es0 es c:List dN} {base b a forced:Key} {lit:Int} (h:NS es0 base es b a) (F:iE es c lit b forced true):∀ M,Cons M->xI base M->¬ iL es0 M:=fun M e f d=>by
 have:=(F.sound M e (h.under M e f d) ((mK h.same.symm).2 d |> fun x=>x)).2
 cases this
theorem NS.finish {es0 es:List dN} {base c:Key} (h:NS es0 base es c (0,0)) (s:X5 es) (v:∀ e ∈ es,e.set.ok) (t:∀ e ∈ es,0 < e.times->e.set.size=1->∃ l,e.set.has l=true/\c.has l=true) (A:∀ e ∈ es,0 < e.times->e.set.size ≠ 0):iL es0 (fun l=>c.has l=true):=by
 refine (mK h.same).2 fun e k g=>?_
 obtain ⟨j,p,rfl⟩:=List.mem_iff_getElem.1 k
 rcases Nat.lt_or_ge (es[j]).set.size 2 with d | d
 ·have f:∀ n:Nat,n < 2->n ≠ 0->n=1:=fun n a b=>by omega
  exact .inl (t _ k g (f _ d (A _ k g)))
 ·rcases h.watch j p g d with x | o
  ·exact .inl x
  ·obtain ⟨a,b,m,z,y,r,q⟩:=s j p d;refine .inr ⟨a,b,m,z,y,fun hd=>?_,fun hd=>?_⟩
   ·have:=o a r hd;rw [fB] at this;cases this
   ·have:=o b q hd;rw [fB] at this;cases this
structure UY (es:List dN) (L:List Cl):Prop where
 YI:∀ e ∈ es,0 < e.times->∃ c ∈ L,setOf c=e.set
 from':∀ c ∈ L,∃ e ∈ es,0 < e.times/\e.set=setOf c
 lits:∀ c ∈ L,∀ l ∈ c,jH l
theorem UY.has {es:List dN} {L:List Cl} (h:UY es L) {c:Cl} (b:c ∈ L) (l:Int):(setOf c).has l=true↔l ∈ c:=by
 rw [has_setOf (fun x a=>sI (h.lits c b x a))];simp
theorem UY.stable {es:List dN} {L:List Cl} (h:UY es L) (M:Int->Prop):iL es M↔Stable L M:=by
 constructor
 ·intro n c g;obtain ⟨e,o,m,d⟩:=h.from' c g
  rcases n e o m with ⟨l,f,j⟩ | ⟨a,b,k,f,j,q,p⟩
  ·rw [d,h.has g] at f;exact .inl ⟨l,f,j⟩
  ·rw [d,h.has g] at f j;exact .inr ⟨a,f,b,j,k,q,p⟩
 ·intro n e o m;obtain ⟨c,g,d⟩:=h.YI e o m
  rcases n c g with ⟨l,f,j⟩ | ⟨a,f,b,j,k,q,p⟩
  ·exact .inl ⟨l,by rw [<- d,h.has g];exact f,j⟩
  ·exact .inr ⟨a,b,k,by rw [<- d,h.has g];exact f,by rw [<- d,h.has g];exact j,q,p⟩
theorem UY.conf {es:List dN} {L:List Cl} (h:UY es L) (e:List Int):jo L e↔∀ M,Cons M->(∀ l ∈ e,M l)->¬ iL es M:=by
 unfold jo;constructor
 ·intro c M d b a;exact c M d b ((h.stable M).1 a)
 ·intro c M d b a;exact c M d b ((h.stable M).2 a)
section
structure fK (es:List dN) (wl:Nat->List Nat):Prop where
 two:∀ j (h:j < es.length),2 <= (es[j]).set.size->∃ a b,a ≠ b/\dZ a/\dZ b/\(es[j]).set.has a=true/\(es[j]).set.has b=true/\(es[j]).watched=(single a).un (single b)/\j ∈ wl (place a)/\j ∈ wl (place b)
 one:∀ j (h:j < es.length),¬ 2 <= (es[j]).set.size->(es[j]).watched=(0,0)
 lists:∀ k,k < 128->∀ j ∈ wl k,∃ h:j < es.length,2 <= (es[j]).set.size/\∃ l,dZ l/\place l=k/\(es[j]).watched.has l=true
 nodup:∀ k,k < 128->(wl k).Nodup
 ok:∀ e ∈ es,e.set.ok
theorem fK.Yw {es:List dN} {wl:Nat->List Nat} (h:fK es wl):X5 es:=fun j k g=>by
 obtain ⟨a,b,c,f,e,m,l,d,_⟩:=h.two j k g;exact ⟨a,b,c,m,l,by rw [d,dL,di (dE f)];simp,by rw [d,dL,di (dE e)];simp⟩
theorem fK.pair {es:List dN} {wl:Nat->List Nat} (h:fK es wl) {lit:Int} (m:dZ lit) {j:Nat} (y:j ∈ wl (place lit)):∃ (f:j < es.length) (b:Int),2 <= (es[j]).set.size/\b ≠ lit/\dZ b/\(es[j]).set.has lit=true/\(es[j]).set.has b=true/\(es[j]).watched=(single lit).un (single b)/\j ∈ wl (place b):=by
 obtain ⟨f,k,l,t,v,g⟩:=h.lists _ (gP m) j y;have e:=ko t m v;subst e;obtain ⟨a,b,d,o,n,q,p,c,s,r⟩:=h.two j f k;rw [c,dL,di (dE o),di (dE n)] at g;simp only [Bool.or_eq_true,decide_eq_true_eq] at g
 rcases g with e | e
 ·subst e;exact ⟨f,b,k,fun e=>d e.symm,n,q,p,c,r⟩
 ·subst e;refine ⟨f,a,k,d,o,p,q,?_,s⟩;rw [c];exact kJ fun x=>by rw [dL,dL,Bool.or_comm]
structure jZ (es0:List dN) (lit:Int) (dI:Key) (cZ:List Nat) (i:Nat) (es:List dN) (wl:Nat->List Nat) (kl:List Nat) (forced:Key):Prop where
 same:sigs es=sigs es0
 gU:fK es (fun k=>if k=place lit then kl ++ cZ.drop i else wl k)
 old:∀ j (h0:j < es0.length) (h:j < es.length) l,(es[j]).watched.has l=true->(es0[j]).watched.has l=true\/dI.has (-l)=false
 sound:∀ M,Cons M->xI dI M->iL es0 M->xI forced M
 kept:∀ j ∈ kl,∀ h:j < es.length,0 < (es[j]).times->∃ l,(es[j]).set.has l=true/\(dI.un forced).has l=true
 cons:oL dI->oL (dI.un forced)
 fresh:∀ l,forced.has l=true->dI.has l=false
 Gx:forced.ok
 pE:kl.length <= i
 vU:i <= cZ.length
variable {es0 es:List dN} {lit:Int} {dI forced:Key} {cZ kl:List Nat} {i:Nat} {wl:Nat->List Nat}
theorem jZ.start (h:fK es0 wl):jZ es0 lit dI (wl (place lit)) 0 es0 wl [] (0,0) where
 same:=rfl
 gU:=by
  have e:(fun k=>if k=place lit then [] ++ (wl (place lit)).drop 0 else wl k)=wl:=by
   funext k;split
   ·rename_i e;rw [e];rfl
   ·rfl
  rw [e];exact h
 old:=fun j c h l a=>.inl a
 sound:=fun M _ _ _ l a=>by rw [fB] at a;cases a
 kept:=fun j b=>by simp at b
 cons:=fun h=>by
  have:dI.un (0,0)=dI:=kJ fun x=>by rw [dL,fB,Bool.or_false]
  rw [this];exact h
 fresh:=fun l a=>by rw [fB] at a;cases a
 Gx:=kQ
 pE:=zl
 vU:=zl
theorem drop_at {cZ:List Nat} {i:Nat} (hi:i < cZ.length):cZ.drop i=cZ[i] :: cZ.drop (i + 1):=List.drop_eq_getElem_cons hi
theorem jZ.Ga (h:jZ es0 lit dI cZ i es wl kl forced) (hi:i < cZ.length):fK es (fun k=>if k=place lit then (kl ++ [cZ[i]]) ++ cZ.drop (i + 1) else wl k):=by
 have e:(kl ++ [cZ[i]]) ++ cZ.drop (i + 1)=kl ++ cZ.drop i:=by rw [drop_at hi];simp
 rw [e];exact h.gU
theorem jZ.skip (h:jZ es0 lit dI cZ i es wl kl forced) (hi:i < cZ.length) (d:∀ a:cZ[i] < es.length,0 < (es[cZ[i]]).times->∃ l,(es[cZ[i]]).set.has l=true/\(dI.un forced).has l=true):jZ es0 lit dI cZ (i + 1) es wl (kl ++ [cZ[i]]) forced where
 same:=h.same
 gU:=h.Ga hi
 old:=h.old
 sound:=h.sound
 kept:=fun j a c b=>by
  rcases List.mem_append.1 a with a | a
  ·exact h.kept j a c b
  ·simp at a;subst a;exact d c b
 cons:=h.cons
 fresh:=h.fresh
 Gx:=h.Gx
 pE:=by have:=h.pE;simp;omega
 vU:=hi
theorem zi (s d:Key) (l:Int):(s.wo d.op).has l=(s.has l && !d.has (-l)):=by rw [kM,Jl]
theorem Bi (e:sigs es=sigs es0) {M:Int->Prop} (c:iL es0 M) {j:Nat} (f:j < es.length) (d:0 < (es[j]).times):(∃ l,(es[j]).set.has l=true/\M l)\/∃ a b,a ≠ b/\(es[j]).set.has a=true/\(es[j]).set.has b=true/\¬ M (-a)/\¬ M (-b):=
 (mK e).1 c _ (List.getElem_mem f) d
theorem jZ.unit (h:jZ es0 lit dI cZ i es wl kl forced) (hi:i < cZ.length) (K:cZ[i] < es.length) (I:0 < (es[cZ[i]]).times) {l:Int} (f:dZ l) (L:(es[cZ[i]]).set.wo (dI.un forced).op=single l) (J:¬ ∃ x,(es[cZ[i]]).set.has x=true/\(dI.un forced).has x=true):
  jZ es0 lit dI cZ (i + 1) es wl (kl ++ [cZ[i]]) (forced.un (single l)):=by
 have F:∀ x,((es[cZ[i]]).set.has x && !(dI.un forced).has (-x))=decide (x=l):=fun x=>by rw [<- zi,L,di (dE f)]
 have o:=F l;simp only [decide_true,Bool.and_eq_true,Bool.not_eq_true'] at o;have n:(dI.un forced).has l=false:=by
  cases e:(dI.un forced).has l with
  | false=>rfl
  | true=>exact absurd ⟨l,o.1,e⟩ J
 have k:dI.un (forced.un (single l))=(dI.un forced).un (single l):=kJ fun x=>by simp only [dL,Bool.or_assoc]
 exact {
  same:=h.same
  gU:=h.Ga hi
  old:=h.old
  sound:=fun M D hd m x c=>by
   rw [dL,Bool.or_eq_true] at c;have E:=h.sound M D hd m
   rcases c with c | c
   ·exact E x c
   ·rw [di (dE f)] at c;have p:x=l:=of_decide_eq_true c;subst p;have Q:xI (dI.un forced) M:=fun y g=>by
     rw [dL,Bool.or_eq_true] at g
     rcases g with g | g
     ·exact hd y g
     ·exact E y g
    have C:∀ y,(es[cZ[i]]).set.has y=true->y ≠ x->M (-y):=fun y g s=>by
     have:=F y;rw [g,Bool.true_and,show decide (y=x)=false from by simpa using s] at this
     simp only [Bool.not_eq_false'] at this;exact Q _ this
    rcases Bi h.same m K I with ⟨y,A,q⟩ | ⟨a,b,z,P,O,H,G⟩
    ·by_cases e:y=x
     ·rw [<- e];exact q
     ·exact absurd (C y A e) (fun R=>D y q R)
    ·exfalso
     by_cases e:a=x
     ·exact G (C b O (fun S=>z (by rw [e,S])))
     ·exact H (C a P e)
  kept:=fun j d t r=>by
   rw [k]
   rcases List.mem_append.1 d with d | d
   ·obtain ⟨y,A,q⟩:=h.kept j d t r;exact ⟨y,A,by rw [dL,q];rfl⟩
   ·simp at d;subst d;exact ⟨l,o.1,by rw [dL,di (dE f)];simp⟩
  cons:=fun N x c=>by
   have v:=h.cons N;rw [k] at c ⊢;rw [dL,Bool.or_eq_true] at c;rw [dL,Bool.or_eq_false_iff]
   rcases c with c | c
   ·refine ⟨v x c,?_⟩;rw [di (dE f)];simp only [decide_eq_false_iff_not];intro e;have T:x=-l:=by omega
    rw [T,o.2] at c;cases c
   ·rw [di (dE f)] at c;have p:x=l:=of_decide_eq_true c;subst p;refine ⟨o.2,?_⟩;rw [di (dE f)];have:=dE f;simp;omega
  fresh:=fun x c=>by
   rw [dL,Bool.or_eq_true] at c
   rcases c with c | c
   ·exact h.fresh x c
   ·rw [di (dE f)] at c;have p:x=l:=of_decide_eq_true c;subst p;rw [dL,Bool.or_eq_false_iff] at n;exact n.1
  Gx:=qK h.Gx (fQ f)
  pE:=by have:=h.pE;simp;omega
  vU:=hi }
theorem jZ.zI (h:jZ es0 lit dI cZ i es wl kl forced) (hi:i < cZ.length) (m:cZ[i] < es.length) (l:0 < (es[cZ[i]]).times) (n:(es[cZ[i]]).set.wo (dI.un forced).op=(0,0)):iE es0 es lit dI forced true where
 same:=h.same
 old:=h.old
 sound:=fun M g hd d=>by
  exfalso
  have q:=h.sound M g hd d;have r:xI (dI.un forced) M:=fun y c=>by
   rw [dL,Bool.or_eq_true] at c
   rcases c with c | c
   ·exact hd y c
   ·exact q y c
  have j:∀ y,(es[cZ[i]]).set.has y=true->M (-y):=fun y c=>by
   have:=zi (es[cZ[i]]).set (dI.un forced) y;rw [n,fB,c,Bool.true_and] at this;have f:(dI.un forced).has (-y)=true:=by simpa using this.symm
   exact r _ f
  rcases Bi h.same d m l with ⟨y,s,f⟩ | ⟨a,b,o,p,v,k,t⟩
  ·exact g y f (j y s)
  ·exact k (j a p)
 kept:=fun e=>by cases e
 cons:=h.cons
 fresh:=h.fresh
 Gx:=h.Gx
theorem jZ.done (h:jZ es0 lit dI cZ cZ.length es wl kl forced) (z:dZ lit):iE es0 es lit dI forced false/\fK es (fun k=>if k=place lit then kl else wl k):=by
 have e:kl ++ cZ.drop cZ.length=kl:=by simp
 have d:=h.gU;rw [e] at d;refine ⟨{
  same:=h.same
  old:=h.old
  sound:=fun M y hd g=>⟨h.sound M y hd g,rfl⟩
  kept:=fun _ j n t c=>by
   have v:2 <= (es[j]).set.size:=by
    rcases Nat.lt_or_ge (es[j]).set.size 2 with l | o
    ·rw [d.one j n (Nat.not_le.2 l),fB] at c;cases c
    ·exact o
   obtain ⟨a,b,x,s,r,_,_,f,q,p⟩:=d.two j n v;rw [f,dL,di (dE s),di (dE r)] at c;simp only [Bool.or_eq_true,decide_eq_true_eq] at c;have m:j ∈ kl:=by
    rcases c with e | e
    ·subst e;simpa using q
    ·subst e;simpa using p
   exact h.kept j m n t
  cons:=h.cons
  fresh:=h.fresh
  Gx:=h.Gx },d⟩
end
section
theorem nD (es:List dN) (i:Nat) (k:Key) (j:Nat) (h:j < (fo es i k).length) (a:j < es.length):(fo es i k)[j]=if i=j then { es[j] with watched:=k } else es[j]:=by
 simp only [fo,List.getElem_modify]
theorem jU (es:List dN) (i:Nat) (k:Key) (h:i < (fo es i k).length) (a:i < es.length):(fo es i k)[i]={ es[i] with watched:=k }:=by
 rw [nD es i k i h a,if_pos rfl]
theorem jr (es:List dN) (i:Nat) (k:Key) (j:Nat) (a:j ≠ i) (h:j < (fo es i k).length) (b:j < es.length):(fo es i k)[j]=es[j]:=by
 rw [nD es i k j h b,if_neg (fun e=>a e.symm)]
theorem En (es:List dN) (i:Nat) (k c:Key):fo (fo es i k) i c=fo es i c:=by
 refine List.ext_getElem (by simp [ig]) fun j b e=>?_
 have a:j < (fo es i k).length:=by rw [ig] at b;exact b
 have d:j < es.length:=by rw [ig] at a;exact a
 rw [nD _ _ _ _ b a,nD _ _ _ _ e d,nD _ _ _ _ a d];split <;> rfl
theorem Iq (es:List dN) (i:Nat) (k:Key):sigs (fo es i k)=sigs es:=by
 refine List.ext_getElem (by simp [sigs,ig]) fun j d c=>?_
 have a:j < es.length:=by simpa [sigs] using c
 have b:j < (fo es i k).length:=by rw [ig];exact a
 simp only [sigs,List.getElem_map];rw [nD _ _ _ _ b a];split <;> rfl
theorem rV (es:List dN) (i:Nat) (k:Key) (j:Nat) (h:j < (fo es i k).length) (a:j < es.length):((fo es i k)[j]).set=(es[j]).set/\((fo es i k)[j]).times=(es[j]).times:=by
 rw [nD _ _ _ _ h a];split <;> exact ⟨rfl,rfl⟩
variable {es0 es:List dN} {lit:Int} {dI forced:Key} {cZ kl:List Nat} {i:Nat} {wl:Nat->List Nat}
theorem jZ.nd (h:jZ es0 lit dI cZ i es wl kl forced) (a:dZ lit) (hi:i < cZ.length):(kl ++ cZ[i] :: cZ.drop (i + 1)).Nodup:=by
 have:=h.gU.nodup _ (gP a);simp only [if_true] at this;rw [drop_at hi] at this;exact this
theorem jZ.Kq (h:jZ es0 lit dI cZ i es wl kl forced) (c:dZ lit) (hi:i < cZ.length):cZ[i] ∉ kl ++ cZ.drop (i + 1):=by
 have:=h.nd c hi;rw [List.nodup_append] at this;obtain ⟨_,b,d⟩:=this;rw [List.nodup_cons] at b;intro a
 rcases List.mem_append.1 a with a | a
 ·exact d _ a _ (List.mem_cons_self ..) rfl
 ·exact b.1 a
theorem jZ.pair (h:jZ es0 lit dI cZ i es wl kl forced) (a:dZ lit) (hi:i < cZ.length):∃ (c:cZ[i] < es.length) (b:Int),2 <= (es[cZ[i]]).set.size/\b ≠ lit/\dZ b/\(es[cZ[i]]).set.has lit=true/\(es[cZ[i]]).set.has b=true/\(es[cZ[i]]).watched=(single lit).un (single b)/\cZ[i] ∈ wl (place b):=by
 obtain ⟨c,b,n,g,f,m,l,k,d⟩:=h.gU.pair a (j:=cZ[i]) (by
  show cZ[i] ∈ (if place lit=place lit then kl ++ cZ.drop i else wl (place lit))
  rw [if_pos rfl,drop_at hi];exact List.mem_append_right _ (List.mem_cons_self ..))
 have:place b ≠ place lit:=fun e=>g (ko f a e)
 rw [if_neg this] at d;exact ⟨c,b,n,g,f,m,l,k,d⟩
theorem jZ.move (h:jZ es0 lit dI cZ i es wl kl forced) (hi:i < cZ.length) (v:dZ lit) {c:Int} (C:dZ c) (I:cZ[i] < es.length) (Q:(es[cZ[i]]).set.has c=true) (W:c ≠ lit) (t:(es[cZ[i]]).watched.has c=false) (F:(dI.un forced).has (-c)=false):
  jZ es0 lit dI cZ (i + 1) (fo es cZ[i] (((es[cZ[i]]).watched.wo (single lit)).un (single c))) (fun k=>if k=place c then wl k ++ [cZ[i]] else wl k) kl forced:=by
 obtain ⟨_,b,E,H,q,ac,hb,r,V⟩:=h.pair v hi;have R:=h.Kq v hi;have S:=h.nd v hi;have X:c ≠ b:=fun e=>by
  rw [r,dL,di (dE v),di (dE q),e] at t;simp at t
 have P:((es[cZ[i]]).watched.wo (single lit)).un (single c)=(single b).un (single c):=kJ fun x=>by
  rw [dL,dL,kM,r,dL,di (dE v),di (dE q)];by_cases L:x=lit
  ·subst L;have e2:¬ x=b:=fun e=>H e.symm
   simp [e2]
  ·simp [L]
 rw [P];have pl:place b ≠ place lit:=fun e=>H (ko q v e)
 have M:place c ≠ place lit:=fun e=>W (ko C v e)
 have len:∀ {j},j < (fo es cZ[i] ((single b).un (single c))).length->j < es.length:=fun h=>by rwa [ig] at h
 have hW:∀ k,k ≠ place lit->∀ x,x ∈ wl k->x ∈ (if k=place lit then kl ++ cZ.drop (i + 1) else if k=place c then wl k ++ [cZ[i]] else wl k):=fun k A x g=>by
  rw [if_neg A];split
  ·exact List.mem_append_left _ g
  ·exact g
 have hO:∀ k x,x ≠ cZ[i]->x ∈ (if k=place lit then kl ++ cZ.drop i else wl k)->x ∈ (if k=place lit then kl ++ cZ.drop (i + 1) else if k=place c then wl k ++ [cZ[i]] else wl k):=fun k x s g=>by
  by_cases e:k=place lit
  ·rw [if_pos e] at g ⊢;rw [drop_at hi] at g
   rcases List.mem_append.1 g with g | g
   ·exact List.mem_append_left _ g
   ·rcases List.mem_cons.1 g with g | g
    ·exact absurd g s
    ·exact List.mem_append_right _ g
  ·rw [if_neg e] at g;exact hW k e x g
 exact {
  same:=by rw [Iq];exact h.same
  gU:={
   two:=fun j f p=>by
    have d:=len f;obtain ⟨ab,ad⟩:=rV es cZ[i] ((single b).un (single c)) j f d;rw [ab] at p ⊢;by_cases e:j=cZ[i]
    ·subst e;refine ⟨b,c,fun e=>X e.symm,q,C,hb,Q,by rw [jU _ _ _ f d],hW _ pl _ V,?_⟩
     show _ ∈ (if place c=place lit then kl ++ cZ.drop (i + 1) else if place c=place c then wl (place c) ++ [cZ[i]] else wl (place c))
     rw [if_neg M,if_pos rfl];simp
    ·obtain ⟨a,b',Z,ia,N,ha,Y,O,ja,jb⟩:=h.gU.two j d p;exact ⟨a,b',Z,ia,N,ha,Y,by rw [jr _ _ _ _ e f d];exact O,hO _ _ e ja,hO _ _ e jb⟩
   one:=fun j f p=>by
    have d:=len f;rw [(rV es cZ[i] ((single b).un (single c)) j f d).1] at p;by_cases e:j=cZ[i]
    ·subst e;exact absurd E p
    ·rw [jr _ _ _ _ e f d];exact h.gU.one j d p
   lists:=fun k A j m=>by
    have m:j ∈ (if k=place lit then kl ++ cZ.drop (i + 1) else if k=place c then wl k ++ [cZ[i]] else wl k):=m
    by_cases e:k=place lit
    ·rw [if_pos e] at m;have s:j ≠ cZ[i]:=fun e=>R (e ▸ m)
     obtain ⟨d,p,l,D,z,o⟩:=h.gU.lists k A j (by
      show j ∈ (if k=place lit then kl ++ cZ.drop i else wl k)
      rw [if_pos e,drop_at hi]
      rcases List.mem_append.1 m with g | g
      ·exact List.mem_append_left _ g
      ·exact List.mem_append_right _ (List.mem_cons_of_mem _ g))
     have f:j < (fo es cZ[i] ((single b).un (single c))).length:=by rw [ig];exact d
     exact ⟨f,by rw [jr _ _ _ _ s f d];exact p,l,D,z,by rw [jr _ _ _ _ s f d];exact o⟩
    ·rw [if_neg e] at m;by_cases J:j=cZ[i]
     ·subst J;have f:cZ[i] < (fo es cZ[i] ((single b).un (single c))).length:=by rw [ig];exact I
      refine ⟨f,by rw [jU _ _ _ f I];exact E,?_⟩
      by_cases K:k=place c
      ·exact ⟨c,C,K.symm,by rw [jU _ _ _ f I];show ((single b).un (single c)).has c=true;rw [dL,di (dE C)];simp⟩
      ·rw [if_neg K] at m;obtain ⟨_,_,l,D,z,o⟩:=h.gU.lists k A _ (by
        show cZ[i] ∈ (if k=place lit then kl ++ cZ.drop i else wl k)
        rw [if_neg e];exact m)
       rw [r,dL,di (dE v),di (dE q)] at o;simp only [Bool.or_eq_true,decide_eq_true_eq] at o
       rcases o with o | o
       ·exact absurd (by rw [<- z,o]) e
       ·exact ⟨b,q,by rw [<- o];exact z,by rw [jU _ _ _ f I];show ((single b).un (single c)).has b=true;rw [dL,di (dE q)];simp⟩
     ·have T:j ∈ wl k:=by
       split at m
       ·rcases List.mem_append.1 m with g | g
        ·exact g
        ·simp at g;exact absurd g J
       ·exact m
      obtain ⟨d,p,l,D,z,o⟩:=h.gU.lists k A j (by
       show j ∈ (if k=place lit then kl ++ cZ.drop i else wl k)
       rw [if_neg e];exact T)
      have f:j < (fo es cZ[i] ((single b).un (single c))).length:=by rw [ig];exact d
      exact ⟨f,by rw [jr _ _ _ _ J f d];exact p,l,D,z,by rw [jr _ _ _ _ J f d];exact o⟩
   nodup:=fun k A=>by
    show (if k=place lit then kl ++ cZ.drop (i + 1) else if k=place c then wl k ++ [cZ[i]] else wl k).Nodup
    have G:=h.gU.nodup k A;by_cases e:k=place lit
    ·rw [if_pos e];exact S.sublist ((List.Sublist.refl kl).append (List.sublist_cons_self _ _))
    ·rw [if_neg e];have G:(if k=place lit then kl ++ cZ.drop i else wl k).Nodup:=G
     rw [if_neg e] at G;split
     ·rename_i K;refine List.nodup_append.2 ⟨G,by simp,fun x g y hy=>?_⟩
      simp at hy;subst hy;intro aa;rw [aa] at g;obtain ⟨_,_,l,D,z,o⟩:=h.gU.lists k A cZ[i] (by
       show cZ[i] ∈ (if k=place lit then kl ++ cZ.drop i else wl k)
       rw [if_neg e];exact g)
      have:l=c:=ko D C (z.trans K);rw [this] at o
      first | (rw [t] at o;cases o) | (simp [t] at o)
     ·exact G
   ok:=fun e he=>by
    obtain ⟨j,f,rfl⟩:=List.getElem_of_mem he;rw [(rV es cZ[i] _ j f (len f)).1];exact h.gU.ok _ (List.getElem_mem _) }
  old:=fun j h0 f l n=>by
   have d:=len f;by_cases e:j=cZ[i]
   ·subst e;rw [jU _ _ _ f d] at n;have n:((single b).un (single c)).has l=true:=n;rw [dL,di (dE q),di (dE C)] at n;simp only [Bool.or_eq_true,decide_eq_true_eq] at n
    rcases n with e | e
    ·exact h.old _ h0 d l (by rw [r,dL,di (dE q),e];simp)
    ·subst e;rw [dL,Bool.or_eq_false_iff] at F;exact .inr F.1
   ·rw [jr _ _ _ _ e f d] at n;exact h.old _ h0 d l n
  sound:=h.sound
  kept:=fun j U f ht=>by
   have d:=len f;obtain ⟨L,e2⟩:=rV es cZ[i] ((single b).un (single c)) j f d;rw [L];rw [e2] at ht;exact h.kept j U d ht
  cons:=h.cons
  fresh:=h.fresh
  Gx:=h.Gx
  pE:=Nat.le_succ_of_le h.pE
  vU:=hi }
end
section
open Go Go.RowKit Go.Deep
section
variable {B sb mb:Nat} {w w':World} {cv:Value} {gone:Int} {u:Key} {wv:Nat->Value} {es:List dN} {wl:Nat->List Nat}
theorem Mt (b:List Nat) (i a:Nat):fD (b.set i a)=(fD b).set i (.int .i64 (a:Int)):=by unfold fD;rw [List.map_set]
theorem iy (a:List Nat):(fD a).length=a.length:=by unfold fD;simp
theorem fA.Xl (h:fA B sb w cv mb gone u wv es wl) {p b n cap:Nat} (f:p < 128) (c:wv p=.slice (some ⟨b,0,none⟩) n cap):∃ a,w.heap[b]? = some (.cells a 3 (0,0))/\B <= b/\n=(wl p).length/\n <= cap:=by
 rcases (h.mR p f).2 with ⟨e,_⟩ | ⟨g,d,a,e,l,k,j,_⟩
 ·rw [c] at e;cases e
 ·rw [c] at e;cases e;exact ⟨a,k,l,rfl,j⟩
theorem fA.YX (h:fA B sb w cv mb gone u wv es wl) {p f n cap:Nat} (s:p < 128) (q:wv p=.slice (some ⟨f,0,none⟩) n cap):sb ≠ f/\mb ≠ f/\(∀ g,cv.ownBlock=some g->g ≠ f)/\∀ k,k < 128->k ≠ p->∀ g,(wv k).ownBlock=some g->g ≠ f:=by
 obtain ⟨y,l,_⟩:=h.Xl s q;refine ⟨fun e=>?_,fun e=>h.map.iw (by rw [e];exact l),fun g a e=>?_,fun k x j g b e=>?_⟩
 ·obtain ⟨c,r,_⟩:=h.row;rw [e,l] at r;cases r
 ·rcases h.cls.2 with ⟨o,_⟩ | ⟨z,v,t,o,_,d,_⟩
  ·rw [o] at a;cases a
  ·rw [o] at a;cases a;simp only at e;rw [e,l] at d;cases d
 ·rcases h.apart k p x s j with m | m
  ·rw [m] at b;cases b
  ·exact m (by rw [b,q,e];rfl)
theorem fA.KG {p j n cap:Nat} {c:List Nat} {ws:World} (h:fA B sb w cv mb gone u wv es wl) (m:p < 128) (l:wv p=.slice (some ⟨j,0,none⟩) n cap)
  (b:ws.ownsRow B 3 1 (wv p) c.length (fD c)) (a:∀ k,k ≠ j->ws.heap[k]? = w.heap[k]?):fA B sb ws cv mb gone u wv es (fun k=>if k=p then c else wl k):=by
 obtain ⟨s,r,q,o⟩:=h.YX m l;exact {
  row:=h.row.of_block (a _ s)
  cls:=gy h.cls fun g d=>a g (q g d)
  map:=h.map.kept (a _ r)
  mR:=fun k f=>by
   by_cases e:k=p
   ·subst e;simp only [if_true];exact b
   ·simp only [e,if_false];exact gy (h.mR k f) fun g d=>a g (o k f e g d)
  apart:=h.apart
  jg:=h.jg
  zO:=h.zO }
theorem fA.Yy {p e n cap i a:Nat} (h:fA B sb w cv mb gone u wv es wl) (c:p < 128) (b:wv p=.slice (some ⟨e,0,none⟩) n cap):
  fA B sb (w.setCell ⟨e,i,none⟩ (.int .i64 (a:Int))) cv mb gone u wv es (fun k=>if k=p then (wl p).set i a else wl k):=by
 refine h.KG c b ?_ (fun k g=>Below.heap_setCell _ _ _ _ g)
 rw [Mt,List.length_set];have d:=h.mR p c;obtain ⟨_,_,_,f,_⟩:=h.Xl c b;rw [b,f] at d ⊢;exact (d.stored i _).1
theorem fA.Wi {p b n cap:Nat} (h:fA B sb w cv mb gone u wv es wl) (f:p < 128) (d:wv p=.slice (some ⟨b,0,none⟩) n cap) (i:Nat) (x:Value):dn w (w.setCell ⟨b,i,none⟩ x):=fun k g=>Below.heap_setCell _ _ _ _ (fun e=>by
 obtain ⟨m,j,_⟩:=h.Xl f d;obtain ⟨c,t,a,_,_,l⟩:=g;simp only at e;rw [e,j] at a;cases a;exact l rfl)
theorem yQ (a:List Nat) (i:Nat):fD (a.take i)=(fD a).take i:=by unfold fD;rw [List.map_take]
theorem Mj {w:World} {B e:Nat} {a:Option Addr} {n k cap:Nat} {d:List Value} (h:w.ownsRow B e 1 (.slice a n cap) n d) (s:k <= n):w.ownsRow B e 1 (.slice a k cap) k (d.take k):=by
 have o:=h.1;refine ⟨by rw [List.length_take,o];omega,?_⟩
 rcases h.2 with ⟨b,t⟩ | ⟨g,f,c,b,q,p,r,m,l,j⟩
 ·cases b
  have:k=0:=by omega
  subst this;exact .inl ⟨rfl,rfl⟩
 ·cases b
  refine .inr ⟨g,cap,c,rfl,q,p,by omega,m,l,?_⟩
  rw [<- j,List.take_take];congr 1;omega
theorem fA.XU {p n cap k0:Nat} {a:Option Addr} (h:fA B sb w cv mb gone u wv es wl) (o:p < 128) (f:wv p=.slice a n cap) (j:k0 <= (wl p).length):
  fA B sb (w.setCell ⟨sb,5 + p,none⟩ (.slice a k0 cap)) cv mb gone u (fun k=>if k=p then .slice a k0 cap else wv k) es (fun k=>if k=p then (wl p).take k0 else wl k):=by
 have d:=h.mR p o;have q:n=(wl p).length:=by
  obtain ⟨v,t,e⟩:=dG d;rw [f] at e;cases e;rfl
 have own:w.ownsRow B 3 1 (.slice a k0 cap) k0 (fD ((wl p).take k0)):=by
  rw [yQ];rw [f,q] at d;exact Mj d j
 have c:(Value.slice a k0 cap).ownBlock=(wv p).ownBlock:=by rw [f];cases a <;> rfl
 have r:((wl p).take k0).length=k0:=by rw [List.length_take];omega
 exact {
  row:=(h.row.set (5 + p) _).congr fun i s=>by
   match i with
   | 0=>rw [if_neg (by omega)];rfl
   | 1=>rw [if_neg (by omega)];rfl
   | 2=>rw [if_neg (by omega)];rfl
   | 3=>rw [if_neg (by omega)];rfl
   | 4=>rw [if_neg (by omega)];rfl
   | k + 5=>
    by_cases e:k=p
    ·subst e;simp [iV,Nat.add_comm]
    ·have:¬ (k + 5=5 + p):=by omega
     simp [iV,this,e]
  cls:=ownsRow_setCell_other h.cls (fun e=>h.iO.2.1 sb e rfl) _
  map:=h.map.kept (Below.heap_setCell _ _ _ _ h.iO.1)
  mR:=fun k b=>by
   by_cases e:k=p
   ·subst e;simp only [if_true];rw [r];exact ownsRow_setCell_other own (fun e=>h.iO.2.2 k b sb (by rw [<- c];exact e) rfl) _
   ·simp only [e,if_false];exact ownsRow_setCell_other (h.mR k b) (fun e=>h.iO.2.2 k b sb e rfl) _
  apart:=fun k m j b g=>by
   have l:∀ x,(if x=p then Value.slice a k0 cap else wv x).ownBlock=(wv x).ownBlock:=fun x=>by
    split
    ·rename_i e;rw [e];exact c
    ·rfl
   rw [l,l];exact h.apart k m j b g
  jg:=h.jg
  zO:=h.zO }
def mix (kl cZ:List Nat):List Nat:=kl ++ cZ.drop kl.length
theorem Dr (cZ:List Nat):mix [] cZ=cZ:=rfl
theorem fU {kl cZ:List Nat} (h:kl.length <= cZ.length):(mix kl cZ).length=cZ.length:=by unfold mix;simp;omega
theorem Jb {kl cZ:List Nat} {i:Nat} (h:kl.length <= i) (hi:i < cZ.length) (a:i < (mix kl cZ).length):(mix kl cZ)[i]=cZ[i]:=by
 simp only [mix];rw [List.getElem_append_right h,List.getElem_drop]
 congr 1;omega
theorem Dq {kl cZ:List Nat} {a:Nat} (h:kl.length < cZ.length):(mix kl cZ).set kl.length a=mix (kl ++ [a]) cZ:=by
 unfold mix;rw [List.set_append_right _ _ lr,Nat.sub_self,drop_at h,List.set_cons_zero];simp
theorem qU {kl cZ:List Nat}:(mix kl cZ).take kl.length=kl:=by unfold mix;simp
end
end
end Rd
end Go.Proofs.YtceahffmenbibaaGreatDoor
