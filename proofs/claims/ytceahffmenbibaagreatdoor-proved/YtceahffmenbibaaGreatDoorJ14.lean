/- Plog Pfal Pmov Pwst. -/
import Derived.Test.YtceahffmenbibaaGreatDoorJ13
import Derived.Test.YtceahffmenbibaaGreatDoorJ01
set_option linter.unusedVariables false
set_option linter.unusedSimpArgs false
namespace Go.Proofs.YtceahffmenbibaaGreatDoor
namespace Rd
def gD (es:List dH) (M:Int->Prop):Prop:=∀ e ∈ es,0 < e.times->(∃ l,e.set.has l=true/\M l)\/∃ a b,a ≠ b/\e.set.has a=true/\e.set.has b=true/\¬ M (-a)/\¬ M (-b)
def sigs (es:List dH):List (Key × Nat):=es.map fun e=>(e.set,e.times)
def uB (k:Key) (M:Int->Prop):Prop:=∀ l,k.has l=true->M l
theorem gV {es c:List dH} (h:sigs c=sigs es) {M:Int->Prop}:gD es M↔gD c M:=by
 have f:∀ (a b:List dH),sigs a=sigs b->gD a M->gD b M:=fun a b j n e m k=>by
  have l:(e.set,e.times) ∈ sigs a:=by rw [j];exact List.mem_map.2 ⟨e,m,rfl⟩
  obtain ⟨o,g,d⟩:=List.mem_map.1 l;simp only [Prod.mk.injEq] at d;have:=n o g (by rw [d.2];exact k);rw [d.1] at this;exact this
 exact ⟨f es c h.symm,f c es h⟩
theorem xB {es a:List dH} (h:sigs a=sigs es) {j:Nat} (d:j < es.length) (b:j < a.length):(a[j]).set=(es[j]).set/\(a[j]).times=(es[j]).times:=by
 have c:(sigs a)[j]? = (sigs es)[j]? := by rw [h]
 unfold sigs at c;rw [List.getElem?_map,List.getElem?_map,List.getElem?_eq_getElem d,List.getElem?_eq_getElem b] at c;simpa using c
theorem lN {es a:List dH} (h:sigs a=sigs es):a.length=es.length:=by
 have:=congrArg List.length h;simpa [sigs] using this
def nV (k:Key):Prop:=∀ l,k.has l=true->k.has (-l)=false
theorem KP {k:Key}:oq k=false↔nV k:=by
 rw [<- Bool.not_eq_true,yO];constructor
 ·intro h l b
  cases e:k.has (-l) with
  | false=>rfl
  | true=>exact absurd ⟨l,b,e⟩ h
 ·rintro h ⟨l,c,a⟩;rw [h l c] at a;cases a
theorem Ce {k:Key} (h:nV k):Cons (fun l=>k.has l=true):=fun l c b=>by
 have a:k.has (-l)=true:=b;rw [h l c] at a;cases a
structure gZ (es es':List dH) (lit:Int) (down forced:Key) (conflict:Bool):Prop where
 same:sigs es'=sigs es
 old:∀ j (h:j < es.length) (h':j < es'.length) l,(es'[j]).watched.has l=true->(es[j]).watched.has l=true\/down.has (-l)=false
 sound:∀ M,Cons M->uB down M->gD es M->uB forced M/\conflict=false
 kept:conflict=false->∀ j (h':j < es'.length),0 < (es'[j]).times->(es'[j]).watched.has lit=true->∃ l,(es'[j]).set.has l=true/\(down.un forced).has l=true
 cons:nV down->nV (down.un forced)
 fresh:∀ l,forced.has l=true->down.has l=false
 EN:forced.ok
def U4 (es:List dH):Prop:=∀ j (h:j < es.length),2 <= (es[j]).set.size->∃ a b,a ≠ b/\(es[j]).set.has a=true/\(es[j]).set.has b=true/\(es[j]).watched.has a=true/\(es[j]).watched.has b=true
def Rest (es:List dH) (D:Key):Prop:=∀ j (h:j < es.length),0 < (es[j]).times->2 <= (es[j]).set.size->(∃ l,(es[j]).set.has l=true/\D.has l=true)\/∀ l,(es[j]).watched.has l=true->D.has (-l)=false
theorem GA (es:List dH):Rest es (0,0):=fun j h _ _=>.inr fun l _=>ek _
structure Jq (es0:List dH) (base:Key) (es:List dH) (down pending:Key):Prop where
 same:sigs es=sigs es0
 sub:∀ l,pending.has l=true->down.has l=true
 inc:∀ l,base.has l=true->down.has l=true
 under:∀ M,Cons M->uB base M->gD es0 M->uB down M
 watch:∀ j (h:j < es.length),0 < (es[j]).times->2 <= (es[j]).set.size->(∃ l,(es[j]).set.has l=true/\down.has l=true)\/∀ l,(es[j]).watched.has l=true->down.has (-l)=true->pending.has (-l)=true
 Qe:nV down
 Vn:down.ok
 Vi:pending.ok
theorem Jq.start {es:List dH} {dG a:Key} (f:Rest es dG) (hd:dG.ok) (b:a.ok) (g:nV (dG.un a)):Jq es (dG.un a) es (dG.un a) (a.wo dG) where
 same:=rfl
 sub:=fun l h=>by rw [jN,Bool.and_eq_true] at h;rw [dE,h.1,Bool.or_true]
 inc:=fun l h=>h
 under:=fun M _ h _=>h
 watch:=fun j h d e=>by
  rcases f j h d e with ⟨l,c,k⟩ | c
  ·exact .inl ⟨l,c,by rw [dE,k];rfl⟩
  ·refine .inr fun l b hd=>?_
   rw [dE,c l b,Bool.false_or] at hd;rw [jN,hd,c l b];rfl
 Qe:=g
 Vn:=qm hd b
 Vi:=qi b _
theorem Jq.step {es0 es g:List dH} {d c a forced:Key} {p:Int} (h:Jq es0 d es c a) (C:a.has p=true) (o:p ≠ 0) (F:gZ es g (-p) c forced false):
  Jq es0 d g (c.un forced) ((a.wo (single p)).un forced) where
 same:=F.same.trans h.same
 sub:=fun l b=>by
  rw [dE,Bool.or_eq_true] at b;rw [dE,Bool.or_eq_true]
  rcases b with b | b
  ·rw [jN,Bool.and_eq_true] at b;exact .inl (h.sub l b.1)
  ·exact .inr b
 inc:=fun l b=>by rw [dE,h.inc l b];rfl
 under:=fun M t y k l b=>by
  rw [dE,Bool.or_eq_true] at b;have hd:=h.under M t y k
  rcases b with b | b
  ·exact hd l b
  ·exact (F.sound M t hd ((gV h.same.symm).2 k |> fun x=>x)).1 l b
 watch:=fun j m s k=>by
  have f:j < es.length:=by rw [<- lN F.same];exact m
  obtain ⟨v,z⟩:=xB F.same f m;by_cases r:∃ l,(g[j]).set.has l=true/\(c.un forced).has l=true
  ·exact .inl r
  ·refine .inr fun l b hd=>?_
   rw [dE,Bool.or_eq_true] at hd ⊢
   rcases hd with hd | hd
   ·
    left
    rcases F.old j f m l b with q | q
    ·rcases h.watch j f (by rw [<- z];exact s) (by rw [<- v];exact k) with ⟨x,x1,x2⟩ | hw
     ·exact absurd ⟨x,by rw [v];exact x1,by rw [dE,x2];rfl⟩ r
     ·have n:=hw l q hd;rw [jN,n,df o];have:¬ (-l=p):=fun e=>by
       have A:l=-p:=by omega
       rw [A] at b;exact r (F.kept rfl j m s b)
      simp [this]
    ·rw [q] at hd;cases hd
   ·exact .inr hd
 Qe:=F.cons h.Qe
 Vn:=qm h.Vn F.EN
 Vi:=qm (qi h.Vi _) F.EN
theorem rest_step {es d:List dH} {D a forced:Key} {lit:Int} {b:Bool} (n:Rest es D) (p:∀ l,D.has l=true->a.has l=true) (F:gZ es d lit a forced b):Rest d D:=fun j g k m=>by
 have c:j < es.length:=by rw [<- lN F.same];exact g
 obtain ⟨h,q⟩:=xB F.same c g
 rcases n j c (by rw [<- q];exact k) (by rw [<- h];exact m) with ⟨l,h1,h2⟩ | hw
 ·exact .inl ⟨l,by rw [h];exact h1,h2⟩
 ·refine .inr fun l o=>?_
  rcases F.old j c g l o with f | f
  ·exact hw l f
  ·cases e:D.has (-l) with
   | false=>rfl
   | true=>rw [p _ e] at f;cases f
theorem Jq.conflict {es0 es d:List dH} {c b a forced:Key} {lit:Int} (h:Jq es0 c es b a) (F:gZ es d lit b forced true):∀ M,Cons M->uB c M->¬ gD es0 M:=fun M f g e=>by
 have:=(F.sound M f (h.under M f g e) ((gV h.same.symm).2 e |> fun x=>x)).2;cases this
theorem Jq.finish {es0 es:List dH} {d c:Key} (h:Jq es0 d es c (0,0)) (t:U4 es) (x:∀ e ∈ es,e.set.ok) (v:∀ e ∈ es,0 < e.times->e.set.size=1->∃ l,e.set.has l=true/\c.has l=true) (C:∀ e ∈ es,0 < e.times->e.set.size ≠ 0):gD es0 (fun l=>c.has l=true):=by
 refine (gV h.same).2 fun e m k=>?_
 obtain ⟨j,q,rfl⟩:=List.mem_iff_getElem.1 m
 rcases Nat.lt_or_ge (es[j]).set.size 2 with f | f
 ·have g:∀ n:Nat,n < 2->n ≠ 0->n=1:=fun n a b=>by omega
  exact .inl (v _ m k (g _ f (C _ m k)))
 ·rcases h.watch j q k f with y | p
  ·exact .inl y
  ·obtain ⟨a,b,o,A,z,s,r⟩:=t j q f;refine .inr ⟨a,b,o,A,z,fun hd=>?_,fun hd=>?_⟩
   ·have:=p a s hd;rw [ek] at this;cases this
   ·have:=p b r hd;rw [ek] at this;cases this
structure Lg (es:List dH) (L:List Cl):Prop where
 Vj:∀ e ∈ es,0 < e.times->∃ c ∈ L,setOf c=e.set
 from':∀ c ∈ L,∃ e ∈ es,0 < e.times/\e.set=setOf c
 lits:∀ c ∈ L,∀ l ∈ c,gH l
theorem Lg.has {es:List dH} {L:List Cl} (h:Lg es L) {c:Cl} (b:c ∈ L) (l:Int):(setOf c).has l=true↔l ∈ c:=by
 rw [has_setOf (fun x a=>lq (h.lits c b x a))];simp
theorem Lg.stable {es:List dH} {L:List Cl} (h:Lg es L) (M:Int->Prop):gD es M↔Stable L M:=by
 constructor
 ·intro n c g;obtain ⟨e,o,m,d⟩:=h.from' c g
  rcases n e o m with ⟨l,f,j⟩ | ⟨a,b,k,f,j,q,p⟩
  ·rw [d,h.has g] at f;exact .inl ⟨l,f,j⟩
  ·rw [d,h.has g] at f j;exact .inr ⟨a,f,b,j,k,q,p⟩
 ·intro n e o m;obtain ⟨c,g,d⟩:=h.Vj e o m
  rcases n c g with ⟨l,f,j⟩ | ⟨a,f,b,j,k,q,p⟩
  ·exact .inl ⟨l,by rw [<- d,h.has g];exact f,j⟩
  ·exact .inr ⟨a,b,k,by rw [<- d,h.has g];exact f,by rw [<- d,h.has g];exact j,q,p⟩
theorem Lg.conf {es:List dH} {L:List Cl} (h:Lg es L) (e:List Int):mq L e↔∀ M,Cons M->(∀ l ∈ e,M l)->¬ gD es M:=by
 unfold mq;constructor
 ·intro c M d b a;exact c M d b ((h.stable M).1 a)
 ·intro c M d b a;exact c M d b ((h.stable M).2 a)
section
structure eU (es:List dH) (wl:Nat->List Nat):Prop where
 two:∀ j (h:j < es.length),2 <= (es[j]).set.size->∃ a b,a ≠ b/\dV a/\dV b/\(es[j]).set.has a=true/\(es[j]).set.has b=true/\(es[j]).watched=(single a).un (single b)/\j ∈ wl (place a)/\j ∈ wl (place b)
 one:∀ j (h:j < es.length),¬ 2 <= (es[j]).set.size->(es[j]).watched=(0,0)
 lists:∀ k,k < 128->∀ j ∈ wl k,∃ h:j < es.length,2 <= (es[j]).set.size/\∃ l,dV l/\place l=k/\(es[j]).watched.has l=true
 nodup:∀ k,k < 128->(wl k).Nodup
 ok:∀ e ∈ es,e.set.ok
theorem eU.Vr {es:List dH} {wl:Nat->List Nat} (h:eU es wl):U4 es:=fun j k g=>by
 obtain ⟨a,b,c,f,e,m,l,d,_⟩:=h.two j k g;exact ⟨a,b,c,m,l,by rw [d,dE,df (dw f)];simp,by rw [d,dE,df (dw e)];simp⟩
theorem eU.pair {es:List dH} {wl:Nat->List Nat} (h:eU es wl) {lit:Int} (m:dV lit) {j:Nat} (y:j ∈ wl (place lit)):∃ (f:j < es.length) (b:Int),2 <= (es[j]).set.size/\b ≠ lit/\dV b/\(es[j]).set.has lit=true/\(es[j]).set.has b=true/\(es[j]).watched=(single lit).un (single b)/\j ∈ wl (place b):=by
 obtain ⟨f,k,l,t,v,g⟩:=h.lists _ (gz m) j y;have e:=jS t m v;subst e;obtain ⟨a,b,d,o,n,q,p,c,s,r⟩:=h.two j f k;rw [c,dE,df (dw o),df (dw n)] at g;simp only [Bool.or_eq_true,decide_eq_true_eq] at g
 rcases g with e | e
 ·subst e;exact ⟨f,b,k,fun e=>d e.symm,n,q,p,c,r⟩
 ·subst e;refine ⟨f,a,k,d,o,p,q,?_,s⟩;rw [c];exact kz fun x=>by rw [dE,dE,Bool.or_comm]
structure jQ (es0:List dH) (lit:Int) (dG:Key) (cz:List Nat) (i:Nat) (es:List dH) (wl:Nat->List Nat) (kl:List Nat) (forced:Key):Prop where
 same:sigs es=sigs es0
 gG:eU es (fun k=>if k=place lit then kl ++ cz.drop i else wl k)
 old:∀ j (h0:j < es0.length) (h:j < es.length) l,(es[j]).watched.has l=true->(es0[j]).watched.has l=true\/dG.has (-l)=false
 sound:∀ M,Cons M->uB dG M->gD es0 M->uB forced M
 kept:∀ j ∈ kl,∀ h:j < es.length,0 < (es[j]).times->∃ l,(es[j]).set.has l=true/\(dG.un forced).has l=true
 cons:nV dG->nV (dG.un forced)
 fresh:∀ l,forced.has l=true->dG.has l=false
 EN:forced.ok
 oK:kl.length <= i
 uX:i <= cz.length
variable {es0 es:List dH} {lit:Int} {dG forced:Key} {cz kl:List Nat} {i:Nat} {wl:Nat->List Nat}
theorem jQ.start (h:eU es0 wl):jQ es0 lit dG (wl (place lit)) 0 es0 wl [] (0,0) where
 same:=rfl
 gG:=by
  have e:(fun k=>if k=place lit then [] ++ (wl (place lit)).drop 0 else wl k)=wl:=by
   funext k;split
   ·rename_i e;rw [e];rfl
   ·rfl
  rw [e];exact h
 old:=fun j c h l a=>.inl a
 sound:=fun M _ _ _ l a=>by rw [ek] at a;cases a
 kept:=fun j b=>by simp at b
 cons:=fun h=>by
  have:dG.un (0,0)=dG:=kz fun x=>by rw [dE,ek,Bool.or_false]
  rw [this];exact h
 fresh:=fun l a=>by rw [ek] at a;cases a
 EN:=kG
 oK:=zl
 uX:=zl
theorem drop_at {cz:List Nat} {i:Nat} (a:i < cz.length):cz.drop i=cz[i] :: cz.drop (i + 1):=List.drop_eq_getElem_cons a
theorem jQ.Ev (h:jQ es0 lit dG cz i es wl kl forced) (a:i < cz.length):eU es (fun k=>if k=place lit then (kl ++ [cz[i]]) ++ cz.drop (i + 1) else wl k):=by
 have e:(kl ++ [cz[i]]) ++ cz.drop (i + 1)=kl ++ cz.drop i:=by rw [drop_at a];simp
 rw [e];exact h.gG
theorem jQ.skip (h:jQ es0 lit dG cz i es wl kl forced) (d:i < cz.length) (e:∀ a:cz[i] < es.length,0 < (es[cz[i]]).times->∃ l,(es[cz[i]]).set.has l=true/\(dG.un forced).has l=true):jQ es0 lit dG cz (i + 1) es wl (kl ++ [cz[i]]) forced where
 same:=h.same
 gG:=h.Ev d
 old:=h.old
 sound:=h.sound
 kept:=fun j a c b=>by
  rcases List.mem_append.1 a with a | a
  ·exact h.kept j a c b
  ·simp at a;subst a;exact e c b
 cons:=h.cons
 fresh:=h.fresh
 EN:=h.EN
 oK:=by have:=h.oK;simp;omega
 uX:=d
theorem yn (s d:Key) (l:Int):(s.wo d.op).has l=(s.has l && !d.has (-l)):=by rw [jN,CF]
theorem Ac (e:sigs es=sigs es0) {M:Int->Prop} (c:gD es0 M) {j:Nat} (f:j < es.length) (d:0 < (es[j]).times):(∃ l,(es[j]).set.has l=true/\M l)\/∃ a b,a ≠ b/\(es[j]).set.has a=true/\(es[j]).set.has b=true/\¬ M (-a)/\¬ M (-b):=
 (gV e).1 c _ (List.getElem_mem f) d
theorem jQ.unit (h:jQ es0 lit dG cz i es wl kl forced) (D:i < cz.length) (L:cz[i] < es.length) (J:0 < (es[cz[i]]).times) {l:Int} (f:dV l) (N:(es[cz[i]]).set.wo (dG.un forced).op=single l) (K:¬ ∃ x,(es[cz[i]]).set.has x=true/\(dG.un forced).has x=true):
  jQ es0 lit dG cz (i + 1) es wl (kl ++ [cz[i]]) (forced.un (single l)):=by
 have G:∀ x,((es[cz[i]]).set.has x && !(dG.un forced).has (-x))=decide (x=l):=fun x=>by rw [<- yn,N,df (dw f)]
 have o:=G l;simp only [decide_true,Bool.and_eq_true,Bool.not_eq_true'] at o;have n:(dG.un forced).has l=false:=by
  cases e:(dG.un forced).has l with
  | false=>rfl
  | true=>exact absurd ⟨l,o.1,e⟩ K
 have k:dG.un (forced.un (single l))=(dG.un forced).un (single l):=kz fun x=>by simp only [dE,Bool.or_assoc]
 exact {
  same:=h.same
  gG:=h.Ev D
  old:=h.old
  sound:=fun M E hd m x c=>by
   rw [dE,Bool.or_eq_true] at c;have F:=h.sound M E hd m
   rcases c with c | c
   ·exact F x c
   ·rw [df (dw f)] at c;have p:x=l:=of_decide_eq_true c;subst p;have R:uB (dG.un forced) M:=fun y g=>by
     rw [dE,Bool.or_eq_true] at g
     rcases g with g | g
     ·exact hd y g
     ·exact F y g
    have C:∀ y,(es[cz[i]]).set.has y=true->y ≠ x->M (-y):=fun y g s=>by
     have:=G y;rw [g,Bool.true_and,show decide (y=x)=false from by simpa using s] at this;simp only [Bool.not_eq_false'] at this;exact R _ this
    rcases Ac h.same m L J with ⟨y,A,q⟩ | ⟨a,b,z,Q,P,I,H⟩
    ·by_cases e:y=x
     ·rw [<- e];exact q
     ·exact absurd (C y A e) (fun S=>E y q S)
    ·exfalso
     by_cases e:a=x
     ·exact H (C b P (fun T=>z (by rw [e,T])))
     ·exact I (C a Q e)
  kept:=fun j d t r=>by
   rw [k]
   rcases List.mem_append.1 d with d | d
   ·obtain ⟨y,A,q⟩:=h.kept j d t r;exact ⟨y,A,by rw [dE,q];rfl⟩
   ·simp at d;subst d;exact ⟨l,o.1,by rw [dE,df (dw f)];simp⟩
  cons:=fun O x c=>by
   have v:=h.cons O;rw [k] at c ⊢;rw [dE,Bool.or_eq_true] at c;rw [dE,Bool.or_eq_false_iff]
   rcases c with c | c
   ·refine ⟨v x c,?_⟩;rw [df (dw f)];simp only [decide_eq_false_iff_not];intro e;have U:x=-l:=by omega
    rw [U,o.2] at c;cases c
   ·rw [df (dw f)] at c;have p:x=l:=of_decide_eq_true c;subst p;refine ⟨o.2,?_⟩;rw [df (dw f)];have:=dw f;simp;omega
  fresh:=fun x c=>by
   rw [dE,Bool.or_eq_true] at c
   rcases c with c | c
   ·exact h.fresh x c
   ·rw [df (dw f)] at c;have p:x=l:=of_decide_eq_true c;subst p;rw [dE,Bool.or_eq_false_iff] at n;exact n.1
  EN:=qm h.EN (fE f)
  oK:=by have:=h.oK;simp;omega
  uX:=D }
theorem jQ.yK (h:jQ es0 lit dG cz i es wl kl forced) (v:i < cz.length) (m:cz[i] < es.length) (l:0 < (es[cz[i]]).times) (n:(es[cz[i]]).set.wo (dG.un forced).op=(0,0)):gZ es0 es lit dG forced true where
 same:=h.same
 old:=h.old
 sound:=fun M g hd d=>by
  exfalso
  have q:=h.sound M g hd d;have r:uB (dG.un forced) M:=fun y c=>by
   rw [dE,Bool.or_eq_true] at c
   rcases c with c | c
   ·exact hd y c
   ·exact q y c
  have j:∀ y,(es[cz[i]]).set.has y=true->M (-y):=fun y c=>by
   have:=yn (es[cz[i]]).set (dG.un forced) y;rw [n,ek,c,Bool.true_and] at this;have f:(dG.un forced).has (-y)=true:=by simpa using this.symm
   exact r _ f
  rcases Ac h.same d m l with ⟨y,s,f⟩ | ⟨a,b,o,p,x,k,t⟩
  ·exact g y f (j y s)
  ·exact k (j a p)
 kept:=fun e=>by cases e
 cons:=h.cons
 fresh:=h.fresh
 EN:=h.EN
theorem jQ.done (h:jQ es0 lit dG cz cz.length es wl kl forced) (z:dV lit):gZ es0 es lit dG forced false/\eU es (fun k=>if k=place lit then kl else wl k):=by
 have e:kl ++ cz.drop cz.length=kl:=by simp
 have d:=h.gG;rw [e] at d;refine ⟨{
  same:=h.same
  old:=h.old
  sound:=fun M y hd g=>⟨h.sound M y hd g,rfl⟩
  kept:=fun _ j n t c=>by
   have v:2 <= (es[j]).set.size:=by
    rcases Nat.lt_or_ge (es[j]).set.size 2 with l | o
    ·rw [d.one j n (Nat.not_le.2 l),ek] at c;cases c
    ·exact o
   obtain ⟨a,b,x,s,r,_,_,f,q,p⟩:=d.two j n v;rw [f,dE,df (dw s),df (dw r)] at c;simp only [Bool.or_eq_true,decide_eq_true_eq] at c;have m:j ∈ kl:=by
    rcases c with e | e
    ·subst e;simpa using q
    ·subst e;simpa using p
   exact h.kept j m n t
  cons:=h.cons
  fresh:=h.fresh
  EN:=h.EN },d⟩
end
section
theorem mK (es:List dH) (i:Nat) (k:Key) (j:Nat) (h:j < (eO es i k).length) (a:j < es.length):(eO es i k)[j]=if i=j then { es[j] with watched:=k } else es[j]:=by
 simp only [eO,List.getElem_modify]
theorem jL (es:List dH) (i:Nat) (k:Key) (h:i < (eO es i k).length) (a:i < es.length):(eO es i k)[i]={ es[i] with watched:=k }:=by
 rw [mK es i k i h a,if_pos rfl]
theorem jc (es:List dH) (i:Nat) (k:Key) (j:Nat) (a:j ≠ i) (h:j < (eO es i k).length) (b:j < es.length):(eO es i k)[j]=es[j]:=by
 rw [mK es i k j h b,if_neg (fun e=>a e.symm)]
theorem Du (es:List dH) (i:Nat) (k c:Key):eO (eO es i k) i c=eO es i c:=by
 refine List.ext_getElem (by simp [gM]) fun j b e=>?_
 have a:j < (eO es i k).length:=by rw [gM] at b;exact b
 have d:j < es.length:=by rw [gM] at a;exact a
 rw [mK _ _ _ _ b a,mK _ _ _ _ e d,mK _ _ _ _ a d];split <;> rfl
theorem Gj (es:List dH) (i:Nat) (k:Key):sigs (eO es i k)=sigs es:=by
 refine List.ext_getElem (by simp [sigs,gM]) fun j d c=>?_
 have a:j < es.length:=by simpa [sigs] using c
 have b:j < (eO es i k).length:=by rw [gM];exact a
 simp only [sigs,List.getElem_map];rw [mK _ _ _ _ b a];split <;> rfl
theorem qZ (es:List dH) (i:Nat) (k:Key) (j:Nat) (h:j < (eO es i k).length) (a:j < es.length):((eO es i k)[j]).set=(es[j]).set/\((eO es i k)[j]).times=(es[j]).times:=by
 rw [mK _ _ _ _ h a];split <;> exact ⟨rfl,rfl⟩
variable {es0 es:List dH} {lit:Int} {dG forced:Key} {cz kl:List Nat} {i:Nat} {wl:Nat->List Nat}
theorem jQ.nd (h:jQ es0 lit dG cz i es wl kl forced) (a:dV lit) (b:i < cz.length):(kl ++ cz[i] :: cz.drop (i + 1)).Nodup:=by
 have:=h.gG.nodup _ (gz a);simp only [if_true] at this;rw [drop_at b] at this;exact this
theorem jQ.IW (h:jQ es0 lit dG cz i es wl kl forced) (c:dV lit) (d:i < cz.length):cz[i] ∉ kl ++ cz.drop (i + 1):=by
 have:=h.nd c d;rw [List.nodup_append] at this;obtain ⟨_,b,e⟩:=this;rw [List.nodup_cons] at b;intro a
 rcases List.mem_append.1 a with a | a
 ·exact e _ a _ (List.mem_cons_self ..) rfl
 ·exact b.1 a
theorem jQ.pair (h:jQ es0 lit dG cz i es wl kl forced) (a:dV lit) (k:i < cz.length):∃ (c:cz[i] < es.length) (b:Int),2 <= (es[cz[i]]).set.size/\b ≠ lit/\dV b/\(es[cz[i]]).set.has lit=true/\(es[cz[i]]).set.has b=true/\(es[cz[i]]).watched=(single lit).un (single b)/\cz[i] ∈ wl (place b):=by
 obtain ⟨c,b,o,g,f,n,m,l,d⟩:=h.gG.pair a (j:=cz[i]) (by
  show cz[i] ∈ (if place lit=place lit then kl ++ cz.drop i else wl (place lit))
  rw [if_pos rfl,drop_at k];exact List.mem_append_right _ (List.mem_cons_self ..))
 have:place b ≠ place lit:=fun e=>g (jS f a e)
 rw [if_neg this] at d;exact ⟨c,b,o,g,f,n,m,l,d⟩
theorem jQ.move (h:jQ es0 lit dG cz i es wl kl forced) (E:i < cz.length) (v:dV lit) {c:Int} (C:dV c) (J:cz[i] < es.length) (R:(es[cz[i]]).set.has c=true) (X:c ≠ lit) (t:(es[cz[i]]).watched.has c=false) (G:(dG.un forced).has (-c)=false):
  jQ es0 lit dG cz (i + 1) (eO es cz[i] (((es[cz[i]]).watched.wo (single lit)).un (single c))) (fun k=>if k=place c then wl k ++ [cz[i]] else wl k) kl forced:=by
 obtain ⟨_,b,F,I,q,ad,hb,r,W⟩:=h.pair v E;have S:=h.IW v E;have T:=h.nd v E;have Y:c ≠ b:=fun e=>by
  rw [r,dE,df (dw v),df (dw q),e] at t;simp at t
 have Q:((es[cz[i]]).watched.wo (single lit)).un (single c)=(single b).un (single c):=kz fun x=>by
  rw [dE,dE,jN,r,dE,df (dw v),df (dw q)];by_cases M:x=lit
  ·subst M;have e2:¬ x=b:=fun e=>I e.symm
   simp [e2]
  ·simp [M]
 rw [Q];have pl:place b ≠ place lit:=fun e=>I (jS q v e)
 have N:place c ≠ place lit:=fun e=>X (jS C v e)
 have len:∀ {j},j < (eO es cz[i] ((single b).un (single c))).length->j < es.length:=fun h=>by rwa [gM] at h
 have hW:∀ k,k ≠ place lit->∀ x,x ∈ wl k->x ∈ (if k=place lit then kl ++ cz.drop (i + 1) else if k=place c then wl k ++ [cz[i]] else wl k):=fun k A x g=>by
  rw [if_neg A];split
  ·exact List.mem_append_left _ g
  ·exact g
 have hO:∀ k x,x ≠ cz[i]->x ∈ (if k=place lit then kl ++ cz.drop i else wl k)->x ∈ (if k=place lit then kl ++ cz.drop (i + 1) else if k=place c then wl k ++ [cz[i]] else wl k):=fun k x s g=>by
  by_cases e:k=place lit
  ·rw [if_pos e] at g ⊢;rw [drop_at E] at g
   rcases List.mem_append.1 g with g | g
   ·exact List.mem_append_left _ g
   ·rcases List.mem_cons.1 g with g | g
    ·exact absurd g s
    ·exact List.mem_append_right _ g
  ·rw [if_neg e] at g;exact hW k e x g
 exact {
  same:=by rw [Gj];exact h.same
  gG:={
   two:=fun j f p=>by
    have d:=len f;obtain ⟨ac,ae⟩:=qZ es cz[i] ((single b).un (single c)) j f d;rw [ac] at p ⊢;by_cases e:j=cz[i]
    ·subst e;refine ⟨b,c,fun e=>Y e.symm,q,C,hb,R,by rw [jL _ _ _ f d],hW _ pl _ W,?_⟩;show _ ∈ (if place c=place lit then kl ++ cz.drop (i + 1) else if place c=place c then wl (place c) ++ [cz[i]] else wl (place c))
     rw [if_neg N,if_pos rfl];simp
    ·obtain ⟨a,b',aa,ia,O,ha,Z,P,ja,jb⟩:=h.gG.two j d p;exact ⟨a,b',aa,ia,O,ha,Z,by rw [jc _ _ _ _ e f d];exact P,hO _ _ e ja,hO _ _ e jb⟩
   one:=fun j f p=>by
    have d:=len f;rw [(qZ es cz[i] ((single b).un (single c)) j f d).1] at p;by_cases e:j=cz[i]
    ·subst e;exact absurd F p
    ·rw [jc _ _ _ _ e f d];exact h.gG.one j d p
   lists:=fun k A j m=>by
    have m:j ∈ (if k=place lit then kl ++ cz.drop (i + 1) else if k=place c then wl k ++ [cz[i]] else wl k):=m;by_cases e:k=place lit
    ·rw [if_pos e] at m;have s:j ≠ cz[i]:=fun e=>S (e ▸ m)
     obtain ⟨d,p,l,D,z,o⟩:=h.gG.lists k A j (by
      show j ∈ (if k=place lit then kl ++ cz.drop i else wl k)
      rw [if_pos e,drop_at E]
      rcases List.mem_append.1 m with g | g
      ·exact List.mem_append_left _ g
      ·exact List.mem_append_right _ (List.mem_cons_of_mem _ g))
     have f:j < (eO es cz[i] ((single b).un (single c))).length:=by rw [gM];exact d
     exact ⟨f,by rw [jc _ _ _ _ s f d];exact p,l,D,z,by rw [jc _ _ _ _ s f d];exact o⟩
    ·rw [if_neg e] at m;by_cases K:j=cz[i]
     ·subst K;have f:cz[i] < (eO es cz[i] ((single b).un (single c))).length:=by rw [gM];exact J
      refine ⟨f,by rw [jL _ _ _ f J];exact F,?_⟩;by_cases L:k=place c
      ·exact ⟨c,C,L.symm,by rw [jL _ _ _ f J];show ((single b).un (single c)).has c=true;rw [dE,df (dw C)];simp⟩
      ·rw [if_neg L] at m;obtain ⟨_,_,l,D,z,o⟩:=h.gG.lists k A _ (by
        show cz[i] ∈ (if k=place lit then kl ++ cz.drop i else wl k)
        rw [if_neg e];exact m)
       rw [r,dE,df (dw v),df (dw q)] at o;simp only [Bool.or_eq_true,decide_eq_true_eq] at o
       rcases o with o | o
       ·exact absurd (by rw [<- z,o]) e
       ·exact ⟨b,q,by rw [<- o];exact z,by rw [jL _ _ _ f J];show ((single b).un (single c)).has b=true;rw [dE,df (dw q)];simp⟩
     ·have U:j ∈ wl k:=by
       split at m
       ·rcases List.mem_append.1 m with g | g
        ·exact g
        ·simp at g;exact absurd g K
       ·exact m
      obtain ⟨d,p,l,D,z,o⟩:=h.gG.lists k A j (by
       show j ∈ (if k=place lit then kl ++ cz.drop i else wl k)
       rw [if_neg e];exact U)
      have f:j < (eO es cz[i] ((single b).un (single c))).length:=by rw [gM];exact d
      exact ⟨f,by rw [jc _ _ _ _ K f d];exact p,l,D,z,by rw [jc _ _ _ _ K f d];exact o⟩
   nodup:=fun k A=>by
    show (if k=place lit then kl ++ cz.drop (i + 1) else if k=place c then wl k ++ [cz[i]] else wl k).Nodup
    have H:=h.gG.nodup k A;by_cases e:k=place lit
    ·rw [if_pos e];exact T.sublist ((List.Sublist.refl kl).append (List.sublist_cons_self _ _))
    ·rw [if_neg e];have H:(if k=place lit then kl ++ cz.drop i else wl k).Nodup:=H;rw [if_neg e] at H;split
     ·rename_i L;refine List.nodup_append.2 ⟨H,by simp,fun x g y hy=>?_⟩;simp at hy;subst hy;intro ab;rw [ab] at g;obtain ⟨_,_,l,D,z,o⟩:=h.gG.lists k A cz[i] (by
       show cz[i] ∈ (if k=place lit then kl ++ cz.drop i else wl k)
       rw [if_neg e];exact g)
      have:l=c:=jS D C (z.trans L);rw [this] at o
      first | (rw [t] at o;cases o) | (simp [t] at o)
     ·exact H
   ok:=fun e he=>by
    obtain ⟨j,f,rfl⟩:=List.getElem_of_mem he;rw [(qZ es cz[i] _ j f (len f)).1];exact h.gG.ok _ (List.getElem_mem _) }
  old:=fun j h0 f l n=>by
   have d:=len f;by_cases e:j=cz[i]
   ·subst e;rw [jL _ _ _ f d] at n;have n:((single b).un (single c)).has l=true:=n;rw [dE,df (dw q),df (dw C)] at n;simp only [Bool.or_eq_true,decide_eq_true_eq] at n
    rcases n with e | e
    ·exact h.old _ h0 d l (by rw [r,dE,df (dw q),e];simp)
    ·subst e;rw [dE,Bool.or_eq_false_iff] at G;exact .inr G.1
   ·rw [jc _ _ _ _ e f d] at n;exact h.old _ h0 d l n
  sound:=h.sound
  kept:=fun j V f ht=>by
   have d:=len f;obtain ⟨M,e2⟩:=qZ es cz[i] ((single b).un (single c)) j f d;rw [M];rw [e2] at ht;exact h.kept j V d ht
  cons:=h.cons
  fresh:=h.fresh
  EN:=h.EN
  oK:=Nat.le_succ_of_le h.oK
  uX:=E }
end
section
open Go Go.RowKit Go.Deep
section
variable {B sb mb:Nat} {w w':World} {cv:Value} {gone:Int} {u:Key} {wv:Nat->Value} {es:List dH} {wl:Nat->List Nat}
theorem Kc (b:List Nat) (i a:Nat):fq (b.set i a)=(fq b).set i (.int .i64 (a:Int)):=by unfold fq;rw [List.map_set]
theorem gQ (a:List Nat):(fq a).length=a.length:=by unfold fq;simp
theorem eG.Ut (h:eG B sb w cv mb gone u wv es wl) {p b n cap:Nat} (f:p < 128) (c:wv p=.slice (some ⟨b,0,none⟩) n cap):∃ a,w.heap[b]? = some (.cells a 3 (0,0))/\B <= b/\n=(wl p).length/\n <= cap:=by
 rcases (h.mr p f).2 with ⟨e,_⟩ | ⟨g,d,a,e,l,k,j,_⟩
 ·rw [c] at e;cases e
 ·rw [c] at e;cases e;exact ⟨a,k,l,rfl,j⟩
theorem eG.VW (h:eG B sb w cv mb gone u wv es wl) {p f n cap:Nat} (s:p < 128) (q:wv p=.slice (some ⟨f,0,none⟩) n cap):sb ≠ f/\mb ≠ f/\(∀ g,cv.ownBlock=some g->g ≠ f)/\∀ k,k < 128->k ≠ p->∀ g,(wv k).ownBlock=some g->g ≠ f:=by
 obtain ⟨y,l,_⟩:=h.Ut s q;refine ⟨fun e=>?_,fun e=>h.map.gP (by rw [e];exact l),fun g a e=>?_,fun k x j g b e=>?_⟩
 ·obtain ⟨c,r,_⟩:=h.row;rw [e,l] at r;cases r
 ·rcases h.cls.2 with ⟨o,_⟩ | ⟨z,v,t,o,_,d,_⟩
  ·rw [o] at a;cases a
  ·rw [o] at a;cases a;simp only at e;rw [e,l] at d;cases d
 ·rcases h.apart k p x s j with m | m
  ·rw [m] at b;cases b
  ·exact m (by rw [b,q,e];rfl)
theorem eG.Ja {p l n cap:Nat} {c:List Nat} {d:World} (h:eG B sb w cv mb gone u wv es wl) (o:p < 128) (m:wv p=.slice (some ⟨l,0,none⟩) n cap)
  (b:d.ownsRow B 3 1 (wv p) c.length (fq c)) (a:∀ k,k ≠ l->d.heap[k]? = w.heap[k]?):eG B sb d cv mb gone u wv es (fun k=>if k=p then c else wl k):=by
 obtain ⟨t,s,r,q⟩:=h.VW o m;exact {
  row:=h.row.of_block (a _ t)
  cls:=fT h.cls fun g f=>a g (r g f)
  map:=h.map.kept (a _ s)
  mr:=fun k j=>by
   by_cases e:k=p
   ·subst e;simp only [if_true];exact b
   ·simp only [e,if_false];exact fT (h.mr k j) fun g f=>a g (q k j e g f)
  apart:=h.apart
  jA:=h.jA
  yR:=h.yR }
theorem eG.Vu {p e n cap i a:Nat} (h:eG B sb w cv mb gone u wv es wl) (c:p < 128) (b:wv p=.slice (some ⟨e,0,none⟩) n cap):
  eG B sb (w.setCell ⟨e,i,none⟩ (.int .i64 (a:Int))) cv mb gone u wv es (fun k=>if k=p then (wl p).set i a else wl k):=by
 refine h.Ja c b ?_ (fun k g=>Below.heap_setCell _ _ _ _ g);rw [Kc,List.length_set];have d:=h.mr p c;obtain ⟨_,_,_,f,_⟩:=h.Ut c b;rw [b,f] at d ⊢;exact (d.stored i _).1
theorem eG.TC {p b n cap:Nat} (h:eG B sb w cv mb gone u wv es wl) (f:p < 128) (d:wv p=.slice (some ⟨b,0,none⟩) n cap) (i:Nat) (x:Value):di w (w.setCell ⟨b,i,none⟩ x):=fun k g=>Below.heap_setCell _ _ _ _ (fun e=>by
 obtain ⟨m,j,_⟩:=h.Ut f d;obtain ⟨c,t,a,_,_,l⟩:=g;simp only at e;rw [e,j] at a;cases a;exact l rfl)
theorem xU (a:List Nat) (i:Nat):fq (a.take i)=(fq a).take i:=by unfold fq;rw [List.map_take]
theorem J4 {w:World} {B e:Nat} {a:Option Addr} {n k cap:Nat} {d:List Value} (h:w.ownsRow B e 1 (.slice a n cap) n d) (s:k <= n):w.ownsRow B e 1 (.slice a k cap) k (d.take k):=by
 have o:=h.1;refine ⟨by rw [List.length_take,o];omega,?_⟩
 rcases h.2 with ⟨b,t⟩ | ⟨g,f,c,b,q,p,r,m,l,j⟩
 ·cases b
  have:k=0:=by omega
  subst this;exact .inl ⟨rfl,rfl⟩
 ·cases b
  refine .inr ⟨g,cap,c,rfl,q,p,by omega,m,l,?_⟩;rw [<- j,List.take_take];congr 1;omega
theorem eG.U0 {p n cap k0:Nat} {a:Option Addr} (h:eG B sb w cv mb gone u wv es wl) (o:p < 128) (f:wv p=.slice a n cap) (j:k0 <= (wl p).length):
  eG B sb (w.setCell ⟨sb,5 + p,none⟩ (.slice a k0 cap)) cv mb gone u (fun k=>if k=p then .slice a k0 cap else wv k) es (fun k=>if k=p then (wl p).take k0 else wl k):=by
 have d:=h.mr p o;have q:n=(wl p).length:=by
  obtain ⟨v,t,e⟩:=dI d;rw [f] at e;cases e;rfl
 have own:w.ownsRow B 3 1 (.slice a k0 cap) k0 (fq ((wl p).take k0)):=by
  rw [xU];rw [f,q] at d;exact J4 d j
 have c:(Value.slice a k0 cap).ownBlock=(wv p).ownBlock:=by rw [f];cases a <;> rfl
 have r:((wl p).take k0).length=k0:=by rw [List.length_take];omega
 exact {
  row:=(h.row.set (5 + p) _).congr fun i s=>by
   match i with
   | 0=>rw [if_neg (by omega)];rfl
   | 1=>rw [if_neg (by omega)];rfl
   | 2=>rw [if_neg (by omega)];rfl
   | 3=>rw [if_neg (by omega)];rfl
   | 4=>rw [if_neg (by omega)];rfl
   | k + 5=>
    by_cases e:k=p
    ·subst e;simp [iH,Nat.add_comm]
    ·have:¬ (k + 5=5 + p):=by omega
     simp [iH,this,e]
  cls:=ownsRow_setCell_other h.cls (fun e=>h.iF.2.1 sb e rfl) _
  map:=h.map.kept (Below.heap_setCell _ _ _ _ h.iF.1)
  mr:=fun k b=>by
   by_cases e:k=p
   ·subst e;simp only [if_true];rw [r];exact ownsRow_setCell_other own (fun e=>h.iF.2.2 k b sb (by rw [<- c];exact e) rfl) _
   ·simp only [e,if_false];exact ownsRow_setCell_other (h.mr k b) (fun e=>h.iF.2.2 k b sb e rfl) _
  apart:=fun k m j b g=>by
   have l:∀ x,(if x=p then Value.slice a k0 cap else wv x).ownBlock=(wv x).ownBlock:=fun x=>by
    split
    ·rename_i e;rw [e];exact c
    ·rfl
   rw [l,l];exact h.apart k m j b g
  jA:=h.jA
  yR:=h.yR }
def mix (kl cz:List Nat):List Nat:=kl ++ cz.drop kl.length
theorem Cn (cz:List Nat):mix [] cz=cz:=rfl
theorem fO {kl cz:List Nat} (h:kl.length <= cz.length):(mix kl cz).length=cz.length:=by unfold mix;simp;omega
theorem GV {kl cz:List Nat} {i:Nat} (h:kl.length <= i) (b:i < cz.length) (a:i < (mix kl cz).length):(mix kl cz)[i]=cz[i]:=by
 simp only [mix];rw [List.getElem_append_right h,List.getElem_drop]
 congr 1;omega
theorem Cm {kl cz:List Nat} {a:Nat} (h:kl.length < cz.length):(mix kl cz).set kl.length a=mix (kl ++ [a]) cz:=by
 unfold mix;rw [List.set_append_right _ _ lr,Nat.sub_self,drop_at h,List.set_cons_zero];simp
theorem qI {kl cz:List Nat}:(mix kl cz).take kl.length=kl:=by unfold mix;simp
end
end
end Rd
end Go.Proofs.YtceahffmenbibaaGreatDoor
