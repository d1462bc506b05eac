/- Qsto Qchk. -/
import Derived.Test.YtceahffmenbibaaGreatDoorJ19
import Derived.Test.YtceahffmenbibaaGreatDoorJ12
set_option linter.unusedVariables false
set_option linter.unusedSimpArgs false
namespace Go.Proofs.YtceahffmenbibaaGreatDoor
namespace Rd
section
theorem rC {es:List dH} {s:Key}:look es s=none↔∀ e ∈ es,e.set ≠ s:=by
 unfold look;rw [List.findIdx?_eq_none_iff];constructor
 ·intro h e a;have:=h e a;simpa using this
 ·intro h e a;simpa using h e a
structure jw (es:List dH) (wl:Nat->List Nat) (u:Key) (L:List Cl):Prop where
 gG:eU es wl
 oU:(es.map dH.set).Nodup
 cnt:∀ e ∈ es,e.times=L.countP (fun d=>decide (setOf d=e.set))
 all:∀ d ∈ L,∃ e ∈ es,e.set=setOf d
 lits:∀ c ∈ L,∀ l ∈ c,gH l
 iW:qc es u
variable {es es':List dH} {wl jU:Nat->List Nat} {u:Key} {L:List Cl} {c:Cl}
theorem jw.rep (h:jw es wl u L):Lg es L where
 Vj:=fun e b f=>by
  rw [h.cnt e b] at f;obtain ⟨d,hd,a⟩:=List.countP_pos_iff.1 f;exact ⟨d,hd,of_decide_eq_true a⟩
 from':=fun d hd=>by
  obtain ⟨e,b,a⟩:=h.all d hd;refine ⟨e,b,?_,a⟩;rw [h.cnt e b];exact List.countP_pos_iff.2 ⟨d,hd,by rw [a];simp⟩
 lits:=h.lits
theorem su (h:sigs es'=sigs es) (m:qc es u):qc es' u:=⟨m.ok,fun l n=>by
 rw [m.iff l n];constructor
 ·rintro ⟨e,b,f,d⟩;obtain ⟨j,a,i,g⟩:=jW h.symm b;exact ⟨j,a,by rw [g];exact f,by rw [i];exact d⟩
 ·rintro ⟨e,b,f,d⟩;obtain ⟨j,a,i,g⟩:=jW h b;exact ⟨j,a,by rw [g];exact f,by rw [i];exact d⟩⟩
theorem rq (es:List dH):es.map dH.set=(sigs es).map Prod.fst:=by unfold sigs;rw [List.map_map];rfl
theorem jw.same (h:jw es wl u L) (b:sigs es'=sigs es) (l:eU es' jU):jw es' jU u L where
 gG:=l
 oU:=by rw [rq,b,<- rq];exact h.oU
 cnt:=fun e f=>by
  obtain ⟨i,a,g,j⟩:=jW b f;rw [<- j,<- g];exact h.cnt i a
 all:=fun d hd=>by
  obtain ⟨e,f,m⟩:=h.all d hd;obtain ⟨i,a,g,j⟩:=jW b.symm f;exact ⟨i,a,by rw [g];exact m⟩
 lits:=h.lits
 iW:=su b h.iW
theorem ug (h:(es.map dH.set).Nodup) {i j:Nat} (b:i < es.length) (a:j < es.length) (e:(es[i]).set=(es[j]).set):i=j:=by
 have d:(es.map dH.set)[i]'(by simpa using b)=(es.map dH.set)[j]'(by simpa using a):=by simpa using e
 exact (List.getElem_inj h).1 d
theorem Ql (h:(es.map dH.set).Nodup) {i:Nat} (a:i < es.length):look es (es[i]).set=some i:=by
 cases e:look es (es[i]).set with
 | none=>exact absurd rfl (rC.1 e _ (List.getElem_mem a))
 | some j=>
  obtain ⟨d,b⟩:=mG e;rw [ug h d a b]
theorem zZ (h:(es.map dH.set).Nodup) (s:Key):there es s=true↔∃ e ∈ es,0 < e.times/\e.set=s:=by
 unfold there;constructor
 ·intro a
  cases e:look es s with
  | none=>rw [e] at a;cases a
  | some i=>
   rw [e] at a;obtain ⟨b,d⟩:=mG e;simp only [List.getElem?_eq_getElem b] at a;exact ⟨_,List.getElem_mem b,of_decide_eq_true a,d⟩
 ·rintro ⟨e,f,a,d⟩;obtain ⟨i,b,rfl⟩:=List.mem_iff_getElem.1 f;rw [<- d,Ql h b];simp only [List.getElem?_eq_getElem b];exact decide_eq_true a
theorem vI (h:(es.map dH.set).Nodup):there es (0,0)=false↔mh es:=by
 rw [<- Bool.not_eq_true,zZ h];constructor
 ·intro b e d a f;exact b ⟨e,d,a,f⟩
 ·rintro b ⟨e,d,a,f⟩;exact b e d a f
theorem CX {s:Key} (d:s.ok) (h:2 <= s.size):dV (aL s)/\dV (bL s)/\aL s ≠ bL s/\s.has (aL s)=true/\s.has (bL s)=true:=by
 have j:s ≠ (0,0):=by
  obtain ⟨a,b,_,i,_⟩:=size_two d h;exact (jq s).2 ⟨a,i⟩
 obtain ⟨_,p2,p3⟩:=mE d j;obtain ⟨_,f,g⟩:=mE (qi d _) (qD d h (dw p3));rw [jN,Bool.and_eq_true,Bool.not_eq_true',df (dw p3)] at f;exact ⟨p3,g,fun e=>by have:=f.2;unfold aL bL at e;rw [<- e] at this;simp at this,p2,f.1⟩
theorem oQ {wl:Nat->List Nat} {s:Key} {n:Nat} (i:s.ok) (h:2 <= s.size) (k:Nat):iG wl s n k=if k=place (aL s)\/k=place (bL s) then wl k ++ [n] else wl k:=by
 obtain ⟨g,f,d,_,_⟩:=CX i h;have j:place (bL s) ≠ place (aL s):=fun e=>d (jS g f e.symm)
 unfold iG;rw [if_pos h];simp only [j,if_false];by_cases b:k=place (bL s)
 ·rw [if_pos b,if_pos (.inr b),b]
 ·rw [if_neg b];by_cases a:k=place (aL s)
  ·rw [if_pos a,if_pos (.inl a),a]
  ·rw [if_neg a,if_neg (by rintro (h | h);exact a h;exact b h)]
theorem yw (s:Key):(dZ s).set=s:=by unfold dZ;dsimp only
theorem eU.TG (h:eU es wl) {s:Key} {E:dH} (n:s.ok) (i:E.set=s) (p:E.watched=(dZ s).watched):eU (es ++ [E]) (iG wl s es.length):=by
 have y:∀ j (f:j < (es ++ [E]).length),(∃ m:j < es.length,(es ++ [E])[j]=es[j])\/(j=es.length/\(es ++ [E])[j]=E):=fun j f=>by
  rcases Nat.lt_or_ge j es.length with m | m
  ·exact .inl ⟨m,List.getElem_append_left m⟩
  ·have:j=es.length:=by simp at f;omega
   subst this;exact .inr ⟨rfl,by simp⟩
 have sub:∀ k x,x ∈ wl k->x ∈ iG wl s es.length k:=fun k x D=>by
  by_cases d:2 <= s.size
  ·rw [oQ n d];split
   ·exact List.mem_append_left _ D
   ·exact D
  ·unfold iG;rw [if_neg d];exact D
 exact {
  two:=fun j f d=>by
   rcases y j f with ⟨m,e⟩ | ⟨rfl,e⟩
   ·rw [e] at d ⊢;obtain ⟨a,b,J,I,H,G,P,O,N,M⟩:=h.two j m d;exact ⟨a,b,J,I,H,G,P,O,sub _ _ N,sub _ _ M⟩
   ·rw [e] at d ⊢;have g:2 <= s.size:=by rw [i] at d;exact d
    obtain ⟨A,z,w,C,B⟩:=CX n g;refine ⟨aL s,bL s,w,A,z,by rw [i];exact C,by rw [i];exact B,?_,?_,?_⟩
    ·rw [p];unfold dZ;simp only [if_pos g]
    ·rw [oQ n g,if_pos (.inl rfl)];simp
    ·rw [oQ n g,if_pos (.inr rfl)];simp
  one:=fun j f d=>by
   rcases y j f with ⟨m,e⟩ | ⟨rfl,e⟩
   ·rw [e] at d ⊢;exact h.one j m d
   ·rw [e] at d ⊢;have g:¬ 2 <= s.size:=by rw [i] at d;exact d
    rw [p];unfold dZ;simp only [if_neg g]
  lists:=fun k q j f=>by
   have o:j ∈ wl k->∃ h:j < (es ++ [E]).length,2 <= ((es ++ [E])[j]).set.size/\∃ l,dV l/\place l=k/\((es ++ [E])[j]).watched.has l=true:=fun f=>by
    obtain ⟨m,J,l,I,H,G⟩:=h.lists k q j f;refine ⟨by simp;omega,?_⟩;rw [List.getElem_append_left m];exact ⟨J,l,I,H,G⟩
   by_cases d:2 <= s.size
   ·rw [oQ n d] at f;split at f
    ·rename_i F
     rcases List.mem_append.1 f with f | f
     ·exact o f
     ·obtain rfl:j=es.length:=by simpa using f
      obtain ⟨A,z,w,C,B⟩:=CX n d;refine ⟨by simp,?_⟩;rw [show (es ++ [E])[es.length]'(by simp)=E by simp];refine ⟨by rw [i];exact d,?_⟩;have K:E.watched=(single (aL s)).un (single (bL s)):=by
       rw [p];unfold dZ;simp only [if_pos d]
      rcases F with e | e
      ·exact ⟨aL s,A,e.symm,by rw [K,dE,df (dw A)];simp⟩
      ·exact ⟨bL s,z,e.symm,by rw [K,dE,df (dw z)];simp⟩
    ·exact o f
   ·unfold iG at f;rw [if_neg d] at f;exact o f
  nodup:=fun k q=>by
   by_cases d:2 <= s.size
   ·rw [oQ n d];split
    ·rw [List.nodup_append];refine ⟨h.nodup k q,by simp,fun a C b B e=>?_⟩;obtain ⟨m,_⟩:=h.lists k q a C;have:b=es.length:=by simpa using B
     omega
    ·exact h.nodup k q
   ·unfold iG;rw [if_neg d];exact h.nodup k q
  ok:=fun e t=>by
   rcases List.mem_append.1 t with t | t
   ·exact h.ok e t
   ·obtain rfl:e=E:=by simpa using t
    rw [i];exact n }
theorem eU.enter (h:eU es wl) {s:Key} (a:s.ok) (t:Nat):eU (es ++ [{ dZ s with times:=t }]) (iG wl s es.length):=by
 refine h.TG a ?_ ?_
 ·dsimp only;exact yw s
 ·dsimp only
theorem GL {s:Key} (h:(es.map dH.set).Nodup) (f:look es s=none) (t:Nat):((es ++ [{ dZ s with times:=t }]).map dH.set).Nodup:=by
 rw [List.map_append,List.nodup_append];refine ⟨h,by simp,fun a i b g e=>?_⟩;obtain ⟨x,d,rfl⟩:=List.mem_map.1 i;have:b=s:=by simpa [dZ] using g
 exact rC.1 f x d (by rw [e,this])
theorem Ck (es:List dH) (i:Nat) (f:dH->dH) {e:dH} (b:e ∈ es.modify i f):(∃ j,∃ a:j < es.length,j ≠ i/\e=es[j])\/∃ d:i < es.length,e=f es[i]:=by
 obtain ⟨j,a,rfl⟩:=List.mem_iff_getElem.1 b;rw [List.length_modify] at a;rw [List.getElem_modify];split
 ·rename_i h;subst h;exact .inr ⟨a,rfl⟩
 ·rename_i h;exact .inl ⟨j,a,fun e=>h e.symm,rfl⟩
theorem lh (es:List dH) (i:Nat) (f:dH->dH) {j:Nat} (b:j < es.length) (a:j ≠ i):es[j] ∈ es.modify i f:=by
 refine List.mem_iff_getElem.2 ⟨j,by rw [List.length_modify];exact b,?_⟩;rw [List.getElem_modify,if_neg (fun e=>a e.symm)]
theorem kr (es:List dH) (i:Nat) (f:dH->dH) (a:i < es.length):f es[i] ∈ es.modify i f:=by
 refine List.mem_iff_getElem.2 ⟨i,by rw [List.length_modify];exact a,?_⟩;rw [List.getElem_modify,if_pos rfl]
theorem eU.times (h:eU es wl) (p:es'.length=es.length) (g:∀ j (h:j < es.length) (h':j < es'.length),(es'[j]).set=(es[j]).set/\(es'[j]).watched=(es[j]).watched):eU es' wl where
 two:=fun j a b=>by
  obtain ⟨f,d⟩:=g j (by omega) a;rw [f] at b ⊢;rw [d];exact h.two j (by omega) b
 one:=fun j a b=>by
  obtain ⟨f,d⟩:=g j (by omega) a;rw [f] at b;rw [d];exact h.one j (by omega) b
 lists:=fun k i j a=>by
  obtain ⟨o,n,m⟩:=h.lists k i j a;obtain ⟨f,d⟩:=g j o (by omega);exact ⟨by omega,by rw [f];exact n,by rw [d];exact m⟩
 nodup:=h.nodup
 ok:=fun e l=>by
  obtain ⟨j,a,rfl⟩:=List.mem_iff_getElem.1 l;rw [(g j (by omega) a).1];exact h.ok _ (List.getElem_mem _)
theorem eU.UO (h:eU es wl) (i:Nat) (f:Nat->Nat):eU (es.modify i (fun e=>{ e with times:=f e.times })) wl:=by
 refine h.times (by simp) fun j a b=>?_
 rw [List.getElem_modify];split <;> exact ⟨rfl,rfl⟩
theorem Bf (i:Nat) (f:Nat->Nat):(es.modify i (fun e=>{ e with times:=f e.times })).map dH.set=es.map dH.set:=by
 refine List.ext_getElem? fun j=>?_
 rw [List.getElem?_map,List.getElem?_map,List.getElem?_modify];split <;> cases es[j]? <;> rfl
theorem jR (b:∀ l ∈ c,gH l):(setOf c).ok:=xC fun l a=>kE (b l a)
theorem Fs (L:List Cl) (c:Cl) (s:Key):(L ++ [c]).countP (fun d=>decide (setOf d=s))=L.countP (fun d=>decide (setOf d=s)) + (if setOf c=s then 1 else 0):=by
 rw [List.countP_append]
 congr 1
 by_cases h:setOf c=s <;> simp [h]
theorem vL {l:Int} (h:dV l):(single l).size=1:=by
 rcases Nat.lt_trichotomy (single l).size 1 with d | d | d
 ·have:=uI (fE h) (by omega);have i:(single l).has l=true:=by rw [df (dw h)];simp
  rw [this,ek] at i;cases i
 ·exact d
 ·obtain ⟨a,b,e,g,f⟩:=size_two (fE h) d;rw [df (dw h)] at g f;exact absurd ((of_decide_eq_true g).trans (of_decide_eq_true f).symm) e
theorem DW {a b:Int} (f:dV a) (e:dV b) (h:single a=single b):a=b:=by
 have d:(single a).has a=true:=by rw [df (dw f)];simp
 rw [h,df (dw e)] at d;exact of_decide_eq_true d
theorem jw.add (h:jw es wl u L) (F:∀ l ∈ c,gH l):jw (uy es (setOf c)) (zN es wl (setOf c)) (if (setOf c).size=1 then u.un (setOf c) else u) (L ++ [c]):=by
 have p:=jR F;have n:∀ d ∈ L ++ [c],∀ l ∈ d,gH l:=fun d hd=>by
  rcases List.mem_append.1 hd with hd | hd
  ·exact h.lits d hd
  ·obtain rfl:d=c:=by simpa using hd
   exact F
 have un:∀ w:List dH,(∀ s,(∃ e ∈ w,0 < e.times/\e.set=s)↔(∃ e ∈ es,0 < e.times/\e.set=s)\/s=setOf c)->qc w (if (setOf c).size=1 then u.un (setOf c) else u):=fun w H=>by
  refine ⟨?_,fun l B=>?_⟩
  ·split
   ·exact qm h.iW.ok p
   ·exact h.iW.ok
  ·rw [H,<- h.iW.iff l B];split
   ·rename_i b;obtain ⟨m,G,E⟩:=tJ p b;rw [dE,Bool.or_eq_true];constructor
    ·rintro (f | f)
     ·exact .inl f
     ·rw [E,df (dw G)] at f;rw [of_decide_eq_true f];exact .inr E.symm
    ·rintro (f | f)
     ·exact .inl f
     ·exact .inr (by rw [<- f,df (dw B)];simp)
   ·rename_i b;constructor
    ·exact .inl
    ·rintro (f | f)
     ·exact f
     ·exact absurd (by rw [<- f];exact vL B) b
 cases t:look es (setOf c) with
 | none=>
  have D:uy es (setOf c)=es ++ [{ dZ (setOf c) with times:=1 }]:=by unfold uy;rw [t]
  have C:zN es wl (setOf c)=iG wl (setOf c) es.length:=by unfold zN;rw [t]
  rw [D,C];have y:=rC.1 t;exact {
   gG:=h.gG.enter p 1
   oU:=GL h.oU t 1
   cnt:=fun e a=>by
    rw [Fs]
    rcases List.mem_append.1 a with a | a
    ·rw [if_neg (fun h=>y e a h.symm),h.cnt e a];rfl
    ·obtain rfl:e=_:=by simpa using a
     show 1=L.countP (fun d=>decide (setOf d=setOf c)) + (if setOf c=setOf c then 1 else 0)
     rw [if_pos rfl];have:L.countP (fun d=>decide (setOf d=setOf c))=0:=by
      rw [List.countP_eq_zero];intro d hd g;obtain ⟨e,a,b⟩:=h.all d hd;exact y e a (b.trans (of_decide_eq_true g))
     omega
   all:=fun d hd=>by
    rcases List.mem_append.1 hd with hd | hd
    ·obtain ⟨e,a,b⟩:=h.all d hd;exact ⟨e,List.mem_append_left _ a,b⟩
    ·obtain rfl:d=c:=by simpa using hd
     exact ⟨_,List.mem_append_right _ (List.mem_singleton.2 rfl),rfl⟩
   lits:=n
   iW:=un _ fun s=>by
    constructor
    ·rintro ⟨e,a,q,g⟩
     rcases List.mem_append.1 a with a | a
     ·exact .inl ⟨e,a,q,g⟩
     ·obtain rfl:e=_:=by simpa using a
      exact .inr g.symm
    ·rintro (⟨e,a,q,g⟩ | rfl)
     ·exact ⟨e,List.mem_append_left _ a,q,g⟩
     ·exact ⟨_,List.mem_append_right _ (List.mem_singleton.2 rfl),Nat.one_pos,rfl⟩ }
 | some i=>
  have D:uy es (setOf c)=es.modify i (fun e=>{ e with times:=e.times + 1 }):=by unfold uy;rw [t]
  have C:zN es wl (setOf c)=wl:=by unfold zN;rw [t]
  rw [D,C];obtain ⟨A,g⟩:=mG t;exact {
   gG:=h.gG.UO i (· + 1)
   oU:=by rw [Bf i (· + 1)];exact h.oU
   cnt:=fun e a=>by
    rw [Fs]
    rcases Ck es i _ a with ⟨j,o,z,rfl⟩ | ⟨_,rfl⟩
    ·rw [if_neg (fun f=>z (ug h.oU o A (by rw [g];exact f.symm))),h.cnt _ (List.getElem_mem o)];rfl
    ·show (es[i]).times + 1=L.countP (fun d=>decide (setOf d=(es[i]).set)) + (if setOf c=(es[i]).set then 1 else 0)
     rw [if_pos g.symm,h.cnt _ (List.getElem_mem A)]
   all:=fun d hd=>by
    have x:∀ s,(∃ e ∈ es,e.set=s)->∃ e ∈ es.modify i (fun e=>{ e with times:=e.times + 1 }),e.set=s:=by
     rintro s ⟨e,a,b⟩;obtain ⟨j,o,rfl⟩:=List.mem_iff_getElem.1 a;by_cases e:j=i
     ·subst e;exact ⟨_,kr es j _ o,b⟩
     ·exact ⟨_,lh es i _ o e,b⟩
    rcases List.mem_append.1 hd with hd | hd
    ·exact x _ (h.all d hd)
    ·obtain rfl:d=c:=by simpa using hd
     exact x _ ⟨_,List.getElem_mem A,g⟩
   lits:=n
   iW:=un _ fun s=>by
    constructor
    ·rintro ⟨e,a,q,b⟩
     rcases Ck es i _ a with ⟨j,o,z,rfl⟩ | ⟨_,rfl⟩
     ·exact .inl ⟨_,List.getElem_mem o,q,b⟩
     ·exact .inr (by rw [<- b];exact g)
    ·rintro (⟨e,a,q,b⟩ | rfl)
     ·obtain ⟨j,o,rfl⟩:=List.mem_iff_getElem.1 a;by_cases e:j=i
      ·subst e;exact ⟨_,kr es j _ o,Nat.succ_pos _,b⟩
      ·exact ⟨_,lh es i _ o e,q,b⟩
     ·exact ⟨_,kr es i _ A,Nat.succ_pos _,g⟩ }
theorem uK {d:Cl} (hd:∀ l ∈ d,gH l) (m:∀ l ∈ c,gH l):iw d c=true↔setOf d=setOf c:=by
 have j:=has_setOf (fun l g=>lq (hd l g));have i:=has_setOf (fun l g=>lq (m l g));unfold iw;rw [Bool.and_eq_true,List.all_eq_true,List.all_eq_true];constructor
 ·rintro ⟨a,b⟩;refine kz fun x=>?_
  rw [j,i];apply decide_eq_decide.2;exact ⟨fun e=>by have:=a x e;simpa using this,fun e=>by have:=b x e;simpa using this⟩
 ·intro h;have f:∀ x,x ∈ d↔x ∈ c:=fun x=>by
   have:decide (x ∈ d)=decide (x ∈ c):=by rw [<- j,<- i,h]
   simpa using this
  exact ⟨fun x e=>by simpa using (f x).1 e,fun x e=>by simpa using (f x).2 e⟩
theorem Al:∀ {L:List Cl} (hL:∀ d ∈ L,∀ l ∈ d,gH l) (hc:∀ l ∈ c,gH l),rem L c=none↔∀ d ∈ L,setOf d ≠ setOf c
 | [],_,_=>by simp [rem]
 | d :: r,hL,hc=>by
  have hd:=hL d (List.mem_cons_self ..);have f:=Al (L:=r) (fun d hd=>hL d (List.mem_cons_of_mem _ hd)) hc;unfold rem;by_cases h:iw d c=true
  ·rw [if_pos h];simp only [List.mem_cons,reduceCtorEq,false_iff];intro a;exact a d (.inl rfl) ((uK hd hc).1 h)
  ·rw [if_neg h,Option.map_eq_none_iff,f];constructor
   ·intro a e b
    rcases List.mem_cons.1 b with rfl | b
    ·exact fun e=>h ((uK hd hc).2 e)
    ·exact a e b
   ·intro a e b;exact a e (List.mem_cons_of_mem _ b)
theorem IG:∀ {L L':List Cl} (hL:∀ d ∈ L,∀ l ∈ d,gH l) (hc:∀ l ∈ c,gH l),rem L c=some L'->∀ s,L.countP (fun d=>decide (setOf d=s))=L'.countP (fun d=>decide (setOf d=s)) + (if setOf c=s then 1 else 0)
 | [],L',_,_,h=>by simp [rem] at h
 | d :: r,L',hL,hc,h=>by
  have hd:=hL d (List.mem_cons_self ..);have b:=@IG r;unfold rem at h;intro s;by_cases a:iw d c=true
  ·rw [if_pos a] at h;obtain rfl:=Option.some.inj h;have e:=(uK hd hc).1 a;rw [List.countP_cons,e]
   congr 1
   by_cases g:setOf c=s <;> simp [g]
  ·rw [if_neg a] at h;obtain ⟨i,f,rfl⟩:=Option.map_eq_some_iff.1 h;have:=b (fun d hd=>hL d (List.mem_cons_of_mem _ hd)) hc f s;rw [List.countP_cons,List.countP_cons,this];omega
theorem nI:∀ {L L':List Cl},rem L c=some L'->∀ d ∈ L',d ∈ L
 | [],L',h=>by simp [rem] at h
 | d :: r,L',h=>by
  unfold rem at h;split at h
  ·obtain rfl:=Option.some.inj h;exact fun x a=>List.mem_cons_of_mem _ a
  ·obtain ⟨e,b,rfl⟩:=Option.map_eq_some_iff.1 h;intro x a
   rcases List.mem_cons.1 a with rfl | a
   ·exact List.mem_cons_self ..
   ·exact List.mem_cons_of_mem _ (nI b x a)
theorem jw.Mo (h:jw es wl u L) (j:∀ l ∈ c,gH l):rem L c=none↔there es (setOf c)=false:=by
 rw [Al h.lits j,<- Bool.not_eq_true,zZ h.oU];constructor
 ·rintro a ⟨e,g,b,f⟩;obtain ⟨d,hd,i⟩:=h.rep.Vj e g b;exact a d hd (i.trans f)
 ·intro a d hd f;obtain ⟨e,g,b,i⟩:=h.rep.from' d hd
  exact a ⟨e,g,b,i.trans f⟩
theorem jw.rem (h:jw es wl u L) (D:∀ l ∈ c,gH l) {L':List Cl} (B:rem L c=some L') {i:Nat} (w:i < es.length) (o:(es[i]).set=setOf c):
  jw (es.modify i (fun e=>{ e with times:=e.times - 1 })) wl (if (es[i]).times=1/\(setOf c).size=1 then u.wo (setOf c) else u) L':=by
 have x:=jR D;have p:=IG h.lits D B;have A:(es[i]).times=L'.countP (fun d=>decide (setOf d=setOf c)) + 1:=by
  rw [h.cnt _ (List.getElem_mem w),o,p,if_pos rfl]
 have y:∀ s,(∃ e ∈ es.modify i (fun e=>{ e with times:=e.times - 1 }),0 < e.times/\e.set=s)↔(∃ e ∈ es,0 < e.times/\e.set=s)/\((es[i]).times=1->s ≠ setOf c):=fun s=>by
  constructor
  ·rintro ⟨e,n,t,a⟩
   rcases Ck es i _ n with ⟨j,f,g,rfl⟩ | ⟨_,rfl⟩
   ·exact ⟨⟨_,List.getElem_mem f,t,a⟩,fun _ e=>g (ug h.oU f w (by rw [a,e,o]))⟩
   ·simp only at t a;exact ⟨⟨_,List.getElem_mem w,by omega,a⟩,fun e=>by omega⟩
  ·rintro ⟨⟨e,n,t,a⟩,b⟩;obtain ⟨j,f,rfl⟩:=List.mem_iff_getElem.1 n;by_cases e:j=i
   ·subst e;refine ⟨_,kr es j _ f,?_,a⟩;simp only
    rcases Nat.lt_or_ge 1 (es[j]).times with q | q
    ·omega
    ·exact absurd (a.symm.trans o) (b (by omega))
   ·exact ⟨_,lh es i _ f e,t,a⟩
 exact {
  gG:=h.gG.UO i (· - 1)
  oU:=by rw [Bf i (· - 1)];exact h.oU
  cnt:=fun e n=>by
   rcases Ck es i _ n with ⟨j,f,g,rfl⟩ | ⟨_,rfl⟩
   ·rw [h.cnt _ (List.getElem_mem f),p,if_neg (fun b=>g (ug h.oU f w (by rw [o];exact b.symm)))];rfl
   ·show (es[i]).times - 1=L'.countP (fun d=>decide (setOf d=(es[i]).set))
    rw [A,o];omega
  all:=fun d hd=>by
   obtain ⟨e,n,a⟩:=h.all d (nI B d hd);obtain ⟨j,f,rfl⟩:=List.mem_iff_getElem.1 n;by_cases e:j=i
   ·subst e;exact ⟨_,kr es j _ f,a⟩
   ·exact ⟨_,lh es i _ f e,a⟩
  lits:=fun d hd=>h.lits d (nI B d hd)
  iW:=by
   refine ⟨?_,fun l z=>?_⟩
   ·split
    ·exact qi h.iW.ok _
    ·exact h.iW.ok
   ·rw [y,<- h.iW.iff l z];split
    ·rename_i a;obtain ⟨m,C,E⟩:=tJ x a.2;rw [jN,Bool.and_eq_true,Bool.not_eq_true',E,df (dw C)];refine and_congr_right fun _=>?_
     constructor
     ·intro b _ q;have:=DW z C q;rw [this] at b;simp at b
     ·intro b;have:=b a.1;exact decide_eq_false fun e=>this (by rw [e])
    ·rename_i a;constructor
     ·intro b;refine ⟨b,fun q F=>a ⟨q,by rw [<- F];exact vL z⟩⟩
     ·exact fun b=>b.1 }
theorem Af (es:List dH) (e:dH):sigs (es ++ [e])=sigs es ++ [(e.set,e.times)]:=by unfold sigs;simp
theorem xV {e:dH} (a:e ∈ es):(e.set,e.times) ∈ sigs es:=List.mem_map.2 ⟨e,a,rfl⟩
theorem Cb {p:Key × Nat} (a:p ∈ sigs es):∃ e ∈ es,e.set=p.1/\e.times=p.2:=by
 obtain ⟨e,b,rfl⟩:=List.mem_map.1 a;exact ⟨e,b,rfl,rfl⟩
theorem jw.anew (h:jw es wl u L) (n:sigs es'=(sigs es).filter (fun p=>decide (0 < p.2))) (t:eU es' jU):jw es' jU u L:=by
 have j:∀ e ∈ es',∃ b ∈ es,b.set=e.set/\b.times=e.times/\0 < e.times:=fun e f=>by
  have:=xV f;rw [n,List.mem_filter] at this;obtain ⟨b,a,i,g⟩:=Cb this.1;exact ⟨b,a,i,g,of_decide_eq_true this.2⟩
 have new:∀ e ∈ es,0 < e.times->∃ b ∈ es',b.set=e.set/\b.times=e.times:=fun e f m=>by
  have:(e.set,e.times) ∈ sigs es':=by rw [n,List.mem_filter];exact ⟨xV f,decide_eq_true m⟩
  exact Cb this
 exact {
  gG:=t
  oU:=by
   rw [rq,n];have:((sigs es).filter (fun p=>decide (0 < p.2))).Sublist (sigs es):=List.filter_sublist;refine (this.map Prod.fst).nodup ?_;rw [<- rq];exact h.oU
  cnt:=fun e f=>by
   obtain ⟨b,a,i,g,_⟩:=j e f;rw [<- g,<- i];exact h.cnt b a
  all:=fun d hd=>by
   obtain ⟨e,f,m,i⟩:=h.rep.from' d hd
   obtain ⟨b,a,g,_⟩:=new e f m;exact ⟨b,a,g.trans i⟩
  lits:=h.lits
  iW:=⟨h.iW.ok,fun l s=>by
   rw [h.iW.iff l s];constructor
   ·rintro ⟨e,f,i,g⟩;obtain ⟨b,a,q,o⟩:=new e f i;exact ⟨b,a,by rw [o];exact i,q.trans g⟩
   ·rintro ⟨e,f,i,g⟩;obtain ⟨b,a,q,o,w⟩:=j e f;exact ⟨b,a,by rw [o];exact w,q.trans g⟩⟩ }
theorem eU.empty:eU [] (fun _=>[]) where
 two:=fun j h=>by simp at h
 one:=fun j h=>by simp at h
 lists:=fun k _ j a=>by simp at a
 nodup:=fun _ _=>List.nodup_nil
 ok:=fun e b=>by simp at b
theorem jw.empty:jw [] (fun _=>[]) (0,0) [] where
 gG:=eU.empty
 oU:=List.nodup_nil
 cnt:=fun e a=>by simp at a
 all:=fun d hd=>by simp at hd
 lits:=fun c b=>by simp at b
 iW:=⟨kG,fun l _=>by rw [ek];simp⟩
end
section
variable {v:Bs} {L L':List Cl} {k:Nat} {r:Bs} {c:Cl} {res:Nat × Nat}
theorem vZ:mg v L (dK 10 []) k (k,5):=by
 rw [iM];have:hasB 10 []=false:=by decide
 rw [this];unfold mg;simp
theorem uj (d:r ≠ []) (h:hasB 10 r=false):mg v L (dK 10 r) k (k + 1,3):=by
 rw [iM,h];unfold mg
 cases r with
 | nil=>exact absurd rfl d
 | cons a b=>simp
theorem vo (h:hasB 10 r=true):mg v L (dK 10 r) k res=(match iy v (upto 10 r) with
   | none=>res=(k + 1,3)
   | some (true,c)=>(match rem L c with
     | none=>res=(k + 1,4)
     | some L'=>mg v L' (dK 10 (r.drop ((upto 10 r).length + 1))) (k + 1) res)
   | some (false,c)=>(¬ eH L c->res=(k + 1,4))/\(eH L c->if c.isEmpty then res=(k + 1,0) else mg v (L ++ [c]) (dK 10 (r.drop ((upto 10 r).length + 1))) (k + 1) res)):=by
 rw [iM,h,if_pos rfl];obtain ⟨a,b,e⟩:=jo 10 (r.drop ((upto 10 r).length + 1));rw [e]
 conv=>lhs;unfold mg
 simp only [List.isEmpty_cons,Bool.false_eq_true,if_false];rfl
theorem FH (h:hasB 10 r=true) (a:iy v (upto 10 r)=none):mg v L (dK 10 r) k (k + 1,3):=by
 rw [vo h,a]
theorem Fz (h:hasB 10 r=true) (b:iy v (upto 10 r)=some (true,c)) (a:rem L c=none):mg v L (dK 10 r) k (k + 1,4):=by
 rw [vo h,b];simp only [a]
theorem Jl (h:hasB 10 r=true) (b:iy v (upto 10 r)=some (true,c)) (a:rem L c=some L'):mg v L (dK 10 r) k res↔mg v L' (dK 10 (r.drop ((upto 10 r).length + 1))) (k + 1) res:=by
 rw [vo h,b];simp only [a]
theorem Bo (h:hasB 10 r=true) (b:iy v (upto 10 r)=some (false,c)) (a:¬ eH L c):mg v L (dK 10 r) k (k + 1,4):=by
 rw [vo h,b];exact ⟨fun _=>rfl,fun h=>absurd h a⟩
theorem Jk (h:hasB 10 r=true) (b:iy v (upto 10 r)=some (false,[])) (a:eH L []):mg v L (dK 10 r) k (k + 1,0):=by
 rw [vo h,b];exact ⟨fun h=>absurd a h,fun _=>by simp⟩
theorem Jm (h:hasB 10 r=true) (e:iy v (upto 10 r)=some (false,c)) (d:eH L c) (f:c ≠ []):mg v L (dK 10 r) k res↔mg v (L ++ [c]) (dK 10 (r.drop ((upto 10 r).length + 1))) (k + 1) res:=by
 rw [vo h,e]
 have:c.isEmpty=false:=by cases c with
  | nil=>exact absurd rfl f
  | cons a b=>rfl
 simp only [this,Bool.false_eq_true,if_false];exact ⟨fun h=>h.2 d,fun h=>⟨fun g=>absurd d g,fun _=>h⟩⟩
theorem JR {es es':List dH} {u d:Key} {l:Int} (R:Lg es L) (a:∀ x ∈ c,gH x) (f:∃ r,c=l :: r) (P:fo es es' (0,0) (u.un (setOf c).op) d false) (g:qc es u) (b:¬ mq L (zB c 0)):eH L c↔∀ e ∈ es,nD es d l e:=by
 obtain ⟨r,rfl⟩:=f;rw [PO R a (lq (a l (List.mem_cons_self ..))) P g];constructor
 ·rintro (h | ⟨j,i,e,h⟩)
  ·exact absurd h b
  ·obtain ⟨rfl,rfl⟩:=List.cons.inj e;exact h
 ·exact fun h=>.inr ⟨l,r,rfl,h⟩
theorem Gz (a:¬ mq L (zB [] 0)):¬ eH L []:=by
 rintro (h | ⟨l,r,e,_⟩)
 ·exact a h
 ·cases e
end
end Rd
end Go.Proofs.YtceahffmenbibaaGreatDoor
