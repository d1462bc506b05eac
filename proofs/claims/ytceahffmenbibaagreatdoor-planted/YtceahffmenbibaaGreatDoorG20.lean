/- Qlog Qsto Ufal Psm. -/
import Derived.Test.YtceahffmenbibaaGreatDoorG14
import Derived.Test.YtceahffmenbibaaGreatDoorG17
import Derived.Test.YtceahffmenbibaaGreatDoorG19
import Derived.Deep.CutRange
set_option linter.unusedVariables false
set_option linter.unusedSimpArgs false
set_option maxHeartbeats 4000000
set_option maxRecDepth 100000
namespace Go.Proofs.YtceahffmenbibaaGreatDoor
namespace Rd
def BI:List Int:=(List.range 64).map (fun (k:Nat)=>(k:Int) + 1) ++ (List.range 64).map (fun (k:Nat)=>-((k:Int) + 1))
theorem Dt {l:Int} (h:dB l):l ∈ BI:=by
 unfold BI;rw [List.mem_append,List.mem_map,List.mem_map]
 rcases h with h | h
 ·exact .inl ⟨l.toNat - 1,List.mem_range.2 (by omega),by omega⟩
 ·exact .inr ⟨(-l).toNat - 1,List.mem_range.2 (by omega),by omega⟩
def JF (down pending:Key):Nat:=BI.countP (fun l=>!down.has l || pending.has l)
theorem RZ {down pending forced:Key} {p:Int} (ip:dB p) (hp:pending.has p=true) (hd:down.has p=true) (hf:∀ l,forced.has l=true->down.has l=false):
  JF (down.un forced) ((pending.wo (single p)).un forced) < JF down pending:=by
 unfold JF;refine zX (fun x _ hx=>?_) ⟨p,Dt ip,by rw [hp,Bool.or_true],?_⟩
 ·simp only [df,mM,Bool.or_eq_true,Bool.not_eq_true',Bool.and_eq_true,Bool.or_eq_false_iff] at hx ⊢
  rcases hx with h | h | h
  ·exact .inl h.1
  ·exact .inr h.1
  ·exact .inl (hf x h)
 ·have e:forced.has p=false:=by
   cases e:forced.has p with
   | false=>rfl
   | true=>rw [hf p e] at hd;cases hd
  simp only [df,mM,hp,hd,e,aR (bX ip)];simp
structure dF (es es':List aX) (ak laid d:Key) (c:Bool):Prop where
 same:sigs es'=sigs es
 rest:∀ D,(∀ l,D.has l=true->(ak.un laid).has l=true)->Rest es D->Rest es' D
 conf:c=true->∀ M,Cons M->yO (ak.un laid) M->¬ fD es M
 BU:c=false->Mf es (ak.un laid) es' d (0,0)
theorem dF.clash {es:List aX} {ak laid d:Key} (h:kZ (ak.un laid)=true):dF es es ak laid d true where
 same:=rfl
 rest:=fun D _ h=>h
 conf:=fun _ M hM hb hs=>by
  obtain ⟨l,h1,h2⟩:=(xG _).1 h;exact hM l (hb l h1) (hb _ h2)
 BU:=fun h=>by cases h
structure lZ (es0 es:List aX) (wl:Nat->List Nat) (ak laid down pending:Key):Prop where
 BU:Mf es0 (ak.un laid) es down pending
 qg:dP es wl
 rest:∀ D,(∀ l,D.has l=true->(ak.un laid).has l=true)->Rest es0 D->Rest es D
theorem lZ.start {es:List aX} {wl:Nat->List Nat} {ak laid:Key} (hr:Rest es ak) (hW:dP es wl) (hd:ak.ok) (hl:laid.ok) (hc:kZ (ak.un laid)=false):lZ es es wl ak laid (ak.un laid) (laid.wo ak):=
 ⟨Mf.start hr hd hl (Lt.1 hc),hW,fun D _ h=>h⟩
theorem lZ.step {es0 es es':List aX} {wl iO:Nat->List Nat} {ak laid down pending forced:Key} {p:Int} (h:lZ es0 es wl ak laid down pending) (hp:pending.has p=true) (hp0:p ≠ 0) (F:gq es es' (-p) down forced false) (hW:dP es' iO):
  lZ es0 es' iO ak laid (down.un forced) ((pending.wo (single p)).un forced):=
 ⟨h.BU.step hp hp0 F,hW,fun D hD hr=>rest_step (h.rest D hD hr) (fun l hl=>h.BU.inc l (hD l hl)) F⟩
theorem lZ.PK {es0 es es':List aX} {wl:Nat->List Nat} {ak laid down pending forced d:Key} {lit:Int} (h:lZ es0 es wl ak laid down pending) (F:gq es es' lit down forced true):
  dF es0 es' ak laid d true where
 same:=F.same.trans h.BU.same
 rest:=fun D hD hr=>rest_step (h.rest D hD hr) (fun l hl=>h.BU.inc l (hD l hl)) F
 conf:=fun _=>h.BU.conflict F
 BU:=fun h=>by cases h
theorem lZ.done {es0 es:List aX} {wl:Nat->List Nat} {ak laid down:Key} (h:lZ es0 es wl ak laid down (0,0)):dF es0 es ak laid down false where
 same:=h.BU.same
 rest:=h.rest
 conf:=fun h=>by cases h
 BU:=fun _=>h.BU
structure uG (es:List aX) (u:Key):Prop where
 ok:u.ok
 iff:∀ l,dB l->(u.has l=true↔∃ e ∈ es,0 < e.times/\e.set=single l)
def pI (es:List aX):Prop:=∀ e ∈ es,0 < e.times->e.set ≠ (0,0)
theorem Mv {es:List aX} {u:Key} (h:uG es u) {M:Int->Prop} (hs:fD es M):yO u M:=fun l hl=>by
 have il:=Key.I5 h.ok hl;obtain ⟨e,he,ht,hset⟩:=(h.iff l il).1 hl
 rcases hs e he ht with ⟨x,h1,h2⟩ | ⟨a,b,hab,h1,h2,_,_⟩
 ·rw [hset,aR (bX il)] at h1;rw [of_decide_eq_true h1] at h2;exact h2
 ·rw [hset,aR (bX il)] at h1 h2;exact absurd ((of_decide_eq_true h1).trans (of_decide_eq_true h2).symm) hab
theorem jN {es es':List aX} (h:sigs es'=sigs es) {e:aX} (he:e ∈ es'):∃ e0 ∈ es,e0.set=e.set/\e0.times=e.times:=by
 have hm:(e.set,e.times) ∈ sigs es:=by rw [<- h];exact List.mem_map.2 ⟨e,he,rfl⟩
 obtain ⟨e',he',heq⟩:=List.mem_map.1 hm;simp only [Prod.mk.injEq] at heq;exact ⟨e',he',heq⟩
theorem dF.stable {es es':List aX} {iO:Nat->List Nat} {ak laid d u:Key} (P:dF es es' ak laid d false) (hW:dP es' iO) (hU:uG es u) (hn:pI es) (hu:∀ l,u.has l=true->(ak.un laid).has l=true):
  fD es (fun l=>d.has l=true):=by
 have S:=P.BU rfl;refine S.finish hW.wtwo hW.ok (fun e he ht hs=>?_) (fun e he ht hs=>?_)
 ·obtain ⟨e0,he0,h1,h2⟩:=jN P.same he;obtain ⟨l,il,hl⟩:=Cx (hW.ok e he) hs;refine ⟨l,by rw [hl,aR (bX il)];simp,S.inc l (hu l ((hU.iff l il).2 ⟨e0,he0,by rw [h2];exact ht,by rw [h1,hl]⟩))⟩
 ·obtain ⟨e0,he0,h1,h2⟩:=jN P.same he;exact hn e0 he0 (by rw [h2];exact ht) (by rw [h1];exact zf (hW.ok e he) hs)
theorem dF.iff {es es':List aX} {iO:Nat->List Nat} {ak laid d u:Key} {c:Bool} (P:dF es es' ak laid d c) (hW:dP es' iO) (hU:uG es u) (hn:pI es) (hu:∀ l,u.has l=true->(ak.un laid).has l=true):
  c=true↔∀ M,Cons M->yO (ak.un laid) M->¬ fD es M:=by
 refine ⟨P.conf,fun h=>?_⟩
 cases c with
 | true=>rfl
 | false=>
  have S:=P.BU rfl;exact absurd (P.stable hW hU hn hu) (h _ (AQ S.SQ) (fun l hl=>S.inc l hl))
theorem ry {c:Cl} {but x:Int}:x ∈ IE c but↔-x ∈ c/\-x ≠ but:=by
 unfold IE;rw [List.mem_map];constructor
 ·rintro ⟨y,hy,rfl⟩;rw [List.mem_filter] at hy;simp only [Int.neg_neg];exact ⟨hy.1,by have:=hy.2;simpa using this⟩
 ·rintro ⟨h1,h2⟩;exact ⟨-x,List.mem_filter.2 ⟨h1,by simpa using h2⟩,by omega⟩
theorem zS {c:Cl} (hc:∀ l ∈ c,oP l) (x:Int):(setOf c).op.has x=true↔x ∈ IE c 0:=by
 rw [OU,has_setOf (fun l hl=>vg (hc l hl)),decide_eq_true_eq,ry]
 exact ⟨fun h=>⟨h,vg (hc _ h)⟩,fun h=>h.1⟩
theorem Sc {es es':List aX} {iO:Nat->List Nat} {L:List Cl} {u d:Key} {b:Bool} {c:Cl} (R:Uy es L) (hc:∀ l ∈ c,oP l) (P:dF es es' (0,0) (u.un (setOf c).op) d b) (hW:dP es' iO) (hU:uG es u) (hn:pI es):
  b=true↔nJ L (IE c 0):=by
 rw [P.iff hW hU hn (fun l hl=>by rw [df,df,hl];simp),R.conf]
 constructor
 ·intro h M hM hl hs;refine h M hM (fun l hb=>?_) hs
  rw [df,bY,Bool.false_or,df,Bool.or_eq_true] at hb
  rcases hb with hb | hb
  ·exact Mv hU hs l hb
  ·exact hl l ((zS hc l).1 hb)
 ·intro h M hM hb hs;exact h M hM (fun l hl=>hb l (by rw [df,df,(zS hc l).2 hl];simp)) hs
theorem Ht {es:List aX} {L:List Cl} (R:Uy es L) (h:¬ pI es) (ls:List Int):nJ L ls:=by
 rw [R.conf];intro M _ _ hs;refine h fun e he ht h0=>?_
 rcases hs e he ht with ⟨x,h1,_⟩ | ⟨a,b,_,h1,_⟩
 ·rw [h0,bY] at h1;cases h1
 ·rw [h0,bY] at h1;cases h1
section
theorem sM {es:List aX} {s:Key}:look es s=none↔∀ e ∈ es,e.set ≠ s:=by
 unfold look;rw [List.findIdx?_eq_none_iff];constructor
 ·intro h e he;have:=h e he;simpa using this
 ·intro h e he;simpa using h e he
structure tO (es:List aX) (wl:Nat->List Nat) (u:Key) (L:List Cl):Prop where
 qg:dP es wl
 yH:(es.map aX.set).Nodup
 cnt:∀ e ∈ es,e.times=L.countP (fun d=>decide (setOf d=e.set))
 all:∀ d ∈ L,∃ e ∈ es,e.set=setOf d
 lits:∀ c ∈ L,∀ l ∈ c,oP l
 nP:uG es u
variable {es es':List aX} {wl iO:Nat->List Nat} {u:Key} {L:List Cl} {c:Cl}
theorem tO.rep (h:tO es wl u L):Uy es L where
 ofE:=fun e he ht=>by
  rw [h.cnt e he] at ht;obtain ⟨d,hd,hs⟩:=List.countP_pos_iff.1 ht;exact ⟨d,hd,of_decide_eq_true hs⟩
 from':=fun d hd=>by
  obtain ⟨e,he,hs⟩:=h.all d hd;refine ⟨e,he,?_,hs⟩;rw [h.cnt e he];exact List.countP_pos_iff.2 ⟨d,hd,by rw [hs];simp⟩
 lits:=h.lits
theorem F9 (h:sigs es'=sigs es) (hU:uG es u):uG es' u:=⟨hU.ok,fun l il=>by
 rw [hU.iff l il];constructor
 ·rintro ⟨e,he,h1,h2⟩;obtain ⟨e',he',e1,e2⟩:=jN h.symm he;exact ⟨e',he',by rw [e2];exact h1,by rw [e1];exact h2⟩
 ·rintro ⟨e,he,h1,h2⟩;obtain ⟨e',he',e1,e2⟩:=jN h he;exact ⟨e',he',by rw [e2];exact h1,by rw [e1];exact h2⟩⟩
theorem zm (es:List aX):es.map aX.set=(sigs es).map Prod.fst:=by unfold sigs;rw [List.map_map];rfl
theorem tO.same (h:tO es wl u L) (hs:sigs es'=sigs es) (hW:dP es' iO):tO es' iO u L where
 qg:=hW
 yH:=by rw [zm,hs,<- zm];exact h.yH
 cnt:=fun e he=>by
  obtain ⟨e',he',e1,e2⟩:=jN hs he;rw [<- e2,<- e1];exact h.cnt e' he'
 all:=fun d hd=>by
  obtain ⟨e,he,h1⟩:=h.all d hd;obtain ⟨e',he',e1,e2⟩:=jN hs.symm he;exact ⟨e',he',by rw [e1];exact h1⟩
 lits:=h.lits
 nP:=F9 hs h.nP
theorem Ja (h:(es.map aX.set).Nodup) {i j:Nat} (hi:i < es.length) (hj:j < es.length) (e:(es[i]).set=(es[j]).set):i=j:=by
 have h1:(es.map aX.set)[i]'(by simpa using hi)=(es.map aX.set)[j]'(by simpa using hj):=by simpa using e
 exact (List.getElem_inj h).1 h1
theorem Tm (h:(es.map aX.set).Nodup) {i:Nat} (hi:i < es.length):look es (es[i]).set=some i:=by
 cases e:look es (es[i]).set with
 | none=>exact absurd rfl (sM.1 e _ (List.getElem_mem hi))
 | some j=>
  obtain ⟨hj,hs⟩:=jF e;rw [Ja h hj hi hs]
theorem JA (h:(es.map aX.set).Nodup) (s:Key):there es s=true↔∃ e ∈ es,0 < e.times/\e.set=s:=by
 unfold there;constructor
 ·intro ht
  cases e:look es s with
  | none=>rw [e] at ht;cases ht
  | some i=>
   rw [e] at ht;obtain ⟨hi,hs⟩:=jF e;simp only [List.getElem?_eq_getElem hi] at ht;exact ⟨_,List.getElem_mem hi,of_decide_eq_true ht,hs⟩
 ·rintro ⟨e,he,ht,hs⟩;obtain ⟨i,hi,rfl⟩:=List.mem_iff_getElem.1 he;rw [<- hs,Tm h hi];simp only [List.getElem?_eq_getElem hi];exact decide_eq_true ht
theorem ui (h:(es.map aX.set).Nodup):there es (0,0)=false↔pI es:=by
 rw [<- Bool.not_eq_true,JA h];constructor
 ·intro hn e he ht h0;exact hn ⟨e,he,ht,h0⟩
 ·rintro hn ⟨e,he,ht,h0⟩;exact hn e he ht h0
theorem BA {s:Key} (hs:s.ok) (h:2 <= s.size):dB (aL s)/\dB (bL s)/\aL s ≠ bL s/\s.has (aL s)=true/\s.has (bL s)=true:=by
 have h0:s ≠ (0,0):=by
  obtain ⟨a,b,_,ha,_⟩:=size_two hs h;exact (mG s).2 ⟨a,ha⟩
 obtain ⟨_,p2,p3⟩:=lM hs h0;obtain ⟨_,q2,q3⟩:=lM (Cg hs _) (uq hs h (bX p3));rw [mM,Bool.and_eq_true,Bool.not_eq_true',aR (bX p3)] at q2;exact ⟨p3,q3,fun e=>by have:=q2.2;unfold aL bL at e;rw [<- e] at this;simp at this,p2,q2.1⟩
theorem lU {wl:Nat->List Nat} {s:Key} {n:Nat} (hs:s.ok) (h:2 <= s.size) (k:Nat):fH wl s n k=if k=place (aL s)\/k=place (bL s) then wl k ++ [n] else wl k:=by
 obtain ⟨ia,ib,hab,_,_⟩:=BA hs h;have hp:place (bL s) ≠ place (aL s):=fun e=>hab (J5 ia ib e.symm)
 unfold fH;rw [if_pos h];simp only [hp,if_false];by_cases h1:k=place (bL s)
 ·rw [if_pos h1,if_pos (.inr h1),h1]
 ·rw [if_neg h1];by_cases h2:k=place (aL s)
  ·rw [if_pos h2,if_pos (.inl h2),h2]
  ·rw [if_neg h2,if_neg (by rintro (h | h);exact h2 h;exact h1 h)]
theorem xg (s:Key):(dO s).set=s:=by unfold dO;dsimp only
theorem dP.Xa (h:dP es wl) {s:Key} {E:aX} (hs:s.ok) (hE1:E.set=s) (hE2:E.watched=(dO s).watched):dP (es ++ [E]) (fH wl s es.length):=by
 have get:∀ j (hj:j < (es ++ [E]).length),(∃ h0:j < es.length,(es ++ [E])[j]=es[j])\/(j=es.length/\(es ++ [E])[j]=E):=fun j hj=>by
  rcases Nat.lt_or_ge j es.length with h0 | h0
  ·exact .inl ⟨h0,List.getElem_append_left h0⟩
  ·have:j=es.length:=by simp at hj;omega
   subst this;exact .inr ⟨rfl,by simp⟩
 have sub:∀ k x,x ∈ wl k->x ∈ fH wl s es.length k:=fun k x hx=>by
  by_cases hz:2 <= s.size
  ·rw [lU hs hz];split
   ·exact List.mem_append_left _ hx
   ·exact hx
  ·unfold fH;rw [if_neg hz];exact hx
 exact {
  two:=fun j hj hz=>by
   rcases get j hj with ⟨h0,e⟩ | ⟨rfl,e⟩
   ·rw [e] at hz ⊢;obtain ⟨a,b,h1,h2,h3,h4,h5,h6,h7,h8⟩:=h.two j h0 hz;exact ⟨a,b,h1,h2,h3,h4,h5,h6,sub _ _ h7,sub _ _ h8⟩
   ·rw [e] at hz ⊢;have hz':2 <= s.size:=by rw [hE1] at hz;exact hz
    obtain ⟨ia,ib,hab,ha,hb⟩:=BA hs hz';refine ⟨aL s,bL s,hab,ia,ib,by rw [hE1];exact ha,by rw [hE1];exact hb,?_,?_,?_⟩
    ·rw [hE2];unfold dO;simp only [if_pos hz']
    ·rw [lU hs hz',if_pos (.inl rfl)];simp
    ·rw [lU hs hz',if_pos (.inr rfl)];simp
  one:=fun j hj hz=>by
   rcases get j hj with ⟨h0,e⟩ | ⟨rfl,e⟩
   ·rw [e] at hz ⊢;exact h.one j h0 hz
   ·rw [e] at hz ⊢;have hz':¬ 2 <= s.size:=by rw [hE1] at hz;exact hz
    rw [hE2];unfold dO;simp only [if_neg hz']
  lists:=fun k hk j hj=>by
   have old:j ∈ wl k->∃ h:j < (es ++ [E]).length,2 <= ((es ++ [E])[j]).set.size/\∃ l,dB l/\place l=k/\((es ++ [E])[j]).watched.has l=true:=fun hj=>by
    obtain ⟨h0,h1,l,h2,h3,h4⟩:=h.lists k hk j hj;refine ⟨by simp;omega,?_⟩
    rw [List.getElem_append_left h0];exact ⟨h1,l,h2,h3,h4⟩
   by_cases hz:2 <= s.size
   ·rw [lU hs hz] at hj;split at hj
    ·rename_i hk'
     rcases List.mem_append.1 hj with hj | hj
     ·exact old hj
     ·obtain rfl:j=es.length:=by simpa using hj
      obtain ⟨ia,ib,hab,ha,hb⟩:=BA hs hz;refine ⟨by simp,?_⟩
      rw [show (es ++ [E])[es.length]'(by simp)=E by simp]
      refine ⟨by rw [hE1];exact hz,?_⟩
      have hw:E.watched=(single (aL s)).un (single (bL s)):=by
       rw [hE2];unfold dO;simp only [if_pos hz]
      rcases hk' with e | e
      ·exact ⟨aL s,ia,e.symm,by rw [hw,df,aR (bX ia)];simp⟩
      ·exact ⟨bL s,ib,e.symm,by rw [hw,df,aR (bX ib)];simp⟩
    ·exact old hj
   ·unfold fH at hj;rw [if_neg hz] at hj;exact old hj
  nodup:=fun k hk=>by
   by_cases hz:2 <= s.size
   ·rw [lU hs hz];split
    ·rw [List.nodup_append];refine ⟨h.nodup k hk,by simp,fun a ha b hb e=>?_⟩
     obtain ⟨h0,_⟩:=h.lists k hk a ha;have:b=es.length:=by simpa using hb
     omega
    ·exact h.nodup k hk
   ·unfold fH;rw [if_neg hz];exact h.nodup k hk
  ok:=fun e he=>by
   rcases List.mem_append.1 he with he | he
   ·exact h.ok e he
   ·obtain rfl:e=E:=by simpa using he
    rw [hE1];exact hs }
theorem dP.enter (h:dP es wl) {s:Key} (hs:s.ok) (t:Nat):dP (es ++ [{ dO s with times:=t }]) (fH wl s es.length):=by
 refine h.Xa hs ?_ ?_
 ·dsimp only;exact xg s
 ·dsimp only
theorem Gv {s:Key} (h:(es.map aX.set).Nodup) (hn:look es s=none) (t:Nat):((es ++ [{ dO s with times:=t }]).map aX.set).Nodup:=by
 rw [List.map_append,List.nodup_append];refine ⟨h,by simp,fun a ha b hb e=>?_⟩
 obtain ⟨x,hx,rfl⟩:=List.mem_map.1 ha;have:b=s:=by simpa [dO] using hb
 exact sM.1 hn x hx (by rw [e,this])
theorem NW (es:List aX) (i:Nat) (f:aX->aX) {e:aX} (he:e ∈ es.modify i f):(∃ j,∃ hj:j < es.length,j ≠ i/\e=es[j])\/∃ hi:i < es.length,e=f es[i]:=by
 obtain ⟨j,hj,rfl⟩:=List.mem_iff_getElem.1 he;rw [List.length_modify] at hj;rw [List.getElem_modify];split
 ·rename_i h;subst h;exact .inr ⟨hj,rfl⟩
 ·rename_i h;exact .inl ⟨j,hj,fun e=>h e.symm,rfl⟩
theorem pX (es:List aX) (i:Nat) (f:aX->aX) {j:Nat} (hj:j < es.length) (hne:j ≠ i):es[j] ∈ es.modify i f:=by
 refine List.mem_iff_getElem.2 ⟨j,by rw [List.length_modify];exact hj,?_⟩
 rw [List.getElem_modify,if_neg (fun e=>hne e.symm)]
theorem mH (es:List aX) (i:Nat) (f:aX->aX) (hi:i < es.length):f es[i] ∈ es.modify i f:=by
 refine List.mem_iff_getElem.2 ⟨i,by rw [List.length_modify];exact hi,?_⟩
 rw [List.getElem_modify,if_pos rfl]
theorem dP.times (h:dP es wl) (hl:es'.length=es.length) (hg:∀ j (h:j < es.length) (h':j < es'.length),(es'[j]).set=(es[j]).set/\(es'[j]).watched=(es[j]).watched):dP es' wl where
 two:=fun j hj hz=>by
  obtain ⟨e1,e2⟩:=hg j (by omega) hj
  rw [e1] at hz ⊢;rw [e2];exact h.two j (by omega) hz
 one:=fun j hj hz=>by
  obtain ⟨e1,e2⟩:=hg j (by omega) hj
  rw [e1] at hz;rw [e2];exact h.one j (by omega) hz
 lists:=fun k hk j hj=>by
  obtain ⟨h0,h1,h2⟩:=h.lists k hk j hj;obtain ⟨e1,e2⟩:=hg j h0 (by omega)
  exact ⟨by omega,by rw [e1];exact h1,by rw [e2];exact h2⟩
 nodup:=h.nodup
 ok:=fun e he=>by
  obtain ⟨j,hj,rfl⟩:=List.mem_iff_getElem.1 he;rw [(hg j (by omega) hj).1]
  exact h.ok _ (List.getElem_mem _)
theorem dP.modT (h:dP es wl) (i:Nat) (f:Nat->Nat):dP (es.modify i (fun e=>{ e with times:=f e.times })) wl:=by
 refine h.times (by simp) fun j h0 h'=>?_
 rw [List.getElem_modify];split <;> exact ⟨rfl,rfl⟩
theorem Li (i:Nat) (f:Nat->Nat):(es.modify i (fun e=>{ e with times:=f e.times })).map aX.set=es.map aX.set:=by
 refine List.ext_getElem? fun j=>?_
 rw [List.getElem?_map,List.getElem?_map,List.getElem?_modify];split <;> cases es[j]? <;> rfl
theorem o5 (hc:∀ l ∈ c,oP l):(setOf c).ok:=CE fun l hl=>wT (hc l hl)
theorem EM (L:List Cl) (c:Cl) (s:Key):(L ++ [c]).countP (fun d=>decide (setOf d=s))=L.countP (fun d=>decide (setOf d=s)) + (if setOf c=s then 1 else 0):=by
 rw [List.countP_append]
 congr 1
 by_cases h:setOf c=s <;> simp [h]
theorem Cy {l:Int} (h:dB l):(single l).size=1:=by
 rcases Nat.lt_trichotomy (single l).size 1 with h1 | h1 | h1
 ·have:=zf (gy h) (by omega)
  have h2:(single l).has l=true:=by rw [aR (bX h)];simp
  rw [this,bY] at h2;cases h2
 ·exact h1
 ·obtain ⟨a,b,hab,ha,hb⟩:=size_two (gy h) h1;rw [aR (bX h)] at ha hb;exact absurd ((of_decide_eq_true ha).trans (of_decide_eq_true hb).symm) hab
theorem tO.add (h:tO es wl u L) (hc:∀ l ∈ c,oP l):tO (rU es (setOf c)) (yM es wl (setOf c)) (if (setOf c).size=1 then u.un (setOf c) else u) (L ++ [c]):=by
 have sok:=o5 hc;have UX:∀ d ∈ L ++ [c],∀ l ∈ d,oP l:=fun d hd=>by
  rcases List.mem_append.1 hd with hd | hd
  ·exact h.lits d hd
  ·obtain rfl:d=c:=by simpa using hd
   exact hc
 have un:∀ es2:List aX,(∀ s,(∃ e ∈ es2,0 < e.times/\e.set=s)↔(∃ e ∈ es,0 < e.times/\e.set=s)\/s=setOf c)->uG es2 (if (setOf c).size=1 then u.un (setOf c) else u):=fun es2 hx=>by
  refine ⟨?_,fun l il=>?_⟩
  ·split
   ·exact uh h.nP.ok sok
   ·exact h.nP.ok
  ·rw [hx,<- h.nP.iff l il];split
   ·rename_i h1;obtain ⟨m,im,hm⟩:=Cx sok h1;rw [df,Bool.or_eq_true];constructor
    ·rintro (h2 | h2)
     ·exact .inl h2
     ·rw [hm,aR (bX im)] at h2;rw [of_decide_eq_true h2];exact .inr hm.symm
    ·rintro (h2 | h2)
     ·exact .inl h2
     ·exact .inr (by rw [<- h2,aR (bX il)];simp)
   ·rename_i h1;constructor
    ·exact .inl
    ·rintro (h2 | h2)
     ·exact h2
     ·exact absurd (by rw [<- h2];exact Cy il) h1
 cases hl:look es (setOf c) with
 | none=>
  have e1:rU es (setOf c)=es ++ [{ dO (setOf c) with times:=1 }]:=by unfold rU;rw [hl]
  have e2:yM es wl (setOf c)=fH wl (setOf c) es.length:=by unfold yM;rw [hl]
  rw [e1,e2];have hno:=sM.1 hl;exact {
   qg:=h.qg.enter sok 1
   yH:=Gv h.yH hl 1
   cnt:=fun e he=>by
    rw [EM]
    rcases List.mem_append.1 he with he | he
    ·rw [if_neg (fun h=>hno e he h.symm),h.cnt e he];rfl
    ·obtain rfl:e=_:=by simpa using he
     show 1=L.countP (fun d=>decide (setOf d=setOf c)) + (if setOf c=setOf c then 1 else 0)
     rw [if_pos rfl];have:L.countP (fun d=>decide (setOf d=setOf c))=0:=by
      rw [List.countP_eq_zero];intro d hd hs;obtain ⟨e,he,h1⟩:=h.all d hd;exact hno e he (h1.trans (of_decide_eq_true hs))
     omega
   all:=fun d hd=>by
    rcases List.mem_append.1 hd with hd | hd
    ·obtain ⟨e,he,h1⟩:=h.all d hd;exact ⟨e,List.mem_append_left _ he,h1⟩
    ·obtain rfl:d=c:=by simpa using hd
     exact ⟨_,List.mem_append_right _ (List.mem_singleton.2 rfl),rfl⟩
   lits:=UX
   nP:=un _ fun s=>by
    constructor
    ·rintro ⟨e,he,ht,hs⟩
     rcases List.mem_append.1 he with he | he
     ·exact .inl ⟨e,he,ht,hs⟩
     ·obtain rfl:e=_:=by simpa using he
      exact .inr hs.symm
    ·rintro (⟨e,he,ht,hs⟩ | rfl)
     ·exact ⟨e,List.mem_append_left _ he,ht,hs⟩
     ·exact ⟨_,List.mem_append_right _ (List.mem_singleton.2 rfl),Nat.one_pos,rfl⟩ }
 | some i=>
  have e1:rU es (setOf c)=es.modify i (fun e=>{ e with times:=e.times + 1 }):=by unfold rU;rw [hl]
  have e2:yM es wl (setOf c)=wl:=by unfold yM;rw [hl]
  rw [e1,e2];obtain ⟨hi,hs⟩:=jF hl;exact {
   qg:=h.qg.modT i (· + 1)
   yH:=by rw [Li i (· + 1)];exact h.yH
   cnt:=fun e he=>by
    rw [EM]
    rcases NW es i _ he with ⟨j,hj,hne,rfl⟩ | ⟨_,rfl⟩
    ·rw [if_neg (fun h2=>hne (Ja h.yH hj hi (by rw [hs];exact h2.symm))),h.cnt _ (List.getElem_mem hj)];rfl
    ·show (es[i]).times + 1=L.countP (fun d=>decide (setOf d=(es[i]).set)) + (if setOf c=(es[i]).set then 1 else 0)
     rw [if_pos hs.symm,h.cnt _ (List.getElem_mem hi)]
   all:=fun d hd=>by
    have key:∀ s,(∃ e ∈ es,e.set=s)->∃ e ∈ es.modify i (fun e=>{ e with times:=e.times + 1 }),e.set=s:=by
     rintro s ⟨e,he,h1⟩;obtain ⟨j,hj,rfl⟩:=List.mem_iff_getElem.1 he;by_cases e:j=i
     ·subst e;exact ⟨_,mH es j _ hj,h1⟩
     ·exact ⟨_,pX es i _ hj e,h1⟩
    rcases List.mem_append.1 hd with hd | hd
    ·exact key _ (h.all d hd)
    ·obtain rfl:d=c:=by simpa using hd
     exact key _ ⟨_,List.getElem_mem hi,hs⟩
   lits:=UX
   nP:=un _ fun s=>by
    constructor
    ·rintro ⟨e,he,ht,h1⟩
     rcases NW es i _ he with ⟨j,hj,hne,rfl⟩ | ⟨_,rfl⟩
     ·exact .inl ⟨_,List.getElem_mem hj,ht,h1⟩
     ·exact .inr (by rw [<- h1];exact hs)
    ·rintro (⟨e,he,ht,h1⟩ | rfl)
     ·obtain ⟨j,hj,rfl⟩:=List.mem_iff_getElem.1 he;by_cases e:j=i
      ·subst e;exact ⟨_,mH es j _ hj,Nat.succ_pos _,h1⟩
      ·exact ⟨_,pX es i _ hj e,ht,h1⟩
     ·exact ⟨_,mH es i _ hi,Nat.succ_pos _,hs⟩ }
theorem dP.empty:dP [] (fun _=>[]) where
 two:=fun j h=>by simp at h
 one:=fun j h=>by simp at h
 lists:=fun k _ j hj=>by simp at hj
 nodup:=fun _ _=>List.nodup_nil
 ok:=fun e he=>by simp at he
theorem tO.empty:tO [] (fun _=>[]) (0,0) [] where
 qg:=dP.empty
 yH:=List.nodup_nil
 cnt:=fun e he=>by simp at he
 all:=fun d hd=>by simp at hd
 lits:=fun c hc=>by simp at hc
 nP:=⟨iU,fun l _=>by rw [bY];simp⟩
end
section
open Go Go.RowKit Go.Deep
attribute [local go_sem ↓] Go.wp_at_zero Go.wp_at_succ
def nC (es:List aX):Prop:=∀ e ∈ es,¬ 2 <= e.set.size
theorem nC.wl {es:List aX} {wl:Nat->List Nat} (h:nC es) (hW:dP es wl) {k:Nat} (hk:k < 128):wl k=[]:=by
 apply List.eq_nil_iff_forall_not_mem.2
 intro j hj;obtain ⟨hl,hs,_⟩:=hW.lists k hk j hj;exact h _ (List.getElem_mem hl) hs
theorem nC.sigs {es es':List aX} (h:nC es) (hs:sigs es'=sigs es):nC es':=fun e he=>by
 obtain ⟨e',he',e1,_⟩:=jN hs he;rw [<- e1];exact h e' he'
theorem Bu {B sb mb:Nat} {cv:Value} {gone:Int} {u:Key} {wv:Nat->Value} {es:List aX} {wl:Nat->List Nat} (lit:Int) (ak:Key) (w:World) (il:dB lit) (hd:ak.ok) (hdl:ak.has (-lit)=true) (hlen:es.length <= 549755813888)
  (hS:di B sb w cv mb gone u wv es wl) (hT:nL B w) (hW:dP es wl) (hN:nC es):
  Calls Tryz.prog 167 #[.pointer (some ⟨sb,0,none⟩),aK (single lit),aK ak] w fun e w'=>ni B sb w lit ak cv mb gone u es e w':=by
 have M0:=hide (dw.start (single lit) ak hS hT);have HW:=hide hW;have Iz:=lL il;have w0:=hN.wl hW Iz;obtain ⟨wa,yh,Bl⟩:=aH (hS.nO (place lit) Iz);have YO:=hW.len Iz;have QP:Hid (∀ W,nL B W->Calls Tryz.prog 199 #[aK (single lit)] W fun e w'=>e=.returned (.int .i64 (place lit:Nat))/\Below W.heap.size W w'):=fun W h=>zy lit W il h.1
 unfold aK at QP ⊢;clear hS hT hW;go_enter Tryz.func167,Tryz.ntmps167
 go_upto_region 1 with fail
 obtain ⟨W,hWd⟩:∃ W,W=((w.alloc (Obj.cells #[Value.int IntKind.u64 ((single lit).1:Int),Value.int IntKind.u64 ((single lit).2:Int)] 84)).alloc (Obj.cells #[Value.int IntKind.u64 (ak.1:Int),Value.int IntKind.u64 (ak.2:Int)] 84)).alloc (Obj.cells #[Value.int IntKind.u64 0,Value.int IntKind.u64 0] 84):=⟨_,rfl⟩;rw [<- hWd] at M0 ⊢;clear hWd;have x0:=M0.out.je.cell (i:=0) (by omega)
 have x1:=M0.out.je.cell (i:=1) (by omega)
 unfold fA vY at x0 x1;simp only [if_true,show ¬ (1=0) by decide,if_false] at x0 x1
 have qp:=QP.out W M0.out.tab;go_wp2_with fail
 with_reducible refine qp.mono ?_
 rintro e8 w8 ⟨rfl,p8⟩;simp only [];have M8:=hide (M0.out.later p8);have hh:=(M8.out.nK.head (5 + place lit) (by omega)).1
 rw [show gT cv mb gone u wv (5 + place lit)=wv (place lit) by rw [Nat.add_comm];rfl,Bl] at hh
 have p0:(0:Int) <= (place lit:Nat):=by omega
 have p1:((place lit:Nat):Int) < 128:=by omega
 go_wp2;have S0:Hid (cK B sb w lit ak cv mb gone u es (wl (place lit)) (wv (place lit)) 0 [] (0,0) wv es wl w8):=cK.start M8.out HW.out
 rw [Bl] at S0;have HES:=hide hlen;have rY:(wa=none/\(wl (place lit)).length=0/\yh=0)\/∃ gb,wa=some ⟨gb,0,none⟩/\(wl (place lit)).length <= yh:=by
  have hw:=M8.out.nK.nO (place lit) Iz;rw [Bl] at hw
  rcases hw.2 with ⟨e,h0⟩ | ⟨g,cap',cur,e,_,_,hn,_⟩
  ·obtain ⟨e1,e2,e3⟩:=Value.slice.inj e;exact .inl ⟨e1,e2,e3⟩
  ·obtain ⟨e1,e2,e3⟩:=Value.slice.inj e;exact .inr ⟨g,e1,by rw [e3];exact hn⟩
 clear hh qp x0 x1 p8 M8 M0 Bl HW QP;generalize wl (place lit)=af at S0 YO rY w0 ⊢;have w1:af.length=0:=by rw [w0];rfl
 go_loopw [10,25] (fun k i wr=>Ik B sb w lit ak cv mb gone u es af (.slice wa af.length yh) k i wr) (fun k i _=>af.length - (intOf i).toNat)
 case atStart=>exact ⟨0,[],(0,0),_,_,_,rfl,rfl,S0⟩
 case round=>
  clear S0;obtain ⟨i,kl,F,wv',es',iO,rfl,rfl,hst⟩:=hrel;have hil:=hst.out.Pk.yF;have hkl:=hst.out.Pk.rD;have hsr:=hst.out.mem.hs;have ei:i=af.length:=by omega
  subst ei;have O:=hide (hst.out.out il).2;have FD:=hide (hst.out.Pk.done il);have klc:kl.length <= yh:=by
   rcases rY with ⟨_,h0,h1⟩ | ⟨_,_,h⟩ <;> omega
  have hh:=hst.out.mem.nK.head (5 + place lit) (by omega)
  rw [show gT cv mb gone u wv' (5 + place lit)=wv' (place lit) by rw [Nat.add_comm];rfl,hst.out.hv] at hh
  obtain ⟨h1,h2⟩:=hh;have k0:(0:Int) <= (kl.length:Int):=by omega
  have k1:(kl.length:Int) <= (yh:Int):=by omega
  rcases rY with ⟨rfl,hz,rfl⟩ | ⟨gb,rfl,_⟩
  ·obtain rfl:kl=[]:=List.eq_nil_of_length_eq_zero (by omega)
   go_upto_region 23 with fail
   go_cut [7] from 113 (fun v wx=>wx=(wr.setCell ⟨sb,5 + place lit,none⟩ (.slice none 0 0)).drew)
   case first=>
    go_region
    all_goals
     go_wp2_with fail
     go_meet;rfl
   case rest=>
    have OD:=hide (O.out.later (Below.refl _ _).drew);have OD:Hid (dw B sb w (single lit) (ak.un F) F cv mb gone u (fun k=>if k=place lit then .slice none 0 0 else wv' k) es' (fun k=>if k=place lit then [] else iO k) wc):=by rw [hcut];exact OD
    clear hcut;obtain ⟨x0,x1,x2,x3⟩:=aF (hide OD.out.mO);have O9:=hide (OD.out.VU F);go_wp2;refine @bodyPost_ret _ _ _ _ _ (.tuple #[.agg #[.int .u64 (F.1:Int),.int .u64 (F.2:Int)],.bool false]) ?_ ?_ ?_
    ·simp [results,Tryz.results167,go_sem,x0,x1]
    ·rfl
    ·exact ⟨F,false,_,es',_,rfl,O9.out.below,O9.out.keeps,O9.out.nK,FD.out.1,FD.out.2⟩
  ·go_upto_region 23 with fail
   go_cut [7] from 113 (fun v wx=>wx=(wr.setCell ⟨sb,5 + place lit,none⟩ (.slice (some ⟨gb,0,none⟩) kl.length yh)).drew)
   case first=>
    go_region
    all_goals
     go_wp2_with fail
     go_meet;rfl
   case rest=>
    have OD:=hide (O.out.later (Below.refl _ _).drew);have OD:Hid (dw B sb w (single lit) (ak.un F) F cv mb gone u (fun k=>if k=place lit then .slice (some ⟨gb,0,none⟩) kl.length yh else wv' k) es' (fun k=>if k=place lit then kl else iO k) wc):=by rw [hcut];exact OD
    clear hcut;obtain ⟨x0,x1,x2,x3⟩:=aF (hide OD.out.mO);have O9:=hide (OD.out.VU F);go_wp2;refine @bodyPost_ret _ _ _ _ _ (.tuple #[.agg #[.int .u64 (F.1:Int),.int .u64 (F.2:Int)],.bool false]) ?_ ?_ ?_
    ·simp [results,Tryz.results167,go_sem,x0,x1]
    ·rfl
    ·exact ⟨F,false,_,es',_,rfl,O9.out.below,O9.out.keeps,O9.out.nK,FD.out.1,FD.out.2⟩
end
section
open Go Go.RowKit Go.Deep
variable {B sb mb pb:Nat} {w wr ws:World} {cv:Value} {gone:Int} {u:Key} {wv wv':Nat->Value} {es es':List aX} {wl iO:Nat->List Nat} {L D F P:Key}
theorem JI {p:Int} (h:p ≠ 0):(single p).op=single (-p):=rE fun x=>by
 rw [OU,aR h,aR (by omega)]
 apply decide_eq_decide.2
 omega
def NU (w:World) (b i:Nat):Nat:=match w.cell? ⟨b,i,none⟩ with
 | some (.int _ n)=>n.toNat
 | _=>0
def uB (w:World) (b:Nat):Key:=(NU w b 0,NU w b 1)
theorem o9 {b:Nat} {s:Key} (h:wr.rowIs b 84 2 (fA s)):uB wr b=s:=by
 have h0:=h.cell (i:=0) (by omega)
 have h1:=h.cell (i:=1) (by omega)
 unfold fA vY at h0 h1;simp only [if_true,show ¬ (1=0) by decide,if_false] at h0 h1
 unfold uB NU;rw [h0,h1];simp
theorem dw.putL (h:dw B sb w L D F cv mb gone u wv es wl wr) (t:Key):dw B sb w t D F cv mb gone u wv es wl ((wr.setCell ⟨w.heap.size,0,none⟩ (.int .u64 (t.1:Int))).setCell ⟨w.heap.size,1,none⟩ (.int .u64 (t.2:Int))) where
 je:=oh h.je
 uR:=h.uR.of_block (bP _ (by omega))
 mO:=h.mO.of_block (bP _ (by omega))
 nK:=kE h.nK h.je bP
 below:=(h.below.setCell (by have:=h.bw;simp;omega) _).setCell (by have:=h.bw;simp;omega) _
 keeps:=pq h.keeps (by omega)
 hs:=by have:=h.hs;simp [World.setCell];omega
 tab:=h.tab.later (((Below.refl _ _).setCell (by have:=h.bw;simp;omega) _).setCell (by have:=h.bw;simp;omega) _)
 bw:=h.bw
theorem dw.YJ {b:Nat} {s:Key} (h:dw B sb w L D F cv mb gone u wv es wl wr) (hb:w.heap.size + 3 <= b) (hr:wr.rowIs b 84 2 (fA s)) (t:Key):dw B sb w L D F cv mb gone u wv es wl ((wr.setCell ⟨b,0,none⟩ (.int .u64 (t.1:Int))).setCell ⟨b,1,none⟩ (.int .u64 (t.2:Int))) where
 je:=h.je.of_block (bP _ (by omega))
 uR:=h.uR.of_block (bP _ (by omega))
 mO:=h.mO.of_block (bP _ (by omega))
 nK:=kE h.nK hr bP
 below:=(h.below.setCell (by have:=h.bw;simp;omega) _).setCell (by have:=h.bw;simp;omega) _
 keeps:=pq h.keeps (by omega)
 hs:=by have:=h.hs;simp [World.setCell];omega
 tab:=h.tab.later (((Below.refl _ _).setCell (by have:=h.bw;simp;omega) _).setCell (by have:=h.bw;simp;omega) _)
 bw:=h.bw
structure dQ (B sb pb:Nat) (w:World) (D L R P:Key) (cv:Value) (mb:Nat) (gone:Int) (u:Key) (wv:Nat->Value) (es:List aX) (wl:Nat->List Nat) (wr:World):Prop where
 mem:dw B sb w D L R cv mb gone u wv es wl wr
 iH:wr.rowIs pb 84 2 (fA P)
 hpb:w.heap.size + 3 <= pb
theorem dQ.later {R:Key} (h:dQ B sb pb w D L R P cv mb gone u wv es wl wr) (hb:Below wr.heap.size wr ws):dQ B sb pb w D L R P cv mb gone u wv es wl ws:=
 ⟨h.mem.later hb,h.iH.of_block (hb.block _ h.iH.lt),h.hpb⟩
theorem dQ.step {R:Key} (h:dQ B sb pb w D L R P cv mb gone u wv es wl wr) (S:di B sb ws cv mb gone u wv' es' iO) (k:aA wr ws) (b:Below B wr ws):dQ B sb pb w D L R P cv mb gone u wv' es' iO ws:=
 ⟨h.mem.step S k b,h.iH.of_block (k _ (dV h.iH)),h.hpb⟩
theorem dQ.YK {R:Key} (h:dQ B sb pb w D L R P cv mb gone u wv es wl wr) (t:Key):dQ B sb pb w t L R P cv mb gone u wv es wl ((wr.setCell ⟨w.heap.size,0,none⟩ (.int .u64 (t.1:Int))).setCell ⟨w.heap.size,1,none⟩ (.int .u64 (t.2:Int))):=
 ⟨h.mem.putL t,h.iH.of_block (bP _ (by have:=h.hpb;omega)),h.hpb⟩
theorem dQ.VT {R:Key} (h:dQ B sb pb w D L R P cv mb gone u wv es wl wr) (t:Key):dQ B sb pb w D L t P cv mb gone u wv es wl ((wr.setCell ⟨w.heap.size + 2,0,none⟩ (.int .u64 (t.1:Int))).setCell ⟨w.heap.size + 2,1,none⟩ (.int .u64 (t.2:Int))):=
 ⟨h.mem.VU t,h.iH.of_block (bP _ (by have:=h.hpb;omega)),h.hpb⟩
theorem dQ.YI {R:Key} (h:dQ B sb pb w D L R P cv mb gone u wv es wl wr) (t:Key):dQ B sb pb w D L R t cv mb gone u wv es wl ((wr.setCell ⟨pb,0,none⟩ (.int .u64 (t.1:Int))).setCell ⟨pb,1,none⟩ (.int .u64 (t.2:Int))):=
 ⟨h.mem.YJ h.hpb h.iH t,oh h.iH,h.hpb⟩
def Ic (B sb pb:Nat) (w:World) (ak laid:Key) (cv:Value) (mb:Nat) (gone:Int) (u:Key) (es0:List aX) (wr:World):Prop:=
 ∃ (D P:Key) (wv:Nat->Value) (es:List aX) (wl:Nat->List Nat),Hid (dQ B sb pb w D laid (0,0) P cv mb gone u wv es wl wr)/\Hid (lZ es0 es wl ak laid D P)
def oM (B sb:Nat) (w:World) (ak laid:Key) (cv:Value) (mb:Nat) (gone:Int) (u:Key) (es0:List aX) (e:Ending) (w':World):Prop:=
 ∃ (d:Key) (c:Bool) (wv:Nat->Value) (es:List aX) (wl:Nat->List Nat),e=.returned (.tuple #[aK d,.bool c])/\Below B w w'/\aA w w'/\di B sb w' cv mb gone u wv es wl/\dF es0 es ak laid d c/\dP es wl/\d.ok
def xZ (B sb pb:Nat) (w:World) (lit:Int) (D laid P:Key) (cv:Value) (mb:Nat) (gone:Int) (u:Key) (es:List aX) (p c:Value) (wx:World):Prop:=
 ∃ (fb:Nat) (F:Key) (cf:Bool) (wv':Nat->Value) (es':List aX) (iO:Nat->List Nat),p=.pointer (some ⟨fb,0,none⟩)/\c=.bool cf/\Hid (dQ B sb pb w D laid (0,0) P cv mb gone u wv' es' iO wx/\wx.rowIs fb 84 2 (fA F)/\w.heap.size + 3 <= fb/\fb ≠ pb/\gq es es' lit D F cf/\dP es' iO)
theorem G9 {lit:Int} {cf:Bool} {laid:Key} {w7:World} (M:dQ B sb pb w D laid (0,0) P cv mb gone u wv es' wl w7) (hF:gq es es' lit D F cf) (hW:dP es' wl):
  xZ B sb pb w lit D laid P cv mb gone u es (.pointer (some ⟨w7.heap.size,0,none⟩)) (.bool cf) (w7.alloc (.cells #[.int .u64 (F.1:Int),.int .u64 (F.2:Int)] 84)):=
 ⟨_,F,cf,wv,es',wl,rfl,rfl,M.later ((Below.refl _ _).alloc (Nat.le_refl _) _),dS _ _ _ _,M.mem.hs,fun e=>by have:=M.iH.lt;omega,hF,hW⟩
theorem G6 {lit:Int} {cf:Bool} {laid:Key} {w7:World} {fb:Nat} (M:dQ B sb pb w D laid (0,0) P cv mb gone u wv es' wl w7) (R:w7.rowIs fb 84 2 (fA (0,0))) (h1:w.heap.size + 3 <= fb) (h2:fb ≠ pb) (hF:gq es es' lit D F cf) (hW:dP es' wl):
  xZ B sb pb w lit D laid P cv mb gone u es (.pointer (some ⟨fb,0,none⟩)) (.bool cf) ((w7.setCell ⟨fb,0,none⟩ (.int .u64 (F.1:Int))).setCell ⟨fb,1,none⟩ (.int .u64 (F.2:Int))):=
 ⟨fb,F,cf,wv,es',wl,rfl,rfl,⟨M.mem.YJ h1 R F,M.iH.of_block (bP _ (fun e=>h2 e.symm)),M.hpb⟩,oh R,h1,h2,hF,hW⟩
end
end Rd
end Go.Proofs.YtceahffmenbibaaGreatDoor
