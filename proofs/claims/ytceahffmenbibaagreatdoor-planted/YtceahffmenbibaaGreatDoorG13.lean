/- Req Cline Cpop Cset Cset2. -/
import Derived.Test.YtceahffmenbibaaGreatDoorG12
import Derived.Test.YtceahffmenbibaaGreatDoorG01
import Derived.Outline
import Derived.Test.YtceahffmenbibaaGreatDoorG00
import Derived.Laws.Bits64b
import Derived.Shelf.Spec.TrailingZeros
import Derived.Deep.QuietTactic
import Derived.BigQuiet
set_option linter.unusedVariables false
set_option linter.unusedSimpArgs false
set_option maxHeartbeats 1000000
set_option maxRecDepth 100000
namespace Go.Proofs.YtceahffmenbibaaGreatDoor
namespace Rd
section
open Go
def bI (c:UInt8):Bs->List Bs
 | []=>[[]]
 | x :: l=>if x == c then [] :: bI c l else match bI c l with | h :: t=>(x :: h) :: t | []=>[[x]]
theorem jB (c:UInt8) (l:Bs):∃ h t,bI c l=h :: t:=by
 cases l with
 | nil=>exact ⟨_,_,rfl⟩
 | cons x l=>
  unfold bI;split
  ·exact ⟨_,_,rfl⟩
  ·split
   ·exact ⟨_,_,rfl⟩
   ·exact ⟨_,_,rfl⟩
def qR (c:UInt8) (st:List Bs × Bs) (x:UInt8):List Bs × Bs:=if x == c then (st.1 ++ [st.2],[]) else (st.1,st.2 ++ [x])
theorem Ag (c:UInt8) (l:Bs):Ah c l=l.foldl (qR c) ([],[]):=rfl
def rT (cur:Bs):List Bs->List Bs
 | h :: t=>(cur ++ h) :: t
 | []=>[cur]
theorem qi (c:UInt8):∀ (l:Bs) (acc:List Bs) (cur:Bs),(l.foldl (qR c) (acc,cur)).1 ++ [(l.foldl (qR c) (acc,cur)).2]=acc ++ rT cur (bI c l)
 | [],acc,cur=>by simp [bI,rT]
 | x :: l,acc,cur=>by
  simp only [List.foldl_cons]
  cases h:(x == c) with
  | true=>
   simp only [qR,h,if_true];rw [qi c l];obtain ⟨h1,t1,e⟩:=jB c l;simp [bI,h,rT,e]
  | false=>
   simp only [qR,h,Bool.false_eq_true,if_false];rw [qi c l];obtain ⟨h1,t1,e⟩:=jB c l;simp [bI,h,rT,e]
theorem zb (c:UInt8) (l:Bs):splitB c l=bI c l:=by
 have:=qi c l [] [];unfold splitB;rw [Ag,this];obtain ⟨h1,t1,e⟩:=jB c l;simp [rT,e]
theorem nS {c:UInt8}:∀ {l h:Bs} {t:List Bs},bI c l=h :: t->t ≠ []->∃ l',l=h ++ c :: l'/\bI c l'=t
 | [],h,t,e,ht=>by simp [bI] at e;exact absurd e.2.symm (fun x=>ht x.symm)
 | x :: l,h,t,e,ht=>by
  unfold bI at e
  cases hx:(x == c) with
  | true=>
   rw [hx,if_pos rfl] at e;simp only [List.cons.injEq] at e;have hc:x=c:=by simpa using hx
   exact ⟨l,by rw [<- e.1,hc];rfl,e.2⟩
  | false=>
   rw [hx,if_neg (by simp)] at e
   obtain ⟨h1,t1,e1⟩:=jB c l;rw [e1] at e;simp only [List.cons.injEq] at e;obtain ⟨l',e2,e3⟩:=nS (l:=l) (h:=h1) (t:=t1) e1 (by rw [e.2];exact ht)
   exact ⟨l',by rw [e2,<- e.1];rfl,by rw [e3,e.2]⟩
def upto (c:UInt8) (l:Bs):Bs:=l.takeWhile (fun x=>!(x == c))
def hasB (c:UInt8) (l:Bs):Bool:=decide ((upto c l).length < l.length)
theorem nR (c:UInt8):∀ (l:Bs),bI c l=if hasB c l then upto c l :: bI c (l.drop ((upto c l).length + 1)) else [l]
 | []=>rfl
 | x :: l=>by
  rw [show bI c (x :: l)=if x == c then [] :: bI c l else match bI c l with | h :: t=>(x :: h) :: t | []=>[[x]] from rfl]
  cases hx:(x == c) with
  | true=>
   have e:upto c (x :: l)=[]:=by simp [upto,hx]
   have e2:hasB c (x :: l)=true:=by unfold hasB;rw [e];simp
   rw [e2,e];rfl
  | false=>
   have e:upto c (x :: l)=x :: upto c l:=by simp [upto,hx]
   have e2:hasB c (x :: l)=hasB c l:=by unfold hasB;rw [e];simp
   rw [e2,e,if_neg (by simp),nR c l]
   cases hasB c l <;> rfl
theorem index_one (c:UInt8):∀ (l:Bs),Lib.index l [c]=if hasB c l then ((upto c l).length:Int) else -1
 | []=>by simp [Lib.index,upto,hasB]
 | x :: r=>by
  have ih:=index_one c r;by_cases h:x=c
  ·subst h;simp [Lib.index,upto,hasB,List.isPrefixOf]
  ·have h':¬ c=x:=fun e=>h e.symm
   have hx:(x == c)=false:=by simpa using h
   unfold Lib.index;rw [show List.isPrefixOf [c] (x :: r)=false from by simp [List.isPrefixOf,h'],ih]
   have e1:upto c (x :: r)=x :: upto c r:=by simp [upto,hx]
   have e2:hasB c (x :: r)=hasB c r:=by unfold hasB;rw [e1];simp
   rw [e2,e1];cases hasB c r <;> simp
theorem Jb (c:UInt8) (l:Bs):Lib.cut l [c]=if hasB c l then (upto c l,l.drop ((upto c l).length + 1),true) else (l,[],false):=by
 unfold Lib.cut;rw [index_one];cases h:hasB c l
 ·simp
 ·have ht:l.take (upto c l).length=upto c l:=by
   have:=List.takeWhile_prefix (l:=l) (p:=fun x=>!(x == c))
   exact (List.prefix_iff_eq_take.1 this).symm
  simp [ht]
theorem nQ {p:UInt8->Bool}:∀ (l:Bs),(∀ c ∈ l,p c=true)->l.takeWhile p=l
 | [],_=>rfl
 | a :: l,h=>by rw [List.takeWhile_cons,if_pos (h a (by simp)),nQ l (fun c hc=>h c (by simp [hc]))]
theorem Ke {l:Bs} (h:dN l=true):hasB 32 l=false:=by
 have hd:=(jO h).1;have:upto 32 l=l:=by
  unfold upto;refine nQ l fun x hx=>?_
  have:=List.all_eq_true.1 hd x hx;simp [ny] at this;simp [<- UInt8.toNat_inj];omega
 unfold hasB;rw [this];simp
theorem Dc (ln:Bs):qY ln=if Lib.hasPrefix ln iq && (Lib.cut (Lib.trimPrefix ln iq) [32]).2.2 && dN (Lib.cut (Lib.trimPrefix ln iq) [32]).1 && dN (Lib.cut (Lib.trimPrefix ln iq) [32]).2.1
  then some ((Lib.cut (Lib.trimPrefix ln iq) [32]).1,(Lib.cut (Lib.trimPrefix ln iq) [32]).2.1) else none:=by
 unfold qY;rw [zb]
 cases hp:Lib.hasPrefix ln iq with
 | true=>
  have htr:Lib.trimPrefix ln iq=ln.drop 6:=by unfold Lib.trimPrefix;rw [hp];rfl
  obtain ⟨n,hn⟩:=List.isPrefixOf_iff_prefix.1 (show iq.isPrefixOf ln=true from hp)
  have hd:ln.drop 6=n:=by rw [<- hn];rfl
  rw [htr,hd];have hs:bI 32 ln=[112] :: [99,110,102] :: bI 32 n:=by
   obtain ⟨h1,t1,e⟩:=jB 32 n;rw [<- hn];simp [bI,e,iq]
  rw [hs,Jb,nR]
  cases hl:hasB 32 n with
  | true=>
   simp only [if_true];rw [nR]
   cases hl2:hasB 32 (n.drop ((upto 32 n).length + 1)) with
   | true=>
    simp only [if_true];obtain ⟨h1,t1,e⟩:=jB 32 ((n.drop ((upto 32 n).length + 1)).drop ((upto 32 (n.drop ((upto 32 n).length + 1))).length + 1));rw [e];have:dN (n.drop ((upto 32 n).length + 1))=false:=by
     rw [Bool.eq_false_iff];intro hh;rw [Ke hh] at hl2;cases hl2
    simp [this]
   | false=>
    simp
  | false=>
   simp
 | false=>
  simp only [Bool.false_and];split
  ·rename_i a b v c heq;split
   ·rename_i hc;exfalso;simp only [Bool.and_eq_true,beq_iff_eq] at hc;obtain ⟨⟨⟨ha,hb⟩,_⟩,_⟩:=hc;subst ha hb;obtain ⟨l1,e1,e2⟩:=nS heq (by simp)
    obtain ⟨l2,e3,e4⟩:=nS e2 (by simp)
    rw [e1,e3] at hp;simp [Lib.hasPrefix,iq,List.isPrefixOf] at hp
   ·rfl
  ·rfl
theorem Sm (r:Bs):qY (99 :: r)=none:=by
 rw [Dc];have:Lib.hasPrefix (99 :: r) iq=false:=by simp [Lib.hasPrefix,iq,List.isPrefixOf]
 rw [this];rfl
theorem Ec:∀ (f:Nat) (l:Bs),l.length < f->(fJ f l).bind oH=lT f l
 | 0,l,h=>by omega
 | f + 1,l,h=>by
  unfold fJ lT;rw [Eg]
  cases hc:(l.head? == some 99) with
  | true=>
   have hc':l.head? = some 99:=by simpa using hc
   simp only [if_true]
   cases he:ended l with
   | false=>rfl
   | true=>
    simp only [Bool.true_and,if_true]
    cases hm:comment (line l) with
    | true=>
     simp only [if_true];exact Ec f _ (by have:=CQ he;omega)
    | false=>
     obtain ⟨r,hr⟩:=Wo hc';rw [hr,Sm];rfl
  | false=>
   simp only [Bool.false_eq_true,if_false,Option.bind_some];unfold oH
   cases he:ended l with
   | false=>rfl
   | true=>
    simp only [Bool.true_and,if_true];have hm:comment (line l)=false:=by
     rw [Bool.eq_false_iff];intro hm;have:∃ r,line l=99 :: r:=by
      unfold comment at hm;simp only [Bool.or_eq_true,beq_iff_eq] at hm
      rcases hm with hm | hm
      ·exact ⟨[],hm⟩
      ·obtain ⟨t,ht⟩:=List.isPrefixOf_iff_prefix.1 (show List.isPrefixOf [99,32] (line l)=true from hm)
       exact ⟨32 :: t,by rw [<- ht];rfl⟩
     obtain ⟨r,hr⟩:=this;have:=Ku hr;rw [this] at hc;simp at hc
    rw [hm,Dc];simp only [Bool.false_eq_true,if_false];split <;> rfl
theorem Av (s:Bs):nu s=iQ s:=by
 unfold nu iQ fo;by_cases h:20000 < s.length
 ·rw [if_pos h,if_pos h]
 ·rw [if_neg h,if_neg h,Ec (s.length + 1) s (by omega)]
  cases lT (s.length + 1) s with
  | none=>rfl
  | some o=>
   obtain ⟨v,c,r⟩:=o;simp only;unfold body;rw [ND,tu,Hw _ (toks r) rfl];show _=_
   rw [show (List.isEmpty (toks r) || (toks r).getLast? == some [48])=gz (toks r) from rfl]
   cases iG v (toks r) with
   | false=>rfl
   | true=>
    generalize gz (toks r)=b1;generalize (Lib.decDigits (zeros (toks r)) == c)=b2;cases b1 <;> cases b2 <;> rfl
end
section
open Go
theorem jG {c:UInt8} (h:ny c=true):∃ d,d < 10/\c=UInt8.ofNat (48 + d):=by
 unfold ny at h;simp only [Bool.and_eq_true,decide_eq_true_eq] at h;refine ⟨c.toNat - 48,by omega,?_⟩
 rw [<- UInt8.toNat_inj];simp;omega
theorem Sv:∀ V,V < 51->∀ d,d < 10->([UInt8.ofNat (48 + d)] == [48])=false->above [UInt8.ofNat (48 + d)] (Lib.decDigits V)=false->1 <= dM [UInt8.ofNat (48 + d)]/\dM [UInt8.ofNat (48 + d)] <= 50:=by decide +kernel
def MF (V d e:Nat):Bool:=!dN [UInt8.ofNat (48 + d),UInt8.ofNat (48 + e)] || above [UInt8.ofNat (48 + d),UInt8.ofNat (48 + e)] (Lib.decDigits V) || (decide (1 <= dM [UInt8.ofNat (48 + d),UInt8.ofNat (48 + e)]) && decide (dM [UInt8.ofNat (48 + d),UInt8.ofNat (48 + e)] <= 50))
theorem RN:((List.range 51).all fun V=>(List.range 10).all fun d=>(List.range 10).all fun e=>MF V d e)=true:=by decide +kernel
theorem RJ (V:Nat) (hV:V < 51) (d:Nat) (hd:d < 10) (e:Nat) (he:e < 10) (h1:dN [UInt8.ofNat (48 + d),UInt8.ofNat (48 + e)]=true) (h2:above [UInt8.ofNat (48 + d),UInt8.ofNat (48 + e)] (Lib.decDigits V)=false):1 <= dM [UInt8.ofNat (48 + d),UInt8.ofNat (48 + e)]/\dM [UInt8.ofNat (48 + d),UInt8.ofNat (48 + e)] <= 50:=by
 have:=List.all_eq_true.1 (List.all_eq_true.1 (List.all_eq_true.1 RN V (List.mem_range.2 hV)) d (List.mem_range.2 hd)) e (List.mem_range.2 he);unfold MF at this;rw [h1,h2] at this;simpa using this
theorem Xg:∀ V,V < 51->(Lib.decDigits V).length <= 2:=by decide +kernel
theorem Kr {V:Nat} (hV:V <= 50) {t:Bs} (h:jf (Lib.decDigits V) t=true):1 <= dM (strip t)/\dM (strip t) <= 50/\(strip t).length <= 2:=by
 unfold jf at h;simp only [Bool.and_eq_true,Bool.not_eq_true'] at h;obtain ⟨⟨h1,h2⟩,h3⟩:=h;have hl:=Nat.le_trans (iN h3) (Xg V (by omega))
 obtain ⟨hd,hne⟩:=jO h1;generalize strip t=x at *
 match x,hl with
 | [],_=>exact absurd rfl hne
 | [a],_=>
  obtain ⟨d,hd1,rfl⟩:=jG (by simpa using hd)
  obtain ⟨k1,k2⟩:=Sv V (by omega) d hd1 h2 h3
  exact ⟨k1,k2,by simp⟩
 | [a,b],_=>
  simp only [List.all_cons,List.all_nil,Bool.and_true,Bool.and_eq_true] at hd;obtain ⟨d,hd1,rfl⟩:=jG hd.1;obtain ⟨e,he1,rfl⟩:=jG hd.2;obtain ⟨k1,k2⟩:=RJ V (by omega) d hd1 e he1 h1 h3
  exact ⟨k1,k2,by simp⟩
 | a :: b :: c :: r,hl=>simp at hl
theorem YW {V:Nat} (hV:V <= 50) {t:Bs} (h:jf (Lib.decDigits V) t=true):oP (dJ t):=by
 obtain ⟨h1,h2,_⟩:=Kr hV h;unfold dJ oP;split
 ·right;omega
 ·left;omega
end
def pV:Nat->Nat->Nat
 | 0,_=>0
 | f + 1,x=>x % 2 + pV f (x / 2)
def pc (x:Nat):Nat:=pV 64 x
theorem gG:∀ (f x:Nat),x < 2 ^ f->pV f x=0->x=0
 | 0,x,h,_=>by simp at h;omega
 | f + 1,x,h,h0=>by
  unfold pV at h0;have:=gG f (x / 2) (by rw [Nat.pow_succ] at h;omega) (by omega)
  omega
theorem vX (f:Nat):pV f 0=0:=by
 induction f with
 | zero=>rfl
 | succ f ih=>unfold pV;simpa using ih
theorem kV (x:Nat):x.testBit 0=decide (x % 2=1):=by simp [Nat.testBit_zero]
theorem AJ:∀ (f x:Nat),x < 2 ^ f->pV f x=1->∀ i j,x.testBit i=true->x.testBit j=true->i=j
 | 0,x,h,h0=>by simp [pV] at h0
 | f + 1,x,h,h0=>by
  unfold pV at h0;have hx:x / 2 < 2 ^ f:=by rw [Nat.pow_succ] at h;omega
  intro i j hi hj
  rcases Nat.mod_two_eq_zero_or_one x with e | e
  ·have ih:=AJ f (x / 2) hx (by omega)
   cases i with
   | zero=>rw [kV] at hi;simp at hi;omega
   | succ i=>
    cases j with
    | zero=>rw [kV] at hj;simp at hj;omega
    | succ j=>rw [Nat.testBit_succ] at hi hj;rw [ih i j hi hj]
  ·have z:=gG f (x / 2) hx (by omega)
   cases i with
   | zero=>
    cases j with
    | zero=>rfl
    | succ j=>rw [Nat.testBit_succ,z] at hj;simp at hj
   | succ i=>rw [Nat.testBit_succ,z] at hi;simp at hi
theorem AB:∀ (f x:Nat),x < 2 ^ f->2 <= pV f x->∃ i j,i ≠ j/\x.testBit i=true/\x.testBit j=true
 | 0,x,h,h0=>by simp [pV] at h0
 | f + 1,x,h,h0=>by
  unfold pV at h0;have hx:x / 2 < 2 ^ f:=by rw [Nat.pow_succ] at h;omega
  by_cases h2:2 <= pV f (x / 2)
  ·obtain ⟨i,j,hij,hi,hj⟩:=AB f (x / 2) hx h2;exact ⟨i + 1,j + 1,by omega,by rw [Nat.testBit_succ];exact hi,by rw [Nat.testBit_succ];exact hj⟩
  ·have e:x % 2=1:=by omega
   have:x / 2 ≠ 0:=by intro z;rw [z,vX] at h0;omega
   obtain ⟨i,hi⟩:=kL.1 this;exact ⟨0,i + 1,by omega,by rw [kV];simpa using e,by rw [Nat.testBit_succ];exact hi⟩
def Key.size (s:Key):Nat:=pc s.1 + pc s.2
theorem zf {s:Key} (hs:s.ok) (h:s.size=0):s=(0,0):=by
 unfold Key.size pc at h;have h1:=gG 64 s.1 hs.1 (by omega)
 have h2:=gG 64 s.2 hs.2 (by omega)
 obtain ⟨a,b⟩:=s;simp only at h1 h2;rw [h1,h2]
theorem pU:Key.size (0,0)=0:=by decide
theorem Cx {s:Key} (hs:s.ok) (h:s.size=1):∃ l,dB l/\s=single l:=by
 have ne:s ≠ (0,0):=by intro e;rw [e,pU] at h;cases h
 obtain ⟨l,hl⟩:=(mG s).1 ne;have il:=Key.I5 hs hl;refine ⟨l,il,rE fun x=>?_⟩
 rw [aR (bX il)]
 cases hx:s.has x with
 | false=>
  symm;simp;intro e;rw [e,hl] at hx;cases hx
 | true=>
  symm;simp
  unfold Key.size pc at h
  rcases eP x with rfl | ⟨i,rfl⟩ | ⟨i,rfl⟩
  ·rw [gI] at hx;cases hx
  ·rcases eP l with rfl | ⟨j,rfl⟩ | ⟨j,rfl⟩
   ·rw [gI] at hl;cases hl
   ·rw [dD] at hx hl;have h2:pV 64 s.1 ≠ 0:=fun e=>by rw [gG 64 s.1 hs.1 e] at hx;simp at hx
    rw [AJ 64 s.1 hs.1 (by omega) i j hx hl]
   ·rw [dD] at hx;rw [dE] at hl;have h2:pV 64 s.1 ≠ 0:=fun e=>by rw [gG 64 s.1 hs.1 e] at hx;simp at hx
    have h3:pV 64 s.2 ≠ 0:=fun e=>by rw [gG 64 s.2 hs.2 e] at hl;simp at hl
    omega
  ·rcases eP l with rfl | ⟨j,rfl⟩ | ⟨j,rfl⟩
   ·rw [gI] at hl;cases hl
   ·rw [dE] at hx;rw [dD] at hl;have h2:pV 64 s.1 ≠ 0:=fun e=>by rw [gG 64 s.1 hs.1 e] at hl;simp at hl
    have h3:pV 64 s.2 ≠ 0:=fun e=>by rw [gG 64 s.2 hs.2 e] at hx;simp at hx
    omega
   ·rw [dE] at hx hl;have h2:pV 64 s.2 ≠ 0:=fun e=>by rw [gG 64 s.2 hs.2 e] at hx;simp at hx
    rw [AJ 64 s.2 hs.2 (by omega) i j hx hl]
theorem size_two {s:Key} (hs:s.ok) (h:2 <= s.size):∃ a b,a ≠ b/\s.has a=true/\s.has b=true:=by
 unfold Key.size pc at h;by_cases h1:2 <= pV 64 s.1
 ·obtain ⟨i,j,hij,hi,hj⟩:=AB 64 s.1 hs.1 h1;exact ⟨(i:Int) + 1,(j:Int) + 1,by omega,by rw [dD];exact hi,by rw [dD];exact hj⟩
 ·by_cases h2:2 <= pV 64 s.2
  ·obtain ⟨i,j,hij,hi,hj⟩:=AB 64 s.2 hs.2 h2;exact ⟨-((i:Int) + 1),-((j:Int) + 1),by omega,by rw [dE];exact hi,by rw [dE];exact hj⟩
  ·have e1:s.1 ≠ 0:=fun e=>by rw [e,vX] at h1 h;omega
   have e2:s.2 ≠ 0:=fun e=>by rw [e,vX] at h2 h;omega
   obtain ⟨i,hi⟩:=kL.1 e1;obtain ⟨j,hj⟩:=kL.1 e2;exact ⟨(i:Int) + 1,-((j:Int) + 1),by omega,by rw [dD];exact hi,by rw [dE];exact hj⟩
theorem uq {s:Key} (hs:s.ok) (h:2 <= s.size) {l:Int} (hl:l ≠ 0):s.wo (single l) ≠ (0,0):=by
 obtain ⟨a,b,hab,ha,hb⟩:=size_two hs h;rw [mG];by_cases e:a=l
 ·refine ⟨b,?_⟩;rw [mM,hb,aR hl];simp;intro e';exact hab (by rw [e,e'])
 ·exact ⟨a,by rw [mM,ha,aR hl];simpa using e⟩
theorem lY (a y m M:Nat) (ha:a < 256) (hm:m < 256):(a + 256 * y) &&& (m + 256 * M)=(a &&& m) + 256 * (y &&& M):=by
 have hl:(a &&& m) < 2 ^ 8:=Nat.lt_of_le_of_lt Nat.and_le_left ha;rw [Nat.add_comm a,Nat.add_comm m,Nat.add_comm (a &&& m)];refine Nat.eq_of_testBit_eq fun i=>?_
 rw [Nat.testBit_and,show 256=2 ^ 8 from rfl,Nat.testBit_two_pow_mul_add _ ha,Nat.testBit_two_pow_mul_add _ hm,Nat.testBit_two_pow_mul_add _ hl]
 split <;> simp [Nat.testBit_and]
def rep (c:Nat):Nat->Nat
 | 0=>0
 | n + 1=>c + 256 * rep c n
theorem vV (c n:Nat):rep c (n + 1)=c + 256 * rep c n:=rfl
def p1 (n x:Nat):Nat:=(x / 2 &&& rep 85 n) + (x &&& rep 85 n)
def p2 (n x:Nat):Nat:=(p1 n x / 4 &&& rep 51 n) + (p1 n x &&& rep 51 n)
def p3 (n x:Nat):Nat:=(p2 n x / 16 + p2 n x) &&& rep 15 n
def g1 (a:Nat):Nat:=(a / 2 &&& 85) + (a &&& 85)
def g2 (a:Nat):Nat:=(g1 a / 4 &&& 51) + (g1 a &&& 51)
theorem Sq (n a y:Nat) (ha:a < 256):p1 (n + 1) (a + 256 * y)=g1 a + 256 * p1 n y:=by
 have e:(a + 256 * y) / 2=(a / 2 + 128 * (y % 2)) + 256 * (y / 2):=by omega
 have k:∀ a,a < 256->∀ b,b < 2->((a / 2 + 128 * b) &&& 85)=(a / 2 &&& 85):=by decide +kernel
 unfold p1 g1;rw [vV,e,lY _ _ _ _ (by omega) (by omega),lY _ _ _ _ ha (by omega),k a ha _ (by omega)]
 omega
theorem ZK:∀ a,a < 256->g1 a < 256:=by decide +kernel
theorem IB (n a y:Nat) (ha:a < 256):p2 (n + 1) (a + 256 * y)=g2 a + 256 * p2 n y:=by
 have h1:=ZK a ha;have k:∀ a,a < 256->∀ b,b < 4->((a / 4 + 64 * b) &&& 51)=(a / 4 &&& 51):=by decide +kernel
 have e:(g1 a + 256 * p1 n y) / 4=(g1 a / 4 + 64 * (p1 n y % 4)) + 256 * (p1 n y / 4):=by omega
 unfold p2;rw [Sq n a y ha];unfold g2;rw [vV,e,lY _ _ _ _ (by omega) (by omega),lY _ _ _ _ h1 (by omega),k _ h1 _ (by omega)]
 omega
theorem Vb:∀ a,a < 256->g2 a < 256/\g2 a % 16 < 5/\g2 a <= 68/\∀ b,b < 5->((g2 a / 16 + 16 * b + g2 a) &&& 15)=pV 8 a:=by decide +kernel
theorem V5 (n x:Nat):p2 n x % 16 < 5:=by
 cases n with
 | zero=>unfold p2 rep;simp
 | succ n=>
  have e:x=x % 256 + 256 * (x / 256):=by omega
  rw [e,IB n _ _ (by omega)]
  have:=(Vb (x % 256) (by omega)).2.1
  omega
theorem Sn (n a y:Nat) (ha:a < 256):p3 (n + 1) (a + 256 * y)=pV 8 a + 256 * p3 n y:=by
 obtain ⟨h1,h2,h3,h4⟩:=Vb a ha;have hl:=V5 n y;have e:(g2 a + 256 * p2 n y) / 16 + (g2 a + 256 * p2 n y)=(g2 a / 16 + 16 * (p2 n y % 16) + g2 a) + 256 * (p2 n y / 16 + p2 n y):=by omega
 unfold p3;rw [IB n a y ha,e];rw [vV,lY _ _ _ _ (by omega) (by omega),h4 _ hl]
theorem iI (n x:Nat):pV (n + 8) x=pV 8 (x % 256) + pV n (x / 256):=by
 have e:pV n (x / 2 / 2 / 2 / 2 / 2 / 2 / 2 / 2)=pV n (x / 256):=by congr 1;omega
 simp only [pV];rw [e];omega
theorem kJ (x:Nat):pV 8 x <= 8:=by simp only [pV];omega
theorem Ny (x:Nat) (h:x < wide):∃ b0 b1 b2 b3 b4 b5 b6 b7:Nat,b0 <= 8/\b1 <= 8/\b2 <= 8/\b3 <= 8/\b4 <= 8/\b5 <= 8/\b6 <= 8/\b7 <= 8/\
  p3 8 x=b0 + 256 * (b1 + 256 * (b2 + 256 * (b3 + 256 * (b4 + 256 * (b5 + 256 * (b6 + 256 * b7))))))/\pc x=b0 + b1 + b2 + b3 + b4 + b5 + b6 + b7:=by
 unfold wide at h;have st:∀ n y,p3 (n + 1) y=pV 8 (y % 256) + 256 * p3 n (y / 256):=fun n y=>by
  conv=>lhs;rw [show y=y % 256 + 256 * (y / 256) by omega]
  exact Sn n _ _ (by omega)
 have z:∀ y,p3 0 y=0:=fun y=>by unfold p3 rep;simp
 refine ⟨_,_,_,_,_,_,_,_,kJ (x % 256),kJ (x / 256 % 256),kJ (x / 256 / 256 % 256),kJ (x / 256 / 256 / 256 % 256),kJ (x / 256 / 256 / 256 / 256 % 256),kJ (x / 256 / 256 / 256 / 256 / 256 % 256),kJ (x / 256 / 256 / 256 / 256 / 256 / 256 % 256),kJ (x / 256 / 256 / 256 / 256 / 256 / 256 / 256 % 256),?_,?_⟩
 ·rw [st 7,st 6,st 5,st 4,st 3,st 2,st 1,st 0,z,Nat.mul_zero,Nat.add_zero]
 ·unfold pc;rw [iI 56 x,iI 48 (x / 256),iI 40 (x / 256 / 256),iI 32 (x / 256 / 256 / 256),iI 24 (x / 256 / 256 / 256 / 256),iI 16 (x / 256 / 256 / 256 / 256 / 256),iI 8 (x / 256 / 256 / 256 / 256 / 256 / 256)];rw [show x / 256 / 256 / 256 / 256 / 256 / 256 / 256 % 256=x / 256 / 256 / 256 / 256 / 256 / 256 / 256 from Nat.mod_eq_of_lt (by omega)]
  omega
theorem Ay (x x4 x5 x6:Nat) (h:x < wide) (h4:x4=p3 8 x + p3 8 x / 256) (h5:x5=x4 + x4 / 65536) (h6:x6=x5 + x5 / 4294967296):
  x6 % 128=pc x/\x4 < wide/\x5 < wide/\x6 < 9223372036854775808/\p3 8 x < wide/\pc x <= 64:=by
 obtain ⟨b0,b1,b2,b3,b4,b5,b6,b7,c0,c1,c2,c3,c4,c5,c6,c7,e,ep⟩:=Ny x h;have e4:x4=(b0 + b1) + 256 * ((b1 + b2) + 256 * ((b2 + b3) + 256 * ((b3 + b4) + 256 * ((b4 + b5) + 256 * ((b5 + b6) + 256 * ((b6 + b7) + 256 * b7)))))):=by rw [h4,e];omega
 have e5:x5=(b0 + b1 + b2 + b3) + 256 * ((b1 + b2 + b3 + b4) + 256 * ((b2 + b3 + b4 + b5) + 256 * ((b3 + b4 + b5 + b6) + 256 * ((b4 + b5 + b6 + b7) + 256 * ((b5 + b6 + b7) + 256 * ((b6 + b7) + 256 * b7)))))):=by rw [h5,e4];omega
 obtain ⟨lo,hlo⟩:∃ lo,lo=(b0 + b1 + b2 + b3) + 256 * ((b1 + b2 + b3 + b4) + 256 * ((b2 + b3 + b4 + b5) + 256 * (b3 + b4 + b5 + b6))):=⟨_,rfl⟩;obtain ⟨hi,hhi⟩:∃ hi,hi=(b4 + b5 + b6 + b7) + 256 * ((b5 + b6 + b7) + 256 * ((b6 + b7) + 256 * b7)):=⟨_,rfl⟩;have e5':x5=lo + 4294967296 * hi:=by rw [e5,hlo,hhi];clear e e4 h4 h5 h6 e5 hlo hhi;omega
 have hl:lo < 4294967296:=by rw [hlo];clear e e4 h4 h5 h6 e5 hlo hhi e5';omega
 have ed:x5 / 4294967296=hi:=by rw [e5'];clear e e4 h4 h5 h6 e5 hlo hhi e5';omega
 have e6:x6=lo + hi + 4294967296 * hi:=by rw [h6,ed,e5'];clear e e4 h4 h5 h6 e5 hlo hhi e5' hl ed;omega
 have e7:lo + hi=(b0 + b1 + b2 + b3 + b4 + b5 + b6 + b7) + 256 * ((b1 + b2 + b3 + b4 + b5 + b6 + b7) + 256 * ((b2 + b3 + b4 + b5 + b6 + b7) + 256 * (b3 + b4 + b5 + b6 + b7))):=by rw [hlo,hhi];clear e e4 h4 h5 h6 e5 hlo hhi e5' hl ed e6;omega
 have hh:hi < 268435456:=by rw [hhi];clear e e4 h4 h5 h6 e5 hlo hhi e5' hl ed e6 e7;omega
 unfold wide;refine ⟨?_,?_,?_,?_,?_,?_⟩
 ·rw [e6,e7,ep];clear e e4 h4 h5 h6 e5 hlo hhi e5' hl ed e6 e7 ep;omega
 ·rw [e4];clear e e4 h4 h5 h6 e5 hlo hhi e5' hl ed e6 e7 ep;omega
 ·rw [e5'];clear e e4 h4 h5 h6 e5 hlo hhi e5' ed e6 e7 ep;omega
 ·rw [e6,e7];clear e e4 h4 h5 h6 e5 hlo hhi e5' hl ed e6 e7 ep;omega
 ·rw [e];clear e e4 h4 h5 h6 e5 hlo hhi e5' hl ed e6 e7 ep;omega
 ·rw [ep];clear e e4 h4 h5 h6 e5 hlo hhi e5' hl ed e6 e7 ep;omega
section
open Go Go.RowKit
def aK (s:Key):Value:=.agg #[.int .u64 (s.1:Int),.int .u64 (s.2:Int)]
theorem HY {B:Nat} {a w:World} (h:Below B a w) (hB:B <= w.heap.size) (o1 o2 o3:Obj):Below B a (((w.alloc o1).alloc o2).alloc o3):=
 ((h.alloc hB o1).alloc (by simp;omega) o2).alloc (by simp;omega) o3
theorem tJ {B:Nat} {a w:World} (h:Below B a w) (hB:B <= w.heap.size) (o1 o2:Obj):Below B a ((w.alloc o1).alloc o2):=
 (h.alloc hB o1).alloc (by simp;omega) o2
theorem nA (a b:Nat) (ha:a < wide) (hb:b < wide):bits .andNot .u64 (a:Int) (b:Int)=((andNot a b:Nat):Int):=by
 unfold wide at ha hb;have h1:(BitVec.ofInt 64 (a:Int)).toNat=a:=by
  rw [BitVec.ofInt_natCast,BitVec.toNat_ofNat];exact Nat.mod_eq_of_lt (by omega)
 have h2:(BitVec.ofInt 64 (b:Int)).toNat=b:=by
  rw [BitVec.ofInt_natCast,BitVec.toNat_ofNat];exact Nat.mod_eq_of_lt (by omega)
 have e:(BitVec.ofInt 64 (a:Int) &&& ~~~ BitVec.ofInt 64 (b:Int)).toNat=andNot a b:=by
  refine Nat.eq_of_testBit_eq fun i=>?_
  rw [jM,BitVec.testBit_toNat,BitVec.getLsbD_and,BitVec.getLsbD_not,<- BitVec.testBit_toNat,<- BitVec.testBit_toNat,h1,h2];by_cases hi:i < 64
  ·simp [hi]
  ·have:a.testBit i=false:=Nat.testBit_lt_two_pow (Nat.lt_of_lt_of_le (show a < 2 ^ 64 from ha) (Nat.pow_le_pow_right (n:=2) (by decide) (show 64 <= i by omega)))
   simp [this]
 show IntKind.u64.wrap ((BitVec.ofInt 64 (a:Int) &&& ~~~ BitVec.ofInt 64 (b:Int)).toNat:Int)=_
 have hl:=tK (a:=a) (b:=b) ha;unfold wide at hl;rw [e,IntKind.wrap_u64];omega
theorem gu (s t:Key) (w:World) (hs:s.ok) (ht:t.ok):
  Calls Tryz.prog 75 #[aK s,aK t] w fun e w'=>e=.returned (aK (s.un t))/\Below w.heap.size w w':=by
 unfold aK Key.un;rw [<- bits_or_u64_nat s.1 t.1 hs.1 ht.1,<- bits_or_u64_nat s.2 t.2 hs.2 ht.2];go_enter Tryz.func75,Tryz.ntmps75
 go_wp2;exact bodyPost_ret (v:=.agg #[.int .u64 (bits .or .u64 s.1 t.1),.int .u64 (bits .or .u64 s.2 t.2)]) (by simp [results,Tryz.results75,go_sem]) rfl ⟨rfl,HY (Below.refl _ _) (Nat.le_refl _) _ _ _⟩
theorem nM (s t:Key) (w:World) (hs:s.ok) (ht:t.ok):
  Calls Tryz.prog 114 #[aK s,aK t] w fun e w'=>e=.returned (aK (s.wo t))/\Below w.heap.size w w':=by
 unfold aK Key.wo;rw [<- nA s.1 t.1 hs.1 ht.1,<- nA s.2 t.2 hs.2 ht.2];go_enter Tryz.func114,Tryz.ntmps114
 go_wp2;exact bodyPost_ret (v:=.agg #[.int .u64 (bits .andNot .u64 s.1 t.1),.int .u64 (bits .andNot .u64 s.2 t.2)]) (by simp [results,Tryz.results114,go_sem]) rfl ⟨rfl,HY (Below.refl _ _) (Nat.le_refl _) _ _ _⟩
theorem pW (s:Key) (w:World):
  Calls Tryz.prog 118 #[aK s] w fun e w'=>e=.returned (aK s.op)/\Below w.heap.size w w':=by
 unfold aK Key.op;go_enter Tryz.func118,Tryz.ntmps118
 go_wp2;exact bodyPost_ret (v:=.agg #[.int .u64 (s.2:Int),.int .u64 (s.1:Int)]) (by simp [results,Tryz.results118,go_sem]) rfl ⟨rfl,tJ (Below.refl _ _) (Nat.le_refl _) _ _⟩
def mR (s:Key):Bool:=decide (s=(0,0))
theorem Hg (s:Key):(((s.1 ||| s.2:Nat):Int) == 0)=mR s:=by
 unfold mR;rw [Bool.eq_iff_iff];simp only [beq_iff_eq,decide_eq_true_eq];rw [<- Lh];omega
theorem ou (s:Key) (w:World) (hs:s.ok):
  Calls Tryz.prog 74 #[aK s] w fun e w'=>e=.returned (.bool (mR s))/\Below w.heap.size w w':=by
 rw [<- Hg,<- bits_or_u64_nat s.1 s.2 hs.1 hs.2];unfold aK;go_enter Tryz.func74,Tryz.ntmps74
 go_wp2;go_ret
 exact ⟨rfl,(Below.refl _ _).alloc (Nat.le_refl _) _⟩
def N9 (s t:Key):Bool:=(s.1 &&& t.1) ||| (s.2 &&& t.2) != 0
theorem zF (s t:Key) (w:World) (hs:s.ok) (ht:t.ok):
  Calls Tryz.prog 168 #[aK s,aK t] w fun e w'=>e=.returned (.bool (N9 s t))/\Below w.heap.size w w':=by
 have e:N9 s t=(bits .or .u64 (bits .and .u64 s.1 t.1) (bits .and .u64 s.2 t.2) != 0):=by
  rw [bits_and_u64_nat s.1 t.1 hs.1 ht.1,bits_and_u64_nat s.2 t.2 hs.2 ht.2,bits_or_u64_nat _ _ (Nat.lt_of_le_of_lt Nat.and_le_left hs.1) (Nat.lt_of_le_of_lt Nat.and_le_left hs.2)];unfold N9;rw [Bool.eq_iff_iff];simp only [bne_iff_ne,ne_eq];omega
 rw [e];unfold aK;go_enter Tryz.func168,Tryz.ntmps168
 go_wp2;go_ret
 exact ⟨rfl,tJ (Below.refl _ _) (Nat.le_refl _) _ _⟩
def kZ (s:Key):Bool:=s.1 &&& s.2 != 0
theorem xG (s:Key):kZ s=true↔∃ l,s.has l=true/\s.has (-l)=true:=by
 rw [<- Ls];unfold kZ;simp
theorem ES (s:Key) (w:World) (hs:s.ok):
  Calls Tryz.prog 166 #[aK s] w fun e w'=>e=.returned (.bool (kZ s))/\Below w.heap.size w w':=by
 have e:kZ s=(bits .and .u64 s.1 s.2 != 0):=by
  rw [bits_and_u64_nat s.1 s.2 hs.1 hs.2];unfold kZ;rw [Bool.eq_iff_iff];simp only [bne_iff_ne,ne_eq];omega
 rw [e];unfold aK;go_enter Tryz.func166,Tryz.ntmps166
 go_wp2;go_ret
 exact ⟨rfl,(Below.refl _ _).alloc (Nat.le_refl _) _⟩
end
section
open Go Go.RowKit
theorem IQ {x:Nat} (h0:x ≠ 0) (h:x < wide):bits .and .u64 (x:Int) (IntKind.u64.wrap (-(x:Int)))=((2 ^ Lib.ctz 64 x:Nat):Int):=by
 have e1:IntKind.u64.wrap (-(x:Int))=((18446744073709551616 - x:Nat):Int):=by unfold wide at h;rw [IntKind.wrap_u64];omega
 rw [e1,bits_and_u64_nat x _ h (by omega)]
 congr 1
 exact (Lib.lowest_bit 64 x h0 h).1
theorem V8 (x c:Int) (w:World) (hx:(x == 0)=true) (y:Int) (k:bits .and .u64 y (IntKind.u64.wrap (-y))=c):
  Calls Tryz.prog 158 #[.agg #[.int .u64 x,.int .u64 y]] w fun e w'=>e=.returned (.agg #[.int .u64 0,.int .u64 c])/\Below w.heap.size w w':=by
 have hx':(x != 0)=false:=by simpa using hx
 clear hx;go_enter Tryz.func158,Tryz.ntmps158
 go_wp2;exact bodyPost_ret (v:=.agg #[.int .u64 0,.int .u64 c]) (by simp [results,Tryz.results158,go_sem,k]) rfl ⟨rfl,tJ (Below.refl _ _) (Nat.le_refl _) _ _⟩
theorem V9 (x c:Int) (w:World) (hx:(x != 0)=true) (y:Int) (k:bits .and .u64 x (IntKind.u64.wrap (-x))=c):
  Calls Tryz.prog 158 #[.agg #[.int .u64 x,.int .u64 y]] w fun e w'=>e=.returned (.agg #[.int .u64 c,.int .u64 0])/\Below w.heap.size w w':=by
 go_enter Tryz.func158,Tryz.ntmps158
 go_wp2;exact bodyPost_ret (v:=.agg #[.int .u64 c,.int .u64 0]) (by simp [results,Tryz.results158,go_sem,k]) rfl ⟨rfl,tJ (Below.refl _ _) (Nat.le_refl _) _ _⟩
theorem AO (s:Key) (w:World) (hs:s.ok) (h0:s ≠ (0,0)):
  Calls Tryz.prog 158 #[aK s] w fun e w'=>e=.returned (aK s.one)/\Below w.heap.size w w':=by
 unfold Key.one;by_cases h:s.1=0
 ·have h2:s.2 ≠ 0:=by
   intro e;apply h0;obtain ⟨a,b⟩:=s;simp only at h e;rw [h,e]
  rw [if_neg (by simpa using h)]
  exact V8 _ _ w (by rw [h];rfl) _ (IQ h2 hs.2)
 ·rw [if_pos h];exact V9 _ _ w (by simpa using h) _ (IQ h hs.1)
theorem RH (x k idx:Nat) (w:World) (hx0:((x:Int) == 0)=false)
  (key:IntKind.u64.wrap (bits BinOp.and IntKind.u64 (x:Int) (IntKind.u64.wrap (-(x:Int))) * 285870213051353865) / 288230376151711744=(idx:Int))
  (hi:idx < 64) (hk:k < 64) (hcell:w.cell? ⟨5,idx,none⟩=some (.int .u8 k)):
  Calls Tryz.prog 228 #[.int .u64 x] w fun e w'=>e=.returned (.int .i64 k)/\w=w':=by
 go_enter Tryz.func228,Tryz.ntmps228
 go_wp2_with (simp only [key])
 go_ret
 exact ⟨rfl,rfl⟩
theorem Mx (x:Nat) (w:World) (hx:x < wide) (h0:x ≠ 0) (hT:TabAt 5 Lib.deBruijn64tab w):
  Calls Tryz.prog 228 #[.int .u64 x] w fun e w'=>e=.returned (.int .i64 (Lib.ctz 64 x))/\w=w':=by
 obtain ⟨hlow,hk⟩:=Lib.lowest_bit 64 x h0 hx;obtain ⟨hi,htab⟩:=Lib.deBruijn64_at _ hk;have hcell:=hT _ hi;rw [htab] at hcell;exact RH x _ _ w (by simp;omega) (tz64_key x _ hx h0 hlow) hi hk hcell
theorem Ka (x y1 y2 y3 y4 y5 y6 y7:Int) (w:World)
  (k1:IntKind.u64.wrap (bits .and .u64 (x / 2) 6148914691236517205 + bits .and .u64 x 6148914691236517205)=y1)
  (k2:IntKind.u64.wrap (bits .and .u64 (y1 / 4) 3689348814741910323 + bits .and .u64 y1 3689348814741910323)=y2)
  (k3:bits .and .u64 (IntKind.u64.wrap (y2 / 16 + y2)) 1085102592571150095=y3)
  (k4:IntKind.u64.wrap (y3 + y3 / 256)=y4) (k5:IntKind.u64.wrap (y4 + y4 / 65536)=y5) (k6:IntKind.u64.wrap (y5 + y5 / 4294967296)=y6)
  (k7:bits .and .i64 (wrap64 y6) 127=y7):
  Calls Tryz.prog 160 #[.int .u64 x] w fun e w'=>e=.returned (.int .i64 y7)/\w=w':=by
 go_enter Tryz.func160,Tryz.ntmps160
 go_wp2_with (simp only [k1,k2,k3,k4,k5,k6,k7])
 go_ret
 exact ⟨rfl,rfl⟩
theorem FU (n:Int) (h0:0 <= n) (h1:n < 2 ^ 63):IntKind.i64.wrap n=n:=by
 have h2:n < 9223372036854775808:=h1;rw [IntKind.wrap_i64];omega
theorem Tg (z:Nat) (h:z < 9223372036854775808):bits .and .i64 (z:Int) 127=((z % 128:Nat):Int):=by
 have:=(bits_nat .i64 63 (by decide) FU z 127 h (by decide)).1
 rw [show ((127:Nat):Int)=127 from rfl] at this
 rw [this]
 congr 1
 exact Nat.and_two_pow_sub_one_eq_mod z 7
theorem NG (x:Nat) (w:World) (hx:x < wide):
  Calls Tryz.prog 160 #[.int .u64 x] w fun e w'=>e=.returned (.int .i64 (pc x))/\w=w':=by
 obtain ⟨z4,h4⟩:∃ z,z=p3 8 x + p3 8 x / 256:=⟨_,rfl⟩;obtain ⟨z5,h5⟩:∃ z,z=z4 + z4 / 65536:=⟨_,rfl⟩;obtain ⟨z6,h6⟩:∃ z,z=z5 + z5 / 4294967296:=⟨_,rfl⟩;obtain ⟨e7,b4,b5,b6,b3,_⟩:=Ay x z4 z5 z6 hx h4 h5 h6;have l1:p1 8 x <= 12297829382473034410:=by
  have h1:(x / 2 &&& rep 85 8) <= rep 85 8:=Nat.and_le_right;have h2:(x &&& rep 85 8) <= rep 85 8:=Nat.and_le_right;have h3:rep 85 8=6148914691236517205:=by decide
  unfold p1;omega
 have l2:p2 8 x <= 7378697629483820646:=by
  have h1:(p1 8 x / 4 &&& rep 51 8) <= rep 51 8:=Nat.and_le_right;have h2:(p1 8 x &&& rep 51 8) <= rep 51 8:=Nat.and_le_right;have h3:rep 51 8=3689348814741910323:=by decide
  unfold p2;omega
 unfold wide at *
 refine Ka x (p1 8 x:Nat) (p2 8 x:Nat) (p3 8 x:Nat) (z4:Nat) (z5:Nat) (z6:Nat) (pc x:Nat) w ?_ ?_ ?_ ?_ ?_ ?_ ?_
 ·rw [show (x:Int) / 2=((x / 2:Nat):Int) by omega,show (6148914691236517205:Int)=((6148914691236517205:Nat):Int) from rfl,bits_and_u64_nat _ _ (by omega) (by omega),bits_and_u64_nat _ _ hx (by omega),IntKind.wrap_u64]
  have:p1 8 x=(x / 2 &&& 6148914691236517205) + (x &&& 6148914691236517205):=rfl;omega
 ·rw [show ((p1 8 x:Nat):Int) / 4=((p1 8 x / 4:Nat):Int) by omega,show (3689348814741910323:Int)=((3689348814741910323:Nat):Int) from rfl,bits_and_u64_nat _ _ (by omega) (by omega),bits_and_u64_nat _ _ (by omega) (by omega),IntKind.wrap_u64]
  have:p2 8 x=(p1 8 x / 4 &&& 3689348814741910323) + (p1 8 x &&& 3689348814741910323):=rfl;omega
 ·have e:IntKind.u64.wrap (((p2 8 x:Nat):Int) / 16 + (p2 8 x:Nat))=((p2 8 x / 16 + p2 8 x:Nat):Int):=by rw [IntKind.wrap_u64];omega
  rw [e,show (1085102592571150095:Int)=((1085102592571150095:Nat):Int) from rfl,bits_and_u64_nat _ _ (by omega) (by omega)]
  rfl
 ·rw [IntKind.wrap_u64];omega
 ·rw [IntKind.wrap_u64];omega
 ·rw [IntKind.wrap_u64];omega
 ·rw [<- e7];have hw:wrap64 (z6:Int)=(z6:Int):=by unfold wrap64;omega
  rw [hw,Tg z6 b6]
theorem EZ {B:Nat} {a w:World} (h:Below B a w) (n:Nat):Below B a (w.drewN n):=h.trans ⟨rfl,rfl,rfl,Nat.le_refl _,fun _ _=>rfl⟩
theorem zB (x:Nat) (w:World) (hx:x < wide):
  Calls Tryz.prog 160 #[.int .u64 x] w fun e w'=>e=.returned (.int .i64 (pc x))/\w'=w:=
 (NG x w hx).mono fun e w' h=>⟨h.1,h.2.symm⟩
theorem gZ (s:Key) (w:World) (hs:s.ok):
  Calls Tryz.prog 110 #[aK s] w fun e w'=>e=.returned (.int .i64 (s.size:Nat))/\Below w.heap.size w w':=by
 have h1:pc s.1 <= 64:=(Ay s.1 _ _ _ hs.1 rfl rfl rfl).2.2.2.2.2;have h2:pc s.2 <= 64:=(Ay s.2 _ _ _ hs.2 rfl rfl rfl).2.2.2.2.2;obtain ⟨o1,o2⟩:=hs;obtain ⟨a,b⟩:=s;have q1:=fun w=>zB a w o1
 have q2:=fun w=>zB b w o2
 simp only at h1 h2;unfold aK Key.size;simp only;generalize pc a=pa at *
 generalize pc b=pb at *
 clear o1 o2;go_enter Tryz.func110,Tryz.ntmps110
 go_wp2;generalize hW:w.alloc (Obj.cells #[Value.int IntKind.u64 (a:Int),Value.int IntKind.u64 (b:Int)] 84)=W
 have c0:W.cell? ⟨w.heap.size,0,none⟩=some (.int .u64 (a:Int)):=by rw [<- hW];simp
 have c1:W.cell? ⟨w.heap.size,1,none⟩=some (.int .u64 (b:Int)):=by rw [<- hW];simp
 have HW:=hide hW;clear hW
 go_quiet ((go_at_call 160;first | with_reducible exact Calls.quiet_of_same (q1 _) | with_reducible exact Calls.quiet_of_same (q2 _)))
 go_wp2;go_ret
 refine ⟨?_,?_⟩
 ·show Ending.returned (.int .i64 ((pa:Int) + (pb:Int)))=_
  rw [<- Int.natCast_add]
 ·refine EZ ?_ _;rw [<- HW.out];exact (Below.refl _ _).alloc (Nat.le_refl _) _
theorem za {g:Nat} {tab:List Nat} {w:World} (h:TabAt g tab w) (o:Obj):TabAt g tab (w.alloc o):=by
 intro j hj;have:=h j hj;rw [<- this];exact ((Below.refl w.heap.size w).alloc (Nat.le_refl _) o).cell (p:=⟨g,j,none⟩) (block_lt_of_cell this)
theorem Jc (k:Nat) (hk:k < 64):Lib.ctz 64 (2 ^ k)=k:=by
 have h0:2 ^ k ≠ 0:=Nat.ne_of_gt (Nat.two_pow_pos k);have h1:2 ^ k < wide:=show 2 ^ k < 2 ^ 64 from Nat.pow_lt_pow_right (by decide) hk
 have:=(Bc h0 h1).1;rw [Nat.testBit_two_pow] at this;simpa using (of_decide_eq_true this).symm
theorem Ns (a b:Nat) (w:World) (ha:a < wide) (h0:((a:Int) != 0)=true) (k:Nat) (hk:k < 64) (e:Lib.ctz 64 a=k) (hT:TabAt 5 Lib.deBruijn64tab w):
  Calls Tryz.prog 199 #[.agg #[.int .u64 (a:Int),.int .u64 (b:Int)]] w fun e w'=>e=.returned (.int .i64 k)/\Below w.heap.size w w':=by
 have hn:a ≠ 0:=by intro e;subst e;simp at h0
 have q1:=fun o=>Mx a (w.alloc o) ha hn (za hT o)
 rw [e] at q1;clear hT hn ha e;go_enter Tryz.func199,Tryz.ntmps199
 go_wp2_with fail
 refine (q1 _).mono ?_;rintro e1 w1 ⟨rfl,rfl⟩;go_wp2;go_ret;exact ⟨rfl,(Below.refl _ _).alloc (Nat.le_refl _) _⟩
theorem Nr (a b:Nat) (w:World) (hb:b < wide) (h0:((a:Int) != 0)=false) (hb0:b ≠ 0) (k:Nat) (hk:k < 64) (e:Lib.ctz 64 b=k) (hT:TabAt 5 Lib.deBruijn64tab w):
  Calls Tryz.prog 199 #[.agg #[.int .u64 (a:Int),.int .u64 (b:Int)]] w fun e w'=>e=.returned (.int .i64 (64 + k:Nat))/\Below w.heap.size w w':=by
 have q1:=fun o=>Mx b (w.alloc o) hb hb0 (za hT o)
 rw [e] at q1;clear hT hb0 hb e;go_enter Tryz.func199,Tryz.ntmps199
 go_wp2_with fail
 refine (q1 _).mono ?_;rintro e1 w1 ⟨rfl,rfl⟩;go_wp2;go_ret;exact ⟨by show Ending.returned (.int .i64 (64 + (k:Int)))=_;rw [Int.natCast_add];rfl,(Below.refl _ _).alloc (Nat.le_refl _) _⟩
theorem zy (l:Int) (w:World) (hl:dB l) (hT:TabAt 5 Lib.deBruijn64tab w):
  Calls Tryz.prog 199 #[aK (single l)] w fun e w'=>e=.returned (.int .i64 (place l:Nat))/\Below w.heap.size w w':=by
 unfold aK single place
 rcases hl with h | h
 ·rw [if_neg (by omega),if_pos (by omega)]
  have hp:2 ^ (l.toNat - 1) ≠ 0:=Nat.ne_of_gt (Nat.two_pow_pos _);exact Ns _ _ w (show _ < 2 ^ 64 from Nat.pow_lt_pow_right (by decide) (by omega)) (by rw [bne_iff_ne];exact_mod_cast hp) _ (by omega) (Jc _ (by omega)) hT
 ·rw [if_pos (by omega),if_neg (by omega)]
  exact Nr _ _ w (show _ < 2 ^ 64 from Nat.pow_lt_pow_right (by decide) (by omega)) rfl (Nat.ne_of_gt (Nat.two_pow_pos _)) _ (by omega) (Jc _ (by omega)) hT
theorem Gg (l:Int) (w:World) (hl:dB l):
  Calls Tryz.prog 73 #[.int .i64 l] w fun e w'=>e=.returned (aK (single l))/\Below w.heap.size w w':=by
 unfold aK single
 rcases hl with h | h
 ·obtain ⟨k,rfl⟩:∃ k:Nat,l=(k:Int) + 1:=⟨(l - 1).toNat,by omega⟩
  have hp:2 ^ k < 18446744073709551616:=show 2 ^ k < 2 ^ 64 from Nat.pow_lt_pow_right (by decide) (by omega)
  have e:IntKind.u64.wrap (2 ^ k)=((2 ^ k:Nat):Int):=by
   rw [IntKind.wrap_u64,show (2:Int) ^ k=((2 ^ k:Nat):Int) by simp];generalize 2 ^ k=z at hp ⊢;omega
  rw [if_neg (by omega),show ((k:Int) + 1).toNat - 1=k by omega,<- e]
  clear e hp;go_enter Tryz.func73,Tryz.ntmps73
  go_wp2;exact bodyPost_ret (v:=.agg #[.int .u64 (IntKind.u64.wrap (2 ^ k)),.int .u64 0]) (by simp [results,Tryz.results73,go_sem]) rfl ⟨rfl,(Below.refl _ _).alloc (Nat.le_refl _) _⟩
 ·obtain ⟨k,rfl⟩:∃ k:Nat,l=-((k:Int) + 1):=⟨(-l - 1).toNat,by omega⟩
  have hp:2 ^ k < 18446744073709551616:=show 2 ^ k < 2 ^ 64 from Nat.pow_lt_pow_right (by decide) (by omega)
  have e:IntKind.u64.wrap (2 ^ k)=((2 ^ k:Nat):Int):=by
   rw [IntKind.wrap_u64,show (2:Int) ^ k=((2 ^ k:Nat):Int) by simp];generalize 2 ^ k=z at hp ⊢;omega
  rw [if_pos (by omega),show (-(-((k:Int) + 1))).toNat - 1=k by omega,<- e]
  clear e hp;go_enter Tryz.func73,Tryz.ntmps73
  go_wp2;exact bodyPost_ret (v:=.agg #[.int .u64 0,.int .u64 (IntKind.u64.wrap (2 ^ k))]) (by simp [results,Tryz.results73,go_sem]) rfl ⟨rfl,(Below.refl _ _).alloc (Nat.le_refl _) _⟩
end
end Rd
end Go.Proofs.YtceahffmenbibaaGreatDoor
