/- Req Cline Cref9 Cpop Cset. -/
import Derived.Test.YtceahffmenbibaaGreatDoorJ11
import Derived.Test.YtceahffmenbibaaGreatDoorJ01
import Derived.Outline
import Derived.Test.YtceahffmenbibaaGreatDoorJ00
import Derived.Laws.Bits64b
set_option linter.unusedVariables false
set_option linter.unusedSimpArgs false
namespace Go.Proofs.YtceahffmenbibaaGreatDoor
namespace Rd
section
open Go
def dK (c:UInt8):Bs->List Bs
 | []=>[[]]
 | x :: l=>if x == c then [] :: dK c l else match dK c l with | h :: t=>(x :: h) :: t | []=>[[x]]
theorem jo (c:UInt8) (l:Bs):∃ h t,dK c l=h :: t:=by
 cases l with
 | nil=>exact ⟨_,_,rfl⟩
 | cons x l=>
  unfold dK;split
  ·exact ⟨_,_,rfl⟩
  ·split
   ·exact ⟨_,_,rfl⟩
   ·exact ⟨_,_,rfl⟩
def tH (c:UInt8) (st:List Bs × Bs) (x:UInt8):List Bs × Bs:=if x == c then (st.1 ++ [st.2],[]) else (st.1,st.2 ++ [x])
theorem BB (c:UInt8) (l:Bs):BG c l=l.foldl (tH c) ([],[]):=rfl
def uw (cur:Bs):List Bs->List Bs
 | h :: t=>(cur ++ h) :: t
 | []=>[cur]
theorem sF (c:UInt8):∀ (l:Bs) (b:List Bs) (a:Bs),(l.foldl (tH c) (b,a)).1 ++ [(l.foldl (tH c) (b,a)).2]=b ++ uw a (dK c l)
 | [],b,a=>by simp [dK,uw]
 | x :: l,b,a=>by
  simp only [List.foldl_cons]
  cases h:(x == c) with
  | true=>
   simp only [tH,h,if_true];rw [sF c l];obtain ⟨f,d,e⟩:=jo c l;simp [dK,h,uw,e]
  | false=>
   simp only [tH,h,Bool.false_eq_true,if_false];rw [sF c l];obtain ⟨f,d,e⟩:=jo c l;simp [dK,h,uw,e]
theorem kN (c:UInt8) (l:Bs):splitB c l=dK c l:=by
 have:=sF c l [] [];unfold splitB;rw [BB,this];obtain ⟨b,a,e⟩:=jo c l;simp [uw,e]
theorem qB {c:UInt8}:∀ {l h:Bs} {t:List Bs},dK c l=h :: t->t ≠ []->∃ a,l=h ++ c :: a/\dK c a=t
 | [],h,t,e,ht=>by simp [dK] at e;exact absurd e.2.symm (fun x=>ht x.symm)
 | x :: l,h,t,e,ht=>by
  unfold dK at e
  cases b:(x == c) with
  | true=>
   rw [b,if_pos rfl] at e;simp only [List.cons.injEq] at e;have g:x=c:=by simpa using b
   exact ⟨l,by rw [<- e.1,g];rfl,e.2⟩
  | false=>
   rw [b,if_neg (by simp)] at e;obtain ⟨i,f,d⟩:=jo c l;rw [d] at e;simp only [List.cons.injEq] at e;obtain ⟨a,k,j⟩:=qB (l:=l) (h:=i) (t:=f) d (by rw [e.2];exact ht);exact ⟨a,by rw [k,<- e.1];rfl,by rw [j,e.2]⟩
def upto (c:UInt8) (l:Bs):Bs:=l.takeWhile (fun x=>!(x == c))
def hasB (c:UInt8) (l:Bs):Bool:=decide ((upto c l).length < l.length)
theorem iM (c:UInt8):∀ (l:Bs),dK c l=if hasB c l then upto c l :: dK c (l.drop ((upto c l).length + 1)) else [l]
 | []=>rfl
 | x :: l=>by
  rw [show dK c (x :: l)=if x == c then [] :: dK c l else match dK c l with | h :: t=>(x :: h) :: t | []=>[[x]] from rfl]
  cases b:(x == c) with
  | true=>
   have e:upto c (x :: l)=[]:=by simp [upto,b]
   have a:hasB c (x :: l)=true:=by unfold hasB;rw [e];simp
   rw [a,e];rfl
  | false=>
   have e:upto c (x :: l)=x :: upto c l:=by simp [upto,b]
   have a:hasB c (x :: l)=hasB c l:=by unfold hasB;rw [e];simp
   rw [a,e,if_neg (by simp),iM c l];cases hasB c l <;> rfl
theorem index_one (c:UInt8):∀ (l:Bs),Lib.index l [c]=if hasB c l then ((upto c l).length:Int) else -1
 | []=>by simp [Lib.index,upto,hasB]
 | x :: r=>by
  have b:=index_one c r;by_cases h:x=c
  ·subst h;simp [Lib.index,upto,hasB,List.isPrefixOf]
  ·have f:¬ c=x:=fun e=>h e.symm
   have d:(x == c)=false:=by simpa using h
   unfold Lib.index;rw [show List.isPrefixOf [c] (x :: r)=false from by simp [List.isPrefixOf,f],b];have a:upto c (x :: r)=x :: upto c r:=by simp [upto,d]
   have g:hasB c (x :: r)=hasB c r:=by unfold hasB;rw [a];simp
   rw [g,a];cases hasB c r <;> simp
theorem CQ (c:UInt8) (l:Bs):Lib.cut l [c]=if hasB c l then (upto c l,l.drop ((upto c l).length + 1),true) else (l,[],false):=by
 unfold Lib.cut;rw [index_one];cases h:hasB c l
 ·simp
 ·have a:l.take (upto c l).length=upto c l:=by
   have:=List.takeWhile_prefix (l:=l) (p:=fun x=>!(x == c));exact (List.prefix_iff_eq_take.1 this).symm
  simp [a]
theorem qy {p:UInt8->Bool}:∀ (l:Bs),(∀ c ∈ l,p c=true)->l.takeWhile p=l
 | [],_=>rfl
 | a :: l,h=>by rw [List.takeWhile_cons,if_pos (h a (by simp)),qy l (fun c b=>h c (by simp [b]))]
theorem J8 {l:Bs} (h:gJ l=true):hasB 32 l=false:=by
 have hd:=(kS h).1;have:upto 32 l=l:=by
  unfold upto;refine qy l fun x a=>?_
  have:=List.all_eq_true.1 hd x a;simp [p8] at this;simp [<- UInt8.toNat_inj];omega
 unfold hasB;rw [this];simp
theorem Ec (d:Bs):tO d=if Lib.hasPrefix d kg && (Lib.cut (Lib.trimPrefix d kg) [32]).2.2 && gJ (Lib.cut (Lib.trimPrefix d kg) [32]).1 && gJ (Lib.cut (Lib.trimPrefix d kg) [32]).2.1
  then some ((Lib.cut (Lib.trimPrefix d kg) [32]).1,(Lib.cut (Lib.trimPrefix d kg) [32]).2.1) else none:=by
 unfold tO;rw [kN]
 cases g:Lib.hasPrefix d kg with
 | true=>
  have h:Lib.trimPrefix d kg=d.drop 6:=by unfold Lib.trimPrefix;rw [g];rfl
  obtain ⟨n,j⟩:=List.isPrefixOf_iff_prefix.1 (show kg.isPrefixOf d=true from g);have hd:d.drop 6=n:=by rw [<- j];rfl
  rw [h,hd];have m:dK 32 d=[112] :: [99,110,102] :: dK 32 n:=by
   obtain ⟨r,l,e⟩:=jo 32 n;rw [<- j];simp [dK,e,kg]
  rw [m,CQ,iM]
  cases y:hasB 32 n with
  | true=>
   simp only [if_true];rw [iM]
   cases f:hasB 32 (n.drop ((upto 32 n).length + 1)) with
   | true=>
    simp only [if_true];obtain ⟨r,l,e⟩:=jo 32 ((n.drop ((upto 32 n).length + 1)).drop ((upto 32 (n.drop ((upto 32 n).length + 1))).length + 1));rw [e];have:gJ (n.drop ((upto 32 n).length + 1))=false:=by
     rw [Bool.eq_false_iff];intro o;rw [J8 o] at f;cases f
    simp [this]
   | false=>
    simp
  | false=>
   simp
 | false=>
  simp only [Bool.false_and];split
  ·rename_i a b v c i;split
   ·rename_i k;exfalso;simp only [Bool.and_eq_true,beq_iff_eq] at k;obtain ⟨⟨⟨q,p⟩,_⟩,_⟩:=k;subst q p;obtain ⟨x,u,t⟩:=qB i (by simp);obtain ⟨w,s,z⟩:=qB t (by simp);rw [u,s] at g;simp [Lib.hasPrefix,kg,List.isPrefixOf] at g
   ·rfl
  ·rfl
theorem PS (r:Bs):tO (99 :: r)=none:=by
 rw [Ec];have:Lib.hasPrefix (99 :: r) kg=false:=by simp [Lib.hasPrefix,kg,List.isPrefixOf]
 rw [this];rfl
theorem EA:∀ (f:Nat) (l:Bs),l.length < f->(iY f l).bind qQ=oP f l
 | 0,l,h=>by omega
 | f + 1,l,h=>by
  unfold iY oP;rw [ED]
  cases d:(l.head? == some 99) with
  | true=>
   have c:l.head? = some 99:=by simpa using d
   simp only [if_true]
   cases e:ended l with
   | false=>rfl
   | true=>
    simp only [Bool.true_and,if_true]
    cases a:comment (line l) with
    | true=>
     simp only [if_true];exact EA f _ (by have:=D5 e;omega)
    | false=>
     obtain ⟨r,b⟩:=Ty c;rw [b,PS];rfl
  | false=>
   simp only [Bool.false_eq_true,if_false,Option.bind_some];unfold qQ
   cases e:ended l with
   | false=>rfl
   | true=>
    simp only [Bool.true_and,if_true];have a:comment (line l)=false:=by
     rw [Bool.eq_false_iff];intro a;have:∃ r,line l=99 :: r:=by
      unfold comment at a;simp only [Bool.or_eq_true,beq_iff_eq] at a
      rcases a with a | a
      ·exact ⟨[],a⟩
      ·obtain ⟨t,g⟩:=List.isPrefixOf_iff_prefix.1 (show List.isPrefixOf [99,32] (line l)=true from a);exact ⟨32 :: t,by rw [<- g];rfl⟩
     obtain ⟨r,b⟩:=this;have:=Kl b;rw [this] at d;simp at d
    rw [a,Ec];simp only [Bool.false_eq_true,if_false];split <;> rfl
theorem wJ (s:Bs):pX s=fJ s:=by
 unfold pX fJ iO;by_cases h:20000 < s.length
 ·rw [if_pos h,if_pos h]
 ·rw [if_neg h,if_neg h,EA (s.length + 1) s (by omega)]
  cases oP (s.length + 1) s with
  | none=>rfl
  | some o=>
   obtain ⟨v,c,r⟩:=o;simp only;unfold body;rw [MH,ve,H9 _ (toks r) rfl];show _=_
   rw [show (List.isEmpty (toks r) || (toks r).getLast? == some [48])=jr (toks r) from rfl]
   cases kK v (toks r) with
   | false=>rfl
   | true=>
    generalize jr (toks r)=a;generalize (Lib.decDigits (zeros (toks r)) == c)=b2;cases a <;> cases b2 <;> rfl
theorem xZ (v:Bs):∀ (T:List Bs) (z:Bs),jG v (T ++ [z])=if zero z && T.all (iV v) then some (T.map eQ) else none
 | [],z=>by
  show jG v [z]=_
  unfold jG;cases zero z <;> rfl
 | t :: r,z=>by
  have c:=xZ v r z;obtain ⟨a,b,e⟩:∃ a b,r ++ [z]=a :: b:=by cases r <;> exact ⟨_,_,rfl⟩
  have:jG v ((t :: r) ++ [z])=if iV v t then (jG v (r ++ [z])).map (eQ t :: ·) else none:=by
   rw [List.cons_append,e];rfl
  rw [this,c];cases f:iV v t <;> cases g:zero z <;> cases d:r.all (iV v) <;> simp [f,d]
def pY (v:Bs):Nat->Bs->Option Cl
 | 0,_=>none
 | f + 1,s=>if s == [48] then some [] else if hasB 32 s && iV v (upto 32 s) then (pY v f (s.drop ((upto 32 s).length + 1))).map (eQ (upto 32 s) :: ·) else none
theorem EF {c:UInt8} {s:Bs} (h:hasB c s=true):(s.drop ((upto c s).length + 1)).length < s.length:=by
 unfold hasB at h;simp at h;simp;omega
theorem xY (v:Bs):∀ (f:Nat) (s:Bs),s.length < f->pY v f s=jG v (dK 32 s)
 | 0,s,h=>by omega
 | f + 1,s,h=>by
  unfold pY;rw [iM]
  cases c:hasB 32 s with
  | true=>
   have g:=xY v f (s.drop ((upto 32 s).length + 1)) (by have:=EF c;omega);have d:(s == [48])=false:=by
    rw [beq_eq_false_iff_ne];intro e;rw [e] at c;revert c;decide
   rw [d,g];obtain ⟨a,b,e⟩:=jo 32 (s.drop ((upto 32 s).length + 1));simp only [Bool.false_eq_true,if_false,if_true,Bool.true_and];rw [e];rfl
  | false=>
   simp only [Bool.false_and,Bool.false_eq_true,if_false];unfold jG zero;rfl
def Nj (v:Bs) (l:Bs):Option (Bool × Cl):=
 if Lib.hasPrefix l [100,32] then (pY v (l.length + 1) (l.drop 2)).map fun c=>(true,c) else (pY v (l.length + 1) l).map fun c=>(false,c)
theorem Mv (l:Bs):Lib.hasPrefix l [100,32]=(hasB 32 l && (upto 32 l == [100])):=by
 unfold Lib.hasPrefix
 match l with
 | []=>rfl
 | [a]=>
  by_cases d:a=32
  ·subst d;decide
  ·have e:upto 32 [a]=[a]:=by simp [upto,d]
   have:hasB 32 [a]=false:=by unfold hasB;rw [e];simp
   rw [this];simp [List.isPrefixOf]
 | a :: b :: r=>
  by_cases d:a=32
  ·subst d;have e:upto 32 (32 :: b :: r)=[]:=by simp [upto]
   rw [e];simp [List.isPrefixOf]
  ·by_cases f:b=32
   ·subst f;have e:upto 32 (a :: 32 :: r)=[a]:=by simp [upto,d]
    have i:hasB 32 (a :: 32 :: r)=true:=by unfold hasB;rw [e];simp
    rw [e,i];by_cases c:a=100
    ·subst c;simp [List.isPrefixOf]
    ·have:¬ (100:UInt8)=a:=fun e=>c e.symm
     have h:((100:UInt8) == a)=false:=by simpa using this
     have g:(a == (100:UInt8))=false:=by simpa using c
     simp [List.isPrefixOf,h,g]
   ·have e:upto 32 (a :: b :: r)=a :: b :: upto 32 r:=by simp [upto,d,f]
    have:¬ (32:UInt8)=b:=fun e=>f e.symm
    rw [e];simp [List.isPrefixOf,this]
theorem Ni (v l:Bs):Nj v l=iy v l:=by
 unfold Nj iy;rw [kN,Mv,xY v _ l (by omega),iM 32 l]
 cases b:hasB 32 l with
 | true=>
  simp only [Bool.true_and,if_true,List.head?_cons,List.tail_cons,Option.some.injEq];by_cases a:upto 32 l=[100]
  ·rw [if_pos (by simpa using a),if_pos a,xY v _ (l.drop 2) (by simp;omega),a];rfl
  ·rw [if_neg (by simpa using a),if_neg a]
 | false=>
  simp only [Bool.false_and,Bool.false_eq_true,if_false,List.head?_cons,List.tail_cons,Option.some.injEq];by_cases a:l=[100]
  ·rw [if_pos a];subst a;rfl
  ·rw [if_neg a]
theorem kW {c:UInt8} (h:p8 c=true):∃ d,d < 10/\c=UInt8.ofNat (48 + d):=by
 unfold p8 at h;simp only [Bool.and_eq_true,decide_eq_true_eq] at h;refine ⟨c.toNat - 48,by omega,?_⟩;rw [<- UInt8.toNat_inj];simp;omega
theorem PZ:∀ V,V < 51->∀ d,d < 10->([UInt8.ofNat (48 + d)] == [48])=false->above [UInt8.ofNat (48 + d)] (Lib.decDigits V)=false->1 <= fZ [UInt8.ofNat (48 + d)]/\fZ [UInt8.ofNat (48 + d)] <= 50:=by decide +kernel
def Lx (V d e:Nat):Bool:=!gJ [UInt8.ofNat (48 + d),UInt8.ofNat (48 + e)] || above [UInt8.ofNat (48 + d),UInt8.ofNat (48 + e)] (Lib.decDigits V) || (decide (1 <= fZ [UInt8.ofNat (48 + d),UInt8.ofNat (48 + e)]) && decide (fZ [UInt8.ofNat (48 + d),UInt8.ofNat (48 + e)] <= 50))
theorem Pn:((List.range 51).all fun V=>(List.range 10).all fun d=>(List.range 10).all fun e=>Lx V d e)=true:=by decide +kernel
theorem Pm (V:Nat) (b:V < 51) (d:Nat) (hd:d < 10) (e:Nat) (a:e < 10) (f:gJ [UInt8.ofNat (48 + d),UInt8.ofNat (48 + e)]=true) (c:above [UInt8.ofNat (48 + d),UInt8.ofNat (48 + e)] (Lib.decDigits V)=false):1 <= fZ [UInt8.ofNat (48 + d),UInt8.ofNat (48 + e)]/\fZ [UInt8.ofNat (48 + d),UInt8.ofNat (48 + e)] <= 50:=by
 have:=List.all_eq_true.1 (List.all_eq_true.1 (List.all_eq_true.1 Pn V (List.mem_range.2 b)) d (List.mem_range.2 hd)) e (List.mem_range.2 a);unfold Lx at this;rw [f,c] at this;simpa using this
theorem NW:∀ V,V < 51->(Lib.decDigits V).length <= 2:=by decide +kernel
theorem uP {V:Nat} (p:V <= 50) {t:Bs} (h:iV (Lib.decDigits V) t=true):1 <= fZ (strip t)/\fZ (strip t) <= 50/\(strip t).length <= 2:=by
 unfold iV at h;simp only [Bool.and_eq_true,Bool.not_eq_true'] at h;obtain ⟨⟨n,o⟩,m⟩:=h;have k:=Nat.le_trans (jF m) (NW V (by omega));obtain ⟨hd,j⟩:=kS n;generalize strip t=x at *
 match x,k with
 | [],_=>exact absurd rfl j
 | [a],_=>
  obtain ⟨d,f,rfl⟩:=kW (by simpa using hd);obtain ⟨i,g⟩:=PZ V (by omega) d f o m;exact ⟨i,g,by simp⟩
 | [a,b],_=>
  simp only [List.all_cons,List.all_nil,Bool.and_true,Bool.and_eq_true] at hd;obtain ⟨d,f,rfl⟩:=kW hd.1;obtain ⟨e,l,rfl⟩:=kW hd.2;obtain ⟨i,g⟩:=Pm V (by omega) d f e l n m;exact ⟨i,g,by simp⟩
 | a :: b :: c :: r,k=>simp at k
theorem Ng {V:Nat} (a:V <= 50) {t:Bs} (h:iV (Lib.decDigits V) t=true):gH (eQ t):=by
 obtain ⟨c,b,_⟩:=uP a h;unfold eQ gH;split
 ·right;omega
 ·left;omega
theorem Ct {V:Nat} (f:V <= 50):∀ {T:List Bs} {c:Cl},jG (Lib.decDigits V) T=some c->∀ l ∈ c,gH l
 | [],c,h=>by simp [jG] at h
 | [t],c,h=>by
  unfold jG at h;split at h
  ·cases h;intro l e;simp at e
  ·cases h
 | t :: b :: r,c,h=>by
  have:jG (Lib.decDigits V) (t :: b :: r)=if iV (Lib.decDigits V) t then (jG (Lib.decDigits V) (b :: r)).map (eQ t :: ·) else none:=rfl
  rw [this] at h;split at h
  ·rename_i e;obtain ⟨d,hd,rfl⟩:=Option.map_eq_some_iff.1 h;intro l a
   rcases List.mem_cons.1 a with rfl | a
   ·exact Ng f e
   ·exact Ct f hd l a
  ·cases h
theorem Cw {V:Nat} (a:V <= 50) {l:Bs} {g:Bool} {c:Cl} (h:iy (Lib.decDigits V) l=some (g,c)):∀ l ∈ c,gH l:=by
 unfold iy at h;split at h
 ·obtain ⟨d,hd,e⟩:=Option.map_eq_some_iff.1 h;cases e;exact Ct a hd
 ·obtain ⟨d,hd,e⟩:=Option.map_eq_some_iff.1 h;cases e;exact Ct a hd
end
section
open Go Go.RowKit Go.Deep
def Sa (d:Nat):Bool:=(Lib.decDigits d == [UInt8.ofNat (48 + d)]) && decide (fZ [UInt8.ofNat (48 + d)]=(d:Int))
theorem J6:((List.range 10).all Sa)=true:=by decide +kernel
def RZ (d e:Nat):Bool:=!gJ [UInt8.ofNat (48 + d),UInt8.ofNat (48 + e)] || above [UInt8.ofNat (48 + d),UInt8.ofNat (48 + e)] [53,48] || ((Lib.decDigits (10 * d + e) == [UInt8.ofNat (48 + d),UInt8.ofNat (48 + e)]) && decide (fZ [UInt8.ofNat (48 + d),UInt8.ofNat (48 + e)]=((10 * d + e:Nat):Int)) && decide (10 * d + e <= 50))
theorem JB:((List.range 10).all fun d=>(List.range 10).all fun e=>RZ d e)=true:=by decide +kernel
theorem SS {v:Bs} (h:gJ v=true) (k:above v [53,48]=false):∃ V:Nat,V <= 50/\v=Lib.decDigits V/\fZ v=(V:Int):=by
 have i:=jF k;obtain ⟨hd,g⟩:=kS h
 match v,i with
 | [],_=>exact absurd rfl g
 | [a],_=>
  obtain ⟨d,f,rfl⟩:=kW (by simpa using hd);have:=List.all_eq_true.1 J6 d (List.mem_range.2 f);unfold Sa at this;simp only [Bool.and_eq_true,beq_iff_eq,decide_eq_true_eq] at this;exact ⟨d,by omega,this.1.symm,this.2⟩
 | [a,b],_=>
  simp only [List.all_cons,List.all_nil,Bool.and_true,Bool.and_eq_true] at hd;obtain ⟨d,f,rfl⟩:=kW hd.1;obtain ⟨e,j,rfl⟩:=kW hd.2;have:=List.all_eq_true.1 (List.all_eq_true.1 JB d (List.mem_range.2 f)) e (List.mem_range.2 j);unfold RZ at this;rw [h,k] at this;simp only [Bool.not_true,Bool.false_or,Bool.and_eq_true,beq_iff_eq,decide_eq_true_eq] at this;exact ⟨10 * d + e,this.2,this.1.1.symm,this.1.2⟩
 | a :: b :: c :: r,i=>simp at i
theorem zK (v:Bs) (T:List Bs) (h:kK v T=true):∀ (d:List (List Int) × List Int),(∀ c ∈ d.1,∀ l ∈ c,∃ t,iV v t=true/\l=eQ t)->(∀ l ∈ d.2,∃ t,iV v t=true/\l=eQ t)->
  (∀ c ∈ (T.foldl eZ d).1,∀ l ∈ c,∃ t,iV v t=true/\l=eQ t)/\(∀ l ∈ (T.foldl eZ d).2,∃ t,iV v t=true/\l=eQ t):=by
 induction T with
 | nil=>intro d f e;exact ⟨f,e⟩
 | cons t r ih=>
  intro d f e;simp only [kK,List.all_cons,Bool.and_eq_true] at h;refine ih h.2 (eZ d t) ?_ ?_
  ·intro c b;unfold eZ at b;split at b
   ·rcases List.mem_append.1 b with b | b
    ·exact f c b
    ·simp at b;rw [b];exact e
   ·exact f c b
  ·intro l a;unfold eZ at a;split at a
   ·simp at a
   ·rename_i g
    rcases List.mem_append.1 a with a | a
    ·exact e l a
    ·simp at a;have:=h.1;simp only [Bool.not_eq_true] at g;rw [g,Bool.false_or] at this;exact ⟨t,this,a⟩
theorem Qq (T:List Bs):∀ (b:List (List Int) × List Int) (n:Nat),(∀ c ∈ b.1,c.length <= n)->b.2.length <= n->(∀ c ∈ (T.foldl eZ b).1,c.length <= n + T.length)/\(T.foldl eZ b).2.length <= n + T.length:=by
 induction T with
 | nil=>intro b n e f;exact ⟨e,f⟩
 | cons t r ih=>
  intro b n e f;have d:(∀ c ∈ (eZ b t).1,c.length <= n + 1)/\(eZ b t).2.length <= n + 1:=by
   unfold eZ;split
   ·refine ⟨fun c a=>?_,by simp⟩
    rcases List.mem_append.1 a with a | a
    ·have:=e c a;omega
    ·simp at a;rw [a];omega
   ·exact ⟨fun c a=>by have:=e c a;omega,by simp;omega⟩
  have:=ih (eZ b t) (n + 1) d.1 d.2;simp only [List.foldl_cons,List.length_cons];exact ⟨fun c a=>by have:=this.1 c a;omega,by have:=this.2;omega⟩
theorem zY:∀ (l w:Bs),(gU w l).length <= l.length + 1
 | [],w=>by unfold gU;split <;> simp
 | c :: r,w=>by
  unfold gU;have:=zY r;split
  ·split
   ·have:=this [];simp;omega
   ·have:=this [];simp;omega
  ·have:=this (w ++ [c]);simp;omega
theorem Bb:∀ (f:Nat) {l v c r:Bs},oP f l=some (v,c,r)->r.length <= l.length
 | 0,l,v,c,r,h=>by simp [oP] at h
 | f + 1,l,v,c,r,h=>by
  unfold oP at h;split at h
  ·split at h
   ·have:=Bb f h;have b:(rest l).length <= l.length:=by unfold rest;simp
    omega
   ·obtain ⟨x,a,e⟩:=Option.map_eq_some_iff.1 h;simp only [Prod.mk.injEq] at e;rw [<- e.2.2];unfold rest;simp
  ·cases h
theorem D6 {s:Bs} (h:(fJ s).2.2=0):∃ V:Nat,V <= 50/\(fJ s).1=(V:Int)/\(∀ c ∈ (fJ s).2.1,∀ l ∈ c,gH l)/\(fJ s).2.1.length <= 20001/\∀ c ∈ (fJ s).2.1,c.length <= 20001:=by
 unfold fJ at h ⊢;split at h
 ·simp at h
 ·rename_i k;rw [if_neg k];split at h
  ·simp at h
  ·rename_i v c r f;have j:=Ba _ f;have u:=Bb _ f;unfold body at h ⊢;split at h
   ·rename_i e;rw [if_pos e];split at h
    ·rename_i n;rw [if_pos n];split at h
     ·simp at h
     ·rename_i a;rw [if_neg a];simp only [Bool.or_eq_true,not_or,Bool.not_eq_true] at a;obtain ⟨V,g,p,o⟩:=SS j a.1;have i:(toks r).length <= 20001:=by have:=zY r [];unfold toks;omega
      have q:=(yN (toks r)).1;refine ⟨V,g,o,?_,Nat.le_trans q i,?_⟩
      ·intro d hd l m;obtain ⟨t,b,rfl⟩:=(zK v (toks r) e ([],[]) (by simp) (by simp)).1 d hd l m;rw [p] at b;exact Ng g b
      ·intro d hd;have:=(Qq (toks r) ([],[]) 0 (by simp) (by simp)).1 d hd;omega
    ·simp at h
   ·simp at h
def Checked (s proof:Bs) (res:Int × Int):Prop:=
 if (fJ s).2.2=0 then ∃ n f:Nat,res=((n:Int),(f:Int))/\mg (Lib.decDigits (fJ s).1.toNat) (fJ s).2.1 (splitB 10 proof) 0 (n,f) else res=(0,(fJ s).2.2)
theorem qR {s c:Bs} {a b:Int × Int} (e:Checked s c a) (d:Checked s c b):a=b:=by
 unfold Checked at e d;split at e
 ·rename_i h;rw [if_pos h] at d;obtain ⟨n,f,rfl,i⟩:=e;obtain ⟨j,k,rfl,g⟩:=d;have:=wP _ _ _ _ _ _ i g;simp only [Prod.mk.injEq] at this;rw [this.1,this.2]
 ·rename_i h;rw [if_neg h] at d;rw [e,d]
end
def rV:Nat->Nat->Nat
 | 0,_=>0
 | f + 1,x=>x % 2 + rV f (x / 2)
def pc (x:Nat):Nat:=rV 64 x
theorem jC:∀ (f x:Nat),x < 2 ^ f->rV f x=0->x=0
 | 0,x,h,_=>by simp at h;omega
 | f + 1,x,h,h0=>by
  unfold rV at h0;have:=jC f (x / 2) (by rw [Nat.pow_succ] at h;omega) (by omega);omega
theorem xJ (f:Nat):rV f 0=0:=by
 induction f with
 | zero=>rfl
 | succ f ih=>unfold rV;simpa using ih
theorem nY (x:Nat):x.testBit 0=decide (x % 2=1):=by simp [Nat.testBit_zero]
theorem BZ:∀ (f x:Nat),x < 2 ^ f->rV f x=1->∀ i j,x.testBit i=true->x.testBit j=true->i=j
 | 0,x,h,h0=>by simp [rV] at h0
 | f + 1,x,h,h0=>by
  unfold rV at h0;have c:x / 2 < 2 ^ f:=by rw [Nat.pow_succ] at h;omega
  intro i j b a
  rcases Nat.mod_two_eq_zero_or_one x with e | e
  ·have d:=BZ f (x / 2) c (by omega)
   cases i with
   | zero=>rw [nY] at b;simp at b;omega
   | succ i=>
    cases j with
    | zero=>rw [nY] at a;simp at a;omega
    | succ j=>rw [Nat.testBit_succ] at b a;rw [d i j b a]
  ·have z:=jC f (x / 2) c (by omega)
   cases i with
   | zero=>
    cases j with
    | zero=>rfl
    | succ j=>rw [Nat.testBit_succ,z] at a;simp at a
   | succ i=>rw [Nat.testBit_succ,z] at b;simp at b
theorem BV:∀ (f x:Nat),x < 2 ^ f->2 <= rV f x->∃ i j,i ≠ j/\x.testBit i=true/\x.testBit j=true
 | 0,x,h,h0=>by simp [rV] at h0
 | f + 1,x,h,h0=>by
  unfold rV at h0;have b:x / 2 < 2 ^ f:=by rw [Nat.pow_succ] at h;omega
  by_cases g:2 <= rV f (x / 2)
  ·obtain ⟨i,j,d,a,c⟩:=BV f (x / 2) b g;exact ⟨i + 1,j + 1,by omega,by rw [Nat.testBit_succ];exact a,by rw [Nat.testBit_succ];exact c⟩
  ·have e:x % 2=1:=by omega
   have:x / 2 ≠ 0:=by intro z;rw [z,xJ] at h0;omega
   obtain ⟨i,a⟩:=nM.1 this;exact ⟨0,i + 1,by omega,by rw [nY];simpa using e,by rw [Nat.testBit_succ];exact a⟩
def Key.size (s:Key):Nat:=pc s.1 + pc s.2
theorem uI {s:Key} (c:s.ok) (h:s.size=0):s=(0,0):=by
 unfold Key.size pc at h;have e:=jC 64 s.1 c.1 (by omega);have d:=jC 64 s.2 c.2 (by omega);obtain ⟨a,b⟩:=s;simp only at e d;rw [e,d]
theorem rU:Key.size (0,0)=0:=by decide
theorem tJ {s:Key} (c:s.ok) (h:s.size=1):∃ l,dV l/\s=single l:=by
 have g:s ≠ (0,0):=by intro e;rw [e,rU] at h;cases h
 obtain ⟨l,b⟩:=(jq s).1 g;have f:=Key.Jc c b;refine ⟨l,f,kz fun x=>?_⟩;rw [df (dw f)]
 cases a:s.has x with
 | false=>
  symm;simp;intro e;rw [e,b] at a;cases a
 | true=>
  symm;simp
  unfold Key.size pc at h
  rcases gT x with rfl | ⟨i,rfl⟩ | ⟨i,rfl⟩
  ·rw [jf] at a;cases a
  ·rcases gT l with rfl | ⟨j,rfl⟩ | ⟨j,rfl⟩
   ·rw [jf] at b;cases b
   ·rw [fP] at a b;have d:rV 64 s.1 ≠ 0:=fun e=>by rw [jC 64 s.1 c.1 e] at a;simp at a
    rw [BZ 64 s.1 c.1 (by omega) i j a b]
   ·rw [fP] at a;rw [fQ] at b;have d:rV 64 s.1 ≠ 0:=fun e=>by rw [jC 64 s.1 c.1 e] at a;simp at a
    have k:rV 64 s.2 ≠ 0:=fun e=>by rw [jC 64 s.2 c.2 e] at b;simp at b
    omega
  ·rcases gT l with rfl | ⟨j,rfl⟩ | ⟨j,rfl⟩
   ·rw [jf] at b;cases b
   ·rw [fQ] at a;rw [fP] at b;have d:rV 64 s.1 ≠ 0:=fun e=>by rw [jC 64 s.1 c.1 e] at b;simp at b
    have k:rV 64 s.2 ≠ 0:=fun e=>by rw [jC 64 s.2 c.2 e] at a;simp at a
    omega
   ·rw [fQ] at a b;have d:rV 64 s.2 ≠ 0:=fun e=>by rw [jC 64 s.2 c.2 e] at a;simp at a
    rw [BZ 64 s.2 c.2 (by omega) i j a b]
theorem size_two {s:Key} (g:s.ok) (h:2 <= s.size):∃ a b,a ≠ b/\s.has a=true/\s.has b=true:=by
 unfold Key.size pc at h;by_cases l:2 <= rV 64 s.1
 ·obtain ⟨i,j,f,d,c⟩:=BV 64 s.1 g.1 l;exact ⟨(i:Int) + 1,(j:Int) + 1,by omega,by rw [fP];exact d,by rw [fP];exact c⟩
 ·by_cases k:2 <= rV 64 s.2
  ·obtain ⟨i,j,f,d,c⟩:=BV 64 s.2 g.2 k;exact ⟨-((i:Int) + 1),-((j:Int) + 1),by omega,by rw [fQ];exact d,by rw [fQ];exact c⟩
  ·have n:s.1 ≠ 0:=fun e=>by rw [e,xJ] at l h;omega
   have m:s.2 ≠ 0:=fun e=>by rw [e,xJ] at k h;omega
   obtain ⟨i,d⟩:=nM.1 n;obtain ⟨j,c⟩:=nM.1 m;exact ⟨(i:Int) + 1,-((j:Int) + 1),by omega,by rw [fP];exact d,by rw [fQ];exact c⟩
theorem qD {s:Key} (f:s.ok) (h:2 <= s.size) {l:Int} (d:l ≠ 0):s.wo (single l) ≠ (0,0):=by
 obtain ⟨a,b,c,i,g⟩:=size_two f h;rw [jq];by_cases e:a=l
 ·refine ⟨b,?_⟩;rw [jN,g,df d];simp;intro j;exact c (by rw [e,j])
 ·exact ⟨a,by rw [jN,i,df d];simpa using e⟩
theorem oW (a y m M:Nat) (b:a < 256) (c:m < 256):(a + 256 * y) &&& (m + 256 * M)=(a &&& m) + 256 * (y &&& M):=by
 have d:(a &&& m) < 2 ^ 8:=Nat.lt_of_le_of_lt Nat.and_le_left b;rw [Nat.add_comm a,Nat.add_comm m,Nat.add_comm (a &&& m)];refine Nat.eq_of_testBit_eq fun i=>?_
 rw [Nat.testBit_and,show 256=2 ^ 8 from rfl,Nat.testBit_two_pow_mul_add _ b,Nat.testBit_two_pow_mul_add _ c,Nat.testBit_two_pow_mul_add _ d];split <;> simp [Nat.testBit_and]
def rep (c:Nat):Nat->Nat
 | 0=>0
 | n + 1=>c + 256 * rep c n
theorem xG (c n:Nat):rep c (n + 1)=c + 256 * rep c n:=rfl
def p1 (n x:Nat):Nat:=(x / 2 &&& rep 85 n) + (x &&& rep 85 n)
def p2 (n x:Nat):Nat:=(p1 n x / 4 &&& rep 51 n) + (p1 n x &&& rep 51 n)
def p3 (n x:Nat):Nat:=(p2 n x / 16 + p2 n x) &&& rep 15 n
def g1 (a:Nat):Nat:=(a / 2 &&& 85) + (a &&& 85)
def g2 (a:Nat):Nat:=(g1 a / 4 &&& 51) + (g1 a &&& 51)
theorem PV (n a y:Nat) (c:a < 256):p1 (n + 1) (a + 256 * y)=g1 a + 256 * p1 n y:=by
 have e:(a + 256 * y) / 2=(a / 2 + 128 * (y % 2)) + 256 * (y / 2):=by omega
 have k:∀ a,a < 256->∀ b,b < 2->((a / 2 + 128 * b) &&& 85)=(a / 2 &&& 85):=by decide +kernel
 unfold p1 g1;rw [xG,e,oW _ _ _ _ (by omega) (by omega),oW _ _ _ _ c (by omega),k a c _ (by omega)];omega
theorem UY:∀ a,a < 256->g1 a < 256:=by decide +kernel
theorem IK (n a y:Nat) (c:a < 256):p2 (n + 1) (a + 256 * y)=g2 a + 256 * p2 n y:=by
 have d:=UY a c;have k:∀ a,a < 256->∀ b,b < 4->((a / 4 + 64 * b) &&& 51)=(a / 4 &&& 51):=by decide +kernel
 have e:(g1 a + 256 * p1 n y) / 4=(g1 a / 4 + 64 * (p1 n y % 4)) + 256 * (p1 n y / 4):=by omega
 unfold p2;rw [PV n a y c];unfold g2;rw [xG,e,oW _ _ _ _ (by omega) (by omega),oW _ _ _ _ d (by omega),k _ d _ (by omega)];omega
theorem Sj:∀ a,a < 256->g2 a < 256/\g2 a % 16 < 5/\g2 a <= 68/\∀ b,b < 5->((g2 a / 16 + 16 * b + g2 a) &&& 15)=rV 8 a:=by decide +kernel
theorem Tn (n x:Nat):p2 n x % 16 < 5:=by
 cases n with
 | zero=>unfold p2 rep;simp
 | succ n=>
  have e:x=x % 256 + 256 * (x / 256):=by omega
  rw [e,IK n _ _ (by omega)];have:=(Sj (x % 256) (by omega)).2.1;omega
theorem PU (n a y:Nat) (b:a < 256):p3 (n + 1) (a + 256 * y)=rV 8 a + 256 * p3 n y:=by
 obtain ⟨h,g,f,d⟩:=Sj a b;have c:=Tn n y;have e:(g2 a + 256 * p2 n y) / 16 + (g2 a + 256 * p2 n y)=(g2 a / 16 + 16 * (p2 n y % 16) + g2 a) + 256 * (p2 n y / 16 + p2 n y):=by omega
 unfold p3;rw [IK n a y b,e];rw [xG,oW _ _ _ _ (by omega) (by omega),d _ c]
theorem kR (n x:Nat):rV (n + 8) x=rV 8 (x % 256) + rV n (x / 256):=by
 have e:rV n (x / 2 / 2 / 2 / 2 / 2 / 2 / 2 / 2)=rV n (x / 256):=by congr 1;omega
 simp only [rV];rw [e];omega
theorem nK (x:Nat):rV 8 x <= 8:=by simp only [rV];omega
theorem MF (x:Nat) (h:x < wide):∃ j i g f e d c b:Nat,j <= 8/\i <= 8/\g <= 8/\f <= 8/\e <= 8/\d <= 8/\c <= 8/\b <= 8/\
  p3 8 x=j + 256 * (i + 256 * (g + 256 * (f + 256 * (e + 256 * (d + 256 * (c + 256 * b))))))/\pc x=j + i + g + f + e + d + c + b:=by
 unfold wide at h;have a:∀ n y,p3 (n + 1) y=rV 8 (y % 256) + 256 * p3 n (y / 256):=fun n y=>by
  conv=>lhs;rw [show y=y % 256 + 256 * (y / 256) by omega]
  exact PU n _ _ (by omega)
 have z:∀ y,p3 0 y=0:=fun y=>by unfold p3 rep;simp
 refine ⟨_,_,_,_,_,_,_,_,nK (x % 256),nK (x / 256 % 256),nK (x / 256 / 256 % 256),nK (x / 256 / 256 / 256 % 256),nK (x / 256 / 256 / 256 / 256 % 256),nK (x / 256 / 256 / 256 / 256 / 256 % 256),nK (x / 256 / 256 / 256 / 256 / 256 / 256 % 256),nK (x / 256 / 256 / 256 / 256 / 256 / 256 / 256 % 256),?_,?_⟩
 ·rw [a 7,a 6,a 5,a 4,a 3,a 2,a 1,a 0,z,Nat.mul_zero,Nat.add_zero]
 ·unfold pc;rw [kR 56 x,kR 48 (x / 256),kR 40 (x / 256 / 256),kR 32 (x / 256 / 256 / 256),kR 24 (x / 256 / 256 / 256 / 256),kR 16 (x / 256 / 256 / 256 / 256 / 256),kR 8 (x / 256 / 256 / 256 / 256 / 256 / 256)];rw [show x / 256 / 256 / 256 / 256 / 256 / 256 / 256 % 256=x / 256 / 256 / 256 / 256 / 256 / 256 / 256 from Nat.mod_eq_of_lt (by omega)];omega
theorem BU (x A y B:Nat) (h:x < wide) (n:A=p3 8 x + p3 8 x / 256) (m:y=A + A / 65536) (l:B=y + y / 4294967296):
  B % 128=pc x/\A < wide/\y < wide/\B < 9223372036854775808/\p3 8 x < wide/\pc x <= 64:=by
 obtain ⟨C,w,p,k,j,i,g,f,L,K,J,I,H,G,F,E,e,v⟩:=MF x h;have d:A=(C + w) + 256 * ((w + p) + 256 * ((p + k) + 256 * ((k + j) + 256 * ((j + i) + 256 * ((i + g) + 256 * ((g + f) + 256 * f)))))):=by rw [n,e];omega
 have o:y=(C + w + p + k) + 256 * ((w + p + k + j) + 256 * ((p + k + j + i) + 256 * ((k + j + i + g) + 256 * ((j + i + g + f) + 256 * ((i + g + f) + 256 * ((g + f) + 256 * f)))))):=by rw [m,d];omega
 obtain ⟨z,a⟩:∃ z,z=(C + w + p + k) + 256 * ((w + p + k + j) + 256 * ((p + k + j + i) + 256 * (k + j + i + g))):=⟨_,rfl⟩;obtain ⟨u,b⟩:∃ u,u=(j + i + g + f) + 256 * ((i + g + f) + 256 * ((g + f) + 256 * f)):=⟨_,rfl⟩;have c:y=z + 4294967296 * u:=by rw [o,a,b];clear e d n m l o a b;omega
 have t:z < 4294967296:=by rw [a];clear e d n m l o a b c;omega
 have q:y / 4294967296=u:=by rw [c];clear e d n m l o a b c;omega
 have r:B=z + u + 4294967296 * u:=by rw [l,q,c];clear e d n m l o a b c t q;omega
 have s:z + u=(C + w + p + k + j + i + g + f) + 256 * ((w + p + k + j + i + g + f) + 256 * ((p + k + j + i + g + f) + 256 * (k + j + i + g + f))):=by rw [a,b];clear e d n m l o a b c t q r;omega
 have D:u < 268435456:=by rw [b];clear e d n m l o a b c t q r s;omega
 unfold wide;refine ⟨?_,?_,?_,?_,?_,?_⟩
 ·rw [r,s,v];clear e d n m l o a b c t q r s v;omega
 ·rw [d];clear e d n m l o a b c t q r s v;omega
 ·rw [c];clear e d n m l o a b c q r s v;omega
 ·rw [r,s];clear e d n m l o a b c t q r s v;omega
 ·rw [e];clear e d n m l o a b c t q r s v;omega
 ·rw [v];clear e d n m l o a b c t q r s v;omega
section
open Go Go.RowKit
def dn (s:Key):Value:=.agg #[.int .u64 (s.1:Int),.int .u64 (s.2:Int)]
theorem Ic {B:Nat} {a w:World} (h:Below B a w) (e:B <= w.heap.size) (d c b:Obj):Below B a (((w.alloc d).alloc c).alloc b):=
 ((h.alloc e d).alloc (by simp;omega) c).alloc (by simp;omega) b
theorem qU {B:Nat} {a w:World} (h:Below B a w) (d:B <= w.heap.size) (c b:Obj):Below B a ((w.alloc c).alloc b):=
 (h.alloc d c).alloc (by simp;omega) b
theorem qb (a b:Nat) (c:a < wide) (g:b < wide):bits .andNot .u64 (a:Int) (b:Int)=((andNot a b:Nat):Int):=by
 unfold wide at c g;have j:(BitVec.ofInt 64 (a:Int)).toNat=a:=by
  rw [BitVec.ofInt_natCast,BitVec.toNat_ofNat];exact Nat.mod_eq_of_lt (by omega)
 have h:(BitVec.ofInt 64 (b:Int)).toNat=b:=by
  rw [BitVec.ofInt_natCast,BitVec.toNat_ofNat];exact Nat.mod_eq_of_lt (by omega)
 have e:(BitVec.ofInt 64 (a:Int) &&& ~~~ BitVec.ofInt 64 (b:Int)).toNat=andNot a b:=by
  refine Nat.eq_of_testBit_eq fun i=>?_
  rw [mO,BitVec.testBit_toNat,BitVec.getLsbD_and,BitVec.getLsbD_not,<- BitVec.testBit_toNat,<- BitVec.testBit_toNat,j,h];by_cases f:i < 64
  ·simp [f]
  ·have:a.testBit i=false:=Nat.testBit_lt_two_pow (Nat.lt_of_lt_of_le (show a < 2 ^ 64 from c) (Nat.pow_le_pow_right (n:=2) (by decide) (show 64 <= i by omega)));simp [this]
 show IntKind.u64.wrap ((BitVec.ofInt 64 (a:Int) &&& ~~~ BitVec.ofInt 64 (b:Int)).toNat:Int)=_
 have d:=vD (a:=a) (b:=b) c;unfold wide at d;rw [e,IntKind.wrap_u64];omega
theorem gN (s t:Key) (w:World) (b:s.ok) (a:t.ok):
  Calls Tryz.prog 75 #[dn s,dn t] w fun e c=>e=.returned (dn (s.un t))/\Below w.heap.size w c:=by
 unfold dn Key.un;rw [<- bits_or_u64_nat s.1 t.1 b.1 a.1,<- bits_or_u64_nat s.2 t.2 b.2 a.2];go_enter Tryz.func75,Tryz.ntmps75
 go_wp2;exact bodyPost_ret (v:=.agg #[.int .u64 (bits .or .u64 s.1 t.1),.int .u64 (bits .or .u64 s.2 t.2)]) (by simp [results,Tryz.results75,go_sem]) rfl ⟨rfl,Ic bR lr _ _ _⟩
theorem iK (s t:Key) (w:World) (b:s.ok) (a:t.ok):
  Calls Tryz.prog 114 #[dn s,dn t] w fun e c=>e=.returned (dn (s.wo t))/\Below w.heap.size w c:=by
 unfold dn Key.wo;rw [<- qb s.1 t.1 b.1 a.1,<- qb s.2 t.2 b.2 a.2];go_enter Tryz.func114,Tryz.ntmps114
 go_wp2;exact bodyPost_ret (v:=.agg #[.int .u64 (bits .andNot .u64 s.1 t.1),.int .u64 (bits .andNot .u64 s.2 t.2)]) (by simp [results,Tryz.results114,go_sem]) rfl ⟨rfl,Ic bR lr _ _ _⟩
theorem jE (s:Key) (w:World):
  Calls Tryz.prog 118 #[dn s] w fun e a=>e=.returned (dn s.op)/\Below w.heap.size w a:=by
 unfold dn Key.op;go_enter Tryz.func118,Tryz.ntmps118
 go_wp2;exact bodyPost_ret (v:=.agg #[.int .u64 (s.2:Int),.int .u64 (s.1:Int)]) (by simp [results,Tryz.results118,go_sem]) rfl ⟨rfl,qU bR lr _ _⟩
def jg (s:Key):Bool:=decide (s=(0,0))
theorem Ht (s:Key):(((s.1 ||| s.2:Nat):Int) == 0)=jg s:=by
 unfold jg;rw [Bool.eq_iff_iff];simp only [beq_iff_eq,decide_eq_true_eq];rw [<- Be];omega
theorem nQ (s:Key) (w:World) (a:s.ok):
  Calls Tryz.prog 74 #[dn s] w fun e b=>e=.returned (.bool (jg s))/\Below w.heap.size w b:=by
 rw [<- Ht,<- bits_or_u64_nat s.1 s.2 a.1 a.2];unfold dn;go_enter Tryz.func74,Tryz.ntmps74
 go_wp2;go_ret
 exact ⟨rfl,bR.alloc lr _⟩
def nO (s t:Key):Bool:=(s.1 &&& t.1) ||| (s.2 &&& t.2) != 0
theorem rz (s t:Key):nO s t=true↔∃ l,s.has l=true/\t.has l=true:=by
 rw [<- Kh];unfold nO;simp
theorem oJ (s t:Key) (w:World) (a:s.ok) (b:t.ok):
  Calls Tryz.prog 168 #[dn s,dn t] w fun e c=>e=.returned (.bool (nO s t))/\Below w.heap.size w c:=by
 have e:nO s t=(bits .or .u64 (bits .and .u64 s.1 t.1) (bits .and .u64 s.2 t.2) != 0):=by
  rw [bits_and_u64_nat s.1 t.1 a.1 b.1,bits_and_u64_nat s.2 t.2 a.2 b.2,bits_or_u64_nat _ _ (Nat.lt_of_le_of_lt Nat.and_le_left a.1) (Nat.lt_of_le_of_lt Nat.and_le_left a.2)];unfold nO;rw [Bool.eq_iff_iff];simp only [bne_iff_ne,ne_eq];omega
 rw [e];unfold dn;go_enter Tryz.func168,Tryz.ntmps168
 go_wp2;go_ret
 exact ⟨rfl,qU bR lr _ _⟩
def oq (s:Key):Bool:=s.1 &&& s.2 != 0
theorem yO (s:Key):oq s=true↔∃ l,s.has l=true/\s.has (-l)=true:=by
 rw [<- KO];unfold oq;simp
theorem Fy (s:Key) (w:World) (a:s.ok):
  Calls Tryz.prog 166 #[dn s] w fun e b=>e=.returned (.bool (oq s))/\Below w.heap.size w b:=by
 have e:oq s=(bits .and .u64 s.1 s.2 != 0):=by
  rw [bits_and_u64_nat s.1 s.2 a.1 a.2];unfold oq;rw [Bool.eq_iff_iff];simp only [bne_iff_ne,ne_eq];omega
 rw [e];unfold dn;go_enter Tryz.func166,Tryz.ntmps166
 go_wp2;go_ret
 exact ⟨rfl,bR.alloc lr _⟩
end
end Rd
end Go.Proofs.YtceahffmenbibaaGreatDoor
