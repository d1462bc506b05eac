/- Sinv Sfal Sops Sexp Senc. -/
import Derived.Test.YtceahffmenbibaaGreatDoorG01
set_option linter.unusedVariables false
set_option linter.unusedSimpArgs false
namespace Go.Proofs.YtceahffmenbibaaGreatDoor
namespace So
section
structure xJ where
 kind:Nat
 lits:List Nat
abbrev iR:Type:=Nat->Option xJ
def cnt (ch:List Nat) (i:Nat):Nat:=(ch.filter fun p=>decide (p <= i)).length
structure jm (n:Nat) (tr ch:List Nat) (lev:Nat->Nat):Prop where
 lt:∀ x ∈ tr,x < 2 * n
 nodup:(tr.map (· / 2)).Nodup
 iC:Ii ch tr.length
 lev:∀ (i:Nat) (h:i < tr.length),lev (tr[i] / 2)=cnt ch i
def tv (tr:List Nat) (x:Nat):Int:=if x ∈ tr then 1 else if op x ∈ tr then -1 else 0
variable {n:Nat} {tr ch:List Nat} {lev:Nat->Nat} {C:iR} {rea:Nat->Int}
theorem jm.pY (h:jm n tr ch lev) {i j:Nat} (hi:i < tr.length) (b:j < tr.length) (e:tr[i] / 2=tr[j] / 2):i=j:=by
 have d:(tr.map (· / 2))[i]'(by simpa using hi)=(tr.map (· / 2))[j]'(by simpa using b):=by simpa using e
 exact (List.getElem_inj h.nodup).1 d
theorem jm.nI (h:jm n tr ch lev) {x:Nat} (k:x ∈ tr) (g:op x ∈ tr):False:=by
 obtain ⟨i,f,d⟩:=List.mem_iff_getElem.1 k;obtain ⟨j,e,b⟩:=List.mem_iff_getElem.1 g;have:i=j:=h.pY f e (by rw [d,b,gH])
 subst this;rw [d] at b;exact Kj x b.symm
theorem Cu {x:Nat}:tv tr x=1↔x ∈ tr:=by
 unfold tv;split
 ·simp_all
 ·split <;> simp_all
theorem jm.o9 (h:jm n tr ch lev) {x:Nat}:tv tr x=-1↔op x ∈ tr:=by
 unfold tv;split
 ·rename_i d;exact ⟨fun e=>by omega,fun e=>(h.nI d e).elim⟩
 ·split
  ·rename_i b;exact ⟨fun _=>b,fun _=>rfl⟩
  ·rename_i b;exact ⟨fun e=>by omega,fun e=>absurd e b⟩
theorem uu {x:Nat}:tv tr x=0↔x ∉ tr/\op x ∉ tr:=by
 unfold tv;split
 ·simp_all
 ·split <;> simp_all
theorem VB (x:Nat):tv [] x=0:=rfl
theorem wO {x:Nat} (h:x < 2 * n):op x < 2 * n:=by unfold op;split <;> omega
theorem DX (ch:List Nat) (i:Nat):cnt ch i <= ch.length:=List.length_filter_le ..
theorem uV {ch:List Nat} {i:Nat} (h:∀ p ∈ ch,p <= i):cnt ch i=ch.length:=by
 unfold cnt;rw [List.filter_eq_self.2 (fun p b=>by simpa using h p b)]
theorem cnt_mono (ch:List Nat) {i j:Nat} (h:i <= j):cnt ch i <= cnt ch j:=by
 unfold cnt
 induction ch with
 | nil=>simp
 | cons p r ih=>
  simp only [List.filter_cons];by_cases d:p <= i
  ·have b:p <= j:=by omega
   simp only [d,b,decide_true,if_true,List.length_cons];omega
  ·simp only [d,decide_false];by_cases b:p <= j
   ·simp only [b,decide_true,if_true,List.length_cons];simp;omega
   ·simp only [b,decide_false];simpa using ih
theorem JI (ch:List Nat) (q i:Nat):cnt (ch ++ [q]) i=cnt ch i + if q <= i then 1 else 0:=by
 unfold cnt;rw [List.filter_append,List.length_append];by_cases h:q <= i <;> simp [h]
theorem cnt_lt {ch:List Nat} {len:Nat} (h:Ii ch len) {d:Nat} (hd:d < ch.length) {i:Nat}:cnt ch i <= d↔i < ch[d]:=by
 have split:ch=ch.take d ++ ch[d] :: ch.drop (d + 1):=by
  rw [<- List.drop_eq_getElem_cons hd,List.take_append_drop]
 have pw:=h.1;have k:∀ p ∈ ch.take d,p < ch[d]:=fun p b=>by
  obtain ⟨j,f,rfl⟩:=List.mem_iff_getElem.1 b;rw [List.length_take] at f;rw [List.getElem_take];exact List.pairwise_iff_getElem.1 pw j d (by omega) hd (by omega)
 have l:∀ p ∈ ch.drop (d + 1),ch[d] < p:=fun p b=>by
  obtain ⟨j,f,rfl⟩:=List.mem_iff_getElem.1 b;rw [List.length_drop] at f;rw [List.getElem_drop];exact List.pairwise_iff_getElem.1 pw d _ hd (by omega) (by omega)
 have e:cnt ch i=cnt (ch.take d) i + ((if ch[d] <= i then 1 else 0) + cnt (ch.drop (d + 1)) i):=by
  unfold cnt
  conv=>lhs;rw [split]
  rw [List.filter_append,List.length_append,List.filter_cons];by_cases h:ch[d] <= i
  ·simp only [h,decide_true,if_true,List.length_cons];omega
  ·simp only [h,decide_false];simp
 constructor
 ·intro m
  rcases Nat.lt_or_ge i ch[d] with g | g
  ·exact g
  ·have:cnt (ch.take d) i=d:=by
    rw [uV (fun p b=>by have:=k p b;omega),List.length_take];omega
   rw [this,if_pos g] at e;omega
 ·intro m;have z:cnt (ch.drop (d + 1)) i=0:=by
   unfold cnt;rw [List.length_eq_zero_iff,List.filter_eq_nil_iff];intro p b;have:=l p b;simp;omega
  have:=DX (ch.take d) i;rw [List.length_take] at this;rw [z,if_neg (by omega)] at e
  omega
def eG {α:Type} (f:Nat->α) (k:Nat) (a:α):Nat->α:=fun j=>if j=k then a else f j
theorem dF {α:Type} (f:Nat->α) (k:Nat) (a:α):eG f k a k=a:=by unfold eG;rw [if_pos rfl]
theorem dh {α:Type} (f:Nat->α) {k j:Nat} (a:α) (h:j ≠ k):eG f k a j=f j:=by unfold eG;rw [if_neg h]
theorem mh {x y:Nat} (d:tv tr x=0) (b:y ∈ tr):y / 2 ≠ x / 2:=fun e=>by
 obtain ⟨g,f⟩:=uu.1 d
 rcases qQ e with rfl | rfl
 ·exact g b
 ·exact f b
theorem Lf {x:Nat} (d:tv tr x=0) (y:Nat):tv (tr ++ [x]) y=if y=x then 1 else if y=op x then -1 else tv tr y:=by
 obtain ⟨g,f⟩:=uu.1 d;unfold tv;by_cases e:y=x
 ·subst e;simp
 ·by_cases b:y=op x
  ·subst b;simp [f,Kj,kr]
  ·have:op y ≠ x:=fun h=>b (by rw [<- h,kr])
   simp [e,b,this]
theorem jm.assign (h:jm n tr ch lev) {x:Nat} (o:x < 2 * n) (g:tv tr x=0):jm n (tr ++ [x]) ch (eG lev (x / 2) ch.length) where
 lt:=fun y d=>by
  rcases List.mem_append.1 d with d | d
  ·exact h.lt y d
  ·simp at d;omega
 nodup:=by
  rw [List.map_append];refine List.nodup_append.2 ⟨h.nodup,by simp,fun a l b j=>?_⟩
  obtain ⟨y,d,rfl⟩:=List.mem_map.1 l;simp at j;subst j;exact mh g d
 iC:=⟨h.iC.1,fun p f=>by have:=h.iC.2 p f;simp;omega⟩
 lev:=fun i k=>by
  by_cases e:i < tr.length
  ·rw [List.getElem_append_left e,dh _ _ (mh g (List.getElem_mem e)),h.lev i e]
  ·have m:i=tr.length:=by simp at k;omega
   subst m;rw [List.getElem_append_right lr];simp only [Nat.sub_self,List.getElem_cons_zero];rw [dF,uV (fun p f=>by have:=h.iC.2 p f;omega)]
theorem jm.choose (h:jm n tr ch lev) {x:Nat} (g:x < 2 * n) (f:tv tr x=0):jm n (tr ++ [x]) (ch ++ [tr.length]) (eG lev (x / 2) (ch.length + 1)) where
 lt:=(h.assign g f).lt
 nodup:=(h.assign g f).nodup
 iC:=by
  refine ⟨List.pairwise_append.2 ⟨h.iC.1,by simp,fun a l b j=>?_⟩,fun p d=>?_⟩
  ·simp at j;subst j;exact h.iC.2 a l
  ·rcases List.mem_append.1 d with d | d
   ·have:=h.iC.2 p d;simp;omega
   ·simp at d;subst d;simp
 lev:=fun i k=>by
  rw [JI];by_cases e:i < tr.length
  ·rw [List.getElem_append_left e,dh _ _ (mh f (List.getElem_mem e)),h.lev i e,if_neg (by omega),Nat.add_zero]
  ·have m:i=tr.length:=by simp at k;omega
   subst m;rw [List.getElem_append_right lr];simp only [Nat.sub_self,List.getElem_cons_zero];rw [dF,uV (fun p d=>by have:=h.iC.2 p d;omega),if_pos lr]
theorem BZ {len:Nat} (h:Ii ch len) {d:Nat} (hd:d < ch.length):Ii (ch.take d) ch[d]:=
 ⟨h.1.sublist (List.take_sublist ..),fun p b=>by
  obtain ⟨j,e,rfl⟩:=List.mem_iff_getElem.1 b;rw [List.length_take] at e;rw [List.getElem_take];exact List.pairwise_iff_getElem.1 h.1 j d (by omega) hd (by omega)⟩
theorem Rf {len:Nat} (h:Ii ch len) {d:Nat} (hd:d < ch.length) {i:Nat} (hi:i < ch[d]):cnt (ch.take d) i=cnt ch i:=by
 have e:ch=ch.take d ++ ch.drop d:=(List.take_append_drop d ch).symm;have z:∀ p ∈ ch.drop d,i < p:=fun p b=>by
  obtain ⟨j,g,rfl⟩:=List.mem_iff_getElem.1 b;rw [List.length_drop] at g;rw [List.getElem_drop]
  rcases Nat.eq_zero_or_pos j with f | f
  ·subst f;exact hi
  ·have:=List.pairwise_iff_getElem.1 h.1 d (d + j) hd (by omega) (by omega);omega
 unfold cnt
 conv=>rhs;rw [e]
 rw [List.filter_append,List.length_append];have:(ch.drop d).filter (fun p=>decide (p <= i))=[]:=by
  rw [List.filter_eq_nil_iff];intro p b;have:=z p b;simp;omega
 rw [this];simp
theorem jm.back (h:jm n tr ch lev) {d:Nat} (hd:d < ch.length):jm n (tr.take ch[d]) (ch.take d) lev where
 lt:=fun x b=>h.lt x (List.mem_of_mem_take b)
 nodup:=by rw [List.map_take];exact h.nodup.sublist (List.take_sublist ..)
 iC:=by
  have:=BZ h.iC hd;have f:ch[d] < tr.length:=h.iC.2 _ (List.getElem_mem hd);rw [List.length_take,Nat.min_eq_left (by omega)];exact this
 lev:=fun i e=>by
  rw [List.length_take] at e;rw [List.getElem_take,h.lev i (by omega),Rf h.iC hd (by omega)]
def Why (C:iR) (tr:List Nat) (rea:Nat->Int) (i:Nat) (h:i < tr.length):Prop:=∃ a c r,rea (tr[i] / 2)=(a:Nat)/\C a=some c/\c.kind ≠ 2/\c.lits=tr[i] :: r/\∀ y ∈ r,∃ j,∃ hj:j < tr.length,j < i/\tr[j]=op y
structure oZ (C:iR) (tr ch:List Nat) (rea:Nat->Int):Prop where
 KQ:∀ i (h:i < tr.length),i ∈ ch->rea (tr[i] / 2)=-1
 why:∀ i (h:i < tr.length),i ∉ ch->Why C tr rea i h
theorem xZ {C:iR} {tr:List Nat} {rea uF:Nat->Int} {x i:Nat} (h:i < tr.length) (t:i < (tr ++ [x]).length) (g:uF (tr[i] / 2)=rea (tr[i] / 2)) (f:Why C tr rea i h):Why C (tr ++ [x]) uF i t:=by
 obtain ⟨a,c,r,s,q,o,m,l⟩:=f;have e:(tr ++ [x])[i]=tr[i]:=List.getElem_append_left h;refine ⟨a,c,r,by rw [e,g];exact s,q,o,by rw [e];exact m,fun y d=>?_⟩
 obtain ⟨j,k,b,u⟩:=l y d;exact ⟨j,by simp;omega,b,by rw [List.getElem_append_left k];exact u⟩
theorem oZ.assign (h:oZ C tr ch rea) (m:jm n tr ch lev) {x a:Nat} {c:xJ} {r:List Nat} (f:tv tr x=0) (t:C a=some c) (q:c.kind ≠ 2) (o:c.lits=x :: r) (s:∀ y ∈ r,op y ∈ tr):oZ C (tr ++ [x]) ch (eG rea (x / 2) (a:Nat)) where
 KQ:=fun i d b=>by
  have e:=m.iC.2 i b;rw [List.getElem_append_left e,dh _ _ (mh f (List.getElem_mem e))];exact h.KQ i e b
 why:=fun i d b=>by
  by_cases e:i < tr.length
  ·exact xZ e d (dh _ _ (mh f (List.getElem_mem e))) (h.why i e b)
  ·have v:i=tr.length:=by simp at d;omega
   subst v;have k:(tr ++ [x])[tr.length]=x:=by rw [List.getElem_append_right lr];simp
   refine ⟨a,c,r,by rw [k,dF],t,q,by rw [k];exact o,fun y l=>?_⟩
   obtain ⟨j,g,u⟩:=List.mem_iff_getElem.1 (s y l);exact ⟨j,by simp;omega,g,by rw [List.getElem_append_left g];exact u⟩
theorem oZ.choose (h:oZ C tr ch rea) (j:jm n tr ch lev) {x:Nat} (f:tv tr x=0):oZ C (tr ++ [x]) (ch ++ [tr.length]) (eG rea (x / 2) (-1)) where
 KQ:=fun i d b=>by
  rcases List.mem_append.1 b with b | b
  ·have e:=j.iC.2 i b;rw [List.getElem_append_left e,dh _ _ (mh f (List.getElem_mem e))];exact h.KQ i e b
  ·simp at b;subst b;rw [List.getElem_append_right lr];simp only [Nat.sub_self,List.getElem_cons_zero];exact dF ..
 why:=fun i d b=>by
  have e:i < tr.length:=by
   rcases Nat.lt_or_ge i tr.length with g | g
   ·exact g
   ·have:i=tr.length:=by simp at d;omega
    exact absurd (by simp [this]) b
  exact xZ e d (dh _ _ (mh f (List.getElem_mem e))) (h.why i e (fun k=>b (List.mem_append_left _ k)))
theorem oZ.back (h:oZ C tr ch rea) (s:jm n tr ch lev) {d:Nat} (hd:d < ch.length):oZ C (tr.take ch[d]) (ch.take d) rea where
 KQ:=fun i l m=>by
  rw [List.length_take] at l;rw [List.getElem_take];exact h.KQ i (by omega) (List.mem_of_mem_take m)
 why:=fun i l m=>by
  rw [List.length_take] at l;have g:i ∉ ch:=fun t=>m (by
   obtain ⟨j,o,e⟩:=List.mem_iff_getElem.1 t;refine List.mem_iff_getElem.2 ⟨j,?_,by rw [List.getElem_take];exact e⟩
   rw [List.length_take]
   rcases Nat.lt_or_ge j d with f | f
   ·omega
   ·have:ch[d] <= ch[j]:=by
     rcases Nat.eq_or_lt_of_le f with b | b
     ·subst b;exact lr
     ·exact Nat.le_of_lt (List.pairwise_iff_getElem.1 s.iC.1 d j hd o b)
    omega)
  obtain ⟨a,c,r,f,b,w,v,u⟩:=h.why i (by omega) g
  refine ⟨a,c,r,by rw [List.getElem_take];exact f,b,w,by rw [List.getElem_take];exact v,fun y q=>?_⟩
  obtain ⟨j,o,k,x⟩:=u y q;exact ⟨j,by rw [List.length_take];omega,k,by rw [List.getElem_take];exact x⟩
theorem oZ.congr {C':iR} (h:oZ C tr ch rea) (q:∀ a c x r,C a=some c->c.kind ≠ 2->c.lits=x :: r->x ∈ tr->rea (x / 2)=(a:Nat)->∃ b,C' a=some b/\b.kind ≠ 2/\∃ d,b.lits=x :: d/\∀ y,y ∈ d->y ∈ r):oZ C' tr ch rea where
 KQ:=h.KQ
 why:=fun i e o=>by
  obtain ⟨a,c,r,f,v,u,t,s⟩:=h.why i e o;obtain ⟨b,l,k,d,j,g⟩:=q a c _ r v u t (List.getElem_mem e) f;exact ⟨a,b,d,f,l,k,j,fun y m=>s y (g y m)⟩
def AR (tr:List Nat) (lev:Nat->Nat) (P p q:Nat):Prop:=∀ i (h:i < tr.length),i < P->tr[i]=op p->q ∈ tr/\lev (q / 2) <= lev (p / 2)
def qI (C:iR) (tr:List Nat) (lev:Nat->Nat) (P:Nat):Prop:=∀ a c p q r,C a=some c->c.kind ≠ 2->c.lits=p :: q :: r->AR tr lev P p q/\AR tr lev P q p
variable {P:Nat}
theorem qI.none (C:iR) (tr:List Nat) (lev:Nat->Nat):qI C tr lev 0:=fun a c p q r _ _ _=>⟨fun i _ h=>by omega,fun i _ h=>by omega⟩
theorem AR.assign {p q x v:Nat} (h:AR tr lev P p q) (m:P <= tr.length) (d:tv tr x=0):AR (tr ++ [x]) (eG lev (x / 2) v) P p q:=fun i l j e=>by
 have b:i < tr.length:=by omega
 rw [List.getElem_append_left b] at e;obtain ⟨f,k⟩:=h i b j e;refine ⟨List.mem_append_left _ f,?_⟩;have g:p / 2 ≠ x / 2:=by
  have:=mh d (List.getElem_mem b);rw [e,gH] at this;exact this
 rw [dh _ _ (mh d f),dh _ _ g];exact k
theorem qI.assign {x v:Nat} (h:qI C tr lev P) (d:P <= tr.length) (b:tv tr x=0):qI C (tr ++ [x]) (eG lev (x / 2) v) P:=fun a c p q r g f e=>
 ⟨(h a c p q r g f e).1.assign d b,(h a c p q r g f e).2.assign d b⟩
theorem AR.back {p q:Nat} (h:AR tr lev P p q) (f:jm n tr ch lev) {d:Nat} (hd:d < ch.length) (s:ch[d] <= P):AR (tr.take ch[d]) lev ch[d] p q:=fun i m k e=>by
 rw [List.length_take] at m;rw [List.getElem_take] at e;have b:i < tr.length:=by omega
 obtain ⟨r,o⟩:=h i b (by omega) e
 refine ⟨?_,o⟩;obtain ⟨j,l,g⟩:=List.mem_iff_getElem.1 r;have u:lev (p / 2)=cnt ch i:=by rw [<- f.lev i b,e,gH]
 have t:lev (q / 2)=cnt ch j:=by rw [<- f.lev j l,g]
 have w:cnt ch i <= d:=(cnt_lt f.iC hd).2 k;have v:j < ch[d]:=(cnt_lt f.iC hd).1 (by omega)
 exact List.mem_iff_getElem.2 ⟨j,by rw [List.length_take];omega,by rw [List.getElem_take];exact g⟩
theorem qI.back (h:qI C tr lev P) (b:jm n tr ch lev) {d:Nat} (hd:d < ch.length) (e:ch[d] <= P):qI C (tr.take ch[d]) lev ch[d]:=fun a c p q r j g f=>
 ⟨(h a c p q r j g f).1.back b hd e,(h a c p q r j g f).2.back b hd e⟩
def Ib (C:iR) (a:Nat) (c:xJ):Prop:=C a=some c/\c.kind ≠ 2/\2 <= c.lits.length
structure uo (n:Nat) (C:iR) (wl:Nat->List Nat):Prop where
 lists:∀ x,x < 2 * n->∀ a ∈ wl x,∃ c,Ib C a c/\(c.lits[0]? = some x\/c.lits[1]? = some x)
 two:∀ a c,Ib C a c->∀ x,c.lits[0]? = some x\/c.lits[1]? = some x->a ∈ wl x
 nodup:∀ x,x < 2 * n->(wl x).Nodup
structure xk (n:Nat) (C:iR):Prop where
 vars:∀ a c,C a=some c->(c.lits.map (· / 2)).Nodup
 lt:∀ a c,C a=some c->∀ x ∈ c.lits,x < 2 * n
variable {wl W:Nat->List Nat} {a:Nat} {c:xJ}
def kD (C:iR) (a:Nat) (c:xJ):iR:=eG C a (some c)
theorem dV (C:iR) (a:Nat) (c:xJ):kD C a c a=some c:=dF ..
theorem dK (C:iR) {a b:Nat} (c:xJ) (h:b ≠ a):kD C a c b=C b:=dh _ _ h
theorem xk.put (h:xk n C) (j:C a=some c) {k:xJ} (g:k.lits.Perm c.lits):xk n (kD C a k) where
 vars:=fun b d hd=>by
  by_cases e:b=a
  ·subst e;rw [dV] at hd;cases hd
   exact (g.map _).nodup_iff.2 (h.vars b c j)
  ·rw [dK _ _ e] at hd;exact h.vars b d hd
 lt:=fun b d hd x f=>by
  by_cases e:b=a
  ·subst e;rw [dV] at hd;cases hd
   exact h.lt b c j x (g.mem_iff.1 f)
  ·rw [dK _ _ e] at hd;exact h.lt b d hd x f
theorem uo.swap (h:uo n C W) (o:C a=some c) {p q:Nat} {r:List Nat} (l:c.lits=p :: q :: r):uo n (kD C a ⟨c.kind,q :: p :: r⟩) W where
 lists:=fun x g b s=>by
  obtain ⟨d,⟨f,j,m⟩,k⟩:=h.lists x g b s;by_cases e:b=a
  ·subst e;rw [o] at f;cases f
   refine ⟨_,⟨dV ..,j,by simp⟩,?_⟩
   rw [l] at k;simp only [List.getElem?_cons_zero,List.getElem?_cons_succ] at k ⊢;exact k.symm
  ·exact ⟨d,⟨by rw [dK _ _ e];exact f,j,m⟩,k⟩
 two:=fun b d ⟨f,j,m⟩ x g=>by
  by_cases e:b=a
  ·subst e;rw [dV] at f;cases f
   refine h.two b c ⟨o,j,by rw [l];simp⟩ x ?_
   rw [l];simp only [List.getElem?_cons_zero,List.getElem?_cons_succ] at g ⊢;exact g.symm
  ·rw [dK _ _ e] at f;exact h.two b d ⟨f,j,m⟩ x g
 nodup:=h.nodup
theorem qI.swap (h:qI C tr lev P) (s:C a=some c) {p q:Nat} {r:List Nat} (o:c.lits=p :: q :: r):qI (kD C a ⟨c.kind,q :: p :: r⟩) tr lev P:=fun b d m l k f j g=>by
 by_cases e:b=a
 ·subst e;rw [dV] at f;cases f
  simp only [List.cons.injEq] at g;obtain ⟨rfl,rfl,rfl⟩:=g;exact (h b c p q r s j o).symm
 ·rw [dK _ _ e] at f;exact h b d m l k f j g
theorem oZ.put (h:oZ C tr ch rea) {o:xJ} (k:C a=some c) (j:∀ x r,c.lits=x :: r->x ∈ tr->False):oZ (kD C a o) tr ch rea:=
 h.congr fun b d x r f m g l q=>by
  by_cases e:b=a
  ·subst e;rw [k] at f;cases f
   exact (j x r g l).elim
  ·exact ⟨d,by rw [dK _ _ e];exact f,m,r,g,fun _ h=>h⟩
theorem uo.move (h:uo n C W) (Q:xk n C) (B:C a=some c) (S:c.kind ≠ 2) {q lit o k:Nat} {r kl rest:List Nat} (v:c.lits=q :: lit :: r) (V:r[k]? = some o) (A:W lit=kl ++ a :: rest) {W':Nat->List Nat} (F:W' lit=kl ++ rest) (E:W' o=W o ++ [a]) (D:∀ x,x ≠ lit->x ≠ o->W' x=W x) (u:lit < 2 * n):
  uo n (kD C a ⟨c.kind,q :: o :: r.set k lit⟩) W':=by
 have K:=Q.vars a c B;rw [v] at K;simp only [List.map_cons,List.nodup_cons,List.mem_cons,List.mem_map,not_or,not_exists,not_and] at K;obtain ⟨⟨M,L⟩,O,_⟩:=K;have t:o ∈ r:=List.mem_of_getElem? V;have G:q ≠ lit:=fun e=>M (by rw [e])
 have I:o ≠ lit:=fun e=>O o t (by rw [e])
 have H:o ≠ q:=fun e=>L o t (by rw [e])
 have J:a ∉ kl ++ rest:=by
  have:=h.nodup lit u;rw [A,List.nodup_append] at this;obtain ⟨_,g2,w⟩:=this;rw [List.nodup_cons] at g2;intro f
  rcases List.mem_append.1 f with f | f
  ·exact w _ f _ (List.mem_cons_self ..) rfl
  ·exact g2.1 f
 have T:Ib C a c:=⟨B,S,by rw [v];simp⟩
 have ao:o < 2 * n->a ∉ W o:=fun X f=>by
  obtain ⟨d,⟨g1,_,_⟩,g2⟩:=h.lists o X a f;rw [B] at g1;cases g1
  rw [v] at g2;simp only [List.getElem?_cons_zero,List.getElem?_cons_succ,Option.some.injEq] at g2
  rcases g2 with e | e
  ·exact H e.symm
  ·exact I e.symm
 have sub:∀ x b,b ≠ a->b ∈ W' x->b ∈ W x:=fun x b m f=>by
  by_cases g:x=lit
  ·subst g;rw [F] at f;rw [A]
   rcases List.mem_append.1 f with f | f
   ·exact List.mem_append_left _ f
   ·exact List.mem_append_right _ (List.mem_cons_of_mem _ f)
  ·by_cases l:x=o
   ·subst l;rw [E] at f
    rcases List.mem_append.1 f with f | f
    ·exact f
    ·simp at f;exact absurd f m
   ·rw [D x g l] at f;exact f
 have s:∀ x b,(b=a->x ≠ lit)->b ∈ W x->b ∈ W' x:=fun x b m f=>by
  by_cases g:x=lit
  ·subst g;have N:b ≠ a:=fun e=>m e rfl
   rw [A] at f;rw [F]
   rcases List.mem_append.1 f with f | f
   ·exact List.mem_append_left _ f
   ·rcases List.mem_cons.1 f with f | f
    ·exact absurd f N
    ·exact List.mem_append_right _ f
  ·by_cases l:x=o
   ·subst l;rw [E];exact List.mem_append_left _ f
   ·rw [D x g l];exact f
 exact {
  lists:=fun x j b m=>by
   by_cases e:b=a
   ·subst e;refine ⟨_,⟨dV ..,S,by simp⟩,?_⟩
    simp only [List.getElem?_cons_zero,List.getElem?_cons_succ,Option.some.injEq];by_cases g:x=lit
    ·subst g;rw [F] at m;exact absurd m J
    ·by_cases l:x=o
     ·exact .inr l.symm
     ·rw [D x g l] at m;obtain ⟨d,⟨g1,_,_⟩,g2⟩:=h.lists x j b m;rw [B] at g1;cases g1
      rw [v] at g2;simp only [List.getElem?_cons_zero,List.getElem?_cons_succ,Option.some.injEq] at g2
      rcases g2 with e | e
      ·exact .inl e
      ·exact absurd e.symm g
   ·obtain ⟨d,⟨g1,g2,w⟩,Y⟩:=h.lists x j b (sub x b e m);exact ⟨d,⟨by rw [dK _ _ e];exact g1,g2,w⟩,Y⟩
  two:=fun b d ⟨g1,g2,w⟩ x j=>by
   by_cases e:b=a
   ·subst e;rw [dV] at g1;cases g1
    simp only [List.getElem?_cons_zero,List.getElem?_cons_succ,Option.some.injEq] at j
    rcases j with e | e
    ·subst e;exact s _ _ (fun _=>G) (h.two b c T q (by rw [v];exact .inl rfl))
    ·subst e;rw [E];simp
   ·rw [dK _ _ e] at g1;exact s x b (fun Z=>absurd Z e) (h.two b d ⟨g1,g2,w⟩ x j)
  nodup:=fun x j=>by
   by_cases g:x=lit
   ·subst g;rw [F];have:=h.nodup x j;rw [A] at this;exact this.sublist ((List.Sublist.refl kl).append (List.sublist_cons_self _ _))
   ·by_cases l:x=o
    ·subst l;rw [E];refine List.nodup_append.2 ⟨h.nodup x j,by simp,fun y U z R=>?_⟩
     simp at R;subst R;exact fun e=>ao j (e ▸ U)
    ·rw [D x g l];exact h.nodup x j }
theorem Bw {q lit o k:Nat} {r:List Nat} (d:r[k]? = some o):(q :: o :: r.set k lit).Perm (q :: lit :: r):=by
 refine List.Perm.cons _ ?_;obtain ⟨b,e⟩:=List.getElem?_eq_some_iff.1 d;have g:r=r.take k ++ o :: r.drop (k + 1):=by rw [<- e,<- List.drop_eq_getElem_cons b,List.take_append_drop]
 have f:r.set k lit=r.take k ++ lit :: r.drop (k + 1):=by
  rw [List.set_eq_take_append_cons_drop,if_pos b]
 rw [f]
 conv=>rhs;rw [g]
 have p1:(r.take k ++ lit :: r.drop (k + 1)).Perm (lit :: (r.take k ++ r.drop (k + 1))):=List.perm_middle;have p2:(r.take k ++ o :: r.drop (k + 1)).Perm (o :: (r.take k ++ r.drop (k + 1))):=List.perm_middle;exact ((p1.cons o).trans (List.Perm.swap ..)).trans (p2.symm.cons lit)
end
section
variable {n:Nat} {tr ch:List Nat} {lev:Nat->Nat} {C:iR} {rea:Nat->Int} {P:Nat} {wl:Nat->List Nat}
def RU (C C':iR):Prop:=∀ a,(C a=none/\C' a=none)\/∃ c c',C a=some c/\C' a=some c'/\c'.kind=c.kind/\c'.lits.Perm c.lits
structure FI (n lit p:Nat) (ch cZ:List Nat) (i:Nat) (C:iR) (tr:List Nat) (lev:Nat->Nat) (rea:Nat->Int) (wl:Nat->List Nat) (kl:List Nat):Prop where
 dJ:jm n tr ch lev
 pz:oZ C tr ch rea
 mg:xk n C
 oM:uo n C (fun x=>if x=lit then kl ++ cZ.drop i else wl x)
 wK:qI C tr lev p
 kept:∀ a ∈ kl,∃ c q r,C a=some c/\c.lits=q :: lit :: r/\q ∈ tr/\lev (q / 2) <= lev (lit / 2)
 hp:p < tr.length
 NI:tr[p]? = some (op lit)
 late:∀ q ∈ ch,q <= p
 pE:kl.length <= i
 vU:i <= cZ.length
variable {lit p i:Nat} {cZ kl:List Nat}
theorem FI.qd (h:FI n lit p ch cZ i C tr lev rea wl kl):lit < 2 * n:=by
 have:=h.dJ.lt _ (List.mem_of_getElem? h.NI);have:=wO this
 rwa [kr] at this
theorem FI.sK (h:FI n lit p ch cZ i C tr lev rea wl kl):op lit ∈ tr:=List.mem_of_getElem? h.NI
theorem FI.Dh (h:FI n lit p ch cZ i C tr lev rea wl kl):lit ∉ tr:=fun b=>h.dJ.nI b h.sK
theorem FI.Kz (h:FI n lit p ch cZ i C tr lev rea wl kl):lev (lit / 2)=ch.length:=by
 obtain ⟨b,e⟩:=List.getElem?_eq_some_iff.1 h.NI;have:=h.dJ.lev p b;rw [e,gH] at this;rw [this,uV h.late]
theorem FI.V9 (h:FI n lit p ch cZ i C tr lev rea wl kl) {q:Nat} (b:q ∈ tr):lev (q / 2) <= lev (lit / 2):=by
 obtain ⟨j,d,e⟩:=List.mem_iff_getElem.1 b;have:=h.dJ.lev j d;rw [e] at this;rw [this,h.Kz];exact DX ..
theorem FI.start (f:jm n tr ch lev) (h:oZ C tr ch rea) (k:xk n C) (d:uo n C wl) (g:qI C tr lev p) (b:tr[p]? = some (op lit)) (j:∀ q ∈ ch,q <= p):FI n lit p ch (wl lit) 0 C tr lev rea wl [] where
 dJ:=f
 pz:=h
 mg:=k
 oM:=by
  have e:(fun x=>if x=lit then [] ++ (wl lit).drop 0 else wl x)=wl:=by
   funext x;split
   ·rename_i e;subst e;rfl
   ·rfl
  rw [e];exact d
 wK:=g
 kept:=fun a b=>by simp at b
 hp:=(List.getElem?_eq_some_iff.1 b).1
 NI:=b
 late:=j
 pE:=zl
 vU:=zl
theorem FI.next (h:FI n lit p ch cZ i C tr lev rea wl kl) (hi:i < cZ.length):∃ c,Ib C cZ[i] c/\(c.lits[0]? = some lit\/c.lits[1]? = some lit):=
 h.oM.lists lit h.qd cZ[i] (by
  show cZ[i] ∈ (if lit=lit then kl ++ cZ.drop i else wl lit)
  rw [if_pos rfl,List.drop_eq_getElem_cons hi];exact List.mem_append_right _ (List.mem_cons_self ..))
theorem FI.Kq (h:FI n lit p ch cZ i C tr lev rea wl kl) (hi:i < cZ.length):cZ[i] ∉ kl:=fun b=>by
 have:=h.oM.nodup lit h.qd;simp only [if_true] at this;rw [List.drop_eq_getElem_cons hi,List.nodup_append] at this;exact this.2.2 _ b _ (List.mem_cons_self ..) rfl
theorem FI.swap (h:FI n lit p ch cZ i C tr lev rea wl kl) (hi:i < cZ.length) {c:xJ} (d:C cZ[i]=some c) {q:Nat} {r:List Nat} (b:c.lits=lit :: q :: r):FI n lit p ch cZ i (kD C cZ[i] ⟨c.kind,q :: lit :: r⟩) tr lev rea wl kl where
 dJ:=h.dJ
 pz:=h.pz.put d fun x k e j=>by
  rw [b] at e;obtain ⟨rfl,_⟩:=List.cons.inj e;exact h.Dh j
 mg:=h.mg.put d (by rw [b];exact List.Perm.swap ..)
 oM:=h.oM.swap d b
 wK:=h.wK.swap d b
 kept:=fun a f=>by
  have g:a ≠ cZ[i]:=fun e=>h.Kq hi (e ▸ f)
  rw [dK _ _ g];exact h.kept a f
 hp:=h.hp
 NI:=h.NI
 late:=h.late
 pE:=h.pE
 vU:=h.vU
theorem FI.KF (h:FI n lit p ch cZ i C tr lev rea wl kl) (hi:i < cZ.length):uo n C (fun x=>if x=lit then (kl ++ [cZ[i]]) ++ cZ.drop (i + 1) else wl x):=by
 have e:(kl ++ [cZ[i]]) ++ cZ.drop (i + 1)=kl ++ cZ.drop i:=by rw [List.drop_eq_getElem_cons hi];simp
 rw [e];exact h.oM
theorem FI.keep (h:FI n lit p ch cZ i C tr lev rea wl kl) (hi:i < cZ.length) {c:xJ} (f:C cZ[i]=some c) {q:Nat} {r:List Nat} (e:c.lits=q :: lit :: r) (d:q ∈ tr):FI n lit p ch cZ (i + 1) C tr lev rea wl (kl ++ [cZ[i]]) where
 dJ:=h.dJ
 pz:=h.pz
 mg:=h.mg
 oM:=h.KF hi
 wK:=h.wK
 kept:=fun a b=>by
  rcases List.mem_append.1 b with b | b
  ·exact h.kept a b
  ·simp at b;subst b;exact ⟨c,q,r,f,e,d,h.V9 d⟩
 hp:=h.hp
 NI:=h.NI
 late:=h.late
 pE:=by have:=h.pE;simp;omega
 vU:=hi
theorem FI.unit (h:FI n lit p ch cZ i C tr lev rea wl kl) (hi:i < cZ.length) {c:xJ} (k:C cZ[i]=some c) (u:c.kind ≠ 2) {q:Nat} {r:List Nat} (j:c.lits=q :: lit :: r) (e:tv tr q=0) (t:∀ y ∈ r,op y ∈ tr):
  FI n lit p ch cZ (i + 1) C (tr ++ [q]) (eG lev (q / 2) ch.length) (eG rea (q / 2) (cZ[i]:Nat)) wl (kl ++ [cZ[i]]):=by
 have g:q < 2 * n:=h.mg.lt _ _ k q (by rw [j];simp)
 have l:lit / 2 ≠ q / 2:=by
  have:=mh e h.sK;rw [gH] at this;exact this
 exact {
  dJ:=h.dJ.assign g e
  pz:=h.pz.assign h.dJ e k u j fun y f=>by
   rcases List.mem_cons.1 f with rfl | f
   ·exact h.sK
   ·exact t y f
  mg:=h.mg
  oM:=h.KF hi
  wK:=h.wK.assign (Nat.le_of_lt h.hp) e
  kept:=fun a b=>by
   rcases List.mem_append.1 b with b | b
   ·obtain ⟨d,s,o,x,w,m,v⟩:=h.kept a b;refine ⟨d,s,o,x,w,List.mem_append_left _ m,?_⟩;rw [dh _ _ (mh e m),dh _ _ l];exact v
   ·simp at b;subst b;refine ⟨c,q,r,k,j,by simp,?_⟩
    rw [dF,dh _ _ l,h.Kz];exact lr
  hp:=by have:=h.hp;simp;omega
  NI:=by rw [List.getElem?_append_left h.hp];exact h.NI
  late:=h.late
  pE:=by have:=h.pE;simp;omega
  vU:=hi }
theorem FI.move (h:FI n lit p ch cZ i C tr lev rea wl kl) (hi:i < cZ.length) {c:xJ} (m:C cZ[i]=some c) (z:c.kind ≠ 2) {q o k:Nat} {r:List Nat} (g:c.lits=q :: lit :: r) (H:q ∉ tr) (t:r[k]? = some o) (I:op o ∉ tr):
  FI n lit p ch cZ (i + 1) (kD C cZ[i] ⟨c.kind,q :: o :: r.set k lit⟩) tr lev rea (fun x=>if x=o then wl x ++ [cZ[i]] else wl x) kl:=by
 have s:=h.mg.vars _ _ m;rw [g] at s;simp only [List.map_cons,List.nodup_cons,List.mem_cons,List.mem_map,not_or,not_exists,not_and] at s;have f:o ≠ lit:=fun e=>s.2.1 o (List.mem_of_getElem? t) (by rw [e])
 exact {
  dJ:=h.dJ
  pz:=h.pz.put m fun x y e G=>by
   rw [g] at e;obtain ⟨rfl,_⟩:=List.cons.inj e;exact H G
  mg:=h.mg.put m (by rw [g];exact Bw t)
  oM:=h.oM.move h.mg m z g t (kl:=kl) (rest:=cZ.drop (i + 1)) (by
    show (if lit=lit then kl ++ cZ.drop i else wl lit)=_
    rw [if_pos rfl,List.drop_eq_getElem_cons hi]) (by simp) (by
    show (if o=lit then _ else _)=(if o=lit then _ else _) ++ [_]
    rw [if_neg f,if_neg f,if_pos rfl]) (fun x B J=>by
    show (if x=lit then _ else _)=(if x=lit then _ else _)
    rw [if_neg B,if_neg B,if_neg J]) h.qd
  wK:=fun b d E D y g1 g2 v=>by
   by_cases e:b=cZ[i]
   ·rw [e,dV] at g1;cases g1
    simp only [List.cons.injEq] at v;obtain ⟨rfl,rfl,rfl⟩:=v;refine ⟨fun j u l w=>?_,fun j u l w=>?_⟩
    ·exact absurd ((h.wK _ c _ lit r m z g).1 j u l w).1 h.Dh
    ·exact absurd (w ▸ List.getElem_mem u) I
   ·rw [dK _ _ e] at g1;exact h.wK b d E D y g1 g2 v
  kept:=fun a A=>by
   have F:a ≠ cZ[i]:=fun e=>h.Kq hi (e ▸ A)
   rw [dK _ _ F];exact h.kept a A
  hp:=h.hp
  NI:=h.NI
  late:=h.late
  pE:=Nat.le_succ_of_le h.pE
  vU:=hi }
theorem FI.done (h:FI n lit p ch cZ cZ.length C tr lev rea wl kl):qI C tr lev (p + 1)/\uo n C (fun x=>if x=lit then kl else wl x):=by
 have s:=h.oM;have e:kl ++ cZ.drop cZ.length=kl:=by simp
 rw [e] at s;refine ⟨fun a c f b r g1 g2 l=>?_,s⟩
 obtain ⟨L,z⟩:=List.getElem?_eq_some_iff.1 h.NI;have B:Ib C a c:=⟨g1,g2,by rw [l];simp⟩
 have m:∀ x,(c.lits[0]? = some x\/c.lits[1]? = some x)->∀ y,(x=f/\y=b\/x=b/\y=f)->op lit=op x->y ∈ tr/\lev (y / 2) <= lev (x / 2):=fun x F y E e=>by
  have G:x=lit:=(Pv e).symm;subst G;have w:=s.two a c B x F;rw [if_pos rfl] at w;obtain ⟨d,K,J,v,q,u,D⟩:=h.kept a w;rw [g1] at v;cases v
  rw [l] at q;simp only [List.cons.injEq] at q;obtain ⟨rfl,rfl,rfl⟩:=q;have A:f ≠ b:=fun H=>h.Dh (H ▸ u)
  rcases E with ⟨I,_⟩ | ⟨_,rfl⟩
  ·exact absurd I.symm A
  ·exact ⟨u,D⟩
 refine ⟨fun j t g o=>?_,fun j t g o=>?_⟩
 ·rcases Nat.lt_succ_iff_lt_or_eq.1 g with k | k
  ·exact (h.wK a c f b r g1 g2 l).1 j t k o
  ·subst k;exact m f (.inl (by rw [l];rfl)) b (.inl ⟨rfl,rfl⟩) (by rw [<- z,o])
 ·rcases Nat.lt_succ_iff_lt_or_eq.1 g with k | k
  ·exact (h.wK a c f b r g1 g2 l).2 j t k o
  ·subst k;exact m b (.inr (by rw [l];rfl)) f (.inr ⟨rfl,rfl⟩) (by rw [<- z,o])
end
section
variable {n:Nat} {tr ch:List Nat} {lev:Nat->Nat} {C C':iR} {rea:Nat->Int} {P a:Nat} {W W':Nat->List Nat} {c:xJ}
theorem xk.new (h:xk n C) (f:(c.lits.map (· / 2)).Nodup) (g:∀ x ∈ c.lits,x < 2 * n):xk n (kD C a c) where
 vars:=fun b d hd=>by
  by_cases e:b=a
  ·subst e;rw [dV] at hd;cases hd;exact f
  ·rw [dK _ _ e] at hd;exact h.vars b d hd
 lt:=fun b d hd=>by
  by_cases e:b=a
  ·subst e;rw [dV] at hd;cases hd;exact g
  ·rw [dK _ _ e] at hd;exact h.lt b d hd
theorem oZ.new (h:oZ C tr ch rea) (g:C a=none):oZ (kD C a c) tr ch rea:=
 h.congr fun b d x r f k j m l=>by
  have e:b ≠ a:=fun e=>by rw [e,g] at f;cases f
  exact ⟨d,by rw [dK _ _ e];exact f,k,r,j,fun _ h=>h⟩
theorem qI.new (h:qI C tr lev P) (k:∀ p q r,c.kind ≠ 2->c.lits=p :: q :: r->AR tr lev P p q/\AR tr lev P q p):qI (kD C a c) tr lev P:=fun b d p q r f j g=>by
 by_cases e:b=a
 ·subst e;rw [dV] at f;cases f;exact k p q r j g
 ·rw [dK _ _ e] at f;exact h b d p q r f j g
theorem uo.fresh (h:uo n C W) (e:C a=none) {x:Nat} (b:x < 2 * n):a ∉ W x:=fun f=>by
 obtain ⟨d,⟨g1,_,_⟩,_⟩:=h.lists x b a f;rw [e] at g1;cases g1
theorem uo.TU (h:uo n C W) (k:C a=none) (m:c.lits.length < 2):uo n (kD C a c) W where
 lists:=fun x f b j=>by
  have e:b ≠ a:=fun e=>h.fresh k f (e ▸ j)
  obtain ⟨d,⟨g1,g2,g⟩,l⟩:=h.lists x f b j;exact ⟨d,⟨by rw [dK _ _ e];exact g1,g2,g⟩,l⟩
 two:=fun b d ⟨g1,g2,g⟩ x f=>by
  by_cases e:b=a
  ·subst e;rw [dV] at g1;cases g1;omega
  ·rw [dK _ _ e] at g1;exact h.two b d ⟨g1,g2,g⟩ x f
 nodup:=h.nodup
theorem uo.XG (h:uo n C W) (w:C a=none) (D:c.kind ≠ 2) {p q:Nat} {r:List Nat} (s:c.lits=p :: q :: r) (B:p ≠ q) (F:W' p=W p ++ [a]) (E:W' q=W q ++ [a]) (m:∀ x,x ≠ p->x ≠ q->W' x=W x):uo n (kD C a c) W':=by
 have l:∀ x,(x=p\/x=q)->W' x=W x ++ [a]:=fun x g=>by
  rcases g with rfl | rfl
  ·exact F
  ·exact E
 have o:∀ x b,b ∈ W x->b ∈ W' x:=fun x b f=>by
  by_cases e:x=p\/x=q
  ·rw [l x e];exact List.mem_append_left _ f
  ·rw [m x (fun k=>e (.inl k)) (fun k=>e (.inr k))];exact f
 exact {
  lists:=fun x g b f=>by
   by_cases e:b=a
   ·subst e;refine ⟨c,⟨dV ..,D,by rw [s];simp⟩,?_⟩
    rw [s];simp only [List.getElem?_cons_zero,List.getElem?_cons_succ,Option.some.injEq];by_cases k:x=p\/x=q
    ·exact k.imp Eq.symm Eq.symm
    ·rw [m x (fun j=>k (.inl j)) (fun j=>k (.inr j))] at f
     exact absurd f (h.fresh w g)
   ·have t:b ∈ W x:=by
     by_cases k:x=p\/x=q
     ·rw [l x k] at f
      rcases List.mem_append.1 f with f | f
      ·exact f
      ·simp at f;exact absurd f e
     ·rw [m x (fun j=>k (.inl j)) (fun j=>k (.inr j))] at f;exact f
    obtain ⟨d,⟨g1,g2,u⟩,G⟩:=h.lists x g b t;exact ⟨d,⟨by rw [dK _ _ e];exact g1,g2,u⟩,G⟩
  two:=fun b d ⟨g1,g2,u⟩ x g=>by
   by_cases e:b=a
   ·subst e;rw [dV] at g1;cases g1
    rw [s] at g;simp only [List.getElem?_cons_zero,List.getElem?_cons_succ,Option.some.injEq] at g;rw [l x (g.imp Eq.symm Eq.symm)];simp
   ·rw [dK _ _ e] at g1;exact o x b (h.two b d ⟨g1,g2,u⟩ x g)
  nodup:=fun x g=>by
   by_cases e:x=p\/x=q
   ·rw [l x e];refine List.nodup_append.2 ⟨h.nodup x g,by simp,fun y A z v=>?_⟩
    simp at v;subst v;exact fun e=>h.fresh w g (e ▸ A)
   ·rw [m x (fun j=>e (.inl j)) (fun j=>e (.inr j))];exact h.nodup x g }
def J3 (C C':iR):Prop:=∀ a,C' a=C a\/∃ c,C a=some c/\C' a=some ⟨2,c.lits⟩
theorem J3.back (h:J3 C C') {d:xJ} (hd:C' a=some d) (b:d.kind ≠ 2):C a=some d:=by
 rcases h a with e | ⟨c,_,e⟩
 ·rw [<- e];exact hd
 ·rw [e] at hd;cases hd;exact absurd rfl b
theorem xk.del (h:xk n C) (hd:J3 C C'):xk n C' where
 vars:=fun b d f=>by
  rcases hd b with e | ⟨c,j,g⟩
  ·exact h.vars b d (by rw [<- e];exact f)
  ·rw [g] at f;cases f;exact h.vars b c j
 lt:=fun b d f=>by
  rcases hd b with e | ⟨c,j,g⟩
  ·exact h.lt b d (by rw [<- e];exact f)
  ·rw [g] at f;cases f;exact h.lt b c j
theorem qI.del (h:qI C tr lev P) (hd:J3 C C'):qI C' tr lev P:=fun b d p q r g e f=>h b d p q r (hd.back g e) e f
theorem oZ.del (h:oZ C tr ch rea) (hd:J3 C C') (j:∀ b c x r,C b=some c->c.kind ≠ 2->c.lits=x :: r->x ∈ tr->rea (x / 2)=(b:Nat)->C' b=C b):oZ C' tr ch rea:=
 h.congr fun b d x r g f e l k=>⟨d,by rw [j b d x r g f e l k];exact g,f,r,e,fun _ h=>h⟩
theorem uo.del (h:uo n C W) (hd:J3 C C') (m:∀ x,x < 2 * n->W' x=(W x).filter fun b=>decide (∀ d,C' b=some d->d.kind ≠ 2)) (r:xk n C):uo n C' W' where
 lists:=fun x f b j=>by
  rw [m x f,List.mem_filter] at j;obtain ⟨j,l⟩:=j;have l:=of_decide_eq_true l;obtain ⟨d,⟨g1,g2,o⟩,s⟩:=h.lists x f b j
  rcases hd b with e | ⟨c,u,t⟩
  ·exact ⟨d,⟨by rw [e];exact g1,g2,o⟩,s⟩
  ·exact absurd rfl (l _ t)
 two:=fun b d ⟨g1,g2,o⟩ x f=>by
  have q:=hd.back g1 g2;have k:x < 2 * n:=r.lt b d q x (by
   rcases f with f | f <;> exact List.mem_of_getElem? f)
  rw [m x k,List.mem_filter];refine ⟨h.two b d ⟨q,g2,o⟩ x f,decide_eq_true ?_⟩;intro v g;rw [g1] at g;cases g;exact g2
 nodup:=fun x f=>by rw [m x f];exact (h.nodup x f).sublist List.filter_sublist
structure Ia (C C':iR) (ro:Nat->Nat):Prop where
 Yi:∀ a c,C a=some c->c.kind ≠ 2->C' (ro a)=some c
 from':∀ b c,C' b=some c->∃ a,C a=some c/\c.kind ≠ 2/\b=ro a
 inj:∀ a b c d,C a=some c->c.kind ≠ 2->C b=some d->d.kind ≠ 2->ro a=ro b->a=b
variable {ro:Nat->Nat}
theorem xk.PL (h:xk n C) (g:Ia C C' ro):xk n C' where
 vars:=fun b d e=>by obtain ⟨a,f,_,_⟩:=g.from' b d e;exact h.vars a d f
 lt:=fun b d e=>by obtain ⟨a,f,_,_⟩:=g.from' b d e;exact h.lt a d f
theorem qI.PL (h:qI C tr lev P) (e:Ia C C' ro):qI C' tr lev P:=fun b d p q r g j f=>by
 obtain ⟨a,g1,g2,_⟩:=e.from' b d g
 exact h a d p q r g1 g2 f
theorem oZ.PL {uF:Nat->Int} (h:oZ C tr ch rea) (g:Ia C C' ro) (e:∀ x ∈ tr,(rea (x / 2)=-1->uF (x / 2)=-1)/\∀ a:Nat,rea (x / 2)=a->uF (x / 2)=ro a):oZ C' tr ch uF where
 KQ:=fun i b d=>(e _ (List.getElem_mem b)).1 (h.KQ i b d)
 why:=fun i b d=>by
  obtain ⟨a,c,r,m,l,f,k,j⟩:=h.why i b d;exact ⟨ro a,c,r,(e _ (List.getElem_mem b)).2 a m,g.Yi a c l f,f,k,j⟩
theorem uo.PL (h:uo n C W) (o:Ia C C' ro) (u:xk n C) (r:∀ x,x < 2 * n->W' x=(W x).map ro):uo n C' W' where
 lists:=fun x f b k=>by
  rw [r x f] at k;obtain ⟨a,q,rfl⟩:=List.mem_map.1 k;obtain ⟨d,⟨g1,g2,s⟩,v⟩:=h.lists x f a q;exact ⟨d,⟨o.Yi a d g1 g2,g2,s⟩,v⟩
 two:=fun b d ⟨g1,g2,s⟩ x f=>by
  obtain ⟨a,j,l,rfl⟩:=o.from' b d g1
  have m:x < 2 * n:=u.lt a d j x (by
   rcases f with f | f <;> exact List.mem_of_getElem? f)
  rw [r x m];exact List.mem_map.2 ⟨a,h.two a d ⟨j,l,s⟩ x f,rfl⟩
 nodup:=fun x f=>by
  rw [r x f];refine List.Pairwise.map ro (fun a b g=>g) ?_
  have t:=h.nodup x f;refine t.imp_of_mem fun {a b} q k g=>?_
  intro e;obtain ⟨c,⟨g1,g2,_⟩,_⟩:=h.lists x f a q;obtain ⟨d,⟨j,l,_⟩,_⟩:=h.lists x f b k;exact g (o.inj a b c d g1 g2 j l e)
end
section
variable {n:Nat} {tr ch:List Nat} {lev:Nat->Nat} {C:iR} {rea:Nat->Int} {rs:Nat->Option (List Nat)}
def vr (tr:List Nat) (j:Nat):Nat:=(tr.getD j 0) / 2
theorem wG {tr:List Nat} {j:Nat} (h:j < tr.length):vr tr j=tr[j] / 2:=by
 unfold vr;rw [List.getD_eq_getElem?_getD,List.getElem?_eq_getElem h];rfl
def lW (tr:List Nat) (last i:Nat) (seen:Nat->Bool):Nat:=((List.range i).filter fun j=>decide (last <= j) && seen (vr tr j)).length
theorem nA (tr:List Nat) (last i:Nat) (seen:Nat->Bool):lW tr last (i + 1) seen=lW tr last i seen + if last <= i/\seen (vr tr i)=true then 1 else 0:=by
 unfold lW;rw [List.range_succ,List.filter_append,List.length_append];by_cases d:last <= i <;> by_cases b:seen (vr tr i)=true <;> simp [d,b]
theorem Hd {tr:List Nat} {last i:Nat} {seen:Nat->Bool} (h:i <= last):lW tr last i seen=0:=by
 unfold lW;rw [List.length_eq_zero_iff,List.filter_eq_nil_iff];intro j b;have:=List.mem_range.1 b;simp;omega
theorem Cm {tr:List Nat} {last i:Nat} {seen:Nat->Bool} (h:lW tr last i seen=0) {j:Nat} (d:j < i) (b:last <= j):seen (vr tr j)=false:=by
 unfold lW at h;rw [List.length_eq_zero_iff,List.filter_eq_nil_iff] at h;have:=h j (List.mem_range.2 d);simpa [b] using this
theorem Rh (k:jm n tr ch lev) {last:Nat} {seen:Nat->Bool} {j:Nat} (m:j < tr.length) (l:seen (tr[j] / 2)=false):∀ b,b <= tr.length->lW tr last b (eG seen (tr[j] / 2) true)=lW tr last b seen + if last <= j/\j < b then 1 else 0:=by
 intro b
 induction b with
 | zero=>intro _;simp [lW]
 | succ b ih=>
  intro q;rw [nA,nA,ih (by omega)]
  have d:b < tr.length:=by omega
  by_cases e:b=j
  ·subst e;rw [wG d,dF,l];by_cases g:last <= b
   ·simp [g]
   ·simp [g]
  ·have:vr tr b ≠ tr[j] / 2:=fun h=>by
    rw [wG d] at h;exact e (k.pY d m h)
   rw [dh _ _ this];by_cases f:last <= j/\j < b
   ·rw [if_pos f,if_pos (show last <= j/\j < b + 1 from ⟨f.1,by omega⟩)];omega
   ·rw [if_neg f,if_neg (show ¬ (last <= j/\j < b + 1) from fun o=>f ⟨o.1,by omega⟩)];omega
structure Lk where
 seen:Nat->Bool
 je:List Nat
 opn:Nat
def ma (lev:Nat->Nat) (d:Nat) (s:Lk) (y:Nat):Lk:=
 if s.seen (y / 2)=true\/lev (y / 2)=0 then s
 else if lev (y / 2)=d then ⟨eG s.seen (y / 2) true,s.je,s.opn + 1⟩
 else ⟨eG s.seen (y / 2) true,s.je ++ [y],s.opn⟩
structure NJ (tr:List Nat) (lev:Nat->Nat) (d:Nat) (s:Lk):Prop where
 sM:∀ v,s.seen v=true->0 < lev v/\∃ j,∃ h:j < tr.length,tr[j] / 2=v
 je:∀ y,y ∈ s.je↔op y ∈ tr/\s.seen (y / 2)=true/\lev (y / 2) ≠ d
 nd:(s.je.map (· / 2)).Nodup
theorem NJ.start (tr:List Nat) (lev:Nat->Nat) (d:Nat):NJ tr lev d ⟨fun _=>false,[],0⟩:=⟨fun v h=>(by cases h),fun y=>(by simp),by simp⟩
theorem NJ.zero {tr:List Nat} {lev:Nat->Nat} {d:Nat} {s:Lk} (h:NJ tr lev d s) (k:Nat):NJ tr lev d ⟨s.seen,s.je,k⟩:=⟨h.sM,h.je,h.nd⟩
theorem Uc (D:jm n tr ch lev) {d:Nat} {s:Lk} (h:NJ tr lev d s) {y j:Nat} (A:j < tr.length) (w:tr[j]=op y):NJ tr lev d (ma lev d s y)/\(∀ v,s.seen v=true->(ma lev d s y).seen v=true)/\(lev (y / 2)=0\/(ma lev d s y).seen (y / 2)=true):=by
 have r:tr[j] / 2=y / 2:=by rw [w,gH]
 have x:op y ∈ tr:=w ▸ List.getElem_mem A;unfold ma;split
 ·rename_i q;exact ⟨h,fun _ h=>h,q.symm⟩
 ·rename_i q;have E:s.seen (y / 2)=false:=by
   cases e:s.seen (y / 2) with
   | false=>rfl
   | true=>exact absurd (.inl e) q
  have G:lev (y / 2) ≠ 0:=fun e=>q (.inr e)
  have mono:∀ v,s.seen v=true->eG s.seen (y / 2) true v=true:=fun v r=>by
   by_cases e:v=y / 2
   ·rw [e,dF]
   ·rw [dh _ _ e];exact r
  have m:∀ v,eG s.seen (y / 2) true v=true->0 < lev v/\∃ j,∃ h:j < tr.length,tr[j] / 2=v:=fun v l=>by
   by_cases e:v=y / 2
   ·rw [e];exact ⟨by omega,j,A,r⟩
   ·rw [dh _ _ e] at l;exact h.sM v l
  have k:∀ z,op z ∈ tr->z / 2=y / 2->z=y:=fun z o e=>by
   rcases qQ e with u | u
   ·exact u
   ·rw [u,kr] at o;exact (D.nI o x).elim
  split
  ·rename_i t;refine ⟨⟨m,fun z=>?_,h.nd⟩,mono,.inr (dF ..)⟩
   show z ∈ s.je↔_
   rw [h.je z];constructor
   ·rintro ⟨g1,g2,f⟩;exact ⟨g1,mono _ g2,f⟩
   ·rintro ⟨g1,g2,f⟩;refine ⟨g1,?_,f⟩;have e:z / 2 ≠ y / 2:=fun e=>f (by rw [e];exact t)
    have g2:eG s.seen (y / 2) true (z / 2)=true:=g2;rw [dh _ _ e] at g2;exact g2
  ·rename_i t;refine ⟨⟨m,fun z=>?_,?_⟩,mono,.inr (dF ..)⟩
   ·show z ∈ s.je ++ [y]↔_
    rw [List.mem_append,h.je z];constructor
    ·rintro (⟨g1,g2,f⟩ | g)
     ·exact ⟨g1,mono _ g2,f⟩
     ·simp at g;subst g;exact ⟨x,dF ..,t⟩
    ·rintro ⟨g1,g2,f⟩;have g2:eG s.seen (y / 2) true (z / 2)=true:=g2;by_cases e:z / 2=y / 2
     ·exact .inr (by simp [k z g1 e])
     ·rw [dh _ _ e] at g2;exact .inl ⟨g1,g2,f⟩
   ·show ((s.je ++ [y]).map (· / 2)).Nodup
    rw [List.map_append];refine List.nodup_append.2 ⟨h.nd,by simp,fun a F b B=>?_⟩
    simp at B;subst B;obtain ⟨z,o,rfl⟩:=List.mem_map.1 F;intro e;have e:z / 2=y / 2:=e;have:=((h.je z).1 o).2.1;rw [e,E] at this;cases this
theorem uP (f:jm n tr ch lev) (hd:0 < ch.length) {j:Nat} (k:j < tr.length):lev (tr[j] / 2)=ch.length↔ch[ch.length - 1] <= j:=by
 have h:=cnt_lt f.iC (d:=ch.length - 1) (by omega) (i:=j)
 have l:=DX ch j;rw [f.lev j k];constructor
 ·intro e
  rcases Nat.lt_or_ge j ch[ch.length - 1] with b | b
  ·have:=h.2 b;omega
  ·exact b
 ·intro b
  rcases Nat.lt_or_ge (ch.length - 1) (cnt ch j) with g | g
  ·omega
  ·have:=h.1 g;omega
theorem Ud (m:jm n tr ch lev) (hd:0 < ch.length) {s:Lk} {y j b k:Nat} (o:j < tr.length) (q:tr[j]=op y) (g:j < b) (u:b <= tr.length) (t:s.opn + k=lW tr ch[ch.length - 1] b s.seen):(ma lev ch.length s y).opn + k=lW tr ch[ch.length - 1] b (ma lev ch.length s y).seen:=by
 have l:tr[j] / 2=y / 2:=by rw [q,gH]
 unfold ma;split
 ·exact t
 ·rename_i w;have r:s.seen (tr[j] / 2)=false:=by
   rw [l]
   cases e:s.seen (y / 2) with
   | false=>rfl
   | true=>exact absurd (.inl e) w
  have d:=Rh m (last:=ch[ch.length - 1]) o r b u;have f:=uP m hd o;rw [l] at d f;split
  ·rename_i h;show s.opn + 1 + k=lW tr ch[ch.length - 1] b (eG s.seen (y / 2) true)
   rw [d,if_pos ⟨f.1 h,g⟩];omega
  ·rename_i h;show s.opn + k=lW tr ch[ch.length - 1] b (eG s.seen (y / 2) true)
   rw [d,if_neg (fun v=>h (f.2 v.1))];omega
theorem Jf (g:jm n tr ch lev) (hd:0 < ch.length) {b k:Nat} (q:b <= tr.length):∀ (d:List Nat) (s:Lk),(∀ y ∈ d,∃ j,∃ h:j < tr.length,j < b/\tr[j]=op y)->NJ tr lev ch.length s->s.opn + k=lW tr ch[ch.length - 1] b s.seen->
  NJ tr lev ch.length (d.foldl (ma lev ch.length) s)/\(d.foldl (ma lev ch.length) s).opn + k=lW tr ch[ch.length - 1] b (d.foldl (ma lev ch.length) s).seen/\(∀ v,s.seen v=true->(d.foldl (ma lev ch.length) s).seen v=true)/\∀ y ∈ d,lev (y / 2)=0\/(d.foldl (ma lev ch.length) s).seen (y / 2)=true
 | [],s,_,h,hc=>⟨h,hc,fun _ h=>h,fun y f=>by simp at f⟩
 | y :: r,s,f,h,hc=>by
  obtain ⟨j,o,l,t⟩:=f y (List.mem_cons_self ..);obtain ⟨g1,g2,D⟩:=Uc g h o t;have B:=Ud g hd o t l q hc;obtain ⟨x,w,m,u⟩:=Jf g hd q r (ma lev ch.length s y) (fun z e=>f z (List.mem_cons_of_mem _ e)) g1 B
  refine ⟨x,w,fun v A=>m v (g2 v A),fun z e=>?_⟩
  rcases List.mem_cons.1 e with rfl | e
  ·exact D.imp id (fun h=>m _ h)
  ·exact u z e
theorem VZ {b d:Nat}:∀ (e:List Nat) (t:Lk),(∀ y ∈ e,∃ j,∃ r:j < tr.length,j < b/\tr[j]=op y)->∀ v,(e.foldl (ma lev d) t).seen v=true->t.seen v=true\/∃ j,∃ r:j < tr.length,j < b/\tr[j] / 2=v:=by
 intro e
 induction e with
 | nil=>intro t _ v f;exact .inl f
 | cons y e ih=>
  intro t l v f
  rcases ih (ma lev d t y) (fun z o=>l z (List.mem_cons_of_mem _ o)) v f with g | g
  ·obtain ⟨m,q,h,s⟩:=l y (List.mem_cons_self ..);by_cases k:v=y / 2
   ·exact .inr ⟨m,q,h,by rw [s,gH,k]⟩
   ·left
    unfold ma at g;split at g
    ·exact g
    ·split at g
     ·have g:eG t.seen (y / 2) true v=true:=g;rw [dh _ _ k] at g;exact g
     ·have g:eG t.seen (y / 2) true v=true:=g;rw [dh _ _ k] at g;exact g
  ·exact .inr g
structure xU (tr ch:List Nat) (lev:Nat->Nat) (rs:Nat->Option (List Nat)) (last:Nat) (c0:List Nat) (i:Nat) (s:Lk):Prop where
 lk:NJ tr lev ch.length s
 first:∀ y ∈ c0,lev (y / 2)=0\/s.seen (y / 2)=true
 done:∀ j (h:j < tr.length),i <= j->s.seen (tr[j] / 2)=true->By tr rs (fun v=>lev v=0\/s.seen v=true) j
 cnt:s.opn=lW tr last i s.seen
 pos:1 <= s.opn
 YV:i <= tr.length
variable {c0:List Nat}
theorem xU.start (m:jm n tr ch lev) (hd:0 < ch.length) (o:∀ y ∈ c0,op y ∈ tr) {f:Nat} (q:f ∈ c0) (w:lev (f / 2)=ch.length):xU tr ch lev rs ch[ch.length - 1] c0 tr.length (c0.foldl (ma lev ch.length) ⟨fun _=>false,[],0⟩):=by
 have t:∀ b,lW tr ch[ch.length - 1] b (fun _=>false)=0:=fun b=>by
  unfold lW;rw [List.length_eq_zero_iff,List.filter_eq_nil_iff];simp
 obtain ⟨s,r,z,g⟩:=Jf m hd (b:=tr.length) (k:=0) lr c0 ⟨fun _=>false,[],0⟩ (fun y u=>by
  obtain ⟨j,d,e⟩:=List.mem_iff_getElem.1 (o y u);exact ⟨j,d,d,e⟩) (NJ.start ..) (by rw [t])
 refine ⟨s,g,fun j h d=>by omega,by simpa using r,?_,lr⟩
 have v:(c0.foldl (ma lev ch.length) ⟨fun _=>false,[],0⟩).seen (f / 2)=true:=by
  rcases g f q with e | e
  ·omega
  ·exact e
 obtain ⟨j,d,x⟩:=List.mem_iff_getElem.1 (o f q);have l:tr[j] / 2=f / 2:=by rw [x,gH]
 rcases Nat.eq_zero_or_pos (lW tr ch[ch.length - 1] tr.length (c0.foldl (ma lev ch.length) ⟨fun _=>false,[],0⟩).seen) with e | e
 ·have:=Cm e d ((uP m hd d).1 (by rw [l];exact w))
  rw [wG d,l,v] at this;cases this
 ·omega
theorem xU.more {last i:Nat} {s:Lk} (h:xU tr ch lev rs last c0 i s):∃ j,i=j + 1/\last <= j:=by
 have d:=h.cnt;have e:=h.pos
 rcases Nat.lt_or_ge last i with b | b
 ·exact ⟨i - 1,by omega,by omega⟩
 ·rw [Hd b] at d;omega
theorem xU.skip {last i:Nat} {s:Lk} (h:xU tr ch lev rs last c0 (i + 1) s) (d:s.seen (vr tr i)=false):xU tr ch lev rs last c0 i s where
 lk:=h.lk
 first:=h.first
 done:=fun j g f b=>by
  rcases Nat.eq_or_lt_of_le f with e | e
  ·subst e;rw [wG g] at d;rw [d] at b;cases b
  ·exact h.done j g e b
 cnt:=by rw [h.cnt,nA,d];simp
 pos:=h.pos
 YV:=by have:=h.YV;omega
theorem xU.step (B:jm n tr ch lev) (hd:0 < ch.length) {i:Nat} {s:Lk} (h:xU tr ch lev rs ch[ch.length - 1] c0 (i + 1) s) (hi:i < tr.length) (D:s.seen (tr[i] / 2)=true) (R:s.opn ≠ 1) {c r:List Nat} (N:rs (tr[i] / 2)=some c) (o:c=tr[i] :: r) (E:∀ y ∈ r,∃ j,∃ l:j < tr.length,j < i/\tr[j]=op y):
  ∃ more,(c.foldl (ma lev ch.length) ⟨s.seen,s.je,0⟩).opn=more/\xU tr ch lev rs ch[ch.length - 1] c0 i ⟨(c.foldl (ma lev ch.length) ⟨s.seen,s.je,0⟩).seen,(c.foldl (ma lev ch.length) ⟨s.seen,s.je,0⟩).je,s.opn + more - 1⟩:=by
 have Q:c.foldl (ma lev ch.length) ⟨s.seen,s.je,0⟩=r.foldl (ma lev ch.length) ⟨s.seen,s.je,0⟩:=by
  rw [o,List.foldl_cons]
  congr 1
  unfold ma;rw [if_pos (.inl D)]
 rw [Q];have f:ch[ch.length - 1] <= i:=by
  obtain ⟨j,e,S⟩:=h.more;omega
 obtain ⟨u,I,t,H⟩:=Jf B hd (b:=i + 1) (k:=s.opn) (by omega) r ⟨s.seen,s.je,0⟩ (fun y w=>by
  obtain ⟨j,l,M,e⟩:=E y w;exact ⟨j,l,by omega,e⟩) (h.lk.zero 0) (by rw [h.cnt];simp)
 have z:=t _ D;have G:=VZ (lev:=lev) (d:=ch.length) r ⟨s.seen,s.je,0⟩ E;generalize r.foldl (ma lev ch.length) ⟨s.seen,s.je,0⟩=q at *
 refine ⟨_,rfl,⟨u.sM,u.je,u.nd⟩,fun y w=>(h.first y w).imp id (t _),fun j l A x=>?_,?_,?_,by omega⟩
 ·rcases Nat.eq_or_lt_of_le A with e | e
  ·subst e;refine ⟨l,c,r,N,o,H⟩
  ·by_cases F:s.seen (tr[j] / 2)=true
   ·exact (h.done j l e F).mono fun v J=>J.imp id (t v)
   ·
    exfalso
    rcases G _ x with g | ⟨m,L,K,O⟩
    ·exact F g
    ·have:=B.pY L l O;omega
 ·show s.opn + q.opn - 1=lW tr ch[ch.length - 1] i q.seen
  rw [nA,wG hi,if_pos ⟨f,z⟩] at I;omega
 ·show 1 <= s.opn + q.opn - 1
  have:=h.pos;omega
theorem xU.forced (g:jm n tr ch lev) (hd:0 < ch.length) {i:Nat} {s:Lk} (h:xU tr ch lev rs ch[ch.length - 1] c0 (i + 1) s) (k:s.opn ≠ 1):i ∉ ch:=fun j=>by
 have l:=h.pos;have f:=h.cnt;obtain ⟨m,b,e⟩:=List.mem_iff_getElem.1 j;have:i <= ch[ch.length - 1]:=by
  rcases Nat.lt_or_ge m (ch.length - 1) with d | d
  ·have:=List.pairwise_iff_getElem.1 g.iC.1 m (ch.length - 1) b (by omega) d;omega
  ·have:m=ch.length - 1:=by omega
   subst this;omega
 rw [nA,Hd this] at f;split at f <;> omega
def jf (C:iR) (rea:Nat->Int) (v:Nat):Option (List Nat):=if rea v=-1 then none else (C (rea v).toNat).map (·.lits)
theorem Cs {i:Nat} {h:i < tr.length} (e:Why C tr rea i h):∃ a c r,rea (tr[i] / 2)=(a:Nat)/\C a=some c/\c.kind ≠ 2/\c.lits=tr[i] :: r/\jf C rea (tr[i] / 2)=some c.lits/\∀ y ∈ r,∃ j,∃ l:j < tr.length,j < i/\tr[j]=op y:=by
 obtain ⟨a,c,r,d,b,k,g,f⟩:=e;refine ⟨a,c,r,d,b,k,g,?_,f⟩;unfold jf;rw [if_neg (by omega),d,Int.toNat_natCast,b];rfl
theorem oZ.trail {L:List Rd.Cl} (h:oZ C tr ch rea) (f:jm n tr ch lev) (hL:∀ a c,C a=some c->c.kind ≠ 2->There L c.lits):Trail L tr (jf C rea) where
 nodup:=f.nodup
 why:=fun i e c b=>by
  by_cases d:i ∈ ch
  ·unfold jf at b;rw [if_pos (h.KQ i e d)] at b;cases b
  ·obtain ⟨a,o,r,q,m,l,k,j,g⟩:=Cs (h.why i e d);rw [j] at b;cases b
   exact ⟨r,k,hL a o m l,g⟩
def dX (rs:Nat->Option (List Nat)) (fol:Nat->Bool) (v:Nat):Bool:=match rs v with
 | none=>false
 | some c=>c.tail.all fun y=>fol (y / 2)
structure RJ (tr:List Nat) (rs:Nat->Option (List Nat)) (seen:Nat->Bool) (j:Nat) (fol:Nat->Bool):Prop where
 why:∀ k (h:k < tr.length),k < j->fol (tr[k] / 2)=true->seen (tr[k] / 2)=true\/By tr rs (fun v=>∃ m,∃ hm:m < tr.length,m < k/\tr[m] / 2=v/\fol v=true) k
theorem RJ.start (tr:List Nat) (rs:Nat->Option (List Nat)) (seen fol:Nat->Bool):RJ tr rs seen 0 fol:=⟨fun k h b=>by omega⟩
theorem Cf {L:List Rd.Cl} (T:Trail L tr rs) {fol:Nat->Bool} {k:Nat} (g:k < tr.length) (b:dX rs fol (tr[k] / 2)=true):By tr rs (fun v=>∃ m,∃ s:m < tr.length,m < k/\tr[m] / 2=v/\fol v=true) k:=by
 unfold dX at b
 cases e:rs (tr[k] / 2) with
 | none=>rw [e] at b;cases b
 | some c=>
  rw [e] at b;obtain ⟨r,h,t,o⟩:=T.why k g c e;refine ⟨g,c,r,e,h,fun y f=>?_⟩
  rw [h] at b;simp only [List.tail_cons,List.all_eq_true] at b;obtain ⟨j,l,d,q⟩:=o y f;exact ⟨j,l,d,by rw [q,gH],b y f⟩
theorem RJ.step {L:List Rd.Cl} (T:Trail L tr rs) (r:jm n tr ch lev) {seen fol:Nat->Bool} {j:Nat} (h:RJ tr rs seen j fol) (t:j < tr.length):RJ tr rs seen (j + 1) (eG fol (tr[j] / 2) (seen (tr[j] / 2) || dX rs fol (tr[j] / 2))) where
 why:=fun k d g f=>by
  have q:∀ m (b:m < tr.length),m < j->tr[m] / 2 ≠ tr[j] / 2:=fun m b s e=>by
   have:=r.pY b t e;omega
  have o:∀ k (d:k < tr.length),k <= j->By tr rs (fun v=>∃ m,∃ b:m < tr.length,m < k/\tr[m] / 2=v/\fol v=true) k->By tr rs (fun v=>∃ m,∃ b:m < tr.length,m < k/\tr[m] / 2=v/\eG fol (tr[j] / 2) (seen (tr[j] / 2) || dX rs fol (tr[j] / 2)) v=true) k:=fun k d g u=>u.mono fun v ⟨m,b,hmk,e,hv⟩=>⟨m,b,hmk,e,by rw [dh _ _ (by rw [<- e];exact q m b (by omega))];exact hv⟩
  rcases Nat.lt_succ_iff_lt_or_eq.1 g with l | l
  ·rw [dh _ _ (q k d l)] at f;exact (h.why k d l f).imp id (o k d (by omega))
  ·subst l;rw [dF,Bool.or_eq_true] at f;exact f.imp id fun f=>o k d lr (Cf T d f)
theorem MO {L:List Rd.Cl} (T:Trail L tr (jf C rea)) (o:jm n tr ch lev) (w:oZ C tr ch rea) (hd:0 < ch.length) {i:Nat} {s:Lk} (h:xU tr ch lev (jf C rea) ch[ch.length - 1] c0 (i + 1) s) (hi:i < tr.length) (K:s.seen (tr[i] / 2)=true) (M:s.opn=1) {fol:Nat->Bool} (u:RJ tr (jf C rea) s.seen ch[ch.length - 1] fol):
  JR tr (jf C rea) lev ch[ch.length - 1] c0 (fun v=>s.seen v=true) (fun v=>∃ m,∃ f:m < tr.length,m < ch[ch.length - 1]/\tr[m] / 2=v/\fol v=true) i (s.je.filter fun y=>!dX (jf C rea) fol (y / 2)):=by
 obtain ⟨j,I,g⟩:=h.more;have I:j=i:=by omega
 subst I;have N:=h.cnt;rw [nA,wG hi,if_pos ⟨g,K⟩,M] at N;exact {
  hiu:=hi
  first:=h.first
  behind:=fun k b E d=>h.done k b E d
  low:=fun k b z B d=>by
   have:=Cm (show lW tr ch[ch.length - 1] j s.seen=0 by omega) B z
   rw [wG b,d] at this;cases this
  XJ:=g
  follows:=fun k b A ⟨m,f,YW,F,q⟩=>by
   have:m=k:=o.pY f b F;subst this;exact (u.why m f YW q).imp id fun O=>O.mono fun v ⟨m',hm',l,e,hv⟩=>⟨m',hm',by omega,e,hv⟩
  Vg:=fun k b A d=>by
   have D:op tr[k] ∈ s.je:=by
    rw [h.lk.je,kr,gH];refine ⟨List.getElem_mem b,d,fun e=>?_⟩
    have:=(uP o hd b).1 e;omega
   by_cases q:dX (jf C rea) fol (tr[k] / 2)=true
   ·right
    exact (Cf T b q).mono fun v ⟨m,f,l,e,hv⟩=>⟨m,f,by omega,e,hv⟩
   ·left
    rw [List.mem_filter,gH];exact ⟨D,by simpa using q⟩
  zero:=fun k b G=>by
   have x:k ∉ ch:=fun f=>by
    have t:=o.lev k b;rw [G] at t;unfold cnt at t;have H:=List.filter_eq_nil_iff.1 (List.length_eq_zero_iff.1 t.symm) k f;simp at H
   obtain ⟨a,c,r,t,H,X,V,U,S⟩:=Cs (w.why k b x);refine ⟨b,c.lits,r,U,V,fun y J=>?_⟩
   obtain ⟨m,f,l,F⟩:=S y J;have R:=o.lev m f;rw [F,gH] at R;have Q:=cnt_mono ch (Nat.le_of_lt l);rw [<- o.lev k b,G] at Q;omega
  Gw:=fun v ⟨m,f,YW,e,_⟩=>⟨m,f,YW,e⟩ }
theorem xU.tail {last i:Nat} {s:Lk} (h:xU tr ch lev rs last c0 i s) (d:jm n tr ch lev) {y:Nat} (b:y ∈ s.je):op y ∈ tr/\0 < lev (y / 2)/\lev (y / 2) < ch.length:=by
 obtain ⟨k,g,m⟩:=(h.lk.je y).1 b;obtain ⟨f,j,e,l⟩:=h.lk.sM _ g;refine ⟨k,f,?_⟩;have:=d.lev j e;rw [l] at this;have:=DX ch j;omega
end
structure Rec where
 kind:Nat
 busy:Int
 lits:List Nat
def enc1 (c:Rec):List Int:=(c.lits.length:Int) :: (c.kind:Int) :: c.busy :: c.lits.map fun (x:Nat)=>(x:Int)
def enc:List Rec->List Int
 | []=>[]
 | c :: r=>enc1 c ++ enc r
theorem fZ (c:Rec):(enc1 c).length=3 + c.lits.length:=by simp [enc1];omega
theorem gz (a b:List Rec):enc (a ++ b)=enc a ++ enc b:=by
 induction a with
 | nil=>rfl
 | cons c r ih=>simp [enc,ih]
def dw (cs:List Rec) (k:Nat):Nat:=(enc (cs.take k)).length
theorem jP (cs:List Rec):dw cs 0=0:=by simp [dw,enc]
theorem gG {cs:List Rec} {k:Nat} (h:k < cs.length):dw cs (k + 1)=dw cs k + (3 + (cs[k]).lits.length):=by
 unfold dw;rw [List.take_succ_eq_append_getElem h,gz,List.length_append];simp [enc,fZ]
theorem iD {cs:List Rec} {k:Nat} (h:cs.length <= k):dw cs k=(enc cs).length:=by unfold dw;rw [List.take_of_length_le h]
theorem zS {cs:List Rec} {j k:Nat} (h:j < k) (d:k <= cs.length):dw cs j + 3 <= dw cs k:=by
 induction k with
 | zero=>omega
 | succ k ih=>
  rw [gG (by omega)]
  rcases Nat.lt_succ_iff_lt_or_eq.1 h with b | b
  ·have:=ih b (by omega);omega
  ·subst b;omega
theorem Rv {cs:List Rec} {j k:Nat} (h:j <= k) (b:k <= cs.length):dw cs j <= dw cs k:=by
 rcases Nat.eq_or_lt_of_le h with e | e
 ·subst e;exact lr
 ·have:=zS e b;omega
theorem D8 {cs:List Rec} {j k:Nat} (d:j <= cs.length) (b:k <= cs.length) (e:dw cs j=dw cs k):j=k:=by
 rcases Nat.lt_trichotomy j k with h | h | h
 ·have:=zS h b;omega
 ·exact h
 ·have:=zS h d;omega
theorem eF {cs:List Rec} {k:Nat} (h:k < cs.length):dw cs k + (3 + (cs[k]).lits.length) <= (enc cs).length:=by
 rw [<- gG h,<- iD lr];exact Rv h lr
theorem qi {cs:List Rec} {k:Nat} (h:k < cs.length) (j:Nat) (d:j < 3 + (cs[k]).lits.length):(enc cs)[dw cs k + j]? = (enc1 cs[k])[j]? := by
 have e:cs=cs.take k ++ cs[k] :: cs.drop (k + 1):=by rw [<- List.drop_eq_getElem_cons h,List.take_append_drop]
 have b:enc cs=enc (cs.take k) ++ (enc1 cs[k] ++ enc (cs.drop (k + 1))):=by
  conv=>lhs;rw [e]
  rw [gz];rfl
 rw [b];unfold dw;rw [List.getElem?_append_right (by omega),List.getElem?_append_left (by rw [fZ];omega)]
 congr 1;omega
theorem GI {cs:List Rec} {k:Nat} (h:k < cs.length):(enc cs)[dw cs k]? = some ((cs[k]).lits.length:Int):=by
 have:=qi h 0 (by omega)
 simpa [enc1] using this
theorem Q7 {cs:List Rec} {k:Nat} (h:k < cs.length):(enc cs)[dw cs k + 1]? = some ((cs[k]).kind:Int):=by
 have:=qi h 1 (by omega)
 simpa [enc1] using this
theorem zw {cs:List Rec} {k:Nat} (h:k < cs.length):(enc cs)[dw cs k + 2]? = some (cs[k]).busy:=by
 have:=qi h 2 (by omega)
 simpa [enc1] using this
theorem xO {cs:List Rec} {k:Nat} (h:k < cs.length) {i:Nat} (hi:i < (cs[k]).lits.length):(enc cs)[dw cs k + 3 + i]? = some (((cs[k]).lits[i]:Nat):Int):=by
 have:=qi h (3 + i) (by omega)
 rw [show dw cs k + 3 + i=dw cs k + (3 + i) by omega,this]
 unfold enc1;rw [show 3 + i=i + 1 + 1 + 1 by omega]
 simp only [List.getElem?_cons_succ];rw [List.getElem?_map,List.getElem?_eq_getElem hi];rfl
theorem oJ {cs:List Rec} {k:Nat} (h:k < cs.length) {c:Rec} (b:c.lits.length=(cs[k]).lits.length) (j:Nat):dw (cs.set k c) j=dw cs j:=by
 have e:∀ (l:List Rec) (k j:Nat) (h:k < l.length),c.lits.length=(l[k]).lits.length->(enc ((l.set k c).take j)).length=(enc (l.take j)).length:=by
  intro l
  induction l with
  | nil=>intro k j h;simp at h
  | cons d r ih=>
   intro k j h b
   cases j with
   | zero=>simp
   | succ j=>
    cases k with
    | zero=>
     simp only [List.set_cons_zero,List.take_succ_cons,enc,List.length_append,fZ];simp only [List.getElem_cons_zero] at b;omega
    | succ k=>
     simp only [List.set_cons_succ,List.take_succ_cons,enc,List.length_append,fZ];simp only [List.getElem_cons_succ] at b;rw [ih k j (by simpa using h) b]
 exact e cs k j h b
theorem GJ {cs:List Rec} {k:Nat} (h:k < cs.length) {c:Rec} (b:c.lits.length=(cs[k]).lits.length):(enc (cs.set k c)).length=(enc cs).length:=by
 have:=oJ h b cs.length
 rwa [iD (by simp),iD lr] at this
theorem DU {cs:List Rec} {k:Nat} (h:k < cs.length) {c:Rec} (q:c.lits.length=(cs[k]).lits.length) (j:Nat):(enc (cs.set k c))[j]? = if dw cs k <= j/\j < dw cs k + (3 + (cs[k]).lits.length) then (enc1 c)[j - dw cs k]? else (enc cs)[j]? := by
 have e:cs=cs.take k ++ cs[k] :: cs.drop (k + 1):=by rw [<- List.drop_eq_getElem_cons h,List.take_append_drop]
 have l:enc cs=enc (cs.take k) ++ (enc1 cs[k] ++ enc (cs.drop (k + 1))):=by
  conv=>lhs;rw [e]
  rw [gz];rfl
 have g:enc (cs.set k c)=enc (cs.take k) ++ (enc1 c ++ enc (cs.drop (k + 1))):=by
  rw [List.set_eq_take_append_cons_drop,if_pos h,gz];rfl
 have o:=fZ c;have m:=fZ cs[k];have b:dw cs k=(enc (cs.take k)).length:=rfl;rw [g,l];split
 ·rename_i d;rw [List.getElem?_append_right (by omega),List.getElem?_append_left (by omega),b]
 ·rename_i d
  rcases Nat.lt_or_ge j (dw cs k) with f | f
  ·rw [List.getElem?_append_left (by omega),List.getElem?_append_left (by omega)]
  ·rw [List.getElem?_append_right (by omega),List.getElem?_append_right (by omega),List.getElem?_append_right (by omega),List.getElem?_append_right (by omega)]
   congr 1;omega
theorem ry {cs:List Rec} {k:Nat} (h:k < cs.length) (b:Int):enc (cs.set k ⟨(cs[k]).kind,b,(cs[k]).lits⟩)=(enc cs).set (dw cs k + 2) b:=by
 refine List.ext_getElem? fun j=>?_
 rw [DU (c:=⟨(cs[k]).kind,b,(cs[k]).lits⟩) h rfl,List.getElem?_set];have f:=eF h;by_cases e:dw cs k + 2=j
 ·subst e;rw [if_pos ⟨by omega,by omega⟩,if_pos rfl,if_pos (by omega)]
  simp [enc1]
 ·rw [if_neg e];split
  ·rename_i d;obtain ⟨i,rfl⟩:∃ i,j=dw cs k + i:=⟨j - dw cs k,by omega⟩
   rw [qi h i (by omega),Nat.add_sub_cancel_left]
   match i with
   | 0=>rfl
   | 1=>rfl
   | 2=>exact absurd rfl e
   | i + 3=>simp [enc1]
  ·rfl
theorem GK {cs:List Rec} {k:Nat} (h:k < cs.length) (b:Nat):enc (cs.set k ⟨b,(cs[k]).busy,(cs[k]).lits⟩)=(enc cs).set (dw cs k + 1) (b:Int):=by
 refine List.ext_getElem? fun j=>?_
 rw [DU (c:=⟨b,(cs[k]).busy,(cs[k]).lits⟩) h rfl,List.getElem?_set];have f:=eF h;by_cases e:dw cs k + 1=j
 ·subst e;rw [if_pos ⟨by omega,by omega⟩,if_pos rfl,if_pos (by omega)]
  simp [enc1]
 ·rw [if_neg e];split
  ·rename_i d;obtain ⟨i,rfl⟩:∃ i,j=dw cs k + i:=⟨j - dw cs k,by omega⟩
   rw [qi h i (by omega),Nat.add_sub_cancel_left]
   match i with
   | 0=>rfl
   | 1=>exact absurd rfl e
   | i + 2=>simp [enc1]
  ·rfl
theorem zt {cs:List Rec} {k:Nat} (h:k < cs.length) {i:Nat} (hi:i < (cs[k]).lits.length) (x:Nat):enc (cs.set k ⟨(cs[k]).kind,(cs[k]).busy,(cs[k]).lits.set i x⟩)=(enc cs).set (dw cs k + 3 + i) (x:Int):=by
 refine List.ext_getElem? fun j=>?_
 rw [DU h (by simp),List.getElem?_set]
 have d:=eF h;by_cases e:dw cs k + 3 + i=j
 ·subst e;rw [if_pos ⟨by omega,by omega⟩,if_pos rfl,if_pos (by omega)]
  rw [show dw cs k + 3 + i - dw cs k=i + 1 + 1 + 1 by omega]
  simp only [enc1,List.getElem?_cons_succ,List.map_set];rw [List.getElem?_set_self (by simpa using hi)]
 ·rw [if_neg e];split
  ·rename_i b;obtain ⟨m,rfl⟩:∃ m,j=dw cs k + m:=⟨j - dw cs k,by omega⟩
   rw [qi h m (by omega),Nat.add_sub_cancel_left]
   match m with
   | 0=>simp [enc1]
   | 1=>rfl
   | 2=>rfl
   | m + 3=>
    simp only [enc1,List.getElem?_cons_succ,List.map_set];rw [List.getElem?_set_ne (by omega)]
  ·rfl
def mapOf (cs:List Rec):iR:=fun a=>((List.range cs.length).find? fun k=>dw cs k == a).bind fun k=>(cs[k]?).map fun c=>⟨c.kind,c.lits⟩
theorem dP {cs:List Rec} {k:Nat} (h:k < cs.length):mapOf cs (dw cs k)=some ⟨(cs[k]).kind,(cs[k]).lits⟩:=by
 unfold mapOf;have:((List.range cs.length).find? fun j=>dw cs j == dw cs k)=some k:=by
  cases e:(List.range cs.length).find? fun j=>dw cs j == dw cs k with
  | none=>
   have:=List.find?_eq_none.1 e k (List.mem_range.2 h);simp at this
  | some j=>
   have b:=List.find?_some e;have d:=List.mem_range.1 (List.mem_of_find?_eq_some e);simp only [beq_iff_eq] at b;rw [D8 (Nat.le_of_lt d) (Nat.le_of_lt h) b]
 rw [this,Option.bind_some,List.getElem?_eq_getElem h];rfl
theorem dO {cs:List Rec} {a:Nat} {c:xJ} (h:mapOf cs a=some c):∃ k,∃ f:k < cs.length,a=dw cs k/\c=⟨(cs[k]).kind,(cs[k]).lits⟩:=by
 unfold mapOf at h
 cases e:(List.range cs.length).find? fun j=>dw cs j == a with
 | none=>rw [e] at h;cases h
 | some j=>
  rw [e,Option.bind_some] at h;have d:=List.find?_some e;have b:=List.mem_range.1 (List.mem_of_find?_eq_some e);simp only [beq_iff_eq] at d;rw [List.getElem?_eq_getElem b] at h;exact ⟨j,b,d.symm,(Option.some.inj h).symm⟩
theorem BJ {cs:List Rec} {k:Nat} (h:k < cs.length) {c:Rec} (g:c.lits.length=(cs[k]).lits.length):mapOf (cs.set k c)=kD (mapOf cs) (dw cs k) ⟨c.kind,c.lits⟩:=by
 funext a
 have b:(cs.set k c).length=cs.length:=by simp
 by_cases e:a=dw cs k
 ·subst e;rw [dV];have:=dP (cs:=cs.set k c) (k:=k) (by rw [b];exact h)
  rw [oJ h g] at this;rw [this];simp
 ·rw [dK _ _ e]
  cases o:mapOf cs a with
  | none=>
   cases r:mapOf (cs.set k c) a with
   | none=>rfl
   | some d=>
    obtain ⟨j,m,f,_⟩:=dO r;rw [oJ h g] at f;rw [f,dP (by rw [<- b];exact m)] at o;cases o
  | some d=>
   obtain ⟨j,m,f,hd⟩:=dO o;have l:k ≠ j:=fun q=>e (by rw [f,q])
   have:=dP (cs:=cs.set k c) (k:=j) (by rw [b];exact m)
   rw [oJ h g,<- f] at this;rw [this,hd];simp [List.getElem_set_ne l]
theorem nT {cs:List Rec} (c:Rec) {k:Nat} (h:k <= cs.length):dw (cs ++ [c]) k=dw cs k:=by
 unfold dw;rw [List.take_append_of_le_length h]
theorem p9 (cs:List Rec) (c:Rec):mapOf (cs ++ [c])=kD (mapOf cs) (enc cs).length ⟨c.kind,c.lits⟩:=by
 funext a
 have m:(cs ++ [c]).length=cs.length + 1:=by simp
 have b:dw (cs ++ [c]) cs.length=(enc cs).length:=by rw [nT c lr,iD lr]
 by_cases e:a=(enc cs).length
 ·subst e;rw [dV];have:=dP (cs:=cs ++ [c]) (k:=cs.length) (by omega)
  rw [b] at this;rw [this];simp
 ·rw [dK _ _ e]
  cases l:mapOf cs a with
  | none=>
   cases o:mapOf (cs ++ [c]) a with
   | none=>rfl
   | some d=>
    obtain ⟨j,g,f,_⟩:=dO o
    rcases Nat.lt_or_ge j cs.length with h | h
    ·rw [nT c (Nat.le_of_lt h)] at f;rw [f,dP h] at l;cases l
    ·have:j=cs.length:=by omega
     subst this;rw [b] at f;exact absurd f e
  | some d=>
   obtain ⟨j,g,f,hd⟩:=dO l;have:=dP (cs:=cs ++ [c]) (k:=j) (by omega)
   rw [nT c (Nat.le_of_lt g),<- f] at this;rw [this,hd,List.getElem_append_left g]
theorem lq (cs:List Rec):mapOf cs (enc cs).length=none:=by
 cases e:mapOf cs (enc cs).length with
 | none=>rfl
 | some d=>
  obtain ⟨j,b,f,_⟩:=dO e;have:=eF b;omega
end So
end Go.Proofs.YtceahffmenbibaaGreatDoor
