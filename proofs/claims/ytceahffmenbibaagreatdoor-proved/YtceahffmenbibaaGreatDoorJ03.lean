/- Sinv Sfal Sops. -/
import Derived.Test.YtceahffmenbibaaGreatDoorJ02
set_option linter.unusedVariables false
set_option linter.unusedSimpArgs false
namespace Go.Proofs.YtceahffmenbibaaGreatDoor
namespace So
section
structure zi where
 kind:Nat
 lits:List Nat
abbrev jy:Type:=Nat->Option zi
def cnt (ch:List Nat) (i:Nat):Nat:=(ch.filter fun p=>decide (p <= i)).length
structure jm (n:Nat) (tr ch:List Nat) (lev:Nat->Nat):Prop where
 lt:∀ x ∈ tr,x < 2 * n
 nodup:(tr.map (· / 2)).Nodup
 gY:Gb ch tr.length
 lev:∀ (i:Nat) (h:i < tr.length),lev (tr[i] / 2)=cnt ch i
def tv (tr:List Nat) (x:Nat):Int:=if x ∈ tr then 1 else if op x ∈ tr then -1 else 0
variable {n:Nat} {tr ch:List Nat} {lev:Nat->Nat} {C:jy} {dB:Nat->Int}
theorem jm.ry (h:jm n tr ch lev) {i j:Nat} (d:i < tr.length) (b:j < tr.length) (e:tr[i] / 2=tr[j] / 2):i=j:=by
 have f:(tr.map (· / 2))[i]'(by simpa using d)=(tr.map (· / 2))[j]'(by simpa using b):=by simpa using e
 exact (List.getElem_inj h.nodup).1 f
theorem jm.mR (h:jm n tr ch lev) {x:Nat} (k:x ∈ tr) (g:op x ∈ tr):False:=by
 obtain ⟨i,f,d⟩:=List.mem_iff_getElem.1 k;obtain ⟨j,e,b⟩:=List.mem_iff_getElem.1 g;have:i=j:=h.ry f e (by rw [d,b,gq]);subst this;rw [d] at b;exact IP x b.symm
theorem Bv {x:Nat}:tv tr x=1↔x ∈ tr:=by
 unfold tv;split
 ·simp_all
 ·split <;> simp_all
theorem jm.oF (h:jm n tr ch lev) {x:Nat}:tv tr x=-1↔op x ∈ tr:=by
 unfold tv;split
 ·rename_i d;exact ⟨fun e=>by omega,fun e=>(h.mR d e).elim⟩
 ·split
  ·rename_i b;exact ⟨fun _=>b,fun _=>rfl⟩
  ·rename_i b;exact ⟨fun e=>by omega,fun e=>absurd e b⟩
theorem sU {x:Nat}:tv tr x=0↔x ∉ tr/\op x ∉ tr:=by
 unfold tv;split
 ·simp_all
 ·split <;> simp_all
theorem Ta (x:Nat):tv [] x=0:=rfl
theorem vP {x:Nat} (h:x < 2 * n):op x < 2 * n:=by unfold op;split <;> omega
theorem CS (ch:List Nat) (i:Nat):cnt ch i <= ch.length:=List.length_filter_le ..
theorem ui {ch:List Nat} {i:Nat} (h:∀ p ∈ ch,p <= i):cnt ch i=ch.length:=by
 unfold cnt;rw [List.filter_eq_self.2 (fun p b=>by simpa using h p b)]
theorem cnt_mono (ch:List Nat) {i j:Nat} (h:i <= j):cnt ch i <= cnt ch j:=by
 unfold cnt
 induction ch with
 | nil=>simp
 | cons p r ih=>
  simp only [List.filter_cons];by_cases d:p <= i
  ·have b:p <= j:=by omega
   simp only [d,b,decide_true,if_true,List.length_cons];omega
  ·simp only [d,decide_false];by_cases b:p <= j
   ·simp only [b,decide_true,if_true,List.length_cons];simp;omega
   ·simp only [b,decide_false];simpa using ih
theorem H8 (ch:List Nat) (q i:Nat):cnt (ch ++ [q]) i=cnt ch i + if q <= i then 1 else 0:=by
 unfold cnt;rw [List.filter_append,List.length_append];by_cases h:q <= i <;> simp [h]
theorem cnt_lt {ch:List Nat} {len:Nat} (h:Gb ch len) {d:Nat} (hd:d < ch.length) {i:Nat}:cnt ch i <= d↔i < ch[d]:=by
 have split:ch=ch.take d ++ ch[d] :: ch.drop (d + 1):=by
  rw [<- List.drop_eq_getElem_cons hd,List.take_append_drop]
 have pw:=h.1;have k:∀ p ∈ ch.take d,p < ch[d]:=fun p b=>by
  obtain ⟨j,f,rfl⟩:=List.mem_iff_getElem.1 b;rw [List.length_take] at f;rw [List.getElem_take];exact List.pairwise_iff_getElem.1 pw j d (by omega) hd (by omega)
 have l:∀ p ∈ ch.drop (d + 1),ch[d] < p:=fun p b=>by
  obtain ⟨j,f,rfl⟩:=List.mem_iff_getElem.1 b;rw [List.length_drop] at f;rw [List.getElem_drop];exact List.pairwise_iff_getElem.1 pw d _ hd (by omega) (by omega)
 have e:cnt ch i=cnt (ch.take d) i + ((if ch[d] <= i then 1 else 0) + cnt (ch.drop (d + 1)) i):=by
  unfold cnt
  conv=>lhs;rw [split]
  rw [List.filter_append,List.length_append,List.filter_cons];by_cases h:ch[d] <= i
  ·simp only [h,decide_true,if_true,List.length_cons];omega
  ·simp only [h,decide_false];simp
 constructor
 ·intro m
  rcases Nat.lt_or_ge i ch[d] with g | g
  ·exact g
  ·have:cnt (ch.take d) i=d:=by
    rw [ui (fun p b=>by have:=k p b;omega),List.length_take];omega
   rw [this,if_pos g] at e;omega
 ·intro m;have z:cnt (ch.drop (d + 1)) i=0:=by
   unfold cnt;rw [List.length_eq_zero_iff,List.filter_eq_nil_iff];intro p b;have:=l p b;simp;omega
  have:=CS (ch.take d) i;rw [List.length_take] at this;rw [z,if_neg (by omega)] at e;omega
def eu {α:Type} (f:Nat->α) (k:Nat) (a:α):Nat->α:=fun j=>if j=k then a else f j
theorem dx {α:Type} (f:Nat->α) (k:Nat) (a:α):eu f k a k=a:=by unfold eu;rw [if_pos rfl]
theorem dm {α:Type} (f:Nat->α) {k j:Nat} (a:α) (h:j ≠ k):eu f k a j=f j:=by unfold eu;rw [if_neg h]
theorem lV {x y:Nat} (d:tv tr x=0) (b:y ∈ tr):y / 2 ≠ x / 2:=fun e=>by
 obtain ⟨g,f⟩:=sU.1 d
 rcases qE e with rfl | rfl
 ·exact g b
 ·exact f b
theorem JC {x:Nat} (d:tv tr x=0) (y:Nat):tv (tr ++ [x]) y=if y=x then 1 else if y=op x then -1 else tv tr y:=by
 obtain ⟨g,f⟩:=sU.1 d;unfold tv;by_cases e:y=x
 ·subst e;simp
 ·by_cases b:y=op x
  ·subst b;simp [f,IP,jT]
  ·have:op y ≠ x:=fun h=>b (by rw [<- h,jT])
   simp [e,b,this]
theorem jm.assign (h:jm n tr ch lev) {x:Nat} (o:x < 2 * n) (g:tv tr x=0):jm n (tr ++ [x]) ch (eu lev (x / 2) ch.length) where
 lt:=fun y d=>by
  rcases List.mem_append.1 d with d | d
  ·exact h.lt y d
  ·simp at d;omega
 nodup:=by
  rw [List.map_append];refine List.nodup_append.2 ⟨h.nodup,by simp,fun a l b j=>?_⟩;obtain ⟨y,d,rfl⟩:=List.mem_map.1 l;simp at j;subst j;exact lV g d
 gY:=⟨h.gY.1,fun p f=>by have:=h.gY.2 p f;simp;omega⟩
 lev:=fun i k=>by
  by_cases e:i < tr.length
  ·rw [List.getElem_append_left e,dm _ _ (lV g (List.getElem_mem e)),h.lev i e]
  ·have m:i=tr.length:=by simp at k;omega
   subst m;rw [List.getElem_append_right lr];simp only [Nat.sub_self,List.getElem_cons_zero];rw [dx,ui (fun p f=>by have:=h.gY.2 p f;omega)]
theorem jm.choose (h:jm n tr ch lev) {x:Nat} (g:x < 2 * n) (f:tv tr x=0):jm n (tr ++ [x]) (ch ++ [tr.length]) (eu lev (x / 2) (ch.length + 1)) where
 lt:=(h.assign g f).lt
 nodup:=(h.assign g f).nodup
 gY:=by
  refine ⟨List.pairwise_append.2 ⟨h.gY.1,by simp,fun a l b j=>?_⟩,fun p d=>?_⟩
  ·simp at j;subst j;exact h.gY.2 a l
  ·rcases List.mem_append.1 d with d | d
   ·have:=h.gY.2 p d;simp;omega
   ·simp at d;subst d;simp
 lev:=fun i k=>by
  rw [H8];by_cases e:i < tr.length
  ·rw [List.getElem_append_left e,dm _ _ (lV f (List.getElem_mem e)),h.lev i e,if_neg (by omega),Nat.add_zero]
  ·have m:i=tr.length:=by simp at k;omega
   subst m;rw [List.getElem_append_right lr];simp only [Nat.sub_self,List.getElem_cons_zero];rw [dx,ui (fun p d=>by have:=h.gY.2 p d;omega),if_pos lr]
theorem AZ {len:Nat} (h:Gb ch len) {d:Nat} (hd:d < ch.length):Gb (ch.take d) ch[d]:=
 ⟨h.1.sublist (List.take_sublist ..),fun p b=>by
  obtain ⟨j,e,rfl⟩:=List.mem_iff_getElem.1 b;rw [List.length_take] at e;rw [List.getElem_take];exact List.pairwise_iff_getElem.1 h.1 j d (by omega) hd (by omega)⟩
theorem Od {len:Nat} (h:Gb ch len) {d:Nat} (hd:d < ch.length) {i:Nat} (k:i < ch[d]):cnt (ch.take d) i=cnt ch i:=by
 have e:ch=ch.take d ++ ch.drop d:=(List.take_append_drop d ch).symm;have z:∀ p ∈ ch.drop d,i < p:=fun p b=>by
  obtain ⟨j,g,rfl⟩:=List.mem_iff_getElem.1 b;rw [List.length_drop] at g;rw [List.getElem_drop]
  rcases Nat.eq_zero_or_pos j with f | f
  ·subst f;exact k
  ·have:=List.pairwise_iff_getElem.1 h.1 d (d + j) hd (by omega) (by omega);omega
 unfold cnt
 conv=>rhs;rw [e]
 rw [List.filter_append,List.length_append];have:(ch.drop d).filter (fun p=>decide (p <= i))=[]:=by
  rw [List.filter_eq_nil_iff];intro p b;have:=z p b;simp;omega
 rw [this];simp
theorem jm.back (h:jm n tr ch lev) {d:Nat} (hd:d < ch.length):jm n (tr.take ch[d]) (ch.take d) lev where
 lt:=fun x b=>h.lt x (List.mem_of_mem_take b)
 nodup:=by rw [List.map_take];exact h.nodup.sublist (List.take_sublist ..)
 gY:=by
  have:=AZ h.gY hd;have f:ch[d] < tr.length:=h.gY.2 _ (List.getElem_mem hd);rw [List.length_take,Nat.min_eq_left (by omega)];exact this
 lev:=fun i e=>by
  rw [List.length_take] at e;rw [List.getElem_take,h.lev i (by omega),Od h.gY hd (by omega)]
def Why (C:jy) (tr:List Nat) (dB:Nat->Int) (i:Nat) (h:i < tr.length):Prop:=∃ a c r,dB (tr[i] / 2)=(a:Nat)/\C a=some c/\c.kind ≠ 2/\c.lits=tr[i] :: r/\∀ y ∈ r,∃ j,∃ hj:j < tr.length,j < i/\tr[j]=op y
structure rZ (C:jy) (tr ch:List Nat) (dB:Nat->Int):Prop where
 Oi:∀ i (h:i < tr.length),i ∈ ch->dB (tr[i] / 2)=-1
 why:∀ i (h:i < tr.length),i ∉ ch->Why C tr dB i h
theorem xe {C:jy} {tr:List Nat} {dB zy:Nat->Int} {x i:Nat} (h:i < tr.length) (t:i < (tr ++ [x]).length) (g:zy (tr[i] / 2)=dB (tr[i] / 2)) (f:Why C tr dB i h):Why C (tr ++ [x]) zy i t:=by
 obtain ⟨a,c,r,s,q,o,m,l⟩:=f;have e:(tr ++ [x])[i]=tr[i]:=List.getElem_append_left h;refine ⟨a,c,r,by rw [e,g];exact s,q,o,by rw [e];exact m,fun y d=>?_⟩;obtain ⟨j,k,b,u⟩:=l y d;exact ⟨j,by simp;omega,b,by rw [List.getElem_append_left k];exact u⟩
theorem rZ.assign (h:rZ C tr ch dB) (m:jm n tr ch lev) {x a:Nat} {c:zi} {r:List Nat} (f:tv tr x=0) (t:C a=some c) (q:c.kind ≠ 2) (o:c.lits=x :: r) (s:∀ y ∈ r,op y ∈ tr):rZ C (tr ++ [x]) ch (eu dB (x / 2) (a:Nat)) where
 Oi:=fun i d b=>by
  have e:=m.gY.2 i b;rw [List.getElem_append_left e,dm _ _ (lV f (List.getElem_mem e))];exact h.Oi i e b
 why:=fun i d b=>by
  by_cases e:i < tr.length
  ·exact xe e d (dm _ _ (lV f (List.getElem_mem e))) (h.why i e b)
  ·have v:i=tr.length:=by simp at d;omega
   subst v;have k:(tr ++ [x])[tr.length]=x:=by rw [List.getElem_append_right lr];simp
   refine ⟨a,c,r,by rw [k,dx],t,q,by rw [k];exact o,fun y l=>?_⟩;obtain ⟨j,g,u⟩:=List.mem_iff_getElem.1 (s y l);exact ⟨j,by simp;omega,g,by rw [List.getElem_append_left g];exact u⟩
theorem rZ.choose (h:rZ C tr ch dB) (j:jm n tr ch lev) {x:Nat} (f:tv tr x=0):rZ C (tr ++ [x]) (ch ++ [tr.length]) (eu dB (x / 2) (-1)) where
 Oi:=fun i d b=>by
  rcases List.mem_append.1 b with b | b
  ·have e:=j.gY.2 i b;rw [List.getElem_append_left e,dm _ _ (lV f (List.getElem_mem e))];exact h.Oi i e b
  ·simp at b;subst b;rw [List.getElem_append_right lr];simp only [Nat.sub_self,List.getElem_cons_zero];exact dx ..
 why:=fun i d b=>by
  have e:i < tr.length:=by
   rcases Nat.lt_or_ge i tr.length with g | g
   ·exact g
   ·have:i=tr.length:=by simp at d;omega
    exact absurd (by simp [this]) b
  exact xe e d (dm _ _ (lV f (List.getElem_mem e))) (h.why i e (fun k=>b (List.mem_append_left _ k)))
theorem rZ.back (h:rZ C tr ch dB) (s:jm n tr ch lev) {d:Nat} (hd:d < ch.length):rZ C (tr.take ch[d]) (ch.take d) dB where
 Oi:=fun i l m=>by
  rw [List.length_take] at l;rw [List.getElem_take];exact h.Oi i (by omega) (List.mem_of_mem_take m)
 why:=fun i l m=>by
  rw [List.length_take] at l;have g:i ∉ ch:=fun t=>m (by
   obtain ⟨j,o,e⟩:=List.mem_iff_getElem.1 t;refine List.mem_iff_getElem.2 ⟨j,?_,by rw [List.getElem_take];exact e⟩;rw [List.length_take]
   rcases Nat.lt_or_ge j d with f | f
   ·omega
   ·have:ch[d] <= ch[j]:=by
     rcases Nat.eq_or_lt_of_le f with b | b
     ·subst b;exact lr
     ·exact Nat.le_of_lt (List.pairwise_iff_getElem.1 s.gY.1 d j hd o b)
    omega)
  obtain ⟨a,c,r,f,b,w,v,u⟩:=h.why i (by omega) g;refine ⟨a,c,r,by rw [List.getElem_take];exact f,b,w,by rw [List.getElem_take];exact v,fun y q=>?_⟩;obtain ⟨j,o,k,x⟩:=u y q;exact ⟨j,by rw [List.length_take];omega,k,by rw [List.getElem_take];exact x⟩
theorem rZ.congr {C':jy} (h:rZ C tr ch dB) (q:∀ a c x r,C a=some c->c.kind ≠ 2->c.lits=x :: r->x ∈ tr->dB (x / 2)=(a:Nat)->∃ b,C' a=some b/\b.kind ≠ 2/\∃ d,b.lits=x :: d/\∀ y,y ∈ d->y ∈ r):rZ C' tr ch dB where
 Oi:=h.Oi
 why:=fun i e o=>by
  obtain ⟨a,c,r,f,v,u,t,s⟩:=h.why i e o;obtain ⟨b,l,k,d,j,g⟩:=q a c _ r v u t (List.getElem_mem e) f;exact ⟨a,b,d,f,l,k,j,fun y m=>s y (g y m)⟩
def zO (tr:List Nat) (lev:Nat->Nat) (P p q:Nat):Prop:=∀ i (h:i < tr.length),i < P->tr[i]=op p->q ∈ tr/\lev (q / 2) <= lev (p / 2)
def sO (C:jy) (tr:List Nat) (lev:Nat->Nat) (P:Nat):Prop:=∀ a c p q r,C a=some c->c.kind ≠ 2->c.lits=p :: q :: r->zO tr lev P p q/\zO tr lev P q p
variable {P:Nat}
theorem sO.none (C:jy) (tr:List Nat) (lev:Nat->Nat):sO C tr lev 0:=fun a c p q r _ _ _=>⟨fun i _ h=>by omega,fun i _ h=>by omega⟩
theorem zO.assign {p q x v:Nat} (h:zO tr lev P p q) (m:P <= tr.length) (d:tv tr x=0):zO (tr ++ [x]) (eu lev (x / 2) v) P p q:=fun i l j e=>by
 have b:i < tr.length:=by omega
 rw [List.getElem_append_left b] at e;obtain ⟨f,k⟩:=h i b j e;refine ⟨List.mem_append_left _ f,?_⟩;have g:p / 2 ≠ x / 2:=by
  have:=lV d (List.getElem_mem b);rw [e,gq] at this;exact this
 rw [dm _ _ (lV d f),dm _ _ g];exact k
theorem sO.assign {x v:Nat} (h:sO C tr lev P) (d:P <= tr.length) (b:tv tr x=0):sO C (tr ++ [x]) (eu lev (x / 2) v) P:=fun a c p q r g f e=>
 ⟨(h a c p q r g f e).1.assign d b,(h a c p q r g f e).2.assign d b⟩
theorem zO.back {p q:Nat} (h:zO tr lev P p q) (f:jm n tr ch lev) {d:Nat} (hd:d < ch.length) (s:ch[d] <= P):zO (tr.take ch[d]) lev ch[d] p q:=fun i m k e=>by
 rw [List.length_take] at m;rw [List.getElem_take] at e;have b:i < tr.length:=by omega
 obtain ⟨r,o⟩:=h i b (by omega) e;refine ⟨?_,o⟩;obtain ⟨j,l,g⟩:=List.mem_iff_getElem.1 r;have u:lev (p / 2)=cnt ch i:=by rw [<- f.lev i b,e,gq]
 have t:lev (q / 2)=cnt ch j:=by rw [<- f.lev j l,g]
 have w:cnt ch i <= d:=(cnt_lt f.gY hd).2 k;have v:j < ch[d]:=(cnt_lt f.gY hd).1 (by omega);exact List.mem_iff_getElem.2 ⟨j,by rw [List.length_take];omega,by rw [List.getElem_take];exact g⟩
theorem sO.back (h:sO C tr lev P) (b:jm n tr ch lev) {d:Nat} (hd:d < ch.length) (e:ch[d] <= P):sO C (tr.take ch[d]) lev ch[d]:=fun a c p q r j g f=>
 ⟨(h a c p q r j g f).1.back b hd e,(h a c p q r j g f).2.back b hd e⟩
def F4 (C:jy) (a:Nat) (c:zi):Prop:=C a=some c/\c.kind ≠ 2/\2 <= c.lits.length
structure wQ (n:Nat) (C:jy) (wl:Nat->List Nat):Prop where
 lists:∀ x,x < 2 * n->∀ a ∈ wl x,∃ c,F4 C a c/\(c.lits[0]? = some x\/c.lits[1]? = some x)
 two:∀ a c,F4 C a c->∀ x,c.lits[0]? = some x\/c.lits[1]? = some x->a ∈ wl x
 nodup:∀ x,x < 2 * n->(wl x).Nodup
structure Dr (n:Nat) (C:jy):Prop where
 vars:∀ a c,C a=some c->(c.lits.map (· / 2)).Nodup
 lt:∀ a c,C a=some c->∀ x ∈ c.lits,x < 2 * n
variable {wl W:Nat->List Nat} {a:Nat} {c:zi}
def jZ (C:jy) (a:Nat) (c:zi):jy:=eu C a (some c)
theorem dP (C:jy) (a:Nat) (c:zi):jZ C a c a=some c:=dx ..
theorem dJ (C:jy) {a b:Nat} (c:zi) (h:b ≠ a):jZ C a c b=C b:=dm _ _ h
theorem Dr.put (h:Dr n C) (j:C a=some c) {k:zi} (g:k.lits.Perm c.lits):Dr n (jZ C a k) where
 vars:=fun b d hd=>by
  by_cases e:b=a
  ·subst e;rw [dP] at hd;cases hd
   exact (g.map _).nodup_iff.2 (h.vars b c j)
  ·rw [dJ _ _ e] at hd;exact h.vars b d hd
 lt:=fun b d hd x f=>by
  by_cases e:b=a
  ·subst e;rw [dP] at hd;cases hd
   exact h.lt b c j x (g.mem_iff.1 f)
  ·rw [dJ _ _ e] at hd;exact h.lt b d hd x f
theorem wQ.swap (h:wQ n C W) (o:C a=some c) {p q:Nat} {r:List Nat} (l:c.lits=p :: q :: r):wQ n (jZ C a ⟨c.kind,q :: p :: r⟩) W where
 lists:=fun x g b s=>by
  obtain ⟨d,⟨f,j,m⟩,k⟩:=h.lists x g b s;by_cases e:b=a
  ·subst e;rw [o] at f;cases f
   refine ⟨_,⟨dP ..,j,by simp⟩,?_⟩;rw [l] at k;simp only [List.getElem?_cons_zero,List.getElem?_cons_succ] at k ⊢;exact k.symm
  ·exact ⟨d,⟨by rw [dJ _ _ e];exact f,j,m⟩,k⟩
 two:=fun b d ⟨f,j,m⟩ x g=>by
  by_cases e:b=a
  ·subst e;rw [dP] at f;cases f
   refine h.two b c ⟨o,j,by rw [l];simp⟩ x ?_;rw [l];simp only [List.getElem?_cons_zero,List.getElem?_cons_succ] at g ⊢;exact g.symm
  ·rw [dJ _ _ e] at f;exact h.two b d ⟨f,j,m⟩ x g
 nodup:=h.nodup
theorem sO.swap (h:sO C tr lev P) (s:C a=some c) {p q:Nat} {r:List Nat} (o:c.lits=p :: q :: r):sO (jZ C a ⟨c.kind,q :: p :: r⟩) tr lev P:=fun b d m l k f j g=>by
 by_cases e:b=a
 ·subst e;rw [dP] at f;cases f
  simp only [List.cons.injEq] at g;obtain ⟨rfl,rfl,rfl⟩:=g;exact (h b c p q r s j o).symm
 ·rw [dJ _ _ e] at f;exact h b d m l k f j g
theorem rZ.put (h:rZ C tr ch dB) {o:zi} (k:C a=some c) (j:∀ x r,c.lits=x :: r->x ∈ tr->False):rZ (jZ C a o) tr ch dB:=
 h.congr fun b d x r f m g l q=>by
  by_cases e:b=a
  ·subst e;rw [k] at f;cases f
   exact (j x r g l).elim
  ·exact ⟨d,by rw [dJ _ _ e];exact f,m,r,g,fun _ h=>h⟩
theorem wQ.move (h:wQ n C W) (Q:Dr n C) (B:C a=some c) (S:c.kind ≠ 2) {q lit o k:Nat} {r kl rest:List Nat} (v:c.lits=q :: lit :: r) (V:r[k]? = some o) (A:W lit=kl ++ a :: rest) {W':Nat->List Nat} (F:W' lit=kl ++ rest) (E:W' o=W o ++ [a]) (D:∀ x,x ≠ lit->x ≠ o->W' x=W x) (u:lit < 2 * n):
  wQ n (jZ C a ⟨c.kind,q :: o :: r.set k lit⟩) W':=by
 have K:=Q.vars a c B;rw [v] at K;simp only [List.map_cons,List.nodup_cons,List.mem_cons,List.mem_map,not_or,not_exists,not_and] at K;obtain ⟨⟨M,L⟩,O,_⟩:=K;have t:o ∈ r:=List.mem_of_getElem? V;have G:q ≠ lit:=fun e=>M (by rw [e])
 have I:o ≠ lit:=fun e=>O o t (by rw [e])
 have H:o ≠ q:=fun e=>L o t (by rw [e])
 have J:a ∉ kl ++ rest:=by
  have:=h.nodup lit u;rw [A,List.nodup_append] at this;obtain ⟨_,g2,w⟩:=this;rw [List.nodup_cons] at g2;intro f
  rcases List.mem_append.1 f with f | f
  ·exact w _ f _ (List.mem_cons_self ..) rfl
  ·exact g2.1 f
 have T:F4 C a c:=⟨B,S,by rw [v];simp⟩;have ao:o < 2 * n->a ∉ W o:=fun X f=>by
  obtain ⟨d,⟨g1,_,_⟩,g2⟩:=h.lists o X a f;rw [B] at g1;cases g1
  rw [v] at g2;simp only [List.getElem?_cons_zero,List.getElem?_cons_succ,Option.some.injEq] at g2
  rcases g2 with e | e
  ·exact H e.symm
  ·exact I e.symm
 have sub:∀ x b,b ≠ a->b ∈ W' x->b ∈ W x:=fun x b m f=>by
  by_cases g:x=lit
  ·subst g;rw [F] at f;rw [A]
   rcases List.mem_append.1 f with f | f
   ·exact List.mem_append_left _ f
   ·exact List.mem_append_right _ (List.mem_cons_of_mem _ f)
  ·by_cases l:x=o
   ·subst l;rw [E] at f
    rcases List.mem_append.1 f with f | f
    ·exact f
    ·simp at f;exact absurd f m
   ·rw [D x g l] at f;exact f
 have s:∀ x b,(b=a->x ≠ lit)->b ∈ W x->b ∈ W' x:=fun x b m f=>by
  by_cases g:x=lit
  ·subst g;have N:b ≠ a:=fun e=>m e rfl
   rw [A] at f;rw [F]
   rcases List.mem_append.1 f with f | f
   ·exact List.mem_append_left _ f
   ·rcases List.mem_cons.1 f with f | f
    ·exact absurd f N
    ·exact List.mem_append_right _ f
  ·by_cases l:x=o
   ·subst l;rw [E];exact List.mem_append_left _ f
   ·rw [D x g l];exact f
 exact {
  lists:=fun x j b m=>by
   by_cases e:b=a
   ·subst e;refine ⟨_,⟨dP ..,S,by simp⟩,?_⟩;simp only [List.getElem?_cons_zero,List.getElem?_cons_succ,Option.some.injEq];by_cases g:x=lit
    ·subst g;rw [F] at m;exact absurd m J
    ·by_cases l:x=o
     ·exact .inr l.symm
     ·rw [D x g l] at m;obtain ⟨d,⟨g1,_,_⟩,g2⟩:=h.lists x j b m;rw [B] at g1;cases g1
      rw [v] at g2;simp only [List.getElem?_cons_zero,List.getElem?_cons_succ,Option.some.injEq] at g2
      rcases g2 with e | e
      ·exact .inl e
      ·exact absurd e.symm g
   ·obtain ⟨d,⟨g1,g2,w⟩,Y⟩:=h.lists x j b (sub x b e m);exact ⟨d,⟨by rw [dJ _ _ e];exact g1,g2,w⟩,Y⟩
  two:=fun b d ⟨g1,g2,w⟩ x j=>by
   by_cases e:b=a
   ·subst e;rw [dP] at g1;cases g1
    simp only [List.getElem?_cons_zero,List.getElem?_cons_succ,Option.some.injEq] at j
    rcases j with e | e
    ·subst e;exact s _ _ (fun _=>G) (h.two b c T q (by rw [v];exact .inl rfl))
    ·subst e;rw [E];simp
   ·rw [dJ _ _ e] at g1;exact s x b (fun Z=>absurd Z e) (h.two b d ⟨g1,g2,w⟩ x j)
  nodup:=fun x j=>by
   by_cases g:x=lit
   ·subst g;rw [F];have:=h.nodup x j;rw [A] at this;exact this.sublist ((List.Sublist.refl kl).append (List.sublist_cons_self _ _))
   ·by_cases l:x=o
    ·subst l;rw [E];refine List.nodup_append.2 ⟨h.nodup x j,by simp,fun y U z R=>?_⟩;simp at R;subst R;exact fun e=>ao j (e ▸ U)
    ·rw [D x g l];exact h.nodup x j }
theorem Aq {q lit o k:Nat} {r:List Nat} (d:r[k]? = some o):(q :: o :: r.set k lit).Perm (q :: lit :: r):=by
 refine List.Perm.cons _ ?_;obtain ⟨b,e⟩:=List.getElem?_eq_some_iff.1 d;have g:r=r.take k ++ o :: r.drop (k + 1):=by rw [<- e,<- List.drop_eq_getElem_cons b,List.take_append_drop]
 have f:r.set k lit=r.take k ++ lit :: r.drop (k + 1):=by
  rw [List.set_eq_take_append_cons_drop,if_pos b]
 rw [f]
 conv=>rhs;rw [g]
 have p1:(r.take k ++ lit :: r.drop (k + 1)).Perm (lit :: (r.take k ++ r.drop (k + 1))):=List.perm_middle;have p2:(r.take k ++ o :: r.drop (k + 1)).Perm (o :: (r.take k ++ r.drop (k + 1))):=List.perm_middle;exact ((p1.cons o).trans (List.Perm.swap ..)).trans (p2.symm.cons lit)
end
section
variable {n:Nat} {tr ch:List Nat} {lev:Nat->Nat} {C:jy} {dB:Nat->Int} {P:Nat} {wl:Nat->List Nat}
def OG (C C':jy):Prop:=∀ a,(C a=none/\C' a=none)\/∃ c c',C a=some c/\C' a=some c'/\c'.kind=c.kind/\c'.lits.Perm c.lits
structure FI (n lit p:Nat) (ch cz:List Nat) (i:Nat) (C:jy) (tr:List Nat) (lev:Nat->Nat) (dB:Nat->Int) (wl:Nat->List Nat) (kl:List Nat):Prop where
 dN:jm n tr ch lev
 qg:rZ C tr ch dB
 oC:Dr n C
 qj:wQ n C (fun x=>if x=lit then kl ++ cz.drop i else wl x)
 zn:sO C tr lev p
 kept:∀ a ∈ kl,∃ c q r,C a=some c/\c.lits=q :: lit :: r/\q ∈ tr/\lev (q / 2) <= lev (lit / 2)
 hp:p < tr.length
 K3:tr[p]? = some (op lit)
 late:∀ q ∈ ch,q <= p
 oK:kl.length <= i
 uX:i <= cz.length
variable {lit p i:Nat} {cz kl:List Nat}
theorem FI.pG (h:FI n lit p ch cz i C tr lev dB wl kl):lit < 2 * n:=by
 have:=h.dN.lt _ (List.mem_of_getElem? h.K3);have:=vP this
 rwa [jT] at this
theorem FI.rM (h:FI n lit p ch cz i C tr lev dB wl kl):op lit ∈ tr:=List.mem_of_getElem? h.K3
theorem FI.Cc (h:FI n lit p ch cz i C tr lev dB wl kl):lit ∉ tr:=fun b=>h.dN.mR b h.rM
theorem FI.I7 (h:FI n lit p ch cz i C tr lev dB wl kl):lev (lit / 2)=ch.length:=by
 obtain ⟨b,e⟩:=List.getElem?_eq_some_iff.1 h.K3;have:=h.dN.lev p b;rw [e,gq] at this;rw [this,ui h.late]
theorem FI.TA (h:FI n lit p ch cz i C tr lev dB wl kl) {q:Nat} (b:q ∈ tr):lev (q / 2) <= lev (lit / 2):=by
 obtain ⟨j,d,e⟩:=List.mem_iff_getElem.1 b;have:=h.dN.lev j d;rw [e] at this;rw [this,h.I7];exact CS ..
theorem FI.start (f:jm n tr ch lev) (h:rZ C tr ch dB) (k:Dr n C) (d:wQ n C wl) (g:sO C tr lev p) (b:tr[p]? = some (op lit)) (j:∀ q ∈ ch,q <= p):FI n lit p ch (wl lit) 0 C tr lev dB wl [] where
 dN:=f
 qg:=h
 oC:=k
 qj:=by
  have e:(fun x=>if x=lit then [] ++ (wl lit).drop 0 else wl x)=wl:=by
   funext x;split
   ·rename_i e;subst e;rfl
   ·rfl
  rw [e];exact d
 zn:=g
 kept:=fun a b=>by simp at b
 hp:=(List.getElem?_eq_some_iff.1 b).1
 K3:=b
 late:=j
 oK:=zl
 uX:=zl
theorem FI.next (h:FI n lit p ch cz i C tr lev dB wl kl) (b:i < cz.length):∃ c,F4 C cz[i] c/\(c.lits[0]? = some lit\/c.lits[1]? = some lit):=
 h.qj.lists lit h.pG cz[i] (by
  show cz[i] ∈ (if lit=lit then kl ++ cz.drop i else wl lit)
  rw [if_pos rfl,List.drop_eq_getElem_cons b];exact List.mem_append_right _ (List.mem_cons_self ..))
theorem FI.IW (h:FI n lit p ch cz i C tr lev dB wl kl) (d:i < cz.length):cz[i] ∉ kl:=fun b=>by
 have:=h.qj.nodup lit h.pG;simp only [if_true] at this;rw [List.drop_eq_getElem_cons d,List.nodup_append] at this;exact this.2.2 _ b _ (List.mem_cons_self ..) rfl
theorem FI.swap (h:FI n lit p ch cz i C tr lev dB wl kl) (k:i < cz.length) {c:zi} (d:C cz[i]=some c) {q:Nat} {r:List Nat} (b:c.lits=lit :: q :: r):FI n lit p ch cz i (jZ C cz[i] ⟨c.kind,q :: lit :: r⟩) tr lev dB wl kl where
 dN:=h.dN
 qg:=h.qg.put d fun x l e j=>by
  rw [b] at e;obtain ⟨rfl,_⟩:=List.cons.inj e;exact h.Cc j
 oC:=h.oC.put d (by rw [b];exact List.Perm.swap ..)
 qj:=h.qj.swap d b
 zn:=h.zn.swap d b
 kept:=fun a f=>by
  have g:a ≠ cz[i]:=fun e=>h.IW k (e ▸ f)
  rw [dJ _ _ g];exact h.kept a f
 hp:=h.hp
 K3:=h.K3
 late:=h.late
 oK:=h.oK
 uX:=h.uX
theorem FI.I9 (h:FI n lit p ch cz i C tr lev dB wl kl) (b:i < cz.length):wQ n C (fun x=>if x=lit then (kl ++ [cz[i]]) ++ cz.drop (i + 1) else wl x):=by
 have e:(kl ++ [cz[i]]) ++ cz.drop (i + 1)=kl ++ cz.drop i:=by rw [List.drop_eq_getElem_cons b];simp
 rw [e];exact h.qj
theorem FI.keep (h:FI n lit p ch cz i C tr lev dB wl kl) (e:i < cz.length) {c:zi} (g:C cz[i]=some c) {q:Nat} {r:List Nat} (f:c.lits=q :: lit :: r) (d:q ∈ tr):FI n lit p ch cz (i + 1) C tr lev dB wl (kl ++ [cz[i]]) where
 dN:=h.dN
 qg:=h.qg
 oC:=h.oC
 qj:=h.I9 e
 zn:=h.zn
 kept:=fun a b=>by
  rcases List.mem_append.1 b with b | b
  ·exact h.kept a b
  ·simp at b;subst b;exact ⟨c,q,r,g,f,d,h.TA d⟩
 hp:=h.hp
 K3:=h.K3
 late:=h.late
 oK:=by have:=h.oK;simp;omega
 uX:=e
theorem FI.unit (h:FI n lit p ch cz i C tr lev dB wl kl) (m:i < cz.length) {c:zi} (k:C cz[i]=some c) (v:c.kind ≠ 2) {q:Nat} {r:List Nat} (j:c.lits=q :: lit :: r) (e:tv tr q=0) (u:∀ y ∈ r,op y ∈ tr):
  FI n lit p ch cz (i + 1) C (tr ++ [q]) (eu lev (q / 2) ch.length) (eu dB (q / 2) (cz[i]:Nat)) wl (kl ++ [cz[i]]):=by
 have g:q < 2 * n:=h.oC.lt _ _ k q (by rw [j];simp);have l:lit / 2 ≠ q / 2:=by
  have:=lV e h.rM;rw [gq] at this;exact this
 exact {
  dN:=h.dN.assign g e
  qg:=h.qg.assign h.dN e k v j fun y f=>by
   rcases List.mem_cons.1 f with rfl | f
   ·exact h.rM
   ·exact u y f
  oC:=h.oC
  qj:=h.I9 m
  zn:=h.zn.assign (Nat.le_of_lt h.hp) e
  kept:=fun a b=>by
   rcases List.mem_append.1 b with b | b
   ·obtain ⟨d,t,s,z,x,o,w⟩:=h.kept a b;refine ⟨d,t,s,z,x,List.mem_append_left _ o,?_⟩;rw [dm _ _ (lV e o),dm _ _ l];exact w
   ·simp at b;subst b;refine ⟨c,q,r,k,j,by simp,?_⟩;rw [dx,dm _ _ l,h.I7];exact lr
  hp:=by have:=h.hp;simp;omega
  K3:=by rw [List.getElem?_append_left h.hp];exact h.K3
  late:=h.late
  oK:=by have:=h.oK;simp;omega
  uX:=m }
theorem FI.move (h:FI n lit p ch cz i C tr lev dB wl kl) (v:i < cz.length) {c:zi} (m:C cz[i]=some c) (A:c.kind ≠ 2) {q o k:Nat} {r:List Nat} (g:c.lits=q :: lit :: r) (I:q ∉ tr) (t:r[k]? = some o) (J:op o ∉ tr):
  FI n lit p ch cz (i + 1) (jZ C cz[i] ⟨c.kind,q :: o :: r.set k lit⟩) tr lev dB (fun x=>if x=o then wl x ++ [cz[i]] else wl x) kl:=by
 have s:=h.oC.vars _ _ m;rw [g] at s;simp only [List.map_cons,List.nodup_cons,List.mem_cons,List.mem_map,not_or,not_exists,not_and] at s;have f:o ≠ lit:=fun e=>s.2.1 o (List.mem_of_getElem? t) (by rw [e])
 exact {
  dN:=h.dN
  qg:=h.qg.put m fun x z e H=>by
   rw [g] at e;obtain ⟨rfl,_⟩:=List.cons.inj e;exact I H
  oC:=h.oC.put m (by rw [g];exact Aq t)
  qj:=h.qj.move h.oC m A g t (kl:=kl) (rest:=cz.drop (i + 1)) (by
    show (if lit=lit then kl ++ cz.drop i else wl lit)=_
    rw [if_pos rfl,List.drop_eq_getElem_cons v]) (by simp) (by
    show (if o=lit then _ else _)=(if o=lit then _ else _) ++ [_]
    rw [if_neg f,if_neg f,if_pos rfl]) (fun x D K=>by
    show (if x=lit then _ else _)=(if x=lit then _ else _)
    rw [if_neg D,if_neg D,if_neg K]) h.pG
  zn:=fun b d F E z g1 g2 w=>by
   by_cases e:b=cz[i]
   ·rw [e,dP] at g1;cases g1
    simp only [List.cons.injEq] at w;obtain ⟨rfl,rfl,rfl⟩:=w;refine ⟨fun j u l y=>?_,fun j u l y=>?_⟩
    ·exact absurd ((h.zn _ c _ lit r m A g).1 j u l y).1 h.Cc
    ·exact absurd (y ▸ List.getElem_mem u) J
   ·rw [dJ _ _ e] at g1;exact h.zn b d F E z g1 g2 w
  kept:=fun a B=>by
   have G:a ≠ cz[i]:=fun e=>h.IW v (e ▸ B)
   rw [dJ _ _ G];exact h.kept a B
  hp:=h.hp
  K3:=h.K3
  late:=h.late
  oK:=Nat.le_succ_of_le h.oK
  uX:=v }
theorem FI.done (h:FI n lit p ch cz cz.length C tr lev dB wl kl):sO C tr lev (p + 1)/\wQ n C (fun x=>if x=lit then kl else wl x):=by
 have s:=h.qj;have e:kl ++ cz.drop cz.length=kl:=by simp
 rw [e] at s;refine ⟨fun a c f b r g1 g2 l=>?_,s⟩;obtain ⟨L,z⟩:=List.getElem?_eq_some_iff.1 h.K3;have B:F4 C a c:=⟨g1,g2,by rw [l];simp⟩;have m:∀ x,(c.lits[0]? = some x\/c.lits[1]? = some x)->∀ y,(x=f/\y=b\/x=b/\y=f)->op lit=op x->y ∈ tr/\lev (y / 2) <= lev (x / 2):=fun x F y E e=>by
  have G:x=lit:=(MI e).symm;subst G;have w:=s.two a c B x F;rw [if_pos rfl] at w;obtain ⟨d,K,J,v,q,u,D⟩:=h.kept a w;rw [g1] at v;cases v
  rw [l] at q;simp only [List.cons.injEq] at q;obtain ⟨rfl,rfl,rfl⟩:=q;have A:f ≠ b:=fun H=>h.Cc (H ▸ u)
  rcases E with ⟨I,_⟩ | ⟨_,rfl⟩
  ·exact absurd I.symm A
  ·exact ⟨u,D⟩
 refine ⟨fun j t g o=>?_,fun j t g o=>?_⟩
 ·rcases Nat.lt_succ_iff_lt_or_eq.1 g with k | k
  ·exact (h.zn a c f b r g1 g2 l).1 j t k o
  ·subst k;exact m f (.inl (by rw [l];rfl)) b (.inl ⟨rfl,rfl⟩) (by rw [<- z,o])
 ·rcases Nat.lt_succ_iff_lt_or_eq.1 g with k | k
  ·exact (h.zn a c f b r g1 g2 l).2 j t k o
  ·subst k;exact m b (.inr (by rw [l];rfl)) f (.inr ⟨rfl,rfl⟩) (by rw [<- z,o])
end
section
variable {n:Nat} {tr ch:List Nat} {lev:Nat->Nat} {C C':jy} {dB:Nat->Int} {P a:Nat} {W W':Nat->List Nat} {c:zi}
theorem Dr.new (h:Dr n C) (f:(c.lits.map (· / 2)).Nodup) (g:∀ x ∈ c.lits,x < 2 * n):Dr n (jZ C a c) where
 vars:=fun b d hd=>by
  by_cases e:b=a
  ·subst e;rw [dP] at hd;cases hd;exact f
  ·rw [dJ _ _ e] at hd;exact h.vars b d hd
 lt:=fun b d hd=>by
  by_cases e:b=a
  ·subst e;rw [dP] at hd;cases hd;exact g
  ·rw [dJ _ _ e] at hd;exact h.lt b d hd
theorem rZ.new (h:rZ C tr ch dB) (g:C a=none):rZ (jZ C a c) tr ch dB:=
 h.congr fun b d x r f k j m l=>by
  have e:b ≠ a:=fun e=>by rw [e,g] at f;cases f
  exact ⟨d,by rw [dJ _ _ e];exact f,k,r,j,fun _ h=>h⟩
theorem sO.new (h:sO C tr lev P) (k:∀ p q r,c.kind ≠ 2->c.lits=p :: q :: r->zO tr lev P p q/\zO tr lev P q p):sO (jZ C a c) tr lev P:=fun b d p q r f j g=>by
 by_cases e:b=a
 ·subst e;rw [dP] at f;cases f;exact k p q r j g
 ·rw [dJ _ _ e] at f;exact h b d p q r f j g
theorem wQ.fresh (h:wQ n C W) (e:C a=none) {x:Nat} (b:x < 2 * n):a ∉ W x:=fun f=>by
 obtain ⟨d,⟨g1,_,_⟩,_⟩:=h.lists x b a f;rw [e] at g1;cases g1
theorem wQ.Qh (h:wQ n C W) (k:C a=none) (m:c.lits.length < 2):wQ n (jZ C a c) W where
 lists:=fun x f b j=>by
  have e:b ≠ a:=fun e=>h.fresh k f (e ▸ j)
  obtain ⟨d,⟨g1,g2,g⟩,l⟩:=h.lists x f b j;exact ⟨d,⟨by rw [dJ _ _ e];exact g1,g2,g⟩,l⟩
 two:=fun b d ⟨g1,g2,g⟩ x f=>by
  by_cases e:b=a
  ·subst e;rw [dP] at g1;cases g1;omega
  ·rw [dJ _ _ e] at g1;exact h.two b d ⟨g1,g2,g⟩ x f
 nodup:=h.nodup
theorem wQ.UM (h:wQ n C W) (w:C a=none) (D:c.kind ≠ 2) {p q:Nat} {r:List Nat} (s:c.lits=p :: q :: r) (B:p ≠ q) (F:W' p=W p ++ [a]) (E:W' q=W q ++ [a]) (m:∀ x,x ≠ p->x ≠ q->W' x=W x):wQ n (jZ C a c) W':=by
 have l:∀ x,(x=p\/x=q)->W' x=W x ++ [a]:=fun x g=>by
  rcases g with rfl | rfl
  ·exact F
  ·exact E
 have o:∀ x b,b ∈ W x->b ∈ W' x:=fun x b f=>by
  by_cases e:x=p\/x=q
  ·rw [l x e];exact List.mem_append_left _ f
  ·rw [m x (fun k=>e (.inl k)) (fun k=>e (.inr k))];exact f
 exact {
  lists:=fun x g b f=>by
   by_cases e:b=a
   ·subst e;refine ⟨c,⟨dP ..,D,by rw [s];simp⟩,?_⟩;rw [s];simp only [List.getElem?_cons_zero,List.getElem?_cons_succ,Option.some.injEq];by_cases k:x=p\/x=q
    ·exact k.imp Eq.symm Eq.symm
    ·rw [m x (fun j=>k (.inl j)) (fun j=>k (.inr j))] at f;exact absurd f (h.fresh w g)
   ·have t:b ∈ W x:=by
     by_cases k:x=p\/x=q
     ·rw [l x k] at f
      rcases List.mem_append.1 f with f | f
      ·exact f
      ·simp at f;exact absurd f e
     ·rw [m x (fun j=>k (.inl j)) (fun j=>k (.inr j))] at f;exact f
    obtain ⟨d,⟨g1,g2,u⟩,G⟩:=h.lists x g b t;exact ⟨d,⟨by rw [dJ _ _ e];exact g1,g2,u⟩,G⟩
  two:=fun b d ⟨g1,g2,u⟩ x g=>by
   by_cases e:b=a
   ·subst e;rw [dP] at g1;cases g1
    rw [s] at g;simp only [List.getElem?_cons_zero,List.getElem?_cons_succ,Option.some.injEq] at g;rw [l x (g.imp Eq.symm Eq.symm)];simp
   ·rw [dJ _ _ e] at g1;exact o x b (h.two b d ⟨g1,g2,u⟩ x g)
  nodup:=fun x g=>by
   by_cases e:x=p\/x=q
   ·rw [l x e];refine List.nodup_append.2 ⟨h.nodup x g,by simp,fun y A z v=>?_⟩;simp at v;subst v;exact fun e=>h.fresh w g (e ▸ A)
   ·rw [m x (fun j=>e (.inl j)) (fun j=>e (.inr j))];exact h.nodup x g }
variable {ro:Nat->Nat}
end
end So
end Go.Proofs.YtceahffmenbibaaGreatDoor
