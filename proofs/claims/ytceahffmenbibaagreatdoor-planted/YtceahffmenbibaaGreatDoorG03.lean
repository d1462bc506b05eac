/- Sinv Sfal Sops. -/
import Derived.Test.YtceahffmenbibaaGreatDoorG02
set_option linter.unusedVariables false
set_option linter.unusedSimpArgs false
namespace Go.Proofs.YtceahffmenbibaaGreatDoor
namespace So
section
structure uY where
 kind:Nat
 lits:List Nat
abbrev eX:Type:=Nat->Option uY
def cnt (ch:List Nat) (i:Nat):Nat:=(ch.filter fun p=>decide (p <= i)).length
structure fM (n:Nat) (tr ch:List Nat) (lev:Nat->Nat):Prop where
 lt:∀ x ∈ tr,x < 2 * n
 nodup:(tr.map (· / 2)).Nodup
 dX:Fz ch tr.length
 lev:∀ (i:Nat) (h:i < tr.length),lev (tr[i] / 2)=cnt ch i
def tv (tr:List Nat) (x:Nat):Int:=if x ∈ tr then 1 else if op x ∈ tr then -1 else 0
variable {n:Nat} {tr ch:List Nat} {lev:Nat->Nat} {C:eX} {rea:Nat->Int}
theorem fM.mE (h:fM n tr ch lev) {i j:Nat} (hi:i < tr.length) (hj:j < tr.length) (e:tr[i] / 2=tr[j] / 2):i=j:=by
 have h1:(tr.map (· / 2))[i]'(by simpa using hi)=(tr.map (· / 2))[j]'(by simpa using hj):=by simpa using e
 exact (List.getElem_inj h.nodup).1 h1
theorem fM.jP (h:fM n tr ch lev) {x:Nat} (h1:x ∈ tr) (h2:op x ∈ tr):False:=by
 obtain ⟨i,hi,e1⟩:=List.mem_iff_getElem.1 h1;obtain ⟨j,hj,e2⟩:=List.mem_iff_getElem.1 h2;have:i=j:=h.mE hi hj (by rw [e1,e2,dC])
 subst this;rw [e1] at e2;exact IG x e2.symm
theorem Ac {x:Nat}:tv tr x=1↔x ∈ tr:=by
 unfold tv;split
 ·simp_all
 ·split <;> simp_all
theorem fM.lJ (h:fM n tr ch lev) {x:Nat}:tv tr x=-1↔op x ∈ tr:=by
 unfold tv;split
 ·rename_i h1;exact ⟨fun e=>by omega,fun e=>(h.jP h1 e).elim⟩
 ·split
  ·rename_i h2;exact ⟨fun _=>h2,fun _=>rfl⟩
  ·rename_i h2;exact ⟨fun e=>by omega,fun e=>absurd e h2⟩
theorem qM {x:Nat}:tv tr x=0↔x ∉ tr/\op x ∉ tr:=by
 unfold tv;split
 ·simp_all
 ·split <;> simp_all
theorem VE (x:Nat):tv [] x=0:=rfl
theorem uy {x:Nat} (h:x < 2 * n):op x < 2 * n:=by unfold op;split <;> omega
theorem Bw (ch:List Nat) (i:Nat):cnt ch i <= ch.length:=List.length_filter_le ..
theorem rO {ch:List Nat} {i:Nat} (h:∀ p ∈ ch,p <= i):cnt ch i=ch.length:=by
 unfold cnt;rw [List.filter_eq_self.2 (fun p hp=>by simpa using h p hp)]
theorem cnt_mono (ch:List Nat) {i j:Nat} (h:i <= j):cnt ch i <= cnt ch j:=by
 unfold cnt
 induction ch with
 | nil=>simp
 | cons p r ih=>
  simp only [List.filter_cons];by_cases h1:p <= i
  ·have h2:p <= j:=by omega
   simp only [h1,h2,decide_true,if_true,List.length_cons];omega
  ·simp only [h1,decide_false];by_cases h2:p <= j
   ·simp only [h2,decide_true,if_true,List.length_cons];simp;omega
   ·simp only [h2,decide_false];simpa using ih
theorem Hu (ch:List Nat) (q i:Nat):cnt (ch ++ [q]) i=cnt ch i + if q <= i then 1 else 0:=by
 unfold cnt;rw [List.filter_append,List.length_append];by_cases h:q <= i <;> simp [h]
theorem cnt_lt {ch:List Nat} {len:Nat} (h:Fz ch len) {d:Nat} (hd:d < ch.length) {i:Nat}:cnt ch i <= d↔i < ch[d]:=by
 have split:ch=ch.take d ++ ch[d] :: ch.drop (d + 1):=by
  rw [<- List.drop_eq_getElem_cons hd,List.take_append_drop]
 have pw:=h.1;have lo:∀ p ∈ ch.take d,p < ch[d]:=fun p hp=>by
  obtain ⟨j,hj,rfl⟩:=List.mem_iff_getElem.1 hp;rw [List.length_take] at hj;rw [List.getElem_take];exact List.pairwise_iff_getElem.1 pw j d (by omega) hd (by omega)
 have hi:∀ p ∈ ch.drop (d + 1),ch[d] < p:=fun p hp=>by
  obtain ⟨j,hj,rfl⟩:=List.mem_iff_getElem.1 hp;rw [List.length_drop] at hj;rw [List.getElem_drop];exact List.pairwise_iff_getElem.1 pw d _ hd (by omega) (by omega)
 have e:cnt ch i=cnt (ch.take d) i + ((if ch[d] <= i then 1 else 0) + cnt (ch.drop (d + 1)) i):=by
  unfold cnt
  conv=>lhs;rw [split]
  rw [List.filter_append,List.length_append,List.filter_cons];by_cases h:ch[d] <= i
  ·simp only [h,decide_true,if_true,List.length_cons];omega
  ·simp only [h,decide_false];simp
 constructor
 ·intro hc
  rcases Nat.lt_or_ge i ch[d] with h1 | h1
  ·exact h1
  ·have:cnt (ch.take d) i=d:=by
    rw [rO (fun p hp=>by have:=lo p hp;omega),List.length_take];omega
   rw [this,if_pos h1] at e;omega
 ·intro hc;have z:cnt (ch.drop (d + 1)) i=0:=by
   unfold cnt;rw [List.length_eq_zero_iff,List.filter_eq_nil_iff];intro p hp;have:=hi p hp;simp;omega
  have:=Bw (ch.take d) i;rw [List.length_take] at this;rw [z,if_neg (by omega)] at e
  omega
def bB {α:Type} (f:Nat->α) (k:Nat) (a:α):Nat->α:=fun j=>if j=k then a else f j
theorem aD {α:Type} (f:Nat->α) (k:Nat) (a:α):bB f k a k=a:=by unfold bB;rw [if_pos rfl]
theorem ah {α:Type} (f:Nat->α) {k j:Nat} (a:α) (h:j ≠ k):bB f k a j=f j:=by unfold bB;rw [if_neg h]
theorem jd {x y:Nat} (ho:tv tr x=0) (hy:y ∈ tr):y / 2 ≠ x / 2:=fun e=>by
 obtain ⟨h1,h2⟩:=qM.1 ho
 rcases nT e with rfl | rfl
 ·exact h1 hy
 ·exact h2 hy
theorem Jy {x:Nat} (ho:tv tr x=0) (y:Nat):tv (tr ++ [x]) y=if y=x then 1 else if y=op x then -1 else tv tr y:=by
 obtain ⟨h1,h2⟩:=qM.1 ho;unfold tv;by_cases e:y=x
 ·subst e;simp
 ·by_cases e2:y=op x
  ·subst e2;simp [h2,IG,gQ]
  ·have:op y ≠ x:=fun h=>e2 (by rw [<- h,gQ])
   simp [e,e2,this]
theorem fM.assign (h:fM n tr ch lev) {x:Nat} (hx:x < 2 * n) (ho:tv tr x=0):fM n (tr ++ [x]) ch (bB lev (x / 2) ch.length) where
 lt:=fun y hy=>by
  rcases List.mem_append.1 hy with hy | hy
  ·exact h.lt y hy
  ·simp at hy;omega
 nodup:=by
  rw [List.map_append];refine List.nodup_append.2 ⟨h.nodup,by simp,fun a ha b hb=>?_⟩
  obtain ⟨y,hy,rfl⟩:=List.mem_map.1 ha;simp at hb;subst hb;exact jd ho hy
 dX:=⟨h.dX.1,fun p hp=>by have:=h.dX.2 p hp;simp;omega⟩
 lev:=fun i hi=>by
  by_cases e:i < tr.length
  ·rw [List.getElem_append_left e,ah _ _ (jd ho (List.getElem_mem e)),h.lev i e]
  ·have e2:i=tr.length:=by simp at hi;omega
   subst e2;rw [List.getElem_append_right (Nat.le_refl _)];simp only [Nat.sub_self,List.getElem_cons_zero];rw [aD,rO (fun p hp=>by have:=h.dX.2 p hp;omega)]
theorem fM.choose (h:fM n tr ch lev) {x:Nat} (hx:x < 2 * n) (ho:tv tr x=0):fM n (tr ++ [x]) (ch ++ [tr.length]) (bB lev (x / 2) (ch.length + 1)) where
 lt:=(h.assign hx ho).lt
 nodup:=(h.assign hx ho).nodup
 dX:=by
  refine ⟨List.pairwise_append.2 ⟨h.dX.1,by simp,fun a ha b hb=>?_⟩,fun p hp=>?_⟩
  ·simp at hb;subst hb;exact h.dX.2 a ha
  ·rcases List.mem_append.1 hp with hp | hp
   ·have:=h.dX.2 p hp;simp;omega
   ·simp at hp;subst hp;simp
 lev:=fun i hi=>by
  rw [Hu];by_cases e:i < tr.length
  ·rw [List.getElem_append_left e,ah _ _ (jd ho (List.getElem_mem e)),h.lev i e,if_neg (by omega),Nat.add_zero]
  ·have e2:i=tr.length:=by simp at hi;omega
   subst e2;rw [List.getElem_append_right (Nat.le_refl _)];simp only [Nat.sub_self,List.getElem_cons_zero];rw [aD,rO (fun p hp=>by have:=h.dX.2 p hp;omega),if_pos (Nat.le_refl _)]
theorem zO {len:Nat} (h:Fz ch len) {d:Nat} (hd:d < ch.length):Fz (ch.take d) ch[d]:=
 ⟨h.1.sublist (List.take_sublist ..),fun p hp=>by
  obtain ⟨j,hj,rfl⟩:=List.mem_iff_getElem.1 hp;rw [List.length_take] at hj;rw [List.getElem_take];exact List.pairwise_iff_getElem.1 h.1 j d (by omega) hd (by omega)⟩
theorem PM {len:Nat} (h:Fz ch len) {d:Nat} (hd:d < ch.length) {i:Nat} (hi:i < ch[d]):cnt (ch.take d) i=cnt ch i:=by
 have e:ch=ch.take d ++ ch.drop d:=(List.take_append_drop d ch).symm;have z:∀ p ∈ ch.drop d,i < p:=fun p hp=>by
  obtain ⟨j,hj,rfl⟩:=List.mem_iff_getElem.1 hp;rw [List.length_drop] at hj;rw [List.getElem_drop]
  rcases Nat.eq_zero_or_pos j with h0 | h0
  ·subst h0;exact hi
  ·have:=List.pairwise_iff_getElem.1 h.1 d (d + j) hd (by omega) (by omega);omega
 unfold cnt
 conv=>rhs;rw [e]
 rw [List.filter_append,List.length_append];have:(ch.drop d).filter (fun p=>decide (p <= i))=[]:=by
  rw [List.filter_eq_nil_iff];intro p hp;have:=z p hp;simp;omega
 rw [this];simp
theorem fM.back (h:fM n tr ch lev) {d:Nat} (hd:d < ch.length):fM n (tr.take ch[d]) (ch.take d) lev where
 lt:=fun x hx=>h.lt x (List.mem_of_mem_take hx)
 nodup:=by rw [List.map_take];exact h.nodup.sublist (List.take_sublist ..)
 dX:=by
  have:=zO h.dX hd;have h2:ch[d] < tr.length:=h.dX.2 _ (List.getElem_mem hd);rw [List.length_take,Nat.min_eq_left (by omega)];exact this
 lev:=fun i hi=>by
  rw [List.length_take] at hi;rw [List.getElem_take,h.lev i (by omega),PM h.dX hd (by omega)]
def Why (C:eX) (tr:List Nat) (rea:Nat->Int) (i:Nat) (h:i < tr.length):Prop:=∃ a c r,rea (tr[i] / 2)=(a:Nat)/\C a=some c/\c.kind ≠ 2/\c.lits=tr[i] :: r/\∀ y ∈ r,∃ j,∃ hj:j < tr.length,j < i/\tr[j]=op y
structure lh (C:eX) (tr ch:List Nat) (rea:Nat->Int):Prop where
 Jh:∀ i (h:i < tr.length),i ∈ ch->rea (tr[i] / 2)=-1
 why:∀ i (h:i < tr.length),i ∉ ch->Why C tr rea i h
theorem vJ {C:eX} {tr:List Nat} {rea mD:Nat->Int} {x i:Nat} (h:i < tr.length) (h':i < (tr ++ [x]).length) (hr:mD (tr[i] / 2)=rea (tr[i] / 2)) (hw:Why C tr rea i h):Why C (tr ++ [x]) mD i h':=by
 obtain ⟨a,c,r,h1,h2,h3,h4,h5⟩:=hw;have e:(tr ++ [x])[i]=tr[i]:=List.getElem_append_left h;refine ⟨a,c,r,by rw [e,hr];exact h1,h2,h3,by rw [e];exact h4,fun y hy=>?_⟩
 obtain ⟨j,hj,hji,ej⟩:=h5 y hy;exact ⟨j,by simp;omega,hji,by rw [List.getElem_append_left hj];exact ej⟩
theorem lh.assign (h:lh C tr ch rea) (ht:fM n tr ch lev) {x a:Nat} {c:uY} {r:List Nat} (ho:tv tr x=0) (hC:C a=some c) (hk:c.kind ≠ 2) (hl:c.lits=x :: r) (hf:∀ y ∈ r,op y ∈ tr):lh C (tr ++ [x]) ch (bB rea (x / 2) (a:Nat)) where
 Jh:=fun i hi hc=>by
  have e:=ht.dX.2 i hc;rw [List.getElem_append_left e,ah _ _ (jd ho (List.getElem_mem e))];exact h.Jh i e hc
 why:=fun i hi hc=>by
  by_cases e:i < tr.length
  ·exact vJ e hi (ah _ _ (jd ho (List.getElem_mem e))) (h.why i e hc)
  ·have e2:i=tr.length:=by simp at hi;omega
   subst e2;have e3:(tr ++ [x])[tr.length]=x:=by rw [List.getElem_append_right (Nat.le_refl _)];simp
   refine ⟨a,c,r,by rw [e3,aD],hC,hk,by rw [e3];exact hl,fun y hy=>?_⟩
   obtain ⟨j,hj,ej⟩:=List.mem_iff_getElem.1 (hf y hy);exact ⟨j,by simp;omega,hj,by rw [List.getElem_append_left hj];exact ej⟩
theorem lh.choose (h:lh C tr ch rea) (ht:fM n tr ch lev) {x:Nat} (ho:tv tr x=0):lh C (tr ++ [x]) (ch ++ [tr.length]) (bB rea (x / 2) (-1)) where
 Jh:=fun i hi hc=>by
  rcases List.mem_append.1 hc with hc | hc
  ·have e:=ht.dX.2 i hc;rw [List.getElem_append_left e,ah _ _ (jd ho (List.getElem_mem e))];exact h.Jh i e hc
  ·simp at hc;subst hc;rw [List.getElem_append_right (Nat.le_refl _)];simp only [Nat.sub_self,List.getElem_cons_zero];exact aD ..
 why:=fun i hi hc=>by
  have e:i < tr.length:=by
   rcases Nat.lt_or_ge i tr.length with h1 | h1
   ·exact h1
   ·have:i=tr.length:=by simp at hi;omega
    exact absurd (by simp [this]) hc
  exact vJ e hi (ah _ _ (jd ho (List.getElem_mem e))) (h.why i e (fun hm=>hc (List.mem_append_left _ hm)))
theorem lh.back (h:lh C tr ch rea) (ht:fM n tr ch lev) {d:Nat} (hd:d < ch.length):lh C (tr.take ch[d]) (ch.take d) rea where
 Jh:=fun i hi hc=>by
  rw [List.length_take] at hi;rw [List.getElem_take];exact h.Jh i (by omega) (List.mem_of_mem_take hc)
 why:=fun i hi hc=>by
  rw [List.length_take] at hi;have hnc:i ∉ ch:=fun hm=>hc (by
   obtain ⟨j,hj,e⟩:=List.mem_iff_getElem.1 hm;refine List.mem_iff_getElem.2 ⟨j,?_,by rw [List.getElem_take];exact e⟩
   rw [List.length_take]
   rcases Nat.lt_or_ge j d with h1 | h1
   ·omega
   ·have:ch[d] <= ch[j]:=by
     rcases Nat.eq_or_lt_of_le h1 with h2 | h2
     ·subst h2;exact Nat.le_refl _
     ·exact Nat.le_of_lt (List.pairwise_iff_getElem.1 ht.dX.1 d j hd hj h2)
    omega)
  obtain ⟨a,c,r,h1,h2,h3,h4,h5⟩:=h.why i (by omega) hnc
  refine ⟨a,c,r,by rw [List.getElem_take];exact h1,h2,h3,by rw [List.getElem_take];exact h4,fun y hy=>?_⟩
  obtain ⟨j,hj,hji,ej⟩:=h5 y hy;exact ⟨j,by rw [List.length_take];omega,hji,by rw [List.getElem_take];exact ej⟩
theorem lh.congr {C':eX} (h:lh C tr ch rea) (hC:∀ a c x r,C a=some c->c.kind ≠ 2->c.lits=x :: r->x ∈ tr->rea (x / 2)=(a:Nat)->∃ c',C' a=some c'/\c'.kind ≠ 2/\∃ r',c'.lits=x :: r'/\∀ y,y ∈ r'->y ∈ r):lh C' tr ch rea where
 Jh:=h.Jh
 why:=fun i hi hc=>by
  obtain ⟨a,c,r,h1,h2,h3,h4,h5⟩:=h.why i hi hc;obtain ⟨c',k1,k2,r',k3,k4⟩:=hC a c _ r h2 h3 h4 (List.getElem_mem hi) h1;exact ⟨a,c',r',h1,k1,k2,k3,fun y hy=>h5 y (k4 y hy)⟩
def yN (tr:List Nat) (lev:Nat->Nat) (P p q:Nat):Prop:=∀ i (h:i < tr.length),i < P->tr[i]=op p->q ∈ tr/\lev (q / 2) <= lev (p / 2)
def nI (C:eX) (tr:List Nat) (lev:Nat->Nat) (P:Nat):Prop:=∀ a c p q r,C a=some c->c.kind ≠ 2->c.lits=p :: q :: r->yN tr lev P p q/\yN tr lev P q p
variable {P:Nat}
theorem nI.none (C:eX) (tr:List Nat) (lev:Nat->Nat):nI C tr lev 0:=fun a c p q r _ _ _=>⟨fun i _ h=>by omega,fun i _ h=>by omega⟩
theorem yN.assign {p q x v:Nat} (h:yN tr lev P p q) (hP:P <= tr.length) (ho:tv tr x=0):yN (tr ++ [x]) (bB lev (x / 2) v) P p q:=fun i hi hp e=>by
 have hi':i < tr.length:=by omega
 rw [List.getElem_append_left hi'] at e;obtain ⟨h1,h2⟩:=h i hi' hp e;refine ⟨List.mem_append_left _ h1,?_⟩;have hv:p / 2 ≠ x / 2:=by
  have:=jd ho (List.getElem_mem hi');rw [e,dC] at this;exact this
 rw [ah _ _ (jd ho h1),ah _ _ hv];exact h2
theorem nI.assign {x v:Nat} (h:nI C tr lev P) (hP:P <= tr.length) (ho:tv tr x=0):nI C (tr ++ [x]) (bB lev (x / 2) v) P:=fun a c p q r h1 h2 h3=>
 ⟨(h a c p q r h1 h2 h3).1.assign hP ho,(h a c p q r h1 h2 h3).2.assign hP ho⟩
theorem yN.back {p q:Nat} (h:yN tr lev P p q) (ht:fM n tr ch lev) {d:Nat} (hd:d < ch.length) (hP:ch[d] <= P):yN (tr.take ch[d]) lev ch[d] p q:=fun i hi hp e=>by
 rw [List.length_take] at hi;rw [List.getElem_take] at e;have hi':i < tr.length:=by omega
 obtain ⟨h1,h2⟩:=h i hi' (by omega) e
 refine ⟨?_,h2⟩;obtain ⟨j,hj,ej⟩:=List.mem_iff_getElem.1 h1;have e1:lev (p / 2)=cnt ch i:=by rw [<- ht.lev i hi',e,dC]
 have e2:lev (q / 2)=cnt ch j:=by rw [<- ht.lev j hj,ej]
 have c1:cnt ch i <= d:=(cnt_lt ht.dX hd).2 hp;have c2:j < ch[d]:=(cnt_lt ht.dX hd).1 (by omega)
 exact List.mem_iff_getElem.2 ⟨j,by rw [List.length_take];omega,by rw [List.getElem_take];exact ej⟩
theorem nI.back (h:nI C tr lev P) (ht:fM n tr ch lev) {d:Nat} (hd:d < ch.length) (hP:ch[d] <= P):nI C (tr.take ch[d]) lev ch[d]:=fun a c p q r h1 h2 h3=>
 ⟨(h a c p q r h1 h2 h3).1.back ht hd hP,(h a c p q r h1 h2 h3).2.back ht hd hP⟩
def Fu (C:eX) (a:Nat) (c:uY):Prop:=C a=some c/\c.kind ≠ 2/\2 <= c.lits.length
structure qI (n:Nat) (C:eX) (wl:Nat->List Nat):Prop where
 lists:∀ x,x < 2 * n->∀ a ∈ wl x,∃ c,Fu C a c/\(c.lits[0]? = some x\/c.lits[1]? = some x)
 two:∀ a c,Fu C a c->∀ x,c.lits[0]? = some x\/c.lits[1]? = some x->a ∈ wl x
 nodup:∀ x,x < 2 * n->(wl x).Nodup
structure uI (n:Nat) (C:eX):Prop where
 vars:∀ a c,C a=some c->(c.lits.map (· / 2)).Nodup
 lt:∀ a c,C a=some c->∀ x ∈ c.lits,x < 2 * n
variable {wl W:Nat->List Nat} {a:Nat} {c:uY}
def ik (C:eX) (a:Nat) (c:uY):eX:=bB C a (some c)
theorem aZ (C:eX) (a:Nat) (c:uY):ik C a c a=some c:=aD ..
theorem aJ (C:eX) {a b:Nat} (c:uY) (h:b ≠ a):ik C a c b=C b:=ah _ _ h
theorem uI.put (h:uI n C) (hC:C a=some c) {c':uY} (hp:c'.lits.Perm c.lits):uI n (ik C a c') where
 vars:=fun b d hd=>by
  by_cases e:b=a
  ·subst e;rw [aZ] at hd;cases hd
   exact (hp.map _).nodup_iff.2 (h.vars b c hC)
  ·rw [aJ _ _ e] at hd;exact h.vars b d hd
 lt:=fun b d hd x hx=>by
  by_cases e:b=a
  ·subst e;rw [aZ] at hd;cases hd
   exact h.lt b c hC x (hp.mem_iff.1 hx)
  ·rw [aJ _ _ e] at hd;exact h.lt b d hd x hx
theorem qI.swap (h:qI n C W) (hC:C a=some c) {p q:Nat} {r:List Nat} (hl:c.lits=p :: q :: r):qI n (ik C a ⟨c.kind,q :: p :: r⟩) W where
 lists:=fun x hx b hb=>by
  obtain ⟨d,⟨h1,h2,h3⟩,h4⟩:=h.lists x hx b hb;by_cases e:b=a
  ·subst e;rw [hC] at h1;cases h1
   refine ⟨_,⟨aZ ..,h2,by simp⟩,?_⟩
   rw [hl] at h4;simp only [List.getElem?_cons_zero,List.getElem?_cons_succ] at h4 ⊢;exact h4.symm
  ·exact ⟨d,⟨by rw [aJ _ _ e];exact h1,h2,h3⟩,h4⟩
 two:=fun b d ⟨h1,h2,h3⟩ x hx=>by
  by_cases e:b=a
  ·subst e;rw [aZ] at h1;cases h1
   refine h.two b c ⟨hC,h2,by rw [hl];simp⟩ x ?_
   rw [hl];simp only [List.getElem?_cons_zero,List.getElem?_cons_succ] at hx ⊢;exact hx.symm
  ·rw [aJ _ _ e] at h1;exact h.two b d ⟨h1,h2,h3⟩ x hx
 nodup:=h.nodup
theorem nI.swap (h:nI C tr lev P) (hC:C a=some c) {p q:Nat} {r:List Nat} (hl:c.lits=p :: q :: r):nI (ik C a ⟨c.kind,q :: p :: r⟩) tr lev P:=fun b d p' q' r' h1 h2 h3=>by
 by_cases e:b=a
 ·subst e;rw [aZ] at h1;cases h1
  simp only [List.cons.injEq] at h3;obtain ⟨rfl,rfl,rfl⟩:=h3;exact (h b c p q r hC h2 hl).symm
 ·rw [aJ _ _ e] at h1;exact h b d p' q' r' h1 h2 h3
theorem lh.put (h:lh C tr ch rea) {c':uY} (hC:C a=some c) (hn:∀ x r,c.lits=x :: r->x ∈ tr->False):lh (ik C a c') tr ch rea:=
 h.congr fun b d x r h1 h2 h3 h4 h5=>by
  by_cases e:b=a
  ·subst e;rw [hC] at h1;cases h1
   exact (hn x r h3 h4).elim
  ·exact ⟨d,by rw [aJ _ _ e];exact h1,h2,r,h3,fun _ h=>h⟩
theorem qI.move (h:qI n C W) (hcl:uI n C) (hC:C a=some c) (hk:c.kind ≠ 2) {q lit o k:Nat} {r kl rest:List Nat} (hl:c.lits=q :: lit :: r) (hr:r[k]? = some o) (hW:W lit=kl ++ a :: rest) {W':Nat->List Nat} (h1:W' lit=kl ++ rest) (h2:W' o=W o ++ [a]) (h3:∀ x,x ≠ lit->x ≠ o->W' x=W x) (hlit:lit < 2 * n):
  qI n (ik C a ⟨c.kind,q :: o :: r.set k lit⟩) W':=by
 have hv:=hcl.vars a c hC;rw [hl] at hv;simp only [List.map_cons,List.nodup_cons,List.mem_cons,List.mem_map,not_or,not_exists,not_and] at hv;obtain ⟨⟨GR,hqr⟩,hlr,_⟩:=hv;have hor:o ∈ r:=List.mem_of_getElem? hr;have nql:q ≠ lit:=fun e=>GR (by rw [e])
 have Wh:o ≠ lit:=fun e=>hlr o hor (by rw [e])
 have noq:o ≠ q:=fun e=>hqr o hor (by rw [e])
 have nda:a ∉ kl ++ rest:=by
  have:=h.nodup lit hlit;rw [hW,List.nodup_append] at this;obtain ⟨_,g2,g3⟩:=this;rw [List.nodup_cons] at g2;intro hm
  rcases List.mem_append.1 hm with hm | hm
  ·exact g3 _ hm _ (List.mem_cons_self ..) rfl
  ·exact g2.1 hm
 have lv:Fu C a c:=⟨hC,hk,by rw [hl];simp⟩
 have ao:o < 2 * n->a ∉ W o:=fun ho hm=>by
  obtain ⟨d,⟨g1,_,_⟩,g2⟩:=h.lists o ho a hm;rw [hC] at g1;cases g1
  rw [hl] at g2;simp only [List.getElem?_cons_zero,List.getElem?_cons_succ,Option.some.injEq] at g2
  rcases g2 with e | e
  ·exact noq e.symm
  ·exact Wh e.symm
 have sub:∀ x b,b ≠ a->b ∈ W' x->b ∈ W x:=fun x b hb hm=>by
  by_cases e1:x=lit
  ·subst e1;rw [h1] at hm;rw [hW]
   rcases List.mem_append.1 hm with hm | hm
   ·exact List.mem_append_left _ hm
   ·exact List.mem_append_right _ (List.mem_cons_of_mem _ hm)
  ·by_cases e2:x=o
   ·subst e2;rw [h2] at hm
    rcases List.mem_append.1 hm with hm | hm
    ·exact hm
    ·simp at hm;exact absurd hm hb
   ·rw [h3 x e1 e2] at hm;exact hm
 have sup:∀ x b,(b=a->x ≠ lit)->b ∈ W x->b ∈ W' x:=fun x b hb hm=>by
  by_cases e1:x=lit
  ·subst e1;have hne:b ≠ a:=fun e=>hb e rfl
   rw [hW] at hm;rw [h1]
   rcases List.mem_append.1 hm with hm | hm
   ·exact List.mem_append_left _ hm
   ·rcases List.mem_cons.1 hm with hm | hm
    ·exact absurd hm hne
    ·exact List.mem_append_right _ hm
  ·by_cases e2:x=o
   ·subst e2;rw [h2];exact List.mem_append_left _ hm
   ·rw [h3 x e1 e2];exact hm
 exact {
  lists:=fun x hx b hb=>by
   by_cases e:b=a
   ·subst e;refine ⟨_,⟨aZ ..,hk,by simp⟩,?_⟩
    simp only [List.getElem?_cons_zero,List.getElem?_cons_succ,Option.some.injEq];by_cases e1:x=lit
    ·subst e1;rw [h1] at hb;exact absurd hb nda
    ·by_cases e2:x=o
     ·exact .inr e2.symm
     ·rw [h3 x e1 e2] at hb;obtain ⟨d,⟨g1,_,_⟩,g2⟩:=h.lists x hx b hb;rw [hC] at g1;cases g1
      rw [hl] at g2;simp only [List.getElem?_cons_zero,List.getElem?_cons_succ,Option.some.injEq] at g2
      rcases g2 with e | e
      ·exact .inl e
      ·exact absurd e.symm e1
   ·obtain ⟨d,⟨g1,g2,g3⟩,g4⟩:=h.lists x hx b (sub x b e hb);exact ⟨d,⟨by rw [aJ _ _ e];exact g1,g2,g3⟩,g4⟩
  two:=fun b d ⟨g1,g2,g3⟩ x hx=>by
   by_cases e:b=a
   ·subst e;rw [aZ] at g1;cases g1
    simp only [List.getElem?_cons_zero,List.getElem?_cons_succ,Option.some.injEq] at hx
    rcases hx with e | e
    ·subst e;exact sup _ _ (fun _=>nql) (h.two b c lv q (by rw [hl];exact .inl rfl))
    ·subst e;rw [h2];simp
   ·rw [aJ _ _ e] at g1;exact sup x b (fun e'=>absurd e' e) (h.two b d ⟨g1,g2,g3⟩ x hx)
  nodup:=fun x hx=>by
   by_cases e1:x=lit
   ·subst e1;rw [h1];have:=h.nodup x hx;rw [hW] at this;exact this.sublist ((List.Sublist.refl kl).append (List.sublist_cons_self _ _))
   ·by_cases e2:x=o
    ·subst e2;rw [h2];refine List.nodup_append.2 ⟨h.nodup x hx,by simp,fun y hy z hz=>?_⟩
     simp at hz;subst hz;exact fun e=>ao hx (e ▸ hy)
    ·rw [h3 x e1 e2];exact h.nodup x hx }
theorem zA {q lit o k:Nat} {r:List Nat} (hr:r[k]? = some o):(q :: o :: r.set k lit).Perm (q :: lit :: r):=by
 refine List.Perm.cons _ ?_;obtain ⟨hk,e⟩:=List.getElem?_eq_some_iff.1 hr;have e1:r=r.take k ++ o :: r.drop (k + 1):=by rw [<- e,<- List.drop_eq_getElem_cons hk,List.take_append_drop]
 have e2:r.set k lit=r.take k ++ lit :: r.drop (k + 1):=by
  rw [List.set_eq_take_append_cons_drop,if_pos hk]
 rw [e2]
 conv=>rhs;rw [e1]
 have p1:(r.take k ++ lit :: r.drop (k + 1)).Perm (lit :: (r.take k ++ r.drop (k + 1))):=List.perm_middle;have p2:(r.take k ++ o :: r.drop (k + 1)).Perm (o :: (r.take k ++ r.drop (k + 1))):=List.perm_middle;exact ((p1.cons o).trans (List.Perm.swap ..)).trans (p2.symm.cons lit)
end
section
variable {n:Nat} {tr ch:List Nat} {lev:Nat->Nat} {C:eX} {rea:Nat->Int} {P:Nat} {wl:Nat->List Nat}
def Qn (C C':eX):Prop:=∀ a,(C a=none/\C' a=none)\/∃ c c',C a=some c/\C' a=some c'/\c'.kind=c.kind/\c'.lits.Perm c.lits
structure FI (n lit p:Nat) (ch af:List Nat) (i:Nat) (C:eX) (tr:List Nat) (lev:Nat->Nat) (rea:Nat->Int) (wl:Nat->List Nat) (kl:List Nat):Prop where
 aI:fM n tr ch lev
 lK:lh C tr ch rea
 jc:uI n C
 kT:qI n C (fun x=>if x=lit then kl ++ af.drop i else wl x)
 uo:nI C tr lev p
 kept:∀ a ∈ kl,∃ c q r,C a=some c/\c.lits=q :: lit :: r/\q ∈ tr/\lev (q / 2) <= lev (lit / 2)
 hp:p < tr.length
 LH:tr[p]? = some (op lit)
 late:∀ q ∈ ch,q <= p
 rD:kl.length <= i
 yF:i <= af.length
variable {lit p i:Nat} {af kl:List Nat}
theorem FI.mK (h:FI n lit p ch af i C tr lev rea wl kl):lit < 2 * n:=by
 have:=h.aI.lt _ (List.mem_of_getElem? h.LH);have:=uy this
 rwa [gQ] at this
theorem FI.pG (h:FI n lit p ch af i C tr lev rea wl kl):op lit ∈ tr:=List.mem_of_getElem? h.LH
theorem FI.AP (h:FI n lit p ch af i C tr lev rea wl kl):lit ∉ tr:=fun hm=>h.aI.jP hm h.pG
theorem FI.IX (h:FI n lit p ch af i C tr lev rea wl kl):lev (lit / 2)=ch.length:=by
 obtain ⟨hp,e⟩:=List.getElem?_eq_some_iff.1 h.LH;have:=h.aI.lev p hp;rw [e,dC] at this;rw [this,rO h.late]
theorem FI.Wq (h:FI n lit p ch af i C tr lev rea wl kl) {q:Nat} (hq:q ∈ tr):lev (q / 2) <= lev (lit / 2):=by
 obtain ⟨j,hj,e⟩:=List.mem_iff_getElem.1 hq;have:=h.aI.lev j hj;rw [e] at this;rw [this,h.IX];exact Bw ..
theorem FI.start (ht:fM n tr ch lev) (hr:lh C tr ch rea) (hc:uI n C) (hw:qI n C wl) (hs:nI C tr lev p) (ha:tr[p]? = some (op lit)) (hl:∀ q ∈ ch,q <= p):FI n lit p ch (wl lit) 0 C tr lev rea wl [] where
 aI:=ht
 lK:=hr
 jc:=hc
 kT:=by
  have e:(fun x=>if x=lit then [] ++ (wl lit).drop 0 else wl x)=wl:=by
   funext x;split
   ·rename_i e;subst e;rfl
   ·rfl
  rw [e];exact hw
 uo:=hs
 kept:=fun a ha=>by simp at ha
 hp:=(List.getElem?_eq_some_iff.1 ha).1
 LH:=ha
 late:=hl
 rD:=Nat.zero_le _
 yF:=Nat.zero_le _
theorem FI.next (h:FI n lit p ch af i C tr lev rea wl kl) (hi:i < af.length):∃ c,Fu C af[i] c/\(c.lits[0]? = some lit\/c.lits[1]? = some lit):=
 h.kT.lists lit h.mK af[i] (by
  show af[i] ∈ (if lit=lit then kl ++ af.drop i else wl lit)
  rw [if_pos rfl,List.drop_eq_getElem_cons hi];exact List.mem_append_right _ (List.mem_cons_self ..))
theorem FI.UQ (h:FI n lit p ch af i C tr lev rea wl kl) (hi:i < af.length):af[i] ∉ kl:=fun hm=>by
 have:=h.kT.nodup lit h.mK;simp only [if_true] at this;rw [List.drop_eq_getElem_cons hi,List.nodup_append] at this;exact this.2.2 _ hm _ (List.mem_cons_self ..) rfl
theorem FI.swap (h:FI n lit p ch af i C tr lev rea wl kl) (hi:i < af.length) {c:uY} (hC:C af[i]=some c) {q:Nat} {r:List Nat} (hl:c.lits=lit :: q :: r):FI n lit p ch af i (ik C af[i] ⟨c.kind,q :: lit :: r⟩) tr lev rea wl kl where
 aI:=h.aI
 lK:=h.lK.put hC fun x r' e hx=>by
  rw [hl] at e;obtain ⟨rfl,_⟩:=List.cons.inj e;exact h.AP hx
 jc:=h.jc.put hC (by rw [hl];exact List.Perm.swap ..)
 kT:=h.kT.swap hC hl
 uo:=h.uo.swap hC hl
 kept:=fun a ha=>by
  have ne:a ≠ af[i]:=fun e=>h.UQ hi (e ▸ ha)
  rw [aJ _ _ ne];exact h.kept a ha
 hp:=h.hp
 LH:=h.LH
 late:=h.late
 rD:=h.rD
 yF:=h.yF
theorem FI.IY (h:FI n lit p ch af i C tr lev rea wl kl) (hi:i < af.length):qI n C (fun x=>if x=lit then (kl ++ [af[i]]) ++ af.drop (i + 1) else wl x):=by
 have e:(kl ++ [af[i]]) ++ af.drop (i + 1)=kl ++ af.drop i:=by rw [List.drop_eq_getElem_cons hi];simp
 rw [e];exact h.kT
theorem FI.keep (h:FI n lit p ch af i C tr lev rea wl kl) (hi:i < af.length) {c:uY} (hC:C af[i]=some c) {q:Nat} {r:List Nat} (hl:c.lits=q :: lit :: r) (hq:q ∈ tr):FI n lit p ch af (i + 1) C tr lev rea wl (kl ++ [af[i]]) where
 aI:=h.aI
 lK:=h.lK
 jc:=h.jc
 kT:=h.IY hi
 uo:=h.uo
 kept:=fun a ha=>by
  rcases List.mem_append.1 ha with ha | ha
  ·exact h.kept a ha
  ·simp at ha;subst ha;exact ⟨c,q,r,hC,hl,hq,h.Wq hq⟩
 hp:=h.hp
 LH:=h.LH
 late:=h.late
 rD:=by have:=h.rD;simp;omega
 yF:=hi
theorem FI.unit (h:FI n lit p ch af i C tr lev rea wl kl) (hi:i < af.length) {c:uY} (hC:C af[i]=some c) (hk:c.kind ≠ 2) {q:Nat} {r:List Nat} (hl:c.lits=q :: lit :: r) (hq:tv tr q=0) (hr:∀ y ∈ r,op y ∈ tr):
  FI n lit p ch af (i + 1) C (tr ++ [q]) (bB lev (q / 2) ch.length) (bB rea (q / 2) (af[i]:Nat)) wl (kl ++ [af[i]]):=by
 have GR:q < 2 * n:=h.jc.lt _ _ hC q (by rw [hl];simp)
 have nv:lit / 2 ≠ q / 2:=by
  have:=jd hq h.pG;rw [dC] at this;exact this
 exact {
  aI:=h.aI.assign GR hq
  lK:=h.lK.assign h.aI hq hC hk hl fun y hy=>by
   rcases List.mem_cons.1 hy with rfl | hy
   ·exact h.pG
   ·exact hr y hy
  jc:=h.jc
  kT:=h.IY hi
  uo:=h.uo.assign (Nat.le_of_lt h.hp) hq
  kept:=fun a ha=>by
   rcases List.mem_append.1 ha with ha | ha
   ·obtain ⟨d,q',r',h1,h2,h3,h4⟩:=h.kept a ha;refine ⟨d,q',r',h1,h2,List.mem_append_left _ h3,?_⟩;rw [ah _ _ (jd hq h3),ah _ _ nv];exact h4
   ·simp at ha;subst ha;refine ⟨c,q,r,hC,hl,by simp,?_⟩
    rw [aD,ah _ _ nv,h.IX];exact Nat.le_refl _
  hp:=by have:=h.hp;simp;omega
  LH:=by rw [List.getElem?_append_left h.hp];exact h.LH
  late:=h.late
  rD:=by have:=h.rD;simp;omega
  yF:=hi }
theorem FI.move (h:FI n lit p ch af i C tr lev rea wl kl) (hi:i < af.length) {c:uY} (hC:C af[i]=some c) (hk:c.kind ≠ 2) {q o k:Nat} {r:List Nat} (hl:c.lits=q :: lit :: r) (hq:q ∉ tr) (hr:r[k]? = some o) (ho:op o ∉ tr):
  FI n lit p ch af (i + 1) (ik C af[i] ⟨c.kind,q :: o :: r.set k lit⟩) tr lev rea (fun x=>if x=o then wl x ++ [af[i]] else wl x) kl:=by
 have hv:=h.jc.vars _ _ hC;rw [hl] at hv;simp only [List.map_cons,List.nodup_cons,List.mem_cons,List.mem_map,not_or,not_exists,not_and] at hv;have Wh:o ≠ lit:=fun e=>hv.2.1 o (List.mem_of_getElem? hr) (by rw [e])
 exact {
  aI:=h.aI
  lK:=h.lK.put hC fun x r' e hx=>by
   rw [hl] at e;obtain ⟨rfl,_⟩:=List.cons.inj e;exact hq hx
  jc:=h.jc.put hC (by rw [hl];exact zA hr)
  kT:=h.kT.move h.jc hC hk hl hr (kl:=kl) (rest:=af.drop (i + 1)) (by
    show (if lit=lit then kl ++ af.drop i else wl lit)=_
    rw [if_pos rfl,List.drop_eq_getElem_cons hi]) (by simp) (by
    show (if o=lit then _ else _)=(if o=lit then _ else _) ++ [_]
    rw [if_neg Wh,if_neg Wh,if_pos rfl]) (fun x h1 h2=>by
    show (if x=lit then _ else _)=(if x=lit then _ else _)
    rw [if_neg h1,if_neg h1,if_neg h2]) h.mK
  uo:=fun b d p' q' r' g1 g2 g3=>by
   by_cases e:b=af[i]
   ·rw [e,aZ] at g1;cases g1
    simp only [List.cons.injEq] at g3;obtain ⟨rfl,rfl,rfl⟩:=g3;refine ⟨fun j hj hjp ej=>?_,fun j hj hjp ej=>?_⟩
    ·exact absurd ((h.uo _ c _ lit r hC hk hl).1 j hj hjp ej).1 h.AP
    ·exact absurd (ej ▸ List.getElem_mem hj) ho
   ·rw [aJ _ _ e] at g1;exact h.uo b d p' q' r' g1 g2 g3
  kept:=fun a ha=>by
   have ne:a ≠ af[i]:=fun e=>h.UQ hi (e ▸ ha)
   rw [aJ _ _ ne];exact h.kept a ha
  hp:=h.hp
  LH:=h.LH
  late:=h.late
  rD:=Nat.le_succ_of_le h.rD
  yF:=hi }
theorem FI.done (h:FI n lit p ch af af.length C tr lev rea wl kl):nI C tr lev (p + 1)/\qI n C (fun x=>if x=lit then kl else wl x):=by
 have hw:=h.kT;have e:kl ++ af.drop af.length=kl:=by simp
 rw [e] at hw;refine ⟨fun a c p' q' r g1 g2 g3=>?_,hw⟩
 obtain ⟨hp,ep⟩:=List.getElem?_eq_some_iff.1 h.LH;have lv:Fu C a c:=⟨g1,g2,by rw [g3];simp⟩
 have key:∀ x,(c.lits[0]? = some x\/c.lits[1]? = some x)->∀ y,(x=p'/\y=q'\/x=q'/\y=p')->op lit=op x->y ∈ tr/\lev (y / 2) <= lev (x / 2):=fun x hx y hy e=>by
  have ex:x=lit:=(NF e).symm;subst ex;have hm:=hw.two a c lv x hx;rw [if_pos rfl] at hm;obtain ⟨d,q2,r2,k1,k2,k3,k4⟩:=h.kept a hm;rw [g1] at k1;cases k1
  rw [g3] at k2;simp only [List.cons.injEq] at k2;obtain ⟨rfl,rfl,rfl⟩:=k2;have nq:p' ≠ q':=fun e2=>h.AP (e2 ▸ k3)
  rcases hy with ⟨e1,_⟩ | ⟨_,rfl⟩
  ·exact absurd e1.symm nq
  ·exact ⟨k3,k4⟩
 refine ⟨fun j hj hjp ej=>?_,fun j hj hjp ej=>?_⟩
 ·rcases Nat.lt_succ_iff_lt_or_eq.1 hjp with h1 | h1
  ·exact (h.uo a c p' q' r g1 g2 g3).1 j hj h1 ej
  ·subst h1;exact key p' (.inl (by rw [g3];rfl)) q' (.inl ⟨rfl,rfl⟩) (by rw [<- ep,ej])
 ·rcases Nat.lt_succ_iff_lt_or_eq.1 hjp with h1 | h1
  ·exact (h.uo a c p' q' r g1 g2 g3).2 j hj h1 ej
  ·subst h1;exact key q' (.inr (by rw [g3];rfl)) p' (.inr ⟨rfl,rfl⟩) (by rw [<- ep,ej])
end
section
variable {n:Nat} {tr ch:List Nat} {lev:Nat->Nat} {C C':eX} {rea:Nat->Int} {P a:Nat} {W W':Nat->List Nat} {c:uY}
theorem uI.new (h:uI n C) (hv:(c.lits.map (· / 2)).Nodup) (hl:∀ x ∈ c.lits,x < 2 * n):uI n (ik C a c) where
 vars:=fun b d hd=>by
  by_cases e:b=a
  ·subst e;rw [aZ] at hd;cases hd;exact hv
  ·rw [aJ _ _ e] at hd;exact h.vars b d hd
 lt:=fun b d hd=>by
  by_cases e:b=a
  ·subst e;rw [aZ] at hd;cases hd;exact hl
  ·rw [aJ _ _ e] at hd;exact h.lt b d hd
theorem lh.new (h:lh C tr ch rea) (hn:C a=none):lh (ik C a c) tr ch rea:=
 h.congr fun b d x r h1 h2 h3 h4 h5=>by
  have e:b ≠ a:=fun e=>by rw [e,hn] at h1;cases h1
  exact ⟨d,by rw [aJ _ _ e];exact h1,h2,r,h3,fun _ h=>h⟩
theorem nI.new (h:nI C tr lev P) (hn:∀ p q r,c.kind ≠ 2->c.lits=p :: q :: r->yN tr lev P p q/\yN tr lev P q p):nI (ik C a c) tr lev P:=fun b d p q r h1 h2 h3=>by
 by_cases e:b=a
 ·subst e;rw [aZ] at h1;cases h1;exact hn p q r h2 h3
 ·rw [aJ _ _ e] at h1;exact h b d p q r h1 h2 h3
theorem qI.fresh (h:qI n C W) (hn:C a=none) {x:Nat} (hx:x < 2 * n):a ∉ W x:=fun hm=>by
 obtain ⟨d,⟨g1,_,_⟩,_⟩:=h.lists x hx a hm;rw [hn] at g1;cases g1
theorem qI.Tc (h:qI n C W) (hn:C a=none) (hc:c.lits.length < 2):qI n (ik C a c) W where
 lists:=fun x hx b hb=>by
  have e:b ≠ a:=fun e=>h.fresh hn hx (e ▸ hb)
  obtain ⟨d,⟨g1,g2,g3⟩,g4⟩:=h.lists x hx b hb;exact ⟨d,⟨by rw [aJ _ _ e];exact g1,g2,g3⟩,g4⟩
 two:=fun b d ⟨g1,g2,g3⟩ x hx=>by
  by_cases e:b=a
  ·subst e;rw [aZ] at g1;cases g1;omega
  ·rw [aJ _ _ e] at g1;exact h.two b d ⟨g1,g2,g3⟩ x hx
 nodup:=h.nodup
theorem qI.YU (h:qI n C W) (hn:C a=none) (hk:c.kind ≠ 2) {p q:Nat} {r:List Nat} (hc:c.lits=p :: q :: r) (hpq:p ≠ q) (h1:W' p=W p ++ [a]) (h2:W' q=W q ++ [a]) (h3:∀ x,x ≠ p->x ≠ q->W' x=W x):qI n (ik C a c) W':=by
 have key:∀ x,(x=p\/x=q)->W' x=W x ++ [a]:=fun x hx=>by
  rcases hx with rfl | rfl
  ·exact h1
  ·exact h2
 have sup:∀ x b,b ∈ W x->b ∈ W' x:=fun x b hb=>by
  by_cases e:x=p\/x=q
  ·rw [key x e];exact List.mem_append_left _ hb
  ·rw [h3 x (fun e1=>e (.inl e1)) (fun e1=>e (.inr e1))];exact hb
 exact {
  lists:=fun x hx b hb=>by
   by_cases e:b=a
   ·subst e;refine ⟨c,⟨aZ ..,hk,by rw [hc];simp⟩,?_⟩
    rw [hc];simp only [List.getElem?_cons_zero,List.getElem?_cons_succ,Option.some.injEq];by_cases e1:x=p\/x=q
    ·exact e1.imp Eq.symm Eq.symm
    ·rw [h3 x (fun e2=>e1 (.inl e2)) (fun e2=>e1 (.inr e2))] at hb
     exact absurd hb (h.fresh hn hx)
   ·have hb':b ∈ W x:=by
     by_cases e1:x=p\/x=q
     ·rw [key x e1] at hb
      rcases List.mem_append.1 hb with hb | hb
      ·exact hb
      ·simp at hb;exact absurd hb e
     ·rw [h3 x (fun e2=>e1 (.inl e2)) (fun e2=>e1 (.inr e2))] at hb;exact hb
    obtain ⟨d,⟨g1,g2,g3⟩,g4⟩:=h.lists x hx b hb';exact ⟨d,⟨by rw [aJ _ _ e];exact g1,g2,g3⟩,g4⟩
  two:=fun b d ⟨g1,g2,g3⟩ x hx=>by
   by_cases e:b=a
   ·subst e;rw [aZ] at g1;cases g1
    rw [hc] at hx;simp only [List.getElem?_cons_zero,List.getElem?_cons_succ,Option.some.injEq] at hx;rw [key x (hx.imp Eq.symm Eq.symm)];simp
   ·rw [aJ _ _ e] at g1;exact sup x b (h.two b d ⟨g1,g2,g3⟩ x hx)
  nodup:=fun x hx=>by
   by_cases e:x=p\/x=q
   ·rw [key x e];refine List.nodup_append.2 ⟨h.nodup x hx,by simp,fun y hy z hz=>?_⟩
    simp at hz;subst hz;exact fun e=>h.fresh hn hx (e ▸ hy)
   ·rw [h3 x (fun e2=>e (.inl e2)) (fun e2=>e (.inr e2))];exact h.nodup x hx }
def Io (C C':eX):Prop:=∀ a,C' a=C a\/∃ c,C a=some c/\C' a=some ⟨2,c.lits⟩
theorem Io.back (h:Io C C') {d:uY} (hd:C' a=some d) (hk:d.kind ≠ 2):C a=some d:=by
 rcases h a with e | ⟨c,_,e⟩
 ·rw [<- e];exact hd
 ·rw [e] at hd;cases hd;exact absurd rfl hk
theorem uI.del (h:uI n C) (hd:Io C C'):uI n C' where
 vars:=fun b d hb=>by
  rcases hd b with e | ⟨c,e1,e2⟩
  ·exact h.vars b d (by rw [<- e];exact hb)
  ·rw [e2] at hb;cases hb;exact h.vars b c e1
 lt:=fun b d hb=>by
  rcases hd b with e | ⟨c,e1,e2⟩
  ·exact h.lt b d (by rw [<- e];exact hb)
  ·rw [e2] at hb;cases hb;exact h.lt b c e1
theorem nI.del (h:nI C tr lev P) (hd:Io C C'):nI C' tr lev P:=fun b d p q r h1 h2 h3=>h b d p q r (hd.back h1 h2) h2 h3
theorem lh.del (h:lh C tr ch rea) (hd:Io C C') (hr:∀ b c x r,C b=some c->c.kind ≠ 2->c.lits=x :: r->x ∈ tr->rea (x / 2)=(b:Nat)->C' b=C b):lh C' tr ch rea:=
 h.congr fun b d x r h1 h2 h3 h4 h5=>⟨d,by rw [hr b d x r h1 h2 h3 h4 h5];exact h1,h2,r,h3,fun _ h=>h⟩
theorem qI.del (h:qI n C W) (hd:Io C C') (hW:∀ x,x < 2 * n->W' x=(W x).filter fun b=>decide (∀ d,C' b=some d->d.kind ≠ 2)) (hl:uI n C):qI n C' W' where
 lists:=fun x hx b hb=>by
  rw [hW x hx,List.mem_filter] at hb;obtain ⟨hb,hk⟩:=hb;have hk:=of_decide_eq_true hk;obtain ⟨d,⟨g1,g2,g3⟩,g4⟩:=h.lists x hx b hb
  rcases hd b with e | ⟨c,e1,e2⟩
  ·exact ⟨d,⟨by rw [e];exact g1,g2,g3⟩,g4⟩
  ·exact absurd rfl (hk _ e2)
 two:=fun b d ⟨g1,g2,g3⟩ x hx=>by
  have g0:=hd.back g1 g2;have hxl:x < 2 * n:=hl.lt b d g0 x (by
   rcases hx with hx | hx <;> exact List.mem_of_getElem? hx)
  rw [hW x hxl,List.mem_filter];refine ⟨h.two b d ⟨g0,g2,g3⟩ x hx,decide_eq_true ?_⟩;intro d' hd';rw [g1] at hd';cases hd';exact g2
 nodup:=fun x hx=>by rw [hW x hx];exact (h.nodup x hx).sublist List.filter_sublist
structure Fs (C C':eX) (ro:Nat->Nat):Prop where
 to':∀ a c,C a=some c->c.kind ≠ 2->C' (ro a)=some c
 from':∀ b c,C' b=some c->∃ a,C a=some c/\c.kind ≠ 2/\b=ro a
 inj:∀ a b c d,C a=some c->c.kind ≠ 2->C b=some d->d.kind ≠ 2->ro a=ro b->a=b
variable {ro:Nat->Nat}
theorem uI.NV (h:uI n C) (hm:Fs C C' ro):uI n C' where
 vars:=fun b d hb=>by obtain ⟨a,h1,_,_⟩:=hm.from' b d hb;exact h.vars a d h1
 lt:=fun b d hb=>by obtain ⟨a,h1,_,_⟩:=hm.from' b d hb;exact h.lt a d h1
theorem nI.NV (h:nI C tr lev P) (hm:Fs C C' ro):nI C' tr lev P:=fun b d p q r h1 h2 h3=>by
 obtain ⟨a,g1,g2,_⟩:=hm.from' b d h1
 exact h a d p q r g1 g2 h3
theorem lh.NV {mD:Nat->Int} (h:lh C tr ch rea) (hm:Fs C C' ro) (hr:∀ x ∈ tr,(rea (x / 2)=-1->mD (x / 2)=-1)/\∀ a:Nat,rea (x / 2)=a->mD (x / 2)=ro a):lh C' tr ch mD where
 Jh:=fun i hi hc=>(hr _ (List.getElem_mem hi)).1 (h.Jh i hi hc)
 why:=fun i hi hc=>by
  obtain ⟨a,c,r,h1,h2,h3,h4,h5⟩:=h.why i hi hc;exact ⟨ro a,c,r,(hr _ (List.getElem_mem hi)).2 a h1,hm.to' a c h2 h3,h3,h4,h5⟩
theorem qI.NV (h:qI n C W) (hm:Fs C C' ro) (hl:uI n C) (hW:∀ x,x < 2 * n->W' x=(W x).map ro):qI n C' W' where
 lists:=fun x hx b hb=>by
  rw [hW x hx] at hb;obtain ⟨a,ha,rfl⟩:=List.mem_map.1 hb;obtain ⟨d,⟨g1,g2,g3⟩,g4⟩:=h.lists x hx a ha;exact ⟨d,⟨hm.to' a d g1 g2,g2,g3⟩,g4⟩
 two:=fun b d ⟨g1,g2,g3⟩ x hx=>by
  obtain ⟨a,k1,k2,rfl⟩:=hm.from' b d g1
  have hxl:x < 2 * n:=hl.lt a d k1 x (by
   rcases hx with hx | hx <;> exact List.mem_of_getElem? hx)
  rw [hW x hxl];exact List.mem_map.2 ⟨a,h.two a d ⟨k1,k2,g3⟩ x hx,rfl⟩
 nodup:=fun x hx=>by
  rw [hW x hx];refine List.Pairwise.map ro (fun a b hab=>hab) ?_
  have hn:=h.nodup x hx;refine hn.imp_of_mem fun {a b} ha hb hab=>?_
  intro e;obtain ⟨c,⟨g1,g2,_⟩,_⟩:=h.lists x hx a ha;obtain ⟨d,⟨k1,k2,_⟩,_⟩:=h.lists x hx b hb;exact hab (hm.inj a b c d g1 g2 k1 k2 e)
end
end So
end Go.Proofs.YtceahffmenbibaaGreatDoor
