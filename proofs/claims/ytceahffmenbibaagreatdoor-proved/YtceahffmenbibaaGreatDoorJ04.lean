/- Sexp Senc Smat Smem. -/
import Derived.Test.YtceahffmenbibaaGreatDoorJ03
import Derived.Test.YtceahffmenbibaaGreatDoorJ02
set_option linter.unusedVariables false
set_option linter.unusedSimpArgs false
namespace Go.Proofs.YtceahffmenbibaaGreatDoor
namespace So
section
variable {n:Nat} {tr ch:List Nat} {lev:Nat->Nat} {C:jy} {dB:Nat->Int} {rs:Nat->Option (List Nat)}
def vr (tr:List Nat) (j:Nat):Nat:=(tr.getD j 0) / 2
theorem vH {tr:List Nat} {j:Nat} (h:j < tr.length):vr tr j=tr[j] / 2:=by
 unfold vr;rw [List.getD_eq_getElem?_getD,List.getElem?_eq_getElem h];rfl
def lT (tr:List Nat) (last i:Nat) (seen:Nat->Bool):Nat:=((List.range i).filter fun j=>decide (last <= j) && seen (vr tr j)).length
theorem mI (tr:List Nat) (last i:Nat) (seen:Nat->Bool):lT tr last (i + 1) seen=lT tr last i seen + if last <= i/\seen (vr tr i)=true then 1 else 0:=by
 unfold lT;rw [List.range_succ,List.filter_append,List.length_append];by_cases b:last <= i <;> by_cases a:seen (vr tr i)=true <;> simp [b,a]
theorem Fu {tr:List Nat} {last i:Nat} {seen:Nat->Bool} (h:i <= last):lT tr last i seen=0:=by
 unfold lT;rw [List.length_eq_zero_iff,List.filter_eq_nil_iff];intro j a;have:=List.mem_range.1 a;simp;omega
theorem Bn {tr:List Nat} {last i:Nat} {seen:Nat->Bool} (h:lT tr last i seen=0) {j:Nat} (b:j < i) (a:last <= j):seen (vr tr j)=false:=by
 unfold lT at h;rw [List.length_eq_zero_iff,List.filter_eq_nil_iff] at h;have:=h j (List.mem_range.2 b);simpa [a] using this
theorem Oe (h:jm n tr ch lev) {last:Nat} {seen:Nat->Bool} {j:Nat} (k:j < tr.length) (i:seen (tr[j] / 2)=false):∀ b,b <= tr.length->lT tr last b (eu seen (tr[j] / 2) true)=lT tr last b seen + if last <= j/\j < b then 1 else 0:=by
 intro b
 induction b with
 | zero=>intro _;simp [lT]
 | succ b ih=>
  intro m;rw [mI,mI,ih (by omega)];have a:b < tr.length:=by omega
  by_cases e:b=j
  ·subst e;rw [vH a,dx,i];by_cases d:last <= b
   ·simp [d]
   ·simp [d]
  ·have:vr tr b ≠ tr[j] / 2:=fun g=>by
    rw [vH a] at g;exact e (h.ry a k g)
   rw [dm _ _ this];by_cases c:last <= j/\j < b
   ·rw [if_pos c,if_pos (show last <= j/\j < b + 1 from ⟨c.1,by omega⟩)];omega
   ·rw [if_neg c,if_neg (show ¬ (last <= j/\j < b + 1) from fun l=>c ⟨l.1,by omega⟩)];omega
structure Lk where
 seen:Nat->Bool
 iR:List Nat
 opn:Nat
def lU (lev:Nat->Nat) (d:Nat) (s:Lk) (y:Nat):Lk:=
 if s.seen (y / 2)=true\/lev (y / 2)=0 then s
 else if lev (y / 2)=d then ⟨eu s.seen (y / 2) true,s.iR,s.opn + 1⟩
 else ⟨eu s.seen (y / 2) true,s.iR ++ [y],s.opn⟩
structure K5 (tr:List Nat) (lev:Nat->Nat) (d:Nat) (s:Lk):Prop where
 sQ:∀ v,s.seen v=true->0 < lev v/\∃ j,∃ h:j < tr.length,tr[j] / 2=v
 iR:∀ y,y ∈ s.iR↔op y ∈ tr/\s.seen (y / 2)=true/\lev (y / 2) ≠ d
 nd:(s.iR.map (· / 2)).Nodup
theorem K5.start (tr:List Nat) (lev:Nat->Nat) (d:Nat):K5 tr lev d ⟨fun _=>false,[],0⟩:=⟨fun v h=>(by cases h),fun y=>(by simp),by simp⟩
theorem K5.zero {tr:List Nat} {lev:Nat->Nat} {d:Nat} {s:Lk} (h:K5 tr lev d s) (k:Nat):K5 tr lev d ⟨s.seen,s.iR,k⟩:=⟨h.sQ,h.iR,h.nd⟩
theorem Qm (B:jm n tr ch lev) {d:Nat} {s:Lk} (h:K5 tr lev d s) {y j:Nat} (x:j < tr.length) (t:tr[j]=op y):K5 tr lev d (lU lev d s y)/\(∀ v,s.seen v=true->(lU lev d s y).seen v=true)/\(lev (y / 2)=0\/(lU lev d s y).seen (y / 2)=true):=by
 have p:tr[j] / 2=y / 2:=by rw [t,gq]
 have u:op y ∈ tr:=t ▸ List.getElem_mem x;unfold lU;split
 ·rename_i o;exact ⟨h,fun _ h=>h,o.symm⟩
 ·rename_i o;have D:s.seen (y / 2)=false:=by
   cases e:s.seen (y / 2) with
   | false=>rfl
   | true=>exact absurd (.inl e) o
  have F:lev (y / 2) ≠ 0:=fun e=>o (.inr e)
  have mono:∀ v,s.seen v=true->eu s.seen (y / 2) true v=true:=fun v p=>by
   by_cases e:v=y / 2
   ·rw [e,dx]
   ·rw [dm _ _ e];exact p
  have l:∀ v,eu s.seen (y / 2) true v=true->0 < lev v/\∃ j,∃ h:j < tr.length,tr[j] / 2=v:=fun v k=>by
   by_cases e:v=y / 2
   ·rw [e];exact ⟨by omega,j,x,p⟩
   ·rw [dm _ _ e] at k;exact h.sQ v k
  have i:∀ z,op z ∈ tr->z / 2=y / 2->z=y:=fun z m e=>by
   rcases qE e with r | r
   ·exact r
   ·rw [r,jT] at m;exact (B.mR m u).elim
  split
  ·rename_i q;refine ⟨⟨l,fun z=>?_,h.nd⟩,mono,.inr (dx ..)⟩;show z ∈ s.iR↔_
   rw [h.iR z];constructor
   ·rintro ⟨g1,g2,c⟩;exact ⟨g1,mono _ g2,c⟩
   ·rintro ⟨g1,g2,c⟩;refine ⟨g1,?_,c⟩;have e:z / 2 ≠ y / 2:=fun e=>c (by rw [e];exact q)
    have g2:eu s.seen (y / 2) true (z / 2)=true:=g2;rw [dm _ _ e] at g2;exact g2
  ·rename_i q;refine ⟨⟨l,fun z=>?_,?_⟩,mono,.inr (dx ..)⟩
   ·show z ∈ s.iR ++ [y]↔_
    rw [List.mem_append,h.iR z];constructor
    ·rintro (⟨g1,g2,c⟩ | g)
     ·exact ⟨g1,mono _ g2,c⟩
     ·simp at g;subst g;exact ⟨u,dx ..,q⟩
    ·rintro ⟨g1,g2,c⟩;have g2:eu s.seen (y / 2) true (z / 2)=true:=g2;by_cases e:z / 2=y / 2
     ·exact .inr (by simp [i z g1 e])
     ·rw [dm _ _ e] at g2;exact .inl ⟨g1,g2,c⟩
   ·show ((s.iR ++ [y]).map (· / 2)).Nodup
    rw [List.map_append];refine List.nodup_append.2 ⟨h.nd,by simp,fun a E b A=>?_⟩;simp at A;subst A;obtain ⟨z,m,rfl⟩:=List.mem_map.1 E;intro e;have e:z / 2=y / 2:=e;have:=((h.iR z).1 m).2.1;rw [e,D] at this;cases this
theorem tZ (b:jm n tr ch lev) (hd:0 < ch.length) {j:Nat} (h:j < tr.length):lev (tr[j] / 2)=ch.length↔ch[ch.length - 1] <= j:=by
 have g:=cnt_lt b.gY (d:=ch.length - 1) (by omega) (i:=j);have k:=CS ch j;rw [b.lev j h];constructor
 ·intro e
  rcases Nat.lt_or_ge j ch[ch.length - 1] with a | a
  ·have:=g.2 a;omega
  ·exact a
 ·intro a
  rcases Nat.lt_or_ge (ch.length - 1) (cnt ch j) with c | c
  ·omega
  ·have:=g.1 c;omega
theorem Qn (i:jm n tr ch lev) (hd:0 < ch.length) {s:Lk} {y j b k:Nat} (l:j < tr.length) (m:tr[j]=op y) (d:j < b) (q:b <= tr.length) (p:s.opn + k=lT tr ch[ch.length - 1] b s.seen):(lU lev ch.length s y).opn + k=lT tr ch[ch.length - 1] b (lU lev ch.length s y).seen:=by
 have h:tr[j] / 2=y / 2:=by rw [m,gq]
 unfold lU;split
 ·exact p
 ·rename_i t;have o:s.seen (tr[j] / 2)=false:=by
   rw [h]
   cases e:s.seen (y / 2) with
   | false=>rfl
   | true=>exact absurd (.inl e) t
  have a:=Oe i (last:=ch[ch.length - 1]) l o b q;have c:=tZ i hd l;rw [h] at a c;split
  ·rename_i g;show s.opn + 1 + k=lT tr ch[ch.length - 1] b (eu s.seen (y / 2) true)
   rw [a,if_pos ⟨c.1 g,d⟩];omega
  ·rename_i g;show s.opn + k=lT tr ch[ch.length - 1] b (eu s.seen (y / 2) true)
   rw [a,if_neg (fun r=>g (c.2 r.1))];omega
theorem G5 (e:jm n tr ch lev) (hd:0 < ch.length) {b k:Nat} (m:b <= tr.length):∀ (a:List Nat) (s:Lk),(∀ y ∈ a,∃ j,∃ h:j < tr.length,j < b/\tr[j]=op y)->K5 tr lev ch.length s->s.opn + k=lT tr ch[ch.length - 1] b s.seen->
  K5 tr lev ch.length (a.foldl (lU lev ch.length) s)/\(a.foldl (lU lev ch.length) s).opn + k=lT tr ch[ch.length - 1] b (a.foldl (lU lev ch.length) s).seen/\(∀ v,s.seen v=true->(a.foldl (lU lev ch.length) s).seen v=true)/\∀ y ∈ a,lev (y / 2)=0\/(a.foldl (lU lev ch.length) s).seen (y / 2)=true
 | [],s,_,h,hc=>⟨h,hc,fun _ h=>h,fun y d=>by simp at d⟩
 | y :: r,s,d,h,hc=>by
  obtain ⟨j,l,g,o⟩:=d y (List.mem_cons_self ..);obtain ⟨g1,g2,A⟩:=Qm e h l o;have x:=Qn e hd l o g m hc;obtain ⟨t,q,i,p⟩:=G5 e hd m r (lU lev ch.length s y) (fun z c=>d z (List.mem_cons_of_mem _ c)) g1 x;refine ⟨t,q,fun v u=>i v (g2 v u),fun z c=>?_⟩
  rcases List.mem_cons.1 c with rfl | c
  ·exact A.imp id (fun h=>i _ h)
  ·exact p z c
theorem Tw {b d:Nat}:∀ (a:List Nat) (t:Lk),(∀ y ∈ a,∃ j,∃ o:j < tr.length,j < b/\tr[j]=op y)->∀ v,(a.foldl (lU lev d) t).seen v=true->t.seen v=true\/∃ j,∃ o:j < tr.length,j < b/\tr[j] / 2=v:=by
 intro a
 induction a with
 | nil=>intro t _ v c;exact .inl c
 | cons y a ih=>
  intro t i v c
  rcases ih (lU lev d t y) (fun z k=>i z (List.mem_cons_of_mem _ k)) v c with g | g
  ·obtain ⟨m,l,e,p⟩:=i y (List.mem_cons_self ..);by_cases h:v=y / 2
   ·exact .inr ⟨m,l,e,by rw [p,gq,h]⟩
   ·left
    unfold lU at g;split at g
    ·exact g
    ·split at g
     ·have g:eu t.seen (y / 2) true v=true:=g;rw [dm _ _ h] at g;exact g
     ·have g:eu t.seen (y / 2) true v=true:=g;rw [dm _ _ h] at g;exact g
  ·exact .inr g
structure wU (tr ch:List Nat) (lev:Nat->Nat) (rs:Nat->Option (List Nat)) (last:Nat) (c0:List Nat) (i:Nat) (s:Lk):Prop where
 lk:K5 tr lev ch.length s
 first:∀ y ∈ c0,lev (y / 2)=0\/s.seen (y / 2)=true
 done:∀ j (h:j < tr.length),i <= j->s.seen (tr[j] / 2)=true->By tr rs (fun v=>lev v=0\/s.seen v=true) j
 cnt:s.opn=lT tr last i s.seen
 pos:1 <= s.opn
 VT:i <= tr.length
variable {c0:List Nat}
theorem wU.start (i:jm n tr ch lev) (hd:0 < ch.length) (l:∀ y ∈ c0,op y ∈ tr) {c:Nat} (m:c ∈ c0) (t:lev (c / 2)=ch.length):wU tr ch lev rs ch[ch.length - 1] c0 tr.length (c0.foldl (lU lev ch.length) ⟨fun _=>false,[],0⟩):=by
 have q:∀ b,lT tr ch[ch.length - 1] b (fun _=>false)=0:=fun b=>by
  unfold lT;rw [List.length_eq_zero_iff,List.filter_eq_nil_iff];simp
 obtain ⟨p,o,v,d⟩:=G5 i hd (b:=tr.length) (k:=0) lr c0 ⟨fun _=>false,[],0⟩ (fun y r=>by
  obtain ⟨j,a,e⟩:=List.mem_iff_getElem.1 (l y r);exact ⟨j,a,a,e⟩) (K5.start ..) (by rw [q])
 refine ⟨p,d,fun j h a=>by omega,by simpa using o,?_,lr⟩;have s:(c0.foldl (lU lev ch.length) ⟨fun _=>false,[],0⟩).seen (c / 2)=true:=by
  rcases d c m with e | e
  ·omega
  ·exact e
 obtain ⟨j,a,u⟩:=List.mem_iff_getElem.1 (l c m);have g:tr[j] / 2=c / 2:=by rw [u,gq]
 rcases Nat.eq_zero_or_pos (lT tr ch[ch.length - 1] tr.length (c0.foldl (lU lev ch.length) ⟨fun _=>false,[],0⟩).seen) with e | e
 ·have:=Bn e a ((tZ i hd a).1 (by rw [g];exact t));rw [vH a,g,s] at this;cases this
 ·omega
theorem wU.more {last i:Nat} {s:Lk} (h:wU tr ch lev rs last c0 i s):∃ j,i=j + 1/\last <= j:=by
 have b:=h.cnt;have c:=h.pos
 rcases Nat.lt_or_ge last i with a | a
 ·exact ⟨i - 1,by omega,by omega⟩
 ·rw [Fu a] at b;omega
theorem wU.skip {last i:Nat} {s:Lk} (h:wU tr ch lev rs last c0 (i + 1) s) (b:s.seen (vr tr i)=false):wU tr ch lev rs last c0 i s where
 lk:=h.lk
 first:=h.first
 done:=fun j d c a=>by
  rcases Nat.eq_or_lt_of_le c with e | e
  ·subst e;rw [vH d] at b;rw [b] at a;cases a
  ·exact h.done j d e a
 cnt:=by rw [h.cnt,mI,b];simp
 pos:=h.pos
 VT:=by have:=h.VT;omega
theorem wU.step (B:jm n tr ch lev) (hd:0 < ch.length) {i:Nat} {s:Lk} (h:wU tr ch lev rs ch[ch.length - 1] c0 (i + 1) s) (O:i < tr.length) (D:s.seen (tr[i] / 2)=true) (S:s.opn ≠ 1) {c r:List Nat} (P:rs (tr[i] / 2)=some c) (o:c=tr[i] :: r) (E:∀ y ∈ r,∃ j,∃ l:j < tr.length,j < i/\tr[j]=op y):
  ∃ more,(c.foldl (lU lev ch.length) ⟨s.seen,s.iR,0⟩).opn=more/\wU tr ch lev rs ch[ch.length - 1] c0 i ⟨(c.foldl (lU lev ch.length) ⟨s.seen,s.iR,0⟩).seen,(c.foldl (lU lev ch.length) ⟨s.seen,s.iR,0⟩).iR,s.opn + more - 1⟩:=by
 have R:c.foldl (lU lev ch.length) ⟨s.seen,s.iR,0⟩=r.foldl (lU lev ch.length) ⟨s.seen,s.iR,0⟩:=by
  rw [o,List.foldl_cons]
  congr 1
  unfold lU;rw [if_pos (.inl D)]
 rw [R];have a:ch[ch.length - 1] <= i:=by
  obtain ⟨j,e,T⟩:=h.more;omega
 obtain ⟨t,I,q,H⟩:=G5 B hd (b:=i + 1) (k:=s.opn) (by omega) r ⟨s.seen,s.iR,0⟩ (fun y u=>by
  obtain ⟨j,l,N,e⟩:=E y u;exact ⟨j,l,by omega,e⟩) (h.lk.zero 0) (by rw [h.cnt];simp)
 have z:=q _ D;have G:=Tw (lev:=lev) (d:=ch.length) r ⟨s.seen,s.iR,0⟩ E;generalize r.foldl (lU lev ch.length) ⟨s.seen,s.iR,0⟩=p at *
 refine ⟨_,rfl,⟨t.sQ,t.iR,t.nd⟩,fun y u=>(h.first y u).imp id (q _),fun j l A x=>?_,?_,?_,by omega⟩
 ·rcases Nat.eq_or_lt_of_le A with e | e
  ·subst e;refine ⟨l,c,r,P,o,H⟩
  ·by_cases F:s.seen (tr[j] / 2)=true
   ·exact (h.done j l e F).mono fun v J=>J.imp id (q v)
   ·
    exfalso
    rcases G _ x with g | ⟨m,M,L,Q⟩
    ·exact F g
    ·have:=B.ry M l Q;omega
 ·show s.opn + p.opn - 1=lT tr ch[ch.length - 1] i p.seen
  rw [mI,vH O,if_pos ⟨a,z⟩] at I;omega
 ·show 1 <= s.opn + p.opn - 1
  have:=h.pos;omega
theorem wU.forced (d:jm n tr ch lev) (hd:0 < ch.length) {i:Nat} {s:Lk} (h:wU tr ch lev rs ch[ch.length - 1] c0 (i + 1) s) (j:s.opn ≠ 1):i ∉ ch:=fun g=>by
 have k:=h.pos;have c:=h.cnt;obtain ⟨m,a,e⟩:=List.mem_iff_getElem.1 g;have:i <= ch[ch.length - 1]:=by
  rcases Nat.lt_or_ge m (ch.length - 1) with b | b
  ·have:=List.pairwise_iff_getElem.1 d.gY.1 m (ch.length - 1) a (by omega) b;omega
  ·have:m=ch.length - 1:=by omega
   subst this;omega
 rw [mI,Fu this] at c;split at c <;> omega
def iU (C:jy) (dB:Nat->Int) (v:Nat):Option (List Nat):=if dB v=-1 then none else (C (dB v).toNat).map (·.lits)
theorem Bu {i:Nat} {h:i < tr.length} (e:Why C tr dB i h):∃ a c r,dB (tr[i] / 2)=(a:Nat)/\C a=some c/\c.kind ≠ 2/\c.lits=tr[i] :: r/\iU C dB (tr[i] / 2)=some c.lits/\∀ y ∈ r,∃ j,∃ m:j < tr.length,j < i/\tr[j]=op y:=by
 obtain ⟨a,c,r,d,b,l,k,g⟩:=e;refine ⟨a,c,r,d,b,l,k,?_,g⟩;unfold iU;rw [if_neg (by omega),d,Int.toNat_natCast,b];rfl
theorem rZ.trail {L:List Rd.Cl} (h:rZ C tr ch dB) (g:jm n tr ch lev) (hL:∀ a c,C a=some c->c.kind ≠ 2->There L c.lits):Trail L tr (iU C dB) where
 nodup:=g.nodup
 why:=fun i e c b=>by
  by_cases d:i ∈ ch
  ·unfold iU at b;rw [if_pos (h.Oi i e d)] at b;cases b
  ·obtain ⟨a,p,r,q,o,m,l,k,j⟩:=Bu (h.why i e d);rw [k] at b;cases b
   exact ⟨r,l,hL a p o m,j⟩
def dS (rs:Nat->Option (List Nat)) (fol:Nat->Bool) (v:Nat):Bool:=match rs v with
 | none=>false
 | some c=>c.tail.all fun y=>fol (y / 2)
structure Oz (tr:List Nat) (rs:Nat->Option (List Nat)) (seen:Nat->Bool) (j:Nat) (fol:Nat->Bool):Prop where
 why:∀ k (h:k < tr.length),k < j->fol (tr[k] / 2)=true->seen (tr[k] / 2)=true\/By tr rs (fun v=>∃ m,∃ hm:m < tr.length,m < k/\tr[m] / 2=v/\fol v=true) k
theorem Oz.start (tr:List Nat) (rs:Nat->Option (List Nat)) (seen fol:Nat->Bool):Oz tr rs seen 0 fol:=⟨fun k h a=>by omega⟩
theorem Bd {L:List Rd.Cl} (T:Trail L tr rs) {fol:Nat->Bool} {k:Nat} (g:k < tr.length) (a:dS rs fol (tr[k] / 2)=true):By tr rs (fun v=>∃ m,∃ p:m < tr.length,m < k/\tr[m] / 2=v/\fol v=true) k:=by
 unfold dS at a
 cases e:rs (tr[k] / 2) with
 | none=>rw [e] at a;cases a
 | some c=>
  rw [e] at a;obtain ⟨r,h,q,l⟩:=T.why k g c e;refine ⟨g,c,r,e,h,fun y d=>?_⟩;rw [h] at a;simp only [List.tail_cons,List.all_eq_true] at a;obtain ⟨j,i,b,o⟩:=l y d;exact ⟨j,i,b,by rw [o,gq],a y d⟩
theorem Oz.step {L:List Rd.Cl} (T:Trail L tr rs) (o:jm n tr ch lev) {seen fol:Nat->Bool} {j:Nat} (h:Oz tr rs seen j fol) (q:j < tr.length):Oz tr rs seen (j + 1) (eu fol (tr[j] / 2) (seen (tr[j] / 2) || dS rs fol (tr[j] / 2))) where
 why:=fun k b d c=>by
  have l:∀ m (a:m < tr.length),m < j->tr[m] / 2 ≠ tr[j] / 2:=fun m a p e=>by
   have:=o.ry a q e;omega
  have i:∀ k (b:k < tr.length),k <= j->By tr rs (fun v=>∃ m,∃ a:m < tr.length,m < k/\tr[m] / 2=v/\fol v=true) k->By tr rs (fun v=>∃ m,∃ a:m < tr.length,m < k/\tr[m] / 2=v/\eu fol (tr[j] / 2) (seen (tr[j] / 2) || dS rs fol (tr[j] / 2)) v=true) k:=fun k b d r=>r.mono fun v ⟨m,a,hmk,e,hv⟩=>⟨m,a,hmk,e,by rw [dm _ _ (by rw [<- e];exact l m a (by omega))];exact hv⟩
  rcases Nat.lt_succ_iff_lt_or_eq.1 d with g | g
  ·rw [dm _ _ (l k b g)] at c;exact (h.why k b g c).imp id (i k b (by omega))
  ·subst g;rw [dx,Bool.or_eq_true] at c;exact c.imp id fun c=>i k b lr (Bd T b c)
theorem Km {L:List Rd.Cl} (T:Trail L tr (iU C dB)) (p:jm n tr ch lev) (x:rZ C tr ch dB) (hd:0 < ch.length) {i:Nat} {s:Lk} (h:wU tr ch lev (iU C dB) ch[ch.length - 1] c0 (i + 1) s) (I:i < tr.length) (O:s.seen (tr[i] / 2)=true) (P:s.opn=1) {fol:Nat->Bool} (u:Oz tr (iU C dB) s.seen ch[ch.length - 1] fol):
  Il tr (iU C dB) lev ch[ch.length - 1] c0 (fun v=>s.seen v=true) (fun v=>∃ m,∃ g:m < tr.length,m < ch[ch.length - 1]/\tr[m] / 2=v/\fol v=true) i (s.iR.filter fun y=>!dS (iU C dB) fol (y / 2)):=by
 obtain ⟨j,M,l⟩:=h.more;have M:j=i:=by omega
 subst M;have Q:=h.cnt;rw [mI,vH I,if_pos ⟨l,O⟩,P] at Q;exact {
  hiu:=I
  first:=h.first
  behind:=fun k b F d=>h.done k b F d
  low:=fun k b A D d=>by
   have:=Bn (show lT tr ch[ch.length - 1] j s.seen=0 by omega) D A;rw [vH b,d] at this;cases this
  UR:=l
  follows:=fun k b B ⟨m,g,VU,G,q⟩=>by
   have:m=k:=p.ry g b G;subst this;exact (u.why m g VU q).imp id fun R=>R.mono fun v ⟨m',hm',o,e,hv⟩=>⟨m',hm',by omega,e,hv⟩
  Sg:=fun k b B d=>by
   have E:op tr[k] ∈ s.iR:=by
    rw [h.lk.iR,jT,gq];refine ⟨List.getElem_mem b,d,fun e=>?_⟩;have:=(tZ p hd b).1 e;omega
   by_cases q:dS (iU C dB) fol (tr[k] / 2)=true
   ·right
    exact (Bd T b q).mono fun v ⟨m,g,o,e,hv⟩=>⟨m,g,by omega,e,hv⟩
   ·left
    rw [List.mem_filter,gq];exact ⟨E,by simpa using q⟩
  zero:=fun k b H=>by
   have z:k ∉ ch:=fun g=>by
    have t:=p.lev k b;rw [H] at t;unfold cnt at t;have J:=List.filter_eq_nil_iff.1 (List.length_eq_zero_iff.1 t.symm) k g;simp at J
   obtain ⟨a,c,r,t,J,h3,h4,Y,W⟩:=Bu (x.why k b z);refine ⟨b,c.lits,r,Y,h4,fun y N=>?_⟩;obtain ⟨m,g,o,G⟩:=W y N;have U:=p.lev m g;rw [G,gq] at U;have S:=cnt_mono ch (Nat.le_of_lt o);rw [<- p.lev k b,H] at S;omega
  EM:=fun v ⟨m,g,VU,e,_⟩=>⟨m,g,VU,e⟩ }
theorem wU.tail {last i:Nat} {s:Lk} (h:wU tr ch lev rs last c0 i s) (b:jm n tr ch lev) {y:Nat} (a:y ∈ s.iR):op y ∈ tr/\0 < lev (y / 2)/\lev (y / 2) < ch.length:=by
 obtain ⟨g,e,l⟩:=(h.lk.iR y).1 a;obtain ⟨d,j,c,k⟩:=h.lk.sQ _ e;refine ⟨g,d,?_⟩;have:=b.lev j c;rw [k] at this;have:=CS ch j;omega
end
structure Rec where
 kind:Nat
 busy:Int
 lits:List Nat
def enc1 (c:Rec):List Int:=(c.lits.length:Int) :: (c.kind:Int) :: c.busy :: c.lits.map fun (x:Nat)=>(x:Int)
def enc:List Rec->List Int
 | []=>[]
 | c :: r=>enc1 c ++ enc r
theorem jI (c:Rec):(enc1 c).length=3 + c.lits.length:=by simp [enc1];omega
theorem ig (a b:List Rec):enc (a ++ b)=enc a ++ enc b:=by
 induction a with
 | nil=>rfl
 | cons c r ih=>simp [enc,ih]
def dU (cs:List Rec) (k:Nat):Nat:=(enc (cs.take k)).length
theorem uq (cs:List Rec):dU cs 0=0:=by simp [dU,enc]
theorem oZ {cs:List Rec} {k:Nat} (h:k < cs.length):dU cs (k + 1)=dU cs k + (3 + (cs[k]).lits.length):=by
 unfold dU;rw [List.take_succ_eq_append_getElem h,ig,List.length_append];simp [enc,jI]
theorem lG {cs:List Rec} {k:Nat} (h:cs.length <= k):dU cs k=(enc cs).length:=by unfold dU;rw [List.take_of_length_le h]
theorem Ig {cs:List Rec} {j k:Nat} (h:j < k) (b:k <= cs.length):dU cs j + 3 <= dU cs k:=by
 induction k with
 | zero=>omega
 | succ k ih=>
  rw [oZ (by omega)]
  rcases Nat.lt_succ_iff_lt_or_eq.1 h with a | a
  ·have:=ih a (by omega);omega
  ·subst a;omega
theorem TS {cs:List Rec} {j k:Nat} (h:j <= k) (a:k <= cs.length):dU cs j <= dU cs k:=by
 rcases Nat.eq_or_lt_of_le h with e | e
 ·subst e;exact lr
 ·have:=Ig e a;omega
theorem Ru {cs:List Rec} {j k:Nat} (b:j <= cs.length) (a:k <= cs.length) (e:dU cs j=dU cs k):j=k:=by
 rcases Nat.lt_trichotomy j k with h | h | h
 ·have:=Ig h a;omega
 ·exact h
 ·have:=Ig h b;omega
theorem kH {cs:List Rec} {k:Nat} (h:k < cs.length):dU cs k + (3 + (cs[k]).lits.length) <= (enc cs).length:=by
 rw [<- oZ h,<- lG lr];exact TS h lr
theorem u7 {cs:List Rec} {k:Nat} (h:k < cs.length) (j:Nat) (b:j < 3 + (cs[k]).lits.length):(enc cs)[dU cs k + j]? = (enc1 cs[k])[j]? := by
 have e:cs=cs.take k ++ cs[k] :: cs.drop (k + 1):=by rw [<- List.drop_eq_getElem_cons h,List.take_append_drop]
 have a:enc cs=enc (cs.take k) ++ (enc1 cs[k] ++ enc (cs.drop (k + 1))):=by
  conv=>lhs;rw [e]
  rw [ig];rfl
 rw [a];unfold dU;rw [List.getElem?_append_right (by omega),List.getElem?_append_left (by rw [jI];omega)]
 congr 1;omega
theorem NU {cs:List Rec} {k:Nat} (h:k < cs.length):(enc cs)[dU cs k]? = some ((cs[k]).lits.length:Int):=by
 have:=u7 h 0 (by omega);simpa [enc1] using this
theorem NV {cs:List Rec} {k:Nat} (h:k < cs.length):(enc cs)[dU cs k + 1]? = some ((cs[k]).kind:Int):=by
 have:=u7 h 1 (by omega);simpa [enc1] using this
theorem E5 {cs:List Rec} {k:Nat} (h:k < cs.length):(enc cs)[dU cs k + 2]? = some (cs[k]).busy:=by
 have:=u7 h 2 (by omega);simpa [enc1] using this
theorem wO {cs:List Rec} {k:Nat} (h:k < cs.length) {i:Nat} (a:i < (cs[k]).lits.length):(enc cs)[dU cs k + 3 + i]? = some (((cs[k]).lits[i]:Nat):Int):=by
 have:=u7 h (3 + i) (by omega);rw [show dU cs k + 3 + i=dU cs k + (3 + i) by omega,this];unfold enc1;rw [show 3 + i=i + 1 + 1 + 1 by omega];simp only [List.getElem?_cons_succ];rw [List.getElem?_map,List.getElem?_eq_getElem a];rfl
theorem nT {cs:List Rec} {k:Nat} (h:k < cs.length) {c:Rec} (a:c.lits.length=(cs[k]).lits.length) (j:Nat):dU (cs.set k c) j=dU cs j:=by
 have b:∀ (l:List Rec) (k j:Nat) (h:k < l.length),c.lits.length=(l[k]).lits.length->(enc ((l.set k c).take j)).length=(enc (l.take j)).length:=by
  intro l
  induction l with
  | nil=>intro k j h;simp at h
  | cons d r ih=>
   intro k j h a
   cases j with
   | zero=>simp
   | succ j=>
    cases k with
    | zero=>
     simp only [List.set_cons_zero,List.take_succ_cons,enc,List.length_append,jI];simp only [List.getElem_cons_zero] at a;omega
    | succ k=>
     simp only [List.set_cons_succ,List.take_succ_cons,enc,List.length_append,jI];simp only [List.getElem_cons_succ] at a;rw [ih k j (by simpa using h) a]
 exact b cs k j h a
theorem EY {cs:List Rec} {k:Nat} (h:k < cs.length) {c:Rec} (a:c.lits.length=(cs[k]).lits.length):(enc (cs.set k c)).length=(enc cs).length:=by
 have:=nT h a cs.length
 rwa [lG (by simp),lG lr] at this
theorem Je {cs:List Rec} {k:Nat} (h:k < cs.length) {c:Rec} (o:c.lits.length=(cs[k]).lits.length) (j:Nat):(enc (cs.set k c))[j]? = if dU cs k <= j/\j < dU cs k + (3 + (cs[k]).lits.length) then (enc1 c)[j - dU cs k]? else (enc cs)[j]? := by
 have e:cs=cs.take k ++ cs[k] :: cs.drop (k + 1):=by rw [<- List.drop_eq_getElem_cons h,List.take_append_drop]
 have i:enc cs=enc (cs.take k) ++ (enc1 cs[k] ++ enc (cs.drop (k + 1))):=by
  conv=>lhs;rw [e]
  rw [ig];rfl
 have g:enc (cs.set k c)=enc (cs.take k) ++ (enc1 c ++ enc (cs.drop (k + 1))):=by
  rw [List.set_eq_take_append_cons_drop,if_pos h,ig];rfl
 have m:=jI c;have l:=jI cs[k];have a:dU cs k=(enc (cs.take k)).length:=rfl;rw [g,i];split
 ·rename_i b;rw [List.getElem?_append_right (by omega),List.getElem?_append_left (by omega),a]
 ·rename_i b
  rcases Nat.lt_or_ge j (dU cs k) with d | d
  ·rw [List.getElem?_append_left (by omega),List.getElem?_append_left (by omega)]
  ·rw [List.getElem?_append_right (by omega),List.getElem?_append_right (by omega),List.getElem?_append_right (by omega),List.getElem?_append_right (by omega)]
   congr 1;omega
theorem EZ {cs:List Rec} {k:Nat} (h:k < cs.length) (b:Int):enc (cs.set k ⟨(cs[k]).kind,b,(cs[k]).lits⟩)=(enc cs).set (dU cs k + 2) b:=by
 refine List.ext_getElem? fun j=>?_
 rw [Je (c:=⟨(cs[k]).kind,b,(cs[k]).lits⟩) h rfl,List.getElem?_set];have d:=kH h;by_cases e:dU cs k + 2=j
 ·subst e;rw [if_pos ⟨by omega,by omega⟩,if_pos rfl,if_pos (by omega)];simp [enc1]
 ·rw [if_neg e];split
  ·rename_i a;obtain ⟨i,rfl⟩:∃ i,j=dU cs k + i:=⟨j - dU cs k,by omega⟩;rw [u7 h i (by omega),Nat.add_sub_cancel_left]
   match i with
   | 0=>rfl
   | 1=>rfl
   | 2=>exact absurd rfl e
   | i + 3=>simp [enc1]
  ·rfl
theorem yx {cs:List Rec} {k:Nat} (h:k < cs.length) {i:Nat} (a:i < (cs[k]).lits.length) (x:Nat):enc (cs.set k ⟨(cs[k]).kind,(cs[k]).busy,(cs[k]).lits.set i x⟩)=(enc cs).set (dU cs k + 3 + i) (x:Int):=by
 refine List.ext_getElem? fun j=>?_
 rw [Je h (by simp),List.getElem?_set];have c:=kH h;by_cases e:dU cs k + 3 + i=j
 ·subst e;rw [if_pos ⟨by omega,by omega⟩,if_pos rfl,if_pos (by omega)];rw [show dU cs k + 3 + i - dU cs k=i + 1 + 1 + 1 by omega];simp only [enc1,List.getElem?_cons_succ,List.map_set];rw [List.getElem?_set_self (by simpa using a)]
 ·rw [if_neg e];split
  ·rename_i b;obtain ⟨m,rfl⟩:∃ m,j=dU cs k + m:=⟨j - dU cs k,by omega⟩;rw [u7 h m (by omega),Nat.add_sub_cancel_left]
   match m with
   | 0=>simp [enc1]
   | 1=>rfl
   | 2=>rfl
   | m + 3=>
    simp only [enc1,List.getElem?_cons_succ,List.map_set];rw [List.getElem?_set_ne (by omega)]
  ·rfl
def mapOf (cs:List Rec):jy:=fun a=>((List.range cs.length).find? fun k=>dU cs k == a).bind fun k=>(cs[k]?).map fun c=>⟨c.kind,c.lits⟩
theorem eP {cs:List Rec} {k:Nat} (h:k < cs.length):mapOf cs (dU cs k)=some ⟨(cs[k]).kind,(cs[k]).lits⟩:=by
 unfold mapOf;have:((List.range cs.length).find? fun j=>dU cs j == dU cs k)=some k:=by
  cases e:(List.range cs.length).find? fun j=>dU cs j == dU cs k with
  | none=>
   have:=List.find?_eq_none.1 e k (List.mem_range.2 h);simp at this
  | some j=>
   have a:=List.find?_some e;have b:=List.mem_range.1 (List.mem_of_find?_eq_some e);simp only [beq_iff_eq] at a;rw [Ru (Nat.le_of_lt b) (Nat.le_of_lt h) a]
 rw [this,Option.bind_some,List.getElem?_eq_getElem h];rfl
theorem fD {cs:List Rec} {a:Nat} {c:zi} (h:mapOf cs a=some c):∃ k,∃ g:k < cs.length,a=dU cs k/\c=⟨(cs[k]).kind,(cs[k]).lits⟩:=by
 unfold mapOf at h
 cases e:(List.range cs.length).find? fun j=>dU cs j == a with
 | none=>rw [e] at h;cases h
 | some j=>
  rw [e,Option.bind_some] at h;have d:=List.find?_some e;have b:=List.mem_range.1 (List.mem_of_find?_eq_some e);simp only [beq_iff_eq] at d;rw [List.getElem?_eq_getElem b] at h;exact ⟨j,b,d.symm,(Option.some.inj h).symm⟩
theorem Az {cs:List Rec} {k:Nat} (h:k < cs.length) {c:Rec} (i:c.lits.length=(cs[k]).lits.length):mapOf (cs.set k c)=jZ (mapOf cs) (dU cs k) ⟨c.kind,c.lits⟩:=by
 funext a
 have b:(cs.set k c).length=cs.length:=by simp
 by_cases e:a=dU cs k
 ·subst e;rw [dP];have:=eP (cs:=cs.set k c) (k:=k) (by rw [b];exact h);rw [nT h i] at this;rw [this];simp
 ·rw [dJ _ _ e]
  cases o:mapOf cs a with
  | none=>
   cases q:mapOf (cs.set k c) a with
   | none=>rfl
   | some d=>
    obtain ⟨j,m,g,_⟩:=fD q;rw [nT h i] at g;rw [g,eP (by rw [<- b];exact m)] at o;cases o
  | some d=>
   obtain ⟨j,m,g,hd⟩:=fD o;have l:k ≠ j:=fun p=>e (by rw [g,p])
   have:=eP (cs:=cs.set k c) (k:=j) (by rw [b];exact m);rw [nT h i,<- g] at this;rw [this,hd];simp [List.getElem_set_ne l]
theorem nA {cs:List Rec} (c:Rec) {k:Nat} (h:k <= cs.length):dU (cs ++ [c]) k=dU cs k:=by
 unfold dU;rw [List.take_append_of_le_length h]
theorem pE (cs:List Rec) (c:Rec):mapOf (cs ++ [c])=jZ (mapOf cs) (enc cs).length ⟨c.kind,c.lits⟩:=by
 funext a
 have m:(cs ++ [c]).length=cs.length + 1:=by simp
 have b:dU (cs ++ [c]) cs.length=(enc cs).length:=by rw [nA c lr,lG lr]
 by_cases e:a=(enc cs).length
 ·subst e;rw [dP];have:=eP (cs:=cs ++ [c]) (k:=cs.length) (by omega);rw [b] at this;rw [this];simp
 ·rw [dJ _ _ e]
  cases l:mapOf cs a with
  | none=>
   cases o:mapOf (cs ++ [c]) a with
   | none=>rfl
   | some d=>
    obtain ⟨j,h,g,_⟩:=fD o
    rcases Nat.lt_or_ge j cs.length with i | i
    ·rw [nA c (Nat.le_of_lt i)] at g;rw [g,eP i] at l;cases l
    ·have:j=cs.length:=by omega
     subst this;rw [b] at g;exact absurd g e
  | some d=>
   obtain ⟨j,h,g,hd⟩:=fD l;have:=eP (cs:=cs ++ [c]) (k:=j) (by omega);rw [nA c (Nat.le_of_lt h),<- g] at this;rw [this,hd,List.getElem_append_left h]
theorem kU (cs:List Rec):mapOf cs (enc cs).length=none:=by
 cases e:mapOf cs (enc cs).length with
 | none=>rfl
 | some d=>
  obtain ⟨j,a,b,_⟩:=fD e;have:=kH a;omega
section
open Rd
section
theorem kP {a b:Cl}:iw a b=true↔∀ x,x ∈ a↔x ∈ b:=by
 unfold iw;simp only [Bool.and_eq_true,List.all_eq_true,List.contains_iff_mem];exact ⟨fun h x=>⟨h.1 x,h.2 x⟩,fun h=>⟨fun x=>(h x).1,fun x=>(h x).2⟩⟩
theorem qF {a a':Cl} (h:∀ x,x ∈ a↔x ∈ a') (b:Cl):iw a b=iw a' b:=by
 rw [Bool.eq_iff_iff,kP,kP];exact ⟨fun g x=>(h x).symm.trans (g x),fun g x=>(h x).trans (g x)⟩
theorem xI:∀ {L:List Cl} {c:Cl},0 < L.countP (fun d=>iw d c)->∃ a,rem L c=some a/\∀ e,a.countP (fun d=>iw d e) + (if iw c e then 1 else 0)=L.countP (fun d=>iw d e)
 | [],c,h=>by simp at h
 | d :: r,c,h=>by
  unfold rem;by_cases e:iw d c=true
  ·rw [if_pos e];refine ⟨r,rfl,fun f=>?_⟩;rw [List.countP_cons,qF (kP.1 e) f]
  ·rw [if_neg e];rw [List.countP_cons,if_neg e] at h;obtain ⟨a,g,b⟩:=xI (L:=r) (c:=c) h;refine ⟨d :: a,by rw [g];rfl,fun f=>?_⟩;rw [List.countP_cons,List.countP_cons,<- b f];omega
def xW (cs:List Rec):List (List Nat):=(cs.filter fun c=>decide (c.kind ≠ 2)).map (·.lits)
def Dc (L:List Cl) (lv:List (List Nat)):Prop:=∀ e:Cl,lv.countP (fun y=>iw (y.map wr) e) <= L.countP (fun d=>iw d e)
theorem Dc.there {L:List Cl} {a:List (List Nat)} (h:Dc L a) {c:List Nat} (e:c ∈ a):There L c:=by
 have i:=h (c.map wr);have g:0 < a.countP (fun y=>iw (y.map wr) (c.map wr)):=List.countP_pos_iff.2 ⟨c,e,kP.2 fun x=>Iff.rfl⟩;obtain ⟨d,hd,b⟩:=List.countP_pos_iff.1 (Nat.lt_of_lt_of_le g i);refine ⟨d,hd,fun x=>?_⟩;rw [kP.1 b x,List.mem_map]
theorem Dc.add {L:List Cl} {a:List (List Nat)} (h:Dc L a) (c:List Nat) {d:Cl} (hd:∀ x,x ∈ d↔∃ y ∈ c,wr y=x):Dc (L ++ [d]) (a ++ [c]):=fun e=>by
 rw [List.countP_append,List.countP_append];have:=h e;have b:iw (c.map wr) e=iw d e:=qF (fun x=>by rw [hd x,List.mem_map]) e;simp only [List.countP_cons,List.countP_nil,b];omega
theorem Dc.more {L:List Cl} {a:List (List Nat)} (h:Dc L a) (d:Cl):Dc (L ++ [d]) a:=fun e=>by
 rw [List.countP_append];have:=h e;omega
theorem Dc.congr {L:List Cl} {b a:List (List Nat)} (h:Dc L b) (c:∀ e:Cl,a.countP (fun y=>iw (y.map wr) e) <= b.countP (fun y=>iw (y.map wr) e)):Dc L a:=fun e=>Nat.le_trans (c e) (h e)
theorem pF (cs:List Rec) (c:Rec) (a:c.kind ≠ 2):xW (cs ++ [c])=xW cs ++ [c.lits]:=by
 unfold xW;rw [List.filter_append];simp [a]
theorem Qi {cs:List Rec} {a:Nat} {c:zi} (h:mapOf cs a=some c) (d:c.kind ≠ 2):c.lits ∈ xW cs:=by
 obtain ⟨k,b,_,rfl⟩:=fD h;exact List.mem_map.2 ⟨cs[k],List.mem_filter.2 ⟨List.getElem_mem b,decide_eq_true d⟩,rfl⟩
theorem Dc.hL {L:List Cl} {cs:List Rec} (h:Dc L (xW cs)):∀ a c,mapOf cs a=some c->c.kind ≠ 2->There L c.lits:=fun a c d b=>h.there (Qi d b)
def Dq (L:List Cl) (c:Cl):Prop:=mq L (zB c 0)
def nW:List Cl->List (Bool × Cl)->List Cl->Prop
 | L,[],L'=>L'=L
 | L,(true,c) :: r,L'=>∃ M,rem L c=some M/\nW M r L'
 | L,(false,c) :: r,L'=>c ≠ []/\Dq L c/\nW (L ++ [c]) r L'
theorem nW.add:∀ {ls:List (Bool × Cl)} {L L':List Cl},nW L ls L'->∀ {c:Cl},c ≠ []->Dq L' c->nW L (ls ++ [(false,c)]) (L' ++ [c])
 | [],L,L',h,c,h1,h2=>by
  have h:L'=L:=h;subst h;exact ⟨h1,h2,rfl⟩
 |(true,d) :: r,L,L',h,c,h1,h2=>by
  obtain ⟨M,g1,g2⟩:=h;exact ⟨M,g1,nW.add g2 h1 h2⟩
 |(false,d) :: r,L,L',h,c,h1,h2=>by
  obtain ⟨g1,g2,a⟩:=h;exact ⟨g1,g2,nW.add a h1 h2⟩
theorem zw {L:List Cl} {c:List Nat} {k:List Nat} (h:mq L (k.map wr)) (d:∀ y ∈ k,op y ∈ c):Dq L (c.map wr):=by
 intro M g e;refine h M g fun l b=>?_
 obtain ⟨y,a,rfl⟩:=List.mem_map.1 b;refine e _ ?_;unfold zB;refine List.mem_map.2 ⟨wr (op y),List.mem_filter.2 ⟨List.mem_map.2 ⟨op y,d y a,rfl⟩,?_⟩,by rw [Dt];omega⟩;have:=RV (op y);simpa using this
theorem Ak {L:List Cl} (h:mq L []):Dq L []:=h
variable {n:Nat} {tr ch:List Nat} {lev:Nat->Nat} {C:jy} {dB:Nat->Int}
def wR (C:jy) (tr:List Nat) (lev:Nat->Nat):Prop:=∀ a c,C a=some c->c.kind ≠ 2->c.lits.length < 2->∃ x,c.lits=[x]/\x ∈ tr/\lev (x / 2)=0
theorem Rp (u:jm n tr ch lev) (i:Dr n C) (o:sO C tr lev tr.length) (k:wR C tr lev) (s:∀ v,v < n->∃ x ∈ tr,x / 2=v) {a:Nat} {c:zi} (d:C a=some c) (h:c.kind ≠ 2):∃ x ∈ c.lits,x ∈ tr:=by
 match e:c.lits with
 | []=>obtain ⟨x,b,_⟩:=k a c d h (by rw [e];simp);rw [e] at b;cases b
 | [y]=>
  obtain ⟨x,b,g,_⟩:=k a c d h (by rw [e];simp);rw [e] at b;cases b
  exact ⟨y,by simp,g⟩
 | p :: q :: r=>
  have z:p < 2 * n:=i.lt a c d p (by rw [e];simp);obtain ⟨x,b,m⟩:=s (p / 2) (by omega)
  rcases qE m with rfl | rfl
  ·exact ⟨x,by simp,b⟩
  ·obtain ⟨j,l,t⟩:=List.mem_iff_getElem.1 b;exact ⟨q,by simp,((o a c p q r d h e).1 j l l t).1⟩
theorem xR {L:List Cl} (d:jm n tr [] lev) (b:rZ C tr [] dB) (hL:∀ a c,C a=some c->c.kind ≠ 2->There L c.lits) {c0:List Nat} (j:There L c0) (g:∀ y ∈ c0,op y ∈ tr):mq L []:=
 NS (b.trail d hL) (fun i e=>by
  obtain ⟨a,c,r,_,_,_,_,h,_⟩:=Bu (b.why i e (by simp));exact ⟨_,h⟩) j g
end
end
section
open Go Go.RowKit Go.Deep Rd
section
variable {Z:Nat->Prop} {sb K:Nat} {w w':World} {f V:Nat->Value} {X X':Nat->List Value}
def ints (l:List Int):List Value:=l.map fun z=>Value.int .i64 z
theorem mZ (l:List Int):(ints l).length=l.length:=by simp [ints]
theorem yj (l:List Int) (i:Nat):(ints l)[i]? = (l[i]?).map fun z=>Value.int .i64 z:=by simp [ints]
theorem ints_set (l:List Int) (i:Nat) (z:Int):(ints l).set i (.int .i64 z)=ints (l.set i z):=by simp [ints,List.map_set]
theorem vX (a b:List Int):ints (a ++ b)=ints a ++ ints b:=by simp [ints]
theorem je (a b:List Nat):dC (a ++ b)=dC a ++ dC b:=by simp [dC]
theorem oH (l:List Nat) (k:Nat):(dC l).take k=dC (l.take k):=by simp [dC]
theorem oI (l:List Nat) (i x:Nat):(dC l).set i (.int .i64 (x:Nat))=dC (l.set i x):=by simp [dC,List.map_set]
structure ou (n:Nat) (X:Nat->List Value) (tr ch:List Nat) (lev:Nat->Nat) (dB:Nat->Int):Prop where
 l1:X 1=dC tr
 l2:X 2=dC ch
 n3:(X 3).length=2 * n
 t3:∀ x,x < 2 * n->(X 3)[x]? = some (.int .i64 (tv tr x))
 n4:(X 4).length=n
 t4:∀ v,v < n->(X 4)[v]? = some (.int .i64 (lev v:Nat))
 n5:(X 5).length=n
 t5:∀ v,v < n->(X 5)[v]? = some (.int .i64 (dB v))
variable {n:Nat} {tr ch:List Nat} {lev:Nat->Nat} {dB:Nat->Int}
theorem ou.congr (h:ou n X tr ch lev dB) (a:∀ k,1 <= k->k <= 5->X' k=X k):ou n X' tr ch lev dB:=by
 have g:=a 1 (by omega) (by omega);have e:=a 2 (by omega) (by omega);have d:=a 3 (by omega) (by omega);have c:=a 4 (by omega) (by omega);have b:=a 5 (by omega) (by omega);exact ⟨by rw [g];exact h.l1,by rw [e];exact h.l2,by rw [d];exact h.n3,by rw [d];exact h.t3,by rw [c];exact h.n4,by rw [c];exact h.t4,by rw [b];exact h.n5,by rw [b];exact h.t5⟩
theorem uJ {l:List Value} {m:Nat} (d:l.length=m) {g:Nat->Value} (b:∀ v,v < m->l[v]? = some (g v)) {k:Nat} (h:k < m) (u:Value):∀ v,v < m->(l.set k u)[v]? = some (eu g k u v):=fun v a=>by
 by_cases e:v=k
 ·subst e;rw [List.getElem?_set_self (by omega),dx]
 ·rw [List.getElem?_set_ne (fun c=>e c.symm),dm _ _ e];exact b v a
theorem ik (X:Nat->List Value) (x:Nat) (r:Int) (d:Nat) {k:Nat} (e:k ≠ 1) (c:k ≠ 3) (b:k ≠ 4) (a:k ≠ 5):fe X x r d k=X k:=by
 unfold fe;rw [cu _ _ a,cu _ _ b,cu _ _ c,cu _ _ e]
theorem ou.assign {ch':List Nat} (h:ou n X tr ch lev dB) {x:Nat} (l:x < 2 * n) (B:tv tr x=0) (r:Int) {d:Nat} (c:X' 2=dC ch') (b:∀ k,k ≠ 2->X' k=X k):ou n (fe X' x r d) (tr ++ [x]) ch' (eu lev (x / 2) d) (eu dB (x / 2) r):=by
 have E:fe X' x r d 1=X 1 ++ [.int .i64 x]:=by unfold fe;rw [cu _ _ (by decide),cu _ _ (by decide),cu _ _ (by decide),cK,b 1 (by decide)]
 have D:fe X' x r d 2=X' 2:=ik _ _ _ _ (by decide) (by decide) (by decide) (by decide);have q:fe X' x r d 3=((X 3).set x (.int .i64 1)).set (op x) (.int .i64 (-1)):=by unfold fe;rw [cu _ _ (by decide),cu _ _ (by decide),cK,b 3 (by decide)]
 have p:fe X' x r d 4=(X 4).set (x / 2) (.int .i64 d):=by unfold fe;rw [cu _ _ (by decide),cK,b 4 (by decide)]
 have o:fe X' x r d 5=(X 5).set (x / 2) (.int .i64 r):=by unfold fe;rw [cK,b 5 (by decide)]
 have m:x / 2 < n:=by omega
 have z:op x < 2 * n:=vP l;refine ⟨?_,by rw [D,c],?_,?_,?_,?_,?_,?_⟩
 ·rw [E,h.l1,je];rfl
 ·rw [q];simp [h.n3]
 ·rw [q];have u:=uJ h.n3 h.t3 l (.int .i64 1);have t:=uJ (by rw [List.length_set];exact h.n3) u z (.int .i64 (-1));intro y A;rw [t y A,JC B y]
  congr 1
  by_cases j:y=x
  ·subst j;rw [dm _ _ (fun e=>IP y e.symm),dx,if_pos rfl]
  ·rw [if_neg j];by_cases i:y=op x
   ·subst i;rw [dx,if_pos rfl]
   ·rw [dm _ _ i,dm _ _ j,if_neg i]
 ·rw [p];simp [h.n4]
 ·rw [p];have s:=uJ h.n4 (g:=fun v=>.int .i64 (lev v:Nat)) h.t4 m (.int .i64 d);intro v a;rw [s v a];by_cases e:v=x / 2
  ·subst e;rw [dx,dx]
  ·rw [dm _ _ e,dm _ _ e]
 ·rw [o];simp [h.n5]
 ·rw [o];have s:=uJ h.n5 (g:=fun v=>.int .i64 (dB v)) h.t5 m (.int .i64 r);intro v a;rw [s v a];by_cases e:v=x / 2
  ·subst e;rw [dx,dx]
  ·rw [dm _ _ e,dm _ _ e]
theorem Pg {T:List Value} {m:Nat} (c:T.length=m):∀ (l:List Nat) (g:Nat->Value),(∀ x ∈ l,x < m/\op x < m)->(∀ v,v < m->T[v]? = some (g v))->∀ v,v < m->(oD T l)[v]? = some (if v ∈ l\/op v ∈ l then .int .i64 0 else g v):=by
 intro l
 induction l generalizing T with
 | nil=>intro g _ b v a;simp only [oD,List.not_mem_nil,or_self,if_false];exact b v a
 | cons x r ih=>
  intro g i b v a;obtain ⟨q,o⟩:=i x (List.mem_cons_self ..);have k:=uJ c b q (.int .i64 0);have j:=uJ (by rw [List.length_set];exact c) k o (.int .i64 0);have:=ih (T:=(T.set x (.int .i64 0)).set (op x) (.int .i64 0)) (by simp [c]) _ (fun y p=>i y (List.mem_cons_of_mem _ p)) j v a;rw [oD,this]
  congr 1
  by_cases h:v=x
  ·subst h;rw [dm _ _ (fun e=>IP v e.symm),dx];simp
  ·by_cases d:v=op x
   ·subst d;rw [dx,jT];simp
   ·rw [dm _ _ d,dm _ _ h];have s:op v ≠ x:=fun e=>d (by rw [<- e,jT])
    simp [h,s]
theorem ou.back (h:ou n X tr ch lev dB) (k:jm n tr ch lev) {s d:Nat} (G:s <= tr.length) (F:X' 1=dC (tr.take s)) (E:X' 2=dC (ch.take d)) (q:X' 3=oD (X 3) (tr.drop s)) (p:X' 4=X 4) (o:X' 5=X 5):ou n X' (tr.take s) (ch.take d) lev dB where
 l1:=F
 l2:=E
 n3:=by rw [q,xm];exact h.n3
 t3:=fun x A=>by
  rw [q,Pg h.n3 (tr.drop s) _ (fun y c=>⟨k.lt y (List.mem_of_mem_drop c),vP (k.lt y (List.mem_of_mem_drop c))⟩) h.t3 x A]
  congr 1
  have g:∀ y,y ∈ tr↔y ∈ tr.take s\/y ∈ tr.drop s:=fun y=>by
   conv=>lhs;rw [<- List.take_append_drop s tr]
   exact List.mem_append
  have a:∀ y z,y ∈ tr.take s->z ∈ tr.drop s->y / 2 ≠ z / 2:=fun y z c v e=>by
   obtain ⟨i,D,t⟩:=List.mem_iff_getElem.1 c;obtain ⟨j,B,r⟩:=List.mem_iff_getElem.1 v;rw [List.length_take] at D;rw [List.length_drop] at B;rw [List.getElem_take] at t;rw [List.getElem_drop] at r;have:=k.ry (i:=i) (j:=s + j) (by omega) (by omega) (by rw [t,r];exact e);omega
  split
  ·rename_i hd;have u:tv (tr.take s) x=0:=sU.2 ⟨fun b=>by
    rcases hd with hd | hd
    ·exact a x x b hd rfl
    ·exact a x (op x) b hd (by rw [gq]),fun b=>by
    rcases hd with hd | hd
    ·exact a (op x) x b hd (by rw [gq])
    ·exact a (op x) (op x) b hd rfl⟩
   rw [u]
  ·rename_i hd;have m:x ∉ tr.drop s:=fun e=>hd (.inl e)
   have l:op x ∉ tr.drop s:=fun e=>hd (.inr e)
   unfold tv;simp only [g,m,l,or_false]
 n4:=by rw [p];exact h.n4
 t4:=by rw [p];exact h.t4
 n5:=by rw [o];exact h.n5
 t5:=by rw [o];exact h.t5
structure qh (n:Nat) (V:Nat->Value) (X:Nat->List Value) (wl:Nat->List Nat):Prop where
 n9:(X 9).length=2 * n
 hd:∀ x,x < 2 * n->(X 9)[x]? = some (V (16 + x))
 row:∀ x,x < 2 * n->X (16 + x)=dC (wl x)
variable {V':Nat->Value} {wl:Nat->List Nat}
theorem qh.congr (h:qh n V X wl) (b:X' 9=X 9) (d:∀ x,x < 2 * n->V' (16 + x)=V (16 + x)) (c:∀ x,x < 2 * n->X' (16 + x)=X (16 + x)):qh n V' X' wl:=
 ⟨by rw [b];exact h.n9,fun x a=>by rw [b,d x a];exact h.hd x a,fun x a=>by rw [c x a];exact h.row x a⟩
theorem wN (x:Nat):ni (16 + x)=3:=by
 unfold ni;rw [if_neg (by omega),if_neg (by omega),if_neg (by omega),if_neg (by omega)]
theorem qh.push (h:qh n V X wl) {x:Nat} (d:x < 2 * n) (a:Nat) (v':Value):qh n (upd V (16 + x) v') (upd (upd X (16 + x) (X (16 + x) ++ [.int .i64 (a:Nat)])) 9 ((X 9).set x v')) (fun y=>if y=x then wl y ++ [a] else wl y) where
 n9:=by rw [cK,List.length_set];exact h.n9
 hd:=fun y b=>by
  rw [cK];by_cases e:y=x
  ·subst e;rw [List.getElem?_set_self (by rw [h.n9];exact b),cK]
  ·rw [List.getElem?_set_ne (fun c=>e c.symm),cu _ _ (by omega)];exact h.hd y b
 row:=fun y b=>by
  rw [cu _ _ (by omega)];by_cases e:y=x
  ·subst e;rw [cK,h.row y b,if_pos rfl,je];rfl
  ·rw [cu _ _ (by omega),if_neg e];exact h.row y b
theorem qh.put (h:qh n V X wl) {x:Nat} (d:x < 2 * n) {l:List Nat} {R:List Value} (b:R=dC l) (v':Value):qh n (upd V (16 + x) v') (upd (upd X (16 + x) R) 9 ((X 9).set x v')) (fun y=>if y=x then l else wl y) where
 n9:=by rw [cK,List.length_set];exact h.n9
 hd:=fun y a=>by
  rw [cK];by_cases e:y=x
  ·subst e;rw [List.getElem?_set_self (by rw [h.n9];exact a),cK]
  ·rw [List.getElem?_set_ne (fun c=>e c.symm),cu _ _ (by omega)];exact h.hd y a
 row:=fun y a=>by
  rw [cu _ _ (by omega)];by_cases e:y=x
  ·subst e;rw [cK,if_pos rfl];exact b
  ·rw [cu _ _ (by omega),if_neg e];exact h.row y a
theorem dX.IJ (h:dX Z sb w K f V X) {x:Nat} (l:16 + x < K) {d r u:Nat} (b:V 9=.slice (some ⟨d,0,none⟩) r u) {ob:Obj} {v':Value} {w6:World} {m:Nat} {news:List Value} (y:news.length=m) (A:dz (w.alloc ob) 0 3 1 (V (16 + x)) (X (16 + x)).length (X (16 + x)) m news v' w6):
  dX Z sb (w6.setCell ⟨d,x,none⟩ v') K f (upd V (16 + x) v') (upd (upd X (16 + x) (X (16 + x) ++ news)) 9 ((X 9).set x v'))/\dD Z w (w6.setCell ⟨d,x,none⟩ v'):=by
 have j:=h.later ((Below.refl _ w).alloc lr ob);have p:=j.row.lt;have c:9 < K:=by have:=h.hK;omega
 rw [<- wN x] at A;have v:=j.row.of_block (A.grew.block sb p (fun e=>j.far l sb e.symm rfl));have B:=j.fG.push l y A;have D:upd V (16 + x) v' 9=.slice (some ⟨d,0,none⟩) r u:=by rw [cu _ _ (by omega)];exact b
 have s:=B.set c D x v';rw [cu _ _ (show (9:Nat) ≠ 16 + x by omega)] at s;have o:d ≠ sb:=h.far c d (by rw [b];rfl);refine ⟨⟨v.of_block (Below.heap_setCell _ _ _ _ (fun e=>o e.symm)),s,fun k z=>by rw [cu _ _ (by omega)];exact h.hdr k z,h.jA,fun i t g a=>?_,fun g a=>h.az g ?_,h.hK⟩,?_⟩
 ·by_cases e:i=16 + x
  ·subst e;rw [cK] at a
   rcases A.at' with q | q
   ·rw [q] at a;exact h.al _ t g a
   ·rw [q] at a;have:=Option.some.inj a;exact h.az g (by simp at this;omega)
  ·rw [cu _ _ e] at a;exact h.al i t g a
 ·have:=A.grew.size;simp [World.setCell] at this a;omega
 ·exact (((dD.refl w).alloc ob).grown A.grew (fun g a=>h.al _ l g a)).setCell (h.al 9 c d (by rw [b];rfl)) _
theorem dX.VY (h:dX Z sb w K f V X) {x:Nat} (u:16 + x < K) {j o s:Nat} (c:V 9=.slice (some ⟨j,0,none⟩) o s) {a:Option Addr} {t cap m:Nat} (p:V (16 + x)=.slice a t cap) (v:m <= (X (16 + x)).length):
  dX Z sb (w.setCell ⟨j,x,none⟩ (.slice a m cap)) K f (upd V (16 + x) (.slice a m cap)) (upd (upd X (16 + x) ((X (16 + x)).take m)) 9 ((X 9).set x (.slice a m cap))):=by
 have d:9 < K:=by have:=h.hK;omega
 have z:=h.fG.cut u p v;have A:upd V (16 + x) (.slice a m cap) 9=.slice (some ⟨j,0,none⟩) o s:=by rw [cu _ _ (by omega)];exact c
 have q:=z.set d A x (.slice a m cap);rw [cu _ _ (show (9:Nat) ≠ 16 + x by omega)] at q;have l:j ≠ sb:=h.far d j (by rw [c];rfl);refine ⟨h.row.of_block (Below.heap_setCell _ _ _ _ (fun e=>l e.symm)),q,fun k y=>by rw [cu _ _ (by omega)];exact h.hdr k y,h.jA,fun i r g b=>?_,fun g b=>h.az g (by simpa [World.setCell] using b),h.hK⟩;by_cases e:i=16 + x
 ·subst e;rw [cK] at b;exact h.al _ r g (by rw [p];cases a <;> exact b)
 ·rw [cu _ _ e] at b;exact h.al i r g b
theorem BM {cs:List Rec} (b:X 0=ints (enc cs)) {j:Nat} {z:Int} (a:(enc cs)[j]? = some z):(X 0)[j]? = some (.int .i64 z):=by rw [b,yj,a];rfl
theorem dX.EB (h:dX Z sb w K f V X) {x:Nat} (q:16 + x < K) {c r u:Nat} (b:V 9=.slice (some ⟨c,0,none⟩) r u) (p:x < (X 9).length) {ob:Obj} {v':Value} {w6:World} {m:Nat} {news:List Value} (A:dz (w.alloc ob) 0 3 1 (V (16 + x)) (X (16 + x)).length (X (16 + x)) m news v' w6):
  (∀ j,j < 22->w6.cell? ⟨sb,j,none⟩=some (f j))/\w6.cell? ⟨c,x,none⟩=(X 9)[x]? /\ w6.frozen? ⟨c,x,none⟩=false:=by
 have g:=h.later ((Below.refl _ w).alloc lr ob);have d:9 < K:=by have:=h.hK;omega
 have s:=g.row.of_block (A.grew.block sb g.row.lt (fun e=>g.far q sb e.symm rfl));have o:=((g.fG.own 9 d).lt c (by rw [b];rfl)).2;have l:some c ≠ (V (16 + x)).ownBlock:=fun e=>by
  rcases h.fG.apart 9 (16 + x) d q (by omega) with k | k
  ·rw [b] at k;cases k
  ·exact k (by rw [<- e,b];rfl)
 have i:=A.grew.block c o l;obtain ⟨y,v⟩:=g.fG.cell d b p;exact ⟨fun j t=>s.cell t,(World.cell?_of_block (a:=⟨c,x,none⟩) i).trans y,(World.frozen?_of_block (a:=⟨c,x,none⟩) i).trans v⟩
theorem qh.at' (h:qh n V X wl) (i:dX Z sb w K f V X) (p:K=16 + 2 * n) {x:Nat} (g:x < 2 * n):∃ a d b wc,V 9=.slice (some ⟨a,0,none⟩) (2 * n) d/\V (16 + x)=.slice b (wl x).length wc/\w.cell? ⟨sb,5,none⟩=some (.slice (some ⟨a,0,none⟩) (2 * n) d)/\w.cell? ⟨a,x,none⟩=some (.slice b (wl x).length wc)/\w.frozen? ⟨a,x,none⟩=false/\a < w.heap.size/\a ≠ sb/\Z a/\w.ownsRow 0 3 1 (.slice b (wl x).length wc) (wl x).length (dC (wl x)):=by
 obtain ⟨a,d,t,e,q,r,s,z,zz,l,o⟩:=i.elem (k:=9) (j:=x) (by omega) h.n9 g;rw [show cellOf 9=5 from rfl] at q;rw [h.hd x g] at s;obtain rfl:=Option.some.inj s;have c:=i.fG.own (16 + x) (by omega);rw [wN,h.row x g,dh] at c;obtain ⟨b,wc,m⟩:=dI c;rw [m] at c r;exact ⟨a,d,b,wc,e,m,q,r,z,l,o,zz,c⟩
theorem mU {cs:List Rec} (a:dX Z sb w K f V X) (y:X 0=ints (enc cs)) {k:Nat} (b:k < cs.length):∃ g c,V 0=.slice (some ⟨g,0,none⟩) (enc cs).length c/\w.cell? ⟨sb,2,none⟩=some (.slice (some ⟨g,0,none⟩) (enc cs).length c)/\(enc cs).length <= c/\g < w.heap.size/\g ≠ sb/\Z g/\w.cell? ⟨g,dU cs k,none⟩=some (.int .i64 ((cs[k]).lits.length:Nat))/\w.cell? ⟨g,dU cs k + 1,none⟩=some (.int .i64 ((cs[k]).kind:Nat))/\w.cell? ⟨g,dU cs k + 2,none⟩=some (.int .i64 (cs[k]).busy)/\(∀ i (u:i < (cs[k]).lits.length),w.cell? ⟨g,dU cs k + 3 + i,none⟩=some (.int .i64 ((cs[k]).lits[i]:Nat)))/\∀ j,w.frozen? ⟨g,j,none⟩=false:=by
 have v:=kH b;have p:(X 0).length=(enc cs).length:=by rw [y,mZ]
 have G:=a.hK;obtain ⟨g,c,t,e,q,r,s,z,zz,l,D⟩:=a.elem (k:=0) (j:=dU cs k) (by omega) p (by omega);rw [show cellOf 0=2 from rfl] at q;obtain ⟨H,B,F,A,_,_,x⟩:=a.fG.block (k:=0) (by omega) (by omega);rw [e] at A;obtain ⟨_,_,rfl⟩:=Value.slice.inj A;have d:∀ j z,(enc cs)[j]? = some z->w.cell? ⟨g,j,none⟩=some (.int .i64 z):=fun j z m=>by
  have E:j < (X 0).length:=by
   rw [p]
   rcases Nat.lt_or_ge j (enc cs).length with h | h
   ·exact h
   ·rw [List.getElem?_eq_none h] at m;cases m
  rw [(a.fG.cell (k:=0) (by omega) e E).1];exact BM y m
 have o:=a.fG.own 0 (by omega);rw [e] at o;rw [p] at o x;exact ⟨g,c,e,q,x,l,D,zz,d _ _ (NU b),d _ _ (NV b),d _ _ (E5 b),fun i u=>d _ _ (wO b u),fun j=>o.frozenAt j⟩
end
end
end So
end Go.Proofs.YtceahffmenbibaaGreatDoor
