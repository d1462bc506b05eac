/- Sexp Senc Smat Smem Shea Sord Shw1 Swat. -/
import Derived.Test.YtceahffmenbibaaGreatDoorH01
import Derived.Deep.RegionLaw
import Derived.Deep.DrawnRows
set_option linter.unusedVariables false
set_option linter.unusedSimpArgs false
set_option maxHeartbeats 4000000
set_option maxRecDepth 100000
namespace Go.Proofs.YtceahffmenbibaaGreatDoor
namespace So
section
variable {n:Nat} {tr ch:List Nat} {lev:Nat->Nat} {C:iQ} {rea:Nat->Int} {rs:Nat->Option (List Nat)}
def vr (tr:List Nat) (j:Nat):Nat:=(tr.getD j 0) / 2
theorem vT {tr:List Nat} {j:Nat} (h:j < tr.length):vr tr j=tr[j] / 2:=by
 unfold vr;rw [List.getD_eq_getElem?_getD,List.getElem?_eq_getElem h];rfl
def lT (tr:List Nat) (last i:Nat) (seen:Nat->Bool):Nat:=((List.range i).filter fun j=>decide (last <= j) && seen (vr tr j)).length
theorem nk (tr:List Nat) (last i:Nat) (seen:Nat->Bool):lT tr last (i + 1) seen=lT tr last i seen + if last <= i/\seen (vr tr i)=true then 1 else 0:=by
 unfold lT;rw [List.range_succ,List.filter_append,List.length_append];by_cases b:last <= i <;> by_cases a:seen (vr tr i)=true <;> simp [b,a]
theorem GJ {tr:List Nat} {last i:Nat} {seen:Nat->Bool} (h:i <= last):lT tr last i seen=0:=by
 unfold lT;rw [List.length_eq_zero_iff,List.filter_eq_nil_iff];intro j a;have:=List.mem_range.1 a;simp;omega
theorem Cb {tr:List Nat} {last i:Nat} {seen:Nat->Bool} (h:lT tr last i seen=0) {j:Nat} (b:j < i) (a:last <= j):seen (vr tr j)=false:=by
 unfold lT at h;rw [List.length_eq_zero_iff,List.filter_eq_nil_iff] at h;have:=h j (List.mem_range.2 b);simpa [a] using this
theorem Qy (i:jh n tr ch lev) {last:Nat} {seen:Nat->Bool} {j:Nat} (l:j < tr.length) (k:seen (tr[j] / 2)=false):∀ b,b <= tr.length->lT tr last b (eF seen (tr[j] / 2) true)=lT tr last b seen + if last <= j/\j < b then 1 else 0:=by
 intro b
 induction b with
 | zero=>intro _;simp [lT]
 | succ b ih=>
  intro hb;rw [nk,nk,ih (by omega)];have a:b < tr.length:=by omega
  by_cases e:b=j
  ·subst e;rw [vT a,dE,k];by_cases d:last <= b
   ·simp [d]
   ·simp [d]
  ·have:vr tr b ≠ tr[j] / 2:=fun h=>by
    rw [vT a] at h;exact e (i.pQ a l h)
   rw [df _ _ this];by_cases c:last <= j/\j < b
   ·rw [if_pos c,if_pos (show last <= j/\j < b + 1 from ⟨c.1,by omega⟩)];omega
   ·rw [if_neg c,if_neg (show ¬ (last <= j/\j < b + 1) from fun m=>c ⟨m.1,by omega⟩)];omega
structure Lk where
 seen:Nat->Bool
 jd:List Nat
 opn:Nat
def lY (lev:Nat->Nat) (d:Nat) (s:Lk) (y:Nat):Lk:=
 if s.seen (y / 2)=true\/lev (y / 2)=0 then s
 else if lev (y / 2)=d then ⟨eF s.seen (y / 2) true,s.jd,s.opn + 1⟩
 else ⟨eF s.seen (y / 2) true,s.jd ++ [y],s.opn⟩
structure Np (tr:List Nat) (lev:Nat->Nat) (d:Nat) (s:Lk):Prop where
 rY:∀ v,s.seen v=true->0 < lev v/\∃ j,∃ h:j < tr.length,tr[j] / 2=v
 jd:∀ y,y ∈ s.jd↔op y ∈ tr/\s.seen (y / 2)=true/\lev (y / 2) ≠ d
 nd:(s.jd.map (· / 2)).Nodup
theorem Np.start (tr:List Nat) (lev:Nat->Nat) (d:Nat):Np tr lev d ⟨fun _=>false,[],0⟩:=⟨fun v h=>(by cases h),fun y=>(by simp),by simp⟩
theorem Np.zero {tr:List Nat} {lev:Nat->Nat} {d:Nat} {s:Lk} (h:Np tr lev d s) (k:Nat):Np tr lev d ⟨s.seen,s.jd,k⟩:=⟨h.rY,h.jd,h.nd⟩
theorem TT (A:jh n tr ch lev) {d:Nat} {s:Lk} (h:Np tr lev d s) {y j:Nat} (x:j < tr.length) (t:tr[j]=op y):Np tr lev d (lY lev d s y)/\(∀ v,s.seen v=true->(lY lev d s y).seen v=true)/\(lev (y / 2)=0\/(lY lev d s y).seen (y / 2)=true):=by
 have p:tr[j] / 2=y / 2:=by rw [t,gG]
 have u:op y ∈ tr:=t ▸ List.getElem_mem x;unfold lY;split
 ·rename_i o;exact ⟨h,fun _ h=>h,o.symm⟩
 ·rename_i o;have B:s.seen (y / 2)=false:=by
   cases e:s.seen (y / 2) with
   | false=>rfl
   | true=>exact absurd (.inl e) o
  have E:lev (y / 2) ≠ 0:=fun e=>o (.inr e)
  have mono:∀ v,s.seen v=true->eF s.seen (y / 2) true v=true:=fun v p=>by
   by_cases e:v=y / 2
   ·rw [e,dE]
   ·rw [df _ _ e];exact p
  have l:∀ v,eF s.seen (y / 2) true v=true->0 < lev v/\∃ j,∃ h:j < tr.length,tr[j] / 2=v:=fun v k=>by
   by_cases e:v=y / 2
   ·rw [e];exact ⟨by omega,j,x,p⟩
   ·rw [df _ _ e] at k;exact h.rY v k
  have i:∀ z,op z ∈ tr->z / 2=y / 2->z=y:=fun z m e=>by
   rcases qH e with r | r
   ·exact r
   ·rw [r,ko] at m;exact (A.nE m u).elim
  split
  ·rename_i q;refine ⟨⟨l,fun z=>?_,h.nd⟩,mono,.inr (dE ..)⟩;show z ∈ s.jd↔_
   rw [h.jd z];constructor
   ·rintro ⟨g1,g2,c⟩;exact ⟨g1,mono _ g2,c⟩
   ·rintro ⟨g1,g2,c⟩;refine ⟨g1,?_,c⟩;have e:z / 2 ≠ y / 2:=fun e=>c (by rw [e];exact q)
    have g2:eF s.seen (y / 2) true (z / 2)=true:=g2;rw [df _ _ e] at g2;exact g2
  ·rename_i q;refine ⟨⟨l,fun z=>?_,?_⟩,mono,.inr (dE ..)⟩
   ·show z ∈ s.jd ++ [y]↔_
    rw [List.mem_append,h.jd z];constructor
    ·rintro (⟨g1,g2,c⟩ | g)
     ·exact ⟨g1,mono _ g2,c⟩
     ·simp at g;subst g;exact ⟨u,dE ..,q⟩
    ·rintro ⟨g1,g2,c⟩;have g2:eF s.seen (y / 2) true (z / 2)=true:=g2;by_cases e:z / 2=y / 2
     ·exact .inr (by simp [i z g1 e])
     ·rw [df _ _ e] at g2;exact .inl ⟨g1,g2,c⟩
   ·show ((s.jd ++ [y]).map (· / 2)).Nodup
    rw [List.map_append];refine List.nodup_append.2 ⟨h.nd,by simp,fun a D b hb=>?_⟩;simp at hb;subst hb;obtain ⟨z,m,rfl⟩:=List.mem_map.1 D;intro e;have e:z / 2=y / 2:=e;have:=((h.jd z).1 m).2.1;rw [e,B] at this;cases this
theorem uC (b:jh n tr ch lev) (hd:0 < ch.length) {j:Nat} (k:j < tr.length):lev (tr[j] / 2)=ch.length↔ch[ch.length - 1] <= j:=by
 have h:=cnt_lt b.iC (d:=ch.length - 1) (by omega) (i:=j);have l:=Dy ch j;rw [b.lev j k];constructor
 ·intro e
  rcases Nat.lt_or_ge j ch[ch.length - 1] with a | a
  ·have:=h.2 a;omega
  ·exact a
 ·intro a
  rcases Nat.lt_or_ge (ch.length - 1) (cnt ch j) with c | c
  ·omega
  ·have:=h.1 c;omega
theorem TU (l:jh n tr ch lev) (hd:0 < ch.length) {s:Lk} {y j b k:Nat} (m:j < tr.length) (o:tr[j]=op y) (d:j < b) (hb:b <= tr.length) (q:s.opn + k=lT tr ch[ch.length - 1] b s.seen):(lY lev ch.length s y).opn + k=lT tr ch[ch.length - 1] b (lY lev ch.length s y).seen:=by
 have i:tr[j] / 2=y / 2:=by rw [o,gG]
 unfold lY;split
 ·exact q
 ·rename_i t;have p:s.seen (tr[j] / 2)=false:=by
   rw [i]
   cases e:s.seen (y / 2) with
   | false=>rfl
   | true=>exact absurd (.inl e) t
  have a:=Qy l (last:=ch[ch.length - 1]) m p b hb;have c:=uC l hd m;rw [i] at a c;split
  ·rename_i h;show s.opn + 1 + k=lT tr ch[ch.length - 1] b (eF s.seen (y / 2) true)
   rw [a,if_pos ⟨c.1 h,d⟩];omega
  ·rename_i h;show s.opn + k=lT tr ch[ch.length - 1] b (eF s.seen (y / 2) true)
   rw [a,if_neg (fun r=>h (c.2 r.1))];omega
theorem IZ (e:jh n tr ch lev) (hd:0 < ch.length) {b k:Nat} (hb:b <= tr.length):∀ (a:List Nat) (s:Lk),(∀ y ∈ a,∃ j,∃ h:j < tr.length,j < b/\tr[j]=op y)->Np tr lev ch.length s->s.opn + k=lT tr ch[ch.length - 1] b s.seen->
  Np tr lev ch.length (a.foldl (lY lev ch.length) s)/\(a.foldl (lY lev ch.length) s).opn + k=lT tr ch[ch.length - 1] b (a.foldl (lY lev ch.length) s).seen/\(∀ v,s.seen v=true->(a.foldl (lY lev ch.length) s).seen v=true)/\∀ y ∈ a,lev (y / 2)=0\/(a.foldl (lY lev ch.length) s).seen (y / 2)=true
 | [],s,_,h,hc=>⟨h,hc,fun _ h=>h,fun y d=>by simp at d⟩
 | y :: r,s,d,h,hc=>by
  obtain ⟨j,m,i,o⟩:=d y (List.mem_cons_self ..);obtain ⟨g1,g2,A⟩:=TT e h m o;have x:=TU e hd m o i hb hc;obtain ⟨t,q,l,p⟩:=IZ e hd hb r (lY lev ch.length s y) (fun z c=>d z (List.mem_cons_of_mem _ c)) g1 x;refine ⟨t,q,fun v u=>l v (g2 v u),fun z c=>?_⟩
  rcases List.mem_cons.1 c with rfl | c
  ·exact A.imp id (fun h=>l _ h)
  ·exact p z c
theorem VT {b d:Nat}:∀ (a:List Nat) (t:Lk),(∀ y ∈ a,∃ j,∃ o:j < tr.length,j < b/\tr[j]=op y)->∀ v,(a.foldl (lY lev d) t).seen v=true->t.seen v=true\/∃ j,∃ o:j < tr.length,j < b/\tr[j] / 2=v:=by
 intro a
 induction a with
 | nil=>intro t _ v c;exact .inl c
 | cons y a ih=>
  intro t i v c
  rcases ih (lY lev d t y) (fun z k=>i z (List.mem_cons_of_mem _ k)) v c with g | g
  ·obtain ⟨m,l,e,p⟩:=i y (List.mem_cons_self ..);by_cases h:v=y / 2
   ·exact .inr ⟨m,l,e,by rw [p,gG,h]⟩
   ·left
    unfold lY at g;split at g
    ·exact g
    ·split at g
     ·have g:eF t.seen (y / 2) true v=true:=g;rw [df _ _ h] at g;exact g
     ·have g:eF t.seen (y / 2) true v=true:=g;rw [df _ _ h] at g;exact g
  ·exact .inr g
structure xH (tr ch:List Nat) (lev:Nat->Nat) (rs:Nat->Option (List Nat)) (last:Nat) (c0:List Nat) (i:Nat) (s:Lk):Prop where
 lk:Np tr lev ch.length s
 first:∀ y ∈ c0,lev (y / 2)=0\/s.seen (y / 2)=true
 done:∀ j (h:j < tr.length),i <= j->s.seen (tr[j] / 2)=true->By tr rs (fun v=>lev v=0\/s.seen v=true) j
 cnt:s.opn=lT tr last i s.seen
 pos:1 <= s.opn
 YO:i <= tr.length
variable {c0:List Nat}
theorem xH.start (l:jh n tr ch lev) (hd:0 < ch.length) (m:∀ y ∈ c0,op y ∈ tr) {c:Nat} (o:c ∈ c0) (u:lev (c / 2)=ch.length):xH tr ch lev rs ch[ch.length - 1] c0 tr.length (c0.foldl (lY lev ch.length) ⟨fun _=>false,[],0⟩):=by
 have r:∀ b,lT tr ch[ch.length - 1] b (fun _=>false)=0:=fun b=>by
  unfold lT;rw [List.length_eq_zero_iff,List.filter_eq_nil_iff];simp
 obtain ⟨q,p,x,d⟩:=IZ l hd (b:=tr.length) (k:=0) lr c0 ⟨fun _=>false,[],0⟩ (fun y s=>by
  obtain ⟨j,a,e⟩:=List.mem_iff_getElem.1 (m y s);exact ⟨j,a,a,e⟩) (Np.start ..) (by rw [r])
 refine ⟨q,d,fun j h a=>by omega,by simpa using p,?_,lr⟩;have t:(c0.foldl (lY lev ch.length) ⟨fun _=>false,[],0⟩).seen (c / 2)=true:=by
  rcases d c o with e | e
  ·omega
  ·exact e
 obtain ⟨j,a,v⟩:=List.mem_iff_getElem.1 (m c o);have i:tr[j] / 2=c / 2:=by rw [v,gG]
 rcases Nat.eq_zero_or_pos (lT tr ch[ch.length - 1] tr.length (c0.foldl (lY lev ch.length) ⟨fun _=>false,[],0⟩).seen) with e | e
 ·have:=Cb e a ((uC l hd a).1 (by rw [i];exact u));rw [vT a,i,t] at this;cases this
 ·omega
theorem xH.more {last i:Nat} {s:Lk} (h:xH tr ch lev rs last c0 i s):∃ j,i=j + 1/\last <= j:=by
 have b:=h.cnt;have c:=h.pos
 rcases Nat.lt_or_ge last i with a | a
 ·exact ⟨i - 1,by omega,by omega⟩
 ·rw [GJ a] at b;omega
theorem xH.skip {last i:Nat} {s:Lk} (h:xH tr ch lev rs last c0 (i + 1) s) (b:s.seen (vr tr i)=false):xH tr ch lev rs last c0 i s where
 lk:=h.lk
 first:=h.first
 done:=fun j d c a=>by
  rcases Nat.eq_or_lt_of_le c with e | e
  ·subst e;rw [vT d] at b;rw [b] at a;cases a
  ·exact h.done j d e a
 cnt:=by rw [h.cnt,nk,b];simp
 pos:=h.pos
 YO:=by have:=h.YO;omega
theorem xH.step (B:jh n tr ch lev) (hd:0 < ch.length) {i:Nat} {s:Lk} (h:xH tr ch lev rs ch[ch.length - 1] c0 (i + 1) s) (hi:i < tr.length) (D:s.seen (tr[i] / 2)=true) (R:s.opn ≠ 1) {c r:List Nat} (O:rs (tr[i] / 2)=some c) (o:c=tr[i] :: r) (E:∀ y ∈ r,∃ j,∃ l:j < tr.length,j < i/\tr[j]=op y):
  ∃ more,(c.foldl (lY lev ch.length) ⟨s.seen,s.jd,0⟩).opn=more/\xH tr ch lev rs ch[ch.length - 1] c0 i ⟨(c.foldl (lY lev ch.length) ⟨s.seen,s.jd,0⟩).seen,(c.foldl (lY lev ch.length) ⟨s.seen,s.jd,0⟩).jd,s.opn + more - 1⟩:=by
 have Q:c.foldl (lY lev ch.length) ⟨s.seen,s.jd,0⟩=r.foldl (lY lev ch.length) ⟨s.seen,s.jd,0⟩:=by
  rw [o,List.foldl_cons]
  congr 1
  unfold lY;rw [if_pos (.inl D)]
 rw [Q];have a:ch[ch.length - 1] <= i:=by
  obtain ⟨j,e,S⟩:=h.more;omega
 obtain ⟨t,I,q,H⟩:=IZ B hd (b:=i + 1) (k:=s.opn) (by omega) r ⟨s.seen,s.jd,0⟩ (fun y u=>by
  obtain ⟨j,l,N,e⟩:=E y u;exact ⟨j,l,by omega,e⟩) (h.lk.zero 0) (by rw [h.cnt];simp)
 have z:=q _ D;have G:=VT (lev:=lev) (d:=ch.length) r ⟨s.seen,s.jd,0⟩ E;generalize r.foldl (lY lev ch.length) ⟨s.seen,s.jd,0⟩=p at *
 refine ⟨_,rfl,⟨t.rY,t.jd,t.nd⟩,fun y u=>(h.first y u).imp id (q _),fun j l A x=>?_,?_,?_,by omega⟩
 ·rcases Nat.eq_or_lt_of_le A with e | e
  ·subst e;refine ⟨l,c,r,O,o,H⟩
  ·by_cases F:s.seen (tr[j] / 2)=true
   ·exact (h.done j l e F).mono fun v J=>J.imp id (q v)
   ·
    exfalso
    rcases G _ x with g | ⟨m,M,L,P⟩
    ·exact F g
    ·have:=B.pQ M l P;omega
 ·show s.opn + p.opn - 1=lT tr ch[ch.length - 1] i p.seen
  rw [nk,vT hi,if_pos ⟨a,z⟩] at I;omega
 ·show 1 <= s.opn + p.opn - 1
  have:=h.pos;omega
theorem xH.forced (d:jh n tr ch lev) (hd:0 < ch.length) {i:Nat} {s:Lk} (h:xH tr ch lev rs ch[ch.length - 1] c0 (i + 1) s) (k:s.opn ≠ 1):i ∉ ch:=fun j=>by
 have l:=h.pos;have c:=h.cnt;obtain ⟨m,a,e⟩:=List.mem_iff_getElem.1 j;have:i <= ch[ch.length - 1]:=by
  rcases Nat.lt_or_ge m (ch.length - 1) with b | b
  ·have:=List.pairwise_iff_getElem.1 d.iC.1 m (ch.length - 1) a (by omega) b;omega
  ·have:m=ch.length - 1:=by omega
   subst this;omega
 rw [nk,GJ this] at c;split at c <;> omega
def je (C:iQ) (rea:Nat->Int) (v:Nat):Option (List Nat):=if rea v=-1 then none else (C (rea v).toNat).map (·.lits)
theorem Cg {i:Nat} {h:i < tr.length} (e:Why C tr rea i h):∃ a c r,rea (tr[i] / 2)=(a:Nat)/\C a=some c/\c.kind ≠ 2/\c.lits=tr[i] :: r/\je C rea (tr[i] / 2)=some c.lits/\∀ y ∈ r,∃ j,∃ o:j < tr.length,j < i/\tr[j]=op y:=by
 obtain ⟨a,c,r,d,b,m,l,k⟩:=e;refine ⟨a,c,r,d,b,m,l,?_,k⟩;unfold je;rw [if_neg (by omega),d,Int.toNat_natCast,b];rfl
theorem oP.trail {L:List Rd.Cl} (h:oP C tr ch rea) (j:jh n tr ch lev) (hL:∀ a c,C a=some c->c.kind ≠ 2->There L c.lits):Trail L tr (je C rea) where
 nodup:=j.nodup
 why:=fun i e c b=>by
  by_cases d:i ∈ ch
  ·unfold je at b;rw [if_pos (h.Kv i e d)] at b;cases b
  ·obtain ⟨a,q,r,s,p,o,m,l,k⟩:=Cg (h.why i e d);rw [l] at b;cases b
   exact ⟨r,m,hL a q p o,k⟩
def dW (rs:Nat->Option (List Nat)) (fol:Nat->Bool) (v:Nat):Bool:=match rs v with
 | none=>false
 | some c=>c.tail.all fun y=>fol (y / 2)
structure Rn (tr:List Nat) (rs:Nat->Option (List Nat)) (seen:Nat->Bool) (j:Nat) (fol:Nat->Bool):Prop where
 why:∀ k (h:k < tr.length),k < j->fol (tr[k] / 2)=true->seen (tr[k] / 2)=true\/By tr rs (fun v=>∃ m,∃ hm:m < tr.length,m < k/\tr[m] / 2=v/\fol v=true) k
theorem Rn.start (tr:List Nat) (rs:Nat->Option (List Nat)) (seen fol:Nat->Bool):Rn tr rs seen 0 fol:=⟨fun k h a=>by omega⟩
theorem BP {L:List Rd.Cl} (T:Trail L tr rs) {fol:Nat->Bool} {k:Nat} (h:k < tr.length) (a:dW rs fol (tr[k] / 2)=true):By tr rs (fun v=>∃ m,∃ q:m < tr.length,m < k/\tr[m] / 2=v/\fol v=true) k:=by
 unfold dW at a
 cases e:rs (tr[k] / 2) with
 | none=>rw [e] at a;cases a
 | some c=>
  rw [e] at a;obtain ⟨r,i,s,o⟩:=T.why k h c e;refine ⟨h,c,r,e,i,fun y d=>?_⟩;rw [i] at a;simp only [List.tail_cons,List.all_eq_true] at a;obtain ⟨j,l,b,p⟩:=o y d;exact ⟨j,l,b,by rw [p,gG],a y d⟩
theorem Rn.step {L:List Rd.Cl} (T:Trail L tr rs) (p:jh n tr ch lev) {seen fol:Nat->Bool} {j:Nat} (h:Rn tr rs seen j fol) (r:j < tr.length):Rn tr rs seen (j + 1) (eF fol (tr[j] / 2) (seen (tr[j] / 2) || dW rs fol (tr[j] / 2))) where
 why:=fun k b d c=>by
  have o:∀ m (a:m < tr.length),m < j->tr[m] / 2 ≠ tr[j] / 2:=fun m a q e=>by
   have:=p.pQ a r e;omega
  have l:∀ k (b:k < tr.length),k <= j->By tr rs (fun v=>∃ m,∃ a:m < tr.length,m < k/\tr[m] / 2=v/\fol v=true) k->By tr rs (fun v=>∃ m,∃ a:m < tr.length,m < k/\tr[m] / 2=v/\eF fol (tr[j] / 2) (seen (tr[j] / 2) || dW rs fol (tr[j] / 2)) v=true) k:=fun k b d hb=>hb.mono fun v ⟨m,a,hmk,e,hv⟩=>⟨m,a,hmk,e,by rw [df _ _ (by rw [<- e];exact o m a (by omega))];exact hv⟩
  rcases Nat.lt_succ_iff_lt_or_eq.1 d with i | i
  ·rw [df _ _ (o k b i)] at c;exact (h.why k b i c).imp id (l k b (by omega))
  ·subst i;rw [dE,Bool.or_eq_true] at c;exact c.imp id fun c=>l k b lr (BP T b c)
theorem Ms {L:List Rd.Cl} (T:Trail L tr (je C rea)) (q:jh n tr ch lev) (z:oP C tr ch rea) (hd:0 < ch.length) {i:Nat} {s:Lk} (h:xH tr ch lev (je C rea) ch[ch.length - 1] c0 (i + 1) s) (hi:i < tr.length) (O:s.seen (tr[i] / 2)=true) (P:s.opn=1) {fol:Nat->Bool} (x:Rn tr (je C rea) s.seen ch[ch.length - 1] fol):
  JD tr (je C rea) lev ch[ch.length - 1] c0 (fun v=>s.seen v=true) (fun v=>∃ m,∃ l:m < tr.length,m < ch[ch.length - 1]/\tr[m] / 2=v/\fol v=true) i (s.jd.filter fun y=>!dW (je C rea) fol (y / 2)):=by
 obtain ⟨j,M,o⟩:=h.more;have M:j=i:=by omega
 subst M;have Q:=h.cnt;rw [nk,vT hi,if_pos ⟨o,O⟩,P] at Q;exact {
  hiu:=hi
  first:=h.first
  behind:=fun k b G d=>h.done k b G d
  low:=fun k b B E d=>by
   have:=Cb (show lT tr ch[ch.length - 1] j s.seen=0 by omega) E B;rw [vT b,d] at this;cases this
  Xy:=o
  follows:=fun k b D ⟨m,l,YP,H,t⟩=>by
   have:m=k:=q.pQ l b H;subst this;exact (x.why m l YP t).imp id fun hb=>hb.mono fun v ⟨m',hm',p,e,hv⟩=>⟨m',hm',by omega,e,hv⟩
  U8:=fun k b D d=>by
   have F:op tr[k] ∈ s.jd:=by
    rw [h.lk.jd,ko,gG];refine ⟨List.getElem_mem b,d,fun e=>?_⟩;have:=(uC q hd b).1 e;omega
   by_cases t:dW (je C rea) fol (tr[k] / 2)=true
   ·right
    exact (BP T b t).mono fun v ⟨m,l,p,e,hv⟩=>⟨m,l,by omega,e,hv⟩
   ·left
    rw [List.mem_filter,gG];exact ⟨F,by simpa using t⟩
  zero:=fun k b I=>by
   have A:k ∉ ch:=fun l=>by
    have u:=q.lev k b;rw [I] at u;unfold cnt at u;have J:=List.filter_eq_nil_iff.1 (List.length_eq_zero_iff.1 u.symm) k l;simp at J
   obtain ⟨a,c,r,u,J,h3,Y,W,U⟩:=Cg (z.why k b A);refine ⟨b,c.lits,r,W,Y,fun y N=>?_⟩;obtain ⟨m,l,p,H⟩:=U y N;have S:=q.lev m l;rw [H,gG] at S;have R:=cnt_mono ch (Nat.le_of_lt p);rw [<- q.lev k b,I] at R;omega
  Gj:=fun v ⟨m,l,YP,e,_⟩=>⟨m,l,YP,e⟩ }
theorem xH.tail {last i:Nat} {s:Lk} (h:xH tr ch lev rs last c0 i s) (b:jh n tr ch lev) {y:Nat} (a:y ∈ s.jd):op y ∈ tr/\0 < lev (y / 2)/\lev (y / 2) < ch.length:=by
 obtain ⟨k,e,m⟩:=(h.lk.jd y).1 a;obtain ⟨d,j,c,l⟩:=h.lk.rY _ e;refine ⟨k,d,?_⟩;have:=b.lev j c;rw [l] at this;have:=Dy ch j;omega
end
structure Rec where
 kind:Nat
 busy:Int
 lits:List Nat
def enc1 (c:Rec):List Int:=(c.lits.length:Int) :: (c.kind:Int) :: c.busy :: c.lits.map fun (x:Nat)=>(x:Int)
def enc:List Rec->List Int
 | []=>[]
 | c :: r=>enc1 c ++ enc r
theorem fV (c:Rec):(enc1 c).length=3 + c.lits.length:=by simp [enc1];omega
theorem gy (a b:List Rec):enc (a ++ b)=enc a ++ enc b:=by
 induction a with
 | nil=>rfl
 | cons c r ih=>simp [enc,ih]
def dn (cs:List Rec) (k:Nat):Nat:=(enc (cs.take k)).length
theorem jP (cs:List Rec):dn cs 0=0:=by simp [dn,enc]
theorem gD {cs:List Rec} {k:Nat} (h:k < cs.length):dn cs (k + 1)=dn cs k + (3 + (cs[k]).lits.length):=by
 unfold dn;rw [List.take_succ_eq_append_getElem h,gy,List.length_append];simp [enc,fV]
theorem iD {cs:List Rec} {k:Nat} (h:cs.length <= k):dn cs k=(enc cs).length:=by unfold dn;rw [List.take_of_length_le h]
theorem zG {cs:List Rec} {j k:Nat} (h:j < k) (b:k <= cs.length):dn cs j + 3 <= dn cs k:=by
 induction k with
 | zero=>omega
 | succ k ih=>
  rw [gD (by omega)]
  rcases Nat.lt_succ_iff_lt_or_eq.1 h with a | a
  ·have:=ih a (by omega);omega
  ·subst a;omega
theorem Rc {cs:List Rec} {j k:Nat} (h:j <= k) (a:k <= cs.length):dn cs j <= dn cs k:=by
 rcases Nat.eq_or_lt_of_le h with e | e
 ·subst e;exact lr
 ·have:=zG e a;omega
theorem DI {cs:List Rec} {j k:Nat} (b:j <= cs.length) (a:k <= cs.length) (e:dn cs j=dn cs k):j=k:=by
 rcases Nat.lt_trichotomy j k with h | h | h
 ·have:=zG h a;omega
 ·exact h
 ·have:=zG h b;omega
theorem eD {cs:List Rec} {k:Nat} (h:k < cs.length):dn cs k + (3 + (cs[k]).lits.length) <= (enc cs).length:=by
 rw [<- gD h,<- iD lr];exact Rc h lr
theorem p8 {cs:List Rec} {k:Nat} (h:k < cs.length) (j:Nat) (b:j < 3 + (cs[k]).lits.length):(enc cs)[dn cs k + j]? = (enc1 cs[k])[j]? := by
 have e:cs=cs.take k ++ cs[k] :: cs.drop (k + 1):=by rw [<- List.drop_eq_getElem_cons h,List.take_append_drop]
 have a:enc cs=enc (cs.take k) ++ (enc1 cs[k] ++ enc (cs.drop (k + 1))):=by
  conv=>lhs;rw [e]
  rw [gy];rfl
 rw [a];unfold dn;rw [List.getElem?_append_right (by omega),List.getElem?_append_left (by rw [fV];omega)]
 congr 1;omega
theorem Gt {cs:List Rec} {k:Nat} (h:k < cs.length):(enc cs)[dn cs k]? = some ((cs[k]).lits.length:Int):=by
 have:=p8 h 0 (by omega);simpa [enc1] using this
theorem Qo {cs:List Rec} {k:Nat} (h:k < cs.length):(enc cs)[dn cs k + 1]? = some ((cs[k]).kind:Int):=by
 have:=p8 h 1 (by omega);simpa [enc1] using this
theorem y9 {cs:List Rec} {k:Nat} (h:k < cs.length):(enc cs)[dn cs k + 2]? = some (cs[k]).busy:=by
 have:=p8 h 2 (by omega);simpa [enc1] using this
theorem xB {cs:List Rec} {k:Nat} (h:k < cs.length) {i:Nat} (hi:i < (cs[k]).lits.length):(enc cs)[dn cs k + 3 + i]? = some (((cs[k]).lits[i]:Nat):Int):=by
 have:=p8 h (3 + i) (by omega);rw [show dn cs k + 3 + i=dn cs k + (3 + i) by omega,this];unfold enc1;rw [show 3 + i=i + 1 + 1 + 1 by omega];simp only [List.getElem?_cons_succ];rw [List.getElem?_map,List.getElem?_eq_getElem hi];rfl
theorem oD {cs:List Rec} {k:Nat} (h:k < cs.length) {c:Rec} (a:c.lits.length=(cs[k]).lits.length) (j:Nat):dn (cs.set k c) j=dn cs j:=by
 have b:∀ (l:List Rec) (k j:Nat) (h:k < l.length),c.lits.length=(l[k]).lits.length->(enc ((l.set k c).take j)).length=(enc (l.take j)).length:=by
  intro l
  induction l with
  | nil=>intro k j h;simp at h
  | cons d r ih=>
   intro k j h a
   cases j with
   | zero=>simp
   | succ j=>
    cases k with
    | zero=>
     simp only [List.set_cons_zero,List.take_succ_cons,enc,List.length_append,fV];simp only [List.getElem_cons_zero] at a;omega
    | succ k=>
     simp only [List.set_cons_succ,List.take_succ_cons,enc,List.length_append,fV];simp only [List.getElem_cons_succ] at a;rw [ih k j (by simpa using h) a]
 exact b cs k j h a
theorem Gu {cs:List Rec} {k:Nat} (h:k < cs.length) {c:Rec} (a:c.lits.length=(cs[k]).lits.length):(enc (cs.set k c)).length=(enc cs).length:=by
 have:=oD h a cs.length
 rwa [iD (by simp),iD lr] at this
theorem Dw {cs:List Rec} {k:Nat} (h:k < cs.length) {c:Rec} (p:c.lits.length=(cs[k]).lits.length) (j:Nat):(enc (cs.set k c))[j]? = if dn cs k <= j/\j < dn cs k + (3 + (cs[k]).lits.length) then (enc1 c)[j - dn cs k]? else (enc cs)[j]? := by
 have e:cs=cs.take k ++ cs[k] :: cs.drop (k + 1):=by rw [<- List.drop_eq_getElem_cons h,List.take_append_drop]
 have l:enc cs=enc (cs.take k) ++ (enc1 cs[k] ++ enc (cs.drop (k + 1))):=by
  conv=>lhs;rw [e]
  rw [gy];rfl
 have i:enc (cs.set k c)=enc (cs.take k) ++ (enc1 c ++ enc (cs.drop (k + 1))):=by
  rw [List.set_eq_take_append_cons_drop,if_pos h,gy];rfl
 have o:=fV c;have m:=fV cs[k];have a:dn cs k=(enc (cs.take k)).length:=rfl;rw [i,l];split
 ·rename_i b;rw [List.getElem?_append_right (by omega),List.getElem?_append_left (by omega),a]
 ·rename_i b
  rcases Nat.lt_or_ge j (dn cs k) with d | d
  ·rw [List.getElem?_append_left (by omega),List.getElem?_append_left (by omega)]
  ·rw [List.getElem?_append_right (by omega),List.getElem?_append_right (by omega),List.getElem?_append_right (by omega),List.getElem?_append_right (by omega)]
   congr 1;omega
theorem qU {cs:List Rec} {k:Nat} (h:k < cs.length) (b:Int):enc (cs.set k ⟨(cs[k]).kind,b,(cs[k]).lits⟩)=(enc cs).set (dn cs k + 2) b:=by
 refine List.ext_getElem? fun j=>?_
 rw [Dw (c:=⟨(cs[k]).kind,b,(cs[k]).lits⟩) h rfl,List.getElem?_set];have d:=eD h;by_cases e:dn cs k + 2=j
 ·subst e;rw [if_pos ⟨by omega,by omega⟩,if_pos rfl,if_pos (by omega)];simp [enc1]
 ·rw [if_neg e];split
  ·rename_i a;obtain ⟨i,rfl⟩:∃ i,j=dn cs k + i:=⟨j - dn cs k,by omega⟩;rw [p8 h i (by omega),Nat.add_sub_cancel_left]
   match i with
   | 0=>rfl
   | 1=>rfl
   | 2=>exact absurd rfl e
   | i + 3=>simp [enc1]
  ·rfl
theorem Gv {cs:List Rec} {k:Nat} (h:k < cs.length) (b:Nat):enc (cs.set k ⟨b,(cs[k]).busy,(cs[k]).lits⟩)=(enc cs).set (dn cs k + 1) (b:Int):=by
 refine List.ext_getElem? fun j=>?_
 rw [Dw (c:=⟨b,(cs[k]).busy,(cs[k]).lits⟩) h rfl,List.getElem?_set];have d:=eD h;by_cases e:dn cs k + 1=j
 ·subst e;rw [if_pos ⟨by omega,by omega⟩,if_pos rfl,if_pos (by omega)];simp [enc1]
 ·rw [if_neg e];split
  ·rename_i a;obtain ⟨i,rfl⟩:∃ i,j=dn cs k + i:=⟨j - dn cs k,by omega⟩;rw [p8 h i (by omega),Nat.add_sub_cancel_left]
   match i with
   | 0=>rfl
   | 1=>exact absurd rfl e
   | i + 2=>simp [enc1]
  ·rfl
theorem y7 {cs:List Rec} {k:Nat} (h:k < cs.length) {i:Nat} (hi:i < (cs[k]).lits.length) (x:Nat):enc (cs.set k ⟨(cs[k]).kind,(cs[k]).busy,(cs[k]).lits.set i x⟩)=(enc cs).set (dn cs k + 3 + i) (x:Int):=by
 refine List.ext_getElem? fun j=>?_
 rw [Dw h (by simp),List.getElem?_set];have b:=eD h;by_cases e:dn cs k + 3 + i=j
 ·subst e;rw [if_pos ⟨by omega,by omega⟩,if_pos rfl,if_pos (by omega)];rw [show dn cs k + 3 + i - dn cs k=i + 1 + 1 + 1 by omega];simp only [enc1,List.getElem?_cons_succ,List.map_set];rw [List.getElem?_set_self (by simpa using hi)]
 ·rw [if_neg e];split
  ·rename_i a;obtain ⟨m,rfl⟩:∃ m,j=dn cs k + m:=⟨j - dn cs k,by omega⟩;rw [p8 h m (by omega),Nat.add_sub_cancel_left]
   match m with
   | 0=>simp [enc1]
   | 1=>rfl
   | 2=>rfl
   | m + 3=>
    simp only [enc1,List.getElem?_cons_succ,List.map_set];rw [List.getElem?_set_ne (by omega)]
  ·rfl
def mapOf (cs:List Rec):iQ:=fun a=>((List.range cs.length).find? fun k=>dn cs k == a).bind fun k=>(cs[k]?).map fun c=>⟨c.kind,c.lits⟩
theorem dP {cs:List Rec} {k:Nat} (h:k < cs.length):mapOf cs (dn cs k)=some ⟨(cs[k]).kind,(cs[k]).lits⟩:=by
 unfold mapOf;have:((List.range cs.length).find? fun j=>dn cs j == dn cs k)=some k:=by
  cases e:(List.range cs.length).find? fun j=>dn cs j == dn cs k with
  | none=>
   have:=List.find?_eq_none.1 e k (List.mem_range.2 h);simp at this
  | some j=>
   have a:=List.find?_some e;have b:=List.mem_range.1 (List.mem_of_find?_eq_some e);simp only [beq_iff_eq] at a;rw [DI (Nat.le_of_lt b) (Nat.le_of_lt h) a]
 rw [this,Option.bind_some,List.getElem?_eq_getElem h];rfl
theorem dO {cs:List Rec} {a:Nat} {c:xw} (h:mapOf cs a=some c):∃ k,∃ i:k < cs.length,a=dn cs k/\c=⟨(cs[k]).kind,(cs[k]).lits⟩:=by
 unfold mapOf at h
 cases e:(List.range cs.length).find? fun j=>dn cs j == a with
 | none=>rw [e] at h;cases h
 | some j=>
  rw [e,Option.bind_some] at h;have d:=List.find?_some e;have b:=List.mem_range.1 (List.mem_of_find?_eq_some e);simp only [beq_iff_eq] at d;rw [List.getElem?_eq_getElem b] at h;exact ⟨j,b,d.symm,(Option.some.inj h).symm⟩
theorem Bq {cs:List Rec} {k:Nat} (h:k < cs.length) {c:Rec} (l:c.lits.length=(cs[k]).lits.length):mapOf (cs.set k c)=kC (mapOf cs) (dn cs k) ⟨c.kind,c.lits⟩:=by
 funext a
 have b:(cs.set k c).length=cs.length:=by simp
 by_cases e:a=dn cs k
 ·subst e;rw [dU];have:=dP (cs:=cs.set k c) (k:=k) (by rw [b];exact h);rw [oD h l] at this;rw [this];simp
 ·rw [dJ _ _ e]
  cases p:mapOf cs a with
  | none=>
   cases r:mapOf (cs.set k c) a with
   | none=>rfl
   | some d=>
    obtain ⟨j,o,i,_⟩:=dO r;rw [oD h l] at i;rw [i,dP (by rw [<- b];exact o)] at p;cases p
  | some d=>
   obtain ⟨j,o,i,hd⟩:=dO p;have m:k ≠ j:=fun q=>e (by rw [i,q])
   have:=dP (cs:=cs.set k c) (k:=j) (by rw [b];exact o);rw [oD h l,<- i] at this;rw [this,hd];simp [List.getElem_set_ne m]
theorem nP {cs:List Rec} (c:Rec) {k:Nat} (h:k <= cs.length):dn (cs ++ [c]) k=dn cs k:=by
 unfold dn;rw [List.take_append_of_le_length h]
theorem pU (cs:List Rec) (c:Rec):mapOf (cs ++ [c])=kC (mapOf cs) (enc cs).length ⟨c.kind,c.lits⟩:=by
 funext a
 have o:(cs ++ [c]).length=cs.length + 1:=by simp
 have b:dn (cs ++ [c]) cs.length=(enc cs).length:=by rw [nP c lr,iD lr]
 by_cases e:a=(enc cs).length
 ·subst e;rw [dU];have:=dP (cs:=cs ++ [c]) (k:=cs.length) (by omega);rw [b] at this;rw [this];simp
 ·rw [dJ _ _ e]
  cases m:mapOf cs a with
  | none=>
   cases p:mapOf (cs ++ [c]) a with
   | none=>rfl
   | some d=>
    obtain ⟨j,i,h,_⟩:=dO p
    rcases Nat.lt_or_ge j cs.length with l | l
    ·rw [nP c (Nat.le_of_lt l)] at h;rw [h,dP l] at m;cases m
    ·have:j=cs.length:=by omega
     subst this;rw [b] at h;exact absurd h e
  | some d=>
   obtain ⟨j,i,h,hd⟩:=dO m;have:=dP (cs:=cs ++ [c]) (k:=j) (by omega);rw [nP c (Nat.le_of_lt i),<- h] at this;rw [this,hd,List.getElem_append_left i]
theorem kZ (cs:List Rec):mapOf cs (enc cs).length=none:=by
 cases e:mapOf cs (enc cs).length with
 | none=>rfl
 | some d=>
  obtain ⟨j,a,b,_⟩:=dO e;have:=eD a;omega
section
open Rd
section
theorem mU {a b:Cl}:iH a b=true↔∀ x,x ∈ a↔x ∈ b:=by
 unfold iH;simp only [Bool.and_eq_true,List.all_eq_true,List.contains_iff_mem];exact ⟨fun h x=>⟨h.1 x,h.2 x⟩,fun h=>⟨fun x=>(h x).1,fun x=>(h x).2⟩⟩
theorem nY {a a':Cl} (h:∀ x,x ∈ a↔x ∈ a') (b:Cl):iH a b=iH a' b:=by
 rw [Bool.eq_iff_iff,mU,mU];exact ⟨fun g x=>(h x).symm.trans (g x),fun g x=>(h x).trans (g x)⟩
theorem EB:∀ {L:List Cl} {c:Cl},0 < L.countP (fun d=>iH d c)->∃ a,rem L c=some a/\∀ e,a.countP (fun d=>iH d e) + (if iH c e then 1 else 0)=L.countP (fun d=>iH d e)
 | [],c,h=>by simp at h
 | d :: r,c,h=>by
  unfold rem;by_cases e:iH d c=true
  ·rw [if_pos e];refine ⟨r,rfl,fun f=>?_⟩;rw [List.countP_cons,nY (mU.1 e) f]
  ·rw [if_neg e];rw [List.countP_cons,if_neg e] at h;obtain ⟨a,i,b⟩:=EB (L:=r) (c:=c) h;refine ⟨d :: a,by rw [i];rfl,fun f=>?_⟩;rw [List.countP_cons,List.countP_cons,<- b f];omega
def nS (cs:List Rec):List (List Nat):=(cs.filter fun c=>decide (c.kind ≠ 2)).map (·.lits)
def vP (L:List Cl) (lv:List (List Nat)):Prop:=∀ e:Cl,lv.countP (fun y=>iH (y.map wr) e) <= L.countP (fun d=>iH d e)
theorem vP.there {L:List Cl} {lv:List (List Nat)} (h:vP L lv) {c:List Nat} (b:c ∈ lv):There L c:=by
 have i:=h (c.map wr);have e:0 < lv.countP (fun y=>iH (y.map wr) (c.map wr)):=List.countP_pos_iff.2 ⟨c,b,mU.2 fun x=>Iff.rfl⟩;obtain ⟨d,hd,a⟩:=List.countP_pos_iff.1 (Nat.lt_of_lt_of_le e i);refine ⟨d,hd,fun x=>?_⟩;rw [mU.1 a x,List.mem_map]
theorem vP.add {L:List Cl} {lv:List (List Nat)} (h:vP L lv) (c:List Nat) {d:Cl} (hd:∀ x,x ∈ d↔∃ y ∈ c,wr y=x):vP (L ++ [d]) (lv ++ [c]):=fun e=>by
 rw [List.countP_append,List.countP_append];have:=h e;have a:iH (c.map wr) e=iH d e:=nY (fun x=>by rw [hd x,List.mem_map]) e;simp only [List.countP_cons,List.countP_nil,a];omega
theorem vP.more {L:List Cl} {lv:List (List Nat)} (h:vP L lv) (d:Cl):vP (L ++ [d]) lv:=fun e=>by
 rw [List.countP_append];have:=h e;omega
theorem vP.congr {L:List Cl} {lv a:List (List Nat)} (h:vP L lv) (b:∀ e:Cl,a.countP (fun y=>iH (y.map wr) e) <= lv.countP (fun y=>iH (y.map wr) e)):vP L a:=fun e=>Nat.le_trans (b e) (h e)
theorem vP.del {L:List Cl} {lv a:List (List Nat)} (h:vP L lv) {c:List Nat} (k:∀ e:Cl,a.countP (fun y=>iH (y.map wr) e) + (if iH (c.map wr) e then 1 else 0)=lv.countP (fun y=>iH (y.map wr) e)) {d:Cl} (hd:∀ x,x ∈ d↔∃ y ∈ c,wr y=x):∃ b,rem L d=some b/\vP b a:=by
 have j:∀ e,iH (c.map wr) e=iH d e:=fun e=>nY (fun x=>by rw [hd x,List.mem_map]) e
 obtain ⟨b,o,m⟩:=EB (L:=L) (c:=d) (by
  have l:=h d;have i:=k d;rw [j d,if_pos (mU.2 fun x=>Iff.rfl)] at i;omega)
 refine ⟨b,o,fun e=>?_⟩;have l:=h e;have i:=k e;have p:=m e;rw [j e] at i;omega
theorem pV (cs:List Rec) (c:Rec) (a:c.kind ≠ 2):nS (cs ++ [c])=nS cs ++ [c.lits]:=by
 unfold nS;rw [List.filter_append];simp [a]
theorem Mi {cs:List Rec} {k:Nat} (h:k < cs.length):nS cs=nS (cs.take k) ++ (nS [cs[k]] ++ nS (cs.drop (k + 1))):=by
 have e:cs=cs.take k ++ ([cs[k]] ++ cs.drop (k + 1)):=by
  rw [List.singleton_append,<- List.drop_eq_getElem_cons h,List.take_append_drop]
 conv=>lhs;rw [e]
 unfold nS;rw [List.filter_append,List.map_append,List.filter_append,List.map_append]
theorem TQ {cs:List Rec} {k:Nat} (h:k < cs.length) (c:Rec):nS (cs.set k c)=nS (cs.take k) ++ (nS [c] ++ nS (cs.drop (k + 1))):=by
 have e:cs.set k c=cs.take k ++ ([c] ++ cs.drop (k + 1)):=by
  rw [List.set_eq_take_append_cons_drop,if_pos h];rfl
 rw [e];unfold nS;rw [List.filter_append,List.map_append,List.filter_append,List.map_append]
theorem vP.delete {L:List Cl} {cs:List Rec} (h:vP L (nS cs)) {k:Nat} (a:k < cs.length) (j:(cs[k]).kind ≠ 2) (b:Int) {d:Cl} (hd:∀ x,x ∈ d↔∃ y ∈ (cs[k]).lits,wr y=x):∃ i,rem L d=some i/\vP i (nS (cs.set k ⟨2,b,(cs[k]).lits⟩)):=
 h.del (c:=(cs[k]).lits) (fun e=>by
  rw [TQ a,Mi a];simp only [List.countP_append];have m:nS [(⟨2,b,(cs[k]).lits⟩:Rec)]=[]:=by simp [nS]
  have l:nS [cs[k]]=[(cs[k]).lits]:=by simp [nS,j]
  rw [m,l];simp only [List.countP_cons,List.countP_nil];omega) hd
theorem TM {cs:List Rec} {a:Nat} {c:xw} (h:mapOf cs a=some c) (d:c.kind ≠ 2):c.lits ∈ nS cs:=by
 obtain ⟨k,b,_,rfl⟩:=dO h;exact List.mem_map.2 ⟨cs[k],List.mem_filter.2 ⟨List.getElem_mem b,decide_eq_true d⟩,rfl⟩
theorem vP.hL {L:List Cl} {cs:List Rec} (h:vP L (nS cs)):∀ a c,mapOf cs a=some c->c.kind ≠ 2->There L c.lits:=fun a c d b=>h.there (TM d b)
def D5 (L:List Cl) (c:Cl):Prop:=jk L (ve c 0)
def jF:List Cl->List (Bool × Cl)->List Cl->Prop
 | L,[],L'=>L'=L
 | L,(true,c) :: r,L'=>∃ M,rem L c=some M/\jF M r L'
 | L,(false,c) :: r,L'=>c ≠ []/\D5 L c/\jF (L ++ [c]) r L'
theorem jF.add:∀ {ls:List (Bool × Cl)} {L L':List Cl},jF L ls L'->∀ {c:Cl},c ≠ []->D5 L' c->jF L (ls ++ [(false,c)]) (L' ++ [c])
 | [],L,L',h,c,h1,h2=>by
  have h:L'=L:=h;subst h;exact ⟨h1,h2,rfl⟩
 |(true,d) :: r,L,L',h,c,h1,h2=>by
  obtain ⟨M,g1,g2⟩:=h;exact ⟨M,g1,jF.add g2 h1 h2⟩
 |(false,d) :: r,L,L',h,c,h1,h2=>by
  obtain ⟨g1,g2,a⟩:=h;exact ⟨g1,g2,jF.add a h1 h2⟩
theorem jF.del:∀ {ls:List (Bool × Cl)} {L L':List Cl},jF L ls L'->∀ {c:Cl} {M:List Cl},rem L' c=some M->jF L (ls ++ [(true,c)]) M
 | [],L,L',h,c,M,h1=>by
  have h:L'=L:=h;subst h;exact ⟨M,h1,rfl⟩
 |(true,d) :: r,L,L',h,c,M,h1=>by
  obtain ⟨b,g1,g2⟩:=h;exact ⟨b,g1,jF.del g2 h1⟩
 |(false,d) :: r,L,L',h,c,M,h1=>by
  obtain ⟨g1,g2,a⟩:=h;exact ⟨g1,g2,jF.del a h1⟩
theorem Aa {L:List Cl} {c:List Nat} {k:List Nat} (h:jk L (k.map wr)) (d:∀ y ∈ k,op y ∈ c):D5 L (c.map wr):=by
 intro M i e;refine h M i fun l b=>?_
 obtain ⟨y,a,rfl⟩:=List.mem_map.1 b;refine e _ ?_;unfold ve;refine List.mem_map.2 ⟨wr (op y),List.mem_filter.2 ⟨List.mem_map.2 ⟨op y,d y a,rfl⟩,?_⟩,by rw [D6];omega⟩;have:=UX (op y);simpa using this
theorem Bb {L:List Cl} (h:jk L []):D5 L []:=h
variable {n:Nat} {tr ch:List Nat} {lev:Nat->Nat} {C:iQ} {rea:Nat->Int}
def vO (C:iQ) (tr:List Nat) (lev:Nat->Nat):Prop:=∀ a c,C a=some c->c.kind ≠ 2->c.lits.length < 2->∃ x,c.lits=[x]/\x ∈ tr/\lev (x / 2)=0
theorem UE (z:jh n tr ch lev) (k:wQ n C) (s:qA C tr lev tr.length) (l:vO C tr lev) (t:∀ v,v < n->∃ x ∈ tr,x / 2=v) {a:Nat} {c:xw} (d:C a=some c) (i:c.kind ≠ 2):∃ x ∈ c.lits,x ∈ tr:=by
 match e:c.lits with
 | []=>obtain ⟨x,b,_⟩:=l a c d i (by rw [e];simp);rw [e] at b;cases b
 | [y]=>
  obtain ⟨x,b,h,_⟩:=l a c d i (by rw [e];simp);rw [e] at b;cases b
  exact ⟨y,by simp,h⟩
 | p :: q :: r=>
  have A:p < 2 * n:=k.lt a c d p (by rw [e];simp);obtain ⟨x,b,o⟩:=t (p / 2) (by omega)
  rcases qH o with rfl | rfl
  ·exact ⟨x,by simp,b⟩
  ·obtain ⟨j,m,u⟩:=List.mem_iff_getElem.1 b;exact ⟨q,by simp,((s a c p q r d i e).1 j m m u).1⟩
theorem yA {L:List Cl} (d:jh n tr [] lev) (b:oP C tr [] rea) (hL:∀ a c,C a=some c->c.kind ≠ 2->There L c.lits) {c0:List Nat} (k:There L c0) (h:∀ y ∈ c0,op y ∈ tr):jk L []:=
 Qm (b.trail d hL) (fun i e=>by
  obtain ⟨a,c,r,_,_,_,_,j,_⟩:=Cg (b.why i e (by simp));exact ⟨_,j⟩) k h
end
end
section
open Go Go.RowKit Go.Deep Rd
section
variable {Z:Nat->Prop} {sb K:Nat} {w w':World} {f V:Nat->Value} {X X':Nat->List Value}
def ints (l:List Int):List Value:=l.map fun z=>Value.int .i64 z
theorem fU (l:List Int):(ints l).length=l.length:=by simp [ints]
theorem lN (l:List Int) (i:Nat):(ints l)[i]? = (l[i]?).map fun z=>Value.int .i64 z:=by simp [ints]
theorem ints_set (l:List Int) (i:Nat) (z:Int):(ints l).set i (.int .i64 z)=ints (l.set i z):=by simp [ints,List.map_set]
theorem wI (a b:List Int):ints (a ++ b)=ints a ++ ints b:=by simp [ints]
theorem jr (a b:List Nat):dw (a ++ b)=dw a ++ dw b:=by simp [dw]
theorem mX (l:List Nat) (k:Nat):(dw l).take k=dw (l.take k):=by simp [dw]
theorem nG (l:List Nat) (i x:Nat):(dw l).set i (.int .i64 (x:Nat))=dw (l.set i x):=by simp [dw,List.map_set]
structure lU (n:Nat) (X:Nat->List Value) (tr ch:List Nat) (lev:Nat->Nat) (rea:Nat->Int):Prop where
 l1:X 1=dw tr
 l2:X 2=dw ch
 n3:(X 3).length=2 * n
 t3:∀ x,x < 2 * n->(X 3)[x]? = some (.int .i64 (tv tr x))
 n4:(X 4).length=n
 t4:∀ v,v < n->(X 4)[v]? = some (.int .i64 (lev v:Nat))
 n5:(X 5).length=n
 t5:∀ v,v < n->(X 5)[v]? = some (.int .i64 (rea v))
variable {n:Nat} {tr ch:List Nat} {lev:Nat->Nat} {rea:Nat->Int}
theorem lU.congr (h:lU n X tr ch lev rea) (a:∀ k,1 <= k->k <= 5->X' k=X k):lU n X' tr ch lev rea:=by
 have i:=a 1 (by omega) (by omega);have e:=a 2 (by omega) (by omega);have d:=a 3 (by omega) (by omega);have c:=a 4 (by omega) (by omega);have b:=a 5 (by omega) (by omega);exact ⟨by rw [i];exact h.l1,by rw [e];exact h.l2,by rw [d];exact h.n3,by rw [d];exact h.t3,by rw [c];exact h.n4,by rw [c];exact h.t4,by rw [b];exact h.n5,by rw [b];exact h.t5⟩
theorem sO {l:List Value} {m:Nat} (d:l.length=m) {g:Nat->Value} (b:∀ v,v < m->l[v]? = some (g v)) {k:Nat} (h:k < m) (u:Value):∀ v,v < m->(l.set k u)[v]? = some (eF g k u v):=fun v a=>by
 by_cases e:v=k
 ·subst e;rw [List.getElem?_set_self (by omega),dE]
 ·rw [List.getElem?_set_ne (fun c=>e c.symm),df _ _ e];exact b v a
theorem iG (X:Nat->List Value) (x:Nat) (r:Int) (d:Nat) {k:Nat} (e:k ≠ 1) (c:k ≠ 3) (b:k ≠ 4) (a:k ≠ 5):fq X x r d k=X k:=by
 unfold fq;rw [cu _ _ a,cu _ _ b,cu _ _ c,cu _ _ e]
theorem lU.assign {ch':List Nat} (h:lU n X tr ch lev rea) {x:Nat} (l:x < 2 * n) (B:tv tr x=0) (r:Int) {d:Nat} (c:X' 2=dw ch') (b:∀ k,k ≠ 2->X' k=X k):lU n (fq X' x r d) (tr ++ [x]) ch' (eF lev (x / 2) d) (eF rea (x / 2) r):=by
 have E:fq X' x r d 1=X 1 ++ [.int .i64 x]:=by unfold fq;rw [cu _ _ (by decide),cu _ _ (by decide),cu _ _ (by decide),cz,b 1 (by decide)]
 have D:fq X' x r d 2=X' 2:=iG _ _ _ _ (by decide) (by decide) (by decide) (by decide);have q:fq X' x r d 3=((X 3).set x (.int .i64 1)).set (op x) (.int .i64 (-1)):=by unfold fq;rw [cu _ _ (by decide),cu _ _ (by decide),cz,b 3 (by decide)]
 have p:fq X' x r d 4=(X 4).set (x / 2) (.int .i64 d):=by unfold fq;rw [cu _ _ (by decide),cz,b 4 (by decide)]
 have o:fq X' x r d 5=(X 5).set (x / 2) (.int .i64 r):=by unfold fq;rw [cz,b 5 (by decide)]
 have m:x / 2 < n:=by omega
 have z:op x < 2 * n:=wm l;refine ⟨?_,by rw [D,c],?_,?_,?_,?_,?_,?_⟩
 ·rw [E,h.l1,jr];rfl
 ·rw [q];simp [h.n3]
 ·rw [q];have u:=sO h.n3 h.t3 l (.int .i64 1);have t:=sO (by rw [List.length_set];exact h.n3) u z (.int .i64 (-1));intro y A;rw [t y A,KP B y]
  congr 1
  by_cases j:y=x
  ·subst j;rw [df _ _ (fun e=>J2 y e.symm),dE,if_pos rfl]
  ·rw [if_neg j];by_cases i:y=op x
   ·subst i;rw [dE,if_pos rfl]
   ·rw [df _ _ i,df _ _ j,if_neg i]
 ·rw [p];simp [h.n4]
 ·rw [p];have s:=sO h.n4 (g:=fun v=>.int .i64 (lev v:Nat)) h.t4 m (.int .i64 d);intro v a;rw [s v a];by_cases e:v=x / 2
  ·subst e;rw [dE,dE]
  ·rw [df _ _ e,df _ _ e]
 ·rw [o];simp [h.n5]
 ·rw [o];have s:=sO h.n5 (g:=fun v=>.int .i64 (rea v)) h.t5 m (.int .i64 r);intro v a;rw [s v a];by_cases e:v=x / 2
  ·subst e;rw [dE,dE]
  ·rw [df _ _ e,df _ _ e]
theorem Sq {T:List Value} {m:Nat} (c:T.length=m):∀ (l:List Nat) (g:Nat->Value),(∀ x ∈ l,x < m/\op x < m)->(∀ v,v < m->T[v]? = some (g v))->∀ v,v < m->(oW T l)[v]? = some (if v ∈ l\/op v ∈ l then .int .i64 0 else g v):=by
 intro l
 induction l generalizing T with
 | nil=>intro g _ b v a;simp only [oW,List.not_mem_nil,or_self,if_false];exact b v a
 | cons x r ih=>
  intro g i b v a;obtain ⟨q,o⟩:=i x (List.mem_cons_self ..);have k:=sO c b q (.int .i64 0);have j:=sO (by rw [List.length_set];exact c) k o (.int .i64 0);have:=ih (T:=(T.set x (.int .i64 0)).set (op x) (.int .i64 0)) (by simp [c]) _ (fun y p=>i y (List.mem_cons_of_mem _ p)) j v a;rw [oW,this]
  congr 1
  by_cases h:v=x
  ·subst h;rw [df _ _ (fun e=>J2 v e.symm),dE];simp
  ·by_cases d:v=op x
   ·subst d;rw [dE,ko];simp
   ·rw [df _ _ d,df _ _ h];have s:op v ≠ x:=fun e=>d (by rw [<- e,ko])
    simp [h,s]
theorem lU.back (h:lU n X tr ch lev rea) (k:jh n tr ch lev) {s d:Nat} (G:s <= tr.length) (F:X' 1=dw (tr.take s)) (E:X' 2=dw (ch.take d)) (q:X' 3=oW (X 3) (tr.drop s)) (p:X' 4=X 4) (o:X' 5=X 5):lU n X' (tr.take s) (ch.take d) lev rea where
 l1:=F
 l2:=E
 n3:=by rw [q,xQ];exact h.n3
 t3:=fun x A=>by
  rw [q,Sq h.n3 (tr.drop s) _ (fun y c=>⟨k.lt y (List.mem_of_mem_drop c),wm (k.lt y (List.mem_of_mem_drop c))⟩) h.t3 x A]
  congr 1
  have mem:∀ y,y ∈ tr↔y ∈ tr.take s\/y ∈ tr.drop s:=fun y=>by
   conv=>lhs;rw [<- List.take_append_drop s tr]
   exact List.mem_append
  have a:∀ y z,y ∈ tr.take s->z ∈ tr.drop s->y / 2 ≠ z / 2:=fun y z c v e=>by
   obtain ⟨i,D,t⟩:=List.mem_iff_getElem.1 c;obtain ⟨j,B,r⟩:=List.mem_iff_getElem.1 v;rw [List.length_take] at D;rw [List.length_drop] at B;rw [List.getElem_take] at t;rw [List.getElem_drop] at r;have:=k.pQ (i:=i) (j:=s + j) (by omega) (by omega) (by rw [t,r];exact e);omega
  split
  ·rename_i hd;have u:tv (tr.take s) x=0:=tT.2 ⟨fun b=>by
    rcases hd with hd | hd
    ·exact a x x b hd rfl
    ·exact a x (op x) b hd (by rw [gG]),fun b=>by
    rcases hd with hd | hd
    ·exact a (op x) x b hd (by rw [gG])
    ·exact a (op x) (op x) b hd rfl⟩
   rw [u]
  ·rename_i hd;have m:x ∉ tr.drop s:=fun e=>hd (.inl e)
   have l:op x ∉ tr.drop s:=fun e=>hd (.inr e)
   unfold tv;simp only [mem,m,l,or_false]
 n4:=by rw [p];exact h.n4
 t4:=by rw [p];exact h.t4
 n5:=by rw [o];exact h.n5
 t5:=by rw [o];exact h.t5
structure mH (n:Nat) (V:Nat->Value) (X:Nat->List Value) (wl:Nat->List Nat):Prop where
 n9:(X 9).length=2 * n
 hd:∀ x,x < 2 * n->(X 9)[x]? = some (V (16 + x))
 row:∀ x,x < 2 * n->X (16 + x)=dw (wl x)
variable {V':Nat->Value} {wl:Nat->List Nat}
theorem mH.congr (h:mH n V X wl) (b:X' 9=X 9) (d:∀ x,x < 2 * n->V' (16 + x)=V (16 + x)) (c:∀ x,x < 2 * n->X' (16 + x)=X (16 + x)):mH n V' X' wl:=
 ⟨by rw [b];exact h.n9,fun x a=>by rw [b,d x a];exact h.hd x a,fun x a=>by rw [c x a];exact h.row x a⟩
theorem uF (x:Nat):kM (16 + x)=3:=by
 unfold kM;rw [if_neg (by omega),if_neg (by omega),if_neg (by omega),if_neg (by omega)]
theorem mH.push (h:mH n V X wl) {x:Nat} (d:x < 2 * n) (a:Nat) (v':Value):mH n (upd V (16 + x) v') (upd (upd X (16 + x) (X (16 + x) ++ [.int .i64 (a:Nat)])) 9 ((X 9).set x v')) (fun y=>if y=x then wl y ++ [a] else wl y) where
 n9:=by rw [cz,List.length_set];exact h.n9
 hd:=fun y b=>by
  rw [cz];by_cases e:y=x
  ·subst e;rw [List.getElem?_set_self (by rw [h.n9];exact b),cz]
  ·rw [List.getElem?_set_ne (fun c=>e c.symm),cu _ _ (by omega)];exact h.hd y b
 row:=fun y b=>by
  rw [cu _ _ (by omega)];by_cases e:y=x
  ·subst e;rw [cz,h.row y b,if_pos rfl,jr];rfl
  ·rw [cu _ _ (by omega),if_neg e];exact h.row y b
theorem mH.put (h:mH n V X wl) {x:Nat} (d:x < 2 * n) {l:List Nat} {R:List Value} (b:R=dw l) (v':Value):mH n (upd V (16 + x) v') (upd (upd X (16 + x) R) 9 ((X 9).set x v')) (fun y=>if y=x then l else wl y) where
 n9:=by rw [cz,List.length_set];exact h.n9
 hd:=fun y a=>by
  rw [cz];by_cases e:y=x
  ·subst e;rw [List.getElem?_set_self (by rw [h.n9];exact a),cz]
  ·rw [List.getElem?_set_ne (fun c=>e c.symm),cu _ _ (by omega)];exact h.hd y a
 row:=fun y a=>by
  rw [cu _ _ (by omega)];by_cases e:y=x
  ·subst e;rw [cz,if_pos rfl];exact b
  ·rw [cu _ _ (by omega),if_neg e];exact h.row y a
theorem dQ.JW (h:dQ Z sb w K f V X) {x:Nat} (l:16 + x < K) {d r u:Nat} (b:V 9=.slice (some ⟨d,0,none⟩) r u) {ob:Obj} {v':Value} {w6:World} {m:Nat} {news:List Value} (y:news.length=m) (A:dz (w.alloc ob) 0 3 1 (V (16 + x)) (X (16 + x)).length (X (16 + x)) m news v' w6):
  dQ Z sb (w6.setCell ⟨d,x,none⟩ v') K f (upd V (16 + x) v') (upd (upd X (16 + x) (X (16 + x) ++ news)) 9 ((X 9).set x v'))/\dB Z w (w6.setCell ⟨d,x,none⟩ v'):=by
 have j:=h.later ((Below.refl _ w).alloc lr ob);have p:=j.row.lt;have c:9 < K:=by have:=h.hK;omega
 rw [<- uF x] at A;have v:=j.row.of_block (A.grew.block sb p (fun e=>j.far l sb e.symm rfl));have B:=j.eH.push l y A;have D:upd V (16 + x) v' 9=.slice (some ⟨d,0,none⟩) r u:=by rw [cu _ _ (by omega)];exact b
 have s:=B.set c D x v';rw [cu _ _ (show (9:Nat) ≠ 16 + x by omega)] at s;have o:d ≠ sb:=h.far c d (by rw [b];rfl);refine ⟨⟨v.of_block (Below.heap_setCell _ _ _ _ (fun e=>o e.symm)),s,fun k z=>by rw [cu _ _ (by omega)];exact h.hdr k z,h.jf,fun i t g a=>?_,fun g a=>h.az g ?_,h.hK⟩,?_⟩
 ·by_cases e:i=16 + x
  ·subst e;rw [cz] at a
   rcases A.at' with q | q
   ·rw [q] at a;exact h.al _ t g a
   ·rw [q] at a;have:=Option.some.inj a;exact h.az g (by simp at this;omega)
  ·rw [cu _ _ e] at a;exact h.al i t g a
 ·have:=A.grew.size;simp [World.setCell] at this a;omega
 ·exact (((dB.refl w).alloc ob).grown A.grew (fun g a=>h.al _ l g a)).setCell (h.al 9 c d (by rw [b];rfl)) _
theorem dQ.XG (h:dQ Z sb w K f V X) {x:Nat} (u:16 + x < K) {j o s:Nat} (c:V 9=.slice (some ⟨j,0,none⟩) o s) {a:Option Addr} {t cap m:Nat} (p:V (16 + x)=.slice a t cap) (v:m <= (X (16 + x)).length):
  dQ Z sb (w.setCell ⟨j,x,none⟩ (.slice a m cap)) K f (upd V (16 + x) (.slice a m cap)) (upd (upd X (16 + x) ((X (16 + x)).take m)) 9 ((X 9).set x (.slice a m cap))):=by
 have d:9 < K:=by have:=h.hK;omega
 have z:=h.eH.cut u p v;have A:upd V (16 + x) (.slice a m cap) 9=.slice (some ⟨j,0,none⟩) o s:=by rw [cu _ _ (by omega)];exact c
 have q:=z.set d A x (.slice a m cap);rw [cu _ _ (show (9:Nat) ≠ 16 + x by omega)] at q;have l:j ≠ sb:=h.far d j (by rw [c];rfl);refine ⟨h.row.of_block (Below.heap_setCell _ _ _ _ (fun e=>l e.symm)),q,fun k y=>by rw [cu _ _ (by omega)];exact h.hdr k y,h.jf,fun i r g b=>?_,fun g b=>h.az g (by simpa [World.setCell] using b),h.hK⟩;by_cases e:i=16 + x
 ·subst e;rw [cz] at b;exact h.al _ r g (by rw [p];cases a <;> exact b)
 ·rw [cu _ _ e] at b;exact h.al i r g b
theorem Cx {cs:List Rec} (b:X 0=ints (enc cs)) {j:Nat} {z:Int} (a:(enc cs)[j]? = some z):(X 0)[j]? = some (.int .i64 z):=by rw [b,lN,a];rfl
theorem dQ.FZ (h:dQ Z sb w K f V X) {x:Nat} (r:16 + x < K) {c s v:Nat} (b:V 9=.slice (some ⟨c,0,none⟩) s v) (q:x < (X 9).length) {ob:Obj} {v':Value} {w6:World} {m:Nat} {news:List Value} (A:dz (w.alloc ob) 0 3 1 (V (16 + x)) (X (16 + x)).length (X (16 + x)) m news v' w6):
  (∀ j,j < 22->w6.cell? ⟨sb,j,none⟩=some (f j))/\w6.cell? ⟨c,x,none⟩=(X 9)[x]? /\ w6.frozen? ⟨c,x,none⟩=false:=by
 have i:=h.later ((Below.refl _ w).alloc lr ob);have d:9 < K:=by have:=h.hK;omega
 have t:=i.row.of_block (A.grew.block sb i.row.lt (fun e=>i.far r sb e.symm rfl));have p:=((i.eH.own 9 d).lt c (by rw [b];rfl)).2;have o:some c ≠ (V (16 + x)).ownBlock:=fun e=>by
  rcases h.eH.apart 9 (16 + x) d r (by omega) with l | l
  ·rw [b] at l;cases l
  ·exact l (by rw [<- e,b];rfl)
 have k:=A.grew.block c p o;obtain ⟨z,y⟩:=i.eH.cell d b q;exact ⟨fun j u=>t.cell u,(World.cell?_of_block (a:=⟨c,x,none⟩) k).trans z,(World.frozen?_of_block (a:=⟨c,x,none⟩) k).trans y⟩
theorem mH.at' (h:mH n V X wl) (m:dQ Z sb w K f V X) (u:K=16 + 2 * n) {x:Nat} (i:x < 2 * n):∃ a d b wc,V 9=.slice (some ⟨a,0,none⟩) (2 * n) d/\V (16 + x)=.slice b (wl x).length wc/\w.cell? ⟨sb,5,none⟩=some (.slice (some ⟨a,0,none⟩) (2 * n) d)/\w.cell? ⟨a,x,none⟩=some (.slice b (wl x).length wc)/\w.frozen? ⟨a,x,none⟩=false/\a < w.heap.size/\a ≠ sb/\Z a/\w.ownsRow 0 3 1 (.slice b (wl x).length wc) (wl x).length (dw (wl x)):=by
 obtain ⟨a,d,t,e,q,r,s,z,zz,l,p⟩:=m.elem (k:=9) (j:=x) (by omega) h.n9 i;rw [show cellOf 9=5 from rfl] at q;rw [h.hd x i] at s;obtain rfl:=Option.some.inj s;have c:=m.eH.own (16 + x) (by omega);rw [uF,h.row x i,cZ] at c;obtain ⟨b,wc,o⟩:=dH c;rw [o] at c r;exact ⟨a,d,b,wc,e,o,q,r,z,l,p,zz,c⟩
theorem fH {cs:List Rec} (a:dQ Z sb w K f V X) (y:X 0=ints (enc cs)) {k:Nat} (b:k < cs.length):∃ g c,V 0=.slice (some ⟨g,0,none⟩) (enc cs).length c/\w.cell? ⟨sb,2,none⟩=some (.slice (some ⟨g,0,none⟩) (enc cs).length c)/\(enc cs).length <= c/\g < w.heap.size/\g ≠ sb/\Z g/\w.cell? ⟨g,dn cs k,none⟩=some (.int .i64 ((cs[k]).lits.length:Nat))/\w.cell? ⟨g,dn cs k + 1,none⟩=some (.int .i64 ((cs[k]).kind:Nat))/\w.cell? ⟨g,dn cs k + 2,none⟩=some (.int .i64 (cs[k]).busy)/\(∀ i (u:i < (cs[k]).lits.length),w.cell? ⟨g,dn cs k + 3 + i,none⟩=some (.int .i64 ((cs[k]).lits[i]:Nat)))/\∀ j,w.frozen? ⟨g,j,none⟩=false:=by
 have v:=eD b;have p:(X 0).length=(enc cs).length:=by rw [y,fU]
 have G:=a.hK;obtain ⟨g,c,t,e,q,r,s,z,zz,l,D⟩:=a.elem (k:=0) (j:=dn cs k) (by omega) p (by omega);rw [show cellOf 0=2 from rfl] at q;obtain ⟨H,B,F,A,_,_,x⟩:=a.eH.block (k:=0) (by omega) (by omega);rw [e] at A;obtain ⟨_,_,rfl⟩:=Value.slice.inj A;have d:∀ j z,(enc cs)[j]? = some z->w.cell? ⟨g,j,none⟩=some (.int .i64 z):=fun j z m=>by
  have E:j < (X 0).length:=by
   rw [p]
   rcases Nat.lt_or_ge j (enc cs).length with h | h
   ·exact h
   ·rw [List.getElem?_eq_none h] at m;cases m
  rw [(a.eH.cell (k:=0) (by omega) e E).1];exact Cx y m
 have o:=a.eH.own 0 (by omega);rw [e] at o;rw [p] at o x;exact ⟨g,c,e,q,x,l,D,zz,d _ _ (Gt b),d _ _ (Qo b),d _ _ (y9 b),fun i u=>d _ _ (xB b u),fun j=>o.frozenAt j⟩
end
end
section
structure DN (n:Nat) (items:List Nat) (pl:Nat->Int):Prop where
 lt:∀ v ∈ items,v < n
 at':∀ v,v < n->pl v=-1\/∃ i:Nat,pl v=i/\items[i]? = some v
 pl:∀ i (h:i < items.length),pl items[i]=(i:Nat)
structure RN (n:Nat) (item hole:Nat) (items:List Nat) (pl:Nat->Int):Prop where
 lt:∀ v ∈ items,v < n
 hit:item < n
 hho:hole < items.length
 at':∀ v,v < n->v ≠ item->pl v=-1\/∃ i:Nat,pl v=i/\i ≠ hole/\items[i]? = some v
 pl:∀ i (h:i < items.length),i ≠ hole->items[i] ≠ item/\pl items[i]=(i:Nat)
variable {n:Nat} {items:List Nat} {pl:Nat->Int} {item hole:Nat}
theorem DN.open (h:DN n items pl) {i:Nat} (hi:i < items.length):RN n items[i] i items pl where
 lt:=h.lt
 hit:=h.lt _ (List.getElem_mem hi)
 hho:=hi
 at':=fun v k a=>by
  rcases h.at' v k with b | ⟨j,b,c⟩
  ·exact .inl b
  ·refine .inr ⟨j,b,fun e=>?_,c⟩;subst e;rw [List.getElem?_eq_getElem hi] at c;exact a (Option.some.inj c).symm
 pl:=fun j d a=>by
  refine ⟨fun e=>a ?_,h.pl j d⟩;have b:=h.pl j d;rw [e,h.pl i hi] at b;omega
theorem RN.move (h:RN n item hole items pl) {k:Nat} (c:k < items.length) (b:k ≠ hole):RN n item k (items.set hole items[k]) (eF pl items[k] (hole:Nat)) where
 lt:=fun v l=>by
  rcases List.mem_or_eq_of_mem_set l with a | a
  ·exact h.lt v a
  ·subst a;exact h.lt _ (List.getElem_mem c)
 hit:=h.hit
 hho:=by simpa using c
 at':=fun v l i=>by
  by_cases e:v=items[k]
  ·subst e;rw [dE];exact .inr ⟨hole,rfl,fun e=>b e.symm,by rw [List.getElem?_set_self h.hho]⟩
  ·rw [df _ _ e]
   rcases h.at' v l i with a | ⟨j,a,d,o⟩
   ·exact .inl a
   ·refine .inr ⟨j,a,fun p=>?_,?_⟩
    ·subst p;rw [List.getElem?_eq_getElem c] at o;exact e (Option.some.inj o).symm
    ·rw [List.getElem?_set_ne (fun e=>d e.symm)];exact o
 pl:=fun j r q=>by
  have m:j < items.length:=by simpa using r
  by_cases e:j=hole
  ·subst e;rw [List.getElem_set_self];exact ⟨(h.pl k c b).1,dE ..⟩
  ·rw [List.getElem_set_ne (fun p=>e p.symm)];obtain ⟨a,d⟩:=h.pl j m e;refine ⟨a,?_⟩;have:items[j] ≠ items[k]:=fun t=>by
    have s:=(h.pl k c b).2;rw [<- t,d] at s;omega
   rw [df _ _ this];exact d
theorem RN.close (h:RN n item hole items pl):DN n (items.set hole item) (eF pl item (hole:Nat)) where
 lt:=fun v b=>by
  rcases List.mem_or_eq_of_mem_set b with a | a
  ·exact h.lt v a
  ·subst a;exact h.hit
 at':=fun v b=>by
  by_cases e:v=item
  ·subst e;exact .inr ⟨hole,dE ..,by rw [List.getElem?_set_self h.hho]⟩
  ·rw [df _ _ e]
   rcases h.at' v b e with a | ⟨j,a,d,k⟩
   ·exact .inl a
   ·exact .inr ⟨j,a,by rw [List.getElem?_set_ne (fun e=>d e.symm)];exact k⟩
 pl:=fun j i=>by
  have c:j < items.length:=by simpa using i
  by_cases e:j=hole
  ·subst e;rw [List.getElem_set_self];exact dE ..
  ·rw [List.getElem_set_ne (fun l=>e l.symm)];obtain ⟨a,d⟩:=h.pl j c e;rw [df _ _ a];exact d
theorem DN.push (h:DN n items pl) {v:Nat} (k:v < n) (m:pl v=-1):RN n v items.length (items ++ [v]) pl where
 lt:=fun x c=>by
  rcases List.mem_append.1 c with a | a
  ·exact h.lt x a
  ·simp at a;subst a;exact k
 hit:=k
 hho:=by simp
 at':=fun x c d=>by
  rcases h.at' x c with a | ⟨j,a,l⟩
  ·exact .inl a
  ·have i:=(List.getElem?_eq_some_iff.1 l).1;exact .inr ⟨j,a,by omega,by rw [List.getElem?_append_left i];exact l⟩
 pl:=fun j i d=>by
  have b:j < items.length:=by simp at i;omega
  rw [List.getElem_append_left b];refine ⟨fun e=>?_,h.pl j b⟩;have:=h.pl j b;rw [e,m] at this;omega
theorem DN.pop (h:DN n items pl) {l:Nat} (B:items.length=l + 2) {first:Nat} (y:items[0]? = some first) {last:Nat} (o:items[l + 1]? = some last):RN n last 0 (items.take (l + 1)) (eF pl first (-1)):=by
 obtain ⟨z,u⟩:=List.getElem?_eq_some_iff.1 y;obtain ⟨s,q⟩:=List.getElem?_eq_some_iff.1 o;have d:∀ j (i:j < items.length) k (r:k < items.length),items[j]=items[k]->j=k:=fun j i k r e=>by
  have a:=h.pl j i;rw [e,h.pl k r] at a;omega
 exact {
  lt:=fun v m=>h.lt v (List.mem_of_mem_take m)
  hit:=by rw [<- q];exact h.lt _ (List.getElem_mem s)
  hho:=by rw [List.length_take];omega
  at':=fun v m b=>by
   by_cases e:v=first
   ·subst e;exact .inl (dE ..)
   ·rw [df _ _ e]
    rcases h.at' v m with g1 | ⟨j,g1,g2⟩
    ·exact .inl g1
    ·obtain ⟨i,t⟩:=List.getElem?_eq_some_iff.1 g2;have x:j ≠ 0:=fun p=>by subst p;exact e (by rw [<- t,u])
     have A:j ≠ l + 1:=fun p=>by subst p;exact b (by rw [<- t,q])
     exact .inr ⟨j,g1,x,by rw [List.getElem?_take,if_pos (by omega)];exact g2⟩
  pl:=fun j i b=>by
   rw [List.length_take] at i;have c:j < items.length:=by omega
   rw [List.getElem_take];refine ⟨fun e=>?_,?_⟩
   ·rw [<- q] at e;have:=d j c (l + 1) s e;omega
   ·have:items[j] ≠ first:=fun e=>b (d j c 0 z (by rw [e,u]))
    rw [df _ _ this];exact h.pl j c }
theorem DN.VH (h:DN n items pl) (d:items.length=1) {first:Nat} (c:items[0]? = some first):DN n (items.take 0) (eF pl first (-1)) where
 lt:=fun v a=>by simp at a
 at':=fun v a=>by
  by_cases e:v=first
  ·subst e;exact .inl (dE ..)
  ·rw [df _ _ e]
   rcases h.at' v a with g1 | ⟨j,g1,g2⟩
   ·exact .inl g1
   ·obtain ⟨k,l⟩:=List.getElem?_eq_some_iff.1 g2;have:j=0:=by omega
    subst this;rw [c] at g2;exact absurd (Option.some.inj g2).symm e
 pl:=fun i b=>by simp at b
theorem iZ:∀ (n:Nat) (l:List Nat),l.Nodup->(∀ v ∈ l,v < n)->l.length <= n
 | 0,l,_,h=>by
  cases l with
  | nil=>simp
  | cons a r=>have:=h a (List.mem_cons_self ..);omega
 | n + 1,l,hn,h=>by
  by_cases e:n ∈ l
  ·have d:(l.erase n).length <= n:=iZ n (l.erase n) (hn.erase n) fun v b=>by
    have c:=(hn.mem_erase_iff).1 b;have:=h v c.2;have:=c.1;omega
   rw [List.length_erase_of_mem e] at d;omega
  ·have d:l.length <= n:=iZ n l hn fun v b=>by
    have:=h v b;have:v ≠ n:=fun i=>e (i ▸ b)
    omega
   omega
theorem DN.len (h:DN n items pl):items.length <= n:=by
 have nd:items.Nodup:=by
  refine List.pairwise_iff_getElem.2 fun i j d b c e=>?_
  have a:=h.pl i d;rw [e,h.pl j b] at a;omega
 exact iZ n items nd h.lt
theorem DN.empty (h:DN n items pl) (d:items.length=0) {v:Nat} (c:v < n):pl v=-1:=by
 rcases h.at' v c with b | ⟨j,b,a⟩
 ·exact b
 ·rw [List.getElem?_eq_none (by omega)] at a;cases a
end
section
open Go Go.RowKit Go.Deep Rd
section
def EM (k:Nat):TypeId:=if k=1 then 2 else 3
theorem JZ (k:Nat):EM k ≠ 193/\EM k ≠ 224:=by unfold EM;split <;> decide
abbrev ahead (ob:Nat):Value:=.func (.func 126) #[.pointer (some ⟨ob,0,none⟩)] #[]
abbrev placed (ob:Nat):Value:=.func (.func 127) #[.pointer (some ⟨ob,0,none⟩)] #[]
def OU (hb:Nat) (V:Nat->Value) (wt:Int) (j:Nat):Value:=if j=0 then .pointer (some ⟨hb,0,none⟩) else if j=1 then V 0 else if j=2 then V 1 else .int .i64 wt
def Uw (ob:Nat) (V:Nat->Value) (j:Nat):Value:=if j=0 then V 2 else if j=1 then ahead ob else placed ob
structure Ord (Z:Nat->Prop) (ob hb:Nat) (w:World) (wt:Int) (V:Nat->Value) (X:Nat->List Value):Prop where
 jM:w.rowIs ob 193 4 (OU hb V wt)
 hrow:w.rowIs hb 224 3 (Uw ob V)
 eH:rD 0 w 3 EM V X
 zo:Z ob
 zh:Z hb
 al:∀ k,k < 3->∀ g,(V k).ownBlock=some g->Z g
 az:∀ g,w.heap.size <= g->Z g
variable {Z:Nat->Prop} {ob hb:Nat} {w w':World} {wt:Int} {V:Nat->Value} {X:Nat->List Value}
theorem Ord.far (h:Ord Z ob hb w wt V X) {k:Nat} (l:k < 3):∀ g,(V k).ownBlock=some g->g ≠ ob/\g ≠ hb:=fun g b=>by
 obtain ⟨c,j,_⟩:=h.jM;obtain ⟨q,d,_⟩:=h.hrow
 rcases (h.eH.own k l).2 with ⟨i,_⟩ | ⟨m,p,o,i,_,a,_⟩
 ·rw [i] at b;cases b
 ·rw [i] at b;obtain rfl:m=g:=Option.some.inj b;refine ⟨fun e=>?_,fun e=>?_⟩
  ·rw [e,j] at a;exact (JZ k).1 (Obj.cells.inj (Option.some.inj a)).2.1.symm
  ·rw [e,d] at a;exact (JZ k).2 (Obj.cells.inj (Option.some.inj a)).2.1.symm
theorem Ord.two (h:Ord Z ob hb w wt V X):ob ≠ hb:=fun e=>by
 obtain ⟨c,b,_⟩:=h.jM;obtain ⟨d,a,_⟩:=h.hrow;rw [e,a] at b;have:=(Obj.cells.inj (Option.some.inj b)).2.1;exact absurd this (by decide)
theorem Ord.later (h:Ord Z ob hb w wt V X) (a:Below w.heap.size w w'):Ord Z ob hb w' wt V X:=
 ⟨h.jM.of_block (a.block _ h.jM.lt),h.hrow.of_block (a.block _ h.hrow.lt),h.eH.later a,h.zo,h.zh,h.al,fun g b=>h.az g (Nat.le_trans a.size b)⟩
theorem Ord.kept (h:Ord Z ob hb w wt V X) {Z':Nat->Prop} (b:dB Z' w w') (i:¬ Z' ob) (e:¬ Z' hb) (d:∀ k,k < 3->∀ g,(V k).ownBlock=some g->¬ Z' g):Ord Z ob hb w' wt V X:=
 ⟨h.jM.of_block (b.block _ h.jM.lt i),h.hrow.of_block (b.block _ h.hrow.lt e),h.eH.kept fun k g c a=>b.block g ((h.eH.own k c).lt g a).2 (d k c g a),h.zo,h.zh,h.al,fun g a=>h.az g (Nat.le_trans b.size a)⟩
theorem Ord.set (h:Ord Z ob hb w wt V X) {k:Nat} (b:k < 3) {g n cap:Nat} (a:V k=.slice (some ⟨g,0,none⟩) n cap) (j:Nat) (u:Value):Ord Z ob hb (w.setCell ⟨g,j,none⟩ u) wt V (upd X k ((X k).set j u))/\dB Z w (w.setCell ⟨g,j,none⟩ u):=by
 obtain ⟨d,c⟩:=h.far b g (by rw [a];rfl);exact ⟨⟨h.jM.of_block (Below.heap_setCell _ _ _ _ (fun e=>d e.symm)),h.hrow.of_block (Below.heap_setCell _ _ _ _ (fun e=>c e.symm)),h.eH.set b a j u,h.zo,h.zh,h.al,fun g i=>h.az g (by simpa [World.setCell] using i)⟩,(dB.refl w).setCell (h.al k b g (by rw [a];rfl)) _⟩
theorem Ord.weight (h:Ord Z ob hb w wt V X) (t:Int):Ord Z ob hb (w.setCell ⟨ob,3,none⟩ (.int .i64 t)) t V X/\dB Z w (w.setCell ⟨ob,3,none⟩ (.int .i64 t)):=
 ⟨⟨(h.jM.set 3 (.int .i64 t)).congr fun i c=>by
   unfold OU;by_cases e:i=3
   ·subst e;simp
   ·have:i=0\/i=1\/i=2:=by omega
    rcases this with rfl | rfl | rfl <;> simp,
  h.hrow.of_block (Below.heap_setCell _ _ _ _ (fun e=>h.two e.symm)),
  h.eH.kept fun k g b a=>Below.heap_setCell _ _ _ _ (by simpa using (h.far b g a).1),h.zo,h.zh,h.al,fun g a=>h.az g (by simpa [World.setCell] using a)⟩,(dB.refl w).setCell h.zo _⟩
theorem Ord.header {w6:World} {V':Nat->Value} {X':Nat->List Value} {v':Value} (h:Ord Z ob hb w wt V X) (j:w6.rowIs ob 193 4 (OU hb V wt)) (o:w6.rowIs hb 224 3 (Uw ob V)) (p:rD 0 w6 3 EM V' X') (d:V'=upd V 2 v') (a:∀ k,k < 3->∀ g,(V' k).ownBlock=some g->g ≠ hb) (e:w.heap.size <= w6.heap.size) (c:∀ k,k < 3->∀ g,(V' k).ownBlock=some g->Z g):
  Ord Z ob hb (w6.setCell ⟨hb,0,none⟩ v') wt V' X':=
 ⟨(j.of_block (Below.heap_setCell _ _ _ _ (by simpa using h.two))).congr fun i m=>by
   rw [d];unfold OU;have:i=0\/i=1\/i=2\/i=3:=by omega
   rcases this with rfl | rfl | rfl | rfl <;> simp [upd],
  (o.set 0 v').congr fun i m=>by
   rw [d];unfold Uw;have:i=0\/i=1\/i=2:=by omega
   rcases this with rfl | rfl | rfl <;> simp [upd],
  p.kept fun k g l b=>Below.heap_setCell _ _ _ _ (by simpa using a k l g b),h.zo,h.zh,c,fun g b=>h.az g (by simp [World.setCell] at b;omega)⟩
theorem Ord.push (h:Ord Z ob hb w wt V X) {obj:Obj} {v':Value} {w6:World} {m:Nat} {news:List Value} (p:news.length=m) (A:dz (w.alloc obj) 0 3 1 (V 2) (X 2).length (X 2) m news v' w6):
  Ord Z ob hb (w6.setCell ⟨hb,0,none⟩ v') wt (upd V 2 v') (upd X 2 (X 2 ++ news))/\dB Z w (w6.setCell ⟨hb,0,none⟩ v')/\w6.cell? ⟨hb,0,none⟩=some (V 2)/\w6.frozen? ⟨hb,0,none⟩=false:=by
 have b:=h.later ((Below.refl _ w).alloc lr obj);rw [show (3:TypeId)=EM 2 from rfl] at A;have l:=b.far (k:=2) (by omega);have o:=b.jM.of_block (A.grew.block ob b.jM.lt (fun e=>(l ob e.symm).1 rfl));have j:=b.hrow.of_block (A.grew.block hb b.hrow.lt (fun e=>(l hb e.symm).2 rfl));refine ⟨h.header o j (b.eH.push (by omega) p A) rfl (fun k d g a=>?_) (by have:=A.grew.size;simp at this;omega) (fun k d g a=>?_),(((dB.refl w).alloc obj).grown A.grew (fun g a=>h.al 2 (by omega) g a)).setCell h.zh _,j.cell (i:=0) (by omega),j.frozen 0⟩
 ·by_cases e:k=2
  ·subst e;rw [cz] at a
   rcases A.at' with c | c
   ·rw [c] at a;exact (b.far d g a).2
   ·rw [c] at a;have:=Option.some.inj a;have:=b.hrow.lt;omega
  ·rw [cu _ _ e] at a;exact (b.far d g a).2
 ·by_cases e:k=2
  ·subst e;rw [cz] at a
   rcases A.at' with c | c
   ·rw [c] at a;exact h.al 2 d g a
   ·rw [c] at a;have:=Option.some.inj a;exact h.az g (by simp at this;omega)
  ·rw [cu _ _ e] at a;exact h.al k d g a
theorem Ord.cut (h:Ord Z ob hb w wt V X) {a:Option Addr} {n cap m:Nat} (j:V 2=.slice a n cap) (k:m <= (X 2).length):Ord Z ob hb (w.setCell ⟨hb,0,none⟩ (.slice a m cap)) wt (upd V 2 (.slice a m cap)) (upd X 2 ((X 2).take m))/\dB Z w (w.setCell ⟨hb,0,none⟩ (.slice a m cap)):=by
 have c:∀ i g,(upd V 2 (.slice a m cap) i).ownBlock=some g->(V i).ownBlock=some g:=fun i g b=>by
  by_cases e:i=2
  ·subst e;rw [cz] at b;rw [j];cases a <;> exact b
  ·rw [cu _ _ e] at b;exact b
 exact ⟨h.header h.jM h.hrow (h.eH.cut (by omega) j k) rfl (fun i d g b=>(h.far d g (c i g b)).2) lr (fun i d g b=>h.al i d g (c i g b)),(dB.refl w).setCell h.zh _⟩
theorem Ord.elem (h:Ord Z ob hb w wt V X) {k j n:Nat} (b:k < 3) (m:(X k).length=n) (c:j < n):∃ g a t,V k=.slice (some ⟨g,0,none⟩) n a/\w.cell? ⟨g,j,none⟩=some t/\(X k)[j]? = some t/\w.frozen? ⟨g,j,none⟩=false/\Z g/\g < w.heap.size/\g ≠ ob/\g ≠ hb:=by
 subst m;obtain ⟨g,a,p,e,o,r,s⟩:=h.eH.block b (by omega);obtain ⟨d,q⟩:=h.eH.cell b e c;rw [List.getElem?_eq_getElem c] at d;obtain ⟨l,i⟩:=h.far b g (by rw [e];rfl);exact ⟨g,a,(X k)[j],e,d,List.getElem?_eq_getElem c,q,h.al k b g (by rw [e];rfl),((h.eH.own k b).lt g (by rw [e];rfl)).2,l,i⟩
theorem Ord.cells (h:Ord Z ob hb w wt V X):w.cell? ⟨ob,0,none⟩=some (.pointer (some ⟨hb,0,none⟩))/\w.cell? ⟨ob,1,none⟩=some (V 0)/\w.cell? ⟨ob,2,none⟩=some (V 1)/\w.cell? ⟨ob,3,none⟩=some (.int .i64 wt)/\w.cell? ⟨hb,0,none⟩=some (V 2)/\w.cell? ⟨hb,1,none⟩=some (ahead ob)/\w.cell? ⟨hb,2,none⟩=some (placed ob)/\w.frozen? ⟨hb,0,none⟩=false/\w.frozen? ⟨ob,3,none⟩=false:=
 ⟨h.jM.cell (i:=0) (by omega),h.jM.cell (i:=1) (by omega),h.jM.cell (i:=2) (by omega),h.jM.cell (i:=3) (by omega),h.hrow.cell (i:=0) (by omega),h.hrow.cell (i:=1) (by omega),h.hrow.cell (i:=2) (by omega),h.hrow.frozen 0,h.jM.frozen 3⟩
structure oF (n g:Nat) (X:Nat->List Value) (items:List Nat) (pl bz:Nat->Int):Prop where
 n0:(X 0).length=n
 t0:∀ v,v < n->v ≠ g->(X 0)[v]? = some (.int .i64 (pl v))
 i0:∀ v,v < n->∃ t:Int,(X 0)[v]? = some (.int .i64 t)
 n1:(X 1).length=n
 t1:∀ v,v < n->(X 1)[v]? = some (.int .i64 (bz v))
 t2:X 2=dw items
variable {n g:Nat} {items:List Nat} {pl bz:Nat->Int}
theorem oF.put (h:oF n g X items pl bz) {v p:Nat} (d:v < n) (i:v ≠ g):oF n g (upd (upd X 2 ((X 2).set p (.int .i64 (v:Nat)))) 0 ((X 0).set v (.int .i64 (p:Nat)))) (items.set p v) (eF pl v (p:Nat)) bz where
 n0:=by rw [cz,List.length_set];exact h.n0
 t0:=fun x a b=>by
  rw [cz];by_cases e:x=v
  ·subst e;rw [List.getElem?_set_self (by rw [h.n0];exact a),dE]
  ·rw [List.getElem?_set_ne (fun c=>e c.symm),df _ _ e];exact h.t0 x a b
 i0:=fun x a=>by
  rw [cz];by_cases e:x=v
  ·subst e;exact ⟨_,List.getElem?_set_self (by rw [h.n0];exact a)⟩
  ·rw [List.getElem?_set_ne (fun c=>e c.symm)];exact h.i0 x a
 n1:=by rw [cu _ _ (by decide),cu _ _ (by decide)];exact h.n1
 t1:=by rw [cu _ _ (by decide),cu _ _ (by decide)];exact h.t1
 t2:=by rw [cu _ _ (by decide),cz,h.t2,nG]
end
section
variable {Z:Nat->Prop} {ob hb:Nat} {w w':World} {wt:Int} {V:Nat->Value} {X:Nat->List Value} {n g:Nat} {items:List Nat} {pl bz:Nat->Int}
theorem oF.busy (d:oF n g X items pl bz) (h:Ord Z ob hb w wt V X) {a:Nat} (c:a < n):∃ g1 b,w.cell? ⟨ob,2,none⟩=some (.slice (some ⟨g1,0,none⟩) n b)/\w.cell? ⟨g1,a,none⟩=some (.int .i64 (bz a)):=by
 obtain ⟨g1,b,t,e,r,s,_⟩:=h.elem (k:=1) (j:=a) (by omega) d.n1 c;rw [d.t1 a c] at s;obtain rfl:=Option.some.inj s;have:=h.cells.2.2.1;rw [e] at this;exact ⟨g1,b,this,r⟩
theorem mK (h:Ord Z ob hb w wt V X) (i:oF n g X items pl bz) {a b:Nat} (o:a < n) (d:b < n):
  Calls Tryz.prog 126 #[.pointer (some ⟨ob,0,none⟩),.int .i64 (a:Nat),.int .i64 (b:Nat)] w fun e w'=>e=.returned (.bool (decide (bz b < bz a)))/\∃ k,w'=w.drewN k:=by
 obtain ⟨g1,t,m,s⟩:=i.busy h o;obtain ⟨j,q,c,r⟩:=i.busy h d;rw [m] at c;obtain ⟨l,_,p⟩:=Value.slice.inj (Option.some.inj c);obtain rfl:g1=j:=by have:=Option.some.inj l;exact congrArg Addr.block this
 subst p;have y:(0:Int) <= (a:Int):=by omega
 have x:(a:Int) < (n:Int):=by omega
 have v:(0:Int) <= (b:Int):=by omega
 have u:(b:Int) < (n:Int):=by omega
 clear h i c l;go_enter Tryz.func126,Tryz.ntmps126
 go_upto_region 1 with fail
 go_quiet (fail)
 go_wp2;go_ret
 exact ⟨rfl,_,rfl⟩
theorem uj (h:Ord Z ob hb w wt V X) (a:oF n g X items pl bz) {v:Nat} (p:Int) (b:v < n):
  Calls Tryz.prog 127 #[.pointer (some ⟨ob,0,none⟩),.int .i64 (v:Nat),.int .i64 p] w fun e w'=>e=.returned (.tuple #[])/\Ord Z ob hb w' wt V (upd X 0 ((X 0).set v (.int .i64 p)))/\dB Z w w':=by
 obtain ⟨i,c0,t,e,r,s,z,_⟩:=h.elem (k:=0) (j:=v) (by omega) a.n0 b;have q:=h.cells.2.1;rw [e] at q;have F:=hide (h.set (k:=0) (by omega) e v (.int .i64 p));have d:(0:Int) <= (v:Int):=by omega
 have c:(v:Int) < (n:Int):=by omega
 clear h a e s;go_enter Tryz.func127,Tryz.ntmps127
 go_wp2;go_end0
 exact ⟨rfl,F.out.1,F.out.2⟩
theorem rM (h:Ord Z ob hb w wt V X) (a:oF n g X items pl bz) {v p:Nat} (u:v < n) (x:p < items.length):
  Calls Tryz.prog 203 #[.pointer (some ⟨hb,0,none⟩),.int .i64 (p:Nat),.int .i64 (v:Nat)] w fun e w'=>e=.returned (.tuple #[])/\Ord Z ob hb w' wt V (upd (upd X 2 ((X 2).set p (.int .i64 (v:Nat)))) 0 ((X 0).set v (.int .i64 (p:Nat))))/\dB Z w w':=by
 have i:(X 2).length=items.length:=by rw [a.t2,cZ]
 obtain ⟨g2,I,t,e,r,s,z,_⟩:=h.elem (k:=2) (j:=p) (by omega) i x;have q:=h.cells.2.2.2.2.1;rw [e] at q;have F:=hide (h.set (k:=2) (by omega) e p (.int .i64 (v:Nat)));have o:=F.out.1.cells.2.2.2.2.2.2.1;have l:oF n g (upd X 2 ((X 2).set p (.int .i64 (v:Nat)))) (items.set p v) pl bz:=⟨by rw [cu _ _ (by decide)];exact a.n0,by rw [cu _ _ (by decide)];exact a.t0,by rw [cu _ _ (by decide)];exact a.i0,by rw [cu _ _ (by decide)];exact a.n1,by rw [cu _ _ (by decide)];exact a.t1,by rw [cz,a.t2,nG]⟩;have d:=hide (uj F.out.1 l (p:Nat) u);rw [cu _ _ (by decide)] at d;have E:(0:Int) <= (p:Int):=by omega
 have p1:(p:Int) < (items.length:Int):=by omega
 have m:=hide F.out.2;generalize G:w.setCell ⟨g2,p,none⟩ (.int .i64 (v:Nat))=J at d o m;clear F h a e s l i;go_enter Tryz.func203,Tryz.ntmps203
 go_upto_region 1 with fail
 go_wp2_with (go_at_call 127;refine d.out.mono ?_;rintro H D ⟨rfl,b,c⟩;have y:=hide b;have B:=hide c;clear b c;simp only [])
 go_end0
 exact ⟨rfl,y.out,m.out.trans B.out⟩
end
section
variable {Z:Nat->Prop} {sb K:Nat} {w w':World} {f V:Nat->Value} {X:Nat->List Value} {n:Nat} {wl:Nat->List Nat}
def zP (X X':Nat->List Value):Prop:=∀ k,k ≠ 9->k < 16->X' k=X k
def wS (wl:Nat->List Nat) (a p q:Nat) (i:Nat) (x:Nat):List Nat:=if (x=p/\1 <= i)\/(x=q/\2 <= i) then wl x ++ [a] else wl x
def Rh (Z:Nat->Prop) (sb:Nat) (w:World) (K:Nat) (f:Nat->Value) (X:Nat->List Value) (n:Nat) (wl:Nat->List Nat) (a p q:Nat) (i13:Value) (wr:World):Prop:=
 ∃ i:Nat,i13=.int .i64 i/\i <= 2/\∃ V' X',Hid (dQ Z sb wr K f V' X'/\mH n V' X' (wS wl a p q i)/\zP X X'/\dB Z w wr)
theorem ND {a p q:Nat} (c:p ≠ q) {i:Nat} (hi:i < 2) {x:Nat} (b:x=if i=0 then p else q):(fun y=>if y=x then wS wl a p q i y ++ [a] else wS wl a p q i y)=wS wl a p q (i + 1):=by
 funext y
 unfold wS
 rcases (show i=0\/i=1 by omega) with rfl | rfl
 ·simp only [if_true] at b;subst b;by_cases e:y=x
  ·subst e;simp
  ·simp [e]
 ·simp only [Nat.one_ne_zero,if_false] at b;subst b;by_cases e:y=x
  ·subst e;have:y ≠ p:=fun e=>c e.symm
   simp [this]
  ·simp [e]
theorem Aw {cs:List Rec} {k p q:Nat} {r:List Nat} (h:dQ Z sb w K f V X) (ab:K=16 + 2 * n) (E:X 0=ints (enc cs)) (H:k < cs.length) (G:(cs[k]).lits=p :: q :: r) (U:p ≠ q) (hp:p < 2 * n) (hq:q < 2 * n) (hn:n <= 50) (hN:(enc cs).length <= 1099511627776) (hW:mH n V X wl) (R:∀ x,x < 2 * n->(wl x).length <= 1099511627776):
  Calls Tryz.prog 133 #[.pointer (some ⟨sb,0,none⟩),.int .i64 (dn cs k:Nat)] w fun e w'=>e=.returned (.tuple #[])/\dB Z w w'/\∃ V' X',dQ Z sb w' K f V' X'/\mH n V' X' (wS wl (dn cs k) p q 2)/\zP X X':=by
 obtain ⟨i0,hi,Q,P,O⟩:=info_parts Tryz.fO;obtain ⟨g,c,e0,q0,hc,lg,ng,zg,r0,-,-,-,-⟩:=fH h E H;have ai:=eD H;have HS:=hide h;have HW:=hide hW;have m2:2 <= (cs[k]).lits.length:=by rw [G];simp
 have c0:=xB H (i:=0) (by omega);have c1:=xB H (i:=1) (by omega);rw [show (cs[k]).lits[0]'(by omega)=p by simp [G]] at c0;rw [show (cs[k]).lits[1]'(by omega)=q by simp [G]] at c1;have I:Hid (∀ Y:World,Y.heap=w.heap->Calls Tryz.prog 175 #[.pointer (some ⟨sb,2,none⟩),.int .i64 (dn cs k:Nat)] Y fun e w'=>e=.returned (jw g (dn cs k) (cs[k]).lits.length c)/\∃ j,w'=Y.drewN j):=fun Y hY=>iY sb 2 g (enc cs).length c (dn cs k) (cs[k]).lits.length Y (by rw [show Y.cell? ⟨sb,2,none⟩=w.cell? ⟨sb,2,none⟩ from World.cell?_of_block (a:=⟨sb,2,none⟩) (by rw [hY])];exact q0) (by omega) (by unfold maxLen;omega) hc (by rw [show Y.cell? ⟨g,dn cs k,none⟩=w.cell? ⟨g,dn cs k,none⟩ from World.cell?_of_block (a:=⟨g,dn cs k,none⟩) (by rw [hY])];exact r0)
 have nc:¬ (c=dn cs k + 3):=by omega
 unfold jw at I;rw [if_neg nc] at I;have al:(2:Int) <= ((c - (dn cs k + 3):Nat):Int):=by omega
 clear r0 q0;generalize dn cs k=a at *
 generalize (cs[k]).lits.length=m at *
 generalize enc cs=ec at *
 clear G;have ag:Hid (∀ wr V' X',dQ Z sb wr K f V' X'->X' 0=X 0->∀ i,i < 2->wr.cell? ⟨g,a + 3 + i,none⟩=some (.int .i64 ((if i=0 then p else q:Nat):Int))):=fun wr V' X' t o i hi=>by
  have ac:V' 0=.slice (some ⟨g,0,none⟩) ec.length c:=by rw [<- t.hdr 0 (by omega),h.hdr 0 (by omega)];exact e0
  have ap:(X' 0).length=ec.length:=by rw [o,E,fU]
  rw [(t.eH.cell (k:=0) (by have:=t.hK;omega) ac (j:=a + 3 + i) (by omega)).1]
  rcases (show i=0\/i=1 by omega) with rfl | rfl
  ·rw [o];exact (by rw [E,lN,c0];rfl)
  ·rw [o];exact (by rw [E,lN,c1];rfl)
 clear h hW E c0 c1 e0;go_enter Tryz.func133,Tryz.ntmps133
 go_upto_region 0 with fail
 go_wp2_with (go_at_call 175;refine (I.out _ (by rfl)).mono ?_;rintro e7 w7 ⟨rfl,j7,rfl⟩;simp only [])
 obtain ⟨W,u⟩:∃ W,W=w.drewN j7:=⟨_,rfl⟩;have bW:Below w.heap.size w W:=by rw [u];exact Go.below_drewN bR _
 have SW:=hide (HS.out.later bW);have CW:Hid (dB Z w W):=dB.of_below bW;rw [<- u];clear u bW I;have z:wS wl a p q 0=wl:=by funext x;unfold wS;simp
 go_loopw [5,13] (fun _ i wr=>Rh Z sb w K f X n wl a p q i wr) (fun _ i _=>2 - (intOf i).toNat)
 case atStart=>exact ⟨0,rfl,by omega,V,X,SW.out,by rw [z];exact HW.out,fun _ _ _=>rfl,CW.out⟩
 case round=>
  obtain ⟨i,rfl,aq,V',X',b⟩:=hrel;clear SW CW z;by_cases D:i < 2
  ·have il:(i:Int) < 2:=by omega
   have ao:(0:Int) <= (i:Int):=by omega
   obtain ⟨x,o⟩:∃ x,x=if i=0 then p else q:=⟨_,rfl⟩
   have d:x < 2 * n:=by rw [o];split <;> assumption
   have aa:=ag.out wr V' X' b.out.1 (b.out.2.2.1 0 (by decide) (by decide)) i D;rw [<- o] at aa;have l:=b.out.2.1;obtain ⟨g9,c9,J,wc,y,v,q5,qx,zx,l9,n9,z9,ox⟩:=l.at' b.out.1 ab d;have aj:(wS wl a p q i x).length <= 1099511627777:=by
    have:=R x d;unfold wS;split
    ·simp;omega
    ·omega
   have NX:=hide (ND (wl:=wl) (a:=a) U D o);have PW:=hide (fun v'=>l.push d a v');rw [NX.out] at PW;have X0:(0:Int) <= (x:Int):=by omega
   have X1:(x:Int) < 2 * (n:Int):=by omega
   have SD:Hid (dQ Z sb wr.drew K f V' X'):=b.out.1.later bR.drew;have OD:Hid (wr.drew.ownsRow 0 3 1 (.slice J (wS wl a p q i x).length wc) (wS wl a p q i x).length (dw (wS wl a p q i x))):=ox;have BD:Hid (dB Z w wr.drew):=b.out.2.2.2.drew;have RX:Hid (X' (16 + x)=dw (wS wl a p q i x)):=l.row x d;have LX:Hid ((X' 9).length=2 * n):=l.n9;have ad:Hid ((X' 9)[x]? = some (.slice J (wS wl a p q i x).length wc)):=by unfold Hid;rw [l.hd x d,v]
   have E9:=hide y;have ae:Hid (f 5=.slice (some ⟨g9,0,none⟩) (2 * n) c9):=(b.out.1.hdr 9 (by omega)).trans y;have EX:=hide v;have OW:=hide b.out.2.2.1;have s:16 + x < K:=by omega
   have ah:=b.out.1.row.lt;have ns:¬ (sb=wr.heap.size):=by omega
   have ak:¬ (g9=wr.heap.size):=by omega
   clear l y v ox o;go_upto_region 3 with fail
   go_region_law
    (refine ik _ (by rfl) _ _ 43 (by rfl) 0 3 i0 (.int .i64 0) 1 8 Tryz.underlying43 hi Q P O (by rfl) (by decide) (.slice J (wS wl a p q i x).length wc) (wS wl a p q i x).length (dw (wS wl a p q i x)) (by rfl) (OD.out.alloc (.cells #[.int .i64 (a:Int)] 3)) (.slice (some ⟨wr.heap.size,0,none⟩) 1 1) 1 [.int .i64 (a:Int)] (by rfl) (.inr ⟨⟨wr.heap.size,0,none⟩,1,rfl,(cell_one_new wr.drew _ _)⟩) (by rfl) (by simp [Value.oneCell']) (by unfold maxLen;omega) (by omega) zl ?_;intro v6 w6 A6;have A7:dz (wr.drew.alloc (.cells #[.int .i64 (a:Int)] 3)) 0 3 1 (V' (16 + x)) (X' (16 + x)).length (X' (16 + x)) 1 [.int .i64 (a:Int)] v6 w6:=(by rw [EX.out,RX.out,cZ];exact A6);have S6:=hide (SD.out.JW s E9.out (m:=1) (news:=[.int .i64 (a:Int)]) rfl A7);have K6:=(SD.out.FZ s E9.out (by rw [LX.out];exact d) A7);rw [ad.out] at K6;obtain ⟨B,an,am⟩:=K6;have N:=B 5 (by omega);rw [ae.out] at N;obtain ⟨M,L,S⟩:=dH A6.own;subst S;clear A6 A7 B)
   all_goals
    have af:Hid (Rh Z sb w K f X n wl a p q (.int .i64 ((i + 1:Nat):Int)) (w6.setCell ⟨g9,x,none⟩ (.slice M ((wS wl a p q i x).length + 1) L))):=⟨i + 1,rfl,by omega,_,_,S6.out.1,PW.out _,fun k h1 h2=>by rw [cu _ _ h1,cu _ _ (by omega)];exact OW.out k h1 h2,BD.out.trans S6.out.2⟩;clear S6;go_wp2;go_roundw
    case rel=>exact af.out
    case measure=>simp [intOf];omega
  ·have ei:i=2:=by omega
   subst ei;go_wp2;go_end0;exact ⟨rfl,b.out.2.2.2,V',X',b.out.1,b.out.2.1,b.out.2.2.1⟩
end
end
end So
end Go.Proofs.YtceahffmenbibaaGreatDoor
