/- Sexp Senc Smat. -/
import Derived.Test.YtceahffmenbibaaGreatDoorG03
set_option linter.unusedVariables false
set_option linter.unusedSimpArgs false
namespace Go.Proofs.YtceahffmenbibaaGreatDoor
namespace So
section
variable {n:Nat} {tr ch:List Nat} {lev:Nat->Nat} {C:eX} {rea:Nat->Int} {rs:Nat->Option (List Nat)}
def vr (tr:List Nat) (j:Nat):Nat:=(tr.getD j 0) / 2
theorem ug {tr:List Nat} {j:Nat} (h:j < tr.length):vr tr j=tr[j] / 2:=by
 unfold vr;rw [List.getD_eq_getElem?_getD,List.getElem?_eq_getElem h];rfl
def iV (tr:List Nat) (last i:Nat) (seen:Nat->Bool):Nat:=((List.range i).filter fun j=>decide (last <= j) && seen (vr tr j)).length
theorem jI (tr:List Nat) (last i:Nat) (seen:Nat->Bool):iV tr last (i + 1) seen=iV tr last i seen + if last <= i/\seen (vr tr i)=true then 1 else 0:=by
 unfold iV;rw [List.range_succ,List.filter_append,List.length_append];by_cases h1:last <= i <;> by_cases h2:seen (vr tr i)=true <;> simp [h1,h2]
theorem EN {tr:List Nat} {last i:Nat} {seen:Nat->Bool} (h:i <= last):iV tr last i seen=0:=by
 unfold iV;rw [List.length_eq_zero_iff,List.filter_eq_nil_iff];intro j hj;have:=List.mem_range.1 hj;simp;omega
theorem zY {tr:List Nat} {last i:Nat} {seen:Nat->Bool} (h:iV tr last i seen=0) {j:Nat} (hj:j < i) (hl:last <= j):seen (vr tr j)=false:=by
 unfold iV at h;rw [List.length_eq_zero_iff,List.filter_eq_nil_iff] at h;have:=h j (List.mem_range.2 hj);simpa [hl] using this
theorem PN (ht:fM n tr ch lev) {last:Nat} {seen:Nat->Bool} {j:Nat} (hj:j < tr.length) (hs:seen (tr[j] / 2)=false):∀ b,b <= tr.length->iV tr last b (bB seen (tr[j] / 2) true)=iV tr last b seen + if last <= j/\j < b then 1 else 0:=by
 intro b
 induction b with
 | zero=>intro _;simp [iV]
 | succ b ih=>
  intro hb;rw [jI,jI,ih (by omega)]
  have hb':b < tr.length:=by omega
  by_cases e:b=j
  ·subst e;rw [ug hb',aD,hs];by_cases h1:last <= b
   ·simp [h1]
   ·simp [h1]
  ·have:vr tr b ≠ tr[j] / 2:=fun e2=>by
    rw [ug hb'] at e2;exact e (ht.mE hb' hj e2)
   rw [ah _ _ this];by_cases h2:last <= j/\j < b
   ·rw [if_pos h2,if_pos (show last <= j/\j < b + 1 from ⟨h2.1,by omega⟩)];omega
   ·rw [if_neg h2,if_neg (show ¬ (last <= j/\j < b + 1) from fun h3=>h2 ⟨h3.1,by omega⟩)];omega
structure Lk where
 seen:Nat->Bool
 bn:List Nat
 opn:Nat
def iZ (lev:Nat->Nat) (d:Nat) (s:Lk) (y:Nat):Lk:=
 if s.seen (y / 2)=true\/lev (y / 2)=0 then s
 else if lev (y / 2)=d then ⟨bB s.seen (y / 2) true,s.bn,s.opn + 1⟩
 else ⟨bB s.seen (y / 2) true,s.bn ++ [y],s.opn⟩
structure LM (tr:List Nat) (lev:Nat->Nat) (d:Nat) (s:Lk):Prop where
 nH:∀ v,s.seen v=true->0 < lev v/\∃ j,∃ h:j < tr.length,tr[j] / 2=v
 bn:∀ y,y ∈ s.bn↔op y ∈ tr/\s.seen (y / 2)=true/\lev (y / 2) ≠ d
 nd:(s.bn.map (· / 2)).Nodup
theorem LM.start (tr:List Nat) (lev:Nat->Nat) (d:Nat):LM tr lev d ⟨fun _=>false,[],0⟩:=⟨fun v h=>(by cases h),fun y=>(by simp),by simp⟩
theorem LM.zero {tr:List Nat} {lev:Nat->Nat} {d:Nat} {s:Lk} (h:LM tr lev d s) (k:Nat):LM tr lev d ⟨s.seen,s.bn,k⟩:=⟨h.nH,h.bn,h.nd⟩
theorem Tn (ht:fM n tr ch lev) {d:Nat} {s:Lk} (h:LM tr lev d s) {y j:Nat} (hj:j < tr.length) (hy:tr[j]=op y):LM tr lev d (iZ lev d s y)/\(∀ v,s.seen v=true->(iZ lev d s y).seen v=true)/\(lev (y / 2)=0\/(iZ lev d s y).seen (y / 2)=true):=by
 have hv:tr[j] / 2=y / 2:=by rw [hy,dC]
 have hm:op y ∈ tr:=hy ▸ List.getElem_mem hj;unfold iZ;split
 ·rename_i h1;exact ⟨h,fun _ h=>h,h1.symm⟩
 ·rename_i h1;have hs:s.seen (y / 2)=false:=by
   cases e:s.seen (y / 2) with
   | false=>rfl
   | true=>exact absurd (.inl e) h1
  have h0:lev (y / 2) ≠ 0:=fun e=>h1 (.inr e)
  have mono:∀ v,s.seen v=true->bB s.seen (y / 2) true v=true:=fun v hv=>by
   by_cases e:v=y / 2
   ·rw [e,aD]
   ·rw [ah _ _ e];exact hv
  have nH:∀ v,bB s.seen (y / 2) true v=true->0 < lev v/\∃ j,∃ h:j < tr.length,tr[j] / 2=v:=fun v hv2=>by
   by_cases e:v=y / 2
   ·rw [e];exact ⟨by omega,j,hj,hv⟩
   ·rw [ah _ _ e] at hv2;exact h.nH v hv2
  have uniq:∀ z,op z ∈ tr->z / 2=y / 2->z=y:=fun z hz e=>by
   rcases nT e with e1 | e1
   ·exact e1
   ·rw [e1,gQ] at hz;exact (ht.jP hz hm).elim
  split
  ·rename_i h2;refine ⟨⟨nH,fun z=>?_,h.nd⟩,mono,.inr (aD ..)⟩
   show z ∈ s.bn↔_
   rw [h.bn z];constructor
   ·rintro ⟨g1,g2,g3⟩;exact ⟨g1,mono _ g2,g3⟩
   ·rintro ⟨g1,g2,g3⟩;refine ⟨g1,?_,g3⟩;have e:z / 2 ≠ y / 2:=fun e=>g3 (by rw [e];exact h2)
    have g2:bB s.seen (y / 2) true (z / 2)=true:=g2;rw [ah _ _ e] at g2;exact g2
  ·rename_i h2;refine ⟨⟨nH,fun z=>?_,?_⟩,mono,.inr (aD ..)⟩
   ·show z ∈ s.bn ++ [y]↔_
    rw [List.mem_append,h.bn z];constructor
    ·rintro (⟨g1,g2,g3⟩ | g)
     ·exact ⟨g1,mono _ g2,g3⟩
     ·simp at g;subst g;exact ⟨hm,aD ..,h2⟩
    ·rintro ⟨g1,g2,g3⟩;have g2:bB s.seen (y / 2) true (z / 2)=true:=g2;by_cases e:z / 2=y / 2
     ·exact .inr (by simp [uniq z g1 e])
     ·rw [ah _ _ e] at g2;exact .inl ⟨g1,g2,g3⟩
   ·show ((s.bn ++ [y]).map (· / 2)).Nodup
    rw [List.map_append];refine List.nodup_append.2 ⟨h.nd,by simp,fun a ha b hb=>?_⟩
    simp at hb;subst hb;obtain ⟨z,hz,rfl⟩:=List.mem_map.1 ha;intro e;have e:z / 2=y / 2:=e;have:=((h.bn z).1 hz).2.1;rw [e,hs] at this;cases this
theorem rC (ht:fM n tr ch lev) (hd:0 < ch.length) {j:Nat} (hj:j < tr.length):lev (tr[j] / 2)=ch.length↔ch[ch.length - 1] <= j:=by
 have h1:=cnt_lt ht.dX (d:=ch.length - 1) (by omega) (i:=j)
 have h2:=Bw ch j;rw [ht.lev j hj];constructor
 ·intro e
  rcases Nat.lt_or_ge j ch[ch.length - 1] with h3 | h3
  ·have:=h1.2 h3;omega
  ·exact h3
 ·intro h3
  rcases Nat.lt_or_ge (ch.length - 1) (cnt ch j) with h4 | h4
  ·omega
  ·have:=h1.1 h4;omega
theorem Tp (ht:fM n tr ch lev) (hd:0 < ch.length) {s:Lk} {y j b k:Nat} (hj:j < tr.length) (hy:tr[j]=op y) (hjb:j < b) (hb:b <= tr.length) (hc:s.opn + k=iV tr ch[ch.length - 1] b s.seen):(iZ lev ch.length s y).opn + k=iV tr ch[ch.length - 1] b (iZ lev ch.length s y).seen:=by
 have hv:tr[j] / 2=y / 2:=by rw [hy,dC]
 unfold iZ;split
 ·exact hc
 ·rename_i h1;have hs:s.seen (tr[j] / 2)=false:=by
   rw [hv]
   cases e:s.seen (y / 2) with
   | false=>rfl
   | true=>exact absurd (.inl e) h1
  have hu:=PN ht (last:=ch[ch.length - 1]) hj hs b hb;have hl:=rC ht hd hj;rw [hv] at hu hl;split
  ·rename_i h2;show s.opn + 1 + k=iV tr ch[ch.length - 1] b (bB s.seen (y / 2) true)
   rw [hu,if_pos ⟨hl.1 h2,hjb⟩];omega
  ·rename_i h2;show s.opn + k=iV tr ch[ch.length - 1] b (bB s.seen (y / 2) true)
   rw [hu,if_neg (fun h3=>h2 (hl.2 h3.1))];omega
theorem GJ (ht:fM n tr ch lev) (hd:0 < ch.length) {b k:Nat} (hb:b <= tr.length):∀ (ys:List Nat) (s:Lk),(∀ y ∈ ys,∃ j,∃ h:j < tr.length,j < b/\tr[j]=op y)->LM tr lev ch.length s->s.opn + k=iV tr ch[ch.length - 1] b s.seen->
  LM tr lev ch.length (ys.foldl (iZ lev ch.length) s)/\(ys.foldl (iZ lev ch.length) s).opn + k=iV tr ch[ch.length - 1] b (ys.foldl (iZ lev ch.length) s).seen/\(∀ v,s.seen v=true->(ys.foldl (iZ lev ch.length) s).seen v=true)/\∀ y ∈ ys,lev (y / 2)=0\/(ys.foldl (iZ lev ch.length) s).seen (y / 2)=true
 | [],s,_,h,hc=>⟨h,hc,fun _ h=>h,fun y hy=>by simp at hy⟩
 | y :: r,s,hy,h,hc=>by
  obtain ⟨j,hj,hjb,ej⟩:=hy y (List.mem_cons_self ..);obtain ⟨g1,g2,g3⟩:=Tn ht h hj ej;have g4:=Tp ht hd hj ej hjb hb hc;obtain ⟨k1,k2,k3,k4⟩:=GJ ht hd hb r (iZ lev ch.length s y) (fun z hz=>hy z (List.mem_cons_of_mem _ hz)) g1 g4
  refine ⟨k1,k2,fun v hv=>k3 v (g2 v hv),fun z hz=>?_⟩
  rcases List.mem_cons.1 hz with rfl | hz
  ·exact g3.imp id (fun h=>k3 _ h)
  ·exact k4 z hz
theorem Wm {b d:Nat}:∀ (ys:List Nat) (t:Lk),(∀ y ∈ ys,∃ j,∃ hj:j < tr.length,j < b/\tr[j]=op y)->∀ v,(ys.foldl (iZ lev d) t).seen v=true->t.seen v=true\/∃ j,∃ hj:j < tr.length,j < b/\tr[j] / 2=v:=by
 intro ys
 induction ys with
 | nil=>intro t _ v hv;exact .inl hv
 | cons y ys ih=>
  intro t hy v hv
  rcases ih (iZ lev d t y) (fun z hz=>hy z (List.mem_cons_of_mem _ hz)) v hv with g | g
  ·obtain ⟨m,hm,hmi,em⟩:=hy y (List.mem_cons_self ..);by_cases e2:v=y / 2
   ·exact .inr ⟨m,hm,hmi,by rw [em,dC,e2]⟩
   ·left
    unfold iZ at g;split at g
    ·exact g
    ·split at g
     ·have g:bB t.seen (y / 2) true v=true:=g;rw [ah _ _ e2] at g;exact g
     ·have g:bB t.seen (y / 2) true v=true:=g;rw [ah _ _ e2] at g;exact g
  ·exact .inr g
structure vF (tr ch:List Nat) (lev:Nat->Nat) (rs:Nat->Option (List Nat)) (last:Nat) (c0:List Nat) (i:Nat) (s:Lk):Prop where
 lk:LM tr lev ch.length s
 first:∀ y ∈ c0,lev (y / 2)=0\/s.seen (y / 2)=true
 done:∀ j (h:j < tr.length),i <= j->s.seen (tr[j] / 2)=true->By tr rs (fun v=>lev v=0\/s.seen v=true) j
 cnt:s.opn=iV tr last i s.seen
 pos:1 <= s.opn
 ile:i <= tr.length
variable {c0:List Nat}
theorem vF.start (ht:fM n tr ch lev) (hd:0 < ch.length) (hf:∀ y ∈ c0,op y ∈ tr) {y0:Nat} (h0:y0 ∈ c0) (hl:lev (y0 / 2)=ch.length):vF tr ch lev rs ch[ch.length - 1] c0 tr.length (c0.foldl (iZ lev ch.length) ⟨fun _=>false,[],0⟩):=by
 have hz:∀ b,iV tr ch[ch.length - 1] b (fun _=>false)=0:=fun b=>by
  unfold iV;rw [List.length_eq_zero_iff,List.filter_eq_nil_iff];simp
 obtain ⟨k1,k2,k3,k4⟩:=GJ ht hd (b:=tr.length) (k:=0) (Nat.le_refl _) c0 ⟨fun _=>false,[],0⟩ (fun y hy=>by
  obtain ⟨j,hj,e⟩:=List.mem_iff_getElem.1 (hf y hy);exact ⟨j,hj,hj,e⟩) (LM.start ..) (by rw [hz])
 refine ⟨k1,k4,fun j h hj=>by omega,by simpa using k2,?_,Nat.le_refl _⟩
 have hs:(c0.foldl (iZ lev ch.length) ⟨fun _=>false,[],0⟩).seen (y0 / 2)=true:=by
  rcases k4 y0 h0 with e | e
  ·omega
  ·exact e
 obtain ⟨j,hj,ej⟩:=List.mem_iff_getElem.1 (hf y0 h0);have hv:tr[j] / 2=y0 / 2:=by rw [ej,dC]
 rcases Nat.eq_zero_or_pos (iV tr ch[ch.length - 1] tr.length (c0.foldl (iZ lev ch.length) ⟨fun _=>false,[],0⟩).seen) with e | e
 ·have:=zY e hj ((rC ht hd hj).1 (by rw [hv];exact hl))
  rw [ug hj,hv,hs] at this;cases this
 ·omega
theorem vF.more {last i:Nat} {s:Lk} (h:vF tr ch lev rs last c0 i s):∃ j,i=j + 1/\last <= j:=by
 have h1:=h.cnt;have h2:=h.pos
 rcases Nat.lt_or_ge last i with h3 | h3
 ·exact ⟨i - 1,by omega,by omega⟩
 ·rw [EN h3] at h1;omega
theorem vF.skip {last i:Nat} {s:Lk} (h:vF tr ch lev rs last c0 (i + 1) s) (hs:s.seen (vr tr i)=false):vF tr ch lev rs last c0 i s where
 lk:=h.lk
 first:=h.first
 done:=fun j hj hij hsj=>by
  rcases Nat.eq_or_lt_of_le hij with e | e
  ·subst e;rw [ug hj] at hs;rw [hs] at hsj;cases hsj
  ·exact h.done j hj e hsj
 cnt:=by rw [h.cnt,jI,hs];simp
 pos:=h.pos
 ile:=by have:=h.ile;omega
theorem vF.step (ht:fM n tr ch lev) (hd:0 < ch.length) {i:Nat} {s:Lk} (h:vF tr ch lev rs ch[ch.length - 1] c0 (i + 1) s) (hi:i < tr.length) (hs:s.seen (tr[i] / 2)=true) (ho:s.opn ≠ 1) {c r:List Nat} (hc:rs (tr[i] / 2)=some c) (hcl:c=tr[i] :: r) (hr:∀ y ∈ r,∃ j,∃ hj:j < tr.length,j < i/\tr[j]=op y):
  ∃ more,(c.foldl (iZ lev ch.length) ⟨s.seen,s.bn,0⟩).opn=more/\vF tr ch lev rs ch[ch.length - 1] c0 i ⟨(c.foldl (iZ lev ch.length) ⟨s.seen,s.bn,0⟩).seen,(c.foldl (iZ lev ch.length) ⟨s.seen,s.bn,0⟩).bn,s.opn + more - 1⟩:=by
 have e1:c.foldl (iZ lev ch.length) ⟨s.seen,s.bn,0⟩=r.foldl (iZ lev ch.length) ⟨s.seen,s.bn,0⟩:=by
  rw [hcl,List.foldl_cons]
  congr 1
  unfold iZ;rw [if_pos (.inl hs)]
 rw [e1];have hlast:ch[ch.length - 1] <= i:=by
  obtain ⟨j,e,hl⟩:=h.more;omega
 obtain ⟨k1,k2,k3,k4⟩:=GJ ht hd (b:=i + 1) (k:=s.opn) (by omega) r ⟨s.seen,s.bn,0⟩ (fun y hy=>by
  obtain ⟨j,hj,hji,e⟩:=hr y hy;exact ⟨j,hj,by omega,e⟩) (h.lk.zero 0) (by rw [h.cnt];simp)
 have hsi:=k3 _ hs;have nw:=Wm (lev:=lev) (d:=ch.length) r ⟨s.seen,s.bn,0⟩ hr;generalize r.foldl (iZ lev ch.length) ⟨s.seen,s.bn,0⟩=s' at *
 refine ⟨_,rfl,⟨k1.nH,k1.bn,k1.nd⟩,fun y hy=>(h.first y hy).imp id (k3 _),fun j hj hij hsj=>?_,?_,?_,by omega⟩
 ·rcases Nat.eq_or_lt_of_le hij with e | e
  ·subst e;refine ⟨hj,c,r,hc,hcl,k4⟩
  ·by_cases h3:s.seen (tr[j] / 2)=true
   ·exact (h.done j hj e h3).mono fun v hv=>hv.imp id (k3 v)
   ·
    exfalso
    rcases nw _ hsj with g | ⟨m,hm,hmi,em⟩
    ·exact h3 g
    ·have:=ht.mE hm hj em;omega
 ·show s.opn + s'.opn - 1=iV tr ch[ch.length - 1] i s'.seen
  rw [jI,ug hi,if_pos ⟨hlast,hsi⟩] at k2;omega
 ·show 1 <= s.opn + s'.opn - 1
  have:=h.pos;omega
theorem vF.forced (ht:fM n tr ch lev) (hd:0 < ch.length) {i:Nat} {s:Lk} (h:vF tr ch lev rs ch[ch.length - 1] c0 (i + 1) s) (ho:s.opn ≠ 1):i ∉ ch:=fun hm=>by
 have h1:=h.pos;have h2:=h.cnt;obtain ⟨m,hm2,e⟩:=List.mem_iff_getElem.1 hm;have:i <= ch[ch.length - 1]:=by
  rcases Nat.lt_or_ge m (ch.length - 1) with h3 | h3
  ·have:=List.pairwise_iff_getElem.1 ht.dX.1 m (ch.length - 1) hm2 (by omega) h3;omega
  ·have:m=ch.length - 1:=by omega
   subst this;omega
 rw [jI,EN this] at h2;split at h2 <;> omega
def fG (C:eX) (rea:Nat->Int) (v:Nat):Option (List Nat):=if rea v=-1 then none else (C (rea v).toNat).map (·.lits)
theorem Aa {i:Nat} {h:i < tr.length} (hw:Why C tr rea i h):∃ a c r,rea (tr[i] / 2)=(a:Nat)/\C a=some c/\c.kind ≠ 2/\c.lits=tr[i] :: r/\fG C rea (tr[i] / 2)=some c.lits/\∀ y ∈ r,∃ j,∃ hj:j < tr.length,j < i/\tr[j]=op y:=by
 obtain ⟨a,c,r,h1,h2,h3,h4,h5⟩:=hw;refine ⟨a,c,r,h1,h2,h3,h4,?_,h5⟩;unfold fG;rw [if_neg (by omega),h1,Int.toNat_natCast,h2];rfl
theorem lh.trail {L:List Rd.Cl} (h:lh C tr ch rea) (ht:fM n tr ch lev) (hL:∀ a c,C a=some c->c.kind ≠ 2->There L c.lits):Trail L tr (fG C rea) where
 nodup:=ht.nodup
 why:=fun i hi c hc=>by
  by_cases hm:i ∈ ch
  ·unfold fG at hc;rw [if_pos (h.Jh i hi hm)] at hc;cases hc
  ·obtain ⟨a,c',r,h1,h2,h3,h4,h5,h6⟩:=Aa (h.why i hi hm);rw [h5] at hc;cases hc
   exact ⟨r,h4,hL a c' h2 h3,h6⟩
def bg (rs:Nat->Option (List Nat)) (fol:Nat->Bool) (v:Nat):Bool:=match rs v with
 | none=>false
 | some c=>c.tail.all fun y=>fol (y / 2)
structure Qj (tr:List Nat) (rs:Nat->Option (List Nat)) (seen:Nat->Bool) (j:Nat) (fol:Nat->Bool):Prop where
 why:∀ k (h:k < tr.length),k < j->fol (tr[k] / 2)=true->seen (tr[k] / 2)=true\/By tr rs (fun v=>∃ m,∃ hm:m < tr.length,m < k/\tr[m] / 2=v/\fol v=true) k
theorem Qj.start (tr:List Nat) (rs:Nat->Option (List Nat)) (seen fol:Nat->Bool):Qj tr rs seen 0 fol:=⟨fun k h hk=>by omega⟩
theorem zT {L:List Rd.Cl} (T:Trail L tr rs) {fol:Nat->Bool} {k:Nat} (hk:k < tr.length) (hf:bg rs fol (tr[k] / 2)=true):By tr rs (fun v=>∃ m,∃ hm:m < tr.length,m < k/\tr[m] / 2=v/\fol v=true) k:=by
 unfold bg at hf
 cases e:rs (tr[k] / 2) with
 | none=>rw [e] at hf;cases hf
 | some c=>
  rw [e] at hf;obtain ⟨r,h1,h2,h3⟩:=T.why k hk c e;refine ⟨hk,c,r,e,h1,fun y hy=>?_⟩
  rw [h1] at hf;simp only [List.tail_cons,List.all_eq_true] at hf;obtain ⟨j,hj,hjk,ej⟩:=h3 y hy;exact ⟨j,hj,hjk,by rw [ej,dC],hf y hy⟩
theorem Qj.step {L:List Rd.Cl} (T:Trail L tr rs) (ht:fM n tr ch lev) {seen fol:Nat->Bool} {j:Nat} (h:Qj tr rs seen j fol) (hj:j < tr.length):Qj tr rs seen (j + 1) (bB fol (tr[j] / 2) (seen (tr[j] / 2) || bg rs fol (tr[j] / 2))) where
 why:=fun k hk hkj hf=>by
  have ne:∀ m (hm:m < tr.length),m < j->tr[m] / 2 ≠ tr[j] / 2:=fun m hm hmj e=>by
   have:=ht.mE hm hj e;omega
  have up:∀ k (hk:k < tr.length),k <= j->By tr rs (fun v=>∃ m,∃ hm:m < tr.length,m < k/\tr[m] / 2=v/\fol v=true) k->By tr rs (fun v=>∃ m,∃ hm:m < tr.length,m < k/\tr[m] / 2=v/\bB fol (tr[j] / 2) (seen (tr[j] / 2) || bg rs fol (tr[j] / 2)) v=true) k:=fun k hk hkj hb=>hb.mono fun v ⟨m,hm,hmk,e,hv⟩=>⟨m,hm,hmk,e,by rw [ah _ _ (by rw [<- e];exact ne m hm (by omega))];exact hv⟩
  rcases Nat.lt_succ_iff_lt_or_eq.1 hkj with h1 | h1
  ·rw [ah _ _ (ne k hk h1)] at hf;exact (h.why k hk h1 hf).imp id (up k hk (by omega))
  ·subst h1;rw [aD,Bool.or_eq_true] at hf;exact hf.imp id fun hf=>up k hk (Nat.le_refl _) (zT T hk hf)
theorem Ky {L:List Rd.Cl} (T:Trail L tr (fG C rea)) (ht:fM n tr ch lev) (hre:lh C tr ch rea) (hd:0 < ch.length) {i:Nat} {s:Lk} (h:vF tr ch lev (fG C rea) ch[ch.length - 1] c0 (i + 1) s) (hi:i < tr.length) (hs:s.seen (tr[i] / 2)=true) (ho:s.opn=1) {fol:Nat->Bool} (hsm:Qj tr (fG C rea) s.seen ch[ch.length - 1] fol):
  Ie tr (fG C rea) lev ch[ch.length - 1] c0 (fun v=>s.seen v=true) (fun v=>∃ m,∃ hm:m < tr.length,m < ch[ch.length - 1]/\tr[m] / 2=v/\fol v=true) i (s.bn.filter fun y=>!bg (fG C rea) fol (y / 2)):=by
 obtain ⟨j,ej,hlast⟩:=h.more;have ej:j=i:=by omega
 subst ej;have hc:=h.cnt;rw [jI,ug hi,if_pos ⟨hlast,hs⟩,ho] at hc;exact {
  hiu:=hi
  first:=h.first
  behind:=fun k hk hik hsk=>h.done k hk hik hsk
  low:=fun k hk hlk hki hsk=>by
   have:=zY (show iV tr ch[ch.length - 1] j s.seen=0 by omega) hki hlk
   rw [ug hk,hsk] at this;cases this
  YZ:=hlast
  follows:=fun k hk hkl ⟨m,hm,Ua,em,hf⟩=>by
   have:m=k:=ht.mE hm hk em;subst this;exact (hsm.why m hm Ua hf).imp id fun hb=>hb.mono fun v ⟨m',hm',hmk,e,hv⟩=>⟨m',hm',by omega,e,hv⟩
  UZ:=fun k hk hkl hsk=>by
   have hin:op tr[k] ∈ s.bn:=by
    rw [h.lk.bn,gQ,dC];refine ⟨List.getElem_mem hk,hsk,fun e=>?_⟩
    have:=(rC ht hd hk).1 e;omega
   by_cases hf:bg (fG C rea) fol (tr[k] / 2)=true
   ·right
    exact (zT T hk hf).mono fun v ⟨m,hm,hmk,e,hv⟩=>⟨m,hm,by omega,e,hv⟩
   ·left
    rw [List.mem_filter,dC];exact ⟨hin,by simpa using hf⟩
  zero:=fun k hk hz=>by
   have hnc:k ∉ ch:=fun hm=>by
    have h1:=ht.lev k hk;rw [hz] at h1;unfold cnt at h1;have h2:=List.filter_eq_nil_iff.1 (List.length_eq_zero_iff.1 h1.symm) k hm;simp at h2
   obtain ⟨a,c,r,h1,h2,h3,h4,h5,h6⟩:=Aa (hre.why k hk hnc);refine ⟨hk,c.lits,r,h5,h4,fun y hy=>?_⟩
   obtain ⟨m,hm,hmk,em⟩:=h6 y hy;have h7:=ht.lev m hm;rw [em,dC] at h7;have h8:=cnt_mono ch (Nat.le_of_lt hmk);rw [<- ht.lev k hk,hz] at h8;omega
  Er:=fun v ⟨m,hm,Ua,e,_⟩=>⟨m,hm,Ua,e⟩ }
theorem vF.tail {last i:Nat} {s:Lk} (h:vF tr ch lev rs last c0 i s) (ht:fM n tr ch lev) {y:Nat} (hy:y ∈ s.bn):op y ∈ tr/\0 < lev (y / 2)/\lev (y / 2) < ch.length:=by
 obtain ⟨h1,h2,h3⟩:=(h.lk.bn y).1 hy;obtain ⟨h4,j,hj,ej⟩:=h.lk.nH _ h2;refine ⟨h1,h4,?_⟩;have:=ht.lev j hj;rw [ej] at this;have:=Bw ch j;omega
end
structure Rec where
 kind:Nat
 busy:Int
 lits:List Nat
def enc1 (c:Rec):List Int:=(c.lits.length:Int) :: (c.kind:Int) :: c.busy :: c.lits.map fun (x:Nat)=>(x:Int)
def enc:List Rec->List Int
 | []=>[]
 | c :: r=>enc1 c ++ enc r
theorem dh (c:Rec):(enc1 c).length=3 + c.lits.length:=by simp [enc1];omega
theorem dn (a b:List Rec):enc (a ++ b)=enc a ++ enc b:=by
 induction a with
 | nil=>rfl
 | cons c r ih=>simp [enc,ih]
def aj (cs:List Rec) (k:Nat):Nat:=(enc (cs.take k)).length
theorem gK (cs:List Rec):aj cs 0=0:=by simp [aj,enc]
theorem dz {cs:List Rec} {k:Nat} (h:k < cs.length):aj cs (k + 1)=aj cs k + (3 + (cs[k]).lits.length):=by
 unfold aj;rw [List.take_succ_eq_append_getElem h,dn,List.length_append];simp [enc,dh]
theorem dY {cs:List Rec} {k:Nat} (h:cs.length <= k):aj cs k=(enc cs).length:=by unfold aj;rw [List.take_of_length_le h]
theorem xM {cs:List Rec} {j k:Nat} (h:j < k) (hk:k <= cs.length):aj cs j + 3 <= aj cs k:=by
 induction k with
 | zero=>omega
 | succ k ih=>
  rw [dz (by omega)]
  rcases Nat.lt_succ_iff_lt_or_eq.1 h with h1 | h1
  ·have:=ih h1 (by omega);omega
  ·subst h1;omega
theorem Qa {cs:List Rec} {j k:Nat} (h:j <= k) (hk:k <= cs.length):aj cs j <= aj cs k:=by
 rcases Nat.eq_or_lt_of_le h with e | e
 ·subst e;exact Nat.le_refl _
 ·have:=xM e hk;omega
theorem BJ {cs:List Rec} {j k:Nat} (hj:j <= cs.length) (hk:k <= cs.length) (e:aj cs j=aj cs k):j=k:=by
 rcases Nat.lt_trichotomy j k with h | h | h
 ·have:=xM h hk;omega
 ·exact h
 ·have:=xM h hj;omega
theorem bA {cs:List Rec} {k:Nat} (h:k < cs.length):aj cs k + (3 + (cs[k]).lits.length) <= (enc cs).length:=by
 rw [<- dz h,<- dY (Nat.le_refl _)];exact Qa h (Nat.le_refl _)
theorem mQ {cs:List Rec} {k:Nat} (h:k < cs.length) (j:Nat) (hj:j < 3 + (cs[k]).lits.length):(enc cs)[aj cs k + j]? = (enc1 cs[k])[j]? := by
 have e:cs=cs.take k ++ cs[k] :: cs.drop (k + 1):=by rw [<- List.drop_eq_getElem_cons h,List.take_append_drop]
 have e2:enc cs=enc (cs.take k) ++ (enc1 cs[k] ++ enc (cs.drop (k + 1))):=by
  conv=>lhs;rw [e]
  rw [dn];rfl
 rw [e2];unfold aj;rw [List.getElem?_append_right (by omega),List.getElem?_append_left (by rw [dh];omega)]
 congr 1;omega
theorem Ez {cs:List Rec} {k:Nat} (h:k < cs.length):(enc cs)[aj cs k]? = some ((cs[k]).lits.length:Int):=by
 have:=mQ h 0 (by omega)
 simpa [enc1] using this
theorem Py {cs:List Rec} {k:Nat} (h:k < cs.length):(enc cs)[aj cs k + 1]? = some ((cs[k]).kind:Int):=by
 have:=mQ h 1 (by omega)
 simpa [enc1] using this
theorem xq {cs:List Rec} {k:Nat} (h:k < cs.length):(enc cs)[aj cs k + 2]? = some (cs[k]).busy:=by
 have:=mQ h 2 (by omega)
 simpa [enc1] using this
theorem vw {cs:List Rec} {k:Nat} (h:k < cs.length) {i:Nat} (hi:i < (cs[k]).lits.length):(enc cs)[aj cs k + 3 + i]? = some (((cs[k]).lits[i]:Nat):Int):=by
 have:=mQ h (3 + i) (by omega)
 rw [show aj cs k + 3 + i=aj cs k + (3 + i) by omega,this]
 unfold enc1;rw [show 3 + i=i + 1 + 1 + 1 by omega]
 simp only [List.getElem?_cons_succ];rw [List.getElem?_map,List.getElem?_eq_getElem hi];rfl
theorem kQ {cs:List Rec} {k:Nat} (h:k < cs.length) {c:Rec} (hl:c.lits.length=(cs[k]).lits.length) (j:Nat):aj (cs.set k c) j=aj cs j:=by
 have key:∀ (l:List Rec) (k j:Nat) (h:k < l.length),c.lits.length=(l[k]).lits.length->(enc ((l.set k c).take j)).length=(enc (l.take j)).length:=by
  intro l
  induction l with
  | nil=>intro k j h;simp at h
  | cons d r ih=>
   intro k j h hl
   cases j with
   | zero=>simp
   | succ j=>
    cases k with
    | zero=>
     simp only [List.set_cons_zero,List.take_succ_cons,enc,List.length_append,dh];simp only [List.getElem_cons_zero] at hl;omega
    | succ k=>
     simp only [List.set_cons_succ,List.take_succ_cons,enc,List.length_append,dh];simp only [List.getElem_cons_succ] at hl;rw [ih k j (by simpa using h) hl]
 exact key cs k j h hl
theorem EA {cs:List Rec} {k:Nat} (h:k < cs.length) {c:Rec} (hl:c.lits.length=(cs[k]).lits.length):(enc (cs.set k c)).length=(enc cs).length:=by
 have:=kQ h hl cs.length
 rwa [dY (by simp),dY (Nat.le_refl _)] at this
theorem Bv {cs:List Rec} {k:Nat} (h:k < cs.length) {c:Rec} (hl:c.lits.length=(cs[k]).lits.length) (j:Nat):(enc (cs.set k c))[j]? = if aj cs k <= j/\j < aj cs k + (3 + (cs[k]).lits.length) then (enc1 c)[j - aj cs k]? else (enc cs)[j]? := by
 have e:cs=cs.take k ++ cs[k] :: cs.drop (k + 1):=by rw [<- List.drop_eq_getElem_cons h,List.take_append_drop]
 have e2:enc cs=enc (cs.take k) ++ (enc1 cs[k] ++ enc (cs.drop (k + 1))):=by
  conv=>lhs;rw [e]
  rw [dn];rfl
 have e3:enc (cs.set k c)=enc (cs.take k) ++ (enc1 c ++ enc (cs.drop (k + 1))):=by
  rw [List.set_eq_take_append_cons_drop,if_pos h,dn];rfl
 have l1:=dh c;have l2:=dh cs[k];have la:aj cs k=(enc (cs.take k)).length:=rfl;rw [e3,e2];split
 ·rename_i hj;rw [List.getElem?_append_right (by omega),List.getElem?_append_left (by omega),la]
 ·rename_i hj
  rcases Nat.lt_or_ge j (aj cs k) with h1 | h1
  ·rw [List.getElem?_append_left (by omega),List.getElem?_append_left (by omega)]
  ·rw [List.getElem?_append_right (by omega),List.getElem?_append_right (by omega),List.getElem?_append_right (by omega),List.getElem?_append_right (by omega)]
   congr 1;omega
theorem oC {cs:List Rec} {k:Nat} (h:k < cs.length) (b:Int):enc (cs.set k ⟨(cs[k]).kind,b,(cs[k]).lits⟩)=(enc cs).set (aj cs k + 2) b:=by
 refine List.ext_getElem? fun j=>?_
 rw [Bv (c:=⟨(cs[k]).kind,b,(cs[k]).lits⟩) h rfl,List.getElem?_set];have he:=bA h;by_cases e:aj cs k + 2=j
 ·subst e;rw [if_pos ⟨by omega,by omega⟩,if_pos rfl,if_pos (by omega)]
  simp [enc1]
 ·rw [if_neg e];split
  ·rename_i hj;obtain ⟨i,rfl⟩:∃ i,j=aj cs k + i:=⟨j - aj cs k,by omega⟩
   rw [mQ h i (by omega),Nat.add_sub_cancel_left]
   match i with
   | 0=>rfl
   | 1=>rfl
   | 2=>exact absurd rfl e
   | i + 3=>simp [enc1]
  ·rfl
theorem EB {cs:List Rec} {k:Nat} (h:k < cs.length) (b:Nat):enc (cs.set k ⟨b,(cs[k]).busy,(cs[k]).lits⟩)=(enc cs).set (aj cs k + 1) (b:Int):=by
 refine List.ext_getElem? fun j=>?_
 rw [Bv (c:=⟨b,(cs[k]).busy,(cs[k]).lits⟩) h rfl,List.getElem?_set];have he:=bA h;by_cases e:aj cs k + 1=j
 ·subst e;rw [if_pos ⟨by omega,by omega⟩,if_pos rfl,if_pos (by omega)]
  simp [enc1]
 ·rw [if_neg e];split
  ·rename_i hj;obtain ⟨i,rfl⟩:∃ i,j=aj cs k + i:=⟨j - aj cs k,by omega⟩
   rw [mQ h i (by omega),Nat.add_sub_cancel_left]
   match i with
   | 0=>rfl
   | 1=>exact absurd rfl e
   | i + 2=>simp [enc1]
  ·rfl
theorem xk {cs:List Rec} {k:Nat} (h:k < cs.length) {i:Nat} (hi:i < (cs[k]).lits.length) (x:Nat):enc (cs.set k ⟨(cs[k]).kind,(cs[k]).busy,(cs[k]).lits.set i x⟩)=(enc cs).set (aj cs k + 3 + i) (x:Int):=by
 refine List.ext_getElem? fun j=>?_
 rw [Bv h (by simp),List.getElem?_set]
 have he:=bA h;by_cases e:aj cs k + 3 + i=j
 ·subst e;rw [if_pos ⟨by omega,by omega⟩,if_pos rfl,if_pos (by omega)]
  rw [show aj cs k + 3 + i - aj cs k=i + 1 + 1 + 1 by omega]
  simp only [enc1,List.getElem?_cons_succ,List.map_set];rw [List.getElem?_set_self (by simpa using hi)]
 ·rw [if_neg e];split
  ·rename_i hj;obtain ⟨m,rfl⟩:∃ m,j=aj cs k + m:=⟨j - aj cs k,by omega⟩
   rw [mQ h m (by omega),Nat.add_sub_cancel_left]
   match m with
   | 0=>simp [enc1]
   | 1=>rfl
   | 2=>rfl
   | m + 3=>
    simp only [enc1,List.getElem?_cons_succ,List.map_set];rw [List.getElem?_set_ne (by omega)]
  ·rfl
def mapOf (cs:List Rec):eX:=fun a=>((List.range cs.length).find? fun k=>aj cs k == a).bind fun k=>(cs[k]?).map fun c=>⟨c.kind,c.lits⟩
theorem aP {cs:List Rec} {k:Nat} (h:k < cs.length):mapOf cs (aj cs k)=some ⟨(cs[k]).kind,(cs[k]).lits⟩:=by
 unfold mapOf;have:((List.range cs.length).find? fun j=>aj cs j == aj cs k)=some k:=by
  cases e:(List.range cs.length).find? fun j=>aj cs j == aj cs k with
  | none=>
   have:=List.find?_eq_none.1 e k (List.mem_range.2 h);simp at this
  | some j=>
   have h1:=List.find?_some e;have h2:=List.mem_range.1 (List.mem_of_find?_eq_some e);simp only [beq_iff_eq] at h1;rw [BJ (Nat.le_of_lt h2) (Nat.le_of_lt h) h1]
 rw [this,Option.bind_some,List.getElem?_eq_getElem h];rfl
theorem aN {cs:List Rec} {a:Nat} {c:uY} (h:mapOf cs a=some c):∃ k,∃ hk:k < cs.length,a=aj cs k/\c=⟨(cs[k]).kind,(cs[k]).lits⟩:=by
 unfold mapOf at h
 cases e:(List.range cs.length).find? fun j=>aj cs j == a with
 | none=>rw [e] at h;cases h
 | some j=>
  rw [e,Option.bind_some] at h;have h1:=List.find?_some e;have h2:=List.mem_range.1 (List.mem_of_find?_eq_some e);simp only [beq_iff_eq] at h1;rw [List.getElem?_eq_getElem h2] at h;exact ⟨j,h2,h1.symm,(Option.some.inj h).symm⟩
theorem zG {cs:List Rec} {k:Nat} (h:k < cs.length) {c:Rec} (hl:c.lits.length=(cs[k]).lits.length):mapOf (cs.set k c)=ik (mapOf cs) (aj cs k) ⟨c.kind,c.lits⟩:=by
 funext a
 have hlen:(cs.set k c).length=cs.length:=by simp
 by_cases e:a=aj cs k
 ·subst e;rw [aZ];have:=aP (cs:=cs.set k c) (k:=k) (by rw [hlen];exact h)
  rw [kQ h hl] at this;rw [this];simp
 ·rw [aJ _ _ e]
  cases e1:mapOf cs a with
  | none=>
   cases e2:mapOf (cs.set k c) a with
   | none=>rfl
   | some d=>
    obtain ⟨j,hj,ha,_⟩:=aN e2;rw [kQ h hl] at ha;rw [ha,aP (by rw [<- hlen];exact hj)] at e1;cases e1
  | some d=>
   obtain ⟨j,hj,ha,hd⟩:=aN e1;have hjk:k ≠ j:=fun e3=>e (by rw [ha,e3])
   have:=aP (cs:=cs.set k c) (k:=j) (by rw [hlen];exact hj)
   rw [kQ h hl,<- ha] at this;rw [this,hd];simp [List.getElem_set_ne hjk]
theorem kg {cs:List Rec} (c:Rec) {k:Nat} (h:k <= cs.length):aj (cs ++ [c]) k=aj cs k:=by
 unfold aj;rw [List.take_append_of_le_length h]
theorem mI (cs:List Rec) (c:Rec):mapOf (cs ++ [c])=ik (mapOf cs) (enc cs).length ⟨c.kind,c.lits⟩:=by
 funext a
 have hlen:(cs ++ [c]).length=cs.length + 1:=by simp
 have hend:aj (cs ++ [c]) cs.length=(enc cs).length:=by rw [kg c (Nat.le_refl _),dY (Nat.le_refl _)]
 by_cases e:a=(enc cs).length
 ·subst e;rw [aZ];have:=aP (cs:=cs ++ [c]) (k:=cs.length) (by omega)
  rw [hend] at this;rw [this];simp
 ·rw [aJ _ _ e]
  cases e1:mapOf cs a with
  | none=>
   cases e2:mapOf (cs ++ [c]) a with
   | none=>rfl
   | some d=>
    obtain ⟨j,hj,ha,_⟩:=aN e2
    rcases Nat.lt_or_ge j cs.length with h1 | h1
    ·rw [kg c (Nat.le_of_lt h1)] at ha;rw [ha,aP h1] at e1;cases e1
    ·have:j=cs.length:=by omega
     subst this;rw [hend] at ha;exact absurd ha e
  | some d=>
   obtain ⟨j,hj,ha,hd⟩:=aN e1;have:=aP (cs:=cs ++ [c]) (k:=j) (by omega)
   rw [kg c (Nat.le_of_lt hj),<- ha] at this;rw [this,hd,List.getElem_append_left hj]
theorem iK (cs:List Rec):mapOf cs (enc cs).length=none:=by
 cases e:mapOf cs (enc cs).length with
 | none=>rfl
 | some d=>
  obtain ⟨j,hj,ha,_⟩:=aN e;have:=bA hj;omega
section
open Rd
theorem jC {a b:Cl}:fK a b=true↔∀ x,x ∈ a↔x ∈ b:=by
 unfold fK;simp only [Bool.and_eq_true,List.all_eq_true,List.contains_iff_mem];exact ⟨fun h x=>⟨h.1 x,h.2 x⟩,fun h=>⟨fun x=>(h x).1,fun x=>(h x).2⟩⟩
theorem kH {a a':Cl} (h:∀ x,x ∈ a↔x ∈ a') (b:Cl):fK a b=fK a' b:=by
 rw [Bool.eq_iff_iff,jC,jC];exact ⟨fun g x=>(h x).symm.trans (g x),fun g x=>(h x).trans (g x)⟩
theorem CU:∀ {L:List Cl} {c:Cl},0 < L.countP (fun d=>fK d c)->∃ L',rem L c=some L'/\∀ e,L'.countP (fun d=>fK d e) + (if fK c e then 1 else 0)=L.countP (fun d=>fK d e)
 | [],c,h=>by simp at h
 | d :: r,c,h=>by
  unfold rem;by_cases e:fK d c=true
  ·rw [if_pos e];refine ⟨r,rfl,fun f=>?_⟩
   rw [List.countP_cons,kH (jC.1 e) f]
  ·rw [if_neg e];rw [List.countP_cons,if_neg e] at h;obtain ⟨L',h1,h2⟩:=CU (L:=r) (c:=c) h;refine ⟨d :: L',by rw [h1];rfl,fun f=>?_⟩
   rw [List.countP_cons,List.countP_cons,<- h2 f];omega
def kz (cs:List Rec):List (List Nat):=(cs.filter fun c=>decide (c.kind ≠ 2)).map (·.lits)
def tQ (L:List Cl) (lv:List (List Nat)):Prop:=∀ e:Cl,lv.countP (fun y=>fK (y.map wr) e) <= L.countP (fun d=>fK d e)
theorem tQ.there {L:List Cl} {lv:List (List Nat)} (h:tQ L lv) {c:List Nat} (hc:c ∈ lv):There L c:=by
 have h1:=h (c.map wr);have h2:0 < lv.countP (fun y=>fK (y.map wr) (c.map wr)):=List.countP_pos_iff.2 ⟨c,hc,jC.2 fun x=>Iff.rfl⟩
 obtain ⟨d,hd,hs⟩:=List.countP_pos_iff.1 (Nat.lt_of_lt_of_le h2 h1);refine ⟨d,hd,fun x=>?_⟩
 rw [jC.1 hs x,List.mem_map]
theorem tQ.add {L:List Cl} {lv:List (List Nat)} (h:tQ L lv) (c:List Nat) {d:Cl} (hd:∀ x,x ∈ d↔∃ y ∈ c,wr y=x):tQ (L ++ [d]) (lv ++ [c]):=fun e=>by
 rw [List.countP_append,List.countP_append];have:=h e;have h2:fK (c.map wr) e=fK d e:=kH (fun x=>by rw [hd x,List.mem_map]) e
 simp only [List.countP_cons,List.countP_nil,h2];omega
theorem tQ.more {L:List Cl} {lv:List (List Nat)} (h:tQ L lv) (d:Cl):tQ (L ++ [d]) lv:=fun e=>by
 rw [List.countP_append];have:=h e;omega
theorem tQ.congr {L:List Cl} {lv YV:List (List Nat)} (h:tQ L lv) (hp:∀ e:Cl,YV.countP (fun y=>fK (y.map wr) e) <= lv.countP (fun y=>fK (y.map wr) e)):tQ L YV:=fun e=>Nat.le_trans (hp e) (h e)
theorem tQ.del {L:List Cl} {lv YV:List (List Nat)} (h:tQ L lv) {c:List Nat} (hc:∀ e:Cl,YV.countP (fun y=>fK (y.map wr) e) + (if fK (c.map wr) e then 1 else 0)=lv.countP (fun y=>fK (y.map wr) e)) {d:Cl} (hd:∀ x,x ∈ d↔∃ y ∈ c,wr y=x):∃ L',rem L d=some L'/\tQ L' YV:=by
 have hs:∀ e,fK (c.map wr) e=fK d e:=fun e=>kH (fun x=>by rw [hd x,List.mem_map]) e
 obtain ⟨L',h1,h2⟩:=CU (L:=L) (c:=d) (by
  have h3:=h d;have h4:=hc d;rw [hs d,if_pos (jC.2 fun x=>Iff.rfl)] at h4
  omega)
 refine ⟨L',h1,fun e=>?_⟩
 have h3:=h e;have h4:=hc e;have h5:=h2 e;rw [hs e] at h4;omega
theorem mJ (cs:List Rec) (c:Rec) (hk:c.kind ≠ 2):kz (cs ++ [c])=kz cs ++ [c.lits]:=by
 unfold kz;rw [List.filter_append];simp [hk]
theorem Kl {cs:List Rec} {k:Nat} (h:k < cs.length):kz cs=kz (cs.take k) ++ (kz [cs[k]] ++ kz (cs.drop (k + 1))):=by
 have e:cs=cs.take k ++ ([cs[k]] ++ cs.drop (k + 1)):=by
  rw [List.singleton_append,<- List.drop_eq_getElem_cons h,List.take_append_drop]
 conv=>lhs;rw [e]
 unfold kz;rw [List.filter_append,List.map_append,List.filter_append,List.map_append]
theorem Ti {cs:List Rec} {k:Nat} (h:k < cs.length) (c:Rec):kz (cs.set k c)=kz (cs.take k) ++ (kz [c] ++ kz (cs.drop (k + 1))):=by
 have e:cs.set k c=cs.take k ++ ([c] ++ cs.drop (k + 1)):=by
  rw [List.set_eq_take_append_cons_drop,if_pos h];rfl
 rw [e];unfold kz;rw [List.filter_append,List.map_append,List.filter_append,List.map_append]
theorem tQ.delete {L:List Cl} {cs:List Rec} (h:tQ L (kz cs)) {k:Nat} (hk:k < cs.length) (hl:(cs[k]).kind ≠ 2) (b:Int) {d:Cl} (hd:∀ x,x ∈ d↔∃ y ∈ (cs[k]).lits,wr y=x):∃ L',rem L d=some L'/\tQ L' (kz (cs.set k ⟨2,b,(cs[k]).lits⟩)):=
 h.del (c:=(cs[k]).lits) (fun e=>by
  rw [Ti hk,Kl hk];simp only [List.countP_append];have h1:kz [(⟨2,b,(cs[k]).lits⟩:Rec)]=[]:=by simp [kz]
  have h2:kz [cs[k]]=[(cs[k]).lits]:=by simp [kz,hl]
  rw [h1,h2];simp only [List.countP_cons,List.countP_nil];omega) hd
theorem Tf {cs:List Rec} {a:Nat} {c:uY} (h:mapOf cs a=some c) (hk:c.kind ≠ 2):c.lits ∈ kz cs:=by
 obtain ⟨k,hk',_,rfl⟩:=aN h;exact List.mem_map.2 ⟨cs[k],List.mem_filter.2 ⟨List.getElem_mem hk',decide_eq_true hk⟩,rfl⟩
theorem tQ.hL {L:List Cl} {cs:List Rec} (h:tQ L (kz cs)):∀ a c,mapOf cs a=some c->c.kind ≠ 2->There L c.lits:=fun a c h1 h2=>h.there (Tf h1 h2)
def iD:List Cl->List (Bool × Cl)->List Cl->Prop
 | L,[],L'=>L'=L
 | L,(true,c) :: r,L'=>∃ M,rem L c=some M/\iD M r L'
 | L,(false,c) :: r,L'=>c ≠ []/\bH L c/\iD (L ++ [c]) r L'
theorem iD.add:∀ {ls:List (Bool × Cl)} {L L':List Cl},iD L ls L'->∀ {c:Cl},c ≠ []->bH L' c->iD L (ls ++ [(false,c)]) (L' ++ [c])
 | [],L,L',h,c,h1,h2=>by
  have h:L'=L:=h;subst h;exact ⟨h1,h2,rfl⟩
 |(true,d) :: r,L,L',h,c,h1,h2=>by
  obtain ⟨M,g1,g2⟩:=h;exact ⟨M,g1,iD.add g2 h1 h2⟩
 |(false,d) :: r,L,L',h,c,h1,h2=>by
  obtain ⟨g1,g2,g3⟩:=h;exact ⟨g1,g2,iD.add g3 h1 h2⟩
theorem iD.del:∀ {ls:List (Bool × Cl)} {L L':List Cl},iD L ls L'->∀ {c:Cl} {M:List Cl},rem L' c=some M->iD L (ls ++ [(true,c)]) M
 | [],L,L',h,c,M,h1=>by
  have h:L'=L:=h;subst h;exact ⟨M,h1,rfl⟩
 |(true,d) :: r,L,L',h,c,M,h1=>by
  obtain ⟨M',g1,g2⟩:=h;exact ⟨M',g1,iD.del g2 h1⟩
 |(false,d) :: r,L,L',h,c,M,h1=>by
  obtain ⟨g1,g2,g3⟩:=h;exact ⟨g1,g2,iD.del g3 h1⟩
theorem yo {L:List Cl} {c:List Nat} {k:List Nat} (h:nJ L (k.map wr)) (hk:∀ y ∈ k,op y ∈ c):bH L (c.map wr):=by
 left
 intro M hM hc;refine h M hM fun l hl=>?_
 obtain ⟨y,hy,rfl⟩:=List.mem_map.1 hl;refine hc _ ?_;unfold IE;refine List.mem_map.2 ⟨wr (op y),List.mem_filter.2 ⟨List.mem_map.2 ⟨op y,hk y hy,rfl⟩,?_⟩,by rw [Cf];omega⟩
 have:=Mi (op y);simpa using this
theorem zq {L:List Cl} (h:nJ L []):bH L []:=.inl h
variable {n:Nat} {tr ch:List Nat} {lev:Nat->Nat} {C:eX} {rea:Nat->Int}
def tL (C:eX) (tr:List Nat) (lev:Nat->Nat):Prop:=∀ a c,C a=some c->c.kind ≠ 2->c.lits.length < 2->∃ x,c.lits=[x]/\x ∈ tr/\lev (x / 2)=0
theorem Us (ht:fM n tr ch lev) (hcl:uI n C) (hs:nI C tr lev tr.length) (hu:tL C tr lev) (ha:∀ v,v < n->∃ x ∈ tr,x / 2=v) {a:Nat} {c:uY} (hc:C a=some c) (hk:c.kind ≠ 2):∃ x ∈ c.lits,x ∈ tr:=by
 match e:c.lits with
 | []=>obtain ⟨x,hx,_⟩:=hu a c hc hk (by rw [e];simp);rw [e] at hx;cases hx
 | [y]=>
  obtain ⟨x,hx,hx2,_⟩:=hu a c hc hk (by rw [e];simp)
  rw [e] at hx;cases hx
  exact ⟨y,by simp,hx2⟩
 | p :: q :: r=>
  have hp:p < 2 * n:=hcl.lt a c hc p (by rw [e];simp)
  obtain ⟨x,hx,hv⟩:=ha (p / 2) (by omega)
  rcases nT hv with rfl | rfl
  ·exact ⟨x,by simp,hx⟩
  ·obtain ⟨j,hj,ej⟩:=List.mem_iff_getElem.1 hx;exact ⟨q,by simp,((hs a c p q r hc hk e).1 j hj hj ej).1⟩
theorem wF {L:List Cl} (ht:fM n tr [] lev) (hr:lh C tr [] rea) (hL:∀ a c,C a=some c->c.kind ≠ 2->There L c.lits) {c0:List Nat} (h0:There L c0) (hf:∀ y ∈ c0,op y ∈ tr):nJ L []:=
 Pv (hr.trail ht hL) (fun i hi=>by
  obtain ⟨a,c,r,_,_,_,_,h5,_⟩:=Aa (hr.why i hi (by simp))
  exact ⟨_,h5⟩) h0 hf
end
end So
end Go.Proofs.YtceahffmenbibaaGreatDoor
