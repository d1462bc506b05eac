/- Sexp Senc Smat. -/
import Derived.Test.YtceahffmenbibaaGreatDoorG03
set_option linter.unusedVariables false
set_option linter.unusedSimpArgs false
namespace Go.Proofs.YtceahffmenbibaaGreatDoor
namespace So
variable {n:Nat} {tr ch:List Nat} {lev:Nat→Nat} {C:Cmap} {rea:Nat→Int} {rs:Nat→Option (List Nat)}
def vr (tr:List Nat) (j:Nat):Nat:=(tr.getD j 0) / 2
theorem vr_at {tr:List Nat} {j:Nat} (h:j < tr.length):vr tr j=tr[j] / 2:=by
 unfold vr;rw [List.getD_eq_getElem?_getD,List.getElem?_eq_getElem h];rfl
def cntS (tr:List Nat) (last i:Nat) (seen:Nat→Bool):Nat:=((List.range i).filter fun j=>decide (last ≤ j) && seen (vr tr j)).length
theorem cntS_succ (tr:List Nat) (last i:Nat) (seen:Nat→Bool):cntS tr last (i + 1) seen=cntS tr last i seen + if last ≤ i∧seen (vr tr i)=true then 1 else 0:=by
 unfold cntS
 rw [List.range_succ,List.filter_append,List.length_append]
 by_cases h1:last ≤ i <;> by_cases h2:seen (vr tr i)=true <;> simp [h1,h2]
theorem cntS_low {tr:List Nat} {last i:Nat} {seen:Nat→Bool} (h:i ≤ last):cntS tr last i seen=0:=by
 unfold cntS
 rw [List.length_eq_zero_iff,List.filter_eq_nil_iff]
 intro j hj
 have:=List.mem_range.1 hj
 simp;omega
theorem cntS_zero {tr:List Nat} {last i:Nat} {seen:Nat→Bool} (h:cntS tr last i seen=0) {j:Nat} (hj:j < i) (hl:last ≤ j):seen (vr tr j)=false:=by
 unfold cntS at h
 rw [List.length_eq_zero_iff,List.filter_eq_nil_iff] at h
 have:=h j (List.mem_range.2 hj)
 simpa [hl] using this
theorem cntS_upd (ht:TrI n tr ch lev) {last:Nat} {seen:Nat→Bool} {j:Nat} (hj:j < tr.length) (hs:seen (tr[j] / 2)=false):∀ b,b ≤ tr.length→cntS tr last b (updN seen (tr[j] / 2) true)=cntS tr last b seen + if last ≤ j∧j < b then 1 else 0:=by
 intro b
 induction b with
 | zero=>intro _;simp [cntS]
 | succ b ih=>
  intro hb
  rw [cntS_succ,cntS_succ,ih (by omega)]
  have hb':b < tr.length:=by omega
  by_cases e:b=j
  ·subst e
   rw [vr_at hb',updN_self,hs]
   by_cases h1:last ≤ b
   ·simp [h1]
   ·simp [h1]
  ·have:vr tr b ≠ tr[j] / 2:=fun e2=>by
    rw [vr_at hb'] at e2
    exact e (ht.pos_inj hb' hj e2)
   rw [updN_other _ _ this]
   by_cases h2:last ≤ j∧j < b
   ·rw [if_pos h2,if_pos (show last ≤ j∧j < b + 1 from ⟨h2.1,by omega⟩)];omega
   ·rw [if_neg h2,if_neg (show ¬ (last ≤ j∧j < b + 1) from fun h3=>h2 ⟨h3.1,by omega⟩)];omega
structure Lk where
 seen:Nat→Bool
 les:List Nat
 opn:Nat
def lk1 (lev:Nat→Nat) (d:Nat) (s:Lk) (y:Nat):Lk:=
 if s.seen (y / 2)=true∨lev (y / 2)=0 then s
 else if lev (y / 2)=d then ⟨updN s.seen (y / 2) true,s.les,s.opn + 1⟩
 else ⟨updN s.seen (y / 2) true,s.les ++ [y],s.opn⟩
structure LkI (tr:List Nat) (lev:Nat→Nat) (d:Nat) (s:Lk):Prop where
 asg:∀ v,s.seen v=true→0 < lev v∧∃ j,∃ h:j < tr.length,tr[j] / 2=v
 les:∀ y,y ∈ s.les↔op y ∈ tr∧s.seen (y / 2)=true∧lev (y / 2) ≠ d
 nd:(s.les.map (· / 2)).Nodup
theorem LkI.start (tr:List Nat) (lev:Nat→Nat) (d:Nat):LkI tr lev d ⟨fun _=>false,[],0⟩:=⟨fun v h=>(by cases h),fun y=>(by simp),by simp⟩
theorem LkI.zero {tr:List Nat} {lev:Nat→Nat} {d:Nat} {s:Lk} (h:LkI tr lev d s) (k:Nat):LkI tr lev d ⟨s.seen,s.les,k⟩:=⟨h.asg,h.les,h.nd⟩
theorem lk1_inv (ht:TrI n tr ch lev) {d:Nat} {s:Lk} (h:LkI tr lev d s) {y j:Nat} (hj:j < tr.length) (hy:tr[j]=op y):LkI tr lev d (lk1 lev d s y)∧(∀ v,s.seen v=true→(lk1 lev d s y).seen v=true)∧(lev (y / 2)=0∨(lk1 lev d s y).seen (y / 2)=true):=by
 have hv:tr[j] / 2=y / 2:=by rw [hy,op_var]
 have hm:op y ∈ tr:=hy ▸ List.getElem_mem hj
 unfold lk1
 split
 ·rename_i h1
  exact ⟨h,fun _ h=>h,h1.symm⟩
 ·rename_i h1
  have hs:s.seen (y / 2)=false:=by
   cases e:s.seen (y / 2) with
   | false=>rfl
   | true=>exact absurd (.inl e) h1
  have h0:lev (y / 2) ≠ 0:=fun e=>h1 (.inr e)
  have mono:∀ v,s.seen v=true→updN s.seen (y / 2) true v=true:=fun v hv=>by
   by_cases e:v=y / 2
   ·rw [e,updN_self]
   ·rw [updN_other _ _ e];exact hv
  have asg:∀ v,updN s.seen (y / 2) true v=true→0 < lev v∧∃ j,∃ h:j < tr.length,tr[j] / 2=v:=fun v hv2=>by
   by_cases e:v=y / 2
   ·rw [e];exact ⟨by omega,j,hj,hv⟩
   ·rw [updN_other _ _ e] at hv2;exact h.asg v hv2
  have uniq:∀ z,op z ∈ tr→z / 2=y / 2→z=y:=fun z hz e=>by
   rcases same_var e with e1 | e1
   ·exact e1
   ·rw [e1,op_op] at hz
    exact (ht.not_both hz hm).elim
  split
  ·rename_i h2
   refine ⟨⟨asg,fun z=>?_,h.nd⟩,mono,.inr (updN_self ..)⟩
   show z ∈ s.les↔_
   rw [h.les z]
   constructor
   ·rintro ⟨g1,g2,g3⟩;exact ⟨g1,mono _ g2,g3⟩
   ·rintro ⟨g1,g2,g3⟩
    refine ⟨g1,?_,g3⟩
    have e:z / 2 ≠ y / 2:=fun e=>g3 (by rw [e];exact h2)
    have g2:updN s.seen (y / 2) true (z / 2)=true:=g2
    rw [updN_other _ _ e] at g2;exact g2
  ·rename_i h2
   refine ⟨⟨asg,fun z=>?_,?_⟩,mono,.inr (updN_self ..)⟩
   ·show z ∈ s.les ++ [y]↔_
    rw [List.mem_append,h.les z]
    constructor
    ·rintro (⟨g1,g2,g3⟩ | g)
     ·exact ⟨g1,mono _ g2,g3⟩
     ·simp at g;subst g;exact ⟨hm,updN_self ..,h2⟩
    ·rintro ⟨g1,g2,g3⟩
     have g2:updN s.seen (y / 2) true (z / 2)=true:=g2
     by_cases e:z / 2=y / 2
     ·exact .inr (by simp [uniq z g1 e])
     ·rw [updN_other _ _ e] at g2;exact .inl ⟨g1,g2,g3⟩
   ·show ((s.les ++ [y]).map (· / 2)).Nodup
    rw [List.map_append]
    refine List.nodup_append.2 ⟨h.nd,by simp,fun a ha b hb=>?_⟩
    simp at hb;subst hb
    obtain ⟨z,hz,rfl⟩:=List.mem_map.1 ha
    intro e
    have e:z / 2=y / 2:=e
    have:=((h.les z).1 hz).2.1
    rw [e,hs] at this;cases this
theorem last_iff (ht:TrI n tr ch lev) (hd:0 < ch.length) {j:Nat} (hj:j < tr.length):lev (tr[j] / 2)=ch.length↔ch[ch.length - 1] ≤ j:=by
 have h1:=cnt_lt ht.incr (d:=ch.length - 1) (by omega) (i:=j)
 have h2:=cnt_le ch j
 rw [ht.lev j hj]
 constructor
 ·intro e
  rcases Nat.lt_or_ge j ch[ch.length - 1] with h3 | h3
  ·have:=h1.2 h3;omega
  ·exact h3
 ·intro h3
  rcases Nat.lt_or_ge (ch.length - 1) (cnt ch j) with h4 | h4
  ·omega
  ·have:=h1.1 h4;omega
theorem lk1_cnt (ht:TrI n tr ch lev) (hd:0 < ch.length) {s:Lk} {y j b k:Nat} (hj:j < tr.length) (hy:tr[j]=op y) (hjb:j < b) (hb:b ≤ tr.length) (hc:s.opn + k=cntS tr ch[ch.length - 1] b s.seen):(lk1 lev ch.length s y).opn + k=cntS tr ch[ch.length - 1] b (lk1 lev ch.length s y).seen:=by
 have hv:tr[j] / 2=y / 2:=by rw [hy,op_var]
 unfold lk1
 split
 ·exact hc
 ·rename_i h1
  have hs:s.seen (tr[j] / 2)=false:=by
   rw [hv]
   cases e:s.seen (y / 2) with
   | false=>rfl
   | true=>exact absurd (.inl e) h1
  have hu:=cntS_upd ht (last:=ch[ch.length - 1]) hj hs b hb
  have hl:=last_iff ht hd hj
  rw [hv] at hu hl
  split
  ·rename_i h2
   show s.opn + 1 + k=cntS tr ch[ch.length - 1] b (updN s.seen (y / 2) true)
   rw [hu,if_pos ⟨hl.1 h2,hjb⟩];omega
  ·rename_i h2
   show s.opn + k=cntS tr ch[ch.length - 1] b (updN s.seen (y / 2) true)
   rw [hu,if_neg (fun h3=>h2 (hl.2 h3.1))];omega
theorem lk_all (ht:TrI n tr ch lev) (hd:0 < ch.length) {b k:Nat} (hb:b ≤ tr.length):∀ (ys:List Nat) (s:Lk),(∀ y ∈ ys,∃ j,∃ h:j < tr.length,j < b∧tr[j]=op y)→LkI tr lev ch.length s→s.opn + k=cntS tr ch[ch.length - 1] b s.seen→
  LkI tr lev ch.length (ys.foldl (lk1 lev ch.length) s)∧(ys.foldl (lk1 lev ch.length) s).opn + k=cntS tr ch[ch.length - 1] b (ys.foldl (lk1 lev ch.length) s).seen∧(∀ v,s.seen v=true→(ys.foldl (lk1 lev ch.length) s).seen v=true)∧∀ y ∈ ys,lev (y / 2)=0∨(ys.foldl (lk1 lev ch.length) s).seen (y / 2)=true
 | [],s,_,h,hc=>⟨h,hc,fun _ h=>h,fun y hy=>by simp at hy⟩
 | y :: r,s,hy,h,hc=>by
  obtain ⟨j,hj,hjb,ej⟩:=hy y (List.mem_cons_self ..)
  obtain ⟨g1,g2,g3⟩:=lk1_inv ht h hj ej
  have g4:=lk1_cnt ht hd hj ej hjb hb hc
  obtain ⟨k1,k2,k3,k4⟩:=lk_all ht hd hb r (lk1 lev ch.length s y) (fun z hz=>hy z (List.mem_cons_of_mem _ hz)) g1 g4
  refine ⟨k1,k2,fun v hv=>k3 v (g2 v hv),fun z hz=>?_⟩
  rcases List.mem_cons.1 hz with rfl | hz
  ·exact g3.imp id (fun h=>k3 _ h)
  ·exact k4 z hz
theorem lk_new {b d:Nat}:∀ (ys:List Nat) (t:Lk),(∀ y ∈ ys,∃ j,∃ hj:j < tr.length,j < b∧tr[j]=op y)→∀ v,(ys.foldl (lk1 lev d) t).seen v=true→t.seen v=true∨∃ j,∃ hj:j < tr.length,j < b∧tr[j] / 2=v:=by
 intro ys
 induction ys with
 | nil=>intro t _ v hv;exact .inl hv
 | cons y ys ih=>
  intro t hy v hv
  rcases ih (lk1 lev d t y) (fun z hz=>hy z (List.mem_cons_of_mem _ hz)) v hv with g | g
  ·obtain ⟨m,hm,hmi,em⟩:=hy y (List.mem_cons_self ..)
   by_cases e2:v=y / 2
   ·exact .inr ⟨m,hm,hmi,by rw [em,op_var,e2]⟩
   ·left
    unfold lk1 at g
    split at g
    ·exact g
    ·split at g
     ·have g:updN t.seen (y / 2) true v=true:=g
      rw [updN_other _ _ e2] at g;exact g
     ·have g:updN t.seen (y / 2) true v=true:=g
      rw [updN_other _ _ e2] at g;exact g
  ·exact .inr g
structure ExI (tr ch:List Nat) (lev:Nat→Nat) (rs:Nat→Option (List Nat)) (last:Nat) (c0:List Nat) (i:Nat) (s:Lk):Prop where
 lk:LkI tr lev ch.length s
 first:∀ y ∈ c0,lev (y / 2)=0∨s.seen (y / 2)=true
 done:∀ j (h:j < tr.length),i ≤ j→s.seen (tr[j] / 2)=true→By tr rs (fun v=>lev v=0∨s.seen v=true) j
 cnt:s.opn=cntS tr last i s.seen
 pos:1 ≤ s.opn
 ile:i ≤ tr.length
variable {c0:List Nat}
theorem ExI.start (ht:TrI n tr ch lev) (hd:0 < ch.length) (hf:∀ y ∈ c0,op y ∈ tr) {y0:Nat} (h0:y0 ∈ c0) (hl:lev (y0 / 2)=ch.length):ExI tr ch lev rs ch[ch.length - 1] c0 tr.length (c0.foldl (lk1 lev ch.length) ⟨fun _=>false,[],0⟩):=by
 have hz:∀ b,cntS tr ch[ch.length - 1] b (fun _=>false)=0:=fun b=>by
  unfold cntS;rw [List.length_eq_zero_iff,List.filter_eq_nil_iff];simp
 obtain ⟨k1,k2,k3,k4⟩:=lk_all ht hd (b:=tr.length) (k:=0) (Nat.le_refl _) c0 ⟨fun _=>false,[],0⟩ (fun y hy=>by
  obtain ⟨j,hj,e⟩:=List.mem_iff_getElem.1 (hf y hy)
  exact ⟨j,hj,hj,e⟩) (LkI.start ..) (by rw [hz])
 refine ⟨k1,k4,fun j h hj=>by omega,by simpa using k2,?_,Nat.le_refl _⟩
 have hs:(c0.foldl (lk1 lev ch.length) ⟨fun _=>false,[],0⟩).seen (y0 / 2)=true:=by
  rcases k4 y0 h0 with e | e
  ·omega
  ·exact e
 obtain ⟨j,hj,ej⟩:=List.mem_iff_getElem.1 (hf y0 h0)
 have hv:tr[j] / 2=y0 / 2:=by rw [ej,op_var]
 rcases Nat.eq_zero_or_pos (cntS tr ch[ch.length - 1] tr.length (c0.foldl (lk1 lev ch.length) ⟨fun _=>false,[],0⟩).seen) with e | e
 ·have:=cntS_zero e hj ((last_iff ht hd hj).1 (by rw [hv];exact hl))
  rw [vr_at hj,hv,hs] at this;cases this
 ·omega
theorem ExI.more {last i:Nat} {s:Lk} (h:ExI tr ch lev rs last c0 i s):∃ j,i=j + 1∧last ≤ j:=by
 have h1:=h.cnt
 have h2:=h.pos
 rcases Nat.lt_or_ge last i with h3 | h3
 ·exact ⟨i - 1,by omega,by omega⟩
 ·rw [cntS_low h3] at h1;omega
theorem ExI.skip {last i:Nat} {s:Lk} (h:ExI tr ch lev rs last c0 (i + 1) s) (hs:s.seen (vr tr i)=false):ExI tr ch lev rs last c0 i s where
 lk:=h.lk
 first:=h.first
 done:=fun j hj hij hsj=>by
  rcases Nat.eq_or_lt_of_le hij with e | e
  ·subst e;rw [vr_at hj] at hs;rw [hs] at hsj;cases hsj
  ·exact h.done j hj e hsj
 cnt:=by rw [h.cnt,cntS_succ,hs];simp
 pos:=h.pos
 ile:=by have:=h.ile;omega
theorem ExI.step (ht:TrI n tr ch lev) (hd:0 < ch.length) {i:Nat} {s:Lk} (h:ExI tr ch lev rs ch[ch.length - 1] c0 (i + 1) s) (hi:i < tr.length) (hs:s.seen (tr[i] / 2)=true) (ho:s.opn ≠ 1) {c r:List Nat} (hc:rs (tr[i] / 2)=some c) (hcl:c=tr[i] :: r) (hr:∀ y ∈ r,∃ j,∃ hj:j < tr.length,j < i∧tr[j]=op y):
  ∃ more,(c.foldl (lk1 lev ch.length) ⟨s.seen,s.les,0⟩).opn=more∧ExI tr ch lev rs ch[ch.length - 1] c0 i ⟨(c.foldl (lk1 lev ch.length) ⟨s.seen,s.les,0⟩).seen,(c.foldl (lk1 lev ch.length) ⟨s.seen,s.les,0⟩).les,s.opn + more - 1⟩:=by
 have e1:c.foldl (lk1 lev ch.length) ⟨s.seen,s.les,0⟩=r.foldl (lk1 lev ch.length) ⟨s.seen,s.les,0⟩:=by
  rw [hcl,List.foldl_cons]
  congr 1
  unfold lk1
  rw [if_pos (.inl hs)]
 rw [e1]
 have hlast:ch[ch.length - 1] ≤ i:=by
  obtain ⟨j,e,hl⟩:=h.more
  omega
 obtain ⟨k1,k2,k3,k4⟩:=lk_all ht hd (b:=i + 1) (k:=s.opn) (by omega) r ⟨s.seen,s.les,0⟩ (fun y hy=>by
  obtain ⟨j,hj,hji,e⟩:=hr y hy
  exact ⟨j,hj,by omega,e⟩) (h.lk.zero 0) (by rw [h.cnt];simp)
 have hsi:=k3 _ hs
 have nw:=lk_new (lev:=lev) (d:=ch.length) r ⟨s.seen,s.les,0⟩ hr
 generalize r.foldl (lk1 lev ch.length) ⟨s.seen,s.les,0⟩=s' at *
 refine ⟨_,rfl,⟨k1.asg,k1.les,k1.nd⟩,fun y hy=>(h.first y hy).imp id (k3 _),fun j hj hij hsj=>?_,?_,?_,by omega⟩
 ·rcases Nat.eq_or_lt_of_le hij with e | e
  ·subst e
   refine ⟨hj,c,r,hc,hcl,k4⟩
  ·by_cases h3:s.seen (tr[j] / 2)=true
   ·exact (h.done j hj e h3).mono fun v hv=>hv.imp id (k3 v)
   ·
    exfalso
    rcases nw _ hsj with g | ⟨m,hm,hmi,em⟩
    ·exact h3 g
    ·have:=ht.pos_inj hm hj em;omega
 ·show s.opn + s'.opn - 1=cntS tr ch[ch.length - 1] i s'.seen
  rw [cntS_succ,vr_at hi,if_pos ⟨hlast,hsi⟩] at k2
  omega
 ·show 1 ≤ s.opn + s'.opn - 1
  have:=h.pos
  omega
theorem ExI.forced (ht:TrI n tr ch lev) (hd:0 < ch.length) {i:Nat} {s:Lk} (h:ExI tr ch lev rs ch[ch.length - 1] c0 (i + 1) s) (ho:s.opn ≠ 1):i ∉ ch:=fun hm=>by
 have h1:=h.pos
 have h2:=h.cnt
 obtain ⟨m,hm2,e⟩:=List.mem_iff_getElem.1 hm
 have:i ≤ ch[ch.length - 1]:=by
  rcases Nat.lt_or_ge m (ch.length - 1) with h3 | h3
  ·have:=List.pairwise_iff_getElem.1 ht.incr.1 m (ch.length - 1) hm2 (by omega) h3;omega
  ·have:m=ch.length - 1:=by omega
   subst this;omega
 rw [cntS_succ,cntS_low this] at h2
 split at h2 <;> omega
def rsOf (C:Cmap) (rea:Nat→Int) (v:Nat):Option (List Nat):=if rea v=-1 then none else (C (rea v).toNat).map (·.lits)
theorem why_rs {i:Nat} {h:i < tr.length} (hw:Why C tr rea i h):∃ a c r,rea (tr[i] / 2)=(a:Nat)∧C a=some c∧c.kind ≠ 2∧c.lits=tr[i] :: r∧rsOf C rea (tr[i] / 2)=some c.lits∧∀ y ∈ r,∃ j,∃ hj:j < tr.length,j < i∧tr[j]=op y:=by
 obtain ⟨a,c,r,h1,h2,h3,h4,h5⟩:=hw
 refine ⟨a,c,r,h1,h2,h3,h4,?_,h5⟩
 unfold rsOf
 rw [if_neg (by omega),h1,Int.toNat_natCast,h2];rfl
theorem ReI.trail {L:List Rd.Cl} (h:ReI C tr ch rea) (ht:TrI n tr ch lev) (hL:∀ a c,C a=some c→c.kind ≠ 2→There L c.lits):Trail L tr (rsOf C rea) where
 nodup:=ht.nodup
 why:=fun i hi c hc=>by
  by_cases hm:i ∈ ch
  ·unfold rsOf at hc
   rw [if_pos (h.cho i hi hm)] at hc;cases hc
  ·obtain ⟨a,c',r,h1,h2,h3,h4,h5,h6⟩:=why_rs (h.why i hi hm)
   rw [h5] at hc;cases hc
   exact ⟨r,h4,hL a c' h2 h3,h6⟩
def forcedB (rs:Nat→Option (List Nat)) (fol:Nat→Bool) (v:Nat):Bool:=match rs v with
 | none=>false
 | some c=>c.tail.all fun y=>fol (y / 2)
structure SmI (tr:List Nat) (rs:Nat→Option (List Nat)) (seen:Nat→Bool) (j:Nat) (fol:Nat→Bool):Prop where
 why:∀ k (h:k < tr.length),k < j→fol (tr[k] / 2)=true→seen (tr[k] / 2)=true∨By tr rs (fun v=>∃ m,∃ hm:m < tr.length,m < k∧tr[m] / 2=v∧fol v=true) k
theorem SmI.start (tr:List Nat) (rs:Nat→Option (List Nat)) (seen fol:Nat→Bool):SmI tr rs seen 0 fol:=⟨fun k h hk=>by omega⟩
theorem forced_by {L:List Rd.Cl} (T:Trail L tr rs) {fol:Nat→Bool} {k:Nat} (hk:k < tr.length) (hf:forcedB rs fol (tr[k] / 2)=true):By tr rs (fun v=>∃ m,∃ hm:m < tr.length,m < k∧tr[m] / 2=v∧fol v=true) k:=by
 unfold forcedB at hf
 cases e:rs (tr[k] / 2) with
 | none=>rw [e] at hf;cases hf
 | some c=>
  rw [e] at hf
  obtain ⟨r,h1,h2,h3⟩:=T.why k hk c e
  refine ⟨hk,c,r,e,h1,fun y hy=>?_⟩
  rw [h1] at hf
  simp only [List.tail_cons,List.all_eq_true] at hf
  obtain ⟨j,hj,hjk,ej⟩:=h3 y hy
  exact ⟨j,hj,hjk,by rw [ej,op_var],hf y hy⟩
theorem SmI.step {L:List Rd.Cl} (T:Trail L tr rs) (ht:TrI n tr ch lev) {seen fol:Nat→Bool} {j:Nat} (h:SmI tr rs seen j fol) (hj:j < tr.length):SmI tr rs seen (j + 1) (updN fol (tr[j] / 2) (seen (tr[j] / 2) || forcedB rs fol (tr[j] / 2))) where
 why:=fun k hk hkj hf=>by
  have ne:∀ m (hm:m < tr.length),m < j→tr[m] / 2 ≠ tr[j] / 2:=fun m hm hmj e=>by
   have:=ht.pos_inj hm hj e;omega
  have up:∀ k (hk:k < tr.length),k ≤ j→By tr rs (fun v=>∃ m,∃ hm:m < tr.length,m < k∧tr[m] / 2=v∧fol v=true) k→By tr rs (fun v=>∃ m,∃ hm:m < tr.length,m < k∧tr[m] / 2=v∧updN fol (tr[j] / 2) (seen (tr[j] / 2) || forcedB rs fol (tr[j] / 2)) v=true) k:=fun k hk hkj hb=>hb.mono fun v ⟨m,hm,hmk,e,hv⟩=>⟨m,hm,hmk,e,by rw [updN_other _ _ (by rw [← e];exact ne m hm (by omega))];exact hv⟩
  rcases Nat.lt_succ_iff_lt_or_eq.1 hkj with h1 | h1
  ·rw [updN_other _ _ (ne k hk h1)] at hf
   exact (h.why k hk h1 hf).imp id (up k hk (by omega))
  ·subst h1
   rw [updN_self,Bool.or_eq_true] at hf
   exact hf.imp id fun hf=>up k hk (Nat.le_refl _) (forced_by T hk hf)
theorem lesson_of {L:List Rd.Cl} (T:Trail L tr (rsOf C rea)) (ht:TrI n tr ch lev) (hre:ReI C tr ch rea) (hd:0 < ch.length) {i:Nat} {s:Lk} (h:ExI tr ch lev (rsOf C rea) ch[ch.length - 1] c0 (i + 1) s) (hi:i < tr.length) (hs:s.seen (tr[i] / 2)=true) (ho:s.opn=1) {fol:Nat→Bool} (hsm:SmI tr (rsOf C rea) s.seen ch[ch.length - 1] fol):
  Lesson tr (rsOf C rea) lev ch[ch.length - 1] c0 (fun v=>s.seen v=true) (fun v=>∃ m,∃ hm:m < tr.length,m < ch[ch.length - 1]∧tr[m] / 2=v∧fol v=true) i (s.les.filter fun y=>!forcedB (rsOf C rea) fol (y / 2)):=by
 obtain ⟨j,ej,hlast⟩:=h.more
 have ej:j=i:=by omega
 subst ej
 have hc:=h.cnt
 rw [cntS_succ,vr_at hi,if_pos ⟨hlast,hs⟩,ho] at hc
 exact {
  hiu:=hi
  first:=h.first
  behind:=fun k hk hik hsk=>h.done k hk hik hsk
  low:=fun k hk hlk hki hsk=>by
   have:=cntS_zero (show cntS tr ch[ch.length - 1] j s.seen=0 by omega) hki hlk
   rw [vr_at hk,hsk] at this;cases this
  lastu:=hlast
  follows:=fun k hk hkl ⟨m,hm,hml,em,hf⟩=>by
   have:m=k:=ht.pos_inj hm hk em
   subst this
   exact (hsm.why m hm hml hf).imp id fun hb=>hb.mono fun v ⟨m',hm',hmk,e,hv⟩=>⟨m',hm',by omega,e,hv⟩
  kepts:=fun k hk hkl hsk=>by
   have hin:op tr[k] ∈ s.les:=by
    rw [h.lk.les,op_op,op_var]
    refine ⟨List.getElem_mem hk,hsk,fun e=>?_⟩
    have:=(last_iff ht hd hk).1 e
    omega
   by_cases hf:forcedB (rsOf C rea) fol (tr[k] / 2)=true
   ·right
    exact (forced_by T hk hf).mono fun v ⟨m,hm,hmk,e,hv⟩=>⟨m,hm,by omega,e,hv⟩
   ·left
    rw [List.mem_filter,op_var]
    exact ⟨hin,by simpa using hf⟩
  zero:=fun k hk hz=>by
   have hnc:k ∉ ch:=fun hm=>by
    have h1:=ht.lev k hk
    rw [hz] at h1
    unfold cnt at h1
    have h2:=List.filter_eq_nil_iff.1 (List.length_eq_zero_iff.1 h1.symm) k hm
    simp at h2
   obtain ⟨a,c,r,h1,h2,h3,h4,h5,h6⟩:=why_rs (hre.why k hk hnc)
   refine ⟨hk,c.lits,r,h5,h4,fun y hy=>?_⟩
   obtain ⟨m,hm,hmk,em⟩:=h6 y hy
   have h7:=ht.lev m hm
   rw [em,op_var] at h7
   have h8:=cnt_mono ch (Nat.le_of_lt hmk)
   rw [← ht.lev k hk,hz] at h8
   omega
  folEarly:=fun v ⟨m,hm,hml,e,_⟩=>⟨m,hm,hml,e⟩ }
theorem ExI.tail {last i:Nat} {s:Lk} (h:ExI tr ch lev rs last c0 i s) (ht:TrI n tr ch lev) {y:Nat} (hy:y ∈ s.les):op y ∈ tr∧0 < lev (y / 2)∧lev (y / 2) < ch.length:=by
 obtain ⟨h1,h2,h3⟩:=(h.lk.les y).1 hy
 obtain ⟨h4,j,hj,ej⟩:=h.lk.asg _ h2
 refine ⟨h1,h4,?_⟩
 have:=ht.lev j hj
 rw [ej] at this
 have:=cnt_le ch j
 omega
end So
end Go.Proofs.YtceahffmenbibaaGreatDoor
namespace Go.Proofs.YtceahffmenbibaaGreatDoor
namespace So
structure Rec where
 kind:Nat
 busy:Int
 lits:List Nat
def enc1 (c:Rec):List Int:=(c.lits.length:Int) :: (c.kind:Int) :: c.busy :: c.lits.map fun (x:Nat)=>(x:Int)
def enc:List Rec→List Int
 | []=>[]
 | c :: r=>enc1 c ++ enc r
theorem enc1_len (c:Rec):(enc1 c).length=3 + c.lits.length:=by simp [enc1];omega
theorem enc_append (a b:List Rec):enc (a ++ b)=enc a ++ enc b:=by
 induction a with
 | nil=>rfl
 | cons c r ih=>simp [enc,ih]
def adr (cs:List Rec) (k:Nat):Nat:=(enc (cs.take k)).length
theorem adr_zero (cs:List Rec):adr cs 0=0:=by simp [adr,enc]
theorem adr_succ {cs:List Rec} {k:Nat} (h:k < cs.length):adr cs (k + 1)=adr cs k + (3 + (cs[k]).lits.length):=by
 unfold adr
 rw [List.take_succ_eq_append_getElem h,enc_append,List.length_append]
 simp [enc,enc1_len]
theorem adr_all {cs:List Rec} {k:Nat} (h:cs.length ≤ k):adr cs k=(enc cs).length:=by unfold adr;rw [List.take_of_length_le h]
theorem adr_lt {cs:List Rec} {j k:Nat} (h:j < k) (hk:k ≤ cs.length):adr cs j + 3 ≤ adr cs k:=by
 induction k with
 | zero=>omega
 | succ k ih=>
  rw [adr_succ (by omega)]
  rcases Nat.lt_succ_iff_lt_or_eq.1 h with h1 | h1
  ·have:=ih h1 (by omega);omega
  ·subst h1;omega
theorem adr_le {cs:List Rec} {j k:Nat} (h:j ≤ k) (hk:k ≤ cs.length):adr cs j ≤ adr cs k:=by
 rcases Nat.eq_or_lt_of_le h with e | e
 ·subst e;exact Nat.le_refl _
 ·have:=adr_lt e hk;omega
theorem adr_inj {cs:List Rec} {j k:Nat} (hj:j ≤ cs.length) (hk:k ≤ cs.length) (e:adr cs j=adr cs k):j=k:=by
 rcases Nat.lt_trichotomy j k with h | h | h
 ·have:=adr_lt h hk;omega
 ·exact h
 ·have:=adr_lt h hj;omega
theorem adr_end {cs:List Rec} {k:Nat} (h:k < cs.length):adr cs k + (3 + (cs[k]).lits.length) ≤ (enc cs).length:=by
 rw [← adr_succ h,← adr_all (Nat.le_refl _)]
 exact adr_le h (Nat.le_refl _)
theorem enc_at {cs:List Rec} {k:Nat} (h:k < cs.length) (j:Nat) (hj:j < 3 + (cs[k]).lits.length):(enc cs)[adr cs k + j]? = (enc1 cs[k])[j]? := by
 have e:cs=cs.take k ++ cs[k] :: cs.drop (k + 1):=by rw [← List.drop_eq_getElem_cons h,List.take_append_drop]
 have e2:enc cs=enc (cs.take k) ++ (enc1 cs[k] ++ enc (cs.drop (k + 1))):=by
  conv=>lhs;rw [e]
  rw [enc_append];rfl
 rw [e2]
 unfold adr
 rw [List.getElem?_append_right (by omega),List.getElem?_append_left (by rw [enc1_len];omega)]
 congr 1;omega
theorem enc_size {cs:List Rec} {k:Nat} (h:k < cs.length):(enc cs)[adr cs k]? = some ((cs[k]).lits.length:Int):=by
 have:=enc_at h 0 (by omega)
 simpa [enc1] using this
theorem enc_kind {cs:List Rec} {k:Nat} (h:k < cs.length):(enc cs)[adr cs k + 1]? = some ((cs[k]).kind:Int):=by
 have:=enc_at h 1 (by omega)
 simpa [enc1] using this
theorem enc_busy {cs:List Rec} {k:Nat} (h:k < cs.length):(enc cs)[adr cs k + 2]? = some (cs[k]).busy:=by
 have:=enc_at h 2 (by omega)
 simpa [enc1] using this
theorem enc_lit {cs:List Rec} {k:Nat} (h:k < cs.length) {i:Nat} (hi:i < (cs[k]).lits.length):(enc cs)[adr cs k + 3 + i]? = some (((cs[k]).lits[i]:Nat):Int):=by
 have:=enc_at h (3 + i) (by omega)
 rw [show adr cs k + 3 + i=adr cs k + (3 + i) by omega,this]
 unfold enc1
 rw [show 3 + i=i + 1 + 1 + 1 by omega]
 simp only [List.getElem?_cons_succ]
 rw [List.getElem?_map,List.getElem?_eq_getElem hi];rfl
theorem adr_set {cs:List Rec} {k:Nat} (h:k < cs.length) {c:Rec} (hl:c.lits.length=(cs[k]).lits.length) (j:Nat):adr (cs.set k c) j=adr cs j:=by
 have key:∀ (l:List Rec) (k j:Nat) (h:k < l.length),c.lits.length=(l[k]).lits.length→(enc ((l.set k c).take j)).length=(enc (l.take j)).length:=by
  intro l
  induction l with
  | nil=>intro k j h;simp at h
  | cons d r ih=>
   intro k j h hl
   cases j with
   | zero=>simp
   | succ j=>
    cases k with
    | zero=>
     simp only [List.set_cons_zero,List.take_succ_cons,enc,List.length_append,enc1_len]
     simp only [List.getElem_cons_zero] at hl
     omega
    | succ k=>
     simp only [List.set_cons_succ,List.take_succ_cons,enc,List.length_append,enc1_len]
     simp only [List.getElem_cons_succ] at hl
     rw [ih k j (by simpa using h) hl]
 exact key cs k j h hl
theorem enc_set_len {cs:List Rec} {k:Nat} (h:k < cs.length) {c:Rec} (hl:c.lits.length=(cs[k]).lits.length):(enc (cs.set k c)).length=(enc cs).length:=by
 have:=adr_set h hl cs.length
 rwa [adr_all (by simp),adr_all (Nat.le_refl _)] at this
theorem enc_set {cs:List Rec} {k:Nat} (h:k < cs.length) {c:Rec} (hl:c.lits.length=(cs[k]).lits.length) (j:Nat):(enc (cs.set k c))[j]? = if adr cs k ≤ j∧j < adr cs k + (3 + (cs[k]).lits.length) then (enc1 c)[j - adr cs k]? else (enc cs)[j]? := by
 have e:cs=cs.take k ++ cs[k] :: cs.drop (k + 1):=by rw [← List.drop_eq_getElem_cons h,List.take_append_drop]
 have e2:enc cs=enc (cs.take k) ++ (enc1 cs[k] ++ enc (cs.drop (k + 1))):=by
  conv=>lhs;rw [e]
  rw [enc_append];rfl
 have e3:enc (cs.set k c)=enc (cs.take k) ++ (enc1 c ++ enc (cs.drop (k + 1))):=by
  rw [List.set_eq_take_append_cons_drop,if_pos h,enc_append];rfl
 have l1:=enc1_len c
 have l2:=enc1_len cs[k]
 have la:adr cs k=(enc (cs.take k)).length:=rfl
 rw [e3,e2]
 split
 ·rename_i hj
  rw [List.getElem?_append_right (by omega),List.getElem?_append_left (by omega),la]
 ·rename_i hj
  rcases Nat.lt_or_ge j (adr cs k) with h1 | h1
  ·rw [List.getElem?_append_left (by omega),List.getElem?_append_left (by omega)]
  ·rw [List.getElem?_append_right (by omega),List.getElem?_append_right (by omega),List.getElem?_append_right (by omega),List.getElem?_append_right (by omega)]
   congr 1;omega
theorem enc_setBusy {cs:List Rec} {k:Nat} (h:k < cs.length) (b:Int):enc (cs.set k ⟨(cs[k]).kind,b,(cs[k]).lits⟩)=(enc cs).set (adr cs k + 2) b:=by
 refine List.ext_getElem? fun j=>?_
 rw [enc_set (c:=⟨(cs[k]).kind,b,(cs[k]).lits⟩) h rfl,List.getElem?_set]
 have he:=adr_end h
 by_cases e:adr cs k + 2=j
 ·subst e
  rw [if_pos ⟨by omega,by omega⟩,if_pos rfl,if_pos (by omega)]
  simp [enc1]
 ·rw [if_neg e]
  split
  ·rename_i hj
   obtain ⟨i,rfl⟩:∃ i,j=adr cs k + i:=⟨j - adr cs k,by omega⟩
   rw [enc_at h i (by omega),Nat.add_sub_cancel_left]
   match i with
   | 0=>rfl
   | 1=>rfl
   | 2=>exact absurd rfl e
   | i + 3=>simp [enc1]
  ·rfl
theorem enc_setLit {cs:List Rec} {k:Nat} (h:k < cs.length) {i:Nat} (hi:i < (cs[k]).lits.length) (x:Nat):enc (cs.set k ⟨(cs[k]).kind,(cs[k]).busy,(cs[k]).lits.set i x⟩)=(enc cs).set (adr cs k + 3 + i) (x:Int):=by
 refine List.ext_getElem? fun j=>?_
 rw [enc_set h (by simp),List.getElem?_set]
 have he:=adr_end h
 by_cases e:adr cs k + 3 + i=j
 ·subst e
  rw [if_pos ⟨by omega,by omega⟩,if_pos rfl,if_pos (by omega)]
  rw [show adr cs k + 3 + i - adr cs k=i + 1 + 1 + 1 by omega]
  simp only [enc1,List.getElem?_cons_succ,List.map_set]
  rw [List.getElem?_set_self (by simpa using hi)]
 ·rw [if_neg e]
  split
  ·rename_i hj
   obtain ⟨m,rfl⟩:∃ m,j=adr cs k + m:=⟨j - adr cs k,by omega⟩
   rw [enc_at h m (by omega),Nat.add_sub_cancel_left]
   match m with
   | 0=>simp [enc1]
   | 1=>rfl
   | 2=>rfl
   | m + 3=>
    simp only [enc1,List.getElem?_cons_succ,List.map_set]
    rw [List.getElem?_set_ne (by omega)]
  ·rfl
def mapOf (cs:List Rec):Cmap:=fun a=>((List.range cs.length).find? fun k=>adr cs k == a).bind fun k=>(cs[k]?).map fun c=>⟨c.kind,c.lits⟩
theorem mapOf_at {cs:List Rec} {k:Nat} (h:k < cs.length):mapOf cs (adr cs k)=some ⟨(cs[k]).kind,(cs[k]).lits⟩:=by
 unfold mapOf
 have:((List.range cs.length).find? fun j=>adr cs j == adr cs k)=some k:=by
  cases e:(List.range cs.length).find? fun j=>adr cs j == adr cs k with
  | none=>
   have:=List.find?_eq_none.1 e k (List.mem_range.2 h)
   simp at this
  | some j=>
   have h1:=List.find?_some e
   have h2:=List.mem_range.1 (List.mem_of_find?_eq_some e)
   simp only [beq_iff_eq] at h1
   rw [adr_inj (Nat.le_of_lt h2) (Nat.le_of_lt h) h1]
 rw [this,Option.bind_some,List.getElem?_eq_getElem h];rfl
theorem mapOf_some {cs:List Rec} {a:Nat} {c:Cls} (h:mapOf cs a=some c):∃ k,∃ hk:k < cs.length,a=adr cs k∧c=⟨(cs[k]).kind,(cs[k]).lits⟩:=by
 unfold mapOf at h
 cases e:(List.range cs.length).find? fun j=>adr cs j == a with
 | none=>rw [e] at h;cases h
 | some j=>
  rw [e,Option.bind_some] at h
  have h1:=List.find?_some e
  have h2:=List.mem_range.1 (List.mem_of_find?_eq_some e)
  simp only [beq_iff_eq] at h1
  rw [List.getElem?_eq_getElem h2] at h
  exact ⟨j,h2,h1.symm,(Option.some.inj h).symm⟩
theorem mapOf_set {cs:List Rec} {k:Nat} (h:k < cs.length) {c:Rec} (hl:c.lits.length=(cs[k]).lits.length):mapOf (cs.set k c)=putC (mapOf cs) (adr cs k) ⟨c.kind,c.lits⟩:=by
 funext a
 have hlen:(cs.set k c).length=cs.length:=by simp
 by_cases e:a=adr cs k
 ·subst e
  rw [putC_self]
  have:=mapOf_at (cs:=cs.set k c) (k:=k) (by rw [hlen];exact h)
  rw [adr_set h hl] at this
  rw [this];simp
 ·rw [putC_other _ _ e]
  cases e1:mapOf cs a with
  | none=>
   cases e2:mapOf (cs.set k c) a with
   | none=>rfl
   | some d=>
    obtain ⟨j,hj,ha,_⟩:=mapOf_some e2
    rw [adr_set h hl] at ha
    rw [ha,mapOf_at (by rw [← hlen];exact hj)] at e1;cases e1
  | some d=>
   obtain ⟨j,hj,ha,hd⟩:=mapOf_some e1
   have hjk:k ≠ j:=fun e3=>e (by rw [ha,e3])
   have:=mapOf_at (cs:=cs.set k c) (k:=j) (by rw [hlen];exact hj)
   rw [adr_set h hl,← ha] at this
   rw [this,hd]
   simp [List.getElem_set_ne hjk]
theorem adr_append {cs:List Rec} (c:Rec) {k:Nat} (h:k ≤ cs.length):adr (cs ++ [c]) k=adr cs k:=by
 unfold adr;rw [List.take_append_of_le_length h]
theorem mapOf_append (cs:List Rec) (c:Rec):mapOf (cs ++ [c])=putC (mapOf cs) (enc cs).length ⟨c.kind,c.lits⟩:=by
 funext a
 have hlen:(cs ++ [c]).length=cs.length + 1:=by simp
 have hend:adr (cs ++ [c]) cs.length=(enc cs).length:=by rw [adr_append c (Nat.le_refl _),adr_all (Nat.le_refl _)]
 by_cases e:a=(enc cs).length
 ·subst e
  rw [putC_self]
  have:=mapOf_at (cs:=cs ++ [c]) (k:=cs.length) (by omega)
  rw [hend] at this
  rw [this];simp
 ·rw [putC_other _ _ e]
  cases e1:mapOf cs a with
  | none=>
   cases e2:mapOf (cs ++ [c]) a with
   | none=>rfl
   | some d=>
    obtain ⟨j,hj,ha,_⟩:=mapOf_some e2
    rcases Nat.lt_or_ge j cs.length with h1 | h1
    ·rw [adr_append c (Nat.le_of_lt h1)] at ha
     rw [ha,mapOf_at h1] at e1;cases e1
    ·have:j=cs.length:=by omega
     subst this
     rw [hend] at ha;exact absurd ha e
  | some d=>
   obtain ⟨j,hj,ha,hd⟩:=mapOf_some e1
   have:=mapOf_at (cs:=cs ++ [c]) (k:=j) (by omega)
   rw [adr_append c (Nat.le_of_lt hj),← ha] at this
   rw [this,hd,List.getElem_append_left hj]
theorem mapOf_new (cs:List Rec):mapOf cs (enc cs).length=none:=by
 cases e:mapOf cs (enc cs).length with
 | none=>rfl
 | some d=>
  obtain ⟨j,hj,ha,_⟩:=mapOf_some e
  have:=adr_end hj
  omega
end So
end Go.Proofs.YtceahffmenbibaaGreatDoor
namespace Go.Proofs.YtceahffmenbibaaGreatDoor
namespace So
open Rd
theorem sameB_mem {a b:Cl}:sameB a b=true↔∀ x,x ∈ a↔x ∈ b:=by
 unfold sameB
 simp only [Bool.and_eq_true,List.all_eq_true,List.contains_iff_mem]
 exact ⟨fun h x=>⟨h.1 x,h.2 x⟩,fun h=>⟨fun x=>(h x).1,fun x=>(h x).2⟩⟩
theorem sameB_congr {a a':Cl} (h:∀ x,x ∈ a↔x ∈ a') (b:Cl):sameB a b=sameB a' b:=by
 rw [Bool.eq_iff_iff,sameB_mem,sameB_mem]
 exact ⟨fun g x=>(h x).symm.trans (g x),fun g x=>(h x).trans (g x)⟩
theorem rem_some:∀ {L:List Cl} {c:Cl},0 < L.countP (fun d=>sameB d c)→∃ L',rem L c=some L'∧∀ e,L'.countP (fun d=>sameB d e) + (if sameB c e then 1 else 0)=L.countP (fun d=>sameB d e)
 | [],c,h=>by simp at h
 | d :: r,c,h=>by
  unfold rem
  by_cases e:sameB d c=true
  ·rw [if_pos e]
   refine ⟨r,rfl,fun f=>?_⟩
   rw [List.countP_cons,sameB_congr (sameB_mem.1 e) f]
  ·rw [if_neg e]
   rw [List.countP_cons,if_neg e] at h
   obtain ⟨L',h1,h2⟩:=rem_some (L:=r) (c:=c) h
   refine ⟨d :: L',by rw [h1];rfl,fun f=>?_⟩
   rw [List.countP_cons,List.countP_cons,← h2 f];omega
def lvs (cs:List Rec):List (List Nat):=(cs.filter fun c=>decide (c.kind ≠ 2)).map (·.lits)
def Mat (L:List Cl) (lv:List (List Nat)):Prop:=∀ e:Cl,lv.countP (fun y=>sameB (y.map wr) e) ≤ L.countP (fun d=>sameB d e)
theorem Mat.there {L:List Cl} {lv:List (List Nat)} (h:Mat L lv) {c:List Nat} (hc:c ∈ lv):There L c:=by
 have h1:=h (c.map wr)
 have h2:0 < lv.countP (fun y=>sameB (y.map wr) (c.map wr)):=List.countP_pos_iff.2 ⟨c,hc,sameB_mem.2 fun x=>Iff.rfl⟩
 obtain ⟨d,hd,hs⟩:=List.countP_pos_iff.1 (Nat.lt_of_lt_of_le h2 h1)
 refine ⟨d,hd,fun x=>?_⟩
 rw [sameB_mem.1 hs x,List.mem_map]
theorem Mat.add {L:List Cl} {lv:List (List Nat)} (h:Mat L lv) (c:List Nat) {d:Cl} (hd:∀ x,x ∈ d↔∃ y ∈ c,wr y=x):Mat (L ++ [d]) (lv ++ [c]):=fun e=>by
 rw [List.countP_append,List.countP_append]
 have:=h e
 have h2:sameB (c.map wr) e=sameB d e:=sameB_congr (fun x=>by rw [hd x,List.mem_map]) e
 simp only [List.countP_cons,List.countP_nil,h2]
 omega
theorem Mat.more {L:List Cl} {lv:List (List Nat)} (h:Mat L lv) (d:Cl):Mat (L ++ [d]) lv:=fun e=>by
 rw [List.countP_append]
 have:=h e
 omega
theorem Mat.congr {L:List Cl} {lv lv':List (List Nat)} (h:Mat L lv) (hp:∀ e:Cl,lv'.countP (fun y=>sameB (y.map wr) e) ≤ lv.countP (fun y=>sameB (y.map wr) e)):Mat L lv':=fun e=>Nat.le_trans (hp e) (h e)
theorem lvs_append (cs:List Rec) (c:Rec) (hk:c.kind ≠ 2):lvs (cs ++ [c])=lvs cs ++ [c.lits]:=by
 unfold lvs;rw [List.filter_append];simp [hk]
theorem mem_lvs {cs:List Rec} {a:Nat} {c:Cls} (h:mapOf cs a=some c) (hk:c.kind ≠ 2):c.lits ∈ lvs cs:=by
 obtain ⟨k,hk',_,rfl⟩:=mapOf_some h
 exact List.mem_map.2 ⟨cs[k],List.mem_filter.2 ⟨List.getElem_mem hk',decide_eq_true hk⟩,rfl⟩
theorem Mat.hL {L:List Cl} {cs:List Rec} (h:Mat L (lvs cs)):∀ a c,mapOf cs a=some c→c.kind ≠ 2→There L c.lits:=fun a c h1 h2=>h.there (mem_lvs h1 h2)
def Lines:List Cl→List (Bool × Cl)→List Cl→Prop
 | L,[],L'=>L'=L
 | L,(true,c) :: r,L'=>∃ M,rem L c=some M∧Lines M r L'
 | L,(false,c) :: r,L'=>c ≠ []∧RightP L c∧Lines (L ++ [c]) r L'
theorem Lines.add:∀ {ls:List (Bool × Cl)} {L L':List Cl},Lines L ls L'→∀ {c:Cl},c ≠ []→RightP L' c→Lines L (ls ++ [(false,c)]) (L' ++ [c])
 | [],L,L',h,c,h1,h2=>by
  have h:L'=L:=h
  subst h;exact ⟨h1,h2,rfl⟩
 |(true,d) :: r,L,L',h,c,h1,h2=>by
  obtain ⟨M,g1,g2⟩:=h
  exact ⟨M,g1,Lines.add g2 h1 h2⟩
 |(false,d) :: r,L,L',h,c,h1,h2=>by
  obtain ⟨g1,g2,g3⟩:=h
  exact ⟨g1,g2,Lines.add g3 h1 h2⟩
theorem right_of_conf {L:List Cl} {c:List Nat} {k:List Nat} (h:Conf L (k.map wr)) (hk:∀ y ∈ k,op y ∈ c):RightP L (c.map wr):=by
 left
 intro M hM hc
 refine h M hM fun l hl=>?_
 obtain ⟨y,hy,rfl⟩:=List.mem_map.1 hl
 refine hc _ ?_
 unfold opp
 refine List.mem_map.2 ⟨wr (op y),List.mem_filter.2 ⟨List.mem_map.2 ⟨op y,hk y hy,rfl⟩,?_⟩,by rw [wr_op];omega⟩
 have:=wr_ne (op y)
 simpa using this
theorem right_nil {L:List Cl} (h:Conf L []):RightP L []:=.inl h
variable {n:Nat} {tr ch:List Nat} {lev:Nat→Nat} {C:Cmap} {rea:Nat→Int}
def UnI (C:Cmap) (tr:List Nat) (lev:Nat→Nat):Prop:=∀ a c,C a=some c→c.kind ≠ 2→c.lits.length < 2→∃ x,c.lits=[x]∧x ∈ tr∧lev (x / 2)=0
theorem all_met (ht:TrI n tr ch lev) (hcl:ClI n C) (hs:SpI C tr lev tr.length) (hu:UnI C tr lev) (ha:∀ v,v < n→∃ x ∈ tr,x / 2=v) {a:Nat} {c:Cls} (hc:C a=some c) (hk:c.kind ≠ 2):∃ x ∈ c.lits,x ∈ tr:=by
 match e:c.lits with
 | []=>obtain ⟨x,hx,_⟩:=hu a c hc hk (by rw [e];simp);rw [e] at hx;cases hx
 | [y]=>
  obtain ⟨x,hx,hx2,_⟩:=hu a c hc hk (by rw [e];simp)
  rw [e] at hx;cases hx
  exact ⟨y,by simp,hx2⟩
 | p :: q :: r=>
  have hp:p < 2 * n:=hcl.lt a c hc p (by rw [e];simp)
  obtain ⟨x,hx,hv⟩:=ha (p / 2) (by omega)
  rcases same_var hv with rfl | rfl
  ·exact ⟨x,by simp,hx⟩
  ·obtain ⟨j,hj,ej⟩:=List.mem_iff_getElem.1 hx
   exact ⟨q,by simp,((hs a c p q r hc hk e).1 j hj hj ej).1⟩
theorem never_conf {L:List Cl} (ht:TrI n tr [] lev) (hr:ReI C tr [] rea) (hL:∀ a c,C a=some c→c.kind ≠ 2→There L c.lits) {c0:List Nat} (h0:There L c0) (hf:∀ y ∈ c0,op y ∈ tr):Conf L []:=
 end_conf (hr.trail ht hL) (fun i hi=>by
  obtain ⟨a,c,r,_,_,_,_,h5,_⟩:=why_rs (hr.why i hi (by simp))
  exact ⟨_,h5⟩) h0 hf
end So
end Go.Proofs.YtceahffmenbibaaGreatDoor
