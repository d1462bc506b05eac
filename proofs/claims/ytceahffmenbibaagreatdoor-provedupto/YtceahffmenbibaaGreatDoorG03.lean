/- Spro Sinv Sfal Sops. -/
import Derived.Test.YtceahffmenbibaaGreatDoorG00
import Derived.Test.YtceahffmenbibaaGreatDoorG02
set_option linter.unusedVariables false
set_option linter.unusedSimpArgs false
namespace Go.Proofs.YtceahffmenbibaaGreatDoor
namespace So
def prof:Nat→List Bool→Nat
 | 0,_=>0
 | _ + 1,[]=>0
 | n + 1,b :: r=>(if b then 2 ^ n else 0) + prof n r
theorem prof_nil (n:Nat):prof n []=0:=by cases n <;> rfl
theorem prof_lt:∀ (n:Nat) (l:List Bool),prof n l < 2 ^ n
 | 0,_=>by simp [prof]
 | n + 1,[]=>by simp only [prof];exact Nat.pos_of_ne_zero (by simp)
 | n + 1,b :: r=>by
  have:=prof_lt n r
  simp only [prof]
  rw [Nat.pow_succ]
  cases b <;> simp <;> omega
theorem prof_false:∀ (n:Nat) (l:List Bool),prof n (l ++ [false])=prof n l
 | 0,l=>rfl
 | n + 1,[]=>by simp [prof,prof_nil]
 | n + 1,b :: r=>by
  simp only [List.cons_append,prof]
  rw [prof_false n r]
theorem prof_jump:∀ (n:Nat) (p r:List Bool),p.length < n→prof n (p ++ false :: r) < prof n (p ++ [true])
 | 0,p,r,h=>by simp at h
 | n + 1,[],r,h=>by
  have:=prof_lt n r
  simp only [List.nil_append,prof,prof_nil]
  simp;omega
 | n + 1,b :: p,r,h=>by
  have:=prof_jump n p r (by simpa using h)
  simp only [List.cons_append,prof]
  omega
theorem prof_true (n:Nat) (l:List Bool) (h:l.length < n):prof n l < prof n (l ++ [true]):=by
 have h1:=prof_jump n l [] h
 rw [prof_false] at h1
 exact h1
def bits (len:Nat) (ch:List Nat):List Bool:=(List.range len).map fun p=>!ch.contains p
theorem bits_len (len:Nat) (ch:List Nat):(bits len ch).length=len:=by simp [bits]
theorem bits_assign {len:Nat} {ch:List Nat} (h:∀ p ∈ ch,p < len):bits (len + 1) ch=bits len ch ++ [true]:=by
 unfold bits
 rw [List.range_succ,List.map_append]
 congr 1
 have:¬ len ∈ ch:=fun hm=>by have:=h len hm;omega
 simp [this]
theorem bits_choose {len:Nat} {ch:List Nat} (h:∀ p ∈ ch,p < len):bits (len + 1) (ch ++ [len])=bits len ch ++ [false]:=by
 unfold bits
 rw [List.range_succ,List.map_append]
 congr 1
 ·apply List.map_congr_left
  intro p hp
  have hp:=List.mem_range.1 hp
  have:p ≠ len:=by omega
  simp [List.contains_eq_mem,this]
 ·simp
def Incr (ch:List Nat) (len:Nat):Prop:=ch.Pairwise (· < ·)∧∀ p ∈ ch,p < len
theorem bits_back {len:Nat} {ch:List Nat} (h:Incr ch len) {d:Nat} (hd:d < ch.length):∃ r,bits len ch=bits ch[d] (ch.take d) ++ false :: r:=by
 have hs:ch[d] < len:=h.2 _ (List.getElem_mem hd)
 refine ⟨((List.range len).drop (ch[d] + 1)).map fun p=>!ch.contains p,?_⟩
 unfold bits
 have e:List.range len=List.range ch[d] ++ ch[d] :: (List.range len).drop (ch[d] + 1):=by
  refine List.ext_getElem? fun i=>?_
  rcases Nat.lt_trichotomy i ch[d] with h1 | h1 | h1
  ·rw [List.getElem?_append_left (by simpa using h1),List.getElem?_range h1,List.getElem?_range (by omega)]
  ·rw [h1,List.getElem?_append_right (by simp)]
   simp [hs]
  ·rw [List.getElem?_append_right (by simp;omega)]
   simp only [List.length_range]
   obtain ⟨k,hk⟩:∃ k,i - ch[d]=k + 1:=⟨i - ch[d] - 1,by omega⟩
   rw [hk,List.getElem?_cons_succ,List.getElem?_drop]
   congr 1;omega
 conv=>lhs;rw [e]
 rw [List.map_append,List.map_cons]
 have pw:=h.1
 congr 1
 ·apply List.map_congr_left
  intro p hp
  have hp:=List.mem_range.1 hp
  congr 1
  rw [List.contains_eq_mem,List.contains_eq_mem]
  apply decide_eq_decide.2
  constructor
  ·intro hm
   obtain ⟨j,hj,rfl⟩:=List.mem_iff_getElem.1 hm
   refine List.mem_iff_getElem.2 ⟨j,?_,List.getElem_take⟩
   rw [List.length_take]
   rcases Nat.lt_or_ge j d with h1 | h1
   ·omega
   ·rcases Nat.eq_or_lt_of_le h1 with h2 | h2
    ·subst h2;omega
    ·have:=List.pairwise_iff_getElem.1 pw d j hd hj h2;omega
  ·exact fun hm=>List.mem_of_mem_take hm
 ·have:ch.contains ch[d]=true:=by rw [List.contains_iff_mem];exact List.getElem_mem hd
  rw [this];rfl
theorem prof_learn {n len:Nat} {ch:List Nat} (h:Incr ch len) {d:Nat} (hd:d < ch.length) (hl:len ≤ n):prof n (bits len ch) < prof n (bits (ch[d] + 1) (ch.take d)):=by
 obtain ⟨r,e⟩:=bits_back h hd
 have hs:ch[d] < len:=h.2 _ (List.getElem_mem hd)
 rw [e,bits_assign (fun p hp=>by
  obtain ⟨j,hj,rfl⟩:=List.mem_iff_getElem.1 hp
  rw [List.length_take] at hj
  rw [List.getElem_take]
  exact List.pairwise_iff_getElem.1 h.1 j d (by omega) hd (by omega))]
 exact prof_jump n _ _ (by rw [bits_len];omega)
end So
end Go.Proofs.YtceahffmenbibaaGreatDoor
namespace Go.Proofs.YtceahffmenbibaaGreatDoor
namespace So
structure Cls where
 kind:Nat
 lits:List Nat
abbrev Cmap:Type:=Nat→Option Cls
def cnt (ch:List Nat) (i:Nat):Nat:=(ch.filter fun p=>decide (p ≤ i)).length
structure TrI (n:Nat) (tr ch:List Nat) (lev:Nat→Nat):Prop where
 lt:∀ x ∈ tr,x < 2 * n
 nodup:(tr.map (· / 2)).Nodup
 incr:Incr ch tr.length
 lev:∀ (i:Nat) (h:i < tr.length),lev (tr[i] / 2)=cnt ch i
def tv (tr:List Nat) (x:Nat):Int:=if x ∈ tr then 1 else if op x ∈ tr then -1 else 0
variable {n:Nat} {tr ch:List Nat} {lev:Nat→Nat} {C:Cmap} {rea:Nat→Int}
theorem TrI.pos_inj (h:TrI n tr ch lev) {i j:Nat} (hi:i < tr.length) (hj:j < tr.length) (e:tr[i] / 2=tr[j] / 2):i=j:=by
 have h1:(tr.map (· / 2))[i]'(by simpa using hi)=(tr.map (· / 2))[j]'(by simpa using hj):=by simpa using e
 exact (List.getElem_inj h.nodup).1 h1
theorem TrI.not_both (h:TrI n tr ch lev) {x:Nat} (h1:x ∈ tr) (h2:op x ∈ tr):False:=by
 obtain ⟨i,hi,e1⟩:=List.mem_iff_getElem.1 h1
 obtain ⟨j,hj,e2⟩:=List.mem_iff_getElem.1 h2
 have:i=j:=h.pos_inj hi hj (by rw [e1,e2,op_var])
 subst this
 rw [e1] at e2
 exact op_ne x e2.symm
theorem tv_true {x:Nat}:tv tr x=1↔x ∈ tr:=by
 unfold tv
 split
 ·simp_all
 ·split <;> simp_all
theorem TrI.tv_false (h:TrI n tr ch lev) {x:Nat}:tv tr x=-1↔op x ∈ tr:=by
 unfold tv
 split
 ·rename_i h1
  exact ⟨fun e=>by omega,fun e=>(h.not_both h1 e).elim⟩
 ·split
  ·rename_i h2;exact ⟨fun _=>h2,fun _=>rfl⟩
  ·rename_i h2;exact ⟨fun e=>by omega,fun e=>absurd e h2⟩
theorem tv_open {x:Nat}:tv tr x=0↔x ∉ tr∧op x ∉ tr:=by
 unfold tv
 split
 ·simp_all
 ·split <;> simp_all
theorem tv_nil (x:Nat):tv [] x=0:=rfl
theorem op_lt {x:Nat} (h:x < 2 * n):op x < 2 * n:=by unfold op;split <;> omega
theorem cnt_le (ch:List Nat) (i:Nat):cnt ch i ≤ ch.length:=List.length_filter_le ..
theorem cnt_all {ch:List Nat} {i:Nat} (h:∀ p ∈ ch,p ≤ i):cnt ch i=ch.length:=by
 unfold cnt
 rw [List.filter_eq_self.2 (fun p hp=>by simpa using h p hp)]
theorem cnt_mono (ch:List Nat) {i j:Nat} (h:i ≤ j):cnt ch i ≤ cnt ch j:=by
 unfold cnt
 induction ch with
 | nil=>simp
 | cons p r ih=>
  simp only [List.filter_cons]
  by_cases h1:p ≤ i
  ·have h2:p ≤ j:=by omega
   simp only [h1,h2,decide_true,if_true,List.length_cons];omega
  ·simp only [h1,decide_false]
   by_cases h2:p ≤ j
   ·simp only [h2,decide_true,if_true,List.length_cons];simp;omega
   ·simp only [h2,decide_false];simpa using ih
theorem cnt_append (ch:List Nat) (q i:Nat):cnt (ch ++ [q]) i=cnt ch i + if q ≤ i then 1 else 0:=by
 unfold cnt
 rw [List.filter_append,List.length_append]
 by_cases h:q ≤ i <;> simp [h]
theorem cnt_lt {ch:List Nat} {len:Nat} (h:Incr ch len) {d:Nat} (hd:d < ch.length) {i:Nat}:cnt ch i ≤ d↔i < ch[d]:=by
 have split:ch=ch.take d ++ ch[d] :: ch.drop (d + 1):=by
  rw [← List.drop_eq_getElem_cons hd,List.take_append_drop]
 have pw:=h.1
 have lo:∀ p ∈ ch.take d,p < ch[d]:=fun p hp=>by
  obtain ⟨j,hj,rfl⟩:=List.mem_iff_getElem.1 hp
  rw [List.length_take] at hj
  rw [List.getElem_take]
  exact List.pairwise_iff_getElem.1 pw j d (by omega) hd (by omega)
 have hi:∀ p ∈ ch.drop (d + 1),ch[d] < p:=fun p hp=>by
  obtain ⟨j,hj,rfl⟩:=List.mem_iff_getElem.1 hp
  rw [List.length_drop] at hj
  rw [List.getElem_drop]
  exact List.pairwise_iff_getElem.1 pw d _ hd (by omega) (by omega)
 have e:cnt ch i=cnt (ch.take d) i + ((if ch[d] ≤ i then 1 else 0) + cnt (ch.drop (d + 1)) i):=by
  unfold cnt
  conv=>lhs;rw [split]
  rw [List.filter_append,List.length_append,List.filter_cons]
  by_cases h:ch[d] ≤ i
  ·simp only [h,decide_true,if_true,List.length_cons];omega
  ·simp only [h,decide_false];simp
 constructor
 ·intro hc
  rcases Nat.lt_or_ge i ch[d] with h1 | h1
  ·exact h1
  ·have:cnt (ch.take d) i=d:=by
    rw [cnt_all (fun p hp=>by have:=lo p hp;omega),List.length_take];omega
   rw [this,if_pos h1] at e
   omega
 ·intro hc
  have z:cnt (ch.drop (d + 1)) i=0:=by
   unfold cnt
   rw [List.length_eq_zero_iff,List.filter_eq_nil_iff]
   intro p hp
   have:=hi p hp
   simp;omega
  have:=cnt_le (ch.take d) i
  rw [List.length_take] at this
  rw [z,if_neg (by omega)] at e
  omega
def updN {α:Type} (f:Nat→α) (k:Nat) (a:α):Nat→α:=fun j=>if j=k then a else f j
theorem updN_self {α:Type} (f:Nat→α) (k:Nat) (a:α):updN f k a k=a:=by unfold updN;rw [if_pos rfl]
theorem updN_other {α:Type} (f:Nat→α) {k j:Nat} (a:α) (h:j ≠ k):updN f k a j=f j:=by unfold updN;rw [if_neg h]
theorem tv_var {x y:Nat} (ho:tv tr x=0) (hy:y ∈ tr):y / 2 ≠ x / 2:=fun e=>by
 obtain ⟨h1,h2⟩:=tv_open.1 ho
 rcases same_var e with rfl | rfl
 ·exact h1 hy
 ·exact h2 hy
theorem tv_assign {x:Nat} (ho:tv tr x=0) (y:Nat):tv (tr ++ [x]) y=if y=x then 1 else if y=op x then -1 else tv tr y:=by
 obtain ⟨h1,h2⟩:=tv_open.1 ho
 unfold tv
 by_cases e:y=x
 ·subst e;simp
 ·by_cases e2:y=op x
  ·subst e2;simp [h2,op_ne,op_op]
  ·have:op y ≠ x:=fun h=>e2 (by rw [← h,op_op])
   simp [e,e2,this]
theorem TrI.assign (h:TrI n tr ch lev) {x:Nat} (hx:x < 2 * n) (ho:tv tr x=0):TrI n (tr ++ [x]) ch (updN lev (x / 2) ch.length) where
 lt:=fun y hy=>by
  rcases List.mem_append.1 hy with hy | hy
  ·exact h.lt y hy
  ·simp at hy;omega
 nodup:=by
  rw [List.map_append]
  refine List.nodup_append.2 ⟨h.nodup,by simp,fun a ha b hb=>?_⟩
  obtain ⟨y,hy,rfl⟩:=List.mem_map.1 ha
  simp at hb;subst hb
  exact tv_var ho hy
 incr:=⟨h.incr.1,fun p hp=>by have:=h.incr.2 p hp;simp;omega⟩
 lev:=fun i hi=>by
  by_cases e:i < tr.length
  ·rw [List.getElem_append_left e,updN_other _ _ (tv_var ho (List.getElem_mem e)),h.lev i e]
  ·have e2:i=tr.length:=by simp at hi;omega
   subst e2
   rw [List.getElem_append_right (Nat.le_refl _)]
   simp only [Nat.sub_self,List.getElem_cons_zero]
   rw [updN_self,cnt_all (fun p hp=>by have:=h.incr.2 p hp;omega)]
theorem TrI.choose (h:TrI n tr ch lev) {x:Nat} (hx:x < 2 * n) (ho:tv tr x=0):TrI n (tr ++ [x]) (ch ++ [tr.length]) (updN lev (x / 2) (ch.length + 1)) where
 lt:=(h.assign hx ho).lt
 nodup:=(h.assign hx ho).nodup
 incr:=by
  refine ⟨List.pairwise_append.2 ⟨h.incr.1,by simp,fun a ha b hb=>?_⟩,fun p hp=>?_⟩
  ·simp at hb;subst hb;exact h.incr.2 a ha
  ·rcases List.mem_append.1 hp with hp | hp
   ·have:=h.incr.2 p hp;simp;omega
   ·simp at hp;subst hp;simp
 lev:=fun i hi=>by
  rw [cnt_append]
  by_cases e:i < tr.length
  ·rw [List.getElem_append_left e,updN_other _ _ (tv_var ho (List.getElem_mem e)),h.lev i e,if_neg (by omega),Nat.add_zero]
  ·have e2:i=tr.length:=by simp at hi;omega
   subst e2
   rw [List.getElem_append_right (Nat.le_refl _)]
   simp only [Nat.sub_self,List.getElem_cons_zero]
   rw [updN_self,cnt_all (fun p hp=>by have:=h.incr.2 p hp;omega),if_pos (Nat.le_refl _)]
theorem incr_take {len:Nat} (h:Incr ch len) {d:Nat} (hd:d < ch.length):Incr (ch.take d) ch[d]:=
 ⟨h.1.sublist (List.take_sublist ..),fun p hp=>by
  obtain ⟨j,hj,rfl⟩:=List.mem_iff_getElem.1 hp
  rw [List.length_take] at hj
  rw [List.getElem_take]
  exact List.pairwise_iff_getElem.1 h.1 j d (by omega) hd (by omega)⟩
theorem cnt_take {len:Nat} (h:Incr ch len) {d:Nat} (hd:d < ch.length) {i:Nat} (hi:i < ch[d]):cnt (ch.take d) i=cnt ch i:=by
 have e:ch=ch.take d ++ ch.drop d:=(List.take_append_drop d ch).symm
 have z:∀ p ∈ ch.drop d,i < p:=fun p hp=>by
  obtain ⟨j,hj,rfl⟩:=List.mem_iff_getElem.1 hp
  rw [List.length_drop] at hj
  rw [List.getElem_drop]
  rcases Nat.eq_zero_or_pos j with h0 | h0
  ·subst h0;exact hi
  ·have:=List.pairwise_iff_getElem.1 h.1 d (d + j) hd (by omega) (by omega);omega
 unfold cnt
 conv=>rhs;rw [e]
 rw [List.filter_append,List.length_append]
 have:(ch.drop d).filter (fun p=>decide (p ≤ i))=[]:=by
  rw [List.filter_eq_nil_iff]
  intro p hp
  have:=z p hp
  simp;omega
 rw [this];simp
theorem TrI.back (h:TrI n tr ch lev) {d:Nat} (hd:d < ch.length):TrI n (tr.take ch[d]) (ch.take d) lev where
 lt:=fun x hx=>h.lt x (List.mem_of_mem_take hx)
 nodup:=by rw [List.map_take];exact h.nodup.sublist (List.take_sublist ..)
 incr:=by
  have:=incr_take h.incr hd
  have h2:ch[d] < tr.length:=h.incr.2 _ (List.getElem_mem hd)
  rw [List.length_take,Nat.min_eq_left (by omega)];exact this
 lev:=fun i hi=>by
  rw [List.length_take] at hi
  rw [List.getElem_take,h.lev i (by omega),cnt_take h.incr hd (by omega)]
def Why (C:Cmap) (tr:List Nat) (rea:Nat→Int) (i:Nat) (h:i < tr.length):Prop:=∃ a c r,rea (tr[i] / 2)=(a:Nat)∧C a=some c∧c.kind ≠ 2∧c.lits=tr[i] :: r∧∀ y ∈ r,∃ j,∃ hj:j < tr.length,j < i∧tr[j]=op y
structure ReI (C:Cmap) (tr ch:List Nat) (rea:Nat→Int):Prop where
 cho:∀ i (h:i < tr.length),i ∈ ch→rea (tr[i] / 2)=-1
 why:∀ i (h:i < tr.length),i ∉ ch→Why C tr rea i h
theorem why_longer {C:Cmap} {tr:List Nat} {rea rea':Nat→Int} {x i:Nat} (h:i < tr.length) (h':i < (tr ++ [x]).length) (hr:rea' (tr[i] / 2)=rea (tr[i] / 2)) (hw:Why C tr rea i h):Why C (tr ++ [x]) rea' i h':=by
 obtain ⟨a,c,r,h1,h2,h3,h4,h5⟩:=hw
 have e:(tr ++ [x])[i]=tr[i]:=List.getElem_append_left h
 refine ⟨a,c,r,by rw [e,hr];exact h1,h2,h3,by rw [e];exact h4,fun y hy=>?_⟩
 obtain ⟨j,hj,hji,ej⟩:=h5 y hy
 exact ⟨j,by simp;omega,hji,by rw [List.getElem_append_left hj];exact ej⟩
theorem ReI.assign (h:ReI C tr ch rea) (ht:TrI n tr ch lev) {x a:Nat} {c:Cls} {r:List Nat} (ho:tv tr x=0) (hC:C a=some c) (hk:c.kind ≠ 2) (hl:c.lits=x :: r) (hf:∀ y ∈ r,op y ∈ tr):ReI C (tr ++ [x]) ch (updN rea (x / 2) (a:Nat)) where
 cho:=fun i hi hc=>by
  have e:=ht.incr.2 i hc
  rw [List.getElem_append_left e,updN_other _ _ (tv_var ho (List.getElem_mem e))]
  exact h.cho i e hc
 why:=fun i hi hc=>by
  by_cases e:i < tr.length
  ·exact why_longer e hi (updN_other _ _ (tv_var ho (List.getElem_mem e))) (h.why i e hc)
  ·have e2:i=tr.length:=by simp at hi;omega
   subst e2
   have e3:(tr ++ [x])[tr.length]=x:=by rw [List.getElem_append_right (Nat.le_refl _)];simp
   refine ⟨a,c,r,by rw [e3,updN_self],hC,hk,by rw [e3];exact hl,fun y hy=>?_⟩
   obtain ⟨j,hj,ej⟩:=List.mem_iff_getElem.1 (hf y hy)
   exact ⟨j,by simp;omega,hj,by rw [List.getElem_append_left hj];exact ej⟩
theorem ReI.choose (h:ReI C tr ch rea) (ht:TrI n tr ch lev) {x:Nat} (ho:tv tr x=0):ReI C (tr ++ [x]) (ch ++ [tr.length]) (updN rea (x / 2) (-1)) where
 cho:=fun i hi hc=>by
  rcases List.mem_append.1 hc with hc | hc
  ·have e:=ht.incr.2 i hc
   rw [List.getElem_append_left e,updN_other _ _ (tv_var ho (List.getElem_mem e))]
   exact h.cho i e hc
  ·simp at hc;subst hc
   rw [List.getElem_append_right (Nat.le_refl _)]
   simp only [Nat.sub_self,List.getElem_cons_zero]
   exact updN_self ..
 why:=fun i hi hc=>by
  have e:i < tr.length:=by
   rcases Nat.lt_or_ge i tr.length with h1 | h1
   ·exact h1
   ·have:i=tr.length:=by simp at hi;omega
    exact absurd (by simp [this]) hc
  exact why_longer e hi (updN_other _ _ (tv_var ho (List.getElem_mem e))) (h.why i e (fun hm=>hc (List.mem_append_left _ hm)))
theorem ReI.back (h:ReI C tr ch rea) (ht:TrI n tr ch lev) {d:Nat} (hd:d < ch.length):ReI C (tr.take ch[d]) (ch.take d) rea where
 cho:=fun i hi hc=>by
  rw [List.length_take] at hi
  rw [List.getElem_take]
  exact h.cho i (by omega) (List.mem_of_mem_take hc)
 why:=fun i hi hc=>by
  rw [List.length_take] at hi
  have hnc:i ∉ ch:=fun hm=>hc (by
   obtain ⟨j,hj,e⟩:=List.mem_iff_getElem.1 hm
   refine List.mem_iff_getElem.2 ⟨j,?_,by rw [List.getElem_take];exact e⟩
   rw [List.length_take]
   rcases Nat.lt_or_ge j d with h1 | h1
   ·omega
   ·have:ch[d] ≤ ch[j]:=by
     rcases Nat.eq_or_lt_of_le h1 with h2 | h2
     ·subst h2;exact Nat.le_refl _
     ·exact Nat.le_of_lt (List.pairwise_iff_getElem.1 ht.incr.1 d j hd hj h2)
    omega)
  obtain ⟨a,c,r,h1,h2,h3,h4,h5⟩:=h.why i (by omega) hnc
  refine ⟨a,c,r,by rw [List.getElem_take];exact h1,h2,h3,by rw [List.getElem_take];exact h4,fun y hy=>?_⟩
  obtain ⟨j,hj,hji,ej⟩:=h5 y hy
  exact ⟨j,by rw [List.length_take];omega,hji,by rw [List.getElem_take];exact ej⟩
theorem ReI.congr {C':Cmap} (h:ReI C tr ch rea) (hC:∀ a c x r,C a=some c→c.kind ≠ 2→c.lits=x :: r→x ∈ tr→rea (x / 2)=(a:Nat)→∃ c',C' a=some c'∧c'.kind ≠ 2∧∃ r',c'.lits=x :: r'∧∀ y,y ∈ r'→y ∈ r):ReI C' tr ch rea where
 cho:=h.cho
 why:=fun i hi hc=>by
  obtain ⟨a,c,r,h1,h2,h3,h4,h5⟩:=h.why i hi hc
  obtain ⟨c',k1,k2,r',k3,k4⟩:=hC a c _ r h2 h3 h4 (List.getElem_mem hi) h1
  exact ⟨a,c',r',h1,k1,k2,k3,fun y hy=>h5 y (k4 y hy)⟩
def Pair (tr:List Nat) (lev:Nat→Nat) (P p q:Nat):Prop:=∀ i (h:i < tr.length),i < P→tr[i]=op p→q ∈ tr∧lev (q / 2) ≤ lev (p / 2)
def SpI (C:Cmap) (tr:List Nat) (lev:Nat→Nat) (P:Nat):Prop:=∀ a c p q r,C a=some c→c.kind ≠ 2→c.lits=p :: q :: r→Pair tr lev P p q∧Pair tr lev P q p
variable {P:Nat}
theorem SpI.none (C:Cmap) (tr:List Nat) (lev:Nat→Nat):SpI C tr lev 0:=fun a c p q r _ _ _=>⟨fun i _ h=>by omega,fun i _ h=>by omega⟩
theorem Pair.assign {p q x v:Nat} (h:Pair tr lev P p q) (hP:P ≤ tr.length) (ho:tv tr x=0):Pair (tr ++ [x]) (updN lev (x / 2) v) P p q:=fun i hi hp e=>by
 have hi':i < tr.length:=by omega
 rw [List.getElem_append_left hi'] at e
 obtain ⟨h1,h2⟩:=h i hi' hp e
 refine ⟨List.mem_append_left _ h1,?_⟩
 have hv:p / 2 ≠ x / 2:=by
  have:=tv_var ho (List.getElem_mem hi')
  rw [e,op_var] at this;exact this
 rw [updN_other _ _ (tv_var ho h1),updN_other _ _ hv];exact h2
theorem SpI.assign {x v:Nat} (h:SpI C tr lev P) (hP:P ≤ tr.length) (ho:tv tr x=0):SpI C (tr ++ [x]) (updN lev (x / 2) v) P:=fun a c p q r h1 h2 h3=>
 ⟨(h a c p q r h1 h2 h3).1.assign hP ho,(h a c p q r h1 h2 h3).2.assign hP ho⟩
theorem Pair.back {p q:Nat} (h:Pair tr lev P p q) (ht:TrI n tr ch lev) {d:Nat} (hd:d < ch.length) (hP:ch[d] ≤ P):Pair (tr.take ch[d]) lev ch[d] p q:=fun i hi hp e=>by
 rw [List.length_take] at hi
 rw [List.getElem_take] at e
 have hi':i < tr.length:=by omega
 obtain ⟨h1,h2⟩:=h i hi' (by omega) e
 refine ⟨?_,h2⟩
 obtain ⟨j,hj,ej⟩:=List.mem_iff_getElem.1 h1
 have e1:lev (p / 2)=cnt ch i:=by rw [← ht.lev i hi',e,op_var]
 have e2:lev (q / 2)=cnt ch j:=by rw [← ht.lev j hj,ej]
 have c1:cnt ch i ≤ d:=(cnt_lt ht.incr hd).2 hp
 have c2:j < ch[d]:=(cnt_lt ht.incr hd).1 (by omega)
 exact List.mem_iff_getElem.2 ⟨j,by rw [List.length_take];omega,by rw [List.getElem_take];exact ej⟩
theorem SpI.back (h:SpI C tr lev P) (ht:TrI n tr ch lev) {d:Nat} (hd:d < ch.length) (hP:ch[d] ≤ P):SpI C (tr.take ch[d]) lev ch[d]:=fun a c p q r h1 h2 h3=>
 ⟨(h a c p q r h1 h2 h3).1.back ht hd hP,(h a c p q r h1 h2 h3).2.back ht hd hP⟩
def Live2 (C:Cmap) (a:Nat) (c:Cls):Prop:=C a=some c∧c.kind ≠ 2∧2 ≤ c.lits.length
structure WaI (n:Nat) (C:Cmap) (wl:Nat→List Nat):Prop where
 lists:∀ x,x < 2 * n→∀ a ∈ wl x,∃ c,Live2 C a c∧(c.lits[0]? = some x∨c.lits[1]? = some x)
 two:∀ a c,Live2 C a c→∀ x,c.lits[0]? = some x∨c.lits[1]? = some x→a ∈ wl x
 nodup:∀ x,x < 2 * n→(wl x).Nodup
structure ClI (n:Nat) (C:Cmap):Prop where
 vars:∀ a c,C a=some c→(c.lits.map (· / 2)).Nodup
 lt:∀ a c,C a=some c→∀ x ∈ c.lits,x < 2 * n
variable {wl W:Nat→List Nat} {a:Nat} {c:Cls}
def putC (C:Cmap) (a:Nat) (c:Cls):Cmap:=updN C a (some c)
theorem putC_self (C:Cmap) (a:Nat) (c:Cls):putC C a c a=some c:=updN_self ..
theorem putC_other (C:Cmap) {a b:Nat} (c:Cls) (h:b ≠ a):putC C a c b=C b:=updN_other _ _ h
theorem ClI.put (h:ClI n C) (hC:C a=some c) {c':Cls} (hp:c'.lits.Perm c.lits):ClI n (putC C a c') where
 vars:=fun b d hd=>by
  by_cases e:b=a
  ·subst e
   rw [putC_self] at hd;cases hd
   exact (hp.map _).nodup_iff.2 (h.vars b c hC)
  ·rw [putC_other _ _ e] at hd;exact h.vars b d hd
 lt:=fun b d hd x hx=>by
  by_cases e:b=a
  ·subst e
   rw [putC_self] at hd;cases hd
   exact h.lt b c hC x (hp.mem_iff.1 hx)
  ·rw [putC_other _ _ e] at hd;exact h.lt b d hd x hx
theorem WaI.swap (h:WaI n C W) (hC:C a=some c) {p q:Nat} {r:List Nat} (hl:c.lits=p :: q :: r):WaI n (putC C a ⟨c.kind,q :: p :: r⟩) W where
 lists:=fun x hx b hb=>by
  obtain ⟨d,⟨h1,h2,h3⟩,h4⟩:=h.lists x hx b hb
  by_cases e:b=a
  ·subst e
   rw [hC] at h1;cases h1
   refine ⟨_,⟨putC_self ..,h2,by simp⟩,?_⟩
   rw [hl] at h4
   simp only [List.getElem?_cons_zero,List.getElem?_cons_succ] at h4 ⊢
   exact h4.symm
  ·exact ⟨d,⟨by rw [putC_other _ _ e];exact h1,h2,h3⟩,h4⟩
 two:=fun b d ⟨h1,h2,h3⟩ x hx=>by
  by_cases e:b=a
  ·subst e
   rw [putC_self] at h1;cases h1
   refine h.two b c ⟨hC,h2,by rw [hl];simp⟩ x ?_
   rw [hl]
   simp only [List.getElem?_cons_zero,List.getElem?_cons_succ] at hx ⊢
   exact hx.symm
  ·rw [putC_other _ _ e] at h1
   exact h.two b d ⟨h1,h2,h3⟩ x hx
 nodup:=h.nodup
theorem SpI.swap (h:SpI C tr lev P) (hC:C a=some c) {p q:Nat} {r:List Nat} (hl:c.lits=p :: q :: r):SpI (putC C a ⟨c.kind,q :: p :: r⟩) tr lev P:=fun b d p' q' r' h1 h2 h3=>by
 by_cases e:b=a
 ·subst e
  rw [putC_self] at h1;cases h1
  simp only [List.cons.injEq] at h3
  obtain ⟨rfl,rfl,rfl⟩:=h3
  exact (h b c p q r hC h2 hl).symm
 ·rw [putC_other _ _ e] at h1;exact h b d p' q' r' h1 h2 h3
theorem ReI.put (h:ReI C tr ch rea) {c':Cls} (hC:C a=some c) (hn:∀ x r,c.lits=x :: r→x ∈ tr→False):ReI (putC C a c') tr ch rea:=
 h.congr fun b d x r h1 h2 h3 h4 h5=>by
  by_cases e:b=a
  ·subst e
   rw [hC] at h1;cases h1
   exact (hn x r h3 h4).elim
  ·exact ⟨d,by rw [putC_other _ _ e];exact h1,h2,r,h3,fun _ h=>h⟩
theorem WaI.move (h:WaI n C W) (hcl:ClI n C) (hC:C a=some c) (hk:c.kind ≠ 2) {q lit o k:Nat} {r kl rest:List Nat} (hl:c.lits=q :: lit :: r) (hr:r[k]? = some o) (hW:W lit=kl ++ a :: rest) {W':Nat→List Nat} (h1:W' lit=kl ++ rest) (h2:W' o=W o ++ [a]) (h3:∀ x,x ≠ lit→x ≠ o→W' x=W x) (hlit:lit < 2 * n):
  WaI n (putC C a ⟨c.kind,q :: o :: r.set k lit⟩) W':=by
 have hv:=hcl.vars a c hC
 rw [hl] at hv
 simp only [List.map_cons,List.nodup_cons,List.mem_cons,List.mem_map,not_or,not_exists,not_and] at hv
 obtain ⟨⟨hql,hqr⟩,hlr,_⟩:=hv
 have hor:o ∈ r:=List.mem_of_getElem? hr
 have nql:q ≠ lit:=fun e=>hql (by rw [e])
 have nol:o ≠ lit:=fun e=>hlr o hor (by rw [e])
 have noq:o ≠ q:=fun e=>hqr o hor (by rw [e])
 have nda:a ∉ kl ++ rest:=by
  have:=h.nodup lit hlit
  rw [hW,List.nodup_append] at this
  obtain ⟨_,g2,g3⟩:=this
  rw [List.nodup_cons] at g2
  intro hm
  rcases List.mem_append.1 hm with hm | hm
  ·exact g3 _ hm _ (List.mem_cons_self ..) rfl
  ·exact g2.1 hm
 have lv:Live2 C a c:=⟨hC,hk,by rw [hl];simp⟩
 have ao:o < 2 * n→a ∉ W o:=fun ho hm=>by
  obtain ⟨d,⟨g1,_,_⟩,g2⟩:=h.lists o ho a hm
  rw [hC] at g1;cases g1
  rw [hl] at g2
  simp only [List.getElem?_cons_zero,List.getElem?_cons_succ,Option.some.injEq] at g2
  rcases g2 with e | e
  ·exact noq e.symm
  ·exact nol e.symm
 have sub:∀ x b,b ≠ a→b ∈ W' x→b ∈ W x:=fun x b hb hm=>by
  by_cases e1:x=lit
  ·subst e1;rw [h1] at hm;rw [hW]
   rcases List.mem_append.1 hm with hm | hm
   ·exact List.mem_append_left _ hm
   ·exact List.mem_append_right _ (List.mem_cons_of_mem _ hm)
  ·by_cases e2:x=o
   ·subst e2;rw [h2] at hm
    rcases List.mem_append.1 hm with hm | hm
    ·exact hm
    ·simp at hm;exact absurd hm hb
   ·rw [h3 x e1 e2] at hm;exact hm
 have sup:∀ x b,(b=a→x ≠ lit)→b ∈ W x→b ∈ W' x:=fun x b hb hm=>by
  by_cases e1:x=lit
  ·subst e1
   have hne:b ≠ a:=fun e=>hb e rfl
   rw [hW] at hm;rw [h1]
   rcases List.mem_append.1 hm with hm | hm
   ·exact List.mem_append_left _ hm
   ·rcases List.mem_cons.1 hm with hm | hm
    ·exact absurd hm hne
    ·exact List.mem_append_right _ hm
  ·by_cases e2:x=o
   ·subst e2;rw [h2];exact List.mem_append_left _ hm
   ·rw [h3 x e1 e2];exact hm
 exact {
  lists:=fun x hx b hb=>by
   by_cases e:b=a
   ·subst e
    refine ⟨_,⟨putC_self ..,hk,by simp⟩,?_⟩
    simp only [List.getElem?_cons_zero,List.getElem?_cons_succ,Option.some.injEq]
    by_cases e1:x=lit
    ·subst e1;rw [h1] at hb;exact absurd hb nda
    ·by_cases e2:x=o
     ·exact .inr e2.symm
     ·rw [h3 x e1 e2] at hb
      obtain ⟨d,⟨g1,_,_⟩,g2⟩:=h.lists x hx b hb
      rw [hC] at g1;cases g1
      rw [hl] at g2
      simp only [List.getElem?_cons_zero,List.getElem?_cons_succ,Option.some.injEq] at g2
      rcases g2 with e | e
      ·exact .inl e
      ·exact absurd e.symm e1
   ·obtain ⟨d,⟨g1,g2,g3⟩,g4⟩:=h.lists x hx b (sub x b e hb)
    exact ⟨d,⟨by rw [putC_other _ _ e];exact g1,g2,g3⟩,g4⟩
  two:=fun b d ⟨g1,g2,g3⟩ x hx=>by
   by_cases e:b=a
   ·subst e
    rw [putC_self] at g1;cases g1
    simp only [List.getElem?_cons_zero,List.getElem?_cons_succ,Option.some.injEq] at hx
    rcases hx with e | e
    ·subst e
     exact sup _ _ (fun _=>nql) (h.two b c lv q (by rw [hl];exact .inl rfl))
    ·subst e;rw [h2];simp
   ·rw [putC_other _ _ e] at g1
    exact sup x b (fun e'=>absurd e' e) (h.two b d ⟨g1,g2,g3⟩ x hx)
  nodup:=fun x hx=>by
   by_cases e1:x=lit
   ·subst e1;rw [h1]
    have:=h.nodup x hx
    rw [hW] at this
    exact this.sublist ((List.Sublist.refl kl).append (List.sublist_cons_self _ _))
   ·by_cases e2:x=o
    ·subst e2;rw [h2]
     refine List.nodup_append.2 ⟨h.nodup x hx,by simp,fun y hy z hz=>?_⟩
     simp at hz;subst hz
     exact fun e=>ao hx (e ▸ hy)
    ·rw [h3 x e1 e2];exact h.nodup x hx }
theorem perm_move {q lit o k:Nat} {r:List Nat} (hr:r[k]? = some o):(q :: o :: r.set k lit).Perm (q :: lit :: r):=by
 refine List.Perm.cons _ ?_
 obtain ⟨hk,e⟩:=List.getElem?_eq_some_iff.1 hr
 have e1:r=r.take k ++ o :: r.drop (k + 1):=by rw [← e,← List.drop_eq_getElem_cons hk,List.take_append_drop]
 have e2:r.set k lit=r.take k ++ lit :: r.drop (k + 1):=by
  rw [List.set_eq_take_append_cons_drop,if_pos hk]
 rw [e2]
 conv=>rhs;rw [e1]
 have p1:(r.take k ++ lit :: r.drop (k + 1)).Perm (lit :: (r.take k ++ r.drop (k + 1))):=List.perm_middle
 have p2:(r.take k ++ o :: r.drop (k + 1)).Perm (o :: (r.take k ++ r.drop (k + 1))):=List.perm_middle
 exact ((p1.cons o).trans (List.Perm.swap ..)).trans (p2.symm.cons lit)
end So
end Go.Proofs.YtceahffmenbibaaGreatDoor
namespace Go.Proofs.YtceahffmenbibaaGreatDoor
namespace So
variable {n:Nat} {tr ch:List Nat} {lev:Nat→Nat} {C:Cmap} {rea:Nat→Int} {P:Nat} {wl:Nat→List Nat}
def SameC (C C':Cmap):Prop:=∀ a,(C a=none∧C' a=none)∨∃ c c',C a=some c∧C' a=some c'∧c'.kind=c.kind∧c'.lits.Perm c.lits
structure FI (n lit p:Nat) (ch orig:List Nat) (i:Nat) (C:Cmap) (tr:List Nat) (lev:Nat→Nat) (rea:Nat→Int) (wl:Nat→List Nat) (kl:List Nat):Prop where
 tri:TrI n tr ch lev
 rei:ReI C tr ch rea
 cli:ClI n C
 wai:WaI n C (fun x=>if x=lit then kl ++ orig.drop i else wl x)
 spi:SpI C tr lev p
 kept:∀ a ∈ kl,∃ c q r,C a=some c∧c.lits=q :: lit :: r∧q ∈ tr∧lev (q / 2) ≤ lev (lit / 2)
 hp:p < tr.length
 atp:tr[p]? = some (op lit)
 late:∀ q ∈ ch,q ≤ p
 klen:kl.length ≤ i
 ilen:i ≤ orig.length
variable {lit p i:Nat} {orig kl:List Nat}
theorem FI.lit_lt (h:FI n lit p ch orig i C tr lev rea wl kl):lit < 2 * n:=by
 have:=h.tri.lt _ (List.mem_of_getElem? h.atp)
 have:=op_lt this
 rwa [op_op] at this
theorem FI.false_lit (h:FI n lit p ch orig i C tr lev rea wl kl):op lit ∈ tr:=List.mem_of_getElem? h.atp
theorem FI.not_lit (h:FI n lit p ch orig i C tr lev rea wl kl):lit ∉ tr:=fun hm=>h.tri.not_both hm h.false_lit
theorem FI.lev_lit (h:FI n lit p ch orig i C tr lev rea wl kl):lev (lit / 2)=ch.length:=by
 obtain ⟨hp,e⟩:=List.getElem?_eq_some_iff.1 h.atp
 have:=h.tri.lev p hp
 rw [e,op_var] at this
 rw [this,cnt_all h.late]
theorem FI.lev_le (h:FI n lit p ch orig i C tr lev rea wl kl) {q:Nat} (hq:q ∈ tr):lev (q / 2) ≤ lev (lit / 2):=by
 obtain ⟨j,hj,e⟩:=List.mem_iff_getElem.1 hq
 have:=h.tri.lev j hj
 rw [e] at this
 rw [this,h.lev_lit]
 exact cnt_le ..
theorem FI.start (ht:TrI n tr ch lev) (hr:ReI C tr ch rea) (hc:ClI n C) (hw:WaI n C wl) (hs:SpI C tr lev p) (ha:tr[p]? = some (op lit)) (hl:∀ q ∈ ch,q ≤ p):FI n lit p ch (wl lit) 0 C tr lev rea wl [] where
 tri:=ht
 rei:=hr
 cli:=hc
 wai:=by
  have e:(fun x=>if x=lit then [] ++ (wl lit).drop 0 else wl x)=wl:=by
   funext x;split
   ·rename_i e;subst e;rfl
   ·rfl
  rw [e];exact hw
 spi:=hs
 kept:=fun a ha=>by simp at ha
 hp:=(List.getElem?_eq_some_iff.1 ha).1
 atp:=ha
 late:=hl
 klen:=Nat.zero_le _
 ilen:=Nat.zero_le _
theorem FI.next (h:FI n lit p ch orig i C tr lev rea wl kl) (hi:i < orig.length):∃ c,Live2 C orig[i] c∧(c.lits[0]? = some lit∨c.lits[1]? = some lit):=
 h.wai.lists lit h.lit_lt orig[i] (by
  show orig[i] ∈ (if lit=lit then kl ++ orig.drop i else wl lit)
  rw [if_pos rfl,List.drop_eq_getElem_cons hi];exact List.mem_append_right _ (List.mem_cons_self ..))
theorem FI.notin (h:FI n lit p ch orig i C tr lev rea wl kl) (hi:i < orig.length):orig[i] ∉ kl:=fun hm=>by
 have:=h.wai.nodup lit h.lit_lt
 simp only [if_true] at this
 rw [List.drop_eq_getElem_cons hi,List.nodup_append] at this
 exact this.2.2 _ hm _ (List.mem_cons_self ..) rfl
theorem FI.swap (h:FI n lit p ch orig i C tr lev rea wl kl) (hi:i < orig.length) {c:Cls} (hC:C orig[i]=some c) {q:Nat} {r:List Nat} (hl:c.lits=lit :: q :: r):FI n lit p ch orig i (putC C orig[i] ⟨c.kind,q :: lit :: r⟩) tr lev rea wl kl where
 tri:=h.tri
 rei:=h.rei.put hC fun x r' e hx=>by
  rw [hl] at e
  obtain ⟨rfl,_⟩:=List.cons.inj e
  exact h.not_lit hx
 cli:=h.cli.put hC (by rw [hl];exact List.Perm.swap ..)
 wai:=h.wai.swap hC hl
 spi:=h.spi.swap hC hl
 kept:=fun a ha=>by
  have ne:a ≠ orig[i]:=fun e=>h.notin hi (e ▸ ha)
  rw [putC_other _ _ ne];exact h.kept a ha
 hp:=h.hp
 atp:=h.atp
 late:=h.late
 klen:=h.klen
 ilen:=h.ilen
theorem FI.keepWai (h:FI n lit p ch orig i C tr lev rea wl kl) (hi:i < orig.length):WaI n C (fun x=>if x=lit then (kl ++ [orig[i]]) ++ orig.drop (i + 1) else wl x):=by
 have e:(kl ++ [orig[i]]) ++ orig.drop (i + 1)=kl ++ orig.drop i:=by rw [List.drop_eq_getElem_cons hi];simp
 rw [e];exact h.wai
theorem FI.keep (h:FI n lit p ch orig i C tr lev rea wl kl) (hi:i < orig.length) {c:Cls} (hC:C orig[i]=some c) {q:Nat} {r:List Nat} (hl:c.lits=q :: lit :: r) (hq:q ∈ tr):FI n lit p ch orig (i + 1) C tr lev rea wl (kl ++ [orig[i]]) where
 tri:=h.tri
 rei:=h.rei
 cli:=h.cli
 wai:=h.keepWai hi
 spi:=h.spi
 kept:=fun a ha=>by
  rcases List.mem_append.1 ha with ha | ha
  ·exact h.kept a ha
  ·simp at ha;subst ha
   exact ⟨c,q,r,hC,hl,hq,h.lev_le hq⟩
 hp:=h.hp
 atp:=h.atp
 late:=h.late
 klen:=by have:=h.klen;simp;omega
 ilen:=hi
theorem FI.unit (h:FI n lit p ch orig i C tr lev rea wl kl) (hi:i < orig.length) {c:Cls} (hC:C orig[i]=some c) (hk:c.kind ≠ 2) {q:Nat} {r:List Nat} (hl:c.lits=q :: lit :: r) (hq:tv tr q=0) (hr:∀ y ∈ r,op y ∈ tr):
  FI n lit p ch orig (i + 1) C (tr ++ [q]) (updN lev (q / 2) ch.length) (updN rea (q / 2) (orig[i]:Nat)) wl (kl ++ [orig[i]]):=by
 have hql:q < 2 * n:=h.cli.lt _ _ hC q (by rw [hl];simp)
 have nv:lit / 2 ≠ q / 2:=by
  have:=tv_var hq h.false_lit
  rw [op_var] at this;exact this
 exact {
  tri:=h.tri.assign hql hq
  rei:=h.rei.assign h.tri hq hC hk hl fun y hy=>by
   rcases List.mem_cons.1 hy with rfl | hy
   ·exact h.false_lit
   ·exact hr y hy
  cli:=h.cli
  wai:=h.keepWai hi
  spi:=h.spi.assign (Nat.le_of_lt h.hp) hq
  kept:=fun a ha=>by
   rcases List.mem_append.1 ha with ha | ha
   ·obtain ⟨d,q',r',h1,h2,h3,h4⟩:=h.kept a ha
    refine ⟨d,q',r',h1,h2,List.mem_append_left _ h3,?_⟩
    rw [updN_other _ _ (tv_var hq h3),updN_other _ _ nv];exact h4
   ·simp at ha;subst ha
    refine ⟨c,q,r,hC,hl,by simp,?_⟩
    rw [updN_self,updN_other _ _ nv,h.lev_lit];exact Nat.le_refl _
  hp:=by have:=h.hp;simp;omega
  atp:=by rw [List.getElem?_append_left h.hp];exact h.atp
  late:=h.late
  klen:=by have:=h.klen;simp;omega
  ilen:=hi }
theorem FI.move (h:FI n lit p ch orig i C tr lev rea wl kl) (hi:i < orig.length) {c:Cls} (hC:C orig[i]=some c) (hk:c.kind ≠ 2) {q o k:Nat} {r:List Nat} (hl:c.lits=q :: lit :: r) (hq:q ∉ tr) (hr:r[k]? = some o) (ho:op o ∉ tr):
  FI n lit p ch orig (i + 1) (putC C orig[i] ⟨c.kind,q :: o :: r.set k lit⟩) tr lev rea (fun x=>if x=o then wl x ++ [orig[i]] else wl x) kl:=by
 have hv:=h.cli.vars _ _ hC
 rw [hl] at hv
 simp only [List.map_cons,List.nodup_cons,List.mem_cons,List.mem_map,not_or,not_exists,not_and] at hv
 have nol:o ≠ lit:=fun e=>hv.2.1 o (List.mem_of_getElem? hr) (by rw [e])
 exact {
  tri:=h.tri
  rei:=h.rei.put hC fun x r' e hx=>by
   rw [hl] at e
   obtain ⟨rfl,_⟩:=List.cons.inj e
   exact hq hx
  cli:=h.cli.put hC (by rw [hl];exact perm_move hr)
  wai:=h.wai.move h.cli hC hk hl hr (kl:=kl) (rest:=orig.drop (i + 1)) (by
    show (if lit=lit then kl ++ orig.drop i else wl lit)=_
    rw [if_pos rfl,List.drop_eq_getElem_cons hi]) (by simp) (by
    show (if o=lit then _ else _)=(if o=lit then _ else _) ++ [_]
    rw [if_neg nol,if_neg nol,if_pos rfl]) (fun x h1 h2=>by
    show (if x=lit then _ else _)=(if x=lit then _ else _)
    rw [if_neg h1,if_neg h1,if_neg h2]) h.lit_lt
  spi:=fun b d p' q' r' g1 g2 g3=>by
   by_cases e:b=orig[i]
   ·rw [e,putC_self] at g1;cases g1
    simp only [List.cons.injEq] at g3
    obtain ⟨rfl,rfl,rfl⟩:=g3
    refine ⟨fun j hj hjp ej=>?_,fun j hj hjp ej=>?_⟩
    ·exact absurd ((h.spi _ c _ lit r hC hk hl).1 j hj hjp ej).1 h.not_lit
    ·exact absurd (ej ▸ List.getElem_mem hj) ho
   ·rw [putC_other _ _ e] at g1;exact h.spi b d p' q' r' g1 g2 g3
  kept:=fun a ha=>by
   have ne:a ≠ orig[i]:=fun e=>h.notin hi (e ▸ ha)
   rw [putC_other _ _ ne];exact h.kept a ha
  hp:=h.hp
  atp:=h.atp
  late:=h.late
  klen:=Nat.le_succ_of_le h.klen
  ilen:=hi }
theorem FI.done (h:FI n lit p ch orig orig.length C tr lev rea wl kl):SpI C tr lev (p + 1)∧WaI n C (fun x=>if x=lit then kl else wl x):=by
 have hw:=h.wai
 have e:kl ++ orig.drop orig.length=kl:=by simp
 rw [e] at hw
 refine ⟨fun a c p' q' r g1 g2 g3=>?_,hw⟩
 obtain ⟨hp,ep⟩:=List.getElem?_eq_some_iff.1 h.atp
 have lv:Live2 C a c:=⟨g1,g2,by rw [g3];simp⟩
 have key:∀ x,(c.lits[0]? = some x∨c.lits[1]? = some x)→∀ y,(x=p'∧y=q'∨x=q'∧y=p')→op lit=op x→y ∈ tr∧lev (y / 2) ≤ lev (x / 2):=fun x hx y hy e=>by
  have ex:x=lit:=(op_inj e).symm
  subst ex
  have hm:=hw.two a c lv x hx
  rw [if_pos rfl] at hm
  obtain ⟨d,q2,r2,k1,k2,k3,k4⟩:=h.kept a hm
  rw [g1] at k1;cases k1
  rw [g3] at k2
  simp only [List.cons.injEq] at k2
  obtain ⟨rfl,rfl,rfl⟩:=k2
  have nq:p' ≠ q':=fun e2=>h.not_lit (e2 ▸ k3)
  rcases hy with ⟨e1,_⟩ | ⟨_,rfl⟩
  ·exact absurd e1.symm nq
  ·exact ⟨k3,k4⟩
 refine ⟨fun j hj hjp ej=>?_,fun j hj hjp ej=>?_⟩
 ·rcases Nat.lt_succ_iff_lt_or_eq.1 hjp with h1 | h1
  ·exact (h.spi a c p' q' r g1 g2 g3).1 j hj h1 ej
  ·subst h1
   exact key p' (.inl (by rw [g3];rfl)) q' (.inl ⟨rfl,rfl⟩) (by rw [← ep,ej])
 ·rcases Nat.lt_succ_iff_lt_or_eq.1 hjp with h1 | h1
  ·exact (h.spi a c p' q' r g1 g2 g3).2 j hj h1 ej
  ·subst h1
   exact key q' (.inr (by rw [g3];rfl)) p' (.inr ⟨rfl,rfl⟩) (by rw [← ep,ej])
end So
end Go.Proofs.YtceahffmenbibaaGreatDoor
namespace Go.Proofs.YtceahffmenbibaaGreatDoor
namespace So
variable {n:Nat} {tr ch:List Nat} {lev:Nat→Nat} {C C':Cmap} {rea:Nat→Int} {P a:Nat} {W W':Nat→List Nat} {c:Cls}
theorem ClI.new (h:ClI n C) (hv:(c.lits.map (· / 2)).Nodup) (hl:∀ x ∈ c.lits,x < 2 * n):ClI n (putC C a c) where
 vars:=fun b d hd=>by
  by_cases e:b=a
  ·subst e;rw [putC_self] at hd;cases hd;exact hv
  ·rw [putC_other _ _ e] at hd;exact h.vars b d hd
 lt:=fun b d hd=>by
  by_cases e:b=a
  ·subst e;rw [putC_self] at hd;cases hd;exact hl
  ·rw [putC_other _ _ e] at hd;exact h.lt b d hd
theorem ReI.new (h:ReI C tr ch rea) (hn:C a=none):ReI (putC C a c) tr ch rea:=
 h.congr fun b d x r h1 h2 h3 h4 h5=>by
  have e:b ≠ a:=fun e=>by rw [e,hn] at h1;cases h1
  exact ⟨d,by rw [putC_other _ _ e];exact h1,h2,r,h3,fun _ h=>h⟩
theorem SpI.new (h:SpI C tr lev P) (hn:∀ p q r,c.kind ≠ 2→c.lits=p :: q :: r→Pair tr lev P p q∧Pair tr lev P q p):SpI (putC C a c) tr lev P:=fun b d p q r h1 h2 h3=>by
 by_cases e:b=a
 ·subst e;rw [putC_self] at h1;cases h1;exact hn p q r h2 h3
 ·rw [putC_other _ _ e] at h1;exact h b d p q r h1 h2 h3
theorem WaI.fresh (h:WaI n C W) (hn:C a=none) {x:Nat} (hx:x < 2 * n):a ∉ W x:=fun hm=>by
 obtain ⟨d,⟨g1,_,_⟩,_⟩:=h.lists x hx a hm
 rw [hn] at g1;cases g1
theorem WaI.new1 (h:WaI n C W) (hn:C a=none) (hc:c.lits.length < 2):WaI n (putC C a c) W where
 lists:=fun x hx b hb=>by
  have e:b ≠ a:=fun e=>h.fresh hn hx (e ▸ hb)
  obtain ⟨d,⟨g1,g2,g3⟩,g4⟩:=h.lists x hx b hb
  exact ⟨d,⟨by rw [putC_other _ _ e];exact g1,g2,g3⟩,g4⟩
 two:=fun b d ⟨g1,g2,g3⟩ x hx=>by
  by_cases e:b=a
  ·subst e;rw [putC_self] at g1;cases g1;omega
  ·rw [putC_other _ _ e] at g1;exact h.two b d ⟨g1,g2,g3⟩ x hx
 nodup:=h.nodup
theorem WaI.new2 (h:WaI n C W) (hn:C a=none) (hk:c.kind ≠ 2) {p q:Nat} {r:List Nat} (hc:c.lits=p :: q :: r) (hpq:p ≠ q) (h1:W' p=W p ++ [a]) (h2:W' q=W q ++ [a]) (h3:∀ x,x ≠ p→x ≠ q→W' x=W x):WaI n (putC C a c) W':=by
 have key:∀ x,(x=p∨x=q)→W' x=W x ++ [a]:=fun x hx=>by
  rcases hx with rfl | rfl
  ·exact h1
  ·exact h2
 have sup:∀ x b,b ∈ W x→b ∈ W' x:=fun x b hb=>by
  by_cases e:x=p∨x=q
  ·rw [key x e];exact List.mem_append_left _ hb
  ·rw [h3 x (fun e1=>e (.inl e1)) (fun e1=>e (.inr e1))];exact hb
 exact {
  lists:=fun x hx b hb=>by
   by_cases e:b=a
   ·subst e
    refine ⟨c,⟨putC_self ..,hk,by rw [hc];simp⟩,?_⟩
    rw [hc]
    simp only [List.getElem?_cons_zero,List.getElem?_cons_succ,Option.some.injEq]
    by_cases e1:x=p∨x=q
    ·exact e1.imp Eq.symm Eq.symm
    ·rw [h3 x (fun e2=>e1 (.inl e2)) (fun e2=>e1 (.inr e2))] at hb
     exact absurd hb (h.fresh hn hx)
   ·have hb':b ∈ W x:=by
     by_cases e1:x=p∨x=q
     ·rw [key x e1] at hb
      rcases List.mem_append.1 hb with hb | hb
      ·exact hb
      ·simp at hb;exact absurd hb e
     ·rw [h3 x (fun e2=>e1 (.inl e2)) (fun e2=>e1 (.inr e2))] at hb;exact hb
    obtain ⟨d,⟨g1,g2,g3⟩,g4⟩:=h.lists x hx b hb'
    exact ⟨d,⟨by rw [putC_other _ _ e];exact g1,g2,g3⟩,g4⟩
  two:=fun b d ⟨g1,g2,g3⟩ x hx=>by
   by_cases e:b=a
   ·subst e;rw [putC_self] at g1;cases g1
    rw [hc] at hx
    simp only [List.getElem?_cons_zero,List.getElem?_cons_succ,Option.some.injEq] at hx
    rw [key x (hx.imp Eq.symm Eq.symm)];simp
   ·rw [putC_other _ _ e] at g1;exact sup x b (h.two b d ⟨g1,g2,g3⟩ x hx)
  nodup:=fun x hx=>by
   by_cases e:x=p∨x=q
   ·rw [key x e]
    refine List.nodup_append.2 ⟨h.nodup x hx,by simp,fun y hy z hz=>?_⟩
    simp at hz;subst hz
    exact fun e=>h.fresh hn hx (e ▸ hy)
   ·rw [h3 x (fun e2=>e (.inl e2)) (fun e2=>e (.inr e2))];exact h.nodup x hx }
variable {ro:Nat→Nat}
end So
end Go.Proofs.YtceahffmenbibaaGreatDoor
