/- Smat Smem Shea Sord Shw1 Swat. -/
import Derived.Test.YtceahffmenbibaaGreatDoorG02
import Derived.Test.YtceahffmenbibaaGreatDoorG01
import Derived.Deep.RegionLaw
import Derived.Deep.DrawnRows
set_option linter.unusedVariables false
set_option linter.unusedSimpArgs false
set_option maxHeartbeats 4000000
set_option maxRecDepth 100000
namespace Go.Proofs.YtceahffmenbibaaGreatDoor
namespace So
section
open Rd
section
theorem mW {a b:Cl}:iH a b=true↔∀ x,x ∈ a↔x ∈ b:=by
 unfold iH;simp only [Bool.and_eq_true,List.all_eq_true,List.contains_iff_mem];exact ⟨fun h x=>⟨h.1 x,h.2 x⟩,fun h=>⟨fun x=>(h x).1,fun x=>(h x).2⟩⟩
theorem oq {a a':Cl} (h:∀ x,x ∈ a↔x ∈ a') (b:Cl):iH a b=iH a' b:=by
 rw [Bool.eq_iff_iff,mW,mW];exact ⟨fun g x=>(h x).symm.trans (g x),fun g x=>(h x).trans (g x)⟩
theorem EL:∀ {L:List Cl} {c:Cl},0 < L.countP (fun d=>iH d c)->∃ a,rem L c=some a/\∀ e,a.countP (fun d=>iH d e) + (if iH c e then 1 else 0)=L.countP (fun d=>iH d e)
 | [],c,h=>by simp at h
 | d :: r,c,h=>by
  unfold rem;by_cases e:iH d c=true
  ·rw [if_pos e];refine ⟨r,rfl,fun f=>?_⟩
   rw [List.countP_cons,oq (mW.1 e) f]
  ·rw [if_neg e];rw [List.countP_cons,if_neg e] at h;obtain ⟨a,i,b⟩:=EL (L:=r) (c:=c) h;refine ⟨d :: a,by rw [i];rfl,fun f=>?_⟩
   rw [List.countP_cons,List.countP_cons,<- b f];omega
def nW (cs:List Rec):List (List Nat):=(cs.filter fun c=>decide (c.kind ≠ 2)).map (·.lits)
def wC (L:List Cl) (lv:List (List Nat)):Prop:=∀ e:Cl,lv.countP (fun y=>iH (y.map wr) e) <= L.countP (fun d=>iH d e)
theorem wC.there {L:List Cl} {lv:List (List Nat)} (h:wC L lv) {c:List Nat} (b:c ∈ lv):There L c:=by
 have i:=h (c.map wr);have e:0 < lv.countP (fun y=>iH (y.map wr) (c.map wr)):=List.countP_pos_iff.2 ⟨c,b,mW.2 fun x=>Iff.rfl⟩
 obtain ⟨d,hd,a⟩:=List.countP_pos_iff.1 (Nat.lt_of_lt_of_le e i);refine ⟨d,hd,fun x=>?_⟩
 rw [mW.1 a x,List.mem_map]
theorem wC.add {L:List Cl} {lv:List (List Nat)} (h:wC L lv) (c:List Nat) {d:Cl} (hd:∀ x,x ∈ d↔∃ y ∈ c,wr y=x):wC (L ++ [d]) (lv ++ [c]):=fun e=>by
 rw [List.countP_append,List.countP_append];have:=h e;have a:iH (c.map wr) e=iH d e:=oq (fun x=>by rw [hd x,List.mem_map]) e
 simp only [List.countP_cons,List.countP_nil,a];omega
theorem wC.more {L:List Cl} {lv:List (List Nat)} (h:wC L lv) (d:Cl):wC (L ++ [d]) lv:=fun e=>by
 rw [List.countP_append];have:=h e;omega
theorem wC.congr {L:List Cl} {lv a:List (List Nat)} (h:wC L lv) (b:∀ e:Cl,a.countP (fun y=>iH (y.map wr) e) <= lv.countP (fun y=>iH (y.map wr) e)):wC L a:=fun e=>Nat.le_trans (b e) (h e)
theorem wC.del {L:List Cl} {lv a:List (List Nat)} (h:wC L lv) {c:List Nat} (k:∀ e:Cl,a.countP (fun y=>iH (y.map wr) e) + (if iH (c.map wr) e then 1 else 0)=lv.countP (fun y=>iH (y.map wr) e)) {d:Cl} (hd:∀ x,x ∈ d↔∃ y ∈ c,wr y=x):∃ b,rem L d=some b/\wC b a:=by
 have j:∀ e,iH (c.map wr) e=iH d e:=fun e=>oq (fun x=>by rw [hd x,List.mem_map]) e
 obtain ⟨b,o,m⟩:=EL (L:=L) (c:=d) (by
  have l:=h d;have i:=k d;rw [j d,if_pos (mW.2 fun x=>Iff.rfl)] at i
  omega)
 refine ⟨b,o,fun e=>?_⟩
 have l:=h e;have i:=k e;have p:=m e;rw [j e] at i;omega
theorem qb (cs:List Rec) (c:Rec) (a:c.kind ≠ 2):nW (cs ++ [c])=nW cs ++ [c.lits]:=by
 unfold nW;rw [List.filter_append];simp [a]
theorem MF {cs:List Rec} {k:Nat} (h:k < cs.length):nW cs=nW (cs.take k) ++ (nW [cs[k]] ++ nW (cs.drop (k + 1))):=by
 have e:cs=cs.take k ++ ([cs[k]] ++ cs.drop (k + 1)):=by
  rw [List.singleton_append,<- List.drop_eq_getElem_cons h,List.take_append_drop]
 conv=>lhs;rw [e]
 unfold nW;rw [List.filter_append,List.map_append,List.filter_append,List.map_append]
theorem TZ {cs:List Rec} {k:Nat} (h:k < cs.length) (c:Rec):nW (cs.set k c)=nW (cs.take k) ++ (nW [c] ++ nW (cs.drop (k + 1))):=by
 have e:cs.set k c=cs.take k ++ ([c] ++ cs.drop (k + 1)):=by
  rw [List.set_eq_take_append_cons_drop,if_pos h];rfl
 rw [e];unfold nW;rw [List.filter_append,List.map_append,List.filter_append,List.map_append]
theorem wC.delete {L:List Cl} {cs:List Rec} (h:wC L (nW cs)) {k:Nat} (a:k < cs.length) (j:(cs[k]).kind ≠ 2) (b:Int) {d:Cl} (hd:∀ x,x ∈ d↔∃ y ∈ (cs[k]).lits,wr y=x):∃ i,rem L d=some i/\wC i (nW (cs.set k ⟨2,b,(cs[k]).lits⟩)):=
 h.del (c:=(cs[k]).lits) (fun e=>by
  rw [TZ a,MF a];simp only [List.countP_append];have m:nW [(⟨2,b,(cs[k]).lits⟩:Rec)]=[]:=by simp [nW]
  have l:nW [cs[k]]=[(cs[k]).lits]:=by simp [nW,j]
  rw [m,l];simp only [List.countP_cons,List.countP_nil];omega) hd
theorem TW {cs:List Rec} {a:Nat} {c:xJ} (h:mapOf cs a=some c) (d:c.kind ≠ 2):c.lits ∈ nW cs:=by
 obtain ⟨k,b,_,rfl⟩:=dO h;exact List.mem_map.2 ⟨cs[k],List.mem_filter.2 ⟨List.getElem_mem b,decide_eq_true d⟩,rfl⟩
theorem wC.hL {L:List Cl} {cs:List Rec} (h:wC L (nW cs)):∀ a c,mapOf cs a=some c->c.kind ≠ 2->There L c.lits:=fun a c d b=>h.there (TW d b)
def El (L:List Cl) (c:Cl):Prop:=jo L (vJ c 0)
def jQ:List Cl->List (Bool × Cl)->List Cl->Prop
 | L,[],L'=>L'=L
 | L,(true,c) :: r,L'=>∃ M,rem L c=some M/\jQ M r L'
 | L,(false,c) :: r,L'=>c ≠ []/\El L c/\jQ (L ++ [c]) r L'
theorem jQ.add:∀ {ls:List (Bool × Cl)} {L L':List Cl},jQ L ls L'->∀ {c:Cl},c ≠ []->El L' c->jQ L (ls ++ [(false,c)]) (L' ++ [c])
 | [],L,L',h,c,h1,h2=>by
  have h:L'=L:=h;subst h;exact ⟨h1,h2,rfl⟩
 |(true,d) :: r,L,L',h,c,h1,h2=>by
  obtain ⟨M,g1,g2⟩:=h;exact ⟨M,g1,jQ.add g2 h1 h2⟩
 |(false,d) :: r,L,L',h,c,h1,h2=>by
  obtain ⟨g1,g2,a⟩:=h;exact ⟨g1,g2,jQ.add a h1 h2⟩
theorem jQ.del:∀ {ls:List (Bool × Cl)} {L L':List Cl},jQ L ls L'->∀ {c:Cl} {M:List Cl},rem L' c=some M->jQ L (ls ++ [(true,c)]) M
 | [],L,L',h,c,M,h1=>by
  have h:L'=L:=h;subst h;exact ⟨M,h1,rfl⟩
 |(true,d) :: r,L,L',h,c,M,h1=>by
  obtain ⟨b,g1,g2⟩:=h;exact ⟨b,g1,jQ.del g2 h1⟩
 |(false,d) :: r,L,L',h,c,M,h1=>by
  obtain ⟨g1,g2,a⟩:=h;exact ⟨g1,g2,jQ.del a h1⟩
theorem Al {L:List Cl} {c:List Nat} {k:List Nat} (h:jo L (k.map wr)) (d:∀ y ∈ k,op y ∈ c):El L (c.map wr):=by
 intro M i e;refine h M i fun l b=>?_
 obtain ⟨y,a,rfl⟩:=List.mem_map.1 b;refine e _ ?_;unfold vJ;refine List.mem_map.2 ⟨wr (op y),List.mem_filter.2 ⟨List.mem_map.2 ⟨op y,d y a,rfl⟩,?_⟩,by rw [Em];omega⟩
 have:=U5 (op y);simpa using this
theorem Br {L:List Cl} (h:jo L []):El L []:=h
variable {n:Nat} {tr ch:List Nat} {lev:Nat->Nat} {C:iR} {rea:Nat->Int}
def wm (C:iR) (tr:List Nat) (lev:Nat->Nat):Prop:=∀ a c,C a=some c->c.kind ≠ 2->c.lits.length < 2->∃ x,c.lits=[x]/\x ∈ tr/\lev (x / 2)=0
theorem UO (z:jm n tr ch lev) (k:xk n C) (s:qI C tr lev tr.length) (l:wm C tr lev) (t:∀ v,v < n->∃ x ∈ tr,x / 2=v) {a:Nat} {c:xJ} (d:C a=some c) (i:c.kind ≠ 2):∃ x ∈ c.lits,x ∈ tr:=by
 match e:c.lits with
 | []=>obtain ⟨x,b,_⟩:=l a c d i (by rw [e];simp);rw [e] at b;cases b
 | [y]=>
  obtain ⟨x,b,h,_⟩:=l a c d i (by rw [e];simp)
  rw [e] at b;cases b
  exact ⟨y,by simp,h⟩
 | p :: q :: r=>
  have A:p < 2 * n:=k.lt a c d p (by rw [e];simp)
  obtain ⟨x,b,o⟩:=t (p / 2) (by omega)
  rcases qQ o with rfl | rfl
  ·exact ⟨x,by simp,b⟩
  ·obtain ⟨j,m,u⟩:=List.mem_iff_getElem.1 b;exact ⟨q,by simp,((s a c p q r d i e).1 j m m u).1⟩
theorem yO {L:List Cl} (e:jm n tr [] lev) (b:oZ C tr [] rea) (hL:∀ a c,C a=some c->c.kind ≠ 2->There L c.lits) {d:List Nat} (l:There L d) (j:∀ y ∈ d,op y ∈ tr):jo L []:=
 QY (b.trail e hL) (fun i h=>by
  obtain ⟨a,c,r,_,_,_,_,k,_⟩:=Cs (b.why i h (by simp))
  exact ⟨_,k⟩) l j
end
end
section
open Go Go.RowKit Go.Deep Rd
section
variable {Z:Nat->Prop} {sb K:Nat} {w w':World} {f V:Nat->Value} {X X':Nat->List Value}
def ints (l:List Int):List Value:=l.map fun z=>Value.int .i64 z
theorem fV (l:List Int):(ints l).length=l.length:=by simp [ints]
theorem lU (l:List Int) (i:Nat):(ints l)[i]? = (l[i]?).map fun z=>Value.int .i64 z:=by simp [ints]
theorem ints_set (l:List Int) (i:Nat) (z:Int):(ints l).set i (.int .i64 z)=ints (l.set i z):=by simp [ints,List.map_set]
theorem wV (a b:List Int):ints (a ++ b)=ints a ++ ints b:=by simp [ints]
theorem jA (a b:List Nat):dx (a ++ b)=dx a ++ dx b:=by simp [dx]
theorem mZ (l:List Nat) (k:Nat):(dx l).take k=dx (l.take k):=by simp [dx]
theorem nJ (l:List Nat) (i x:Nat):(dx l).set i (.int .i64 (x:Nat))=dx (l.set i x):=by simp [dx,List.map_set]
structure lX (n:Nat) (X:Nat->List Value) (tr ch:List Nat) (lev:Nat->Nat) (rea:Nat->Int):Prop where
 l1:X 1=dx tr
 l2:X 2=dx ch
 n3:(X 3).length=2 * n
 t3:∀ x,x < 2 * n->(X 3)[x]? = some (.int .i64 (tv tr x))
 n4:(X 4).length=n
 t4:∀ v,v < n->(X 4)[v]? = some (.int .i64 (lev v:Nat))
 n5:(X 5).length=n
 t5:∀ v,v < n->(X 5)[v]? = some (.int .i64 (rea v))
variable {n:Nat} {tr ch:List Nat} {lev:Nat->Nat} {rea:Nat->Int}
theorem lX.congr (h:lX n X tr ch lev rea) (a:∀ k,1 <= k->k <= 5->X' k=X k):lX n X' tr ch lev rea:=by
 have i:=a 1 (by omega) (by omega)
 have e:=a 2 (by omega) (by omega)
 have d:=a 3 (by omega) (by omega)
 have c:=a 4 (by omega) (by omega)
 have b:=a 5 (by omega) (by omega)
 exact ⟨by rw [i];exact h.l1,by rw [e];exact h.l2,by rw [d];exact h.n3,by rw [d];exact h.t3,by rw [c];exact h.n4,by rw [c];exact h.t4,by rw [b];exact h.n5,by rw [b];exact h.t5⟩
theorem tQ {l:List Value} {m:Nat} (d:l.length=m) {g:Nat->Value} (b:∀ v,v < m->l[v]? = some (g v)) {k:Nat} (h:k < m) (u:Value):∀ v,v < m->(l.set k u)[v]? = some (eG g k u v):=fun v a=>by
 by_cases e:v=k
 ·subst e;rw [List.getElem?_set_self (by omega),dF]
 ·rw [List.getElem?_set_ne (fun c=>e c.symm),dh _ _ e];exact b v a
theorem iG (X:Nat->List Value) (x:Nat) (r:Int) (d:Nat) {k:Nat} (e:k ≠ 1) (c:k ≠ 3) (b:k ≠ 4) (a:k ≠ 5):fw X x r d k=X k:=by
 unfold fw;rw [cz _ _ a,cz _ _ b,cz _ _ c,cz _ _ e]
theorem lX.assign {ch':List Nat} (h:lX n X tr ch lev rea) {x:Nat} (l:x < 2 * n) (B:tv tr x=0) (r:Int) {d:Nat} (c:X' 2=dx ch') (b:∀ k,k ≠ 2->X' k=X k):lX n (fw X' x r d) (tr ++ [x]) ch' (eG lev (x / 2) d) (eG rea (x / 2) r):=by
 have E:fw X' x r d 1=X 1 ++ [.int .i64 x]:=by unfold fw;rw [cz _ _ (by decide),cz _ _ (by decide),cz _ _ (by decide),cK,b 1 (by decide)]
 have D:fw X' x r d 2=X' 2:=iG _ _ _ _ (by decide) (by decide) (by decide) (by decide)
 have q:fw X' x r d 3=((X 3).set x (.int .i64 1)).set (op x) (.int .i64 (-1)):=by unfold fw;rw [cz _ _ (by decide),cz _ _ (by decide),cK,b 3 (by decide)]
 have p:fw X' x r d 4=(X 4).set (x / 2) (.int .i64 d):=by unfold fw;rw [cz _ _ (by decide),cK,b 4 (by decide)]
 have o:fw X' x r d 5=(X 5).set (x / 2) (.int .i64 r):=by unfold fw;rw [cK,b 5 (by decide)]
 have m:x / 2 < n:=by omega
 have z:op x < 2 * n:=wO l;refine ⟨?_,by rw [D,c],?_,?_,?_,?_,?_,?_⟩
 ·rw [E,h.l1,jA];rfl
 ·rw [q];simp [h.n3]
 ·rw [q];have u:=tQ h.n3 h.t3 l (.int .i64 1);have t:=tQ (by rw [List.length_set];exact h.n3) u z (.int .i64 (-1))
  intro y A;rw [t y A,Lf B y]
  congr 1
  by_cases j:y=x
  ·subst j;rw [dh _ _ (fun e=>Kj y e.symm),dF,if_pos rfl]
  ·rw [if_neg j];by_cases i:y=op x
   ·subst i;rw [dF,if_pos rfl]
   ·rw [dh _ _ i,dh _ _ j,if_neg i]
 ·rw [p];simp [h.n4]
 ·rw [p];have s:=tQ h.n4 (g:=fun v=>.int .i64 (lev v:Nat)) h.t4 m (.int .i64 d)
  intro v a;rw [s v a];by_cases e:v=x / 2
  ·subst e;rw [dF,dF]
  ·rw [dh _ _ e,dh _ _ e]
 ·rw [o];simp [h.n5]
 ·rw [o];have s:=tQ h.n5 (g:=fun v=>.int .i64 (rea v)) h.t5 m (.int .i64 r)
  intro v a;rw [s v a];by_cases e:v=x / 2
  ·subst e;rw [dF,dF]
  ·rw [dh _ _ e,dh _ _ e]
theorem SQ {T:List Value} {m:Nat} (c:T.length=m):∀ (l:List Nat) (g:Nat->Value),(∀ x ∈ l,x < m/\op x < m)->(∀ v,v < m->T[v]? = some (g v))->∀ v,v < m->(o8 T l)[v]? = some (if v ∈ l\/op v ∈ l then .int .i64 0 else g v):=by
 intro l
 induction l generalizing T with
 | nil=>intro g _ b v a;simp only [o8,List.not_mem_nil,or_self,if_false];exact b v a
 | cons x r ih=>
  intro g i b v a;obtain ⟨q,o⟩:=i x (List.mem_cons_self ..);have k:=tQ c b q (.int .i64 0);have j:=tQ (by rw [List.length_set];exact c) k o (.int .i64 0)
  have:=ih (T:=(T.set x (.int .i64 0)).set (op x) (.int .i64 0)) (by simp [c]) _ (fun y p=>i y (List.mem_cons_of_mem _ p)) j v a
  rw [o8,this]
  congr 1
  by_cases h:v=x
  ·subst h;rw [dh _ _ (fun e=>Kj v e.symm),dF];simp
  ·by_cases d:v=op x
   ·subst d;rw [dF,kr];simp
   ·rw [dh _ _ d,dh _ _ h];have s:op v ≠ x:=fun e=>d (by rw [<- e,kr])
    simp [h,s]
theorem lX.back (h:lX n X tr ch lev rea) (k:jm n tr ch lev) {s d:Nat} (G:s <= tr.length) (F:X' 1=dx (tr.take s)) (E:X' 2=dx (ch.take d)) (q:X' 3=o8 (X 3) (tr.drop s)) (p:X' 4=X 4) (o:X' 5=X 5):lX n X' (tr.take s) (ch.take d) lev rea where
 l1:=F
 l2:=E
 n3:=by rw [q,yh];exact h.n3
 t3:=fun x A=>by
  rw [q,SQ h.n3 (tr.drop s) _ (fun y c=>⟨k.lt y (List.mem_of_mem_drop c),wO (k.lt y (List.mem_of_mem_drop c))⟩) h.t3 x A]
  congr 1
  have mem:∀ y,y ∈ tr↔y ∈ tr.take s\/y ∈ tr.drop s:=fun y=>by
   conv=>lhs;rw [<- List.take_append_drop s tr]
   exact List.mem_append
  have a:∀ y z,y ∈ tr.take s->z ∈ tr.drop s->y / 2 ≠ z / 2:=fun y z c v e=>by
   obtain ⟨i,D,t⟩:=List.mem_iff_getElem.1 c;obtain ⟨j,B,r⟩:=List.mem_iff_getElem.1 v;rw [List.length_take] at D;rw [List.length_drop] at B;rw [List.getElem_take] at t;rw [List.getElem_drop] at r;have:=k.pY (i:=i) (j:=s + j) (by omega) (by omega) (by rw [t,r];exact e)
   omega
  split
  ·rename_i hd;have u:tv (tr.take s) x=0:=uu.2 ⟨fun b=>by
    rcases hd with hd | hd
    ·exact a x x b hd rfl
    ·exact a x (op x) b hd (by rw [gH]),fun b=>by
    rcases hd with hd | hd
    ·exact a (op x) x b hd (by rw [gH])
    ·exact a (op x) (op x) b hd rfl⟩
   rw [u]
  ·rename_i hd;have m:x ∉ tr.drop s:=fun e=>hd (.inl e)
   have l:op x ∉ tr.drop s:=fun e=>hd (.inr e)
   unfold tv;simp only [mem,m,l,or_false]
 n4:=by rw [p];exact h.n4
 t4:=by rw [p];exact h.t4
 n5:=by rw [o];exact h.n5
 t5:=by rw [o];exact h.t5
structure mJ (n:Nat) (V:Nat->Value) (X:Nat->List Value) (wl:Nat->List Nat):Prop where
 n9:(X 9).length=2 * n
 hd:∀ x,x < 2 * n->(X 9)[x]? = some (V (16 + x))
 row:∀ x,x < 2 * n->X (16 + x)=dx (wl x)
variable {V':Nat->Value} {wl:Nat->List Nat}
theorem mJ.congr (h:mJ n V X wl) (b:X' 9=X 9) (d:∀ x,x < 2 * n->V' (16 + x)=V (16 + x)) (c:∀ x,x < 2 * n->X' (16 + x)=X (16 + x)):mJ n V' X' wl:=
 ⟨by rw [b];exact h.n9,fun x a=>by rw [b,d x a];exact h.hd x a,fun x a=>by rw [c x a];exact h.row x a⟩
theorem uS (x:Nat):kP (16 + x)=3:=by
 unfold kP;rw [if_neg (by omega),if_neg (by omega),if_neg (by omega),if_neg (by omega)]
theorem mJ.push (h:mJ n V X wl) {x:Nat} (d:x < 2 * n) (a:Nat) (v':Value):mJ n (upd V (16 + x) v') (upd (upd X (16 + x) (X (16 + x) ++ [.int .i64 (a:Nat)])) 9 ((X 9).set x v')) (fun y=>if y=x then wl y ++ [a] else wl y) where
 n9:=by rw [cK,List.length_set];exact h.n9
 hd:=fun y b=>by
  rw [cK];by_cases e:y=x
  ·subst e;rw [List.getElem?_set_self (by rw [h.n9];exact b),cK]
  ·rw [List.getElem?_set_ne (fun c=>e c.symm),cz _ _ (by omega)];exact h.hd y b
 row:=fun y b=>by
  rw [cz _ _ (by omega)]
  by_cases e:y=x
  ·subst e;rw [cK,h.row y b,if_pos rfl,jA];rfl
  ·rw [cz _ _ (by omega),if_neg e];exact h.row y b
theorem mJ.put (h:mJ n V X wl) {x:Nat} (d:x < 2 * n) {l:List Nat} {R:List Value} (b:R=dx l) (v':Value):mJ n (upd V (16 + x) v') (upd (upd X (16 + x) R) 9 ((X 9).set x v')) (fun y=>if y=x then l else wl y) where
 n9:=by rw [cK,List.length_set];exact h.n9
 hd:=fun y a=>by
  rw [cK];by_cases e:y=x
  ·subst e;rw [List.getElem?_set_self (by rw [h.n9];exact a),cK]
  ·rw [List.getElem?_set_ne (fun c=>e c.symm),cz _ _ (by omega)];exact h.hd y a
 row:=fun y a=>by
  rw [cz _ _ (by omega)]
  by_cases e:y=x
  ·subst e;rw [cK,if_pos rfl];exact b
  ·rw [cz _ _ (by omega),if_neg e];exact h.row y a
theorem dQ.Kc (h:dQ Z sb w K f V X) {x:Nat} (l:16 + x < K) {d r u:Nat} (b:V 9=.slice (some ⟨d,0,none⟩) r u) {ob:Obj} {v':Value} {w6:World} {m:Nat} {news:List Value} (y:news.length=m) (A:dB (w.alloc ob) 0 3 1 (V (16 + x)) (X (16 + x)).length (X (16 + x)) m news v' w6):
  dQ Z sb (w6.setCell ⟨d,x,none⟩ v') K f (upd V (16 + x) v') (upd (upd X (16 + x) (X (16 + x) ++ news)) 9 ((X 9).set x v'))/\dC Z w (w6.setCell ⟨d,x,none⟩ v'):=by
 have j:=h.later ((Below.refl _ w).alloc lr ob);have p:=j.row.lt;have c:9 < K:=by have:=h.hK;omega
 rw [<- uS x] at A;have v:=j.row.of_block (A.grew.block sb p (fun e=>j.far l sb e.symm rfl))
 have B:=j.eO.push l y A;have D:upd V (16 + x) v' 9=.slice (some ⟨d,0,none⟩) r u:=by rw [cz _ _ (by omega)];exact b
 have s:=B.set c D x v';rw [cz _ _ (show (9:Nat) ≠ 16 + x by omega)] at s
 have o:d ≠ sb:=h.far c d (by rw [b];rfl)
 refine ⟨⟨v.of_block (Below.heap_setCell _ _ _ _ (fun e=>o e.symm)),s,fun k z=>by rw [cz _ _ (by omega)];exact h.hdr k z,h.jg,fun i t g a=>?_,fun g a=>h.az g ?_,h.hK⟩,?_⟩
 ·by_cases e:i=16 + x
  ·subst e;rw [cK] at a
   rcases A.at' with q | q
   ·rw [q] at a;exact h.al _ t g a
   ·rw [q] at a;have:=Option.some.inj a;exact h.az g (by simp at this;omega)
  ·rw [cz _ _ e] at a;exact h.al i t g a
 ·have:=A.grew.size;simp [World.setCell] at this a;omega
 ·exact (((dC.refl w).alloc ob).grown A.grew (fun g a=>h.al _ l g a)).setCell (h.al 9 c d (by rw [b];rfl)) _
theorem dQ.XT (h:dQ Z sb w K f V X) {x:Nat} (u:16 + x < K) {j o s:Nat} (c:V 9=.slice (some ⟨j,0,none⟩) o s) {a:Option Addr} {t cap m:Nat} (p:V (16 + x)=.slice a t cap) (v:m <= (X (16 + x)).length):
  dQ Z sb (w.setCell ⟨j,x,none⟩ (.slice a m cap)) K f (upd V (16 + x) (.slice a m cap)) (upd (upd X (16 + x) ((X (16 + x)).take m)) 9 ((X 9).set x (.slice a m cap))):=by
 have d:9 < K:=by have:=h.hK;omega
 have z:=h.eO.cut u p v;have A:upd V (16 + x) (.slice a m cap) 9=.slice (some ⟨j,0,none⟩) o s:=by rw [cz _ _ (by omega)];exact c
 have q:=z.set d A x (.slice a m cap);rw [cz _ _ (show (9:Nat) ≠ 16 + x by omega)] at q
 have l:j ≠ sb:=h.far d j (by rw [c];rfl)
 refine ⟨h.row.of_block (Below.heap_setCell _ _ _ _ (fun e=>l e.symm)),q,fun k y=>by rw [cz _ _ (by omega)];exact h.hdr k y,h.jg,fun i r g b=>?_,fun g b=>h.az g (by simpa [World.setCell] using b),h.hK⟩
 by_cases e:i=16 + x
 ·subst e;rw [cK] at b;exact h.al _ r g (by rw [p];cases a <;> exact b)
 ·rw [cz _ _ e] at b;exact h.al i r g b
theorem CV {cs:List Rec} (b:X 0=ints (enc cs)) {j:Nat} {z:Int} (a:(enc cs)[j]? = some z):(X 0)[j]? = some (.int .i64 z):=by rw [b,lU,a];rfl
theorem dQ.Gi (h:dQ Z sb w K f V X) {x:Nat} (r:16 + x < K) {c s v:Nat} (b:V 9=.slice (some ⟨c,0,none⟩) s v) (q:x < (X 9).length) {ob:Obj} {v':Value} {w6:World} {m:Nat} {news:List Value} (A:dB (w.alloc ob) 0 3 1 (V (16 + x)) (X (16 + x)).length (X (16 + x)) m news v' w6):
  (∀ j,j < 22->w6.cell? ⟨sb,j,none⟩=some (f j))/\w6.cell? ⟨c,x,none⟩=(X 9)[x]? /\ w6.frozen? ⟨c,x,none⟩=false:=by
 have i:=h.later ((Below.refl _ w).alloc lr ob);have d:9 < K:=by have:=h.hK;omega
 have t:=i.row.of_block (A.grew.block sb i.row.lt (fun e=>i.far r sb e.symm rfl))
 have p:=((i.eO.own 9 d).lt c (by rw [b];rfl)).2
 have o:some c ≠ (V (16 + x)).ownBlock:=fun e=>by
  rcases h.eO.apart 9 (16 + x) d r (by omega) with l | l
  ·rw [b] at l;cases l
  ·exact l (by rw [<- e,b];rfl)
 have k:=A.grew.block c p o;obtain ⟨z,y⟩:=i.eO.cell d b q;exact ⟨fun j u=>t.cell u,(World.cell?_of_block (a:=⟨c,x,none⟩) k).trans z,(World.frozen?_of_block (a:=⟨c,x,none⟩) k).trans y⟩
theorem mJ.at' (h:mJ n V X wl) (m:dQ Z sb w K f V X) (u:K=16 + 2 * n) {x:Nat} (i:x < 2 * n):∃ a d b wc,V 9=.slice (some ⟨a,0,none⟩) (2 * n) d/\V (16 + x)=.slice b (wl x).length wc/\w.cell? ⟨sb,5,none⟩=some (.slice (some ⟨a,0,none⟩) (2 * n) d)/\w.cell? ⟨a,x,none⟩=some (.slice b (wl x).length wc)/\w.frozen? ⟨a,x,none⟩=false/\a < w.heap.size/\a ≠ sb/\Z a/\w.ownsRow 0 3 1 (.slice b (wl x).length wc) (wl x).length (dx (wl x)):=by
 obtain ⟨a,d,t,e,q,r,s,z,zz,l,p⟩:=m.elem (k:=9) (j:=x) (by omega) h.n9 i
 rw [show cellOf 9=5 from rfl] at q
 rw [h.hd x i] at s;obtain rfl:=Option.some.inj s;have c:=m.eO.own (16 + x) (by omega)
 rw [uS,h.row x i,df] at c;obtain ⟨b,wc,o⟩:=dG c;rw [o] at c r;exact ⟨a,d,b,wc,e,o,q,r,z,l,p,zz,c⟩
theorem fJ {cs:List Rec} (a:dQ Z sb w K f V X) (y:X 0=ints (enc cs)) {k:Nat} (b:k < cs.length):∃ g c,V 0=.slice (some ⟨g,0,none⟩) (enc cs).length c/\w.cell? ⟨sb,2,none⟩=some (.slice (some ⟨g,0,none⟩) (enc cs).length c)/\(enc cs).length <= c/\g < w.heap.size/\g ≠ sb/\Z g/\w.cell? ⟨g,dw cs k,none⟩=some (.int .i64 ((cs[k]).lits.length:Nat))/\w.cell? ⟨g,dw cs k + 1,none⟩=some (.int .i64 ((cs[k]).kind:Nat))/\w.cell? ⟨g,dw cs k + 2,none⟩=some (.int .i64 (cs[k]).busy)/\(∀ i (u:i < (cs[k]).lits.length),w.cell? ⟨g,dw cs k + 3 + i,none⟩=some (.int .i64 ((cs[k]).lits[i]:Nat)))/\∀ j,w.frozen? ⟨g,j,none⟩=false:=by
 have v:=eF b;have p:(X 0).length=(enc cs).length:=by rw [y,fV]
 have G:=a.hK;obtain ⟨g,c,t,e,q,r,s,z,zz,l,D⟩:=a.elem (k:=0) (j:=dw cs k) (by omega) p (by omega)
 rw [show cellOf 0=2 from rfl] at q
 obtain ⟨H,B,F,A,_,_,x⟩:=a.eO.block (k:=0) (by omega) (by omega)
 rw [e] at A;obtain ⟨_,_,rfl⟩:=Value.slice.inj A;have d:∀ j z,(enc cs)[j]? = some z->w.cell? ⟨g,j,none⟩=some (.int .i64 z):=fun j z m=>by
  have E:j < (X 0).length:=by
   rw [p]
   rcases Nat.lt_or_ge j (enc cs).length with h | h
   ·exact h
   ·rw [List.getElem?_eq_none h] at m;cases m
  rw [(a.eO.cell (k:=0) (by omega) e E).1]
  exact CV y m
 have o:=a.eO.own 0 (by omega)
 rw [e] at o;rw [p] at o x;exact ⟨g,c,e,q,x,l,D,zz,d _ _ (GI b),d _ _ (Q7 b),d _ _ (zw b),fun i u=>d _ _ (xO b u),fun j=>o.frozenAt j⟩
end
end
section
structure Ec (n:Nat) (items:List Nat) (pl:Nat->Int):Prop where
 lt:∀ v ∈ items,v < n
 at':∀ v,v < n->pl v=-1\/∃ i:Nat,pl v=i/\items[i]? = some v
 pl:∀ i (h:i < items.length),pl items[i]=(i:Nat)
structure Sg (n:Nat) (item hole:Nat) (items:List Nat) (pl:Nat->Int):Prop where
 lt:∀ v ∈ items,v < n
 hit:item < n
 hho:hole < items.length
 at':∀ v,v < n->v ≠ item->pl v=-1\/∃ i:Nat,pl v=i/\i ≠ hole/\items[i]? = some v
 pl:∀ i (h:i < items.length),i ≠ hole->items[i] ≠ item/\pl items[i]=(i:Nat)
variable {n:Nat} {items:List Nat} {pl:Nat->Int} {item hole:Nat}
theorem Ec.open (h:Ec n items pl) {i:Nat} (hi:i < items.length):Sg n items[i] i items pl where
 lt:=h.lt
 hit:=h.lt _ (List.getElem_mem hi)
 hho:=hi
 at':=fun v k a=>by
  rcases h.at' v k with b | ⟨j,b,c⟩
  ·exact .inl b
  ·refine .inr ⟨j,b,fun e=>?_,c⟩
   subst e;rw [List.getElem?_eq_getElem hi] at c;exact a (Option.some.inj c).symm
 pl:=fun j d a=>by
  refine ⟨fun e=>a ?_,h.pl j d⟩
  have b:=h.pl j d;rw [e,h.pl i hi] at b;omega
theorem Sg.move (h:Sg n item hole items pl) {k:Nat} (c:k < items.length) (b:k ≠ hole):Sg n item k (items.set hole items[k]) (eG pl items[k] (hole:Nat)) where
 lt:=fun v l=>by
  rcases List.mem_or_eq_of_mem_set l with a | a
  ·exact h.lt v a
  ·subst a;exact h.lt _ (List.getElem_mem c)
 hit:=h.hit
 hho:=by simpa using c
 at':=fun v l i=>by
  by_cases e:v=items[k]
  ·subst e;rw [dF];exact .inr ⟨hole,rfl,fun e=>b e.symm,by rw [List.getElem?_set_self h.hho]⟩
  ·rw [dh _ _ e]
   rcases h.at' v l i with a | ⟨j,a,d,o⟩
   ·exact .inl a
   ·refine .inr ⟨j,a,fun p=>?_,?_⟩
    ·subst p;rw [List.getElem?_eq_getElem c] at o;exact e (Option.some.inj o).symm
    ·rw [List.getElem?_set_ne (fun e=>d e.symm)];exact o
 pl:=fun j r q=>by
  have m:j < items.length:=by simpa using r
  by_cases e:j=hole
  ·subst e;rw [List.getElem_set_self];exact ⟨(h.pl k c b).1,dF ..⟩
  ·rw [List.getElem_set_ne (fun p=>e p.symm)]
   obtain ⟨a,d⟩:=h.pl j m e;refine ⟨a,?_⟩;have:items[j] ≠ items[k]:=fun t=>by
    have s:=(h.pl k c b).2;rw [<- t,d] at s;omega
   rw [dh _ _ this];exact d
theorem Sg.close (h:Sg n item hole items pl):Ec n (items.set hole item) (eG pl item (hole:Nat)) where
 lt:=fun v b=>by
  rcases List.mem_or_eq_of_mem_set b with a | a
  ·exact h.lt v a
  ·subst a;exact h.hit
 at':=fun v b=>by
  by_cases e:v=item
  ·subst e;exact .inr ⟨hole,dF ..,by rw [List.getElem?_set_self h.hho]⟩
  ·rw [dh _ _ e]
   rcases h.at' v b e with a | ⟨j,a,d,k⟩
   ·exact .inl a
   ·exact .inr ⟨j,a,by rw [List.getElem?_set_ne (fun e=>d e.symm)];exact k⟩
 pl:=fun j i=>by
  have c:j < items.length:=by simpa using i
  by_cases e:j=hole
  ·subst e;rw [List.getElem_set_self];exact dF ..
  ·rw [List.getElem_set_ne (fun l=>e l.symm)]
   obtain ⟨a,d⟩:=h.pl j c e;rw [dh _ _ a];exact d
theorem Ec.push (h:Ec n items pl) {v:Nat} (k:v < n) (m:pl v=-1):Sg n v items.length (items ++ [v]) pl where
 lt:=fun x c=>by
  rcases List.mem_append.1 c with a | a
  ·exact h.lt x a
  ·simp at a;subst a;exact k
 hit:=k
 hho:=by simp
 at':=fun x c d=>by
  rcases h.at' x c with a | ⟨j,a,l⟩
  ·exact .inl a
  ·have i:=(List.getElem?_eq_some_iff.1 l).1;exact .inr ⟨j,a,by omega,by rw [List.getElem?_append_left i];exact l⟩
 pl:=fun j i d=>by
  have b:j < items.length:=by simp at i;omega
  rw [List.getElem_append_left b];refine ⟨fun e=>?_,h.pl j b⟩
  have:=h.pl j b;rw [e,m] at this;omega
theorem Ec.pop (h:Ec n items pl) {l:Nat} (B:items.length=l + 2) {first:Nat} (y:items[0]? = some first) {last:Nat} (o:items[l + 1]? = some last):Sg n last 0 (items.take (l + 1)) (eG pl first (-1)):=by
 obtain ⟨z,u⟩:=List.getElem?_eq_some_iff.1 y;obtain ⟨s,q⟩:=List.getElem?_eq_some_iff.1 o;have d:∀ j (i:j < items.length) k (r:k < items.length),items[j]=items[k]->j=k:=fun j i k r e=>by
  have a:=h.pl j i;rw [e,h.pl k r] at a;omega
 exact {
  lt:=fun v m=>h.lt v (List.mem_of_mem_take m)
  hit:=by rw [<- q];exact h.lt _ (List.getElem_mem s)
  hho:=by rw [List.length_take];omega
  at':=fun v m b=>by
   by_cases e:v=first
   ·subst e;exact .inl (dF ..)
   ·rw [dh _ _ e]
    rcases h.at' v m with g1 | ⟨j,g1,g2⟩
    ·exact .inl g1
    ·obtain ⟨i,t⟩:=List.getElem?_eq_some_iff.1 g2;have x:j ≠ 0:=fun p=>by subst p;exact e (by rw [<- t,u])
     have A:j ≠ l + 1:=fun p=>by subst p;exact b (by rw [<- t,q])
     exact .inr ⟨j,g1,x,by rw [List.getElem?_take,if_pos (by omega)];exact g2⟩
  pl:=fun j i b=>by
   rw [List.length_take] at i;have c:j < items.length:=by omega
   rw [List.getElem_take];refine ⟨fun e=>?_,?_⟩
   ·rw [<- q] at e;have:=d j c (l + 1) s e;omega
   ·have:items[j] ≠ first:=fun e=>b (d j c 0 z (by rw [e,u]))
    rw [dh _ _ this];exact h.pl j c }
theorem Ec.VP (h:Ec n items pl) (d:items.length=1) {first:Nat} (c:items[0]? = some first):Ec n (items.take 0) (eG pl first (-1)) where
 lt:=fun v a=>by simp at a
 at':=fun v a=>by
  by_cases e:v=first
  ·subst e;exact .inl (dF ..)
  ·rw [dh _ _ e]
   rcases h.at' v a with g1 | ⟨j,g1,g2⟩
   ·exact .inl g1
   ·obtain ⟨k,l⟩:=List.getElem?_eq_some_iff.1 g2;have:j=0:=by omega
    subst this;rw [c] at g2;exact absurd (Option.some.inj g2).symm e
 pl:=fun i b=>by simp at b
theorem iZ:∀ (n:Nat) (l:List Nat),l.Nodup->(∀ v ∈ l,v < n)->l.length <= n
 | 0,l,_,h=>by
  cases l with
  | nil=>simp
  | cons a r=>have:=h a (List.mem_cons_self ..);omega
 | n + 1,l,hn,h=>by
  by_cases e:n ∈ l
  ·have d:(l.erase n).length <= n:=iZ n (l.erase n) (hn.erase n) fun v b=>by
    have c:=(hn.mem_erase_iff).1 b;have:=h v c.2;have:=c.1;omega
   rw [List.length_erase_of_mem e] at d;omega
  ·have d:l.length <= n:=iZ n l hn fun v b=>by
    have:=h v b;have:v ≠ n:=fun i=>e (i ▸ b)
    omega
   omega
theorem Ec.len (h:Ec n items pl):items.length <= n:=by
 have nd:items.Nodup:=by
  refine List.pairwise_iff_getElem.2 fun i j d b c e=>?_
  have a:=h.pl i d;rw [e,h.pl j b] at a;omega
 exact iZ n items nd h.lt
theorem Ec.empty (h:Ec n items pl) (d:items.length=0) {v:Nat} (c:v < n):pl v=-1:=by
 rcases h.at' v c with b | ⟨j,b,a⟩
 ·exact b
 ·rw [List.getElem?_eq_none (by omega)] at a;cases a
end
section
open Go Go.RowKit Go.Deep Rd
section
def EY (k:Nat):TypeId:=if k=1 then 2 else 3
theorem Ki (k:Nat):EY k ≠ 193/\EY k ≠ 224:=by unfold EY;split <;> decide
abbrev ahead (ob:Nat):Value:=.func (.func 126) #[.pointer (some ⟨ob,0,none⟩)] #[]
abbrev placed (ob:Nat):Value:=.func (.func 127) #[.pointer (some ⟨ob,0,none⟩)] #[]
def Po (hb:Nat) (V:Nat->Value) (wt:Int) (j:Nat):Value:=if j=0 then .pointer (some ⟨hb,0,none⟩) else if j=1 then V 0 else if j=2 then V 1 else .int .i64 wt
def UE (ob:Nat) (V:Nat->Value) (j:Nat):Value:=if j=0 then V 2 else if j=1 then ahead ob else placed ob
structure Ord (Z:Nat->Prop) (ob hb:Nat) (w:World) (wt:Int) (V:Nat->Value) (X:Nat->List Value):Prop where
 jM:w.rowIs ob 193 4 (Po hb V wt)
 hrow:w.rowIs hb 224 3 (UE ob V)
 eO:rU 0 w 3 EY V X
 zo:Z ob
 zh:Z hb
 al:∀ k,k < 3->∀ g,(V k).ownBlock=some g->Z g
 az:∀ g,w.heap.size <= g->Z g
variable {Z:Nat->Prop} {ob hb:Nat} {w w':World} {wt:Int} {V:Nat->Value} {X:Nat->List Value}
theorem Ord.far (h:Ord Z ob hb w wt V X) {k:Nat} (l:k < 3):∀ g,(V k).ownBlock=some g->g ≠ ob/\g ≠ hb:=fun g b=>by
 obtain ⟨c,j,_⟩:=h.jM;obtain ⟨q,d,_⟩:=h.hrow
 rcases (h.eO.own k l).2 with ⟨i,_⟩ | ⟨m,p,o,i,_,a,_⟩
 ·rw [i] at b;cases b
 ·rw [i] at b;obtain rfl:m=g:=Option.some.inj b;refine ⟨fun e=>?_,fun e=>?_⟩
  ·rw [e,j] at a;exact (Ki k).1 (Obj.cells.inj (Option.some.inj a)).2.1.symm
  ·rw [e,d] at a;exact (Ki k).2 (Obj.cells.inj (Option.some.inj a)).2.1.symm
theorem Ord.two (h:Ord Z ob hb w wt V X):ob ≠ hb:=fun e=>by
 obtain ⟨c,b,_⟩:=h.jM;obtain ⟨d,a,_⟩:=h.hrow;rw [e,a] at b;have:=(Obj.cells.inj (Option.some.inj b)).2.1;exact absurd this (by decide)
theorem Ord.later (h:Ord Z ob hb w wt V X) (a:Below w.heap.size w w'):Ord Z ob hb w' wt V X:=
 ⟨h.jM.of_block (a.block _ h.jM.lt),h.hrow.of_block (a.block _ h.hrow.lt),h.eO.later a,h.zo,h.zh,h.al,fun g b=>h.az g (Nat.le_trans a.size b)⟩
theorem Ord.kept (h:Ord Z ob hb w wt V X) {Z':Nat->Prop} (b:dC Z' w w') (i:¬ Z' ob) (e:¬ Z' hb) (d:∀ k,k < 3->∀ g,(V k).ownBlock=some g->¬ Z' g):Ord Z ob hb w' wt V X:=
 ⟨h.jM.of_block (b.block _ h.jM.lt i),h.hrow.of_block (b.block _ h.hrow.lt e),h.eO.kept fun k g c a=>b.block g ((h.eO.own k c).lt g a).2 (d k c g a),h.zo,h.zh,h.al,fun g a=>h.az g (Nat.le_trans b.size a)⟩
theorem Ord.set (h:Ord Z ob hb w wt V X) {k:Nat} (b:k < 3) {g n cap:Nat} (a:V k=.slice (some ⟨g,0,none⟩) n cap) (j:Nat) (u:Value):Ord Z ob hb (w.setCell ⟨g,j,none⟩ u) wt V (upd X k ((X k).set j u))/\dC Z w (w.setCell ⟨g,j,none⟩ u):=by
 obtain ⟨d,c⟩:=h.far b g (by rw [a];rfl)
 exact ⟨⟨h.jM.of_block (Below.heap_setCell _ _ _ _ (fun e=>d e.symm)),h.hrow.of_block (Below.heap_setCell _ _ _ _ (fun e=>c e.symm)),h.eO.set b a j u,h.zo,h.zh,h.al,fun g i=>h.az g (by simpa [World.setCell] using i)⟩,(dC.refl w).setCell (h.al k b g (by rw [a];rfl)) _⟩
theorem Ord.weight (h:Ord Z ob hb w wt V X) (t:Int):Ord Z ob hb (w.setCell ⟨ob,3,none⟩ (.int .i64 t)) t V X/\dC Z w (w.setCell ⟨ob,3,none⟩ (.int .i64 t)):=
 ⟨⟨(h.jM.set 3 (.int .i64 t)).congr fun i c=>by
   unfold Po;by_cases e:i=3
   ·subst e;simp
   ·have:i=0\/i=1\/i=2:=by omega
    rcases this with rfl | rfl | rfl <;> simp,
  h.hrow.of_block (Below.heap_setCell _ _ _ _ (fun e=>h.two e.symm)),
  h.eO.kept fun k g b a=>Below.heap_setCell _ _ _ _ (by simpa using (h.far b g a).1),h.zo,h.zh,h.al,fun g a=>h.az g (by simpa [World.setCell] using a)⟩,(dC.refl w).setCell h.zo _⟩
theorem Ord.header {w6:World} {V':Nat->Value} {X':Nat->List Value} {v':Value} (h:Ord Z ob hb w wt V X) (j:w6.rowIs ob 193 4 (Po hb V wt)) (o:w6.rowIs hb 224 3 (UE ob V)) (p:rU 0 w6 3 EY V' X') (d:V'=upd V 2 v') (a:∀ k,k < 3->∀ g,(V' k).ownBlock=some g->g ≠ hb) (e:w.heap.size <= w6.heap.size) (c:∀ k,k < 3->∀ g,(V' k).ownBlock=some g->Z g):
  Ord Z ob hb (w6.setCell ⟨hb,0,none⟩ v') wt V' X':=
 ⟨(j.of_block (Below.heap_setCell _ _ _ _ (by simpa using h.two))).congr fun i m=>by
   rw [d];unfold Po;have:i=0\/i=1\/i=2\/i=3:=by omega
   rcases this with rfl | rfl | rfl | rfl <;> simp [upd],
  (o.set 0 v').congr fun i m=>by
   rw [d];unfold UE;have:i=0\/i=1\/i=2:=by omega
   rcases this with rfl | rfl | rfl <;> simp [upd],
  p.kept fun k g l b=>Below.heap_setCell _ _ _ _ (by simpa using a k l g b),h.zo,h.zh,c,fun g b=>h.az g (by simp [World.setCell] at b;omega)⟩
theorem Ord.push (h:Ord Z ob hb w wt V X) {obj:Obj} {v':Value} {w6:World} {m:Nat} {news:List Value} (p:news.length=m) (A:dB (w.alloc obj) 0 3 1 (V 2) (X 2).length (X 2) m news v' w6):
  Ord Z ob hb (w6.setCell ⟨hb,0,none⟩ v') wt (upd V 2 v') (upd X 2 (X 2 ++ news))/\dC Z w (w6.setCell ⟨hb,0,none⟩ v')/\w6.cell? ⟨hb,0,none⟩=some (V 2)/\w6.frozen? ⟨hb,0,none⟩=false:=by
 have b:=h.later ((Below.refl _ w).alloc lr obj);rw [show (3:TypeId)=EY 2 from rfl] at A
 have l:=b.far (k:=2) (by omega)
 have o:=b.jM.of_block (A.grew.block ob b.jM.lt (fun e=>(l ob e.symm).1 rfl))
 have j:=b.hrow.of_block (A.grew.block hb b.hrow.lt (fun e=>(l hb e.symm).2 rfl))
 refine ⟨h.header o j (b.eO.push (by omega) p A) rfl (fun k d g a=>?_) (by have:=A.grew.size;simp at this;omega) (fun k d g a=>?_),(((dC.refl w).alloc obj).grown A.grew (fun g a=>h.al 2 (by omega) g a)).setCell h.zh _,j.cell (i:=0) (by omega),j.frozen 0⟩
 ·by_cases e:k=2
  ·subst e;rw [cK] at a
   rcases A.at' with c | c
   ·rw [c] at a;exact (b.far d g a).2
   ·rw [c] at a;have:=Option.some.inj a;have:=b.hrow.lt;omega
  ·rw [cz _ _ e] at a;exact (b.far d g a).2
 ·by_cases e:k=2
  ·subst e;rw [cK] at a
   rcases A.at' with c | c
   ·rw [c] at a;exact h.al 2 d g a
   ·rw [c] at a;have:=Option.some.inj a;exact h.az g (by simp at this;omega)
  ·rw [cz _ _ e] at a;exact h.al k d g a
theorem Ord.cut (h:Ord Z ob hb w wt V X) {a:Option Addr} {n cap m:Nat} (j:V 2=.slice a n cap) (k:m <= (X 2).length):Ord Z ob hb (w.setCell ⟨hb,0,none⟩ (.slice a m cap)) wt (upd V 2 (.slice a m cap)) (upd X 2 ((X 2).take m))/\dC Z w (w.setCell ⟨hb,0,none⟩ (.slice a m cap)):=by
 have c:∀ i g,(upd V 2 (.slice a m cap) i).ownBlock=some g->(V i).ownBlock=some g:=fun i g b=>by
  by_cases e:i=2
  ·subst e;rw [cK] at b;rw [j];cases a <;> exact b
  ·rw [cz _ _ e] at b;exact b
 exact ⟨h.header h.jM h.hrow (h.eO.cut (by omega) j k) rfl (fun i d g b=>(h.far d g (c i g b)).2) lr (fun i d g b=>h.al i d g (c i g b)),(dC.refl w).setCell h.zh _⟩
theorem Ord.elem (h:Ord Z ob hb w wt V X) {k j n:Nat} (b:k < 3) (m:(X k).length=n) (c:j < n):∃ g a t,V k=.slice (some ⟨g,0,none⟩) n a/\w.cell? ⟨g,j,none⟩=some t/\(X k)[j]? = some t/\w.frozen? ⟨g,j,none⟩=false/\Z g/\g < w.heap.size/\g ≠ ob/\g ≠ hb:=by
 subst m;obtain ⟨g,a,p,e,o,r,s⟩:=h.eO.block b (by omega)
 obtain ⟨d,q⟩:=h.eO.cell b e c;rw [List.getElem?_eq_getElem c] at d;obtain ⟨l,i⟩:=h.far b g (by rw [e];rfl)
 exact ⟨g,a,(X k)[j],e,d,List.getElem?_eq_getElem c,q,h.al k b g (by rw [e];rfl),((h.eO.own k b).lt g (by rw [e];rfl)).2,l,i⟩
theorem Ord.cells (h:Ord Z ob hb w wt V X):w.cell? ⟨ob,0,none⟩=some (.pointer (some ⟨hb,0,none⟩))/\w.cell? ⟨ob,1,none⟩=some (V 0)/\w.cell? ⟨ob,2,none⟩=some (V 1)/\w.cell? ⟨ob,3,none⟩=some (.int .i64 wt)/\w.cell? ⟨hb,0,none⟩=some (V 2)/\w.cell? ⟨hb,1,none⟩=some (ahead ob)/\w.cell? ⟨hb,2,none⟩=some (placed ob)/\w.frozen? ⟨hb,0,none⟩=false/\w.frozen? ⟨ob,3,none⟩=false:=
 ⟨h.jM.cell (i:=0) (by omega),h.jM.cell (i:=1) (by omega),h.jM.cell (i:=2) (by omega),h.jM.cell (i:=3) (by omega),h.hrow.cell (i:=0) (by omega),h.hrow.cell (i:=1) (by omega),h.hrow.cell (i:=2) (by omega),h.hrow.frozen 0,h.jM.frozen 3⟩
structure oK (n g:Nat) (X:Nat->List Value) (items:List Nat) (pl bz:Nat->Int):Prop where
 n0:(X 0).length=n
 t0:∀ v,v < n->v ≠ g->(X 0)[v]? = some (.int .i64 (pl v))
 i0:∀ v,v < n->∃ t:Int,(X 0)[v]? = some (.int .i64 t)
 n1:(X 1).length=n
 t1:∀ v,v < n->(X 1)[v]? = some (.int .i64 (bz v))
 t2:X 2=dx items
variable {n g:Nat} {items:List Nat} {pl bz:Nat->Int}
theorem oK.put (h:oK n g X items pl bz) {v p:Nat} (d:v < n) (i:v ≠ g):oK n g (upd (upd X 2 ((X 2).set p (.int .i64 (v:Nat)))) 0 ((X 0).set v (.int .i64 (p:Nat)))) (items.set p v) (eG pl v (p:Nat)) bz where
 n0:=by rw [cK,List.length_set];exact h.n0
 t0:=fun x a b=>by
  rw [cK];by_cases e:x=v
  ·subst e;rw [List.getElem?_set_self (by rw [h.n0];exact a),dF]
  ·rw [List.getElem?_set_ne (fun c=>e c.symm),dh _ _ e];exact h.t0 x a b
 i0:=fun x a=>by
  rw [cK];by_cases e:x=v
  ·subst e;exact ⟨_,List.getElem?_set_self (by rw [h.n0];exact a)⟩
  ·rw [List.getElem?_set_ne (fun c=>e c.symm)];exact h.i0 x a
 n1:=by rw [cz _ _ (by decide),cz _ _ (by decide)];exact h.n1
 t1:=by rw [cz _ _ (by decide),cz _ _ (by decide)];exact h.t1
 t2:=by rw [cz _ _ (by decide),cK,h.t2,nJ]
end
section
variable {Z:Nat->Prop} {ob hb:Nat} {w w':World} {wt:Int} {V:Nat->Value} {X:Nat->List Value} {n g:Nat} {items:List Nat} {pl bz:Nat->Int}
theorem oK.busy (d:oK n g X items pl bz) (h:Ord Z ob hb w wt V X) {a:Nat} (c:a < n):∃ g1 b,w.cell? ⟨ob,2,none⟩=some (.slice (some ⟨g1,0,none⟩) n b)/\w.cell? ⟨g1,a,none⟩=some (.int .i64 (bz a)):=by
 obtain ⟨g1,b,t,e,r,s,_⟩:=h.elem (k:=1) (j:=a) (by omega) d.n1 c
 rw [d.t1 a c] at s;obtain rfl:=Option.some.inj s;have:=h.cells.2.2.1;rw [e] at this;exact ⟨g1,b,this,r⟩
theorem mO (h:Ord Z ob hb w wt V X) (i:oK n g X items pl bz) {a b:Nat} (o:a < n) (d:b < n):
  Calls Tryz.prog 126 #[.pointer (some ⟨ob,0,none⟩),.int .i64 (a:Nat),.int .i64 (b:Nat)] w fun e w'=>e=.returned (.bool (decide (bz b < bz a)))/\∃ k,w'=w.drewN k:=by
 obtain ⟨g1,t,m,s⟩:=i.busy h o;obtain ⟨j,q,c,r⟩:=i.busy h d;rw [m] at c;obtain ⟨l,_,p⟩:=Value.slice.inj (Option.some.inj c);obtain rfl:g1=j:=by have:=Option.some.inj l;exact congrArg Addr.block this
 subst p;have y:(0:Int) <= (a:Int):=by omega
 have x:(a:Int) < (n:Int):=by omega
 have v:(0:Int) <= (b:Int):=by omega
 have u:(b:Int) < (n:Int):=by omega
 clear h i c l;go_enter Tryz.func126,Tryz.ntmps126
 go_upto_region 1 with fail
 go_quiet (fail)
 go_wp2;go_ret
 exact ⟨rfl,_,rfl⟩
theorem uD (h:Ord Z ob hb w wt V X) (a:oK n g X items pl bz) {v:Nat} (p:Int) (b:v < n):
  Calls Tryz.prog 127 #[.pointer (some ⟨ob,0,none⟩),.int .i64 (v:Nat),.int .i64 p] w fun e w'=>e=.returned (.tuple #[])/\Ord Z ob hb w' wt V (upd X 0 ((X 0).set v (.int .i64 p)))/\dC Z w w':=by
 obtain ⟨i,l,t,e,r,s,z,_⟩:=h.elem (k:=0) (j:=v) (by omega) a.n0 b
 have q:=h.cells.2.1;rw [e] at q;have F:=hide (h.set (k:=0) (by omega) e v (.int .i64 p))
 have d:(0:Int) <= (v:Int):=by omega
 have c:(v:Int) < (n:Int):=by omega
 clear h a e s;go_enter Tryz.func127,Tryz.ntmps127
 go_wp2;go_end0
 exact ⟨rfl,F.out.1,F.out.2⟩
theorem si (h:Ord Z ob hb w wt V X) (a:oK n g X items pl bz) {v p:Nat} (u:v < n) (x:p < items.length):
  Calls Tryz.prog 203 #[.pointer (some ⟨hb,0,none⟩),.int .i64 (p:Nat),.int .i64 (v:Nat)] w fun e w'=>e=.returned (.tuple #[])/\Ord Z ob hb w' wt V (upd (upd X 2 ((X 2).set p (.int .i64 (v:Nat)))) 0 ((X 0).set v (.int .i64 (p:Nat))))/\dC Z w w':=by
 have i:(X 2).length=items.length:=by rw [a.t2,df]
 obtain ⟨g2,I,t,e,r,s,z,_⟩:=h.elem (k:=2) (j:=p) (by omega) i x
 have q:=h.cells.2.2.2.2.1;rw [e] at q;have F:=hide (h.set (k:=2) (by omega) e p (.int .i64 (v:Nat)))
 have o:=F.out.1.cells.2.2.2.2.2.2.1;have l:oK n g (upd X 2 ((X 2).set p (.int .i64 (v:Nat)))) (items.set p v) pl bz:=⟨by rw [cz _ _ (by decide)];exact a.n0,by rw [cz _ _ (by decide)];exact a.t0,by rw [cz _ _ (by decide)];exact a.i0,by rw [cz _ _ (by decide)];exact a.n1,by rw [cz _ _ (by decide)];exact a.t1,by rw [cK,a.t2,nJ]⟩
 have d:=hide (uD F.out.1 l (p:Nat) u);rw [cz _ _ (by decide)] at d
 have E:(0:Int) <= (p:Int):=by omega
 have p1:(p:Int) < (items.length:Int):=by omega
 have m:=hide F.out.2;generalize G:w.setCell ⟨g2,p,none⟩ (.int .i64 (v:Nat))=J at d o m;clear F h a e s l i;go_enter Tryz.func203,Tryz.ntmps203
 go_upto_region 1 with fail
 go_wp2_with (go_at_call 127;refine d.out.mono ?_;rintro H D ⟨rfl,b,c⟩;have y:=hide b;have B:=hide c;clear b c;simp only [])
 go_end0
 exact ⟨rfl,y.out,m.out.trans B.out⟩
end
section
variable {Z:Nat->Prop} {sb K:Nat} {w w':World} {f V:Nat->Value} {X:Nat->List Value} {n:Nat} {wl:Nat->List Nat}
def Ab (X X':Nat->List Value):Prop:=∀ k,k ≠ 9->k < 16->X' k=X k
def xn (wl:Nat->List Nat) (a p q:Nat) (i:Nat) (x:Nat):List Nat:=if (x=p/\1 <= i)\/(x=q/\2 <= i) then wl x ++ [a] else wl x
def Ry (Z:Nat->Prop) (sb:Nat) (w:World) (K:Nat) (f:Nat->Value) (X:Nat->List Value) (n:Nat) (wl:Nat->List Nat) (a p q:Nat) (i13:Value) (wr:World):Prop:=
 ∃ i:Nat,i13=.int .i64 i/\i <= 2/\∃ V' X',Hid (dQ Z sb wr K f V' X'/\mJ n V' X' (xn wl a p q i)/\Ab X X'/\dC Z w wr)
theorem N9 {a p q:Nat} (c:p ≠ q) {i:Nat} (hi:i < 2) {x:Nat} (b:x=if i=0 then p else q):(fun y=>if y=x then xn wl a p q i y ++ [a] else xn wl a p q i y)=xn wl a p q (i + 1):=by
 funext y
 unfold xn
 rcases (show i=0\/i=1 by omega) with rfl | rfl
 ·simp only [if_true] at b;subst b;by_cases e:y=x
  ·subst e;simp
  ·simp [e]
 ·simp only [Nat.one_ne_zero,if_false] at b;subst b;by_cases e:y=x
  ·subst e;have:y ≠ p:=fun e=>c e.symm
   simp [this]
  ·simp [e]
theorem AY {cs:List Rec} {k p q:Nat} {r:List Nat} (h:dQ Z sb w K f V X) (ab:K=16 + 2 * n) (E:X 0=ints (enc cs)) (H:k < cs.length) (G:(cs[k]).lits=p :: q :: r) (U:p ≠ q) (hp:p < 2 * n) (hq:q < 2 * n) (hn:n <= 50) (hN:(enc cs).length <= 1099511627776) (hW:mJ n V X wl) (R:∀ x,x < 2 * n->(wl x).length <= 1099511627776):
  Calls Tryz.prog 133 #[.pointer (some ⟨sb,0,none⟩),.int .i64 (dw cs k:Nat)] w fun e w'=>e=.returned (.tuple #[])/\dC Z w w'/\∃ V' X',dQ Z sb w' K f V' X'/\mJ n V' X' (xn wl (dw cs k) p q 2)/\Ab X X':=by
 obtain ⟨i0,hi,Q,P,O⟩:=info_parts Tryz.fP;obtain ⟨g,c,e0,q0,hc,lg,ng,zg,r0,-,-,-,-⟩:=fJ h E H;have ai:=eF H;have HS:=hide h;have HW:=hide hW;have m2:2 <= (cs[k]).lits.length:=by rw [G];simp
 have c0:=xO H (i:=0) (by omega)
 have c1:=xO H (i:=1) (by omega)
 rw [show (cs[k]).lits[0]'(by omega)=p by simp [G]] at c0
 rw [show (cs[k]).lits[1]'(by omega)=q by simp [G]] at c1
 have I:Hid (∀ Y:World,Y.heap=w.heap->Calls Tryz.prog 175 #[.pointer (some ⟨sb,2,none⟩),.int .i64 (dw cs k:Nat)] Y fun e w'=>e=.returned (jB g (dw cs k) (cs[k]).lits.length c)/\∃ j,w'=Y.drewN j):=fun Y hY=>iY sb 2 g (enc cs).length c (dw cs k) (cs[k]).lits.length Y (by rw [show Y.cell? ⟨sb,2,none⟩=w.cell? ⟨sb,2,none⟩ from World.cell?_of_block (a:=⟨sb,2,none⟩) (by rw [hY])];exact q0) (by omega) (by unfold maxLen;omega) hc (by rw [show Y.cell? ⟨g,dw cs k,none⟩=w.cell? ⟨g,dw cs k,none⟩ from World.cell?_of_block (a:=⟨g,dw cs k,none⟩) (by rw [hY])];exact r0)
 have nc:¬ (c=dw cs k + 3):=by omega
 unfold jB at I;rw [if_neg nc] at I;have al:(2:Int) <= ((c - (dw cs k + 3):Nat):Int):=by omega
 clear r0 q0;generalize dw cs k=a at *
 generalize (cs[k]).lits.length=m at *
 generalize enc cs=ec at *
 clear G;have ag:Hid (∀ wr V' X',dQ Z sb wr K f V' X'->X' 0=X 0->∀ i,i < 2->wr.cell? ⟨g,a + 3 + i,none⟩=some (.int .i64 ((if i=0 then p else q:Nat):Int))):=fun wr V' X' t o i hi=>by
  have ac:V' 0=.slice (some ⟨g,0,none⟩) ec.length c:=by rw [<- t.hdr 0 (by omega),h.hdr 0 (by omega)];exact e0
  have ap:(X' 0).length=ec.length:=by rw [o,E,fV]
  rw [(t.eO.cell (k:=0) (by have:=t.hK;omega) ac (j:=a + 3 + i) (by omega)).1]
  rcases (show i=0\/i=1 by omega) with rfl | rfl
  ·rw [o];exact (by rw [E,lU,c0];rfl)
  ·rw [o];exact (by rw [E,lU,c1];rfl)
 clear h hW E c0 c1 e0;go_enter Tryz.func133,Tryz.ntmps133
 go_upto_region 0 with fail
 go_wp2_with (go_at_call 175;refine (I.out _ (by rfl)).mono ?_;rintro e7 w7 ⟨rfl,j7,rfl⟩;simp only [])
 obtain ⟨W,u⟩:∃ W,W=w.drewN j7:=⟨_,rfl⟩;have bW:Below w.heap.size w W:=by rw [u];exact Go.below_drewN bR _
 have SW:=hide (HS.out.later bW);have CW:Hid (dC Z w W):=dC.of_below bW;rw [<- u];clear u bW I;have z:xn wl a p q 0=wl:=by funext x;unfold xn;simp
 go_loopw [5,13] (fun _ i wr=>Ry Z sb w K f X n wl a p q i wr) (fun _ i _=>2 - (intOf i).toNat)
 case atStart=>exact ⟨0,rfl,by omega,V,X,SW.out,by rw [z];exact HW.out,fun _ _ _=>rfl,CW.out⟩
 case round=>
  obtain ⟨i,rfl,aq,V',X',b⟩:=hrel;clear SW CW z;by_cases D:i < 2
  ·have il:(i:Int) < 2:=by omega
   have ao:(0:Int) <= (i:Int):=by omega
   obtain ⟨x,o⟩:∃ x,x=if i=0 then p else q:=⟨_,rfl⟩
   have d:x < 2 * n:=by rw [o];split <;> assumption
   have aa:=ag.out wr V' X' b.out.1 (b.out.2.2.1 0 (by decide) (by decide)) i D
   rw [<- o] at aa;have l:=b.out.2.1;obtain ⟨g9,c9,J,wc,y,v,q5,qx,zx,l9,n9,z9,ox⟩:=l.at' b.out.1 ab d;have aj:(xn wl a p q i x).length <= 1099511627777:=by
    have:=R x d;unfold xn;split
    ·simp;omega
    ·omega
   have NX:=hide (N9 (wl:=wl) (a:=a) U D o);have PW:=hide (fun v'=>l.push d a v')
   rw [NX.out] at PW;have X0:(0:Int) <= (x:Int):=by omega
   have X1:(x:Int) < 2 * (n:Int):=by omega
   have SD:Hid (dQ Z sb wr.drew K f V' X'):=b.out.1.later bR.drew;have OD:Hid (wr.drew.ownsRow 0 3 1 (.slice J (xn wl a p q i x).length wc) (xn wl a p q i x).length (dx (xn wl a p q i x))):=ox;have BD:Hid (dC Z w wr.drew):=b.out.2.2.2.drew;have RX:Hid (X' (16 + x)=dx (xn wl a p q i x)):=l.row x d;have LX:Hid ((X' 9).length=2 * n):=l.n9;have ad:Hid ((X' 9)[x]? = some (.slice J (xn wl a p q i x).length wc)):=by unfold Hid;rw [l.hd x d,v]
   have E9:=hide y;have ae:Hid (f 5=.slice (some ⟨g9,0,none⟩) (2 * n) c9):=(b.out.1.hdr 9 (by omega)).trans y
   have EX:=hide v;have OW:=hide b.out.2.2.1;have s:16 + x < K:=by omega
   have ah:=b.out.1.row.lt;have ns:¬ (sb=wr.heap.size):=by omega
   have ak:¬ (g9=wr.heap.size):=by omega
   clear l y v ox o;go_upto_region 3 with fail
   go_region_law
    (refine iq _ (by rfl) _ _ 43 (by rfl) 0 3 i0 (.int .i64 0) 1 8 Tryz.underlying43 hi Q P O (by rfl) (by decide) (.slice J (xn wl a p q i x).length wc) (xn wl a p q i x).length (dx (xn wl a p q i x)) (by rfl) (OD.out.alloc (.cells #[.int .i64 (a:Int)] 3)) (.slice (some ⟨wr.heap.size,0,none⟩) 1 1) 1 [.int .i64 (a:Int)] (by rfl) (.inr ⟨⟨wr.heap.size,0,none⟩,1,rfl,(cell_one_new wr.drew _ _)⟩) (by rfl) (by simp [Value.oneCell']) (by unfold maxLen;omega) (by omega) zl ?_;intro v6 w6 A6;have A7:dB (wr.drew.alloc (.cells #[.int .i64 (a:Int)] 3)) 0 3 1 (V' (16 + x)) (X' (16 + x)).length (X' (16 + x)) 1 [.int .i64 (a:Int)] v6 w6:=(by rw [EX.out,RX.out,df];exact A6);have S6:=hide (SD.out.Kc s E9.out (m:=1) (news:=[.int .i64 (a:Int)]) rfl A7);have K6:=(SD.out.Gi s E9.out (by rw [LX.out];exact d) A7);rw [ad.out] at K6;obtain ⟨B,an,am⟩:=K6;have N:=B 5 (by omega);rw [ae.out] at N;obtain ⟨M,L,S⟩:=dG A6.own;subst S;clear A6 A7 B)
   all_goals
    have af:Hid (Ry Z sb w K f X n wl a p q (.int .i64 ((i + 1:Nat):Int)) (w6.setCell ⟨g9,x,none⟩ (.slice M ((xn wl a p q i x).length + 1) L))):=⟨i + 1,rfl,by omega,_,_,S6.out.1,PW.out _,fun k h1 h2=>by rw [cz _ _ h1,cz _ _ (by omega)];exact OW.out k h1 h2,BD.out.trans S6.out.2⟩
    clear S6;go_wp2;go_roundw
    case rel=>exact af.out
    case measure=>simp [intOf];omega
  ·have ei:i=2:=by omega
   subst ei;go_wp2;go_end0;exact ⟨rfl,b.out.2.2.2,V',X',b.out.1,b.out.2.1,b.out.2.2.1⟩
end
end
end So
end Go.Proofs.YtceahffmenbibaaGreatDoor
