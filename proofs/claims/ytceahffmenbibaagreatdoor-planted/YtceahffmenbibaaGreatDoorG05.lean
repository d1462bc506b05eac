/- Smem Shea Sord Shw1 Swat. -/
import Derived.Test.YtceahffmenbibaaGreatDoorG02
import Derived.Test.YtceahffmenbibaaGreatDoorG04
import Derived.Test.YtceahffmenbibaaGreatDoorG03
import Derived.Test.YtceahffmenbibaaGreatDoorG01
import Derived.Deep.RegionLaw
import Derived.Deep.DrawnRows
set_option linter.unusedVariables false
set_option linter.unusedSimpArgs false
set_option maxHeartbeats 4000000
set_option maxRecDepth 100000
namespace Go.Proofs.YtceahffmenbibaaGreatDoor
namespace So
section
open Go Go.RowKit Go.Deep Rd
variable {Z:Nat->Prop} {sb K:Nat} {w w':World} {f V:Nat->Value} {X X':Nat->List Value}
def ints (l:List Int):List Value:=l.map fun z=>Value.int .i64 z
theorem cZ (l:List Int):(ints l).length=l.length:=by simp [ints]
theorem iR (l:List Int) (i:Nat):(ints l)[i]? = (l[i]?).map fun z=>Value.int .i64 z:=by simp [ints]
theorem ints_set (l:List Int) (i:Nat) (z:Int):(ints l).set i (.int .i64 z)=ints (l.set i z):=by simp [ints,List.map_set]
theorem uD (a b:List Int):ints (a ++ b)=ints a ++ ints b:=by simp [ints]
theorem fQ (a b:List Nat):au (a ++ b)=au a ++ au b:=by simp [au]
theorem jE (l:List Nat) (k:Nat):(au l).take k=au (l.take k):=by simp [au]
theorem jQ (l:List Nat) (i x:Nat):(au l).set i (.int .i64 (x:Nat))=au (l.set i x):=by simp [au,List.map_set]
structure iW (n:Nat) (X:Nat->List Value) (tr ch:List Nat) (lev:Nat->Nat) (rea:Nat->Int):Prop where
 l1:X 1=au tr
 l2:X 2=au ch
 n3:(X 3).length=2 * n
 t3:∀ x,x < 2 * n->(X 3)[x]? = some (.int .i64 (tv tr x))
 n4:(X 4).length=n
 t4:∀ v,v < n->(X 4)[v]? = some (.int .i64 (lev v:Nat))
 n5:(X 5).length=n
 t5:∀ v,v < n->(X 5)[v]? = some (.int .i64 (rea v))
variable {n:Nat} {tr ch:List Nat} {lev:Nat->Nat} {rea:Nat->Int}
theorem iW.congr (h:iW n X tr ch lev rea) (hx:∀ k,1 <= k->k <= 5->X' k=X k):iW n X' tr ch lev rea:=by
 have e1:=hx 1 (by omega) (by omega)
 have e2:=hx 2 (by omega) (by omega)
 have e3:=hx 3 (by omega) (by omega)
 have e4:=hx 4 (by omega) (by omega)
 have e5:=hx 5 (by omega) (by omega)
 exact ⟨by rw [e1];exact h.l1,by rw [e2];exact h.l2,by rw [e3];exact h.n3,by rw [e3];exact h.t3,by rw [e4];exact h.n4,by rw [e4];exact h.t4,by rw [e5];exact h.n5,by rw [e5];exact h.t5⟩
theorem qj {l:List Value} {m:Nat} (hl:l.length=m) {g:Nat->Value} (ht:∀ v,v < m->l[v]? = some (g v)) {k:Nat} (hk:k < m) (u:Value):∀ v,v < m->(l.set k u)[v]? = some (bB g k u v):=fun v hv=>by
 by_cases e:v=k
 ·subst e;rw [List.getElem?_set_self (by omega),aD]
 ·rw [List.getElem?_set_ne (fun e2=>e e2.symm),ah _ _ e];exact ht v hv
theorem eu (X:Nat->List Value) (x:Nat) (r:Int) (d:Nat) {k:Nat} (h1:k ≠ 1) (h3:k ≠ 3) (h4:k ≠ 4) (h5:k ≠ 5):bN X x r d k=X k:=by
 unfold bN;rw [aa _ _ h5,aa _ _ h4,aa _ _ h3,aa _ _ h1]
theorem iW.assign {ch':List Nat} (h:iW n X tr ch lev rea) {x:Nat} (hx:x < 2 * n) (ho:tv tr x=0) (r:Int) {d:Nat} (hX2:X' 2=au ch') (hX:∀ k,k ≠ 2->X' k=X k):iW n (bN X' x r d) (tr ++ [x]) ch' (bB lev (x / 2) d) (bB rea (x / 2) r):=by
 have a1:bN X' x r d 1=X 1 ++ [.int .i64 x]:=by unfold bN;rw [aa _ _ (by decide),aa _ _ (by decide),aa _ _ (by decide),ae,hX 1 (by decide)]
 have a2:bN X' x r d 2=X' 2:=eu _ _ _ _ (by decide) (by decide) (by decide) (by decide)
 have a3:bN X' x r d 3=((X 3).set x (.int .i64 1)).set (op x) (.int .i64 (-1)):=by unfold bN;rw [aa _ _ (by decide),aa _ _ (by decide),ae,hX 3 (by decide)]
 have a4:bN X' x r d 4=(X 4).set (x / 2) (.int .i64 d):=by unfold bN;rw [aa _ _ (by decide),ae,hX 4 (by decide)]
 have a5:bN X' x r d 5=(X 5).set (x / 2) (.int .i64 r):=by unfold bN;rw [ae,hX 5 (by decide)]
 have hv:x / 2 < n:=by omega
 have ox:op x < 2 * n:=uy hx;refine ⟨?_,by rw [a2,hX2],?_,?_,?_,?_,?_,?_⟩
 ·rw [a1,h.l1,fQ];rfl
 ·rw [a3];simp [h.n3]
 ·rw [a3];have s1:=qj h.n3 h.t3 hx (.int .i64 1);have s2:=qj (by rw [List.length_set];exact h.n3) s1 ox (.int .i64 (-1))
  intro y hy;rw [s2 y hy,Jy ho y]
  congr 1
  by_cases e1:y=x
  ·subst e1;rw [ah _ _ (fun e=>IG y e.symm),aD,if_pos rfl]
  ·rw [if_neg e1];by_cases e2:y=op x
   ·subst e2;rw [aD,if_pos rfl]
   ·rw [ah _ _ e2,ah _ _ e1,if_neg e2]
 ·rw [a4];simp [h.n4]
 ·rw [a4];have s:=qj h.n4 (g:=fun v=>.int .i64 (lev v:Nat)) h.t4 hv (.int .i64 d)
  intro v hv';rw [s v hv'];by_cases e:v=x / 2
  ·subst e;rw [aD,aD]
  ·rw [ah _ _ e,ah _ _ e]
 ·rw [a5];simp [h.n5]
 ·rw [a5];have s:=qj h.n5 (g:=fun v=>.int .i64 (rea v)) h.t5 hv (.int .i64 r)
  intro v hv';rw [s v hv'];by_cases e:v=x / 2
  ·subst e;rw [aD,aD]
  ·rw [ah _ _ e,ah _ _ e]
theorem RG {T:List Value} {m:Nat} (hT:T.length=m):∀ (l:List Nat) (g:Nat->Value),(∀ x ∈ l,x < m/\op x < m)->(∀ v,v < m->T[v]? = some (g v))->∀ v,v < m->(lG T l)[v]? = some (if v ∈ l\/op v ∈ l then .int .i64 0 else g v):=by
 intro l
 induction l generalizing T with
 | nil=>intro g _ ht v hv;simp only [lG,List.not_mem_nil,or_self,if_false];exact ht v hv
 | cons x r ih=>
  intro g hl ht v hv;obtain ⟨hx,ox⟩:=hl x (List.mem_cons_self ..);have s1:=qj hT ht hx (.int .i64 0);have s2:=qj (by rw [List.length_set];exact hT) s1 ox (.int .i64 0)
  have:=ih (T:=(T.set x (.int .i64 0)).set (op x) (.int .i64 0)) (by simp [hT]) _ (fun y hy=>hl y (List.mem_cons_of_mem _ hy)) s2 v hv
  rw [lG,this]
  congr 1
  by_cases e1:v=x
  ·subst e1;rw [ah _ _ (fun e=>IG v e.symm),aD];simp
  ·by_cases e2:v=op x
   ·subst e2;rw [aD,gQ];simp
   ·rw [ah _ _ e2,ah _ _ e1];have e3:op v ≠ x:=fun e=>e2 (by rw [<- e,gQ])
    simp [e1,e3]
theorem iW.back (h:iW n X tr ch lev rea) (ht:fM n tr ch lev) {s d:Nat} (hs:s <= tr.length) (h1:X' 1=au (tr.take s)) (h2:X' 2=au (ch.take d)) (h3:X' 3=lG (X 3) (tr.drop s)) (h4:X' 4=X 4) (h5:X' 5=X 5):iW n X' (tr.take s) (ch.take d) lev rea where
 l1:=h1
 l2:=h2
 n3:=by rw [h3,vM];exact h.n3
 t3:=fun x hx=>by
  rw [h3,RG h.n3 (tr.drop s) _ (fun y hy=>⟨ht.lt y (List.mem_of_mem_drop hy),uy (ht.lt y (List.mem_of_mem_drop hy))⟩) h.t3 x hx]
  congr 1
  have mem:∀ y,y ∈ tr↔y ∈ tr.take s\/y ∈ tr.drop s:=fun y=>by
   conv=>lhs;rw [<- List.take_append_drop s tr]
   exact List.mem_append
  have both:∀ y z,y ∈ tr.take s->z ∈ tr.drop s->y / 2 ≠ z / 2:=fun y z hy hz e=>by
   obtain ⟨i,hi,ei⟩:=List.mem_iff_getElem.1 hy;obtain ⟨j,hj,ej⟩:=List.mem_iff_getElem.1 hz;rw [List.length_take] at hi;rw [List.length_drop] at hj;rw [List.getElem_take] at ei;rw [List.getElem_drop] at ej;have:=ht.mE (i:=i) (j:=s + j) (by omega) (by omega) (by rw [ei,ej];exact e)
   omega
  split
  ·rename_i hd;have o1:tv (tr.take s) x=0:=qM.2 ⟨fun hm=>by
    rcases hd with hd | hd
    ·exact both x x hm hd rfl
    ·exact both x (op x) hm hd (by rw [dC]),fun hm=>by
    rcases hd with hd | hd
    ·exact both (op x) x hm hd (by rw [dC])
    ·exact both (op x) (op x) hm hd rfl⟩
   rw [o1]
  ·rename_i hd;have hd1:x ∉ tr.drop s:=fun e=>hd (.inl e)
   have hd2:op x ∉ tr.drop s:=fun e=>hd (.inr e)
   unfold tv;simp only [mem,hd1,hd2,or_false]
 n4:=by rw [h4];exact h.n4
 t4:=by rw [h4];exact h.t4
 n5:=by rw [h5];exact h.n5
 t5:=by rw [h5];exact h.t5
structure jm (n:Nat) (V:Nat->Value) (X:Nat->List Value) (wl:Nat->List Nat):Prop where
 n9:(X 9).length=2 * n
 hd:∀ x,x < 2 * n->(X 9)[x]? = some (V (16 + x))
 row:∀ x,x < 2 * n->X (16 + x)=au (wl x)
variable {V':Nat->Value} {wl:Nat->List Nat}
theorem jm.congr (h:jm n V X wl) (h9:X' 9=X 9) (hV:∀ x,x < 2 * n->V' (16 + x)=V (16 + x)) (hX:∀ x,x < 2 * n->X' (16 + x)=X (16 + x)):jm n V' X' wl:=
 ⟨by rw [h9];exact h.n9,fun x hx=>by rw [h9,hV x hx];exact h.hd x hx,fun x hx=>by rw [hX x hx];exact h.row x hx⟩
theorem rJ (x:Nat):iC (16 + x)=3:=by
 unfold iC;rw [if_neg (by omega),if_neg (by omega),if_neg (by omega),if_neg (by omega)]
theorem jm.push (h:jm n V X wl) {x:Nat} (hx:x < 2 * n) (a:Nat) (v':Value):jm n (upd V (16 + x) v') (upd (upd X (16 + x) (X (16 + x) ++ [.int .i64 (a:Nat)])) 9 ((X 9).set x v')) (fun y=>if y=x then wl y ++ [a] else wl y) where
 n9:=by rw [ae,List.length_set];exact h.n9
 hd:=fun y hy=>by
  rw [ae];by_cases e:y=x
  ·subst e;rw [List.getElem?_set_self (by rw [h.n9];exact hy),ae]
  ·rw [List.getElem?_set_ne (fun e2=>e e2.symm),aa _ _ (by omega)];exact h.hd y hy
 row:=fun y hy=>by
  rw [aa _ _ (by omega)]
  by_cases e:y=x
  ·subst e;rw [ae,h.row y hy,if_pos rfl,fQ];rfl
  ·rw [aa _ _ (by omega),if_neg e];exact h.row y hy
theorem jm.put (h:jm n V X wl) {x:Nat} (hx:x < 2 * n) {l:List Nat} {R:List Value} (hR:R=au l) (v':Value):jm n (upd V (16 + x) v') (upd (upd X (16 + x) R) 9 ((X 9).set x v')) (fun y=>if y=x then l else wl y) where
 n9:=by rw [ae,List.length_set];exact h.n9
 hd:=fun y hy=>by
  rw [ae];by_cases e:y=x
  ·subst e;rw [List.getElem?_set_self (by rw [h.n9];exact hy),ae]
  ·rw [List.getElem?_set_ne (fun e2=>e e2.symm),aa _ _ (by omega)];exact h.hd y hy
 row:=fun y hy=>by
  rw [aa _ _ (by omega)]
  by_cases e:y=x
  ·subst e;rw [ae,if_pos rfl];exact hR
  ·rw [aa _ _ (by omega),if_neg e];exact h.row y hy
theorem aQ.Iy (h:aQ Z sb w K f V X) {x:Nat} (hx:16 + x < K) {g9 n9 c9:Nat} (sS:V 9=.slice (some ⟨g9,0,none⟩) n9 c9) {ob:Obj} {v':Value} {w6:World} {m:Nat} {news:List Value} (hm:news.length=m) (A:aB (w.alloc ob) 0 3 1 (V (16 + x)) (X (16 + x)).length (X (16 + x)) m news v' w6):
  aQ Z sb (w6.setCell ⟨g9,x,none⟩ v') K f (upd V (16 + x) v') (upd (upd X (16 + x) (X (16 + x) ++ news)) 9 ((X 9).set x v'))/\aC Z w (w6.setCell ⟨g9,x,none⟩ v'):=by
 have hl:=h.later ((Below.refl _ w).alloc (Nat.le_refl _) ob);have hlt:=hl.row.lt;have Re:9 < K:=by have:=h.hK;omega
 rw [<- rJ x] at A;have hr:=hl.row.of_block (A.grew.block sb hlt (fun e=>hl.far hx sb e.symm rfl))
 have hf:=hl.bC.push hx hm A;have e9:upd V (16 + x) v' 9=.slice (some ⟨g9,0,none⟩) n9 c9:=by rw [aa _ _ (by omega)];exact sS
 have hs:=hf.set Re e9 x v';rw [aa _ _ (show (9:Nat) ≠ 16 + x by omega)] at hs
 have hne:g9 ≠ sb:=h.far Re g9 (by rw [sS];rfl)
 refine ⟨⟨hr.of_block (Below.heap_setCell _ _ _ _ (fun e=>hne e.symm)),hs,fun k hk=>by rw [aa _ _ (by omega)];exact h.hdr k hk,h.fZ,fun i hi g hg=>?_,fun g hg=>h.az g ?_,h.hK⟩,?_⟩
 ·by_cases e:i=16 + x
  ·subst e;rw [ae] at hg
   rcases A.at' with h1 | h1
   ·rw [h1] at hg;exact h.al _ hi g hg
   ·rw [h1] at hg;have:=Option.some.inj hg;exact h.az g (by simp at this;omega)
  ·rw [aa _ _ e] at hg;exact h.al i hi g hg
 ·have:=A.grew.size;simp [World.setCell] at this hg;omega
 ·exact (((aC.refl w).alloc ob).grown A.grew (fun g hg=>h.al _ hx g hg)).setCell (h.al 9 Re g9 (by rw [sS];rfl)) _
theorem aQ.ZN (h:aQ Z sb w K f V X) {x:Nat} (hx:16 + x < K) {g9 n9 c9:Nat} (sS:V 9=.slice (some ⟨g9,0,none⟩) n9 c9) {a:Option Addr} {nn cap m:Nat} (hv:V (16 + x)=.slice a nn cap) (hm:m <= (X (16 + x)).length):
  aQ Z sb (w.setCell ⟨g9,x,none⟩ (.slice a m cap)) K f (upd V (16 + x) (.slice a m cap)) (upd (upd X (16 + x) ((X (16 + x)).take m)) 9 ((X 9).set x (.slice a m cap))):=by
 have Re:9 < K:=by have:=h.hK;omega
 have hf:=h.bC.cut hx hv hm;have e9:upd V (16 + x) (.slice a m cap) 9=.slice (some ⟨g9,0,none⟩) n9 c9:=by rw [aa _ _ (by omega)];exact sS
 have hs:=hf.set Re e9 x (.slice a m cap);rw [aa _ _ (show (9:Nat) ≠ 16 + x by omega)] at hs
 have hne:g9 ≠ sb:=h.far Re g9 (by rw [sS];rfl)
 refine ⟨h.row.of_block (Below.heap_setCell _ _ _ _ (fun e=>hne e.symm)),hs,fun k hk=>by rw [aa _ _ (by omega)];exact h.hdr k hk,h.fZ,fun i hi g hg=>?_,fun g hg=>h.az g (by simpa [World.setCell] using hg),h.hK⟩
 by_cases e:i=16 + x
 ·subst e;rw [ae] at hg;exact h.al _ hi g (by rw [hv];cases a <;> exact hg)
 ·rw [aa _ _ e] at hg;exact h.al i hi g hg
theorem Aq {cs:List Rec} (h0:X 0=ints (enc cs)) {j:Nat} {z:Int} (hz:(enc cs)[j]? = some z):(X 0)[j]? = some (.int .i64 z):=by rw [h0,iR,hz];rfl
theorem aQ.Ed (h:aQ Z sb w K f V X) {x:Nat} (hx:16 + x < K) {g9 n9 c9:Nat} (sS:V 9=.slice (some ⟨g9,0,none⟩) n9 c9) (D9:x < (X 9).length) {ob:Obj} {v':Value} {w6:World} {m:Nat} {news:List Value} (A:aB (w.alloc ob) 0 3 1 (V (16 + x)) (X (16 + x)).length (X (16 + x)) m news v' w6):
  (∀ j,j < 22->w6.cell? ⟨sb,j,none⟩=some (f j))/\w6.cell? ⟨g9,x,none⟩=(X 9)[x]? /\ w6.frozen? ⟨g9,x,none⟩=false:=by
 have hl:=h.later ((Below.refl _ w).alloc (Nat.le_refl _) ob);have Re:9 < K:=by have:=h.hK;omega
 have hr:=hl.row.of_block (A.grew.block sb hl.row.lt (fun e=>hl.far hx sb e.symm rfl))
 have lt9:=((hl.bC.own 9 Re).lt g9 (by rw [sS];rfl)).2
 have ne9:some g9 ≠ (V (16 + x)).ownBlock:=fun e=>by
  rcases h.bC.apart 9 (16 + x) Re hx (by omega) with h1 | h1
  ·rw [sS] at h1;cases h1
  ·exact h1 (by rw [<- e,sS];rfl)
 have L6:=A.grew.block g9 lt9 ne9;obtain ⟨c1,c2⟩:=hl.bC.cell Re sS D9;exact ⟨fun j hj=>hr.cell hj,(World.cell?_of_block (a:=⟨g9,x,none⟩) L6).trans c1,(World.frozen?_of_block (a:=⟨g9,x,none⟩) L6).trans c2⟩
theorem jm.at' (h:jm n V X wl) (hs:aQ Z sb w K f V X) (hK2:K=16 + 2 * n) {x:Nat} (hx:x < 2 * n):∃ g9 c9 wa wc,V 9=.slice (some ⟨g9,0,none⟩) (2 * n) c9/\V (16 + x)=.slice wa (wl x).length wc/\w.cell? ⟨sb,5,none⟩=some (.slice (some ⟨g9,0,none⟩) (2 * n) c9)/\w.cell? ⟨g9,x,none⟩=some (.slice wa (wl x).length wc)/\w.frozen? ⟨g9,x,none⟩=false/\g9 < w.heap.size/\g9 ≠ sb/\Z g9/\w.ownsRow 0 3 1 (.slice wa (wl x).length wc) (wl x).length (au (wl x)):=by
 obtain ⟨g9,c9,t,e,q,r,s,z,zz,l,ne⟩:=hs.elem (k:=9) (j:=x) (by omega) h.n9 hx
 rw [show cellOf 9=5 from rfl] at q
 rw [h.hd x hx] at s;obtain rfl:=Option.some.inj s;have ho:=hs.bC.own (16 + x) (by omega)
 rw [rJ,h.row x hx,ag] at ho;obtain ⟨wa,wc,e2⟩:=aH ho;rw [e2] at ho r;exact ⟨g9,c9,wa,wc,e,e2,q,r,z,l,ne,zz,ho⟩
theorem bV {cs:List Rec} (hs:aQ Z sb w K f V X) (h0:X 0=ints (enc cs)) {k:Nat} (hk:k < cs.length):∃ g c,V 0=.slice (some ⟨g,0,none⟩) (enc cs).length c/\w.cell? ⟨sb,2,none⟩=some (.slice (some ⟨g,0,none⟩) (enc cs).length c)/\(enc cs).length <= c/\g < w.heap.size/\g ≠ sb/\Z g/\w.cell? ⟨g,aj cs k,none⟩=some (.int .i64 ((cs[k]).lits.length:Nat))/\w.cell? ⟨g,aj cs k + 1,none⟩=some (.int .i64 ((cs[k]).kind:Nat))/\w.cell? ⟨g,aj cs k + 2,none⟩=some (.int .i64 (cs[k]).busy)/\(∀ i (hi:i < (cs[k]).lits.length),w.cell? ⟨g,aj cs k + 3 + i,none⟩=some (.int .i64 ((cs[k]).lits[i]:Nat)))/\∀ j,w.frozen? ⟨g,j,none⟩=false:=by
 have hend:=bA hk;have hl:(X 0).length=(enc cs).length:=by rw [h0,cZ]
 have hK:=hs.hK;obtain ⟨g,c,t,e,q,r,s,z,zz,l,ne⟩:=hs.elem (k:=0) (j:=aj cs k) (by omega) hl (by omega)
 rw [show cellOf 0=2 from rfl] at q
 obtain ⟨g',cap',cur,e',_,_,hc⟩:=hs.bC.block (k:=0) (by omega) (by omega)
 rw [e] at e';obtain ⟨_,_,rfl⟩:=Value.slice.inj e';have rd:∀ j z,(enc cs)[j]? = some z->w.cell? ⟨g,j,none⟩=some (.int .i64 z):=fun j z hz=>by
  have hj:j < (X 0).length:=by
   rw [hl]
   rcases Nat.lt_or_ge j (enc cs).length with h | h
   ·exact h
   ·rw [List.getElem?_eq_none h] at hz;cases hz
  rw [(hs.bC.cell (k:=0) (by omega) e hj).1]
  exact Aq h0 hz
 have ho:=hs.bC.own 0 (by omega)
 rw [e] at ho;rw [hl] at ho hc;exact ⟨g,c,e,q,hc,l,ne,zz,rd _ _ (Ez hk),rd _ _ (Py hk),rd _ _ (xq hk),fun i hi=>rd _ _ (vw hk hi),fun j=>ho.frozenAt j⟩
end
section
structure BM (n:Nat) (items:List Nat) (pl:Nat->Int):Prop where
 lt:∀ v ∈ items,v < n
 at':∀ v,v < n->pl v=-1\/∃ i:Nat,pl v=i/\items[i]? = some v
 pl:∀ i (h:i < items.length),pl items[i]=(i:Nat)
structure Qy (n:Nat) (item hole:Nat) (items:List Nat) (pl:Nat->Int):Prop where
 lt:∀ v ∈ items,v < n
 hit:item < n
 hho:hole < items.length
 at':∀ v,v < n->v ≠ item->pl v=-1\/∃ i:Nat,pl v=i/\i ≠ hole/\items[i]? = some v
 pl:∀ i (h:i < items.length),i ≠ hole->items[i] ≠ item/\pl items[i]=(i:Nat)
variable {n:Nat} {items:List Nat} {pl:Nat->Int} {item hole:Nat}
theorem BM.open (h:BM n items pl) {i:Nat} (hi:i < items.length):Qy n items[i] i items pl where
 lt:=h.lt
 hit:=h.lt _ (List.getElem_mem hi)
 hho:=hi
 at':=fun v hv hne=>by
  rcases h.at' v hv with h1 | ⟨j,h1,h2⟩
  ·exact .inl h1
  ·refine .inr ⟨j,h1,fun e=>?_,h2⟩
   subst e;rw [List.getElem?_eq_getElem hi] at h2;exact hne (Option.some.inj h2).symm
 pl:=fun j hj hne=>by
  refine ⟨fun e=>hne ?_,h.pl j hj⟩
  have h1:=h.pl j hj;rw [e,h.pl i hi] at h1;omega
theorem Qy.move (h:Qy n item hole items pl) {k:Nat} (hk:k < items.length) (hne:k ≠ hole):Qy n item k (items.set hole items[k]) (bB pl items[k] (hole:Nat)) where
 lt:=fun v hv=>by
  rcases List.mem_or_eq_of_mem_set hv with h1 | h1
  ·exact h.lt v h1
  ·subst h1;exact h.lt _ (List.getElem_mem hk)
 hit:=h.hit
 hho:=by simpa using hk
 at':=fun v hv hvi=>by
  by_cases e:v=items[k]
  ·subst e;rw [aD];exact .inr ⟨hole,rfl,fun e=>hne e.symm,by rw [List.getElem?_set_self h.hho]⟩
  ·rw [ah _ _ e]
   rcases h.at' v hv hvi with h1 | ⟨j,h1,h2,h3⟩
   ·exact .inl h1
   ·refine .inr ⟨j,h1,fun e2=>?_,?_⟩
    ·subst e2;rw [List.getElem?_eq_getElem hk] at h3;exact e (Option.some.inj h3).symm
    ·rw [List.getElem?_set_ne (fun e=>h2 e.symm)];exact h3
 pl:=fun j hj hjk=>by
  have hj':j < items.length:=by simpa using hj
  by_cases e:j=hole
  ·subst e;rw [List.getElem_set_self];exact ⟨(h.pl k hk hne).1,aD ..⟩
  ·rw [List.getElem_set_ne (fun e2=>e e2.symm)]
   obtain ⟨h1,h2⟩:=h.pl j hj' e;refine ⟨h1,?_⟩;have:items[j] ≠ items[k]:=fun e3=>by
    have h4:=(h.pl k hk hne).2;rw [<- e3,h2] at h4;omega
   rw [ah _ _ this];exact h2
theorem Qy.close (h:Qy n item hole items pl):BM n (items.set hole item) (bB pl item (hole:Nat)) where
 lt:=fun v hv=>by
  rcases List.mem_or_eq_of_mem_set hv with h1 | h1
  ·exact h.lt v h1
  ·subst h1;exact h.hit
 at':=fun v hv=>by
  by_cases e:v=item
  ·subst e;exact .inr ⟨hole,aD ..,by rw [List.getElem?_set_self h.hho]⟩
  ·rw [ah _ _ e]
   rcases h.at' v hv e with h1 | ⟨j,h1,h2,h3⟩
   ·exact .inl h1
   ·exact .inr ⟨j,h1,by rw [List.getElem?_set_ne (fun e=>h2 e.symm)];exact h3⟩
 pl:=fun j hj=>by
  have hj':j < items.length:=by simpa using hj
  by_cases e:j=hole
  ·subst e;rw [List.getElem_set_self];exact aD ..
  ·rw [List.getElem_set_ne (fun e2=>e e2.symm)]
   obtain ⟨h1,h2⟩:=h.pl j hj' e;rw [ah _ _ h1];exact h2
theorem BM.push (h:BM n items pl) {v:Nat} (hv:v < n) (hn:pl v=-1):Qy n v items.length (items ++ [v]) pl where
 lt:=fun x hx=>by
  rcases List.mem_append.1 hx with h1 | h1
  ·exact h.lt x h1
  ·simp at h1;subst h1;exact hv
 hit:=hv
 hho:=by simp
 at':=fun x hx hne=>by
  rcases h.at' x hx with h1 | ⟨j,h1,h2⟩
  ·exact .inl h1
  ·have hj:=(List.getElem?_eq_some_iff.1 h2).1;exact .inr ⟨j,h1,by omega,by rw [List.getElem?_append_left hj];exact h2⟩
 pl:=fun j hj hne=>by
  have hj':j < items.length:=by simp at hj;omega
  rw [List.getElem_append_left hj'];refine ⟨fun e=>?_,h.pl j hj'⟩
  have:=h.pl j hj';rw [e,hn] at this;omega
theorem BM.pop (h:BM n items pl) {l:Nat} (hl:items.length=l + 2) {first:Nat} (hf:items[0]? = some first) {last:Nat} (hla:items[l + 1]? = some last):Qy n last 0 (items.take (l + 1)) (bB pl first (-1)):=by
 obtain ⟨h0,e0⟩:=List.getElem?_eq_some_iff.1 hf;obtain ⟨h1,e1⟩:=List.getElem?_eq_some_iff.1 hla;have inj:∀ j (hj:j < items.length) k (hk:k < items.length),items[j]=items[k]->j=k:=fun j hj k hk e=>by
  have a:=h.pl j hj;rw [e,h.pl k hk] at a;omega
 exact {
  lt:=fun v hv=>h.lt v (List.mem_of_mem_take hv)
  hit:=by rw [<- e1];exact h.lt _ (List.getElem_mem h1)
  hho:=by rw [List.length_take];omega
  at':=fun v hv hne=>by
   by_cases e:v=first
   ·subst e;exact .inl (aD ..)
   ·rw [ah _ _ e]
    rcases h.at' v hv with g1 | ⟨j,g1,g2⟩
    ·exact .inl g1
    ·obtain ⟨hj,ej⟩:=List.getElem?_eq_some_iff.1 g2;have n0:j ≠ 0:=fun e2=>by subst e2;exact e (by rw [<- ej,e0])
     have nl:j ≠ l + 1:=fun e2=>by subst e2;exact hne (by rw [<- ej,e1])
     exact .inr ⟨j,g1,n0,by rw [List.getElem?_take,if_pos (by omega)];exact g2⟩
  pl:=fun j hj hne=>by
   rw [List.length_take] at hj;have hj':j < items.length:=by omega
   rw [List.getElem_take];refine ⟨fun e=>?_,?_⟩
   ·rw [<- e1] at e;have:=inj j hj' (l + 1) h1 e;omega
   ·have:items[j] ≠ first:=fun e=>hne (inj j hj' 0 h0 (by rw [e,e0]))
    rw [ah _ _ this];exact h.pl j hj' }
theorem BM.VZ (h:BM n items pl) (hl:items.length=1) {first:Nat} (hf:items[0]? = some first):BM n (items.take 0) (bB pl first (-1)) where
 lt:=fun v hv=>by simp at hv
 at':=fun v hv=>by
  by_cases e:v=first
  ·subst e;exact .inl (aD ..)
  ·rw [ah _ _ e]
   rcases h.at' v hv with g1 | ⟨j,g1,g2⟩
   ·exact .inl g1
   ·obtain ⟨hj,ej⟩:=List.getElem?_eq_some_iff.1 g2;have:j=0:=by omega
    subst this;rw [hf] at g2;exact absurd (Option.some.inj g2).symm e
 pl:=fun i hi=>by simp at hi
theorem fw:∀ (n:Nat) (l:List Nat),l.Nodup->(∀ v ∈ l,v < n)->l.length <= n
 | 0,l,_,h=>by
  cases l with
  | nil=>simp
  | cons a r=>have:=h a (List.mem_cons_self ..);omega
 | n + 1,l,hn,h=>by
  by_cases e:n ∈ l
  ·have h1:(l.erase n).length <= n:=fw n (l.erase n) (hn.erase n) fun v hv=>by
    have h2:=(hn.mem_erase_iff).1 hv;have:=h v h2.2;have:=h2.1;omega
   rw [List.length_erase_of_mem e] at h1;omega
  ·have h1:l.length <= n:=fw n l hn fun v hv=>by
    have:=h v hv;have:v ≠ n:=fun e2=>e (e2 ▸ hv)
    omega
   omega
theorem BM.len (h:BM n items pl):items.length <= n:=by
 have nd:items.Nodup:=by
  refine List.pairwise_iff_getElem.2 fun i j hi hj hij e=>?_
  have a:=h.pl i hi;rw [e,h.pl j hj] at a;omega
 exact fw n items nd h.lt
theorem BM.empty (h:BM n items pl) (he:items.length=0) {v:Nat} (hv:v < n):pl v=-1:=by
 rcases h.at' v hv with h1 | ⟨j,h1,h2⟩
 ·exact h1
 ·rw [List.getElem?_eq_none (by omega)] at h2;cases h2
end
section
open Go Go.RowKit Go.Deep Rd
def Dj (k:Nat):TypeId:=if k=1 then 2 else 3
theorem IC (k:Nat):Dj k ≠ 193/\Dj k ≠ 224:=by unfold Dj;split <;> decide
abbrev ahead (ob:Nat):Value:=.func (.func 126) #[.pointer (some ⟨ob,0,none⟩)] #[]
abbrev placed (ob:Nat):Value:=.func (.func 127) #[.pointer (some ⟨ob,0,none⟩)] #[]
def NA (hb:Nat) (V:Nat->Value) (wt:Int) (j:Nat):Value:=if j=0 then .pointer (some ⟨hb,0,none⟩) else if j=1 then V 0 else if j=2 then V 1 else .int .i64 wt
def Ud (ob:Nat) (V:Nat->Value) (j:Nat):Value:=if j=0 then V 2 else if j=1 then ahead ob else placed ob
structure Ord (Z:Nat->Prop) (ob hb:Nat) (w:World) (wt:Int) (V:Nat->Value) (X:Nat->List Value):Prop where
 gH:w.rowIs ob 193 4 (NA hb V wt)
 hrow:w.rowIs hb 224 3 (Ud ob V)
 bC:oU 0 w 3 Dj V X
 zo:Z ob
 zh:Z hb
 al:∀ k,k < 3->∀ g,(V k).ownBlock=some g->Z g
 az:∀ g,w.heap.size <= g->Z g
variable {Z:Nat->Prop} {ob hb:Nat} {w w':World} {wt:Int} {V:Nat->Value} {X:Nat->List Value}
theorem Ord.far (h:Ord Z ob hb w wt V X) {k:Nat} (hk:k < 3):∀ g,(V k).ownBlock=some g->g ≠ ob/\g ≠ hb:=fun g hg=>by
 obtain ⟨c,hr,_⟩:=h.gH;obtain ⟨c',hr',_⟩:=h.hrow
 rcases (h.bC.own k hk).2 with ⟨e2,_⟩ | ⟨g',cap,cur,e2,_,hg',_⟩
 ·rw [e2] at hg;cases hg
 ·rw [e2] at hg;obtain rfl:g'=g:=Option.some.inj hg;refine ⟨fun e=>?_,fun e=>?_⟩
  ·rw [e,hr] at hg';exact (IC k).1 (Obj.cells.inj (Option.some.inj hg')).2.1.symm
  ·rw [e,hr'] at hg';exact (IC k).2 (Obj.cells.inj (Option.some.inj hg')).2.1.symm
theorem Ord.two (h:Ord Z ob hb w wt V X):ob ≠ hb:=fun e=>by
 obtain ⟨c,hr,_⟩:=h.gH;obtain ⟨c',hr',_⟩:=h.hrow;rw [e,hr'] at hr;have:=(Obj.cells.inj (Option.some.inj hr)).2.1;exact absurd this (by decide)
theorem Ord.later (h:Ord Z ob hb w wt V X) (hb':Below w.heap.size w w'):Ord Z ob hb w' wt V X:=
 ⟨h.gH.of_block (hb'.block _ h.gH.lt),h.hrow.of_block (hb'.block _ h.hrow.lt),h.bC.later hb',h.zo,h.zh,h.al,fun g hg=>h.az g (Nat.le_trans hb'.size hg)⟩
theorem Ord.kept (h:Ord Z ob hb w wt V X) {Z':Nat->Prop} (hc:aC Z' w w') (h1:¬ Z' ob) (h2:¬ Z' hb) (h3:∀ k,k < 3->∀ g,(V k).ownBlock=some g->¬ Z' g):Ord Z ob hb w' wt V X:=
 ⟨h.gH.of_block (hc.block _ h.gH.lt h1),h.hrow.of_block (hc.block _ h.hrow.lt h2),h.bC.kept fun k g hk hg=>hc.block g ((h.bC.own k hk).lt g hg).2 (h3 k hk g hg),h.zo,h.zh,h.al,fun g hg=>h.az g (Nat.le_trans hc.size hg)⟩
theorem Ord.set (h:Ord Z ob hb w wt V X) {k:Nat} (hk:k < 3) {g n cap:Nat} (hv:V k=.slice (some ⟨g,0,none⟩) n cap) (j:Nat) (u:Value):Ord Z ob hb (w.setCell ⟨g,j,none⟩ u) wt V (upd X k ((X k).set j u))/\aC Z w (w.setCell ⟨g,j,none⟩ u):=by
 obtain ⟨n1,n2⟩:=h.far hk g (by rw [hv];rfl)
 exact ⟨⟨h.gH.of_block (Below.heap_setCell _ _ _ _ (fun e=>n1 e.symm)),h.hrow.of_block (Below.heap_setCell _ _ _ _ (fun e=>n2 e.symm)),h.bC.set hk hv j u,h.zo,h.zh,h.al,fun g hg=>h.az g (by simpa [World.setCell] using hg)⟩,(aC.refl w).setCell (h.al k hk g (by rw [hv];rfl)) _⟩
theorem Ord.weight (h:Ord Z ob hb w wt V X) (t:Int):Ord Z ob hb (w.setCell ⟨ob,3,none⟩ (.int .i64 t)) t V X/\aC Z w (w.setCell ⟨ob,3,none⟩ (.int .i64 t)):=
 ⟨⟨(h.gH.set 3 (.int .i64 t)).congr fun i hi=>by
   unfold NA;by_cases e:i=3
   ·subst e;simp
   ·have:i=0\/i=1\/i=2:=by omega
    rcases this with rfl | rfl | rfl <;> simp,
  h.hrow.of_block (Below.heap_setCell _ _ _ _ (fun e=>h.two e.symm)),
  h.bC.kept fun k g hk hg=>Below.heap_setCell _ _ _ _ (by simpa using (h.far hk g hg).1),h.zo,h.zh,h.al,fun g hg=>h.az g (by simpa [World.setCell] using hg)⟩,(aC.refl w).setCell h.zo _⟩
theorem Ord.header {w6:World} {V':Nat->Value} {X':Nat->List Value} {v':Value} (h:Ord Z ob hb w wt V X) (ho:w6.rowIs ob 193 4 (NA hb V wt)) (hh:w6.rowIs hb 224 3 (Ud ob V)) (hf:oU 0 w6 3 Dj V' X') (hV:V'=upd V 2 v') (WU:∀ k,k < 3->∀ g,(V' k).ownBlock=some g->g ≠ hb) (hsz:w.heap.size <= w6.heap.size) (hal:∀ k,k < 3->∀ g,(V' k).ownBlock=some g->Z g):
  Ord Z ob hb (w6.setCell ⟨hb,0,none⟩ v') wt V' X':=
 ⟨(ho.of_block (Below.heap_setCell _ _ _ _ (by simpa using h.two))).congr fun i hi=>by
   rw [hV];unfold NA;have:i=0\/i=1\/i=2\/i=3:=by omega
   rcases this with rfl | rfl | rfl | rfl <;> simp [upd],
  (hh.set 0 v').congr fun i hi=>by
   rw [hV];unfold Ud;have:i=0\/i=1\/i=2:=by omega
   rcases this with rfl | rfl | rfl <;> simp [upd],
  hf.kept fun k g hk hg=>Below.heap_setCell _ _ _ _ (by simpa using WU k hk g hg),h.zo,h.zh,hal,fun g hg=>h.az g (by simp [World.setCell] at hg;omega)⟩
theorem Ord.push (h:Ord Z ob hb w wt V X) {obj:Obj} {v':Value} {w6:World} {m:Nat} {news:List Value} (hm:news.length=m) (A:aB (w.alloc obj) 0 3 1 (V 2) (X 2).length (X 2) m news v' w6):
  Ord Z ob hb (w6.setCell ⟨hb,0,none⟩ v') wt (upd V 2 v') (upd X 2 (X 2 ++ news))/\aC Z w (w6.setCell ⟨hb,0,none⟩ v')/\w6.cell? ⟨hb,0,none⟩=some (V 2)/\w6.frozen? ⟨hb,0,none⟩=false:=by
 have hl:=h.later ((Below.refl _ w).alloc (Nat.le_refl _) obj);rw [show (3:TypeId)=Dj 2 from rfl] at A
 have f2:=hl.far (k:=2) (by omega)
 have ho:=hl.gH.of_block (A.grew.block ob hl.gH.lt (fun e=>(f2 ob e.symm).1 rfl))
 have hh:=hl.hrow.of_block (A.grew.block hb hl.hrow.lt (fun e=>(f2 hb e.symm).2 rfl))
 refine ⟨h.header ho hh (hl.bC.push (by omega) hm A) rfl (fun k hk g hg=>?_) (by have:=A.grew.size;simp at this;omega) (fun k hk g hg=>?_),(((aC.refl w).alloc obj).grown A.grew (fun g hg=>h.al 2 (by omega) g hg)).setCell h.zh _,hh.cell (i:=0) (by omega),hh.frozen 0⟩
 ·by_cases e:k=2
  ·subst e;rw [ae] at hg
   rcases A.at' with h1 | h1
   ·rw [h1] at hg;exact (hl.far hk g hg).2
   ·rw [h1] at hg;have:=Option.some.inj hg;have:=hl.hrow.lt;omega
  ·rw [aa _ _ e] at hg;exact (hl.far hk g hg).2
 ·by_cases e:k=2
  ·subst e;rw [ae] at hg
   rcases A.at' with h1 | h1
   ·rw [h1] at hg;exact h.al 2 hk g hg
   ·rw [h1] at hg;have:=Option.some.inj hg;exact h.az g (by simp at this;omega)
  ·rw [aa _ _ e] at hg;exact h.al k hk g hg
theorem Ord.cut (h:Ord Z ob hb w wt V X) {a:Option Addr} {n cap m:Nat} (hv:V 2=.slice a n cap) (hm:m <= (X 2).length):Ord Z ob hb (w.setCell ⟨hb,0,none⟩ (.slice a m cap)) wt (upd V 2 (.slice a m cap)) (upd X 2 ((X 2).take m))/\aC Z w (w.setCell ⟨hb,0,none⟩ (.slice a m cap)):=by
 have key:∀ i g,(upd V 2 (.slice a m cap) i).ownBlock=some g->(V i).ownBlock=some g:=fun i g hg=>by
  by_cases e:i=2
  ·subst e;rw [ae] at hg;rw [hv];cases a <;> exact hg
  ·rw [aa _ _ e] at hg;exact hg
 exact ⟨h.header h.gH h.hrow (h.bC.cut (by omega) hv hm) rfl (fun i hi g hg=>(h.far hi g (key i g hg)).2) (Nat.le_refl _) (fun i hi g hg=>h.al i hi g (key i g hg)),(aC.refl w).setCell h.zh _⟩
theorem Ord.elem (h:Ord Z ob hb w wt V X) {k j n:Nat} (hk:k < 3) (hn:(X k).length=n) (hj:j < n):∃ g cap t,V k=.slice (some ⟨g,0,none⟩) n cap/\w.cell? ⟨g,j,none⟩=some t/\(X k)[j]? = some t/\w.frozen? ⟨g,j,none⟩=false/\Z g/\g < w.heap.size/\g ≠ ob/\g ≠ hb:=by
 subst hn;obtain ⟨g,cap,cur,e,hb',hg,hc⟩:=h.bC.block hk (by omega)
 obtain ⟨c1,c2⟩:=h.bC.cell hk e hj;rw [List.getElem?_eq_getElem hj] at c1;obtain ⟨n1,n2⟩:=h.far hk g (by rw [e];rfl)
 exact ⟨g,cap,(X k)[j],e,c1,List.getElem?_eq_getElem hj,c2,h.al k hk g (by rw [e];rfl),((h.bC.own k hk).lt g (by rw [e];rfl)).2,n1,n2⟩
theorem Ord.cells (h:Ord Z ob hb w wt V X):w.cell? ⟨ob,0,none⟩=some (.pointer (some ⟨hb,0,none⟩))/\w.cell? ⟨ob,1,none⟩=some (V 0)/\w.cell? ⟨ob,2,none⟩=some (V 1)/\w.cell? ⟨ob,3,none⟩=some (.int .i64 wt)/\w.cell? ⟨hb,0,none⟩=some (V 2)/\w.cell? ⟨hb,1,none⟩=some (ahead ob)/\w.cell? ⟨hb,2,none⟩=some (placed ob)/\w.frozen? ⟨hb,0,none⟩=false/\w.frozen? ⟨ob,3,none⟩=false:=
 ⟨h.gH.cell (i:=0) (by omega),h.gH.cell (i:=1) (by omega),h.gH.cell (i:=2) (by omega),h.gH.cell (i:=3) (by omega),h.hrow.cell (i:=0) (by omega),h.hrow.cell (i:=1) (by omega),h.hrow.cell (i:=2) (by omega),h.hrow.frozen 0,h.gH.frozen 3⟩
structure kR (n g:Nat) (X:Nat->List Value) (items:List Nat) (pl bz:Nat->Int):Prop where
 n0:(X 0).length=n
 t0:∀ v,v < n->v ≠ g->(X 0)[v]? = some (.int .i64 (pl v))
 i0:∀ v,v < n->∃ t:Int,(X 0)[v]? = some (.int .i64 t)
 n1:(X 1).length=n
 t1:∀ v,v < n->(X 1)[v]? = some (.int .i64 (bz v))
 t2:X 2=au items
variable {n g:Nat} {items:List Nat} {pl bz:Nat->Int}
theorem kR.put (h:kR n g X items pl bz) {v p:Nat} (hv:v < n) (hg:v ≠ g):kR n g (upd (upd X 2 ((X 2).set p (.int .i64 (v:Nat)))) 0 ((X 0).set v (.int .i64 (p:Nat)))) (items.set p v) (bB pl v (p:Nat)) bz where
 n0:=by rw [ae,List.length_set];exact h.n0
 t0:=fun x hx hxg=>by
  rw [ae];by_cases e:x=v
  ·subst e;rw [List.getElem?_set_self (by rw [h.n0];exact hx),aD]
  ·rw [List.getElem?_set_ne (fun e2=>e e2.symm),ah _ _ e];exact h.t0 x hx hxg
 i0:=fun x hx=>by
  rw [ae];by_cases e:x=v
  ·subst e;exact ⟨_,List.getElem?_set_self (by rw [h.n0];exact hx)⟩
  ·rw [List.getElem?_set_ne (fun e2=>e e2.symm)];exact h.i0 x hx
 n1:=by rw [aa _ _ (by decide),aa _ _ (by decide)];exact h.n1
 t1:=by rw [aa _ _ (by decide),aa _ _ (by decide)];exact h.t1
 t2:=by rw [aa _ _ (by decide),ae,h.t2,jQ]
end
section
open Go Go.RowKit Go.Deep Rd
variable {Z:Nat->Prop} {ob hb:Nat} {w w':World} {wt:Int} {V:Nat->Value} {X:Nat->List Value} {n g:Nat} {items:List Nat} {pl bz:Nat->Int}
theorem kR.busy (hM:kR n g X items pl bz) (h:Ord Z ob hb w wt V X) {a:Nat} (ha:a < n):∃ g1 c1,w.cell? ⟨ob,2,none⟩=some (.slice (some ⟨g1,0,none⟩) n c1)/\w.cell? ⟨g1,a,none⟩=some (.int .i64 (bz a)):=by
 obtain ⟨g1,c1,t,e,r,s,_⟩:=h.elem (k:=1) (j:=a) (by omega) hM.n1 ha
 rw [hM.t1 a ha] at s;obtain rfl:=Option.some.inj s;have:=h.cells.2.2.1;rw [e] at this;exact ⟨g1,c1,this,r⟩
theorem jw (h:Ord Z ob hb w wt V X) (hM:kR n g X items pl bz) {a b:Nat} (ha:a < n) (hb':b < n):
  Calls Tryz.prog 126 #[.pointer (some ⟨ob,0,none⟩),.int .i64 (a:Nat),.int .i64 (b:Nat)] w fun e w'=>e=.returned (.bool (decide (bz b < bz a)))/\∃ k,w'=w.drewN k:=by
 obtain ⟨g1,c1,q1,r1⟩:=hM.busy h ha;obtain ⟨g1',c1',q1',r2⟩:=hM.busy h hb';rw [q1] at q1';obtain ⟨e1,_,e3⟩:=Value.slice.inj (Option.some.inj q1');obtain rfl:g1=g1':=by have:=Option.some.inj e1;exact congrArg Addr.block this
 subst e3;have a0:(0:Int) <= (a:Int):=by omega
 have a1:(a:Int) < (n:Int):=by omega
 have b0:(0:Int) <= (b:Int):=by omega
 have b1:(b:Int) < (n:Int):=by omega
 clear h hM q1' e1;go_enter Tryz.func126,Tryz.ntmps126
 go_upto_region 1 with fail
 go_quiet (fail)
 go_wp2;go_ret
 exact ⟨rfl,_,rfl⟩
theorem qW (h:Ord Z ob hb w wt V X) (hM:kR n g X items pl bz) {v:Nat} (p:Int) (hv:v < n):
  Calls Tryz.prog 127 #[.pointer (some ⟨ob,0,none⟩),.int .i64 (v:Nat),.int .i64 p] w fun e w'=>e=.returned (.tuple #[])/\Ord Z ob hb w' wt V (upd X 0 ((X 0).set v (.int .i64 p)))/\aC Z w w':=by
 obtain ⟨g0,c0,t,e,r,s,z,_⟩:=h.elem (k:=0) (j:=v) (by omega) hM.n0 hv
 have q:=h.cells.2.1;rw [e] at q;have F:=hide (h.set (k:=0) (by omega) e v (.int .i64 p))
 have v0:(0:Int) <= (v:Int):=by omega
 have v1:(v:Int) < (n:Int):=by omega
 clear h hM e s;go_enter Tryz.func127,Tryz.ntmps127
 go_wp2;go_end0
 exact ⟨rfl,F.out.1,F.out.2⟩
theorem o6 (h:Ord Z ob hb w wt V X) (hM:kR n g X items pl bz) {v p:Nat} (hv:v < n) (hp:p < items.length):
  Calls Tryz.prog 203 #[.pointer (some ⟨hb,0,none⟩),.int .i64 (p:Nat),.int .i64 (v:Nat)] w fun e w'=>e=.returned (.tuple #[])/\Ord Z ob hb w' wt V (upd (upd X 2 ((X 2).set p (.int .i64 (v:Nat)))) 0 ((X 0).set v (.int .i64 (p:Nat))))/\aC Z w w':=by
 have l2:(X 2).length=items.length:=by rw [hM.t2,ag]
 obtain ⟨g2,c2,t,e,r,s,z,_⟩:=h.elem (k:=2) (j:=p) (by omega) l2 hp
 have q:=h.cells.2.2.2.2.1;rw [e] at q;have F:=hide (h.set (k:=2) (by omega) e p (.int .i64 (v:Nat)))
 have q2:=F.out.1.cells.2.2.2.2.2.2.1;have i0:kR n g (upd X 2 ((X 2).set p (.int .i64 (v:Nat)))) (items.set p v) pl bz:=⟨by rw [aa _ _ (by decide)];exact hM.n0,by rw [aa _ _ (by decide)];exact hM.t0,by rw [aa _ _ (by decide)];exact hM.i0,by rw [aa _ _ (by decide)];exact hM.n1,by rw [aa _ _ (by decide)];exact hM.t1,by rw [ae,hM.t2,jQ]⟩
 have QS:=hide (qW F.out.1 i0 (p:Nat) hv);rw [aa _ _ (by decide)] at QS
 have p0:(0:Int) <= (p:Int):=by omega
 have p1:(p:Int) < (items.length:Int):=by omega
 have C1:=hide F.out.2;generalize hW:w.setCell ⟨g2,p,none⟩ (.int .i64 (v:Nat))=W1 at QS q2 C1;clear F h hM e s i0 l2;go_enter Tryz.func203,Tryz.ntmps203
 go_upto_region 1 with fail
 go_wp2_with (go_at_call 127;refine QS.out.mono ?_;rintro e7 w7 ⟨rfl,wU,pM⟩;have O7:=hide wU;have C7:=hide pM;clear wU pM;simp only [])
 go_end0
 exact ⟨rfl,O7.out,C1.out.trans C7.out⟩
end
section
open Go Go.RowKit Go.Deep Rd
variable {Z:Nat->Prop} {sb K:Nat} {w w':World} {f V:Nat->Value} {X:Nat->List Value} {n:Nat} {wl:Nat->List Nat}
def xV (X X':Nat->List Value):Prop:=∀ k,k ≠ 9->k < 16->X' k=X k
def uK (wl:Nat->List Nat) (a p q:Nat) (i:Nat) (x:Nat):List Nat:=if (x=p/\1 <= i)\/(x=q/\2 <= i) then wl x ++ [a] else wl x
def Qe (Z:Nat->Prop) (sb:Nat) (w:World) (K:Nat) (f:Nat->Value) (X:Nat->List Value) (n:Nat) (wl:Nat->List Nat) (a p q:Nat) (i13:Value) (wr:World):Prop:=
 ∃ i:Nat,i13=.int .i64 i/\i <= 2/\∃ V' X',Hid (aQ Z sb wr K f V' X'/\jm n V' X' (uK wl a p q i)/\xV X X'/\aC Z w wr)
theorem Mq {a p q:Nat} (hpq:p ≠ q) {i:Nat} (hi:i < 2) {x:Nat} (hx:x=if i=0 then p else q):(fun y=>if y=x then uK wl a p q i y ++ [a] else uK wl a p q i y)=uK wl a p q (i + 1):=by
 funext y
 unfold uK
 rcases (show i=0\/i=1 by omega) with rfl | rfl
 ·simp only [if_true] at hx;subst hx;by_cases e:y=x
  ·subst e;simp
  ·simp [e]
 ·simp only [Nat.one_ne_zero,if_false] at hx;subst hx;by_cases e:y=x
  ·subst e;have:y ≠ p:=fun e=>hpq e.symm
   simp [this]
  ·simp [e]
theorem yU {cs:List Rec} {k p q:Nat} {r:List Nat} (h:aQ Z sb w K f V X) (hK2:K=16 + 2 * n) (h0:X 0=ints (enc cs)) (hk:k < cs.length) (hl:(cs[k]).lits=p :: q :: r) (hpq:p ≠ q) (hp:p < 2 * n) (hq:q < 2 * n) (hn:n <= 50) (hN:(enc cs).length <= 1099511627776) (hW:jm n V X wl) (hwl:∀ x,x < 2 * n->(wl x).length <= 1099511627776):
  Calls Tryz.prog 133 #[.pointer (some ⟨sb,0,none⟩),.int .i64 (aj cs k:Nat)] w fun e w'=>e=.returned (.tuple #[])/\aC Z w w'/\∃ V' X',aQ Z sb w' K f V' X'/\jm n V' X' (uK wl (aj cs k) p q 2)/\xV X X':=by
 obtain ⟨i0,hi,hz0,hz1,hz2⟩:=info_parts Tryz.cu;obtain ⟨g,c,e0,q0,hc,lg,ng,zg,r0,-,-,-,-⟩:=bV h h0 hk;have hend:=bA hk;have HS:=hide h;have HW:=hide hW;have m2:2 <= (cs[k]).lits.length:=by rw [hl];simp
 have c0:=vw hk (i:=0) (by omega)
 have c1:=vw hk (i:=1) (by omega)
 rw [show (cs[k]).lits[0]'(by omega)=p by simp [hl]] at c0
 rw [show (cs[k]).lits[1]'(by omega)=q by simp [hl]] at c1
 have QL:Hid (∀ Y:World,Y.heap=w.heap->Calls Tryz.prog 175 #[.pointer (some ⟨sb,2,none⟩),.int .i64 (aj cs k:Nat)] Y fun e w'=>e=.returned (fV g (aj cs k) (cs[k]).lits.length c)/\∃ j,w'=Y.drewN j):=fun Y hY=>fu sb 2 g (enc cs).length c (aj cs k) (cs[k]).lits.length Y (by rw [show Y.cell? ⟨sb,2,none⟩=w.cell? ⟨sb,2,none⟩ from World.cell?_of_block (a:=⟨sb,2,none⟩) (by rw [hY])];exact q0) (by omega) (by unfold maxLen;omega) hc (by rw [show Y.cell? ⟨g,aj cs k,none⟩=w.cell? ⟨g,aj cs k,none⟩ from World.cell?_of_block (a:=⟨g,aj cs k,none⟩) (by rw [hY])];exact r0)
 have nc:¬ (c=aj cs k + 3):=by omega
 unfold fV at QL;rw [if_neg nc] at QL;have m2':(2:Int) <= ((c - (aj cs k + 3):Nat):Int):=by omega
 clear r0 q0;generalize aj cs k=a at *
 generalize (cs[k]).lits.length=m at *
 generalize enc cs=ec at *
 clear hl;have CLS:Hid (∀ wr V' X',aQ Z sb wr K f V' X'->X' 0=X 0->∀ i,i < 2->wr.cell? ⟨g,a + 3 + i,none⟩=some (.int .i64 ((if i=0 then p else q:Nat):Int))):=fun wr V' X' hs' hx i hi=>by
  have Xc:V' 0=.slice (some ⟨g,0,none⟩) ec.length c:=by rw [<- hs'.hdr 0 (by omega),h.hdr 0 (by omega)];exact e0
  have hl0:(X' 0).length=ec.length:=by rw [hx,h0,cZ]
  rw [(hs'.bC.cell (k:=0) (by have:=hs'.hK;omega) Xc (j:=a + 3 + i) (by omega)).1]
  rcases (show i=0\/i=1 by omega) with rfl | rfl
  ·rw [hx];exact (by rw [h0,iR,c0];rfl)
  ·rw [hx];exact (by rw [h0,iR,c1];rfl)
 clear h hW h0 c0 c1 e0;go_enter Tryz.func133,Tryz.ntmps133
 go_upto_region 0 with fail
 go_wp2_with (go_at_call 175;refine (QL.out _ (by rfl)).mono ?_;rintro e7 w7 ⟨rfl,j7,rfl⟩;simp only [])
 obtain ⟨W,hWd⟩:∃ W,W=w.drewN j7:=⟨_,rfl⟩;have bW:Below w.heap.size w W:=by rw [hWd];exact below_drewN (Below.refl _ _) _
 have SW:=hide (HS.out.later bW);have CW:Hid (aC Z w W):=aC.of_below bW;rw [<- hWd];clear hWd bW QL;have w00:uK wl a p q 0=wl:=by funext x;unfold uK;simp
 go_loopw [5,13] (fun _ i wr=>Qe Z sb w K f X n wl a p q i wr) (fun _ i _=>2 - (intOf i).toNat)
 case atStart=>exact ⟨0,rfl,by omega,V,X,SW.out,by rw [w00];exact HW.out,fun _ _ _=>rfl,CW.out⟩
 case round=>
  obtain ⟨i,rfl,hi2,V',X',hst⟩:=hrel;clear SW CW w00;by_cases hlt:i < 2
  ·have il:(i:Int) < 2:=by omega
   have X9:(0:Int) <= (i:Int):=by omega
   obtain ⟨x,hx⟩:∃ x,x=if i=0 then p else q:=⟨_,rfl⟩
   have hx2:x < 2 * n:=by rw [hx];split <;> assumption
   have hcx:=CLS.out wr V' X' hst.out.1 (hst.out.2.2.1 0 (by decide) (by decide)) i hlt
   rw [<- hx] at hcx;have hwx:=hst.out.2.1;obtain ⟨g9,c9,wa,wc,Mc,Rf,q5,qx,zx,l9,n9,z9,ox⟩:=hwx.at' hst.out.1 hK2 hx2;have wll:(uK wl a p q i x).length <= 1099511627777:=by
    have:=hwl x hx2;unfold uK;split
    ·simp;omega
    ·omega
   have NX:=hide (Mq (wl:=wl) (a:=a) hpq hlt hx);have PW:=hide (fun v'=>hwx.push hx2 a v')
   rw [NX.out] at PW;have X0:(0:Int) <= (x:Int):=by omega
   have X1:(x:Int) < 2 * (n:Int):=by omega
   have SD:Hid (aQ Z sb wr.drew K f V' X'):=hst.out.1.later (Below.refl _ _).drew;have OD:Hid (wr.drew.ownsRow 0 3 1 (.slice wa (uK wl a p q i x).length wc) (uK wl a p q i x).length (au (uK wl a p q i x))):=ox;have BD:Hid (aC Z w wr.drew):=hst.out.2.2.2.drew;have RX:Hid (X' (16 + x)=au (uK wl a p q i x)):=hwx.row x hx2;have LX:Hid ((X' 9).length=2 * n):=hwx.n9;have HX9:Hid ((X' 9)[x]? = some (.slice wa (uK wl a p q i x).length wc)):=by unfold Hid;rw [hwx.hd x hx2,Rf]
   have E9:=hide Mc;have HF5:Hid (f 5=.slice (some ⟨g9,0,none⟩) (2 * n) c9):=(hst.out.1.hdr 9 (by omega)).trans Mc
   have EX:=hide Rf;have OW:=hide hst.out.2.2.1;have K3:16 + x < K:=by omega
   have hsbr:=hst.out.1.row.lt;have ns:¬ (sb=wr.heap.size):=by omega
   have ns9:¬ (g9=wr.heap.size):=by omega
   clear hwx Mc Rf ox hx;go_upto_region 3 with fail
   go_region_law
    (refine dR _ (by rfl) _ _ 43 (by rfl) 0 3 i0 (.int .i64 0) 1 8 Tryz.underlying43 hi hz0 hz1 hz2 (by rfl) (by decide) (.slice wa (uK wl a p q i x).length wc) (uK wl a p q i x).length (au (uK wl a p q i x)) (by rfl) (OD.out.alloc (Obj.cells #[.int .i64 (a:Int)] 3)) (.slice (some ⟨wr.heap.size,0,none⟩) 1 1) 1 [.int .i64 (a:Int)] (by rfl) (.inr ⟨⟨wr.heap.size,0,none⟩,1,rfl,(cell_one_new wr.drew _ _)⟩) (by rfl) (by simp [Value.oneCell']) (by unfold maxLen;omega) (by omega) (Nat.zero_le _) ?_;intro v6 w6 A6;have A7:aB (wr.drew.alloc (Obj.cells #[.int .i64 (a:Int)] 3)) 0 3 1 (V' (16 + x)) (X' (16 + x)).length (X' (16 + x)) 1 [.int .i64 (a:Int)] v6 w6:=(by rw [EX.out,RX.out,ag];exact A6);have S6:=hide (SD.out.Iy K3 E9.out (m:=1) (news:=[.int .i64 (a:Int)]) rfl A7);have K6:=(SD.out.Ed K3 E9.out (by rw [LX.out];exact hx2) A7);rw [HX9.out] at K6;obtain ⟨Y8,k62,k63⟩:=K6;have k64:=Y8 5 (by omega);rw [HF5.out] at k64;obtain ⟨qL,qK,hv6⟩:=aH A6.own;subst hv6;clear A6 A7 Y8)
   all_goals
    have FIN:Hid (Qe Z sb w K f X n wl a p q (.int .i64 ((i + 1:Nat):Int)) (w6.setCell ⟨g9,x,none⟩ (.slice qL ((uK wl a p q i x).length + 1) qK))):=⟨i + 1,rfl,by omega,_,_,S6.out.1,PW.out _,fun k h1 h2=>by rw [aa _ _ h1,aa _ _ (by omega)];exact OW.out k h1 h2,BD.out.trans S6.out.2⟩
    clear S6;go_wp2;go_roundw
    case rel=>exact FIN.out
    case measure=>simp [intOf];omega
  ·have ei:i=2:=by omega
   subst ei;go_wp2;go_end0;exact ⟨rfl,hst.out.2.2.2,V',X',hst.out.1,hst.out.2.1,hst.out.2.2.1⟩
end
end So
end Go.Proofs.YtceahffmenbibaaGreatDoor
