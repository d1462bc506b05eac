/- Smem Shea Sord Shw1 Swat. -/
import Derived.Test.YtceahffmenbibaaGreatDoorG02
import Derived.Test.YtceahffmenbibaaGreatDoorG04
import Derived.Test.YtceahffmenbibaaGreatDoorG03
import Derived.Deep.RegionLaw
import Derived.Deep.DrawnRows
set_option linter.unusedVariables false
set_option linter.unusedSimpArgs false
namespace Go.Proofs.YtceahffmenbibaaGreatDoor
namespace So
open Go Go.RowKit Go.Deep Rd
variable {Z:Nat→Prop} {sb K:Nat} {w w':World} {f V:Nat→Value} {X X':Nat→List Value}
def ints (l:List Int):List Value:=l.map fun z=>Value.int .i64 z
theorem ints_len (l:List Int):(ints l).length=l.length:=by simp [ints]
theorem ints_at? (l:List Int) (i:Nat):(ints l)[i]? = (l[i]?).map fun z=>Value.int .i64 z:=by simp [ints]
theorem ints_set (l:List Int) (i:Nat) (z:Int):(ints l).set i (.int .i64 z)=ints (l.set i z):=by simp [ints,List.map_set]
theorem ints_append (a b:List Int):ints (a ++ b)=ints a ++ ints b:=by simp [ints]
theorem nats_append (a b:List Nat):nats (a ++ b)=nats a ++ nats b:=by simp [nats]
theorem nats_take (l:List Nat) (k:Nat):(nats l).take k=nats (l.take k):=by simp [nats]
theorem nats_set (l:List Nat) (i x:Nat):(nats l).set i (.int .i64 (x:Nat))=nats (l.set i x):=by simp [nats,List.map_set]
structure TrM (n:Nat) (X:Nat→List Value) (tr ch:List Nat) (lev:Nat→Nat) (rea:Nat→Int):Prop where
 l1:X 1=nats tr
 l2:X 2=nats ch
 n3:(X 3).length=2 * n
 t3:∀ x,x < 2 * n→(X 3)[x]? = some (.int .i64 (tv tr x))
 n4:(X 4).length=n
 t4:∀ v,v < n→(X 4)[v]? = some (.int .i64 (lev v:Nat))
 n5:(X 5).length=n
 t5:∀ v,v < n→(X 5)[v]? = some (.int .i64 (rea v))
variable {n:Nat} {tr ch:List Nat} {lev:Nat→Nat} {rea:Nat→Int}
theorem TrM.congr (h:TrM n X tr ch lev rea) (hx:∀ k,1 ≤ k→k ≤ 5→X' k=X k):TrM n X' tr ch lev rea:=by
 have e1:=hx 1 (by omega) (by omega)
 have e2:=hx 2 (by omega) (by omega)
 have e3:=hx 3 (by omega) (by omega)
 have e4:=hx 4 (by omega) (by omega)
 have e5:=hx 5 (by omega) (by omega)
 exact ⟨by rw [e1];exact h.l1,by rw [e2];exact h.l2,by rw [e3];exact h.n3,by rw [e3];exact h.t3,by rw [e4];exact h.n4,by rw [e4];exact h.t4,by rw [e5];exact h.n5,by rw [e5];exact h.t5⟩
theorem set_at {l:List Value} {m:Nat} (hl:l.length=m) {g:Nat→Value} (ht:∀ v,v < m→l[v]? = some (g v)) {k:Nat} (hk:k < m) (u:Value):∀ v,v < m→(l.set k u)[v]? = some (updN g k u v):=fun v hv=>by
 by_cases e:v=k
 ·subst e;rw [List.getElem?_set_self (by omega),updN_self]
 ·rw [List.getElem?_set_ne (fun e2=>e e2.symm),updN_other _ _ e];exact ht v hv
theorem assignX_other (X:Nat→List Value) (x:Nat) (r:Int) (d:Nat) {k:Nat} (h1:k ≠ 1) (h3:k ≠ 3) (h4:k ≠ 4) (h5:k ≠ 5):assignX X x r d k=X k:=by
 unfold assignX
 rw [upd_other _ _ h5,upd_other _ _ h4,upd_other _ _ h3,upd_other _ _ h1]
theorem TrM.assign {ch':List Nat} (h:TrM n X tr ch lev rea) {x:Nat} (hx:x < 2 * n) (ho:tv tr x=0) (r:Int) {d:Nat} (hX2:X' 2=nats ch') (hX:∀ k,k ≠ 2→X' k=X k):TrM n (assignX X' x r d) (tr ++ [x]) ch' (updN lev (x / 2) d) (updN rea (x / 2) r):=by
 have a1:assignX X' x r d 1=X 1 ++ [.int .i64 x]:=by unfold assignX;rw [upd_other _ _ (by decide),upd_other _ _ (by decide),upd_other _ _ (by decide),upd_self,hX 1 (by decide)]
 have a2:assignX X' x r d 2=X' 2:=assignX_other _ _ _ _ (by decide) (by decide) (by decide) (by decide)
 have a3:assignX X' x r d 3=((X 3).set x (.int .i64 1)).set (op x) (.int .i64 (-1)):=by unfold assignX;rw [upd_other _ _ (by decide),upd_other _ _ (by decide),upd_self,hX 3 (by decide)]
 have a4:assignX X' x r d 4=(X 4).set (x / 2) (.int .i64 d):=by unfold assignX;rw [upd_other _ _ (by decide),upd_self,hX 4 (by decide)]
 have a5:assignX X' x r d 5=(X 5).set (x / 2) (.int .i64 r):=by unfold assignX;rw [upd_self,hX 5 (by decide)]
 have hv:x / 2 < n:=by omega
 have ox:op x < 2 * n:=op_lt hx
 refine ⟨?_,by rw [a2,hX2],?_,?_,?_,?_,?_,?_⟩
 ·rw [a1,h.l1,nats_append];rfl
 ·rw [a3];simp [h.n3]
 ·rw [a3]
  have s1:=set_at h.n3 h.t3 hx (.int .i64 1)
  have s2:=set_at (by rw [List.length_set];exact h.n3) s1 ox (.int .i64 (-1))
  intro y hy
  rw [s2 y hy,tv_assign ho y]
  congr 1
  by_cases e1:y=x
  ·subst e1
   rw [updN_other _ _ (fun e=>op_ne y e.symm),updN_self,if_pos rfl]
  ·rw [if_neg e1]
   by_cases e2:y=op x
   ·subst e2;rw [updN_self,if_pos rfl]
   ·rw [updN_other _ _ e2,updN_other _ _ e1,if_neg e2]
 ·rw [a4];simp [h.n4]
 ·rw [a4]
  have s:=set_at h.n4 (g:=fun v=>.int .i64 (lev v:Nat)) h.t4 hv (.int .i64 d)
  intro v hv'
  rw [s v hv']
  by_cases e:v=x / 2
  ·subst e;rw [updN_self,updN_self]
  ·rw [updN_other _ _ e,updN_other _ _ e]
 ·rw [a5];simp [h.n5]
 ·rw [a5]
  have s:=set_at h.n5 (g:=fun v=>.int .i64 (rea v)) h.t5 hv (.int .i64 r)
  intro v hv'
  rw [s v hv']
  by_cases e:v=x / 2
  ·subst e;rw [updN_self,updN_self]
  ·rw [updN_other _ _ e,updN_other _ _ e]
theorem undo_at {T:List Value} {m:Nat} (hT:T.length=m):∀ (l:List Nat) (g:Nat→Value),(∀ x ∈ l,x < m∧op x < m)→(∀ v,v < m→T[v]? = some (g v))→∀ v,v < m→(undo T l)[v]? = some (if v ∈ l∨op v ∈ l then .int .i64 0 else g v):=by
 intro l
 induction l generalizing T with
 | nil=>intro g _ ht v hv;simp only [undo,List.not_mem_nil,or_self,if_false];exact ht v hv
 | cons x r ih=>
  intro g hl ht v hv
  obtain ⟨hx,ox⟩:=hl x (List.mem_cons_self ..)
  have s1:=set_at hT ht hx (.int .i64 0)
  have s2:=set_at (by rw [List.length_set];exact hT) s1 ox (.int .i64 0)
  have:=ih (T:=(T.set x (.int .i64 0)).set (op x) (.int .i64 0)) (by simp [hT]) _ (fun y hy=>hl y (List.mem_cons_of_mem _ hy)) s2 v hv
  rw [undo,this]
  congr 1
  by_cases e1:v=x
  ·subst e1
   rw [updN_other _ _ (fun e=>op_ne v e.symm),updN_self];simp
  ·by_cases e2:v=op x
   ·subst e2;rw [updN_self,op_op];simp
   ·rw [updN_other _ _ e2,updN_other _ _ e1]
    have e3:op v ≠ x:=fun e=>e2 (by rw [← e,op_op])
    simp [e1,e3]
theorem TrM.back (h:TrM n X tr ch lev rea) (ht:TrI n tr ch lev) {s d:Nat} (hs:s ≤ tr.length) (h1:X' 1=nats (tr.take s)) (h2:X' 2=nats (ch.take d)) (h3:X' 3=undo (X 3) (tr.drop s)) (h4:X' 4=X 4) (h5:X' 5=X 5):TrM n X' (tr.take s) (ch.take d) lev rea where
 l1:=h1
 l2:=h2
 n3:=by rw [h3,undo_len];exact h.n3
 t3:=fun x hx=>by
  rw [h3,undo_at h.n3 (tr.drop s) _ (fun y hy=>⟨ht.lt y (List.mem_of_mem_drop hy),op_lt (ht.lt y (List.mem_of_mem_drop hy))⟩) h.t3 x hx]
  congr 1
  have mem:∀ y,y ∈ tr↔y ∈ tr.take s∨y ∈ tr.drop s:=fun y=>by
   conv=>lhs;rw [← List.take_append_drop s tr]
   exact List.mem_append
  have both:∀ y z,y ∈ tr.take s→z ∈ tr.drop s→y / 2 ≠ z / 2:=fun y z hy hz e=>by
   obtain ⟨i,hi,ei⟩:=List.mem_iff_getElem.1 hy
   obtain ⟨j,hj,ej⟩:=List.mem_iff_getElem.1 hz
   rw [List.length_take] at hi
   rw [List.length_drop] at hj
   rw [List.getElem_take] at ei
   rw [List.getElem_drop] at ej
   have:=ht.pos_inj (i:=i) (j:=s + j) (by omega) (by omega) (by rw [ei,ej];exact e)
   omega
  split
  ·rename_i hd
   have o1:tv (tr.take s) x=0:=tv_open.2 ⟨fun hm=>by
    rcases hd with hd | hd
    ·exact both x x hm hd rfl
    ·exact both x (op x) hm hd (by rw [op_var]),fun hm=>by
    rcases hd with hd | hd
    ·exact both (op x) x hm hd (by rw [op_var])
    ·exact both (op x) (op x) hm hd rfl⟩
   rw [o1]
  ·rename_i hd
   have hd1:x ∉ tr.drop s:=fun e=>hd (.inl e)
   have hd2:op x ∉ tr.drop s:=fun e=>hd (.inr e)
   unfold tv
   simp only [mem,hd1,hd2,or_false]
 n4:=by rw [h4];exact h.n4
 t4:=by rw [h4];exact h.t4
 n5:=by rw [h5];exact h.n5
 t5:=by rw [h5];exact h.t5
structure WaM (n:Nat) (V:Nat→Value) (X:Nat→List Value) (wl:Nat→List Nat):Prop where
 n9:(X 9).length=2 * n
 hd:∀ x,x < 2 * n→(X 9)[x]? = some (V (16 + x))
 row:∀ x,x < 2 * n→X (16 + x)=nats (wl x)
variable {V':Nat→Value} {wl:Nat→List Nat}
theorem WaM.congr (h:WaM n V X wl) (h9:X' 9=X 9) (hV:∀ x,x < 2 * n→V' (16 + x)=V (16 + x)) (hX:∀ x,x < 2 * n→X' (16 + x)=X (16 + x)):WaM n V' X' wl:=
 ⟨by rw [h9];exact h.n9,fun x hx=>by rw [h9,hV x hx];exact h.hd x hx,fun x hx=>by rw [hX x hx];exact h.row x hx⟩
theorem famT_in (x:Nat):famT (16 + x)=3:=by
 unfold famT
 rw [if_neg (by omega),if_neg (by omega),if_neg (by omega),if_neg (by omega)]
theorem WaM.push (h:WaM n V X wl) {x:Nat} (hx:x < 2 * n) (a:Nat) (v':Value):WaM n (upd V (16 + x) v') (upd (upd X (16 + x) (X (16 + x) ++ [.int .i64 (a:Nat)])) 9 ((X 9).set x v')) (fun y=>if y=x then wl y ++ [a] else wl y) where
 n9:=by rw [upd_self,List.length_set];exact h.n9
 hd:=fun y hy=>by
  rw [upd_self]
  by_cases e:y=x
  ·subst e;rw [List.getElem?_set_self (by rw [h.n9];exact hy),upd_self]
  ·rw [List.getElem?_set_ne (fun e2=>e e2.symm),upd_other _ _ (by omega)];exact h.hd y hy
 row:=fun y hy=>by
  rw [upd_other _ _ (by omega)]
  by_cases e:y=x
  ·subst e;rw [upd_self,h.row y hy,if_pos rfl,nats_append];rfl
  ·rw [upd_other _ _ (by omega),if_neg e];exact h.row y hy
theorem WaM.put (h:WaM n V X wl) {x:Nat} (hx:x < 2 * n) {l:List Nat} {R:List Value} (hR:R=nats l) (v':Value):WaM n (upd V (16 + x) v') (upd (upd X (16 + x) R) 9 ((X 9).set x v')) (fun y=>if y=x then l else wl y) where
 n9:=by rw [upd_self,List.length_set];exact h.n9
 hd:=fun y hy=>by
  rw [upd_self]
  by_cases e:y=x
  ·subst e;rw [List.getElem?_set_self (by rw [h.n9];exact hy),upd_self]
  ·rw [List.getElem?_set_ne (fun e2=>e e2.symm),upd_other _ _ (by omega)];exact h.hd y hy
 row:=fun y hy=>by
  rw [upd_other _ _ (by omega)]
  by_cases e:y=x
  ·subst e;rw [upd_self,if_pos rfl];exact hR
  ·rw [upd_other _ _ (by omega),if_neg e];exact h.row y hy
theorem Sol.pushW (h:Sol Z sb w K f V X) {x:Nat} (hx:16 + x < K) {g9 n9 c9:Nat} (hv9:V 9=.slice (some ⟨g9,0,none⟩) n9 c9) {ob:Obj} {v':Value} {w6:World} {m:Nat} {news:List Value} (hm:news.length=m) (A:Appended (w.alloc ob) 0 3 1 (V (16 + x)) (X (16 + x)).length (X (16 + x)) m news v' w6):
  Sol Z sb (w6.setCell ⟨g9,x,none⟩ v') K f (upd V (16 + x) v') (upd (upd X (16 + x) (X (16 + x) ++ news)) 9 ((X 9).set x v'))∧Chg Z w (w6.setCell ⟨g9,x,none⟩ v'):=by
 have hl:=h.later ((Below.refl _ w).alloc (Nat.le_refl _) ob)
 have hlt:=hl.row.lt
 have h9K:9 < K:=by have:=h.hK;omega
 rw [← famT_in x] at A
 have hr:=hl.row.of_block (A.grew.block sb hlt (fun e=>hl.far hx sb e.symm rfl))
 have hf:=hl.fam.push hx hm A
 have e9:upd V (16 + x) v' 9=.slice (some ⟨g9,0,none⟩) n9 c9:=by rw [upd_other _ _ (by omega)];exact hv9
 have hs:=hf.set h9K e9 x v'
 rw [upd_other _ _ (show (9:Nat) ≠ 16 + x by omega)] at hs
 have hne:g9 ≠ sb:=h.far h9K g9 (by rw [hv9];rfl)
 refine ⟨⟨hr.of_block (Below.heap_setCell _ _ _ _ (fun e=>hne e.symm)),hs,fun k hk=>by rw [upd_other _ _ (by omega)];exact h.hdr k hk,h.bsb,fun i hi g hg=>?_,fun g hg=>h.az g ?_,h.hK⟩,?_⟩
 ·by_cases e:i=16 + x
  ·subst e
   rw [upd_self] at hg
   rcases A.at' with h1 | h1
   ·rw [h1] at hg;exact h.al _ hi g hg
   ·rw [h1] at hg
    have:=Option.some.inj hg
    exact h.az g (by simp at this;omega)
  ·rw [upd_other _ _ e] at hg;exact h.al i hi g hg
 ·have:=A.grew.size
  simp [World.setCell] at this hg;omega
 ·exact (((Chg.refl w).alloc ob).grown A.grew (fun g hg=>h.al _ hx g hg)).setCell (h.al 9 h9K g9 (by rw [hv9];rfl)) _
theorem Sol.cutW (h:Sol Z sb w K f V X) {x:Nat} (hx:16 + x < K) {g9 n9 c9:Nat} (hv9:V 9=.slice (some ⟨g9,0,none⟩) n9 c9) {a:Option Addr} {nn cap m:Nat} (hv:V (16 + x)=.slice a nn cap) (hm:m ≤ (X (16 + x)).length):
  Sol Z sb (w.setCell ⟨g9,x,none⟩ (.slice a m cap)) K f (upd V (16 + x) (.slice a m cap)) (upd (upd X (16 + x) ((X (16 + x)).take m)) 9 ((X 9).set x (.slice a m cap))):=by
 have h9K:9 < K:=by have:=h.hK;omega
 have hf:=h.fam.cut hx hv hm
 have e9:upd V (16 + x) (.slice a m cap) 9=.slice (some ⟨g9,0,none⟩) n9 c9:=by rw [upd_other _ _ (by omega)];exact hv9
 have hs:=hf.set h9K e9 x (.slice a m cap)
 rw [upd_other _ _ (show (9:Nat) ≠ 16 + x by omega)] at hs
 have hne:g9 ≠ sb:=h.far h9K g9 (by rw [hv9];rfl)
 refine ⟨h.row.of_block (Below.heap_setCell _ _ _ _ (fun e=>hne e.symm)),hs,fun k hk=>by rw [upd_other _ _ (by omega)];exact h.hdr k hk,h.bsb,fun i hi g hg=>?_,fun g hg=>h.az g (by simpa [World.setCell] using hg),h.hK⟩
 by_cases e:i=16 + x
 ·subst e
  rw [upd_self] at hg
  exact h.al _ hi g (by rw [hv];cases a <;> exact hg)
 ·rw [upd_other _ _ e] at hg;exact h.al i hi g hg
theorem row0_at {cs:List Rec} (h0:X 0=ints (enc cs)) {j:Nat} {z:Int} (hz:(enc cs)[j]? = some z):(X 0)[j]? = some (.int .i64 z):=by rw [h0,ints_at?,hz];rfl
theorem Sol.headAppW (h:Sol Z sb w K f V X) {x:Nat} (hx:16 + x < K) {g9 n9 c9:Nat} (hv9:V 9=.slice (some ⟨g9,0,none⟩) n9 c9) (hx9:x < (X 9).length) {ob:Obj} {v':Value} {w6:World} {m:Nat} {news:List Value} (A:Appended (w.alloc ob) 0 3 1 (V (16 + x)) (X (16 + x)).length (X (16 + x)) m news v' w6):
  (∀ j,j < 22→w6.cell? ⟨sb,j,none⟩=some (f j))∧w6.cell? ⟨g9,x,none⟩=(X 9)[x]? ∧ w6.frozen? ⟨g9,x,none⟩=false:=by
 have hl:=h.later ((Below.refl _ w).alloc (Nat.le_refl _) ob)
 have h9K:9 < K:=by have:=h.hK;omega
 have hr:=hl.row.of_block (A.grew.block sb hl.row.lt (fun e=>hl.far hx sb e.symm rfl))
 have lt9:=((hl.fam.own 9 h9K).lt g9 (by rw [hv9];rfl)).2
 have ne9:some g9 ≠ (V (16 + x)).ownBlock:=fun e=>by
  rcases h.fam.apart 9 (16 + x) h9K hx (by omega) with h1 | h1
  ·rw [hv9] at h1;cases h1
  ·exact h1 (by rw [← e,hv9];rfl)
 have hb9:=A.grew.block g9 lt9 ne9
 obtain ⟨c1,c2⟩:=hl.fam.cell h9K hv9 hx9
 exact ⟨fun j hj=>hr.cell hj,(World.cell?_of_block (a:=⟨g9,x,none⟩) hb9).trans c1,(World.frozen?_of_block (a:=⟨g9,x,none⟩) hb9).trans c2⟩
theorem WaM.at' (h:WaM n V X wl) (hs:Sol Z sb w K f V X) (hK2:K=16 + 2 * n) {x:Nat} (hx:x < 2 * n):∃ g9 c9 wa wc,V 9=.slice (some ⟨g9,0,none⟩) (2 * n) c9∧V (16 + x)=.slice wa (wl x).length wc∧w.cell? ⟨sb,5,none⟩=some (.slice (some ⟨g9,0,none⟩) (2 * n) c9)∧w.cell? ⟨g9,x,none⟩=some (.slice wa (wl x).length wc)∧w.frozen? ⟨g9,x,none⟩=false∧g9 < w.heap.size∧g9 ≠ sb∧Z g9∧w.ownsRow 0 3 1 (.slice wa (wl x).length wc) (wl x).length (nats (wl x)):=by
 obtain ⟨g9,c9,t,e,q,r,s,z,zz,l,ne⟩:=hs.elem (k:=9) (j:=x) (by omega) h.n9 hx
 rw [show cellOf 9=5 from rfl] at q
 rw [h.hd x hx] at s
 obtain rfl:=Option.some.inj s
 have ho:=hs.fam.own (16 + x) (by omega)
 rw [famT_in,h.row x hx,nats_len] at ho
 obtain ⟨wa,wc,e2⟩:=own_shape ho
 rw [e2] at ho r
 exact ⟨g9,c9,wa,wc,e,e2,q,r,z,l,ne,zz,ho⟩
theorem lits_cells {cs:List Rec} (hs:Sol Z sb w K f V X) (h0:X 0=ints (enc cs)) {k:Nat} (hk:k < cs.length):∃ g c,V 0=.slice (some ⟨g,0,none⟩) (enc cs).length c∧w.cell? ⟨sb,2,none⟩=some (.slice (some ⟨g,0,none⟩) (enc cs).length c)∧(enc cs).length ≤ c∧g < w.heap.size∧g ≠ sb∧Z g∧w.cell? ⟨g,adr cs k,none⟩=some (.int .i64 ((cs[k]).lits.length:Nat))∧w.cell? ⟨g,adr cs k + 1,none⟩=some (.int .i64 ((cs[k]).kind:Nat))∧w.cell? ⟨g,adr cs k + 2,none⟩=some (.int .i64 (cs[k]).busy)∧(∀ i (hi:i < (cs[k]).lits.length),w.cell? ⟨g,adr cs k + 3 + i,none⟩=some (.int .i64 ((cs[k]).lits[i]:Nat)))∧∀ j,w.frozen? ⟨g,j,none⟩=false:=by
 have hend:=adr_end hk
 have hl:(X 0).length=(enc cs).length:=by rw [h0,ints_len]
 have hK:=hs.hK
 obtain ⟨g,c,t,e,q,r,s,z,zz,l,ne⟩:=hs.elem (k:=0) (j:=adr cs k) (by omega) hl (by omega)
 rw [show cellOf 0=2 from rfl] at q
 obtain ⟨g',cap',cur,e',_,_,hc⟩:=hs.fam.block (k:=0) (by omega) (by omega)
 rw [e] at e'
 obtain ⟨_,_,rfl⟩:=Value.slice.inj e'
 have rd:∀ j z,(enc cs)[j]? = some z→w.cell? ⟨g,j,none⟩=some (.int .i64 z):=fun j z hz=>by
  have hj:j < (X 0).length:=by
   rw [hl]
   rcases Nat.lt_or_ge j (enc cs).length with h | h
   ·exact h
   ·rw [List.getElem?_eq_none h] at hz;cases hz
  rw [(hs.fam.cell (k:=0) (by omega) e hj).1]
  exact row0_at h0 hz
 have ho:=hs.fam.own 0 (by omega)
 rw [e] at ho
 rw [hl] at ho hc
 exact ⟨g,c,e,q,hc,l,ne,zz,rd _ _ (enc_size hk),rd _ _ (enc_kind hk),rd _ _ (enc_busy hk),fun i hi=>rd _ _ (enc_lit hk hi),fun j=>ho.frozenAt j⟩
end So
end Go.Proofs.YtceahffmenbibaaGreatDoor
namespace Go.Proofs.YtceahffmenbibaaGreatDoor
namespace So
structure HpI (n:Nat) (items:List Nat) (pl:Nat→Int):Prop where
 lt:∀ v ∈ items,v < n
 at':∀ v,v < n→pl v=-1∨∃ i:Nat,pl v=i∧items[i]? = some v
 pl:∀ i (h:i < items.length),pl items[i]=(i:Nat)
structure HpH (n:Nat) (item hole:Nat) (items:List Nat) (pl:Nat→Int):Prop where
 lt:∀ v ∈ items,v < n
 hit:item < n
 hho:hole < items.length
 at':∀ v,v < n→v ≠ item→pl v=-1∨∃ i:Nat,pl v=i∧i ≠ hole∧items[i]? = some v
 pl:∀ i (h:i < items.length),i ≠ hole→items[i] ≠ item∧pl items[i]=(i:Nat)
variable {n:Nat} {items:List Nat} {pl:Nat→Int} {item hole:Nat}
theorem HpI.open (h:HpI n items pl) {i:Nat} (hi:i < items.length):HpH n items[i] i items pl where
 lt:=h.lt
 hit:=h.lt _ (List.getElem_mem hi)
 hho:=hi
 at':=fun v hv hne=>by
  rcases h.at' v hv with h1 | ⟨j,h1,h2⟩
  ·exact .inl h1
  ·refine .inr ⟨j,h1,fun e=>?_,h2⟩
   subst e
   rw [List.getElem?_eq_getElem hi] at h2
   exact hne (Option.some.inj h2).symm
 pl:=fun j hj hne=>by
  refine ⟨fun e=>hne ?_,h.pl j hj⟩
  have h1:=h.pl j hj
  rw [e,h.pl i hi] at h1
  omega
theorem HpH.move (h:HpH n item hole items pl) {k:Nat} (hk:k < items.length) (hne:k ≠ hole):HpH n item k (items.set hole items[k]) (updN pl items[k] (hole:Nat)) where
 lt:=fun v hv=>by
  rcases List.mem_or_eq_of_mem_set hv with h1 | h1
  ·exact h.lt v h1
  ·subst h1;exact h.lt _ (List.getElem_mem hk)
 hit:=h.hit
 hho:=by simpa using hk
 at':=fun v hv hvi=>by
  by_cases e:v=items[k]
  ·subst e
   rw [updN_self]
   exact .inr ⟨hole,rfl,fun e=>hne e.symm,by rw [List.getElem?_set_self h.hho]⟩
  ·rw [updN_other _ _ e]
   rcases h.at' v hv hvi with h1 | ⟨j,h1,h2,h3⟩
   ·exact .inl h1
   ·refine .inr ⟨j,h1,fun e2=>?_,?_⟩
    ·subst e2
     rw [List.getElem?_eq_getElem hk] at h3
     exact e (Option.some.inj h3).symm
    ·rw [List.getElem?_set_ne (fun e=>h2 e.symm)];exact h3
 pl:=fun j hj hjk=>by
  have hj':j < items.length:=by simpa using hj
  by_cases e:j=hole
  ·subst e
   rw [List.getElem_set_self]
   exact ⟨(h.pl k hk hne).1,updN_self ..⟩
  ·rw [List.getElem_set_ne (fun e2=>e e2.symm)]
   obtain ⟨h1,h2⟩:=h.pl j hj' e
   refine ⟨h1,?_⟩
   have:items[j] ≠ items[k]:=fun e3=>by
    have h4:=(h.pl k hk hne).2
    rw [← e3,h2] at h4
    omega
   rw [updN_other _ _ this];exact h2
theorem HpH.close (h:HpH n item hole items pl):HpI n (items.set hole item) (updN pl item (hole:Nat)) where
 lt:=fun v hv=>by
  rcases List.mem_or_eq_of_mem_set hv with h1 | h1
  ·exact h.lt v h1
  ·subst h1;exact h.hit
 at':=fun v hv=>by
  by_cases e:v=item
  ·subst e
   exact .inr ⟨hole,updN_self ..,by rw [List.getElem?_set_self h.hho]⟩
  ·rw [updN_other _ _ e]
   rcases h.at' v hv e with h1 | ⟨j,h1,h2,h3⟩
   ·exact .inl h1
   ·exact .inr ⟨j,h1,by rw [List.getElem?_set_ne (fun e=>h2 e.symm)];exact h3⟩
 pl:=fun j hj=>by
  have hj':j < items.length:=by simpa using hj
  by_cases e:j=hole
  ·subst e;rw [List.getElem_set_self];exact updN_self ..
  ·rw [List.getElem_set_ne (fun e2=>e e2.symm)]
   obtain ⟨h1,h2⟩:=h.pl j hj' e
   rw [updN_other _ _ h1];exact h2
theorem HpI.push (h:HpI n items pl) {v:Nat} (hv:v < n) (hn:pl v=-1):HpH n v items.length (items ++ [v]) pl where
 lt:=fun x hx=>by
  rcases List.mem_append.1 hx with h1 | h1
  ·exact h.lt x h1
  ·simp at h1;subst h1;exact hv
 hit:=hv
 hho:=by simp
 at':=fun x hx hne=>by
  rcases h.at' x hx with h1 | ⟨j,h1,h2⟩
  ·exact .inl h1
  ·have hj:=(List.getElem?_eq_some_iff.1 h2).1
   exact .inr ⟨j,h1,by omega,by rw [List.getElem?_append_left hj];exact h2⟩
 pl:=fun j hj hne=>by
  have hj':j < items.length:=by simp at hj;omega
  rw [List.getElem_append_left hj']
  refine ⟨fun e=>?_,h.pl j hj'⟩
  have:=h.pl j hj'
  rw [e,hn] at this
  omega
theorem HpI.pop (h:HpI n items pl) {l:Nat} (hl:items.length=l + 2) {first:Nat} (hf:items[0]? = some first) {last:Nat} (hla:items[l + 1]? = some last):HpH n last 0 (items.take (l + 1)) (updN pl first (-1)):=by
 obtain ⟨h0,e0⟩:=List.getElem?_eq_some_iff.1 hf
 obtain ⟨h1,e1⟩:=List.getElem?_eq_some_iff.1 hla
 have inj:∀ j (hj:j < items.length) k (hk:k < items.length),items[j]=items[k]→j=k:=fun j hj k hk e=>by
  have a:=h.pl j hj
  rw [e,h.pl k hk] at a
  omega
 exact {
  lt:=fun v hv=>h.lt v (List.mem_of_mem_take hv)
  hit:=by rw [← e1];exact h.lt _ (List.getElem_mem h1)
  hho:=by rw [List.length_take];omega
  at':=fun v hv hne=>by
   by_cases e:v=first
   ·subst e;exact .inl (updN_self ..)
   ·rw [updN_other _ _ e]
    rcases h.at' v hv with g1 | ⟨j,g1,g2⟩
    ·exact .inl g1
    ·obtain ⟨hj,ej⟩:=List.getElem?_eq_some_iff.1 g2
     have n0:j ≠ 0:=fun e2=>by subst e2;exact e (by rw [← ej,e0])
     have nl:j ≠ l + 1:=fun e2=>by subst e2;exact hne (by rw [← ej,e1])
     exact .inr ⟨j,g1,n0,by rw [List.getElem?_take,if_pos (by omega)];exact g2⟩
  pl:=fun j hj hne=>by
   rw [List.length_take] at hj
   have hj':j < items.length:=by omega
   rw [List.getElem_take]
   refine ⟨fun e=>?_,?_⟩
   ·rw [← e1] at e
    have:=inj j hj' (l + 1) h1 e;omega
   ·have:items[j] ≠ first:=fun e=>hne (inj j hj' 0 h0 (by rw [e,e0]))
    rw [updN_other _ _ this];exact h.pl j hj' }
theorem HpI.popOne (h:HpI n items pl) (hl:items.length=1) {first:Nat} (hf:items[0]? = some first):HpI n (items.take 0) (updN pl first (-1)) where
 lt:=fun v hv=>by simp at hv
 at':=fun v hv=>by
  by_cases e:v=first
  ·subst e;exact .inl (updN_self ..)
  ·rw [updN_other _ _ e]
   rcases h.at' v hv with g1 | ⟨j,g1,g2⟩
   ·exact .inl g1
   ·obtain ⟨hj,ej⟩:=List.getElem?_eq_some_iff.1 g2
    have:j=0:=by omega
    subst this
    rw [hf] at g2
    exact absurd (Option.some.inj g2).symm e
 pl:=fun i hi=>by simp at hi
theorem len_le_of_lt:∀ (n:Nat) (l:List Nat),l.Nodup→(∀ v ∈ l,v < n)→l.length ≤ n
 | 0,l,_,h=>by
  cases l with
  | nil=>simp
  | cons a r=>have:=h a (List.mem_cons_self ..);omega
 | n + 1,l,hn,h=>by
  by_cases e:n ∈ l
  ·have h1:(l.erase n).length ≤ n:=len_le_of_lt n (l.erase n) (hn.erase n) fun v hv=>by
    have h2:=(hn.mem_erase_iff).1 hv
    have:=h v h2.2
    have:=h2.1
    omega
   rw [List.length_erase_of_mem e] at h1
   omega
  ·have h1:l.length ≤ n:=len_le_of_lt n l hn fun v hv=>by
    have:=h v hv
    have:v ≠ n:=fun e2=>e (e2 ▸ hv)
    omega
   omega
theorem HpI.len (h:HpI n items pl):items.length ≤ n:=by
 have nd:items.Nodup:=by
  refine List.pairwise_iff_getElem.2 fun i j hi hj hij e=>?_
  have a:=h.pl i hi
  rw [e,h.pl j hj] at a
  omega
 exact len_le_of_lt n items nd h.lt
theorem HpI.empty (h:HpI n items pl) (he:items.length=0) {v:Nat} (hv:v < n):pl v=-1:=by
 rcases h.at' v hv with h1 | ⟨j,h1,h2⟩
 ·exact h1
 ·rw [List.getElem?_eq_none (by omega)] at h2;cases h2
end So
end Go.Proofs.YtceahffmenbibaaGreatDoor
namespace Go.Proofs.YtceahffmenbibaaGreatDoor
namespace So
open Go Go.RowKit Go.Deep Rd
def ordT (k:Nat):TypeId:=if k=1 then 2 else 3
theorem ordT_ne (k:Nat):ordT k ≠ 193∧ordT k ≠ 224:=by unfold ordT;split <;> decide
abbrev ahead (ob:Nat):Value:=.func (.func 126) #[.pointer (some ⟨ob,0,none⟩)] #[]
abbrev placed (ob:Nat):Value:=.func (.func 127) #[.pointer (some ⟨ob,0,none⟩)] #[]
def ordF (hb:Nat) (V:Nat→Value) (wt:Int) (j:Nat):Value:=if j=0 then .pointer (some ⟨hb,0,none⟩) else if j=1 then V 0 else if j=2 then V 1 else .int .i64 wt
def heaF (ob:Nat) (V:Nat→Value) (j:Nat):Value:=if j=0 then V 2 else if j=1 then ahead ob else placed ob
structure Ord (Z:Nat→Prop) (ob hb:Nat) (w:World) (wt:Int) (V:Nat→Value) (X:Nat→List Value):Prop where
 orow:w.rowIs ob 193 4 (ordF hb V wt)
 hrow:w.rowIs hb 224 3 (heaF ob V)
 fam:Fam 0 w 3 ordT V X
 zo:Z ob
 zh:Z hb
 al:∀ k,k < 3→∀ g,(V k).ownBlock=some g→Z g
 az:∀ g,w.heap.size ≤ g→Z g
variable {Z:Nat→Prop} {ob hb:Nat} {w w':World} {wt:Int} {V:Nat→Value} {X:Nat→List Value}
theorem Ord.far (h:Ord Z ob hb w wt V X) {k:Nat} (hk:k < 3):∀ g,(V k).ownBlock=some g→g ≠ ob∧g ≠ hb:=fun g hg=>by
 obtain ⟨c,hr,_⟩:=h.orow
 obtain ⟨c',hr',_⟩:=h.hrow
 rcases (h.fam.own k hk).2 with ⟨e2,_⟩ | ⟨g',cap,cur,e2,_,hg',_⟩
 ·rw [e2] at hg;cases hg
 ·rw [e2] at hg
  obtain rfl:g'=g:=Option.some.inj hg
  refine ⟨fun e=>?_,fun e=>?_⟩
  ·rw [e,hr] at hg'
   exact (ordT_ne k).1 (Obj.cells.inj (Option.some.inj hg')).2.1.symm
  ·rw [e,hr'] at hg'
   exact (ordT_ne k).2 (Obj.cells.inj (Option.some.inj hg')).2.1.symm
theorem Ord.two (h:Ord Z ob hb w wt V X):ob ≠ hb:=fun e=>by
 obtain ⟨c,hr,_⟩:=h.orow
 obtain ⟨c',hr',_⟩:=h.hrow
 rw [e,hr'] at hr
 have:=(Obj.cells.inj (Option.some.inj hr)).2.1
 exact absurd this (by decide)
theorem Ord.later (h:Ord Z ob hb w wt V X) (hb':Below w.heap.size w w'):Ord Z ob hb w' wt V X:=
 ⟨h.orow.of_block (hb'.block _ h.orow.lt),h.hrow.of_block (hb'.block _ h.hrow.lt),h.fam.later hb',h.zo,h.zh,h.al,fun g hg=>h.az g (Nat.le_trans hb'.size hg)⟩
theorem Ord.kept (h:Ord Z ob hb w wt V X) {Z':Nat→Prop} (hc:Chg Z' w w') (h1:¬ Z' ob) (h2:¬ Z' hb) (h3:∀ k,k < 3→∀ g,(V k).ownBlock=some g→¬ Z' g):Ord Z ob hb w' wt V X:=
 ⟨h.orow.of_block (hc.block _ h.orow.lt h1),h.hrow.of_block (hc.block _ h.hrow.lt h2),h.fam.kept fun k g hk hg=>hc.block g ((h.fam.own k hk).lt g hg).2 (h3 k hk g hg),h.zo,h.zh,h.al,fun g hg=>h.az g (Nat.le_trans hc.size hg)⟩
theorem Ord.set (h:Ord Z ob hb w wt V X) {k:Nat} (hk:k < 3) {g n cap:Nat} (hv:V k=.slice (some ⟨g,0,none⟩) n cap) (j:Nat) (u:Value):Ord Z ob hb (w.setCell ⟨g,j,none⟩ u) wt V (upd X k ((X k).set j u))∧Chg Z w (w.setCell ⟨g,j,none⟩ u):=by
 obtain ⟨n1,n2⟩:=h.far hk g (by rw [hv];rfl)
 exact ⟨⟨h.orow.of_block (Below.heap_setCell _ _ _ _ (fun e=>n1 e.symm)),h.hrow.of_block (Below.heap_setCell _ _ _ _ (fun e=>n2 e.symm)),h.fam.set hk hv j u,h.zo,h.zh,h.al,fun g hg=>h.az g (by simpa [World.setCell] using hg)⟩,(Chg.refl w).setCell (h.al k hk g (by rw [hv];rfl)) _⟩
theorem Ord.weight (h:Ord Z ob hb w wt V X) (t:Int):Ord Z ob hb (w.setCell ⟨ob,3,none⟩ (.int .i64 t)) t V X∧Chg Z w (w.setCell ⟨ob,3,none⟩ (.int .i64 t)):=
 ⟨⟨(h.orow.set 3 (.int .i64 t)).congr fun i hi=>by
   unfold ordF
   by_cases e:i=3
   ·subst e;simp
   ·have:i=0∨i=1∨i=2:=by omega
    rcases this with rfl | rfl | rfl <;> simp,
  h.hrow.of_block (Below.heap_setCell _ _ _ _ (fun e=>h.two e.symm)),
  h.fam.kept fun k g hk hg=>Below.heap_setCell _ _ _ _ (by simpa using (h.far hk g hg).1),h.zo,h.zh,h.al,fun g hg=>h.az g (by simpa [World.setCell] using hg)⟩,(Chg.refl w).setCell h.zo _⟩
theorem Ord.header {w6:World} {V':Nat→Value} {X':Nat→List Value} {v':Value} (h:Ord Z ob hb w wt V X) (ho:w6.rowIs ob 193 4 (ordF hb V wt)) (hh:w6.rowIs hb 224 3 (heaF ob V)) (hf:Fam 0 w6 3 ordT V' X') (hV:V'=upd V 2 v') (hfar:∀ k,k < 3→∀ g,(V' k).ownBlock=some g→g ≠ hb) (hsz:w.heap.size ≤ w6.heap.size) (hal:∀ k,k < 3→∀ g,(V' k).ownBlock=some g→Z g):
  Ord Z ob hb (w6.setCell ⟨hb,0,none⟩ v') wt V' X':=
 ⟨(ho.of_block (Below.heap_setCell _ _ _ _ (by simpa using h.two))).congr fun i hi=>by
   rw [hV];unfold ordF
   have:i=0∨i=1∨i=2∨i=3:=by omega
   rcases this with rfl | rfl | rfl | rfl <;> simp [upd],
  (hh.set 0 v').congr fun i hi=>by
   rw [hV];unfold heaF
   have:i=0∨i=1∨i=2:=by omega
   rcases this with rfl | rfl | rfl <;> simp [upd],
  hf.kept fun k g hk hg=>Below.heap_setCell _ _ _ _ (by simpa using hfar k hk g hg),h.zo,h.zh,hal,fun g hg=>h.az g (by simp [World.setCell] at hg;omega)⟩
theorem Ord.push (h:Ord Z ob hb w wt V X) {obj:Obj} {v':Value} {w6:World} {m:Nat} {news:List Value} (hm:news.length=m) (A:Appended (w.alloc obj) 0 3 1 (V 2) (X 2).length (X 2) m news v' w6):
  Ord Z ob hb (w6.setCell ⟨hb,0,none⟩ v') wt (upd V 2 v') (upd X 2 (X 2 ++ news))∧Chg Z w (w6.setCell ⟨hb,0,none⟩ v')∧w6.cell? ⟨hb,0,none⟩=some (V 2)∧w6.frozen? ⟨hb,0,none⟩=false:=by
 have hl:=h.later ((Below.refl _ w).alloc (Nat.le_refl _) obj)
 rw [show (3:TypeId)=ordT 2 from rfl] at A
 have f2:=hl.far (k:=2) (by omega)
 have ho:=hl.orow.of_block (A.grew.block ob hl.orow.lt (fun e=>(f2 ob e.symm).1 rfl))
 have hh:=hl.hrow.of_block (A.grew.block hb hl.hrow.lt (fun e=>(f2 hb e.symm).2 rfl))
 refine ⟨h.header ho hh (hl.fam.push (by omega) hm A) rfl (fun k hk g hg=>?_) (by have:=A.grew.size;simp at this;omega) (fun k hk g hg=>?_),(((Chg.refl w).alloc obj).grown A.grew (fun g hg=>h.al 2 (by omega) g hg)).setCell h.zh _,hh.cell (i:=0) (by omega),hh.frozen 0⟩
 ·by_cases e:k=2
  ·subst e
   rw [upd_self] at hg
   rcases A.at' with h1 | h1
   ·rw [h1] at hg;exact (hl.far hk g hg).2
   ·rw [h1] at hg
    have:=Option.some.inj hg
    have:=hl.hrow.lt
    omega
  ·rw [upd_other _ _ e] at hg;exact (hl.far hk g hg).2
 ·by_cases e:k=2
  ·subst e
   rw [upd_self] at hg
   rcases A.at' with h1 | h1
   ·rw [h1] at hg;exact h.al 2 hk g hg
   ·rw [h1] at hg
    have:=Option.some.inj hg
    exact h.az g (by simp at this;omega)
  ·rw [upd_other _ _ e] at hg;exact h.al k hk g hg
theorem Ord.cut (h:Ord Z ob hb w wt V X) {a:Option Addr} {n cap m:Nat} (hv:V 2=.slice a n cap) (hm:m ≤ (X 2).length):Ord Z ob hb (w.setCell ⟨hb,0,none⟩ (.slice a m cap)) wt (upd V 2 (.slice a m cap)) (upd X 2 ((X 2).take m))∧Chg Z w (w.setCell ⟨hb,0,none⟩ (.slice a m cap)):=by
 have key:∀ i g,(upd V 2 (.slice a m cap) i).ownBlock=some g→(V i).ownBlock=some g:=fun i g hg=>by
  by_cases e:i=2
  ·subst e
   rw [upd_self] at hg
   rw [hv];cases a <;> exact hg
  ·rw [upd_other _ _ e] at hg;exact hg
 exact ⟨h.header h.orow h.hrow (h.fam.cut (by omega) hv hm) rfl (fun i hi g hg=>(h.far hi g (key i g hg)).2) (Nat.le_refl _) (fun i hi g hg=>h.al i hi g (key i g hg)),(Chg.refl w).setCell h.zh _⟩
theorem Ord.elem (h:Ord Z ob hb w wt V X) {k j n:Nat} (hk:k < 3) (hn:(X k).length=n) (hj:j < n):∃ g cap t,V k=.slice (some ⟨g,0,none⟩) n cap∧w.cell? ⟨g,j,none⟩=some t∧(X k)[j]? = some t∧w.frozen? ⟨g,j,none⟩=false∧Z g∧g < w.heap.size∧g ≠ ob∧g ≠ hb:=by
 subst hn
 obtain ⟨g,cap,cur,e,hb',hg,hc⟩:=h.fam.block hk (by omega)
 obtain ⟨c1,c2⟩:=h.fam.cell hk e hj
 rw [List.getElem?_eq_getElem hj] at c1
 obtain ⟨n1,n2⟩:=h.far hk g (by rw [e];rfl)
 exact ⟨g,cap,(X k)[j],e,c1,List.getElem?_eq_getElem hj,c2,h.al k hk g (by rw [e];rfl),((h.fam.own k hk).lt g (by rw [e];rfl)).2,n1,n2⟩
theorem Ord.cells (h:Ord Z ob hb w wt V X):w.cell? ⟨ob,0,none⟩=some (.pointer (some ⟨hb,0,none⟩))∧w.cell? ⟨ob,1,none⟩=some (V 0)∧w.cell? ⟨ob,2,none⟩=some (V 1)∧w.cell? ⟨ob,3,none⟩=some (.int .i64 wt)∧w.cell? ⟨hb,0,none⟩=some (V 2)∧w.cell? ⟨hb,1,none⟩=some (ahead ob)∧w.cell? ⟨hb,2,none⟩=some (placed ob)∧w.frozen? ⟨hb,0,none⟩=false∧w.frozen? ⟨ob,3,none⟩=false:=
 ⟨h.orow.cell (i:=0) (by omega),h.orow.cell (i:=1) (by omega),h.orow.cell (i:=2) (by omega),h.orow.cell (i:=3) (by omega),h.hrow.cell (i:=0) (by omega),h.hrow.cell (i:=1) (by omega),h.hrow.cell (i:=2) (by omega),h.hrow.frozen 0,h.orow.frozen 3⟩
structure OrM (n g:Nat) (X:Nat→List Value) (items:List Nat) (pl bz:Nat→Int):Prop where
 n0:(X 0).length=n
 t0:∀ v,v < n→v ≠ g→(X 0)[v]? = some (.int .i64 (pl v))
 i0:∀ v,v < n→∃ t:Int,(X 0)[v]? = some (.int .i64 t)
 n1:(X 1).length=n
 t1:∀ v,v < n→(X 1)[v]? = some (.int .i64 (bz v))
 t2:X 2=nats items
variable {n g:Nat} {items:List Nat} {pl bz:Nat→Int}
theorem OrM.put (h:OrM n g X items pl bz) {v p:Nat} (hv:v < n) (hg:v ≠ g):OrM n g (upd (upd X 2 ((X 2).set p (.int .i64 (v:Nat)))) 0 ((X 0).set v (.int .i64 (p:Nat)))) (items.set p v) (updN pl v (p:Nat)) bz where
 n0:=by rw [upd_self,List.length_set];exact h.n0
 t0:=fun x hx hxg=>by
  rw [upd_self]
  by_cases e:x=v
  ·subst e;rw [List.getElem?_set_self (by rw [h.n0];exact hx),updN_self]
  ·rw [List.getElem?_set_ne (fun e2=>e e2.symm),updN_other _ _ e];exact h.t0 x hx hxg
 i0:=fun x hx=>by
  rw [upd_self]
  by_cases e:x=v
  ·subst e;exact ⟨_,List.getElem?_set_self (by rw [h.n0];exact hx)⟩
  ·rw [List.getElem?_set_ne (fun e2=>e e2.symm)];exact h.i0 x hx
 n1:=by rw [upd_other _ _ (by decide),upd_other _ _ (by decide)];exact h.n1
 t1:=by rw [upd_other _ _ (by decide),upd_other _ _ (by decide)];exact h.t1
 t2:=by rw [upd_other _ _ (by decide),upd_self,h.t2,nats_set]
end So
end Go.Proofs.YtceahffmenbibaaGreatDoor
namespace Go.Proofs.YtceahffmenbibaaGreatDoor
namespace So
open Go Go.RowKit Go.Deep Rd
variable {Z:Nat→Prop} {ob hb:Nat} {w w':World} {wt:Int} {V:Nat→Value} {X:Nat→List Value} {n g:Nat} {items:List Nat} {pl bz:Nat→Int}
theorem OrM.busy (hM:OrM n g X items pl bz) (h:Ord Z ob hb w wt V X) {a:Nat} (ha:a < n):∃ g1 c1,w.cell? ⟨ob,2,none⟩=some (.slice (some ⟨g1,0,none⟩) n c1)∧w.cell? ⟨g1,a,none⟩=some (.int .i64 (bz a)):=by
 obtain ⟨g1,c1,t,e,r,s,_⟩:=h.elem (k:=1) (j:=a) (by omega) hM.n1 ha
 rw [hM.t1 a ha] at s
 obtain rfl:=Option.some.inj s
 have:=h.cells.2.2.1
 rw [e] at this
 exact ⟨g1,c1,this,r⟩
set_option maxHeartbeats 1000000 in
theorem isBusier_any (h:Ord Z ob hb w wt V X) (hM:OrM n g X items pl bz) {a b:Nat} (ha:a < n) (hb':b < n):
  Calls Tryz.prog 126 #[.pointer (some ⟨ob,0,none⟩),.int .i64 (a:Nat),.int .i64 (b:Nat)] w fun e w'=>e=.returned (.bool (decide (bz b < bz a)))∧∃ k,w'=w.drewN k:=by
 obtain ⟨g1,c1,q1,r1⟩:=hM.busy h ha
 obtain ⟨g1',c1',q1',r2⟩:=hM.busy h hb'
 rw [q1] at q1'
 obtain ⟨e1,_,e3⟩:=Value.slice.inj (Option.some.inj q1')
 obtain rfl:g1=g1':=by have:=Option.some.inj e1;exact congrArg Addr.block this
 subst e3
 have a0:(0:Int) ≤ (a:Int):=by omega
 have a1:(a:Int) < (n:Int):=by omega
 have b0:(0:Int) ≤ (b:Int):=by omega
 have b1:(b:Int) < (n:Int):=by omega
 clear h hM q1' e1
 go_enter Tryz.func126,Tryz.ntmps126
 go_upto_region 1 with fail
 go_quiet (fail)
 go_wp2
 go_ret
 exact ⟨rfl,_,rfl⟩
set_option maxHeartbeats 1000000 in
theorem setPlace_any (h:Ord Z ob hb w wt V X) (hM:OrM n g X items pl bz) {v:Nat} (p:Int) (hv:v < n):
  Calls Tryz.prog 127 #[.pointer (some ⟨ob,0,none⟩),.int .i64 (v:Nat),.int .i64 p] w fun e w'=>e=.returned (.tuple #[])∧Ord Z ob hb w' wt V (upd X 0 ((X 0).set v (.int .i64 p)))∧Chg Z w w':=by
 obtain ⟨g0,c0,t,e,r,s,z,_⟩:=h.elem (k:=0) (j:=v) (by omega) hM.n0 hv
 have q:=h.cells.2.1
 rw [e] at q
 have F:=hide (h.set (k:=0) (by omega) e v (.int .i64 p))
 have v0:(0:Int) ≤ (v:Int):=by omega
 have v1:(v:Int) < (n:Int):=by omega
 clear h hM e s
 go_enter Tryz.func127,Tryz.ntmps127
 go_wp2
 go_end0
 exact ⟨rfl,(unhide F).1,(unhide F).2⟩
set_option maxHeartbeats 1000000 in
theorem put_any (h:Ord Z ob hb w wt V X) (hM:OrM n g X items pl bz) {v p:Nat} (hv:v < n) (hp:p < items.length):
  Calls Tryz.prog 203 #[.pointer (some ⟨hb,0,none⟩),.int .i64 (p:Nat),.int .i64 (v:Nat)] w fun e w'=>e=.returned (.tuple #[])∧Ord Z ob hb w' wt V (upd (upd X 2 ((X 2).set p (.int .i64 (v:Nat)))) 0 ((X 0).set v (.int .i64 (p:Nat))))∧Chg Z w w':=by
 have l2:(X 2).length=items.length:=by rw [hM.t2,nats_len]
 obtain ⟨g2,c2,t,e,r,s,z,_⟩:=h.elem (k:=2) (j:=p) (by omega) l2 hp
 have q:=h.cells.2.2.2.2.1
 rw [e] at q
 have F:=hide (h.set (k:=2) (by omega) e p (.int .i64 (v:Nat)))
 have q2:=(unhide F).1.cells.2.2.2.2.2.2.1
 have i0:OrM n g (upd X 2 ((X 2).set p (.int .i64 (v:Nat)))) (items.set p v) pl bz:=⟨by rw [upd_other _ _ (by decide)];exact hM.n0,by rw [upd_other _ _ (by decide)];exact hM.t0,by rw [upd_other _ _ (by decide)];exact hM.i0,by rw [upd_other _ _ (by decide)];exact hM.n1,by rw [upd_other _ _ (by decide)];exact hM.t1,by rw [upd_self,hM.t2,nats_set]⟩
 have QS:=hide (setPlace_any (unhide F).1 i0 (p:Nat) hv)
 rw [upd_other _ _ (by decide)] at QS
 have p0:(0:Int) ≤ (p:Int):=by omega
 have p1:(p:Int) < (items.length:Int):=by omega
 have C1:=hide (unhide F).2
 generalize hW:w.setCell ⟨g2,p,none⟩ (.int .i64 (v:Nat))=W1 at QS q2 C1
 clear F h hM e s i0 l2
 go_enter Tryz.func203,Tryz.ntmps203
 go_upto_region 1 with fail
 go_wp2_with (go_at_call 127;refine (unhide QS).mono ?_;rintro e7 w7 ⟨rfl,ho7,hc7⟩;have O7:=hide ho7;have C7:=hide hc7;clear ho7 hc7;simp only [])
 go_end0
 exact ⟨rfl,unhide O7,(unhide C1).trans (unhide C7)⟩
end So
end Go.Proofs.YtceahffmenbibaaGreatDoor
namespace Go.Proofs.YtceahffmenbibaaGreatDoor
namespace So
open Go Go.RowKit Go.Deep Rd
variable {Z:Nat→Prop} {sb K:Nat} {w w':World} {f V:Nat→Value} {X:Nat→List Value} {n:Nat} {wl:Nat→List Nat}
def OnlyW (X X':Nat→List Value):Prop:=∀ k,k ≠ 9→k < 16→X' k=X k
def wlI (wl:Nat→List Nat) (a p q:Nat) (i:Nat) (x:Nat):List Nat:=if (x=p∧1 ≤ i)∨(x=q∧2 ≤ i) then wl x ++ [a] else wl x
def WatRel (Z:Nat→Prop) (sb:Nat) (w:World) (K:Nat) (f:Nat→Value) (X:Nat→List Value) (n:Nat) (wl:Nat→List Nat) (a p q:Nat) (i13:Value) (wr:World):Prop:=
 ∃ i:Nat,i13=.int .i64 i∧i ≤ 2∧∃ V' X',Hid (Sol Z sb wr K f V' X'∧WaM n V' X' (wlI wl a p q i)∧OnlyW X X'∧Chg Z w wr)
theorem wlI_step {a p q:Nat} (hpq:p ≠ q) {i:Nat} (hi:i < 2) {x:Nat} (hx:x=if i=0 then p else q):(fun y=>if y=x then wlI wl a p q i y ++ [a] else wlI wl a p q i y)=wlI wl a p q (i + 1):=by
 funext y
 unfold wlI
 rcases (show i=0∨i=1 by omega) with rfl | rfl
 ·simp only [if_true] at hx
  subst hx
  by_cases e:y=x
  ·subst e;simp
  ·simp [e]
 ·simp only [Nat.one_ne_zero,if_false] at hx
  subst hx
  by_cases e:y=x
  ·subst e
   have:y ≠ p:=fun e=>hpq e.symm
   simp [this]
  ·simp [e]
set_option maxHeartbeats 4000000 in
set_option maxRecDepth 100000 in
theorem watch_any {cs:List Rec} {k p q:Nat} {r:List Nat} (h:Sol Z sb w K f V X) (hK2:K=16 + 2 * n) (h0:X 0=ints (enc cs)) (hk:k < cs.length) (hl:(cs[k]).lits=p :: q :: r) (hpq:p ≠ q) (hp:p < 2 * n) (hq:q < 2 * n) (hn:n ≤ 50) (hN:(enc cs).length ≤ 1099511627776) (hW:WaM n V X wl) (hwl:∀ x,x < 2 * n→(wl x).length ≤ 1099511627776):
  Calls Tryz.prog 133 #[.pointer (some ⟨sb,0,none⟩),.int .i64 (adr cs k:Nat)] w fun e w'=>e=.returned (.tuple #[])∧Chg Z w w'∧∃ V' X',Sol Z sb w' K f V' X'∧WaM n V' X' (wlI wl (adr cs k) p q 2)∧OnlyW X X':=by
 obtain ⟨i0,hi,hz0,hz1,hz2⟩:=info_parts Tryz.infoInt9
 obtain ⟨g,c,e0,q0,hc,lg,ng,zg,r0,-,-,-,-⟩:=lits_cells h h0 hk
 have hend:=adr_end hk
 have HS:=hide h
 have HW:=hide hW
 have m2:2 ≤ (cs[k]).lits.length:=by rw [hl];simp
 have c0:=enc_lit hk (i:=0) (by omega)
 have c1:=enc_lit hk (i:=1) (by omega)
 rw [show (cs[k]).lits[0]'(by omega)=p by simp [hl]] at c0
 rw [show (cs[k]).lits[1]'(by omega)=q by simp [hl]] at c1
 have QL:Hid (∀ Y:World,Y.heap=w.heap→Calls Tryz.prog 175 #[.pointer (some ⟨sb,2,none⟩),.int .i64 (adr cs k:Nat)] Y fun e w'=>e=.returned (litsAt g (adr cs k) (cs[k]).lits.length c)∧∃ j,w'=Y.drewN j):=fun Y hY=>literals_any sb 2 g (enc cs).length c (adr cs k) (cs[k]).lits.length Y (by rw [show Y.cell? ⟨sb,2,none⟩=w.cell? ⟨sb,2,none⟩ from World.cell?_of_block (a:=⟨sb,2,none⟩) (by rw [hY])];exact q0) (by omega) (by unfold maxLen;omega) hc (by rw [show Y.cell? ⟨g,adr cs k,none⟩=w.cell? ⟨g,adr cs k,none⟩ from World.cell?_of_block (a:=⟨g,adr cs k,none⟩) (by rw [hY])];exact r0)
 have nc:¬ (c=adr cs k + 3):=by omega
 unfold litsAt at QL
 rw [if_neg nc] at QL
 have m2':(2:Int) ≤ ((c - (adr cs k + 3):Nat):Int):=by omega
 clear r0 q0
 generalize adr cs k=a at *
 generalize (cs[k]).lits.length=m at *
 generalize enc cs=ec at *
 clear hl
 have CLS:Hid (∀ wr V' X',Sol Z sb wr K f V' X'→X' 0=X 0→∀ i,i < 2→wr.cell? ⟨g,a + 3 + i,none⟩=some (.int .i64 ((if i=0 then p else q:Nat):Int))):=fun wr V' X' hs' hx i hi=>by
  have e0':V' 0=.slice (some ⟨g,0,none⟩) ec.length c:=by rw [← hs'.hdr 0 (by omega),h.hdr 0 (by omega)];exact e0
  have hl0:(X' 0).length=ec.length:=by rw [hx,h0,ints_len]
  rw [(hs'.fam.cell (k:=0) (by have:=hs'.hK;omega) e0' (j:=a + 3 + i) (by omega)).1]
  rcases (show i=0∨i=1 by omega) with rfl | rfl
  ·rw [hx];exact (by rw [h0,ints_at?,c0];rfl)
  ·rw [hx];exact (by rw [h0,ints_at?,c1];rfl)
 clear h hW h0 c0 c1 e0
 go_enter Tryz.func133,Tryz.ntmps133
 go_upto_region 0 with fail
 go_wp2_with (go_at_call 175;refine (unhide QL _ (by rfl)).mono ?_;rintro e7 w7 ⟨rfl,j7,rfl⟩;simp only [])
 obtain ⟨W,hWd⟩:∃ W,W=w.drewN j7:=⟨_,rfl⟩
 have bW:Below w.heap.size w W:=by rw [hWd];exact below_drewN (Below.refl _ _) _
 have SW:=hide ((unhide HS).later bW)
 have CW:Hid (Chg Z w W):=Chg.of_below bW
 rw [← hWd]
 clear hWd bW QL
 have w00:wlI wl a p q 0=wl:=by funext x;unfold wlI;simp
 go_loopw [5,13] (fun _ i wr=>WatRel Z sb w K f X n wl a p q i wr) (fun _ i _=>2 - (intOf i).toNat)
 case atStart=>exact ⟨0,rfl,by omega,V,X,unhide SW,by rw [w00];exact unhide HW,fun _ _ _=>rfl,unhide CW⟩
 case round=>
  obtain ⟨i,rfl,hi2,V',X',hst⟩:=hrel
  clear SW CW w00
  by_cases hlt:i < 2
  ·have il:(i:Int) < 2:=by omega
   have i00:(0:Int) ≤ (i:Int):=by omega
   obtain ⟨x,hx⟩:∃ x,x=if i=0 then p else q:=⟨_,rfl⟩
   have hx2:x < 2 * n:=by rw [hx];split <;> assumption
   have hcx:=unhide CLS wr V' X' (unhide hst).1 ((unhide hst).2.2.1 0 (by decide) (by decide)) i hlt
   rw [← hx] at hcx
   have hwx:=(unhide hst).2.1
   obtain ⟨g9,c9,wa,wc,ev9,evx,q5,qx,zx,l9,n9,z9,ox⟩:=hwx.at' (unhide hst).1 hK2 hx2
   have wll:(wlI wl a p q i x).length ≤ 1099511627777:=by
    have:=hwl x hx2
    unfold wlI;split
    ·simp;omega
    ·omega
   have NX:=hide (wlI_step (wl:=wl) (a:=a) hpq hlt hx)
   have PW:=hide (fun v'=>hwx.push hx2 a v')
   rw [unhide NX] at PW
   have X0:(0:Int) ≤ (x:Int):=by omega
   have X1:(x:Int) < 2 * (n:Int):=by omega
   have SD:Hid (Sol Z sb wr.drew K f V' X'):=(unhide hst).1.later (Below.refl _ _).drew
   have OD:Hid (wr.drew.ownsRow 0 3 1 (.slice wa (wlI wl a p q i x).length wc) (wlI wl a p q i x).length (nats (wlI wl a p q i x))):=ox
   have BD:Hid (Chg Z w wr.drew):=(unhide hst).2.2.2.drew
   have RX:Hid (X' (16 + x)=nats (wlI wl a p q i x)):=hwx.row x hx2
   have LX:Hid ((X' 9).length=2 * n):=hwx.n9
   have HX9:Hid ((X' 9)[x]? = some (.slice wa (wlI wl a p q i x).length wc)):=by unfold Hid;rw [hwx.hd x hx2,evx]
   have E9:=hide ev9
   have HF5:Hid (f 5=.slice (some ⟨g9,0,none⟩) (2 * n) c9):=((unhide hst).1.hdr 9 (by omega)).trans ev9
   have EX:=hide evx
   have OW:=hide (unhide hst).2.2.1
   have hK16:16 + x < K:=by omega
   have hsbr:=(unhide hst).1.row.lt
   have ns:¬ (sb=wr.heap.size):=by omega
   have ns9:¬ (g9=wr.heap.size):=by omega
   clear hwx ev9 evx ox hx
   go_upto_region 3 with fail
   go_region_law
    (refine step_append_any _ (by rfl) _ _ 43 (by rfl) 0 3 i0 (.int .i64 0) 1 8 Tryz.underlying43 hi hz0 hz1 hz2 (by rfl) (by decide) (.slice wa (wlI wl a p q i x).length wc) (wlI wl a p q i x).length (nats (wlI wl a p q i x)) (by rfl) ((unhide OD).alloc (Obj.cells #[.int .i64 (a:Int)] 3)) (.slice (some ⟨wr.heap.size,0,none⟩) 1 1) 1 [.int .i64 (a:Int)] (by rfl) (.inr ⟨⟨wr.heap.size,0,none⟩,1,rfl,(cell_one_new wr.drew _ _)⟩) (by rfl) (by simp [Value.oneCell']) (by unfold maxLen;omega) (by omega) (Nat.zero_le _) ?_;intro v6 w6 A6;have A7:Appended (wr.drew.alloc (Obj.cells #[.int .i64 (a:Int)] 3)) 0 3 1 (V' (16 + x)) (X' (16 + x)).length (X' (16 + x)) 1 [.int .i64 (a:Int)] v6 w6:=(by rw [unhide EX,unhide RX,nats_len];exact A6);have S6:=hide ((unhide SD).pushW hK16 (unhide E9) (m:=1) (news:=[.int .i64 (a:Int)]) rfl A7);have K6:=((unhide SD).headAppW hK16 (unhide E9) (by rw [unhide LX];exact hx2) A7);rw [unhide HX9] at K6;obtain ⟨k61,k62,k63⟩:=K6;have k64:=k61 5 (by omega);rw [unhide HF5] at k64;obtain ⟨va6,vc6,hv6⟩:=own_shape A6.own;subst hv6;clear A6 A7 k61)
   all_goals
    have FIN:Hid (WatRel Z sb w K f X n wl a p q (.int .i64 ((i + 1:Nat):Int)) (w6.setCell ⟨g9,x,none⟩ (.slice va6 ((wlI wl a p q i x).length + 1) vc6))):=⟨i + 1,rfl,by omega,_,_,(unhide S6).1,unhide PW _,fun k h1 h2=>by rw [upd_other _ _ h1,upd_other _ _ (by omega)];exact unhide OW k h1 h2,(unhide BD).trans (unhide S6).2⟩
    clear S6
    go_wp2
    go_roundw
    case rel=>exact unhide FIN
    case measure=>simp [intOf];omega
  ·have ei:i=2:=by omega
   subst ei
   go_wp2
   go_end0
   exact ⟨rfl,(unhide hst).2.2.2,V',X',(unhide hst).1,(unhide hst).2.1,(unhide hst).2.2.1⟩
end So
end Go.Proofs.YtceahffmenbibaaGreatDoor
