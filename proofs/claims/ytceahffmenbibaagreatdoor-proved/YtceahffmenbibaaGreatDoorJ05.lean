/- Shea Sord Shw1 Swat Swot. -/
import Derived.Test.YtceahffmenbibaaGreatDoorJ03
import Derived.Test.YtceahffmenbibaaGreatDoorJ04
import Derived.Test.YtceahffmenbibaaGreatDoorJ01
import Derived.Deep.RegionLaw
import Derived.Deep.DrawnRows
set_option linter.unusedVariables false
set_option linter.unusedSimpArgs false
set_option maxHeartbeats 4000000
set_option maxRecDepth 100000
namespace Go.Proofs.YtceahffmenbibaaGreatDoor
namespace So
section
structure Dg (n:Nat) (items:List Nat) (pl:Nat->Int):Prop where
 lt:∀ v ∈ items,v < n
 at':∀ v,v < n->pl v=-1\/∃ i:Nat,pl v=i/\items[i]? = some v
 pl:∀ i (h:i < items.length),pl items[i]=(i:Nat)
structure OT (n:Nat) (item hole:Nat) (items:List Nat) (pl:Nat->Int):Prop where
 lt:∀ v ∈ items,v < n
 hit:item < n
 hho:hole < items.length
 at':∀ v,v < n->v ≠ item->pl v=-1\/∃ i:Nat,pl v=i/\i ≠ hole/\items[i]? = some v
 pl:∀ i (h:i < items.length),i ≠ hole->items[i] ≠ item/\pl items[i]=(i:Nat)
variable {n:Nat} {items:List Nat} {pl:Nat->Int} {item hole:Nat}
theorem Dg.open (h:Dg n items pl) {i:Nat} (c:i < items.length):OT n items[i] i items pl where
 lt:=h.lt
 hit:=h.lt _ (List.getElem_mem c)
 hho:=c
 at':=fun v l a=>by
  rcases h.at' v l with b | ⟨j,b,d⟩
  ·exact .inl b
  ·refine .inr ⟨j,b,fun e=>?_,d⟩;subst e;rw [List.getElem?_eq_getElem c] at d;exact a (Option.some.inj d).symm
 pl:=fun j k a=>by
  refine ⟨fun e=>a ?_,h.pl j k⟩;have b:=h.pl j k;rw [e,h.pl i c] at b;omega
theorem OT.move (h:OT n item hole items pl) {k:Nat} (c:k < items.length) (b:k ≠ hole):OT n item k (items.set hole items[k]) (eu pl items[k] (hole:Nat)) where
 lt:=fun v l=>by
  rcases List.mem_or_eq_of_mem_set l with a | a
  ·exact h.lt v a
  ·subst a;exact h.lt _ (List.getElem_mem c)
 hit:=h.hit
 hho:=by simpa using c
 at':=fun v l i=>by
  by_cases e:v=items[k]
  ·subst e;rw [dx];exact .inr ⟨hole,rfl,fun e=>b e.symm,by rw [List.getElem?_set_self h.hho]⟩
  ·rw [dm _ _ e]
   rcases h.at' v l i with a | ⟨j,a,d,o⟩
   ·exact .inl a
   ·refine .inr ⟨j,a,fun p=>?_,?_⟩
    ·subst p;rw [List.getElem?_eq_getElem c] at o;exact e (Option.some.inj o).symm
    ·rw [List.getElem?_set_ne (fun e=>d e.symm)];exact o
 pl:=fun j r q=>by
  have m:j < items.length:=by simpa using r
  by_cases e:j=hole
  ·subst e;rw [List.getElem_set_self];exact ⟨(h.pl k c b).1,dx ..⟩
  ·rw [List.getElem_set_ne (fun p=>e p.symm)];obtain ⟨a,d⟩:=h.pl j m e;refine ⟨a,?_⟩;have:items[j] ≠ items[k]:=fun t=>by
    have s:=(h.pl k c b).2;rw [<- t,d] at s;omega
   rw [dm _ _ this];exact d
theorem OT.close (h:OT n item hole items pl):Dg n (items.set hole item) (eu pl item (hole:Nat)) where
 lt:=fun v b=>by
  rcases List.mem_or_eq_of_mem_set b with a | a
  ·exact h.lt v a
  ·subst a;exact h.hit
 at':=fun v b=>by
  by_cases e:v=item
  ·subst e;exact .inr ⟨hole,dx ..,by rw [List.getElem?_set_self h.hho]⟩
  ·rw [dm _ _ e]
   rcases h.at' v b e with a | ⟨j,a,d,k⟩
   ·exact .inl a
   ·exact .inr ⟨j,a,by rw [List.getElem?_set_ne (fun e=>d e.symm)];exact k⟩
 pl:=fun j i=>by
  have c:j < items.length:=by simpa using i
  by_cases e:j=hole
  ·subst e;rw [List.getElem_set_self];exact dx ..
  ·rw [List.getElem_set_ne (fun l=>e l.symm)];obtain ⟨a,d⟩:=h.pl j c e;rw [dm _ _ a];exact d
theorem Dg.push (h:Dg n items pl) {v:Nat} (k:v < n) (m:pl v=-1):OT n v items.length (items ++ [v]) pl where
 lt:=fun x c=>by
  rcases List.mem_append.1 c with a | a
  ·exact h.lt x a
  ·simp at a;subst a;exact k
 hit:=k
 hho:=by simp
 at':=fun x c d=>by
  rcases h.at' x c with a | ⟨j,a,l⟩
  ·exact .inl a
  ·have i:=(List.getElem?_eq_some_iff.1 l).1;exact .inr ⟨j,a,by omega,by rw [List.getElem?_append_left i];exact l⟩
 pl:=fun j i d=>by
  have b:j < items.length:=by simp at i;omega
  rw [List.getElem_append_left b];refine ⟨fun e=>?_,h.pl j b⟩;have:=h.pl j b;rw [e,m] at this;omega
theorem Dg.pop (h:Dg n items pl) {l:Nat} (B:items.length=l + 2) {first:Nat} (y:items[0]? = some first) {last:Nat} (o:items[l + 1]? = some last):OT n last 0 (items.take (l + 1)) (eu pl first (-1)):=by
 obtain ⟨z,u⟩:=List.getElem?_eq_some_iff.1 y;obtain ⟨s,q⟩:=List.getElem?_eq_some_iff.1 o;have d:∀ j (i:j < items.length) k (r:k < items.length),items[j]=items[k]->j=k:=fun j i k r e=>by
  have a:=h.pl j i;rw [e,h.pl k r] at a;omega
 exact {
  lt:=fun v m=>h.lt v (List.mem_of_mem_take m)
  hit:=by rw [<- q];exact h.lt _ (List.getElem_mem s)
  hho:=by rw [List.length_take];omega
  at':=fun v m b=>by
   by_cases e:v=first
   ·subst e;exact .inl (dx ..)
   ·rw [dm _ _ e]
    rcases h.at' v m with g1 | ⟨j,g1,g2⟩
    ·exact .inl g1
    ·obtain ⟨i,t⟩:=List.getElem?_eq_some_iff.1 g2;have x:j ≠ 0:=fun p=>by subst p;exact e (by rw [<- t,u])
     have A:j ≠ l + 1:=fun p=>by subst p;exact b (by rw [<- t,q])
     exact .inr ⟨j,g1,x,by rw [List.getElem?_take,if_pos (by omega)];exact g2⟩
  pl:=fun j i b=>by
   rw [List.length_take] at i;have c:j < items.length:=by omega
   rw [List.getElem_take];refine ⟨fun e=>?_,?_⟩
   ·rw [<- q] at e;have:=d j c (l + 1) s e;omega
   ·have:items[j] ≠ first:=fun e=>b (d j c 0 z (by rw [e,u]))
    rw [dm _ _ this];exact h.pl j c }
theorem Dg.Tm (h:Dg n items pl) (d:items.length=1) {first:Nat} (c:items[0]? = some first):Dg n (items.take 0) (eu pl first (-1)) where
 lt:=fun v a=>by simp at a
 at':=fun v a=>by
  by_cases e:v=first
  ·subst e;exact .inl (dx ..)
  ·rw [dm _ _ e]
   rcases h.at' v a with g1 | ⟨j,g1,g2⟩
   ·exact .inl g1
   ·obtain ⟨k,l⟩:=List.getElem?_eq_some_iff.1 g2;have:j=0:=by omega
    subst this;rw [c] at g2;exact absurd (Option.some.inj g2).symm e
 pl:=fun i b=>by simp at b
theorem iP:∀ (n:Nat) (l:List Nat),l.Nodup->(∀ v ∈ l,v < n)->l.length <= n
 | 0,l,_,h=>by
  cases l with
  | nil=>simp
  | cons a r=>have:=h a (List.mem_cons_self ..);omega
 | n + 1,l,hn,h=>by
  by_cases e:n ∈ l
  ·have d:(l.erase n).length <= n:=iP n (l.erase n) (hn.erase n) fun v b=>by
    have c:=(hn.mem_erase_iff).1 b;have:=h v c.2;have:=c.1;omega
   rw [List.length_erase_of_mem e] at d;omega
  ·have d:l.length <= n:=iP n l hn fun v b=>by
    have:=h v b;have:v ≠ n:=fun i=>e (i ▸ b)
    omega
   omega
theorem Dg.len (h:Dg n items pl):items.length <= n:=by
 have nd:items.Nodup:=by
  refine List.pairwise_iff_getElem.2 fun i j d b c e=>?_
  have a:=h.pl i d;rw [e,h.pl j b] at a;omega
 exact iP n items nd h.lt
theorem Dg.empty (h:Dg n items pl) (d:items.length=0) {v:Nat} (c:v < n):pl v=-1:=by
 rcases h.at' v c with b | ⟨j,b,a⟩
 ·exact b
 ·rw [List.getElem?_eq_none (by omega)] at a;cases a
end
section
open Go Go.RowKit Go.Deep Rd
section
def Ee (k:Nat):TypeId:=if k=1 then 2 else 3
theorem IL (k:Nat):Ee k ≠ 193/\Ee k ≠ 224:=by unfold Ee;split <;> decide
abbrev ahead (ob:Nat):Value:=.func (.func 126) #[.pointer (some ⟨ob,0,none⟩)] #[]
abbrev placed (ob:Nat):Value:=.func (.func 127) #[.pointer (some ⟨ob,0,none⟩)] #[]
def MG (hb:Nat) (V:Nat->Value) (wt:Int) (j:Nat):Value:=if j=0 then .pointer (some ⟨hb,0,none⟩) else if j=1 then V 0 else if j=2 then V 1 else .int .i64 wt
def Re (ob:Nat) (V:Nat->Value) (j:Nat):Value:=if j=0 then V 2 else if j=1 then ahead ob else placed ob
structure Ord (Z:Nat->Prop) (ob hb:Nat) (w:World) (wt:Int) (V:Nat->Value) (X:Nat->List Value):Prop where
 jD:w.rowIs ob 193 4 (MG hb V wt)
 hrow:w.rowIs hb 224 3 (Re ob V)
 fG:rQ 0 w 3 Ee V X
 zo:Z ob
 zh:Z hb
 al:∀ k,k < 3->∀ g,(V k).ownBlock=some g->Z g
 az:∀ g,w.heap.size <= g->Z g
variable {Z:Nat->Prop} {ob hb:Nat} {w w':World} {wt:Int} {V:Nat->Value} {X:Nat->List Value}
theorem Ord.far (h:Ord Z ob hb w wt V X) {k:Nat} (l:k < 3):∀ g,(V k).ownBlock=some g->g ≠ ob/\g ≠ hb:=fun g b=>by
 obtain ⟨c,j,_⟩:=h.jD;obtain ⟨q,d,_⟩:=h.hrow
 rcases (h.fG.own k l).2 with ⟨i,_⟩ | ⟨m,p,o,i,_,a,_⟩
 ·rw [i] at b;cases b
 ·rw [i] at b;obtain rfl:m=g:=Option.some.inj b;refine ⟨fun e=>?_,fun e=>?_⟩
  ·rw [e,j] at a;exact (IL k).1 (Obj.cells.inj (Option.some.inj a)).2.1.symm
  ·rw [e,d] at a;exact (IL k).2 (Obj.cells.inj (Option.some.inj a)).2.1.symm
theorem Ord.two (h:Ord Z ob hb w wt V X):ob ≠ hb:=fun e=>by
 obtain ⟨c,b,_⟩:=h.jD;obtain ⟨d,a,_⟩:=h.hrow;rw [e,a] at b;have:=(Obj.cells.inj (Option.some.inj b)).2.1;exact absurd this (by decide)
theorem Ord.later (h:Ord Z ob hb w wt V X) (a:Below w.heap.size w w'):Ord Z ob hb w' wt V X:=
 ⟨h.jD.of_block (a.block _ h.jD.lt),h.hrow.of_block (a.block _ h.hrow.lt),h.fG.later a,h.zo,h.zh,h.al,fun g b=>h.az g (Nat.le_trans a.size b)⟩
theorem Ord.kept (h:Ord Z ob hb w wt V X) {Z':Nat->Prop} (b:dD Z' w w') (i:¬ Z' ob) (e:¬ Z' hb) (d:∀ k,k < 3->∀ g,(V k).ownBlock=some g->¬ Z' g):Ord Z ob hb w' wt V X:=
 ⟨h.jD.of_block (b.block _ h.jD.lt i),h.hrow.of_block (b.block _ h.hrow.lt e),h.fG.kept fun k g c a=>b.block g ((h.fG.own k c).lt g a).2 (d k c g a),h.zo,h.zh,h.al,fun g a=>h.az g (Nat.le_trans b.size a)⟩
theorem Ord.set (h:Ord Z ob hb w wt V X) {k:Nat} (b:k < 3) {g n cap:Nat} (a:V k=.slice (some ⟨g,0,none⟩) n cap) (j:Nat) (u:Value):Ord Z ob hb (w.setCell ⟨g,j,none⟩ u) wt V (upd X k ((X k).set j u))/\dD Z w (w.setCell ⟨g,j,none⟩ u):=by
 obtain ⟨d,c⟩:=h.far b g (by rw [a];rfl);exact ⟨⟨h.jD.of_block (Below.heap_setCell _ _ _ _ (fun e=>d e.symm)),h.hrow.of_block (Below.heap_setCell _ _ _ _ (fun e=>c e.symm)),h.fG.set b a j u,h.zo,h.zh,h.al,fun g i=>h.az g (by simpa [World.setCell] using i)⟩,(dD.refl w).setCell (h.al k b g (by rw [a];rfl)) _⟩
theorem Ord.weight (h:Ord Z ob hb w wt V X) (t:Int):Ord Z ob hb (w.setCell ⟨ob,3,none⟩ (.int .i64 t)) t V X/\dD Z w (w.setCell ⟨ob,3,none⟩ (.int .i64 t)):=
 ⟨⟨(h.jD.set 3 (.int .i64 t)).congr fun i c=>by
   unfold MG;by_cases e:i=3
   ·subst e;simp
   ·have:i=0\/i=1\/i=2:=by omega
    rcases this with rfl | rfl | rfl <;> simp,
  h.hrow.of_block (Below.heap_setCell _ _ _ _ (fun e=>h.two e.symm)),
  h.fG.kept fun k g b a=>Below.heap_setCell _ _ _ _ (by simpa using (h.far b g a).1),h.zo,h.zh,h.al,fun g a=>h.az g (by simpa [World.setCell] using a)⟩,(dD.refl w).setCell h.zo _⟩
theorem Ord.header {w6:World} {b:Nat->Value} {X':Nat->List Value} {v':Value} (h:Ord Z ob hb w wt V X) (l:w6.rowIs ob 193 4 (MG hb V wt)) (p:w6.rowIs hb 224 3 (Re ob V)) (q:rQ 0 w6 3 Ee b X') (e:b=upd V 2 v') (a:∀ k,k < 3->∀ g,(b k).ownBlock=some g->g ≠ hb) (j:w.heap.size <= w6.heap.size) (d:∀ k,k < 3->∀ g,(b k).ownBlock=some g->Z g):
  Ord Z ob hb (w6.setCell ⟨hb,0,none⟩ v') wt b X':=
 ⟨(l.of_block (Below.heap_setCell _ _ _ _ (by simpa using h.two))).congr fun i o=>by
   rw [e];unfold MG;have:i=0\/i=1\/i=2\/i=3:=by omega
   rcases this with rfl | rfl | rfl | rfl <;> simp [upd],
  (p.set 0 v').congr fun i o=>by
   rw [e];unfold Re;have:i=0\/i=1\/i=2:=by omega
   rcases this with rfl | rfl | rfl <;> simp [upd],
  q.kept fun k g m c=>Below.heap_setCell _ _ _ _ (by simpa using a k m g c),h.zo,h.zh,d,fun g c=>h.az g (by simp [World.setCell] at c;omega)⟩
theorem Ord.push (h:Ord Z ob hb w wt V X) {obj:Obj} {v':Value} {w6:World} {m:Nat} {news:List Value} (p:news.length=m) (A:dz (w.alloc obj) 0 3 1 (V 2) (X 2).length (X 2) m news v' w6):
  Ord Z ob hb (w6.setCell ⟨hb,0,none⟩ v') wt (upd V 2 v') (upd X 2 (X 2 ++ news))/\dD Z w (w6.setCell ⟨hb,0,none⟩ v')/\w6.cell? ⟨hb,0,none⟩=some (V 2)/\w6.frozen? ⟨hb,0,none⟩=false:=by
 have b:=h.later ((Below.refl _ w).alloc lr obj);rw [show (3:TypeId)=Ee 2 from rfl] at A;have l:=b.far (k:=2) (by omega);have o:=b.jD.of_block (A.grew.block ob b.jD.lt (fun e=>(l ob e.symm).1 rfl));have j:=b.hrow.of_block (A.grew.block hb b.hrow.lt (fun e=>(l hb e.symm).2 rfl));refine ⟨h.header o j (b.fG.push (by omega) p A) rfl (fun k d g a=>?_) (by have:=A.grew.size;simp at this;omega) (fun k d g a=>?_),(((dD.refl w).alloc obj).grown A.grew (fun g a=>h.al 2 (by omega) g a)).setCell h.zh _,j.cell (i:=0) (by omega),j.frozen 0⟩
 ·by_cases e:k=2
  ·subst e;rw [cK] at a
   rcases A.at' with c | c
   ·rw [c] at a;exact (b.far d g a).2
   ·rw [c] at a;have:=Option.some.inj a;have:=b.hrow.lt;omega
  ·rw [cu _ _ e] at a;exact (b.far d g a).2
 ·by_cases e:k=2
  ·subst e;rw [cK] at a
   rcases A.at' with c | c
   ·rw [c] at a;exact h.al 2 d g a
   ·rw [c] at a;have:=Option.some.inj a;exact h.az g (by simp at this;omega)
  ·rw [cu _ _ e] at a;exact h.al k d g a
theorem Ord.cut (h:Ord Z ob hb w wt V X) {a:Option Addr} {n cap m:Nat} (j:V 2=.slice a n cap) (k:m <= (X 2).length):Ord Z ob hb (w.setCell ⟨hb,0,none⟩ (.slice a m cap)) wt (upd V 2 (.slice a m cap)) (upd X 2 ((X 2).take m))/\dD Z w (w.setCell ⟨hb,0,none⟩ (.slice a m cap)):=by
 have c:∀ i g,(upd V 2 (.slice a m cap) i).ownBlock=some g->(V i).ownBlock=some g:=fun i g b=>by
  by_cases e:i=2
  ·subst e;rw [cK] at b;rw [j];cases a <;> exact b
  ·rw [cu _ _ e] at b;exact b
 exact ⟨h.header h.jD h.hrow (h.fG.cut (by omega) j k) rfl (fun i d g b=>(h.far d g (c i g b)).2) lr (fun i d g b=>h.al i d g (c i g b)),(dD.refl w).setCell h.zh _⟩
theorem Ord.elem (h:Ord Z ob hb w wt V X) {k j n:Nat} (b:k < 3) (m:(X k).length=n) (c:j < n):∃ g a t,V k=.slice (some ⟨g,0,none⟩) n a/\w.cell? ⟨g,j,none⟩=some t/\(X k)[j]? = some t/\w.frozen? ⟨g,j,none⟩=false/\Z g/\g < w.heap.size/\g ≠ ob/\g ≠ hb:=by
 subst m;obtain ⟨g,a,p,e,o,r,s⟩:=h.fG.block b (by omega);obtain ⟨d,q⟩:=h.fG.cell b e c;rw [List.getElem?_eq_getElem c] at d;obtain ⟨l,i⟩:=h.far b g (by rw [e];rfl);exact ⟨g,a,(X k)[j],e,d,List.getElem?_eq_getElem c,q,h.al k b g (by rw [e];rfl),((h.fG.own k b).lt g (by rw [e];rfl)).2,l,i⟩
theorem Ord.cells (h:Ord Z ob hb w wt V X):w.cell? ⟨ob,0,none⟩=some (.pointer (some ⟨hb,0,none⟩))/\w.cell? ⟨ob,1,none⟩=some (V 0)/\w.cell? ⟨ob,2,none⟩=some (V 1)/\w.cell? ⟨ob,3,none⟩=some (.int .i64 wt)/\w.cell? ⟨hb,0,none⟩=some (V 2)/\w.cell? ⟨hb,1,none⟩=some (ahead ob)/\w.cell? ⟨hb,2,none⟩=some (placed ob)/\w.frozen? ⟨hb,0,none⟩=false/\w.frozen? ⟨ob,3,none⟩=false:=
 ⟨h.jD.cell (i:=0) (by omega),h.jD.cell (i:=1) (by omega),h.jD.cell (i:=2) (by omega),h.jD.cell (i:=3) (by omega),h.hrow.cell (i:=0) (by omega),h.hrow.cell (i:=1) (by omega),h.hrow.cell (i:=2) (by omega),h.hrow.frozen 0,h.jD.frozen 3⟩
structure nU (n g:Nat) (X:Nat->List Value) (items:List Nat) (pl bz:Nat->Int):Prop where
 n0:(X 0).length=n
 t0:∀ v,v < n->v ≠ g->(X 0)[v]? = some (.int .i64 (pl v))
 i0:∀ v,v < n->∃ t:Int,(X 0)[v]? = some (.int .i64 t)
 n1:(X 1).length=n
 t1:∀ v,v < n->(X 1)[v]? = some (.int .i64 (bz v))
 t2:X 2=dC items
variable {n g:Nat} {items:List Nat} {pl bz:Nat->Int}
theorem nU.put (h:nU n g X items pl bz) {v p:Nat} (d:v < n) (i:v ≠ g):nU n g (upd (upd X 2 ((X 2).set p (.int .i64 (v:Nat)))) 0 ((X 0).set v (.int .i64 (p:Nat)))) (items.set p v) (eu pl v (p:Nat)) bz where
 n0:=by rw [cK,List.length_set];exact h.n0
 t0:=fun x a b=>by
  rw [cK];by_cases e:x=v
  ·subst e;rw [List.getElem?_set_self (by rw [h.n0];exact a),dx]
  ·rw [List.getElem?_set_ne (fun c=>e c.symm),dm _ _ e];exact h.t0 x a b
 i0:=fun x a=>by
  rw [cK];by_cases e:x=v
  ·subst e;exact ⟨_,List.getElem?_set_self (by rw [h.n0];exact a)⟩
  ·rw [List.getElem?_set_ne (fun c=>e c.symm)];exact h.i0 x a
 n1:=by rw [cu _ _ (by decide),cu _ _ (by decide)];exact h.n1
 t1:=by rw [cu _ _ (by decide),cu _ _ (by decide)];exact h.t1
 t2:=by rw [cu _ _ (by decide),cK,h.t2,oI]
end
section
variable {Z:Nat->Prop} {ob hb:Nat} {w w':World} {wt:Int} {V:Nat->Value} {X:Nat->List Value} {n g:Nat} {items:List Nat} {pl bz:Nat->Int}
theorem nU.busy (d:nU n g X items pl bz) (h:Ord Z ob hb w wt V X) {a:Nat} (c:a < n):∃ g1 b,w.cell? ⟨ob,2,none⟩=some (.slice (some ⟨g1,0,none⟩) n b)/\w.cell? ⟨g1,a,none⟩=some (.int .i64 (bz a)):=by
 obtain ⟨g1,b,t,e,r,s,_⟩:=h.elem (k:=1) (j:=a) (by omega) d.n1 c;rw [d.t1 a c] at s;obtain rfl:=Option.some.inj s;have:=h.cells.2.2.1;rw [e] at this;exact ⟨g1,b,this,r⟩
theorem lZ (h:Ord Z ob hb w wt V X) (i:nU n g X items pl bz) {a b:Nat} (o:a < n) (d:b < n):
  Calls Tryz.prog 126 #[.pointer (some ⟨ob,0,none⟩),.int .i64 (a:Nat),.int .i64 (b:Nat)] w fun e w'=>e=.returned (.bool (decide (bz b < bz a)))/\∃ k,w'=w.drewN k:=by
 obtain ⟨g1,t,m,s⟩:=i.busy h o;obtain ⟨j,q,c,r⟩:=i.busy h d;rw [m] at c;obtain ⟨l,_,p⟩:=Value.slice.inj (Option.some.inj c);obtain rfl:g1=j:=by have:=Option.some.inj l;exact congrArg Addr.block this
 subst p;have y:(0:Int) <= (a:Int):=by omega
 have x:(a:Int) < (n:Int):=by omega
 have v:(0:Int) <= (b:Int):=by omega
 have u:(b:Int) < (n:Int):=by omega
 clear h i c l;go_enter Tryz.func126,Tryz.ntmps126
 go_upto_region 1 with fail
 go_quiet (fail)
 go_wp2;go_ret
 exact ⟨rfl,_,rfl⟩
theorem tK (h:Ord Z ob hb w wt V X) (a:nU n g X items pl bz) {v:Nat} (p:Int) (b:v < n):
  Calls Tryz.prog 127 #[.pointer (some ⟨ob,0,none⟩),.int .i64 (v:Nat),.int .i64 p] w fun e w'=>e=.returned (.tuple #[])/\Ord Z ob hb w' wt V (upd X 0 ((X 0).set v (.int .i64 p)))/\dD Z w w':=by
 obtain ⟨i,l,t,e,r,s,z,_⟩:=h.elem (k:=0) (j:=v) (by omega) a.n0 b;have q:=h.cells.2.1;rw [e] at q;have F:=hide (h.set (k:=0) (by omega) e v (.int .i64 p));have d:(0:Int) <= (v:Int):=by omega
 have c:(v:Int) < (n:Int):=by omega
 clear h a e s;go_enter Tryz.func127,Tryz.ntmps127
 go_wp2;go_end0
 exact ⟨rfl,F.out.1,F.out.2⟩
theorem ru (h:Ord Z ob hb w wt V X) (a:nU n g X items pl bz) {v p:Nat} (u:v < n) (x:p < items.length):
  Calls Tryz.prog 203 #[.pointer (some ⟨hb,0,none⟩),.int .i64 (p:Nat),.int .i64 (v:Nat)] w fun e w'=>e=.returned (.tuple #[])/\Ord Z ob hb w' wt V (upd (upd X 2 ((X 2).set p (.int .i64 (v:Nat)))) 0 ((X 0).set v (.int .i64 (p:Nat))))/\dD Z w w':=by
 have i:(X 2).length=items.length:=by rw [a.t2,dh]
 obtain ⟨g2,H,t,e,r,s,z,_⟩:=h.elem (k:=2) (j:=p) (by omega) i x;have q:=h.cells.2.2.2.2.1;rw [e] at q;have F:=hide (h.set (k:=2) (by omega) e p (.int .i64 (v:Nat)));have o:=F.out.1.cells.2.2.2.2.2.2.1;have l:nU n g (upd X 2 ((X 2).set p (.int .i64 (v:Nat)))) (items.set p v) pl bz:=⟨by rw [cu _ _ (by decide)];exact a.n0,by rw [cu _ _ (by decide)];exact a.t0,by rw [cu _ _ (by decide)];exact a.i0,by rw [cu _ _ (by decide)];exact a.n1,by rw [cu _ _ (by decide)];exact a.t1,by rw [cK,a.t2,oI]⟩;have d:=hide (tK F.out.1 l (p:Nat) u);rw [cu _ _ (by decide)] at d;have D:(0:Int) <= (p:Int):=by omega
 have p1:(p:Int) < (items.length:Int):=by omega
 have m:=hide F.out.2;generalize E:w.setCell ⟨g2,p,none⟩ (.int .i64 (v:Nat))=I at d o m;clear F h a e s l i;go_enter Tryz.func203,Tryz.ntmps203
 go_upto_region 1 with fail
 go_wp2_with (go_at_call 127;refine d.out.mono ?_;rintro G C ⟨rfl,b,c⟩;have y:=hide b;have B:=hide c;clear b c;simp only [])
 go_end0
 exact ⟨rfl,y.out,m.out.trans B.out⟩
end
section
variable {Z:Nat->Prop} {sb K:Nat} {w w':World} {f V:Nat->Value} {X:Nat->List Value} {n:Nat} {wl:Nat->List Nat}
def Sw (X X':Nat->List Value):Prop:=∀ k,k ≠ 9->k < 16->X' k=X k
def wm (wl:Nat->List Nat) (a p q:Nat) (i:Nat) (x:Nat):List Nat:=if (x=p/\1 <= i)\/(x=q/\2 <= i) then wl x ++ [a] else wl x
def Ov (Z:Nat->Prop) (sb:Nat) (w:World) (K:Nat) (f:Nat->Value) (X:Nat->List Value) (n:Nat) (wl:Nat->List Nat) (a p q:Nat) (i13:Value) (wr:World):Prop:=
 ∃ i:Nat,i13=.int .i64 i/\i <= 2/\∃ V' X',Hid (dX Z sb wr K f V' X'/\qh n V' X' (wm wl a p q i)/\Sw X X'/\dD Z w wr)
theorem Lm {a p q:Nat} (c:p ≠ q) {i:Nat} (d:i < 2) {x:Nat} (b:x=if i=0 then p else q):(fun y=>if y=x then wm wl a p q i y ++ [a] else wm wl a p q i y)=wm wl a p q (i + 1):=by
 funext y
 unfold wm
 rcases (show i=0\/i=1 by omega) with rfl | rfl
 ·simp only [if_true] at b;subst b;by_cases e:y=x
  ·subst e;simp
  ·simp [e]
 ·simp only [Nat.one_ne_zero,if_false] at b;subst b;by_cases e:y=x
  ·subst e;have:y ≠ p:=fun e=>c e.symm
   simp [this]
  ·simp [e]
theorem zS {cs:List Rec} {k p q:Nat} {r:List Nat} (h:dX Z sb w K f V X) (ac:K=16 + 2 * n) (G:X 0=ints (enc cs)) (I:k < cs.length) (H:(cs[k]).lits=p :: q :: r) (aa:p ≠ q) (hp:p < 2 * n) (hq:q < 2 * n) (hn:n <= 50) (hN:(enc cs).length <= 1099511627776) (hW:qh n V X wl) (S:∀ x,x < 2 * n->(wl x).length <= 1099511627776):
  Calls Tryz.prog 133 #[.pointer (some ⟨sb,0,none⟩),.int .i64 (dU cs k:Nat)] w fun e w'=>e=.returned (.tuple #[])/\dD Z w w'/\∃ s d,dX Z sb w' K f s d/\qh n s d (wm wl (dU cs k) p q 2)/\Sw X d:=by
 obtain ⟨i0,hi,R,Q,P⟩:=info_parts Tryz.gB;obtain ⟨g,c,e0,q0,hc,lg,ng,zg,r0,-,-,-,-⟩:=mU h G I;have aj:=kH I;have HS:=hide h;have HW:=hide hW;have m2:2 <= (cs[k]).lits.length:=by rw [H];simp
 have c0:=wO I (i:=0) (by omega);have c1:=wO I (i:=1) (by omega);rw [show (cs[k]).lits[0]'(by omega)=p by simp [H]] at c0;rw [show (cs[k]).lits[1]'(by omega)=q by simp [H]] at c1;have J:Hid (∀ Y:World,Y.heap=w.heap->Calls Tryz.prog 175 #[.pointer (some ⟨sb,2,none⟩),.int .i64 (dU cs k:Nat)] Y fun e w'=>e=.returned (jM g (dU cs k) (cs[k]).lits.length c)/\∃ j,w'=Y.drewN j):=fun Y hY=>ky sb 2 g (enc cs).length c (dU cs k) (cs[k]).lits.length Y (by rw [show Y.cell? ⟨sb,2,none⟩=w.cell? ⟨sb,2,none⟩ from World.cell?_of_block (a:=⟨sb,2,none⟩) (by rw [hY])];exact q0) (by omega) (by unfold maxLen;omega) hc (by rw [show Y.cell? ⟨g,dU cs k,none⟩=w.cell? ⟨g,dU cs k,none⟩ from World.cell?_of_block (a:=⟨g,dU cs k,none⟩) (by rw [hY])];exact r0)
 have nc:¬ (c=dU cs k + 3):=by omega
 unfold jM at J;rw [if_neg nc] at J;have am:(2:Int) <= ((c - (dU cs k + 3):Nat):Int):=by omega
 clear r0 q0;generalize dU cs k=a at *
 generalize (cs[k]).lits.length=m at *
 generalize enc cs=ec at *
 clear H;have ah:Hid (∀ wr s d,dX Z sb wr K f s d->d 0=X 0->∀ i,i < 2->wr.cell? ⟨g,a + 3 + i,none⟩=some (.int .i64 ((if i=0 then p else q:Nat):Int))):=fun wr s d v t i hi=>by
  have ad:s 0=.slice (some ⟨g,0,none⟩) ec.length c:=by rw [<- v.hdr 0 (by omega),h.hdr 0 (by omega)];exact e0
  have aq:(d 0).length=ec.length:=by rw [t,G,mZ]
  rw [(v.fG.cell (k:=0) (by have:=v.hK;omega) ad (j:=a + 3 + i) (by omega)).1]
  rcases (show i=0\/i=1 by omega) with rfl | rfl
  ·rw [t];exact (by rw [G,yj,c0];rfl)
  ·rw [t];exact (by rw [G,yj,c1];rfl)
 clear h hW G c0 c1 e0;go_enter Tryz.func133,Tryz.ntmps133
 go_upto_region 0 with fail
 go_wp2_with (go_at_call 175;refine (J.out _ (by rfl)).mono ?_;rintro e7 w7 ⟨rfl,j7,rfl⟩;simp only [])
 obtain ⟨W,y⟩:∃ W,W=w.drewN j7:=⟨_,rfl⟩;have bW:Below w.heap.size w W:=by rw [y];exact Go.below_drewN bR _
 have SW:=hide (HS.out.later bW);have CW:Hid (dD Z w W):=dD.of_below bW;rw [<- y];clear y bW J;have C:wm wl a p q 0=wl:=by funext x;unfold wm;simp
 go_loopw [5,13] (fun _ i wr=>Ov Z sb w K f X n wl a p q i wr) (fun _ i _=>2 - (intOf i).toNat)
 case atStart=>exact ⟨0,rfl,by omega,V,X,SW.out,by rw [C];exact HW.out,fun _ _ _=>rfl,CW.out⟩
 case round=>
  obtain ⟨i,rfl,ar,s,d,b⟩:=hrel;clear SW CW C;by_cases E:i < 2
  ·have il:(i:Int) < 2:=by omega
   have ap:(0:Int) <= (i:Int):=by omega
   obtain ⟨x,t⟩:∃ x,x=if i=0 then p else q:=⟨_,rfl⟩
   have l:x < 2 * n:=by rw [t];split <;> assumption
   have ab:=ah.out wr s d b.out.1 (b.out.2.2.1 0 (by decide) (by decide)) i E;rw [<- t] at ab;have o:=b.out.2.1;obtain ⟨g9,c9,L,wc,B,z,q5,qx,zx,l9,n9,z9,ox⟩:=o.at' b.out.1 ac l;have ak:(wm wl a p q i x).length <= 1099511627777:=by
    have:=S x l;unfold wm;split
    ·simp;omega
    ·omega
   have NX:=hide (Lm (wl:=wl) (a:=a) aa E t);have PW:=hide (fun v'=>o.push l a v');rw [NX.out] at PW;have X0:(0:Int) <= (x:Int):=by omega
   have X1:(x:Int) < 2 * (n:Int):=by omega
   have SD:Hid (dX Z sb wr.drew K f s d):=b.out.1.later bR.drew;have OD:Hid (wr.drew.ownsRow 0 3 1 (.slice L (wm wl a p q i x).length wc) (wm wl a p q i x).length (dC (wm wl a p q i x))):=ox;have BD:Hid (dD Z w wr.drew):=b.out.2.2.2.drew;have RX:Hid (d (16 + x)=dC (wm wl a p q i x)):=o.row x l;have LX:Hid ((d 9).length=2 * n):=o.n9;have ae:Hid ((d 9)[x]? = some (.slice L (wm wl a p q i x).length wc)):=by unfold Hid;rw [o.hd x l,z]
   have E9:=hide B;have af:Hid (f 5=.slice (some ⟨g9,0,none⟩) (2 * n) c9):=(b.out.1.hdr 9 (by omega)).trans B;have EX:=hide z;have OW:=hide b.out.2.2.1;have u:16 + x < K:=by omega
   have ai:=b.out.1.row.lt;have ns:¬ (sb=wr.heap.size):=by omega
   have al:¬ (g9=wr.heap.size):=by omega
   clear o B z ox t;go_upto_region 3 with fail
   go_region_law
    (refine iQ _ (by rfl) _ _ 43 (by rfl) 0 3 i0 (.int .i64 0) 1 8 Tryz.underlying43 hi R Q P (by rfl) (by decide) (.slice L (wm wl a p q i x).length wc) (wm wl a p q i x).length (dC (wm wl a p q i x)) (by rfl) (OD.out.alloc (.cells #[.int .i64 (a:Int)] 3)) (.slice (some ⟨wr.heap.size,0,none⟩) 1 1) 1 [.int .i64 (a:Int)] (by rfl) (.inr ⟨⟨wr.heap.size,0,none⟩,1,rfl,(cell_one_new wr.drew _ _)⟩) (by rfl) (by simp [Value.oneCell']) (by unfold maxLen;omega) (by omega) zl ?_;intro v6 w6 A6;have A7:dz (wr.drew.alloc (.cells #[.int .i64 (a:Int)] 3)) 0 3 1 (s (16 + x)) (d (16 + x)).length (d (16 + x)) 1 [.int .i64 (a:Int)] v6 w6:=(by rw [EX.out,RX.out,dh];exact A6);have S6:=hide (SD.out.IJ u E9.out (m:=1) (news:=[.int .i64 (a:Int)]) rfl A7);have K6:=(SD.out.EB u E9.out (by rw [LX.out];exact l) A7);rw [ae.out] at K6;obtain ⟨D,ao,an⟩:=K6;have O:=D 5 (by omega);rw [af.out] at O;obtain ⟨N,M,U⟩:=dI A6.own;subst U;clear A6 A7 D)
   all_goals
    have ag:Hid (Ov Z sb w K f X n wl a p q (.int .i64 ((i + 1:Nat):Int)) (w6.setCell ⟨g9,x,none⟩ (.slice N ((wm wl a p q i x).length + 1) M))):=⟨i + 1,rfl,by omega,_,_,S6.out.1,PW.out _,fun k h1 h2=>by rw [cu _ _ h1,cu _ _ (by omega)];exact OW.out k h1 h2,BD.out.trans S6.out.2⟩;clear S6;go_wp2;go_roundw
    case rel=>exact ag.out
    case measure=>simp [intOf];omega
  ·have ei:i=2:=by omega
   subst ei;go_wp2;go_end0;exact ⟨rfl,b.out.2.2.2,s,d,b.out.1,b.out.2.1,b.out.2.2.1⟩
end
section
variable {Z:Nat->Prop} {sb K:Nat} {w w':World} {f V:Nat->Value} {X:Nat->List Value} {n:Nat} {wl:Nat->List Nat} {tr ch:List Nat} {lev:Nat->Nat} {dB:Nat->Int}
theorem rQ.KF {B:Nat} {T:Nat->TypeId} (h:rQ B w K T V X) {k:Nat} (l:k < K) {g m cap:Nat} (d:V k=.slice (some ⟨g,0,none⟩) m cap) (j:Nat):w.frozen? ⟨g,j,none⟩=false:=by
 have b:=h.own k l;rw [d] at b;have i:m=(X k).length:=by
  obtain ⟨a,c,e⟩:=dI b;exact (Value.slice.inj e).2.1
 subst i;exact b.frozenAt j
theorem Uy (tr:List Nat) (x:Nat):tv tr x < 0↔tv tr x=-1:=by unfold tv;split <;> (try split) <;> omega
theorem Uz (tr:List Nat) (x:Nat):0 < tv tr x↔tv tr x=1:=by unfold tv;split <;> (try split) <;> omega
theorem mD {cs:List Rec} (a:dX Z sb w K f V X) (e:X 0=ints (enc cs)) {g N c:Nat} (l:V 0=.slice (some ⟨g,0,none⟩) N c) {k:Nat} (b:k < cs.length) {i:Nat} (h:i < (cs[k]).lits.length):w.cell? ⟨g,dU cs k + 3 + i,none⟩=some (.int .i64 ((cs[k]).lits[i]:Nat)):=by
 have d:=kH b;have m:(X 0).length=(enc cs).length:=by rw [e,mZ]
 rw [(a.fG.cell (k:=0) (by have:=a.hK;omega) l (j:=dU cs k + 3 + i) (by omega)).1];exact BM e (wO b h)
def za (X X':Nat->List Value):Prop:=∀ k,k ≠ 0->k ≠ 9->k < 16->X' k=X k
def Da (Z:Nat->Prop) (sb:Nat) (w:World) (K:Nat) (f V:Nat->Value) (X:Nat->List Value) (n:Nat) (wl:Nat->List Nat) (tr:List Nat) (cs:List Rec) (k:Nat) (kd:Nat) (bs:Int) (lit q:Nat) (r:List Nat) (e:Ending) (w':World):Prop:=
 ∃ b V' X',e=.returned (.bool b)/\dD Z w w'/\dX Z sb w' K f V' X'/\za X X'/\V' (16 + lit)=V (16 + lit)/\
  ((b=false/\X' 0=ints (enc (cs.set k ⟨kd,bs,q :: lit :: r⟩))/\qh n V' X' wl/\(tv tr q=1\/(tv tr q ≠ 1/\∀ y ∈ r,tv tr y=-1))) \/
   (b=true/\tv tr q ≠ 1/\∃ j o,r[j]? = some o/\tv tr o ≠ -1/\X' 0=ints (enc (cs.set k ⟨kd,bs,q :: o :: r.set j lit⟩))/\qh n V' X' (fun x=>if x=o then wl x ++ [dU cs k] else wl x)))
def Ou (Z:Nat->Prop) (sb:Nat) (w:World) (K:Nat) (f V:Nat->Value) (X:Nat->List Value) (tr r:List Nat) (i8:Value) (wr:World):Prop:=
 ∃ i:Nat,i8=.int .i64 ((i + 2:Nat):Int)/\i <= r.length/\Hid ((∀ j (hj:j < r.length),j < i->tv tr r[j]=-1)/\dX Z sb wr K f V X/\dD Z w wr)
theorem dX.Sc {cs:List Rec} (h:dX Z sb w K f V X) (q:X 0=ints (enc cs)) {g N c:Nat} (m:V 0=.slice (some ⟨g,0,none⟩) N c) {k:Nat} (d:k < cs.length) {i j:Nat} (p:i < (cs[k]).lits.length) (o:j < (cs[k]).lits.length) (x y:Nat):
  dX Z sb ((w.setCell ⟨g,dU cs k + 3 + i,none⟩ (.int .i64 (x:Nat))).setCell ⟨g,dU cs k + 3 + j,none⟩ (.int .i64 (y:Nat))) K f V (upd X 0 (ints (enc (cs.set k ⟨(cs[k]).kind,(cs[k]).busy,((cs[k]).lits.set i x).set j y⟩)))):=by
 have l:0 < K:=by have:=h.hK;omega
 have a:=(h.set (k:=0) l m (dU cs k + 3 + i) (.int .i64 (x:Nat))).set (k:=0) l m (dU cs k + 3 + j) (.int .i64 (y:Nat));rw [cK,gm,q,ints_set,ints_set] at a;have r:=yx d p x;have b:k < (cs.set k ⟨(cs[k]).kind,(cs[k]).busy,(cs[k]).lits.set i x⟩).length:=by simpa using d
 have e:=yx (cs:=cs.set k ⟨(cs[k]).kind,(cs[k]).busy,(cs[k]).lits.set i x⟩) b (i:=j) (by simpa using o) y;rw [nT d (by simp),r] at e;simp only [List.getElem_set_self,List.set_set] at e;rw [<- e] at a;exact a
theorem uD {cs:List Rec} {k lit q:Nat} {r:List Nat} (h:dX Z sb w K f V X) (aM:K=16 + 2 * n) (h0:X 0=ints (enc cs)) (R:k < cs.length) (hl:(cs[k]).lits=lit :: q :: r\/(cs[k]).lits=q :: lit :: r) (bb:lit ≠ q) (aI:lit ∉ r) (t:∀ y ∈ (cs[k]).lits,y < 2 * n) (hn:n <= 50) (hN:(enc cs).length <= 1099511627776) (hT:ou n X tr ch lev dB) (hW:qh n V X wl) (aG:∀ x,x < 2 * n->(wl x).length <= 1099511627776):
  Calls Tryz.prog 179 #[.pointer (some ⟨sb,0,none⟩),.int .i64 (dU cs k:Nat),.int .i64 (lit:Nat)] w fun e w'=>Da Z sb w K f V X n wl tr cs k (cs[k]).kind (cs[k]).busy lit q r e w':=by
 obtain ⟨i0,E,aF,aE,aD⟩:=info_parts Tryz.gB;obtain ⟨g,c,e0,q0,hc,lg,ng,zg,r0,-,-,-,fz⟩:=mU h h0 R;have aX:=kH R;have HS:=hide h
 have hm:(cs[k]).lits.length=r.length + 2:=by rcases hl with e | e <;> rw [e] <;> simp
 have QL:Hid (∀ Y:World,Y.heap=w.heap->Calls Tryz.prog 175 #[.pointer (some ⟨sb,2,none⟩),.int .i64 (dU cs k:Nat)] Y fun e w'=>e=.returned (jM g (dU cs k) (cs[k]).lits.length c)/\∃ j,w'=Y.drewN j):=fun Y u=>ky sb 2 g (enc cs).length c (dU cs k) (cs[k]).lits.length Y (by rw [show Y.cell? ⟨sb,2,none⟩=w.cell? ⟨sb,2,none⟩ from World.cell?_of_block (a:=⟨sb,2,none⟩) (by rw [u])];exact q0) (by omega) (by unfold maxLen;omega) hc (by rw [show Y.cell? ⟨g,dU cs k,none⟩=w.cell? ⟨g,dU cs k,none⟩ from World.cell?_of_block (a:=⟨g,dU cs k,none⟩) (by rw [u])];exact r0)
 have nc:¬ (c=dU cs k + 3):=by omega
 unfold jM at QL;rw [if_neg nc,hm] at QL;obtain ⟨b,d⟩:∃ b,b=cs.set k ⟨(cs[k]).kind,(cs[k]).busy,q :: lit :: r⟩:=⟨_,rfl⟩;have af:k < b.length:=by rw [d];simpa using R
 have L:b[k]=⟨(cs[k]).kind,(cs[k]).busy,q :: lit :: r⟩:=by subst d;simp
 have al:dU b k=dU cs k:=by rw [d];exact nT R (by simp [hm]) k
 have ae:∀ y,y ∈ q :: lit :: r->y < 2 * n:=fun y hy=>t y (by
  simp only [List.mem_cons] at hy
  rcases hl with e | e <;> rw [e] <;> simp only [List.mem_cons]
  ·rcases hy with B | B | B
   ·exact .inr (.inl B)
   ·exact .inl B
   ·exact .inr (.inr B)
  ·exact hy)
 have P:Hid ((w.cell? ⟨g,dU cs k + 3,none⟩=some (.int .i64 (lit:Nat))/\w.cell? ⟨g,dU cs k + 3 + 1,none⟩=some (.int .i64 (q:Nat))/\∀ Y,dX Z sb Y K f V X->dX Z sb ((Y.setCell ⟨g,dU cs k + 3,none⟩ (.int .i64 (q:Nat))).setCell ⟨g,dU cs k + 3 + 1,none⟩ (.int .i64 (lit:Nat))) K f V (upd X 0 (ints (enc b)))) \/
   (w.cell? ⟨g,dU cs k + 3,none⟩=some (.int .i64 (q:Nat))/\∀ Y,dX Z sb Y K f V X->dX Z sb Y K f V (upd X 0 (ints (enc b))))):=by
  rcases hl with e | e
  ·refine .inl ⟨?_,?_,fun Y u=>?_⟩
   ·have:=mD h h0 e0 R (i:=0) (by omega);simpa [e] using this
   ·have:=mD h h0 e0 R (i:=1) (by omega);simpa [e] using this
   ·have:=u.Sc h0 e0 R (i:=0) (j:=1) (by omega) (by omega) q lit;rw [d];simpa [e] using this
  ·refine .inr ⟨?_,fun Y u=>?_⟩
   ·have:=mD h h0 e0 R (i:=0) (by omega);simpa [e] using this
   ·have e2:b=cs:=by rw [d,<- e];exact List.set_getElem_self R
    rw [e2,<- h0,upd_same];exact u
 have U:Hid (∀ Y,dX Z sb Y K f V (upd X 0 (ints (enc b)))->(Y.cell? ⟨g,dU cs k + 3,none⟩=some (.int .i64 (q:Nat))/\Y.cell? ⟨g,dU cs k + 3 + 1,none⟩=some (.int .i64 (lit:Nat))/\∀ j,Y.frozen? ⟨g,j,none⟩=false)/\∀ i (E:i < r.length),Y.cell? ⟨g,dU cs k + 3 + (i + 2),none⟩=some (.int .i64 (r[i]:Nat))):=fun Y u=>by
  have J:∀ i (E:i < (b[k]).lits.length),Y.cell? ⟨g,dU b k + 3 + i,none⟩=some (.int .i64 ((b[k]).lits[i]:Nat)):=fun i E=>mD u (cK ..) e0 af E
  rw [al] at J;simp only [L] at J;exact ⟨⟨by simpa using J 0 (by simp),by simpa using J 1 (by simp),fun j=>u.fG.KF (k:=0) (by have:=u.hK;omega) e0 j⟩,fun i E=>by simpa using J (i + 2) (by simp;omega)⟩
 have ac:Hid (∀ Y i (E:i < r.length),dX Z sb Y K f V (upd X 0 (ints (enc b)))->dX Z sb ((Y.setCell ⟨g,dU cs k + 3 + 1,none⟩ (.int .i64 (r[i]:Nat))).setCell ⟨g,dU cs k + 3 + (i + 2),none⟩ (.int .i64 (lit:Nat))) K f V (upd X 0 (ints (enc (cs.set k ⟨(cs[k]).kind,(cs[k]).busy,q :: r[i] :: r.set i lit⟩))))):=fun Y i E u=>by
  have:=u.Sc (cK ..) e0 af (i:=1) (j:=i + 2) (by rw [L];simp) (by rw [L];simp;omega) r[i] lit;rw [al,gm] at this;simp only [L] at this;simpa [d] using this
 have aU:=hide d;have QT:Hid (∀ Y XX,dX Z sb Y K f V XX->XX 3=X 3->∀ x,x < 2 * n->∃ M c3,Y.cell? ⟨sb,9,none⟩=some (.slice (some ⟨M,0,none⟩) (2 * n) c3)/\Y.cell? ⟨M,x,none⟩=some (.int .i64 (tv tr x))):=fun Y XX u e3 x hx=>by
  obtain ⟨M,c3,t3,bd,q3,r3,s3,_⟩:=u.elem (k:=3) (j:=x) (by omega) (by rw [e3];exact hT.n3) hx;rw [e3,hT.t3 x hx] at s3;obtain rfl:=Option.some.inj s3;exact ⟨M,c3,q3,r3⟩
 have HW:=hide hW;have ba:r.length <= 1099511627776:=by omega
 have aY:Hid (dU cs k=dU cs k):=rfl;have ar:q < 2 * n:=ae q (by simp);have aq:Hid (∀ y ∈ r,y < 2 * n):=fun y hy=>ae y (by simp [hy])
 have N:Hid (∀ Y V' X' i (E:i < r.length),dD Z w Y->dX Z sb Y K f V' X'->X' 0=ints (enc (cs.set k ⟨(cs[k]).kind,(cs[k]).busy,q :: r[i] :: r.set i lit⟩))->za X X'->V' (16 + lit)=V (16 + lit)->tv tr q ≠ 1->tv tr r[i] ≠ -1->qh n V' X' (fun x=>if x=r[i] then wl x ++ [dU cs k] else wl x)->Da Z sb w K f V X n wl tr cs k (cs[k]).kind (cs[k]).busy lit q r (.returned (.bool true)) Y):=fun Y V' X' i E B h2 h3 h4 h8 h5 h6 h7=>⟨true,V',X',rfl,B,h2,h4,h8,.inr ⟨rfl,h5,i,r[i],List.getElem?_eq_getElem E,h6,h3,h7⟩⟩
 have C:Hid (∀ Y,dD Z w Y->dX Z sb Y K f V (upd X 0 (ints (enc b)))->(tv tr q=1\/(tv tr q ≠ 1/\∀ y ∈ r,tv tr y=-1))->Da Z sb w K f V X n wl tr cs k (cs[k]).kind (cs[k]).busy lit q r (.returned (.bool false)) Y):=fun Y B h2 h3=>⟨false,V,_,rfl,B,h2,fun j h4 h5 h6=>cu _ _ h4,rfl,.inl ⟨rfl,by rw [cK,d],HW.out.congr (cu _ _ (by decide)) (fun _ _=>rfl) (fun x hx=>cu _ _ (by omega)),h3⟩⟩
 generalize Da Z sb w K f V X n wl tr cs k (cs[k]).kind (cs[k]).busy lit q r=be at *
 clear h hl t h0 hT hW r0 q0 L al ae hm d e0 aU af;generalize dU cs k=a at *
 generalize enc cs=ec at *
 generalize enc b=H at *
 go_enter Tryz.func179,Tryz.ntmps179
 go_upto_region 2 with (go_at_call 175;refine (QL.out _ (by rfl)).mono ?_;rintro e7 w7 ⟨rfl,j7,rfl⟩;simp only [])
 obtain ⟨W,ag⟩:∃ W,W=w.drewN j7:=⟨_,rfl⟩;have bW:Below w.heap.size w W:=by rw [ag];exact Go.below_drewN bR _
 rw [<- ag];have SW:=hide (HS.out.later bW);have CW:Hid (dD Z w W):=dD.of_below bW;have O:∀ j,W.frozen? ⟨g,j,none⟩=false:=fun j=>(bW.frozen (p:=⟨g,j,none⟩) lg).trans (fz j)
 have D:=P.out;rw [<- bW.cell (p:=⟨g,a + 3,none⟩) lg,<- bW.cell (p:=⟨g,a + 3 + 1,none⟩) lg] at D;have m0:(0:Int) < ((r.length + 2:Nat):Int):=by omega
 have m1:(1:Int) < ((r.length + 2:Nat):Int):=by omega
 obtain ⟨l0,aQ,Q⟩:∃ l0:Nat,W.cell? ⟨g,a + 3,none⟩=some (.int .i64 (l0:Nat))/\Hid ((l0=lit/\W.cell? ⟨g,a + 3 + 1,none⟩=some (.int .i64 (q:Nat))/\∀ Y,dX Z sb Y K f V X->dX Z sb ((Y.setCell ⟨g,a + 3,none⟩ (.int .i64 (q:Nat))).setCell ⟨g,a + 3 + 1,none⟩ (.int .i64 (lit:Nat))) K f V (upd X 0 (ints H)))\/(l0=q/\∀ Y,dX Z sb Y K f V X->dX Z sb Y K f V (upd X 0 (ints H)))):=by
  rcases D with ⟨ca,cb,z⟩ | ⟨ca,z⟩
  ·exact ⟨lit,ca,.inl ⟨rfl,cb,z⟩⟩
  ·exact ⟨q,ca,.inr ⟨rfl,z⟩⟩
 clear ag bW QL P fz D;go_upto_if 19 with fail
 go_cut [] from 10 (fun wx=>Hid (dX Z sb wx K f V (upd X 0 (ints H))/\dD Z w wx))
 case first=>
  rcases Q.out with ⟨rfl,cb,z⟩ | ⟨rfl,z⟩
  ·have S2:=hide (z _ SW.out);have f0:=O (a + 3);have f1:=O (a + 3 + 1);have C2:Hid (dD Z w ((W.setCell ⟨g,a + 3,none⟩ (.int .i64 (q:Nat))).setCell ⟨g,a + 3 + 1,none⟩ (.int .i64 (l0:Nat)))):=(CW.out.setCell zg _).setCell zg _;clear z O;go_upto_region 3 with fail
   go_region_with fail
   all_goals
    go_wp2_with fail
    go_meet;exact ⟨S2.out.later bR.drew,C2.out.drew⟩
  ·have S2:=hide (z _ SW.out);have nq:¬ ((l0:Int)=(lit:Int)):=by omega
   clear z O;go_wp2_with fail
   go_meet;exact ⟨S2.out,CW.out⟩
 case rest=>
  clear Q SW CW O aQ;have S1:=hide hcut.out.1;have C1:=hide hcut.out.2;clear hcut;obtain ⟨⟨cq,-,-⟩,CR⟩:=U.out wc S1.out;have am:Hid (∀ Y:World,Y.heap=wc.heap->Calls Tryz.prog 103 #[.pointer (some ⟨sb,6,none⟩),.int .i64 (q:Nat)] Y fun e w'=>e=.returned (.bool (decide (0 < tv tr q)))/\w'=Y):=fun Y u=>by
   obtain ⟨M,c3,t1,t2⟩:=QT.out wc _ S1.out (cu _ _ (by decide)) q ar;exact yh sb 6 M (2 * n) c3 q (tv tr q) Y (by rw [show Y.cell? ⟨sb,6 + 3,none⟩=wc.cell? ⟨sb,9,none⟩ from World.cell?_of_block (a:=⟨sb,9,none⟩) (by rw [u])];exact t1) ar (by rw [show Y.cell? ⟨M,q,none⟩=wc.cell? ⟨M,q,none⟩ from World.cell?_of_block (a:=⟨M,q,none⟩) (by rw [u])];exact t2)
  obtain ⟨bq,av,HB⟩:∃ bq,decide (0 < tv tr q)=bq/\Hid (bq=true↔tv tr q=1):=⟨_,rfl,by unfold Hid;rw [decide_eq_true_iff];exact Uz tr q⟩;rw [av] at am;clear av;go_upto_region 4 with fail
  go_quiet ((go_at_call 103;exact Calls.quiet_of_same (am.out _ (by rfl))))
  obtain ⟨W2,ah⟩:∃ W2,W2=wc.drewN nq:=⟨_,rfl⟩;have b2:Below wc.heap.size wc W2:=by rw [ah];exact Go.below_drewN bR _
  rw [<- ah];have S2:=hide (S1.out.later b2);have C2:Hid (dD Z w W2):=C1.out.trans (dD.of_below b2);clear ah b2 S1 C1 cq CR am
  cases bq with
  | true=>
   have F2:=hide (C.out W2 C2.out S2.out (.inl (HB.out.1 rfl)));go_wp2;exact F2.out
  | false=>
   have an:Hid (tv tr q ≠ 1):=fun e=>by have:=HB.out.2 e;cases this
   go_wp2;have M2:Hid (∀ Y,dX Z sb Y K f V (upd X 0 (ints H))->∀ i (E:i < r.length),Calls Tryz.prog 134 #[.pointer (some ⟨sb,6,none⟩),.int .i64 (r[i]:Nat)] Y fun e w'=>e=.returned (.bool (decide (tv tr r[i] < 0)))/\w'=Y):=fun Y u i E=>by
    have ap:=aq.out r[i] (List.getElem_mem E);obtain ⟨M,c3,t1,t2⟩:=QT.out Y _ u (cu _ _ (by decide)) r[i] ap;exact qN sb 6 M (2 * n) c3 r[i] (tv tr r[i]) Y t1 ap t2
   go_loopw [8,9] (fun i8 _ wr=>Ou Z sb w K f V (upd X 0 (ints H)) tr r i8 wr) (fun i8 _ _=>r.length + 2 - (intOf i8).toNat)
   case atStart=>exact ⟨0,rfl,zl,fun j hj h=>absurd h (Nat.not_lt_zero _),S2.out,C2.out⟩
   case round=>
    obtain ⟨i,rfl,bc,l⟩:=hrel;clear S2 C2;by_cases t:i < r.length
    ·have aK:=(U.out wr l.out.2.1).2 i t;have QF:=hide (M2.out wr l.out.2.1 i t);obtain ⟨bf,aw,az⟩:∃ bf,decide (tv tr r[i] < 0)=bf/\Hid (bf=true↔tv tr r[i]=-1):=⟨_,rfl,by unfold Hid;rw [decide_eq_true_iff];exact Uy tr r[i]⟩;have G:=aq.out r[i] (List.getElem_mem t);have a3:lit ≠ r[i]:=fun e=>aI (by rw [e];exact List.getElem_mem t)
     have MV:=hide (ac.out wr i t l.out.2.1);have ax:=hide (fun Y V' X'=>N.out Y V' X' i t);have ay:Hid (bf=true->∀ v,v=.int .i64 ((i + 1 + 2:Nat):Int)->Ou Z sb w K f V (upd X 0 (ints H)) tr r v wr):=fun e v hv=>⟨i + 1,hv,by omega,fun j hj aJ=>by
      rcases Nat.lt_succ_iff_lt_or_eq.1 aJ with B | B
      ·exact l.out.1 j hj B
      ·subst B;exact az.out.1 e,l.out.2.1,l.out.2.2⟩
     rw [aw] at QF;generalize r[i]=o at *
     have a9:(0:Int) <= ((i + 2:Nat):Int):=by omega
     have a8:((i + 2:Nat):Int) < ((r.length + 2:Nat):Int):=by omega
     have aC:(i:Int) + 2 < (r.length:Int) + 2:=by omega
     have a7:(0:Int) <= (i:Int) + 2:=by omega
     have a6:((i:Int) + 2).toNat=i + 2:=by omega
     clear aw;go_upto_if 52 with (go_at_call 134;refine QF.out.mono ?_;rintro e8 w8 ⟨rfl,rfl⟩;simp only [])
     cases bf with
     | true=>
      go_wp2;go_roundw
      case rel=>exact ay.out rfl _ (by go_num)
      case measure=>simp [intOf];omega
     | false=>
      clear ay;have aA:Hid (tv tr o ≠ -1):=fun e=>by have:=az.out.2 e;cases this
      obtain ⟨⟨-,aP,ai⟩,-⟩:=U.out w8 l.out.2.1;have aO:=ai (a + 3 + 1);have aN:=ai (a + 3 + (i + 2));have C3:Hid (dD Z w ((w8.setCell ⟨g,a + 3 + 1,none⟩ (.int .i64 (o:Nat))).setCell ⟨g,a + 3 + (i + 2),none⟩ (.int .i64 (lit:Nat)))):=(l.out.2.2.setCell zg _).setCell zg _;have au:∀ XX,qh n V (upd X 0 XX) wl:=fun XX=>HW.out.congr (cu _ _ (by decide)) (fun _ _=>rfl) (fun x hx=>cu _ _ (by omega))
      obtain ⟨s,aa⟩:∃ s,s=enc (cs.set k ⟨(cs[k]).kind,(cs[k]).busy,q :: o :: r.set i lit⟩):=⟨_,rfl⟩;rw [<- aa] at MV ax;clear l aa ai U ac QT N C M2;go_upto_region 12 with fail
      generalize aL:(w8.setCell ⟨g,a + 3 + 1,none⟩ (.int .i64 (o:Nat))).setCell ⟨g,a + 3 + (i + 2),none⟩ (.int .i64 (lit:Nat))=S at MV C3 ⊢;clear aL aP aO aN aK;have I:=hide (au (ints s));clear au;obtain ⟨g9,c9,wa,ad,ak,aj,q5,qx,zx,l9,n9,z9,ox⟩:=I.out.at' MV.out aM G;have aZ:(wl o).length <= 1099511627777:=by have:=aG o G;omega
      have PW:=hide (fun v'=>I.out.push G a v');have X0:(0:Int) <= (o:Int):=by omega
      have X1:(o:Int) < 2 * (n:Int):=by omega
      have SD:Hid (dX Z sb S.drew K f V (upd X 0 (ints s))):=MV.out.later bR.drew;have OD:Hid (S.drew.ownsRow 0 3 1 (.slice wa (wl o).length ad) (wl o).length (dC (wl o))):=ox;have BD:Hid (dD Z w S.drew):=C3.out.drew;have RX:Hid ((upd X 0 (ints s)) (16 + o)=dC (wl o)):=I.out.row o G;have LX:Hid (((upd X 0 (ints s)) 9).length=2 * n):=I.out.n9;have aS:Hid (((upd X 0 (ints s)) 9)[o]? = some (.slice wa (wl o).length ad)):=by unfold Hid;rw [I.out.hd o G,aj]
      have E9:=hide ak;have aT:Hid (f 5=.slice (some ⟨g9,0,none⟩) (2 * n) c9):=(MV.out.hdr 9 (by omega)).trans ak;have EX:=hide aj;have ab:16 + o < K:=by omega
      have aW:=MV.out.row.lt;have ns:¬ (sb=S.heap.size):=by omega
      have a2:¬ (g9=S.heap.size):=by omega
      have XO:Hid (za X (upd X 0 (ints s))):=fun j B h2 h3=>cu _ _ B
      have aR:Hid ((upd X 0 (ints s)) 0=ints s):=cK ..;generalize upd X 0 (ints s)=XM at *
      clear I ak aj ox MV C3;go_region_law
       (refine iQ _ (by rfl) _ _ 43 (by rfl) 0 3 i0 (.int .i64 0) 1 8 Tryz.underlying43 E aF aE aD (by rfl) (by decide) (.slice wa (wl o).length ad) (wl o).length (dC (wl o)) (by rfl) (OD.out.alloc (.cells #[.int .i64 (a:Int)] 3)) (.slice (some ⟨S.heap.size,0,none⟩) 1 1) 1 [.int .i64 (a:Int)] (by rfl) (.inr ⟨⟨S.heap.size,0,none⟩,1,rfl,(cell_one_new S.drew _ _)⟩) (by rfl) (by simp [Value.oneCell']) (by unfold maxLen;omega) (by omega) zl ?_;intro v6 w6 A6;have A7:dz (S.drew.alloc (.cells #[.int .i64 (a:Int)] 3)) 0 3 1 (V (16 + o)) (XM (16 + o)).length (XM (16 + o)) 1 [.int .i64 (a:Int)] v6 w6:=(by rw [EX.out,RX.out,dh];exact A6);have S6:=hide (SD.out.IJ ab E9.out (m:=1) (news:=[.int .i64 (a:Int)]) rfl A7);have K6:=(SD.out.EB ab E9.out (by rw [LX.out];exact G) A7);rw [aS.out] at K6;obtain ⟨ao,a5,a4⟩:=K6;have aB:=ao 5 (by omega);rw [aT.out] at aB;obtain ⟨a1,a0,aH⟩:=dI A6.own;subst aH;clear A6 A7 ao)
      all_goals
       have aV:=hide (ax.out _ _ _ (BD.out.trans S6.out.2) S6.out.1 (by rw [cu _ _ (by decide),cu _ _ (by omega)];exact aR.out) (fun j B h2 h3=>by rw [cu _ _ h2,cu _ _ (by omega)];exact XO.out j B h2 h3) (cu _ _ (by omega)) an.out aA.out (PW.out _));clear S6;go_wp2;exact aV.out
    ·have ei:i=r.length:=by omega
     have F2:=hide (C.out wr l.out.2.2 l.out.2.1 (.inr ⟨an.out,fun y hy=>by
      obtain ⟨j,hj,rfl⟩:=List.mem_iff_getElem.1 hy;exact l.out.1 j hj (by omega)⟩))
     have aC:¬ ((i:Int) + 2 < (r.length:Int) + 2):=by omega
     go_wp2;exact F2.out
end
end
end So
end Go.Proofs.YtceahffmenbibaaGreatDoor
