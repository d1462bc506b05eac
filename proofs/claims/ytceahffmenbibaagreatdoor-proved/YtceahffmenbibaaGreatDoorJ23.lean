/- Ptid. -/
import Derived.Test.YtceahffmenbibaaGreatDoorJ22
import Derived.Laws.Tables
import Derived.Deep.CutRange
set_option linter.unusedVariables false
set_option linter.unusedSimpArgs false
set_option maxHeartbeats 1000000
set_option maxRecDepth 100000
namespace Go.Proofs.YtceahffmenbibaaGreatDoor
namespace Rd
section
open Go Go.RowKit Go.Deep
section
attribute [local go_sem ↓] Go.wp_at_zero Go.wp_at_succ
theorem Tryz.Br:Tryz.zeroCells134.toList=[.slice none 0 0,.map none,.int .i64 0,.int .u64 0,.int .u64 0] ++ List.replicate 128 (.slice none 0 0):=by kernel_rfl
def newRow (mb:Nat) (u:Key):List Value:=[.slice none 0 0,.map (some mb),.int .i64 0,.int .u64 (u.1:Int),.int .u64 (u.2:Int)] ++ List.replicate 128 (.slice none 0 0)
theorem Kb (a:Nat) (u:Key) (i:Nat) (b:i < 133):(newRow a u)[i]? = some (iH (.slice none 0 0) a 0 u (fun _=>.slice none 0 0) i):=by
 unfold newRow
 match i,b with
 | 0,_=>rfl
 | 1,_=>rfl
 | 2,_=>rfl
 | 3,_=>rfl
 | 4,_=>rfl
 | k + 5,h=>
  rw [List.getElem?_append_right (by simp)];simp only [List.length_cons,List.length_nil,Nat.reduceAdd,Nat.add_sub_cancel];rw [List.getElem?_replicate,if_pos (by omega)];rfl
theorem xP (a:Nat) (u:Key):(newRow a u).length=133:=by unfold newRow;simp
theorem GQ (b:Nat) (u:Key):∀ v ∈ newRow b u,v.oneCell'=true:=fun v a=>by
 unfold newRow at a
 rcases List.mem_append.1 a with h | h
 ·simp only [List.mem_cons,List.not_mem_nil,or_false] at h
  rcases h with rfl | rfl | rfl | rfl | rfl <;> rfl
 ·rw [(List.mem_replicate.1 h).2];rfl
theorem eG.fresh {B c a:Nat} {w:World} {u:Key} (d:w.heap[c]? = some (.cells (newRow a u).toArray 134 (0,0))) (e:jh w a 0 (fun _=>none)) (g:B <= c) (b:B <= a):eG B c w (.slice none 0 0) a 0 u (fun _=>.slice none 0 0) [] (fun _=>[]) where
 row:=⟨_,d,by simp [xP],fun i f=>by simpa using Kb a u i f⟩
 cls:=World.ownsRow_nil _ _ _ _
 map:=e.congr fun s _=>rfl
 mr:=fun k _=>World.ownsRow_nil _ _ _ _
 apart:=fun k h _ _ _=>.inl rfl
 jA:=g
 yR:=b
theorem GN (a:Nat) (u:Key):(((Tryz.zeroCells134.toList.set 1 (.map (some a))).set 3 (.int .u64 (u.1:Int))).set 4 (.int .u64 (u.2:Int)))=newRow a u:=by
 rw [Tryz.Br];rfl
theorem Bq:Tryz.zeroCells134.size=133:=by
 rw [<- Array.length_toList,Tryz.Br];rfl
def yV (es es':List dH) (jU:Nat->List Nat):Prop:=sigs es'=(sigs es).filter (fun p=>decide (0 < p.2))/\eU es' jU
theorem Ar {w:World} {B H e size n:Nat} {v:Value} {c:List Value} (h:w.ownsRow H e size v n c) (f:B <= H):w.ownsRow B e size v n c:=by
 refine ⟨h.1,?_⟩
 rcases h.2 with i | ⟨g,b,a,j,d,r⟩
 ·exact .inl i
 ·exact .inr ⟨g,b,a,j,Nat.le_trans f d,r⟩
theorem eG.moved {B H n sb d:Nat} {wr:World} {f:Value} {u:Key} {a:Nat->Value} {o:List dH} {b:Nat->List Nat} {i w:Array Value} (h:eG H n wr f d 0 u a o b) (s:wr.heap[n]? = some (.cells i 134 (0,0))) (r:wr.heap[sb]? = some (.cells w 134 (0,0))) (p:sb < H) (v:B <= sb):
  eG B sb (wr.setRow sb i) f d 0 u a o b where
 row:=by
  obtain ⟨c,l,q,t⟩:=h.row;rw [s] at l;have e:i=c:=by cases l;rfl
  subst e;exact ⟨i,setRow_heap _ _ _ _ _ _ r,q,t⟩
 cls:=Ar (fT h.cls fun g j=>setRow_other _ _ _ _ (by have:=(h.cls.lt g j).1;omega)) (by omega)
 map:=h.map.kept (setRow_other _ _ _ _ (by have:=h.yR;omega))
 mr:=fun k m=>Ar (fT (h.mr k m) fun g j=>setRow_other _ _ _ _ (by have:=((h.mr k m).lt g j).1;omega)) (by omega)
 apart:=h.apart
 jA:=v
 yR:=by have:=h.yR;omega
theorem Kr {sb:Nat} {wr:World} {g f:Array Value} (b:wr.heap[sb]? = some (.cells f 134 (0,0))):di wr (wr.setRow sb g):=fun k d=>setRow_other _ _ _ _ (fun e=>by
 obtain ⟨x,t,a,c,_⟩:=d
 first
  |(rw [e,b] at a;cases a;exact c rfl)
  |(rw [<- e,b] at a;cases a;exact c rfl))
structure yX (H fs VH:Nat) (wd:World) (u:Key) (es:List dH) (i:Nat) (VX:Value) (Vq:Nat->Value) (ef:List dH) (Vd:Nat->List Nat) (wr:World):Prop where
 below:Below H wd wr
 keeps:di wd wr
 fA:eG H fs wr VX VH 0 u Vq ef Vd
 tab:jJ H wr
 sig:sigs ef=(sigs (es.take i)).filter (fun p=>decide (0 < p.2))
 gG:eU ef Vd
def TT (H fs VH:Nat) (wd:World) (u:Key) (es:List dH) (i29:Value) (wr:World):Prop:=
 ∃ (i:Nat) (VX:Value) (Vq:Nat->Value) (ef:List dH) (Vd:Nat->List Nat),i29=.int .i64 i/\i <= es.length/\Hid (yX H fs VH wd u es i VX Vq ef Vd wr)
theorem Aa {a:List dH} {i:Nat} (b:i < a.length):sigs (a.take (i + 1))=sigs (a.take i) ++ [((a[i]).set,(a[i]).times)]:=by
 rw [List.take_add_one,List.getElem?_eq_getElem b,Option.toList_some,Af]
theorem LJ {H k c:Nat} {j wr:World} {u:Key} {f:List dH} {i:Nat} {d:Value} {a:Nat->Value} {l:List dH} {b:Nat->List Nat} (h:yX H k c j u f i d a l b wr) (n:i < f.length) (m:(f[i]).times=0) {g:World} (e:Below wr.heap.size wr g):
  yX H k c j u f (i + 1) d a l b g where
 below:=h.below.trans (e.mono h.fA.bsize)
 keeps:=h.keeps.trans (di.of_below e)
 fA:=h.fA.later e
 tab:=h.tab.later (e.mono h.fA.bsize)
 sig:=by
  rw [Aa n,List.filter_append,h.sig,m];simp
 gG:=h.gG
theorem Pp {H m f:Nat} {l e:World} {u:Key} {c:List dH} {i:Nat} {h:Value} {d:Nat->Value} {j:List dH} {a:Nat->List Nat} (g:sigs j=(sigs (c.take i)).filter (fun p=>decide (0 < p.2))) (q:i < c.length) (o:0 < (c[i]).times)
  (n:eU (j ++ [{ dZ (c[i]).set with times:=(c[i]).times }]) a) (b:Below H l e) (k:di l e) (S:eG H m e h f 0 u d (j ++ [{ dZ (c[i]).set with times:=(c[i]).times }]) a) (T:jJ H e):
  yX H m f l u c (i + 1) h d (j ++ [{ dZ (c[i]).set with times:=(c[i]).times }]) a e where
 below:=b
 keeps:=k
 fA:=S
 tab:=T
 sig:=by
  rw [Aa q,List.filter_append,Af,g]
  congr 1
  simp [o,dZ]
 gG:=n
theorem LM {b f:List dH} {i:Nat} (a:sigs f=(sigs (b.take i)).filter (fun p=>decide (0 < p.2))) (k:i < b.length) (hd:(b.map dH.set).Nodup):look f (b[i]).set=none:=by
 rw [rC];intro e l g;have:=xV l;rw [a,List.mem_filter] at this;obtain ⟨m,c,d,_⟩:=Cb this.1;obtain ⟨j,h,rfl⟩:=List.mem_iff_getElem.1 c;rw [List.length_take] at h;rw [List.getElem_take] at d;have:=ug hd (i:=j) (j:=i) (by omega) k (d.trans g);omega
theorem Pq {a e:List dH} {i:Nat} (b:sigs e=(sigs (a.take i)).filter (fun p=>decide (0 < p.2))):e.length <= a.length:=by
 have d:=congrArg List.length b;have c:((sigs (a.take i)).filter (fun p=>decide (0 < p.2))).length <= (sigs (a.take i)).length:=List.length_filter_le _ _;unfold sigs at d c;simp only [List.length_map] at d c;have:(a.take i).length <= a.length:=by rw [List.length_take];omega
 omega
theorem DD {B sb mb:Nat} {cv:Value} {j:Int} {u:Key} {wv:Nat->Value} {d:List dH} {wl:Nat->List Nat} (w:World) (ae:d.length <= 1500000000000) (hg:-6000000000000000000 <= j/\j <= 6000000000000000000)
  (O:eG B sb w cv mb j u wv d wl) (hT:jJ B w) (hW:eU d wl) (hd:(d.map dH.set).Nodup) (hu:u.ok):
  Calls Tryz.prog 115 #[.pointer (some ⟨sb,0,none⟩)] w fun e w'=>e=.returned (.tuple #[])/\Below B w w'/\di w w'/\
   ∃ (az:Value) (ar:Nat) (fu:Int) (aq:Nat->Value) (z:List dH) (K:Nat->List Nat),eG B sb w' az ar fu u aq z K/\((fu=j/\sigs z=sigs d/\eU z K)\/(fu=0/\yV d z K)):=by
 obtain ⟨a,aQ,av⟩:=mQ O.cls;subst av;have HS:=hide O;have HT:=hide hT;have HW:=hide hW;have HD:=hide hd;have H:=hide ae;have U:=(O.head 0 (by omega)).1;have y2:=(O.head 2 (by omega)).1;have y3:=(O.head 3 (by omega)).1;have y4:=(O.head 4 (by omega)).1;unfold iH at U y2 y3 y4;have dv:Int.tdiv (d.length:Int) 2=((d.length / 2:Nat):Int):=by
  rw [Int.tdiv_eq_ediv_of_nonneg (by omega)];omega
 clear O hT hW hd;go_enter Tryz.func115,Tryz.ntmps115
 by_cases aB:j <= 100 + ((d.length / 2:Nat):Int)
 ·go_wp2_with fail
  go_quiet (fail)
  have D:Hid (Below w.heap.size w (w.drewN nq)):=dO bR _;go_wp2;refine @bodyPost_ret _ _ _ _ _ (.tuple #[]) ?_ ?_ ?_
  ·simp [results,Tryz.results115,go_sem]
  ·rfl
  exact ⟨rfl,D.out.mono HS.out.bsize,di.of_below D.out,_,_,_,_,_,_,HS.out.later D.out,.inl ⟨rfl,rfl,HW.out⟩⟩
 ·go_wp2_with fail
  go_quiet (fail)
  have D:Hid (Below w.heap.size w (w.drewN nq)):=dO bR _;have h:=hide (HS.out.later D.out);generalize w.drewN nq=b at D h ⊢;have U:=(h.out.head 0 (by omega)).1;have y3:=(h.out.head 3 (by omega)).1;have y4:=(h.out.head 4 (by omega)).1;unfold iH at U y3 y4;have ac:=h.out.row.lt;have ns:¬ (sb=b.heap.size):=by omega
  have aI:¬ (b.heap.size=sb):=by omega
  have aw:=@run_makeMap Tryz.prog;have au:(storeCells ⟨b.heap.size + 1,0,none⟩ (((Tryz.zeroCells134.toList.set 1 (.map (some b.heap.size))).set 3 (.int .u64 (u.1:Int))).set 4 (.int .u64 (u.2:Int)))).run Tryz.prog ((b.alloc (.map #[] 0)).alloc (.cells Tryz.zeroCells134 134))=.ok () (((b.alloc (.map #[] 0)).alloc (.cells Tryz.zeroCells134 134)).setRow (b.heap.size + 1) (newRow b.heap.size u).toArray):=by
   rw [GN];have:=run_storeCells_from (P:=Tryz.prog) (b.heap.size + 1) 134 (newRow b.heap.size u) 0 Tryz.zeroCells134 ((b.alloc (.map #[] 0)).alloc (.cells Tryz.zeroCells134 134)) (by have:=heap_alloc_new (b.alloc (.map #[] 0)) (.cells Tryz.zeroCells134 134);simpa using this) (by rw [xP,Bq]) (GQ _ _);simpa using this
  go_upto_region 2 with fail
  have r:((b.alloc (.map #[] 0)).alloc (.cells Tryz.zeroCells134 134)).heap[b.heap.size + 1]? = some (.cells Tryz.zeroCells134 134 (0,0)):=by have:=heap_alloc_new (b.alloc (.map #[] 0)) (.cells Tryz.zeroCells134 134);simpa using this
  obtain ⟨Y,hY⟩:∃ Y,Y=((b.alloc (.map #[] 0)).alloc (.cells Tryz.zeroCells134 134)).setRow (b.heap.size + 1) (newRow b.heap.size u).toArray:=⟨_,rfl⟩;have BY:Hid (Below b.heap.size b Y):=by
   unfold Hid;rw [hY];exact below_setRow ((bR.alloc lr _).alloc (by simp) _) (by omega) _
  have SY:Hid (eG b.heap.size (b.heap.size + 1) Y (.slice none 0 0) b.heap.size 0 u (fun _=>.slice none 0 0) [] (fun _=>[])):=by
   unfold Hid;refine eG.fresh ?_ ?_ (by omega) lr
   ·rw [hY];exact setRow_heap _ _ _ _ _ _ r
   ·rw [hY];refine (sI b).kept ?_;rw [setRow_other _ _ _ _ (by omega),Below.heap_alloc _ _ _ (by simp)]
  rw [<- hY];clear hY r au aw;have U:=(BY.out.cell (p:=⟨sb,0,none⟩) ac).trans U;have T0:Hid (yX b.heap.size (b.heap.size + 1) b.heap.size b u d 0 (.slice none 0 0) (fun _=>.slice none 0 0) [] (fun _=>[]) Y):=
   ⟨BY.out,di.of_below BY.out,SY.out,by
    have t1:=HT.out.later (D.out.mono HS.out.bsize);have t2:=t1.later (BY.out.mono h.out.bsize);exact ⟨t2.1,by have:=t2.2;have:=h.out.bsize;omega⟩,by simp [sigs],eU.empty⟩
  clear SY BY;go_wp2;go_loopw [29] (fun i wr=>TT b.heap.size (b.heap.size + 1) b.heap.size b u d i wr) (fun i _=>d.length - (intOf i).toNat)
  case atStart=>exact ⟨0,_,_,_,_,rfl,zl,T0⟩
  case round=>
   clear T0 U;obtain ⟨i,C,I,f,m,rfl,aN,T⟩:=hrel;have ap:=hide (h.out.later T.out.below);by_cases q:i < d.length
   ·obtain ⟨cb,aG,ah,aE,aD,aC,aF,c⟩:=ap.out.uZ i q;obtain ⟨q1,q2,q3⟩:=Value.slice.inj ah;subst q1 q3;clear q2 ah;have c0:=(c 0 (by omega)).1;have c1:=(c 1 (by omega)).1;have c2:=(c 2 (by omega)).1;have c3:=(c 3 (by omega)).1;have c4:=(c 4 (by omega)).1;simp only [kV,List.getElem?_cons_succ,List.getElem?_cons_zero] at c0 c1 c2 c3 c4;have c0:wr.cell? ⟨cb,i * 5,none⟩=some (.int .u64 ((d[i]).set.1:Int)):=c0;have aa:(d[i]).set.ok:=HW.out.ok _ (List.getElem_mem _);have aA:=hide (LM T.out.sig q HD.out)
    have ao:Hid (∀ (o:World) (R:Value) (J:Nat->Value),0 < (d[i]).times->Below b.heap.size wr o->di wr o->eG b.heap.size (b.heap.size + 1) o R b.heap.size 0 u J (f ++ [{ dZ (d[i]).set with times:=(d[i]).times }]) (iG m (d[i]).set f.length)->yX b.heap.size (b.heap.size + 1) b.heap.size b u d (i + 1) R J (f ++ [{ dZ (d[i]).set with times:=(d[i]).times }]) (iG m (d[i]).set f.length) o):=fun o R J h1 h2 h3 h4=>
     Pp T.out.sig q h1 (T.out.gG.enter aa _) (T.out.below.trans h2) (T.out.keeps.trans h3) h4 (T.out.tab.later h2)
    have an:Hid (∀ o,(d[i]).times=0->Below wr.heap.size wr o->yX b.heap.size (b.heap.size + 1) b.heap.size b u d (i + 1) C I f m o):=fun o h1 h2=>LJ T.out q h1 h2
    have Q:f.length <= d.length:=Pq T.out.sig;generalize (d[i]).set=s at *
    generalize (d[i]).watched=V at *
    generalize (d[i]).times=t at *
    clear c;have aM:(0:Int) <= (i:Int):=by omega
    have aL:(i:Int) < (d.length:Int):=by omega
    go_upto_region 5 with fail
    have Z:Hid (Below wr.heap.size wr (wr.alloc (.cells #[.int .u64 (s.1:Int),.int .u64 (s.2:Int),.int .u64 (V.1:Int),.int .u64 (V.2:Int),.int .i64 (t:Int)] 180))):=bR.alloc lr _;obtain ⟨X,r⟩:∃ X,X=wr.alloc (.cells #[.int .u64 (s.1:Int),.int .u64 (s.2:Int),.int .u64 (V.1:Int),.int .u64 (V.2:Int),.int .i64 (t:Int)] 180):=⟨_,rfl⟩;have kx:X.heap[wr.heap.size]? = some (.cells #[.int .u64 (s.1:Int),.int .u64 (s.2:Int),.int .u64 (V.1:Int),.int .u64 (V.2:Int),.int .i64 (t:Int)] 180 (0,0)):=by rw [r];exact heap_alloc_new _ _
    have k0:X.cell? ⟨wr.heap.size,0,none⟩=some (.int .u64 (s.1:Int)):=by rw [r];simp
    have k1:X.cell? ⟨wr.heap.size,1,none⟩=some (.int .u64 (s.2:Int)):=by rw [r];simp
    have k4:X.cell? ⟨wr.heap.size,4,none⟩=some (.int .i64 (t:Int)):=by rw [r];simp
    rw [<- r] at Z ⊢;clear r c0 c1 c2 c3 c4;by_cases ht:t=0
    ·subst ht;have NX:=hide (an.out X rfl Z.out);go_wp2;go_roundw
     case rel=>exact ⟨i + 1,_,_,_,_,iE (by omega),by omega,NX⟩
     case measure=>simp [intOf];omega
    ·have tp:(0:Int) < (t:Int):=by omega
     have SX:=hide (T.out.fA.later Z.out);have TX:=hide (T.out.tab.later (Z.out.mono T.out.fA.bsize));have QE:=hide (yu s X aa aA.out (Nat.le_trans Q H.out) (fun k hk=>Nat.le_trans (T.out.gG.len hk) (by have:=H.out;omega)) SX.out TX.out);unfold dn at QE;have KK:Hid (C.ownBlock ≠ some wr.heap.size):=fun e=>by have:=(T.out.fA.cls.lt _ e).2;omega
     go_upto_region 6 with fail
     go_wp2_with fail
     with_reducible refine QE.out.mono ?_
     rintro e6 w6 ⟨rfl,ak,af,aO,aH,al,l⟩;simp only [];have k6:w6.cell? ⟨wr.heap.size,4,none⟩=some (.int .i64 (t:Int)):=(World.cell?_of_block (a:=⟨wr.heap.size,4,none⟩) (al _ _ kx KK.out).1).trans k4;have gx:f.length < (f ++ [dZ s]).length:=by simp
     obtain ⟨S,am,ag,_,_,_,N,g⟩:=l.uZ f.length gx;subst ag;have f4:=(g 4 (by omega)).1;have f5:=(g 4 (by omega)).2;rw [show (f ++ [dZ s])[f.length]'gx=dZ s by simp] at f4;simp only [kV,List.getElem?_cons_succ,List.getElem?_cons_zero] at f4;have f0:w6.cell? ⟨b.heap.size + 1,0,none⟩=some (.slice (some ⟨S,0,none⟩) (f ++ [dZ s]).length am):=(l.head 0 (by omega)).1;have e9:iq (f ++ [dZ s]) f.length t=f ++ [{ dZ s with times:=t }]:=by unfold iq;rw [modify_last]
     have S9:=l.Mh gx t;rw [e9] at S9;have K9:di wr (w6.setCell ⟨S,f.length * 5 + 4,none⟩ (.int .i64 (t:Int))):=((di.of_below Z.out).trans af).trans (l.qM _ _)
     have B9:Below b.heap.size wr (w6.setCell ⟨S,f.length * 5 + 4,none⟩ (.int .i64 (t:Int))):=((Z.out.mono T.out.fA.bsize).trans ak).setCell (by rcases l.cls.2 with ⟨W,_⟩ | ⟨g',c',aP,W,ax,_⟩ <;> cases W;exact ax) _;have NX:=hide (ao.out _ _ _ (by omega) B9 K9 S9);have E:(f ++ [dZ s]).length=f.length + 1:=by simp
     rw [E] at f0 N;rw [show (dZ s).times=0 from rfl] at f4;have aK:(0:Int) <= (f.length:Int):=by omega
     have aJ:(f.length:Int) < ((f.length + 1:Nat):Int):=by omega
     clear l af ak al g S9 K9 B9 e9 QE SX TX k0 k1 k4 kx gx E ao an;go_wp2;go_roundw
     case rel=>exact ⟨i + 1,_,_,_,_,iE (by omega),by omega,NX⟩
     case measure=>simp [intOf];omega
   ·have ei:i=d.length:=by omega
    subst ei;obtain ⟨G,ai,L,aj⟩:=T.out.fA.row;obtain ⟨co,M,ad,_⟩:=ap.out.row;have ay:G.all (·.oneCell')=true:=by
     rw [Array.all_eq_true_iff_forall_mem];intro v hv;obtain ⟨k,hk,e⟩:=Array.mem_iff_getElem.1 hv;have:=aj k (by omega);rw [Array.getElem?_eq_getElem hk,e] at this;rw [Option.some.inj this]
     match k with
     | 0=>
      obtain ⟨x,y,W⟩:=mQ T.out.fA.cls;show C.oneCell'=true
      rw [W];rfl
     | 1=>rfl
     | 2=>rfl
     | 3=>rfl
     | 4=>rfl
     | n + 5=>
      obtain ⟨x,y,W⟩:=mQ (T.out.fA.mr n (by omega));show (I n).oneCell'=true
      rw [W];rfl
    have ab:(Tryz.prog.info? 134).map (·.size)=some G.size:=by rw [L];kernel_rfl
    have HB:B <= b.heap.size:=h.out.bsize;have SN:Hid (eG B sb (wr.setRow sb G) C b.heap.size 0 u I f m):=T.out.fA.moved ai M ac h.out.jA;have BN:Hid (Below B w (wr.setRow sb G)):=below_setRow ((D.out.mono HS.out.bsize).trans (T.out.below.mono HB)) h.out.jA _;have KN:Hid (di w (wr.setRow sb G)):=((di.of_below D.out).trans T.out.keeps).trans (Kr M);have TP:Hid (yV d f m):=⟨by have:=T.out.sig;rw [List.take_length] at this;exact this,T.out.gG⟩;have sz:co.size=G.size:=by rw [ad,L]
    clear aj L ad;go_upto_region 9 with fail
    go_wp2_with (first
     |(refine wpList_load_row rfl 134 _ rfl (b.heap.size + 1) rfl 134 G (0,0) _ ai Tryz.underlying134 rfl ab ?_)
     |(refine wpList_store_row rfl 134 _ _ rfl sb G rfl rfl 134 co M ab sz ay ?_))
    go_end0
    exact ⟨rfl,BN.out,KN.out,_,_,_,_,_,_,SN.out,.inr ⟨rfl,TP.out⟩⟩
end
end
end Rd
end Go.Proofs.YtceahffmenbibaaGreatDoor
