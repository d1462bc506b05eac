/- Shw4 Shw5 Sduo Suse. -/
import Derived.Test.YtceahffmenbibaaGreatDoorJ07
import Derived.Test.YtceahffmenbibaaGreatDoorJ01
set_option linter.unusedVariables false
set_option linter.unusedSimpArgs false
set_option maxHeartbeats 2000000
set_option maxRecDepth 100000
namespace Go.Proofs.YtceahffmenbibaaGreatDoor
namespace So
section
open Go Go.RowKit Go.Deep Rd
section
variable {Z:Nat->Prop} {ob hb:Nat} {w w':World} {wt:Int} {V:Nat->Value} {X:Nat->List Value} {n g:Nat} {items:List Nat} {pl bz:Nat->Int}
theorem NQ (h:Ord Z ob hb w wt V X) (hM:nU n g X items pl bz) {item:Nat} (W:OT n item 0 items pl) (hg:pl g=-1) (D:item ≠ g) (Y:items.length <= 1000):
  Calls Tryz.prog 226 #[.pointer (some ⟨hb,0,none⟩),.int .i64 (item:Nat)] w fun e w'=>e=.returned (.tuple #[])/\qY Z ob hb w wt V n g items.length (fun v=>pl v=-1/\v ≠ item) bz w':=by
 have S0:Hid (kY Z ob hb w wt V n g item items pl bz 0 X items pl w):=⟨h,hM,W,rfl,fun _ _=>Iff.rfl,dD.refl _⟩;clear h hM W;go_enter Tryz.func226,Tryz.ntmps226
 go_wp2_with fail
 go_loopw [4,5,6] (fun M _ _ wr=>Js Z ob hb w wt V n g item items pl bz M wr) (fun M _ _ _=>items.length - (intOf M).toNat)
 case atStart=>exact ⟨0,X,items,pl,rfl,S0⟩
 case round=>
  clear S0;obtain ⟨k,X',a,aa,rfl,c⟩:=hrel;have q:k < a.length:=c.out.hp.hho;have C:=c.out.len;have QF:=hide (yt c.out.ord c.out.GK c.out.hp.lt q (by omega));go_upto_region 2 with (go_at_call 244;refine QF.out.mono ?_;rintro e7 w7 ⟨b,ok,rfl,z,j7,rfl⟩;have R:=hide z;clear z;simp only [])
  obtain ⟨i,t⟩:∃ i,i=wr.drewN j7:=⟨_,rfl⟩;have b1:Below wr.heap.size wr i:=by rw [t];exact Go.below_drewN bR _
  rw [<- t];have m:=hide (c.out.later b1);clear t b1 c QF;have u:Hid (∀ o,Below i.heap.size i o->Calls Tryz.prog 203 #[.pointer (some ⟨hb,0,none⟩),.int .i64 (k:Nat),.int .i64 (item:Nat)] o fun e w'=>e=.returned (.tuple #[])/\qY Z ob hb w wt V n g items.length (fun v=>pl v=-1/\v ≠ item) bz w'):=fun o N=>by
   have l:=m.out.later N;refine (ru l.ord l.GK (v:=item) (p:=k) l.hp.hit q).mono ?_;rintro e7 w7 ⟨h1,h2,h3⟩;exact ⟨h1,l.close D h2 h3⟩
  cases ok with
  | false=>
   go_quiet (fail)
   have J:=hide (u.out (i.drewN nq) (Go.below_drewN bR _));go_wp2_with (go_at_call 203;refine J.out.mono ?_;rintro e8 L ⟨rfl,d⟩;have Q:=hide d;clear d;simp only [])
   go_end0
   exact ⟨rfl,Q.out⟩
  | true=>
   obtain ⟨ab,r⟩:=R.out rfl;obtain ⟨ac,ad,T,H⟩:=m.out.ord.item m.out.GK r;have U:=m.out.ord.cells.2.2.2.2.2.1;unfold ahead at U;obtain ⟨x,I⟩:∃ x,x=a[b]:=⟨_,rfl⟩;have y:x < n:=by rw [I];exact m.out.hp.lt _ (List.getElem_mem _)
   have P:Hid (∀ j,Calls Tryz.prog 126 #[.pointer (some ⟨ob,0,none⟩),.int .i64 (x:Nat),.int .i64 (item:Nat)] (i.drewN j) fun e w'=>e=.returned (.bool (decide (bz item < bz x)))/\∃ k,w'=(i.drewN j).drewN k):=fun j=>lZ (m.out.ord.later (Go.below_drewN bR _)) m.out.GK y m.out.hp.hit
   rw [<- I] at H;have HX:=hide I;have m0:(0:Int) <= (b:Int):=by omega
   have m1:(b:Int) < (a.length:Int):=by omega
   have G:b ≠ k:=by omega
   have S:=hide C;clear I C;generalize decide (bz item < bz x)=bb at P;go_quiet ((go_at_call 126;exact Calls.quiet_of (P.out _)))
   obtain ⟨o,s⟩:∃ o,o=i.drewN nq:=⟨_,rfl⟩;have O:Below i.heap.size i o:=by rw [s];exact Go.below_drewN bR _
   rw [<- s];have l:=hide (m.out.later O);have J:=hide (u.out o O);clear s O m P T H U u
   cases bb with
   | false=>
    go_wp2_with (go_at_call 203;refine J.out.mono ?_;rintro e8 L ⟨rfl,d⟩;have Q:=hide d;clear d;simp only [])
    go_end0
    exact ⟨rfl,Q.out⟩
   | true=>
    have QP:=hide (ru l.out.ord l.out.GK (v:=x) (p:=k) y q);have MV:=hide (fun wx ho hc=>l.out.move (wx:=wx) hg D r G ho hc);rw [<- HX.out] at MV;obtain ⟨g3,c3,T,H⟩:=l.out.ord.item l.out.GK r;rw [<- HX.out] at H;clear l J;go_wp2_with (go_at_call 203;refine QP.out.mono ?_;rintro e8 L ⟨rfl,B,E⟩;have F8:=hide (MV.out L B E);clear B E;simp only [])
    go_roundw
    case rel=>exact ⟨b,_,_,_,rfl,F8⟩
    case measure=>have:=S.out;simp [intOf];omega
theorem nU.placed (h:nU n g X items pl bz) (d:g < n) (b:pl g=-1):nU n n (upd X 0 ((X 0).set g (.int .i64 (-1)))) items pl bz where
 n0:=by rw [cK,List.length_set];exact h.n0
 t0:=fun v a _=>by
  rw [cK];by_cases e:v=g
  ·subst e;rw [List.getElem?_set_self (by rw [h.n0];exact a),b]
  ·rw [List.getElem?_set_ne (fun c=>e c.symm)];exact h.t0 v a e
 i0:=fun v a=>by
  rw [cK];by_cases e:v=g
  ·subst e;exact ⟨_,List.getElem?_set_self (by rw [h.n0];exact a)⟩
  ·rw [List.getElem?_set_ne (fun c=>e c.symm)];exact h.i0 v a
 n1:=by rw [cu _ _ (by decide)];exact h.n1
 t1:=by rw [cu _ _ (by decide)];exact h.t1
 t2:=by rw [cu _ _ (by decide)];exact h.t2
def y9 (Z:Nat->Prop) (ob hb n:Nat) (w:World) (gone:Nat->Prop) (e:Ending) (w':World):Prop:=
 dD Z w w'/\((e=.returned (.tuple #[.int .i64 0,.bool false])/\(∀ v,v < n->gone v)/\iI Z ob hb n w' gone)\/∃ v:Nat,e=.returned (.tuple #[.int .i64 (v:Nat),.bool true])/\v < n/\¬ gone v/\iI Z ob hb n w' (fun x=>gone x\/x=v))
theorem PR {gone:Nat->Prop} (h:iI Z ob hb n w gone) (hn:n <= 50):
  Calls Tryz.prog 191 #[.pointer (some ⟨hb,0,none⟩)] w fun e w'=>y9 Z ob hb n w gone e w':=by
 obtain ⟨wt,V,X,items,pl,bz,z,s,u,r⟩:=h.ex;have ll:=u.len;obtain ⟨a2,R,L⟩:=z.fG.shape (k:=2) (by omega);have Q:(X 2).length=items.length:=by rw [s.t2,dh]
 have D:=z.cells.2.2.2.2.1;rw [L,Q] at D;by_cases y:items.length=0
 ·have F:Hid (y9 Z ob hb n w gone (.returned (.tuple #[.int .i64 0,.bool false])) w):=⟨dD.refl _,.inl ⟨rfl,fun v hv=>(r v).1 (u.empty y hv),h⟩⟩;rw [y] at D;clear h z s u r L Q y;go_enter Tryz.func191,Tryz.ntmps191
  go_wp2;go_ret2
  exact F.out
 ·obtain ⟨l,hl⟩:∃ l,items.length=l + 1:=⟨items.length - 1,by omega⟩;obtain ⟨g2,am,C,r0⟩:=z.item s (show 0 < items.length by omega);obtain ⟨ag,al,i,rl⟩:=z.item s (show l < items.length by omega);rw [D] at C i;obtain ⟨e1,_,e3⟩:=Value.slice.inj (Option.some.inj C);obtain ⟨M,_,ah⟩:=Value.slice.inj (Option.some.inj i);subst e1 e3;obtain rfl:g2=ag:=by have:=Option.some.inj M;exact congrArg Addr.block this
  obtain ⟨first,I⟩:∃ x,x=items[0]:=⟨_,rfl⟩;obtain ⟨b,o⟩:∃ x,x=items[l]:=⟨_,rfl⟩;have Wo : items[0]? = some first:=by rw [I];exact List.getElem?_eq_getElem _
  have Wn : items[l]? = some b:=by rw [o];exact List.getElem?_eq_getElem _
  have fn:first < n:=by rw [I];exact u.lt _ (List.getElem_mem _)
  have ln:b < n:=by rw [o];exact u.lt _ (List.getElem_mem _)
  have Y:pl first=(0:Nat):=by rw [I];exact u.pl 0 (by omega)
  have E:pl b=(l:Nat):=by rw [o];exact u.pl l (by omega)
  rw [<- I] at r0;rw [<- o] at rl;obtain ⟨T,c1⟩:=z.cut L (m:=l) (by omega);rw [s.t2,oH] at T;have M1:nU n first (upd X 2 (dC (items.take l))) (items.take l) (eu pl first (-1)) bz:=⟨by rw [cu _ _ (by decide)];exact s.n0,fun v hv ab=>by rw [cu _ _ (by decide),dm _ _ ab];exact s.t0 v hv (by omega),by rw [cu _ _ (by decide)];exact s.i0,by rw [cu _ _ (by decide)];exact s.n1,by rw [cu _ _ (by decide)];exact s.t1,cK ..⟩
  have aa:¬ gone first:=fun ae=>by have:=(r first).2 ae;omega
  have d:Hid (∀ W Vx X' a c,dD Z w W->Ord Z ob hb W wt Vx X'->nU n first X' a c bz->Dg n a c->(∀ v,c v=-1↔gone v\/v=first)->Calls Tryz.prog 127 #[.pointer (some ⟨ob,0,none⟩),.int .i64 (first:Nat),.int .i64 (-1)] W fun e w'=>e=.returned (.tuple #[])/\y9 Z ob hb n w gone (.returned (.tuple #[.int .i64 (first:Nat),.bool true])) w'):=fun W Vx X' a c hc ho hm hi p=>by
   refine (tK ho hm (-1) fn).mono ?_;rintro e7 S ⟨h1,h2,h3⟩;refine ⟨h1,hc.trans h3,.inr ⟨first,rfl,fn,aa,⟨wt,Vx,_,a,c,bz,h2,hm.placed fn ((p first).2 (.inr rfl)),hi,p⟩,.inl h.last⟩⟩
  have P:∀ v,eu pl first (-1) v=-1↔gone v\/v=first:=fun v=>by
   by_cases e:v=first
   ·subst e;rw [dx];simp
   ·rw [dm _ _ e,r v];simp [e]
  have aj:l <= R:=by
   have:=z.fG.own 2 (by omega);rw [L] at this
   rcases this.2 with ⟨e,_⟩ | ⟨_,ak,_,e,_,_,ad,_⟩
   ·cases e
   ·obtain ⟨_,_,q⟩:=Value.slice.inj e;rw [Q] at ad;omega
  have B:=hide T;have C1:=hide c1;have t:=hide M1;have i0:(0:Int) < (l:Int) + 1:=by omega
  have i1:(l:Int) < (l:Int) + 1:=by omega
  have i2:(l:Int) <= (R:Int):=by omega
  have i3:(l:Int) + 1 <= 50:=by omega
  have i4:(0:Int) <= (l:Int):=by omega
  have zz:=z.cells.2.2.2.2.2.2.2.1;rw [hl] at D;have N:=hide u;have O:=hide hl;have HF:=hide Wo;have ai:=hide Wn;clear h z s u r L Q C i M ah T c1 M1 I o Wo Wn hl y;go_enter Tryz.func191,Tryz.ntmps191
  go_upto_region 8 with fail
  generalize af:w.setCell ⟨hb,0,none⟩ (.slice (some ⟨g2,0,none⟩) l R)=W1 at B C1 ⊢;generalize upd V 2 (.slice (some ⟨g2,0,none⟩) l R)=V1 at B;generalize upd X 2 (dC (items.take l))=X1 at B t;clear af D r0 rl zz;have U:=B.out.cells.2.2.2.2.2.2.1;unfold placed at U
  cases l with
  | zero=>
   have QD:=hide (d.out W1 V1 X1 (items.take 0) (eu pl first (-1)) C1.out B.out t.out (N.out.Tm O.out HF.out) P);clear d P B t;go_wp2_with (go_at_call 127;refine QD.out.mono ?_;rintro e7 S ⟨rfl,j⟩;have P7:=hide j;clear j;simp only [])
   go_ret2
   exact P7.out
  | succ m=>
   have G:b ≠ first:=fun e=>by rw [e,Y] at E;omega
   have HH:=N.out.pop (l:=m) O.out HF.out ai.out;have QF:=hide (NQ B.out t.out HH (dx ..) G (by rw [List.length_take];omega));have D2:Hid (∀ W,qY Z ob hb W1 wt V1 n first (items.take (m + 1)).length (fun v=>eu pl first (-1) v=-1/\v ≠ b) bz W->W.cell? ⟨hb,2,none⟩=some (.func (.func 127) #[.pointer (some ⟨ob,0,none⟩)] #[])/\Calls Tryz.prog 127 #[.pointer (some ⟨ob,0,none⟩),.int .i64 (first:Nat),.int .i64 (-1)] W fun e w'=>e=.returned (.tuple #[])/\y9 Z ob hb n w gone (.returned (.tuple #[.int .i64 (first:Nat),.bool true])) w'):=fun W ac=>by
    obtain ⟨X',a,c,r1,r2,r3,r4,r5,r6⟩:=ac.ex;refine ⟨r1.cells.2.2.2.2.2.2.1,d.out W V1 X' a c (C1.out.trans r6) r1 r2 r3 fun v=>?_⟩;rw [r5 v,P v];constructor
    ·exact fun h=>h.1
    ·intro h;refine ⟨h,fun e=>?_⟩;subst e;have h2:=(P v).2 h;rw [dm _ _ G,E] at h2;omega
   have l0:(0:Int) < ((m + 1:Nat):Int):=by omega
   clear d P B t HH U;go_wp2_with (first
    |(go_at_call 226;refine QF.out.mono ?_;rintro e7 S ⟨rfl,j⟩;obtain ⟨U,J⟩:=D2.out S j;have QD:=hide J;clear J j;simp only [])
    |(go_at_call 127;refine QD.out.mono ?_;rintro e8 w8 ⟨rfl,H⟩;have P8:=hide H;clear H;simp only []))
   go_ret2
   exact P8.out
end
section
variable {Z:Nat->Prop} {ob hb:Nat} {w w':World} {wt:Int} {V:Nat->Value} {X:Nat->List Value} {n g:Nat} {items:List Nat} {pl bz:Nat->Int} {gone:Nat->Prop}
theorem iI.congr {fu:Nat->Prop} (h:iI Z ob hb n w gone) (a:∀ v,gone v↔fu v):iI Z ob hb n w fu:=by
 obtain ⟨wt,V,X,items,pl,bz,e,d,c,b⟩:=h.ex;exact ⟨⟨wt,V,X,items,pl,bz,e,d,c,fun v=>(b v).trans (a v)⟩,(a n).1 h.last⟩
theorem MZ (h:iI Z ob hb n w gone) (d:n <= 50):
  Calls Tryz.prog 146 #[.pointer (some ⟨ob,0,none⟩)] w fun e w'=>y9 Z ob hb n w gone e w':=by
 have i:=hide (PR h d);obtain ⟨wt,V,X,items,pl,bz,b,-⟩:=h.ex;have q:=b.cells.1;clear h b;go_enter Tryz.func146,Tryz.ntmps146
 go_upto_region 1 with fail
 go_wp2_with (go_at_call 191;refine i.out.mono ?_;rintro l k a;have j:=hide a;rcases a.2 with ⟨rfl,c⟩ | ⟨v,rfl,c⟩ <;> (clear a c;simp only []))
 all_goals (go_wp2;go_ret2;exact j.out)
theorem nU.place (d:nU n n X items pl bz) (h:Ord Z ob hb w wt V X) {v:Nat} (c:v < n):∃ a b,w.cell? ⟨ob,1,none⟩=some (.slice (some ⟨a,0,none⟩) n b)/\w.cell? ⟨a,v,none⟩=some (.int .i64 (pl v)):=by
 obtain ⟨a,b,t,e,r,s,_⟩:=h.elem (k:=0) (j:=v) (by omega) d.n0 c;rw [d.t0 v c (by omega)] at s;obtain rfl:=Option.some.inj s;have:=h.cells.2.1;rw [e] at this;exact ⟨a,b,this,r⟩
theorem Lp (h:iI Z ob hb n w gone) {v:Nat} (m:v < n) (q:n <= 50):
  Calls Tryz.prog 178 #[.pointer (some ⟨ob,0,none⟩),.int .i64 (v:Nat)] w fun e w'=>e=.returned (.tuple #[])/\dD Z w w'/\iI Z ob hb n w' (fun x=>gone x/\x ≠ v):=by
 obtain ⟨wt,V,X,items,pl,bz,i,k,l,b⟩:=h.ex;obtain ⟨E,H,C,o⟩:=k.place i m;have D:=i.cells.1;have B:(0:Int) <= (v:Int):=by omega
 have z:(v:Int) < (n:Int):=by omega
 by_cases a:pl v=-1
 ·have r:Hid (Calls Tryz.prog 128 #[.pointer (some ⟨hb,0,none⟩),.int .i64 (v:Nat)] w fun e w'=>e=.returned (.tuple #[])/\dD Z w w'/\iI Z ob hb n w' (fun x=>gone x/\x ≠ v)):=(Ms i k l m a ((b n).2 h.last) q).mono fun e w' ⟨h1,h2,h3⟩=>⟨h1,h2,h3.congr fun x=>by rw [b x]⟩
  rw [a] at o;clear h i k l b a;go_enter Tryz.func178,Tryz.ntmps178
  go_wp2_with (go_at_call 128;refine r.out.mono ?_;rintro G y ⟨rfl,d,c⟩;have s:=hide c;have u:=hide d;clear c d;simp only [])
  go_end0
  exact ⟨rfl,u.out,s.out⟩
 ·have F:Hid (iI Z ob hb n w (fun x=>gone x/\x ≠ v)):=h.congr fun x=>⟨fun j=>⟨j,fun e=>a ((b v).2 (e ▸ j))⟩,fun j=>j.1⟩
  have p:(pl v == -1)=false:=by simpa using a
  generalize pl v=t at *
  clear h i k l b a;go_enter Tryz.func178,Tryz.ntmps178
  go_wp2;go_end0
  exact ⟨rfl,dD.refl _,F.out⟩
theorem Rq (h:iI Z ob hb n w gone):
  Calls Tryz.prog 144 #[.pointer (some ⟨ob,0,none⟩)] w fun e w'=>e=.returned (.tuple #[])/\dD Z w w'/\iI Z ob hb n w' gone:=by
 obtain ⟨wt,V,X,items,pl,bz,d,j,i,c⟩:=h.ex;have l:=d.cells.2.2.2.1;have k:=d.cells.2.2.2.2.2.2.2.2;have F:Hid (∀ t,dD Z w (w.setCell ⟨ob,3,none⟩ (.int .i64 t)).drew/\iI Z ob hb n (w.setCell ⟨ob,3,none⟩ (.int .i64 t)).drew gone):=fun t=>by
  obtain ⟨a,b⟩:=d.weight t;exact ⟨b.drew,⟨t,V,X,items,pl,bz,a.later bR.drew,j,i,c⟩,h.last⟩
 clear h d j i c;go_enter Tryz.func144,Tryz.ntmps144
 go_region_with fail
 all_goals
  go_wp2;go_end0
  exact ⟨rfl,F.out _⟩
theorem nU.Om (h:nU n g X items pl bz) {v:Nat} (t:Int):nU n g (upd X 1 ((X 1).set v (.int .i64 t))) items pl (eu bz v t) where
 n0:=by rw [cu _ _ (by decide)];exact h.n0
 t0:=by rw [cu _ _ (by decide)];exact h.t0
 i0:=by rw [cu _ _ (by decide)];exact h.i0
 n1:=by rw [cK,List.length_set];exact h.n1
 t1:=fun x a=>by
  rw [cK];by_cases e:x=v
  ·subst e;rw [List.getElem?_set_self (by rw [h.n1];exact a),dx]
  ·rw [List.getElem?_set_ne (fun b=>e b.symm),dm _ _ e];exact h.t1 x a
 t2:=by rw [cu _ _ (by decide)];exact h.t2
def FZ (Z:Nat->Prop) (ob hb n:Nat) (w:World) (V:Nat->Value) (items:List Nat) (pl:Nat->Int) (wt:Int) (s:Value) (wr:World):Prop:=
 ∃ (i:Nat) (X:Nat->List Value) (bz:Nat->Int),s=.int .i64 ((i:Nat):Int)/\i <= n/\Hid (Ord Z ob hb wr wt V X/\nU n n X items pl bz/\dD Z w wr)
def qX (Z:Nat->Prop) (ob hb n:Nat) (w:World) (V:Nat->Value) (items:List Nat) (pl:Nat->Int) (w':World):Prop:=dD Z w w'/\∃ Ws X' WA,Ord Z ob hb w' Ws V X'/\nU n n X' items pl WA
theorem JM (h:Ord Z ob hb w wt V X) (p:nU n n X items pl bz) (L:n <= 50):
  Calls Tryz.prog 238 #[.pointer (some ⟨ob,0,none⟩)] w fun e w'=>e=.returned (.tuple #[])/\qX Z ob hb n w V items pl w':=by
 have r:Hid (Ord Z ob hb w wt V X/\nU n n X items pl bz/\dD Z w w):=⟨h,p,dD.refl _⟩;obtain ⟨N,M,l⟩:=h.fG.shape (k:=1) (by omega);have o:=h.cells.2.2.1;rw [l,p.n1] at o;clear h p l;go_enter Tryz.func238,Tryz.ntmps238
 go_wp2_with fail
 go_loopw [2,8] (fun _ s wr=>FZ Z ob hb n w V items pl wt s wr) (fun _ s _=>n - (intOf s).toNat)
 case atStart=>exact ⟨0,X,bz,rfl,zl,r⟩
 case round=>
  clear r o;obtain ⟨i,X',m,rfl,y,c⟩:=hrel;by_cases d:i < n
  ·obtain ⟨g1,z,G,l,H,q,D,-⟩:=c.out.1.elem (k:=1) (j:=i) (by omega) c.out.2.1.n1 d;have o:=c.out.1.cells.2.2.1;rw [l] at o;rw [c.out.2.1.t1 i d] at q;obtain rfl:=Option.some.inj q;have J:(0:Int) <= (i:Int):=by omega
   have u:(i:Int) < (n:Int):=by omega
   have B:Hid (∀ t v,v=.int .i64 ((i + 1:Nat):Int)->FZ Z ob hb n w V items pl wt v (wr.setCell ⟨g1,i,none⟩ (.int .i64 t))):=fun t v x=>by
    obtain ⟨a,b⟩:=c.out.1.set (k:=1) (by omega) l i (.int .i64 t);exact ⟨i + 1,_,_,x,d,a,c.out.2.1.Om t,c.out.2.2.trans b⟩
   clear c l;generalize m i=E at *
   go_wp2;go_roundw
   case rel=>exact B.out _ _ (by go_num)
   case measure=>simp [intOf];omega
  ·have I:=c.out.1.cells.2.2.2.1;have C:=c.out.1.cells.2.2.2.2.2.2.2.2;have F:Hid (∀ t,qX Z ob hb n w V items pl (wr.setCell ⟨ob,3,none⟩ (.int .i64 t))):=fun t=>by
    obtain ⟨a,b⟩:=c.out.1.weight t;exact ⟨c.out.2.2.trans b,t,X',m,a,c.out.2.1⟩
   have u:¬ ((i:Int) < (n:Int)):=by omega
   clear c;go_wp2;go_end0;exact ⟨rfl,F.out _⟩
theorem PH (h:Ord Z ob hb w wt V X) (D:nU n n X items pl bz) (l:Dg n items pl) (b:∀ v,pl v=-1↔gone v) (q:gone n) (L:n <= 50) {v:Nat} (B:v < n) {p:Int} (c:pl v=p) (k:p ≠ -1):
  Calls Tryz.prog 173 #[.pointer (some ⟨hb,0,none⟩),.int .i64 p] w fun e w'=>e=.returned (.tuple #[])/\dD Z w w'/\iI Z ob hb n w' gone:=by
 rcases l.at' v B with m | ⟨i,m,r⟩
 ·exact absurd (c.symm.trans m) k
 ·obtain ⟨C,H⟩:=List.getElem?_eq_some_iff.1 r;have o:=l.open C;rw [H] at o;have J:=l.len;have e:p=(i:Nat):=c.symm.trans m;subst e;refine (DZ h D o r ((b n).2 q) (by omega) (by omega)).mono ?_;rintro e w' ⟨G,E⟩;obtain ⟨X',a,j,z,y,u,I,t,s⟩:=E.ex;refine ⟨G,s,⟨wt,V,X',a,j,bz,z,y,u,fun x=>?_⟩,q⟩;rw [t x,b x];refine ⟨fun d=>d.1,fun d=>⟨d,fun e=>?_⟩⟩;subst e;have:=(b x).2 d;omega
theorem Lr (h:iI Z ob hb n w gone) {v:Nat} (r:v < n) (R:n <= 50):
  Calls Tryz.prog 217 #[.pointer (some ⟨ob,0,none⟩),.int .i64 (v:Nat)] w fun e w'=>e=.returned (.tuple #[])/\dD Z w w'/\iI Z ob hb n w' gone:=by
 obtain ⟨wt,V,X,items,pl,bz,B,I,Q,y⟩:=h.ex;have S:=h.last;obtain ⟨g1,c1,t1,M,H,P,z1,aa,l1,no,nh⟩:=B.elem (k:=1) (j:=v) (by omega) I.n1 r;have u:=B.cells.2.2.1;rw [M] at u;have q3:=B.cells.2.2.2.1;rw [I.t1 v r] at P;obtain rfl:=Option.some.inj P;have v0:(0:Int) <= (v:Int):=by omega
 have v1:(v:Int) < (n:Int):=by omega
 have Y:Hid (∀ t,Ord Z ob hb (w.setCell ⟨g1,v,none⟩ (.int .i64 t)).drew wt V (upd X 1 ((X 1).set v (.int .i64 t)))/\nU n n (upd X 1 ((X 1).set v (.int .i64 t))) items pl (eu bz v t)/\dD Z w (w.setCell ⟨g1,v,none⟩ (.int .i64 t)).drew):=fun t=>by
  obtain ⟨a,b⟩:=B.set (k:=1) (by omega) M v (.int .i64 t);exact ⟨a.later bR.drew,I.Om t,b.drew⟩
 have U:=hide Q;have D:=hide y;clear h B I Q y M;generalize bz v=tt at *
 go_enter Tryz.func217,Tryz.ntmps217
 go_upto_region 0 with fail
 go_cut [] from 4 (fun G=>∃ t,Hid (Ord Z ob hb G wt V (upd X 1 ((X 1).set v (.int .i64 t)))/\nU n n (upd X 1 ((X 1).set v (.int .i64 t))) items pl (eu bz v t)/\dD Z w G))
 case first=>
  go_region_with fail
  all_goals
   go_wp2_with fail
   go_meet;exact ⟨_,Y.out _⟩
 case rest=>
  obtain ⟨t,l⟩:=hcut;clear Y u q3 H z1;obtain ⟨ad,ae,ab,C,L,s,-⟩:=l.out.1.elem (k:=1) (j:=v) (by omega) l.out.2.1.n1 r;have u:=l.out.1.cells.2.2.1;rw [C] at u;rw [l.out.2.1.t1 v r] at s;obtain rfl:=Option.some.inj s;have T:=hide (JM l.out.1 l.out.2.1 R);have W:Hid (qX Z ob hb n w V items pl wc):=⟨l.out.2.2,wt,_,_,l.out.1,l.out.2.1⟩;have C1:=hide l.out.2.2;clear l C;generalize eu bz v t v=t2 at *
  go_upto_if 24 with fail
  go_cut [] from 4 (fun G=>Hid (qX Z ob hb n w V items pl G))
  case first=>
   go_wp2_with (go_at_call 238;refine T.out.mono ?_;rintro e7 O ⟨rfl,o⟩;have S7:Hid (qX Z ob hb n w V items pl O):=⟨C1.out.trans o.1,o.2⟩;clear o;simp only [])
   ·go_meet;exact S7
   ·go_meet;exact W
  case rest=>
   rename_i wy _;obtain ⟨q,J,X2,N,c,m⟩:=hcut.out;clear hcut W T C1 u L;obtain ⟨g0,c0,q1,H⟩:=m.place c r;have q0:=c.cells.1;have E:=hide q;by_cases i:pl v=-1
   ·have F:Hid (iI Z ob hb n wc gone):=⟨⟨J,V,X2,items,pl,N,c,m,U.out,D.out⟩,S⟩;rw [i] at H;clear c m q i;go_wp2;go_end0;exact ⟨rfl,E.out,F.out⟩
   ·obtain ⟨p,d⟩:∃ p,pl v=p:=⟨_,rfl⟩;have QR:Hid (Calls Tryz.prog 173 #[.pointer (some ⟨hb,0,none⟩),.int .i64 p] wc.drew fun e w'=>e=.returned (.tuple #[])/\dD Z wc.drew w'/\iI Z ob hb n w' gone):=PH (c.later bR.drew) m U.out D.out S R r d (fun e=>i (d.trans e));have ac:(p != -1)=true:=by simpa using fun e=>i (d.trans e)
    rw [d] at H;clear c m q i d;have CD:Hid (dD Z w wc.drew):=E.out.drew;go_upto_region 4 with fail
    go_region_with (go_at_call 173;refine QR.out.mono ?_;rintro e7 O ⟨rfl,z,x⟩;have C7:=hide (CD.out.trans z);have O7:=hide x;clear z x;simp only [])
    all_goals
     go_wp2;go_end0
     exact ⟨rfl,C7.out,O7.out⟩
end
section
variable {Z:Nat->Prop} {sb ob hb K n:Nat} {w w':World} {f f' V V':Nat->Value} {X X':Nat->List Value} {gone fu:Nat->Prop}
def zz (R:Nat->Prop) (w:World) (g:Nat):Prop:=R g\/w.heap.size <= g
theorem dX.JS {Z':Nat->Prop} (h:dX Z sb w K f V X) (c:∀ g,g < w.heap.size->Z g->Z' g) (d:∀ g,w.heap.size <= g->Z' g):dX Z' sb w K f V X:=
 ⟨h.row,h.fG,h.hdr,c sb h.row.lt h.jA,fun k a g b=>c g ((h.fG.own k a).lt g b).2 (h.al k a g b),d,h.hK⟩
theorem dX.kept (h:dX Z sb w K f V X) {Z':Nat->Prop} (c:dD Z' w w') (hd:∀ g,g < w.heap.size->Z g->¬ Z' g):dX Z sb w' K f V X:=
 ⟨h.row.of_block (c.block _ h.row.lt (hd sb h.row.lt h.jA)),h.fG.kept fun k g b a=>c.block g ((h.fG.own k b).lt g a).2 (hd g ((h.fG.own k b).lt g a).2 (h.al k b g a)),h.hdr,h.jA,h.al,fun g a=>h.az g (Nat.le_trans c.size a),h.hK⟩
theorem Ord.JS {wt:Int} {Z':Nat->Prop} (h:Ord Z ob hb w wt V X) (a:∀ g,g < w.heap.size->Z g->Z' g) (d:∀ g,w.heap.size <= g->Z' g):Ord Z' ob hb w wt V X:=
 ⟨h.jD,h.hrow,h.fG,a ob h.jD.lt h.zo,a hb h.hrow.lt h.zh,fun k b g c=>a g ((h.fG.own k b).lt g c).2 (h.al k b g c),d⟩
theorem iI.JS {Z':Nat->Prop} (h:iI Z ob hb n w gone) (d:∀ g,g < w.heap.size->Z g->Z' g) (c:∀ g,w.heap.size <= g->Z' g):iI Z' ob hb n w gone:=by
 obtain ⟨wt,V,X,items,pl,bz,b,a⟩:=h.ex;exact ⟨⟨wt,V,X,items,pl,bz,b.JS d c,a⟩,h.last⟩
theorem iJ {R:Nat->Prop} {g:Nat} (a:g < w.heap.size) (h:zz R w g):R g:=by
 rcases h with h | h
 ·exact h
 ·omega
theorem iI.mX {R:Nat->Prop} (h:iI (zz R w) ob hb n w gone) {Z':Nat->Prop} (i:dD Z' w w') (hd:∀ g,g < w.heap.size->R g->¬ Z' g):iI (zz R w') ob hb n w' gone:=by
 have j:iI (fun g=>R g\/w.heap.size <= g) ob hb n w gone:=h;obtain ⟨wt,V,X,items,pl,bz,a,e⟩:=h.ex;have c:=a.kept i (hd ob a.jD.lt (iJ a.jD.lt a.zo)) (hd hb a.hrow.lt (iJ a.hrow.lt a.zh)) fun k c g b=>hd g ((a.fG.own k c).lt g b).2 (iJ ((a.fG.own k c).lt g b).2 (a.al k c g b))
 exact ⟨⟨wt,V,X,items,pl,bz,⟨c.jD,c.hrow,c.fG,.inl (iJ a.jD.lt a.zo),.inl (iJ a.hrow.lt a.zh),fun k d g b=>.inl (iJ ((a.fG.own k d).lt g b).2 (a.al k d g b)),fun g b=>.inr b⟩,e⟩,h.last⟩
theorem dX.mX {R:Nat->Prop} (h:dX (zz R w) sb w K f V X) {Z':Nat->Prop} (d:dD Z' w w') (hd:∀ g,g < w.heap.size->R g->¬ Z' g):dX (zz R w') sb w' K f V X:=by
 have c:=h.kept d fun g a e=>hd g a (iJ a e)
 exact ⟨c.row,c.fG,c.hdr,.inl (iJ h.row.lt h.jA),fun k b g a=>.inl (iJ ((h.fG.own k b).lt g a).2 (h.al k b g a)),fun g a=>.inr a,h.hK⟩
structure Duo (Z:Nat->Prop) (sb ob hb n:Nat) (w:World) (K:Nat) (f V:Nat->Value) (X:Nat->List Value) (gone:Nat->Prop) (Rs Ro:Nat->Prop):Prop where
 dM:dX (zz Rs w) sb w K f V X
 ord:iI (zz Ro w) ob hb n w gone
 f12:f 12=.pointer (some ⟨ob,0,none⟩)
 yB:∀ g,Rs g->¬ Ro g
 ls:∀ g,Rs g->g < w.heap.size
 lo:∀ g,Ro g->g < w.heap.size
 zs:∀ g,Rs g->Z g
 zo:∀ g,Ro g->Z g
 az:∀ g,w.heap.size <= g->Z g
variable {Rs Ro:Nat->Prop}
theorem Duo.wW (h:Duo Z sb ob hb n w K f V X gone Rs Ro) {R:Nat->Prop} (c:∀ g,R g->Z g):∀ g,zz R w g->Z g:=fun g b=>by
 rcases b with a | a
 ·exact c g a
 ·exact h.az g a
theorem Duo.iL (h:Duo Z sb ob hb n w K f V X gone Rs Ro) (e:dX (zz Rs w) sb w' K f' V' X') (d:dD (zz Rs w) w w') (i:f' 12=f 12):Duo Z sb ob hb n w' K f' V' X' gone (fun g=>zz Rs w g/\g < w'.heap.size) Ro/\dD Z w w':=by
 refine ⟨{
  dM:=e.JS (fun g a b=>.inl ⟨b,a⟩) (fun g c=>.inr c)
  ord:=h.ord.mX d fun g c a b=>h.yB g (iJ c b) a
  f12:=i.trans h.f12
  yB:=fun g a b=>by
   have:=h.lo g b;exact h.yB g (iJ this a.1) b
  ls:=fun g a=>a.2
  lo:=fun g a=>Nat.lt_of_lt_of_le (h.lo g a) d.size
  zs:=fun g a=>h.wW h.zs g a.1
  zo:=h.zo
  az:=fun g c=>h.az g (Nat.le_trans d.size c) },d.mono fun g _ a=>h.wW h.zs g a⟩
theorem Duo.xw (h:Duo Z sb ob hb n w K f V X gone Rs Ro) (e:iI (zz Ro w) ob hb n w' fu) (d:dD (zz Ro w) w w'):Duo Z sb ob hb n w' K f V X fu Rs (fun g=>zz Ro w g/\g < w'.heap.size)/\dD Z w w':=by
 refine ⟨{
  dM:=h.dM.mX d fun g b a c=>h.yB g a (iJ b c)
  ord:=e.JS (fun g a c=>.inl ⟨c,a⟩) (fun g b=>.inr b)
  f12:=h.f12
  yB:=fun g a c=>by
   have:=h.ls g a;exact h.yB g a (iJ this c.1)
  ls:=fun g a=>Nat.lt_of_lt_of_le (h.ls g a) d.size
  lo:=fun g a=>a.2
  zs:=h.zs
  zo:=fun g a=>h.wW h.zo g a.1
  az:=fun g b=>h.az g (Nat.le_trans d.size b) },d.mono fun g _ a=>h.wW h.zo g a⟩
theorem Duo.later (h:Duo Z sb ob hb n w K f V X gone Rs Ro) (a:Below w.heap.size w w'):Duo Z sb ob hb n w' K f V X gone Rs Ro where
 dM:=h.dM.mX (Z':=fun _=>False) (dD.of_below a) fun _ _ _ h=>h
 ord:=h.ord.mX (Z':=fun _=>False) (dD.of_below a) fun _ _ _ h=>h
 f12:=h.f12
 yB:=h.yB
 ls:=fun g b=>Nat.lt_of_lt_of_le (h.ls g b) a.size
 lo:=fun g b=>Nat.lt_of_lt_of_le (h.lo g b) a.size
 zs:=h.zs
 zo:=h.zo
 az:=fun g c=>h.az g (Nat.le_trans a.size c)
structure F9 (n:Nat) (X:Nat->List Value) (pre:Int) (seen:Nat->Bool) (iR:List Nat):Prop where
 n10:(X 10).length=n
 t10:∀ v,v < n->(X 10)[v]? = some (.bool (seen v))
 l7:X 7=.int .i64 pre :: dC iR
theorem F9.mark {pre:Int} {seen:Nat->Bool} {a:List Nat} (h:F9 n X pre seen a) {v:Nat} (d:v < n):F9 n (upd X 10 ((X 10).set v (.bool true))) pre (eu seen v true) a where
 n10:=by rw [cK,List.length_set];exact h.n10
 t10:=fun x b=>by
  rw [cK];by_cases e:x=v
  ·subst e;rw [List.getElem?_set_self (by rw [h.n10];exact b),dx]
  ·rw [List.getElem?_set_ne (fun c=>e c.symm),dm _ _ e];exact h.t10 x b
 l7:=by rw [cu _ _ (by decide)];exact h.l7
theorem F9.more {pre:Int} {seen:Nat->Bool} {a:List Nat} (h:F9 n X pre seen a) (y:Nat):F9 n (upd X 7 (X 7 ++ [.int .i64 (y:Nat)])) pre seen (a ++ [y]) where
 n10:=by rw [cu _ _ (by decide)];exact h.n10
 t10:=by rw [cu _ _ (by decide)];exact h.t10
 l7:=by rw [cK,h.l7,je];rfl
theorem F9.congr {pre:Int} {seen:Nat->Bool} {a:List Nat} (h:F9 n X pre seen a) (c:X' 7=X 7) (b:X' 10=X 10):F9 n X' pre seen a:=⟨by rw [b];exact h.n10,by rw [b];exact h.t10,by rw [c];exact h.l7⟩
end
section
variable {Z:Nat->Prop} {sb K:Nat} {w w':World} {f V:Nat->Value} {X:Nat->List Value}
def Ih (Z:Nat->Prop) (sb:Nat) (w:World) (K:Nat) (f V:Nat->Value) (X:Nat->List Value) (x:Nat) (w':World):Prop:=dD Z w w'/\∃ t:Int,dX Z sb w' K f V (upd X 0 ((X 0).set (x + 2) (.int .i64 t)))
theorem Pf (x n:Nat) (t:Int) (h:dX Z sb w K f V X) (l:(X 0).length=n) (i:x + 2 < n) (hb:n <= 17592186044416) (b:(X 0)[x + 2]? = some (.int .i64 t)):
  Calls Tryz.prog 216 #[.pointer (some ⟨sb,2,none⟩),.int .i64 x] w fun e w'=>e=.returned (.tuple #[])/\Ih Z sb w K f V X x w':=by
 obtain ⟨g,m,v,c,d,y,a,p,o,B,z⟩:=h.elem (k:=0) (j:=x + 2) (by omega) l i;rw [show cellOf 0=2 from rfl] at d;rw [b] at a;obtain rfl:=Option.some.inj a;have F:Hid (∀ u:Int,Ih Z sb w K f V X x (w.setCell ⟨g,x + 2,none⟩ (.int .i64 u))):=fun u=>⟨(dD.refl _).setCell o _,u,h.set (k:=0) (by have:=h.hK;omega) c (x + 2) (.int .i64 u)⟩
 have s:(0:Int) <= (x:Int) + 2:=by omega
 have r:(x:Int) + 2 < (n:Int):=by omega
 have q:((x:Int) + 2).toNat=x + 2:=by omega
 clear h c b a;go_enter Tryz.func216,Tryz.ntmps216
 go_wp2;go_end0
 exact ⟨rfl,F.out _⟩
end
end
end So
end Go.Proofs.YtceahffmenbibaaGreatDoor
