/- Shw2 Shw3 Shw4 Shw5 Sduo Suse Slok Scle Sxpl. -/
import Derived.Test.YtceahffmenbibaaGreatDoorH02
import Derived.Test.YtceahffmenbibaaGreatDoorH03
set_option linter.unusedVariables false
set_option linter.unusedSimpArgs false
set_option maxHeartbeats 4000000
set_option maxRecDepth 100000
namespace Go.Proofs.YtceahffmenbibaaGreatDoor
namespace So
section
open Go Go.RowKit Go.Deep Rd
section
variable {Z:Nat->Prop} {ob hb:Nat} {w w':World} {wt:Int} {V:Nat->Value} {X:Nat->List Value} {n g:Nat} {items:List Nat} {pl bz:Nat->Int}
structure lq (Z:Nat->Prop) (ob hb:Nat) (w:World) (wt:Int) (V:Nat->Value) (n g item:Nat) (items:List Nat) (pl bz:Nat->Int) (hole:Nat) (X':Nat->List Value) (items':List Nat) (Tv:Nat->Int) (wr:World):Prop where
 ord:Ord Z ob hb wr wt V X'
 IK:oF n g X' items' Tv bz
 hp:RN n item hole items' Tv
 len:items'.length=items.length
 wait:∀ v,v ≠ item->(Tv v=-1↔pl v=-1)
 eO:dB Z w wr
theorem lq.YB {item hole:Nat} {X':Nat->List Value} {a:List Nat} {b:Nat->Int} {wr:World} (h:lq Z ob hb w wt V n g item items pl bz hole X' a b wr) (l:pl g=-1) (d:item ≠ g) {k:Nat} (j:k < a.length) (c:k ≠ hole):a[k] ≠ g:=fun e=>by
 have o:=(h.hp.pl k j c).2;have m:=(h.wait g (fun e=>d e.symm)).2 l;rw [e,m] at o;omega
theorem lq.move {item hole:Nat} {X':Nat->List Value} {a:List Nat} {c:Nat->Int} {wr wx:World} (h:lq Z ob hb w wt V n g item items pl bz hole X' a c wr) (o:pl g=-1) (j:item ≠ g) {k:Nat} (d:k < a.length) (b:k ≠ hole)
  (m:Ord Z ob hb wx wt V (upd (upd X' 2 ((X' 2).set hole (.int .i64 (a[k]:Nat)))) 0 ((X' 0).set a[k] (.int .i64 (hole:Nat))))) (p:dB Z wr wx):
  lq Z ob hb w wt V n g item items pl bz k (upd (upd X' 2 ((X' 2).set hole (.int .i64 (a[k]:Nat)))) 0 ((X' 0).set a[k] (.int .i64 (hole:Nat)))) (a.set hole a[k]) (eF c a[k] (hole:Nat)) wx where
 ord:=m
 IK:=h.IK.put (h.hp.lt _ (List.getElem_mem d)) (h.YB o j d b)
 hp:=h.hp.move d b
 len:=by rw [List.length_set];exact h.len
 wait:=fun v l=>by
  by_cases e:v=a[k]
  ·subst e;rw [dE];have r:=(h.hp.pl k d b).2;have q:=h.wait _ l;rw [<- q,r];constructor <;> intro t <;> omega
  ·rw [df _ _ e];exact h.wait v l
 eO:=h.eO.trans p
theorem lq.later {item hole:Nat} {X':Nat->List Value} {a:List Nat} {b:Nat->Int} {wr wx:World} (h:lq Z ob hb w wt V n g item items pl bz hole X' a b wr) (c:Below wr.heap.size wr wx):lq Z ob hb w wt V n g item items pl bz hole X' a b wx:=
 { h with ord:=h.ord.later c,eO:=h.eO.trans (dB.of_below c) }
structure rA (Z:Nat->Prop) (ob hb:Nat) (w:World) (wt:Int) (V:Nat->Value) (n g:Nat) (len:Nat) (gone:Nat->Prop) (bz:Nat->Int) (w':World):Prop where
 ex:∃ X' items' Tv,Ord Z ob hb w' wt V X'/\oF n g X' items' Tv bz/\DN n items' Tv/\items'.length=len/\(∀ v,Tv v=-1↔gone v)/\dB Z w w'
theorem lq.close {item hole:Nat} {X':Nat->List Value} {a:List Nat} {c:Nat->Int} {wr wx:World} (h:lq Z ob hb w wt V n g item items pl bz hole X' a c wr) (d:item ≠ g)
  (j:Ord Z ob hb wx wt V (upd (upd X' 2 ((X' 2).set hole (.int .i64 (item:Nat)))) 0 ((X' 0).set item (.int .i64 (hole:Nat))))) (k:dB Z wr wx):rA Z ob hb w wt V n g items.length (fun v=>pl v=-1/\v ≠ item) bz wx:=
 ⟨_,_,_,j,h.IK.put h.hp.hit d,h.hp.close,by rw [List.length_set];exact h.len,fun v=>by
  by_cases e:v=item
  ·subst e;rw [dE];constructor
   ·intro b;omega
   ·intro b;exact absurd rfl b.2
  ·rw [df _ _ e,h.wait v e];exact ⟨fun b=>⟨b,e⟩,fun b=>b.1⟩,h.eO.trans k⟩
def Ky (Z:Nat->Prop) (ob hb:Nat) (w:World) (wt:Int) (V:Nat->Value) (n g item:Nat) (items:List Nat) (pl bz:Nat->Int) (s:Value) (wr:World):Prop:=
 ∃ hole X' items' Tv,s=.int .i64 ((hole:Nat):Int)/\Hid (lq Z ob hb w wt V n g item items pl bz hole X' items' Tv wr)
theorem Ord.item (h:Ord Z ob hb w wt V X) (c:oF n g X items pl bz) {k:Nat} (b:k < items.length):∃ g2 a,w.cell? ⟨hb,0,none⟩=some (.slice (some ⟨g2,0,none⟩) items.length a)/\w.cell? ⟨g2,k,none⟩=some (.int .i64 (items[k]:Nat)):=by
 have d:(X 2).length=items.length:=by rw [c.t2,cZ]
 obtain ⟨g2,a,t,e,r,s,_⟩:=h.elem (k:=2) (j:=k) (by omega) d b;rw [c.t2,iK _ _ b] at s;obtain rfl:=Option.some.inj s;have q:=h.cells.2.2.2.2.1;rw [e] at q;exact ⟨g2,a,q,r⟩
theorem Ey (h:Ord Z ob hb w wt V X) (O:oF n g X items pl bz) {item hole:Nat} (U:RN n item hole items pl) (hi:items[hole]? = some item) (hg:pl g=-1) (t:item ≠ g) (W:items.length <= 1000):
  Calls Tryz.prog 173 #[.pointer (some ⟨hb,0,none⟩),.int .i64 (hole:Nat)] w fun e w'=>e=.returned (.tuple #[])/\rA Z ob hb w wt V n g items.length (fun v=>pl v=-1/\v ≠ item) bz w':=by
 obtain ⟨hh,Y⟩:=List.getElem?_eq_some_iff.1 hi;obtain ⟨g2,c2,q0,R⟩:=h.item O hh;rw [Y] at R;have S0:Hid (lq Z ob hb w wt V n g item items pl bz hole X items pl w):=⟨h,O,U,rfl,fun _ _=>Iff.rfl,dB.refl _⟩;have h0:(0:Int) <= (hole:Int):=by omega
 have h1:(hole:Int) < (items.length:Int):=by omega
 clear h O U hi Y;go_enter Tryz.func173,Tryz.ntmps173
 go_wp2_with fail
 go_loopw [1,5] (fun M _ wr=>Ky Z ob hb w wt V n g item items pl bz M wr) (fun M _ _=>(intOf M).toNat)
 case atStart=>exact ⟨hole,X,items,pl,rfl,S0⟩
 case round=>
  clear S0 q0 R;obtain ⟨k,X',b,aa,rfl,a⟩:=hrel;have r:k < b.length:=a.out.hp.hho;have q:=a.out.len;have y:=hide (rM a.out.ord a.out.IK (v:=item) (p:=k) a.out.hp.hit r);have L:=hide (fun wx C G=>a.out.close (wx:=wx) t C G);by_cases N:k=0
  ·subst N;go_wp2_with (go_at_call 203;refine y.out.mono ?_;rintro e7 z ⟨rfl,c,d⟩;have H:=hide (L.out z c d);clear c d;simp only [])
   go_end0
   exact ⟨rfl,H.out⟩
  ·obtain ⟨m,hm⟩:∃ m,m=(k - 1) / 2:=⟨_,rfl⟩;have o:m < b.length:=by omega
   have D:m ≠ k:=by omega
   have hd:((k:Int) - 1) / 2=(m:Int):=by omega
   have ab:Int.tdiv ((k:Int) - 1) 2=(m:Int):=by rw [Int.tdiv_eq_ediv_of_nonneg (by omega)];exact hd
   obtain ⟨ac,ad,S,I⟩:=a.out.ord.item a.out.IK o;have T:=a.out.ord.cells.2.2.2.2.2.1;obtain ⟨x,J⟩:∃ x,x=b[m]:=⟨_,rfl⟩;have B:x < n:=by rw [J];exact a.out.hp.lt _ (List.getElem_mem _)
   have Q:Hid (∀ j,Calls Tryz.prog 126 #[.pointer (some ⟨ob,0,none⟩),.int .i64 (item:Nat),.int .i64 (x:Nat)] (wr.drewN j) fun e w'=>e=.returned (.bool (decide (bz x < bz item)))/\∃ k,w'=(wr.drewN j).drewN k):=fun j=>mK (a.out.ord.later (Go.below_drewN bR _)) a.out.IK a.out.hp.hit B
   rw [<- J] at I;have HX:=hide J;have m0:(0:Int) <= (m:Int):=by omega
   have m1:(m:Int) < (b.length:Int):=by omega
   have k1:(0:Int) < (k:Int):=by omega
   have k2:(0:Int) <= (k:Int) - 1:=by omega
   have k3:(k:Int) < 1000:=by omega
   have mk:m < k:=by omega
   clear J hm q hd;unfold ahead at T;generalize decide (bz x < bz item)=bb at Q;go_upto_region 3 with fail
   go_quiet ((go_at_call 126;exact Calls.quiet_of (Q.out _)))
   obtain ⟨P,u⟩:∃ P,P=wr.drewN nq:=⟨_,rfl⟩;have b1:Below wr.heap.size wr P:=by rw [u];exact Go.below_drewN bR _
   rw [<- u];have l:=hide (a.out.later b1);clear u b1 a y L Q S I T
   cases bb with
   | false=>
    have y:=hide (rM l.out.ord l.out.IK (v:=item) (p:=k) l.out.hp.hit r);have L:=hide (fun wx C G=>l.out.close (wx:=wx) t C G);clear l;go_wp2_with (go_at_call 203;refine y.out.mono ?_;rintro e7 z ⟨rfl,c,d⟩;have H:=hide (L.out z c d);clear c d;simp only [])
    go_end0
    exact ⟨rfl,H.out⟩
   | true=>
    have y:=hide (rM l.out.ord l.out.IK (v:=x) (p:=k) B r);have MV:=hide (fun wx C G=>l.out.move (wx:=wx) hg t o D C G);rw [<- HX.out] at MV;obtain ⟨g3,c3,S,I⟩:=l.out.ord.item l.out.IK o;rw [<- HX.out] at I;clear l;go_wp2_with (go_at_call 203;refine y.out.mono ?_;rintro e7 z ⟨rfl,c,d⟩;have H:=hide (MV.out z c d);clear c d;simp only [])
    go_roundw
    case rel=>exact ⟨m,_,_,_,rfl,H⟩
    case measure=>simp [intOf];omega
end
section
variable {Z:Nat->Prop} {ob hb:Nat} {w w':World} {wt:Int} {V:Nat->Value} {X:Nat->List Value} {n g:Nat} {items:List Nat} {pl bz:Nat->Int}
structure iP (Z:Nat->Prop) (ob hb n:Nat) (w:World) (gone:Nat->Prop):Prop where
 ex:∃ wt V X items pl bz,Ord Z ob hb w wt V X/\oF n n X items pl bz/\DN n items pl/\∀ v,pl v=-1↔gone v
 last:gone n
theorem OH (h:Ord Z ob hb w wt V X) (l:oF n n X items pl bz) (H:DN n items pl) {v:Nat} (hv:v < n) (G:pl v=-1) (d:pl n=-1) (hn:n <= 50):
  Calls Tryz.prog 128 #[.pointer (some ⟨hb,0,none⟩),.int .i64 (v:Nat)] w fun e w'=>e=.returned (.tuple #[])/\dB Z w w'/\iP Z ob hb n w' (fun x=>pl x=-1/\x ≠ v):=by
 obtain ⟨i0,hi,C,B,z⟩:=info_parts Tryz.fO;have ll:=H.len;have HS:=hide h;obtain ⟨R,Q,r⟩:=h.eH.shape (k:=2) (by omega);have y:(X 2).length=items.length:=by rw [l.t2,cZ]
 have q:=h.cells.2.2.2.2.1;rw [r,y] at q;have U:Hid (w.ownsRow 0 3 1 (.slice R items.length Q) items.length (dw items)):=by
  have:=h.eH.own 2 (by omega);rw [r,l.t2,cZ] at this;exact this
 have Y:Hid (V 2=.slice R items.length Q):=by unfold Hid;rw [r,y]
 have o:Hid (X 2=dw items):=l.t2;have aa:=h.hrow.lt;have ns:¬ (hb=w.heap.size):=by omega
 have HP:=hide (H.push hv G);have p:=hide l;clear h l H r y;go_enter Tryz.func128,Tryz.ntmps128
 go_wp2_with (at_builtin;refine dR _ rfl _ _ 43 rfl 0 3 i0 (.int .i64 0) 1 8 Tryz.underlying43 hi C B z rfl (by decide) _ _ _ rfl (U.out.alloc (.cells #[.int .i64 (v:Int)] 3)) (.slice (some ⟨w.heap.size,0,none⟩) 1 1) 1 [.int .i64 (v:Int)] rfl (.inr ⟨⟨w.heap.size,0,none⟩,1,rfl,World.news_of_block (cs:=#[.int .i64 (v:Int)]) (t:=3) (fr:=(0,0)) (heap_alloc_new w _)⟩) rfl (by simp [Value.oneCell']) (by unfold maxLen;omega) (by omega) zl ?_)
 intro v6 M L;have A7:dz (w.alloc (.cells #[.int .i64 (v:Int)] 3)) 0 3 1 (V 2) (X 2).length (X 2) 1 [.int .i64 (v:Int)] v6 M:=by rw [Y.out,o.out,cZ];exact L
 obtain ⟨N,P,O,z6⟩:=HS.out.push (m:=1) (news:=[.int .i64 (v:Int)]) rfl A7;rw [Y.out] at O;obtain ⟨c,b,D⟩:=dH L.own;subst D;have J:=hide N;have C6:=hide P;clear L A7 N P q U;go_upto_region 1 with fail
 generalize I:M.setCell ⟨hb,0,none⟩ (.slice c (items.length + 1) b)=W1 at J C6 ⊢;clear I O z6;have S:Hid (upd X 2 (X 2 ++ [.int .i64 (v:Int)]) 2=dw (items ++ [v])):=by unfold Hid;rw [cz,o.out,jr];rfl
 have W:oF n n (upd X 2 (X 2 ++ [.int .i64 (v:Int)])) (items ++ [v]) pl bz:=⟨by rw [cu _ _ (by decide)];exact p.out.n0,by rw [cu _ _ (by decide)];exact p.out.t0,by rw [cu _ _ (by decide)];exact p.out.i0,by rw [cu _ _ (by decide)];exact p.out.n1,by rw [cu _ _ (by decide)];exact p.out.t1,S.out⟩;have q:=J.out.cells.2.2.2.2.1;rw [cz] at q;have QR:=hide (Ey J.out W HP.out (by simp) d (by omega) (by simp;omega));clear W S;generalize upd X 2 (X 2 ++ [.int .i64 (v:Int)])=X6 at *
 generalize upd V 2 (.slice c (items.length + 1) b)=V6 at *
 go_wp2_with (go_at_call 173;refine QR.out.mono ?_;rintro e7 w7 ⟨rfl,j⟩;have P7:=hide j;clear j;simp only [])
 go_end0
 obtain ⟨X',a,u,r1,r2,r3,r4,r5,r6⟩:=P7.out.ex;exact ⟨rfl,C6.out.trans r6,⟨_,_,X',a,u,bz,r1,r2,r3,r5⟩,d,by omega⟩
def KH (w:World) (p len:Nat) (e:Ending) (w':World):Prop:=∃ (b:Nat) (ok:Bool),e=.returned (.tuple #[.int .i64 ((b:Nat):Int),.bool ok])/\(ok=true->p < b/\b < len)/\∃ k,w'=w.drewN k
theorem yY (h:Ord Z ob hb w wt V X) (o:oF n g X items pl bz) (q:∀ v ∈ items,v < n) {p:Nat} (hp:p < items.length) (M:items.length <= 1000):
  Calls Tryz.prog 244 #[.pointer (some ⟨hb,0,none⟩),.int .i64 (p:Nat)] w fun e w'=>KH w p items.length e w':=by
 obtain ⟨g2,c2,B,L⟩:=h.item o hp;have W:=h.cells.2.2.2.2.2.1;unfold ahead at W;have p0:(0:Int) <= (p:Int):=by omega
 have p1:(p:Int) < 1000:=by omega
 have F:Hid (∀ (b:Nat) (ok:Bool) k,(ok=true->p < b/\b < items.length)->KH w p items.length (.returned (.tuple #[.int .i64 ((b:Nat):Int),.bool ok])) (w.drewN k)):=fun b ok k hh=>⟨b,ok,rfl,hh,k,rfl⟩
 by_cases Y:2 * p + 2 < items.length
 ·obtain ⟨G,ab,m,T⟩:=h.item o Y;obtain ⟨r,O,c,U⟩:=h.item o (show 2 * p + 1 < items.length by omega);rw [B] at m c;obtain ⟨N,_,e3⟩:=Value.slice.inj (Option.some.inj m);obtain ⟨t,_,H⟩:=Value.slice.inj (Option.some.inj c);obtain rfl:g2=G:=by have:=Option.some.inj N;exact congrArg Addr.block this
  obtain rfl:g2=r:=by have:=Option.some.inj t;exact congrArg Addr.block this
  subst e3 H;obtain ⟨x,D⟩:∃ x,x=items[2 * p + 2]:=⟨_,rfl⟩;obtain ⟨y,C⟩:∃ y,y=items[2 * p + 1]:=⟨_,rfl⟩;have S:x < n:=by rw [D];exact q _ (List.getElem_mem _)
  have R:y < n:=by rw [C];exact q _ (List.getElem_mem _)
  rw [<- D] at T;rw [<- C] at U;have P:Hid (∀ j,Calls Tryz.prog 126 #[.pointer (some ⟨ob,0,none⟩),.int .i64 (x:Nat),.int .i64 (y:Nat)] (w.drewN j) fun e w'=>e=.returned (.bool (decide (bz y < bz x)))/\∃ k,w'=(w.drewN j).drewN k):=fun j=>mK (h.later (Go.below_drewN bR _)) o S R
  have a0:(0:Int) <= 2 * (p:Int) + 2:=by omega
  have a1:2 * (p:Int) + 2 < (items.length:Int):=by omega
  have a2:(2 * (p:Int) + 2).toNat=2 * p + 2:=by omega
  have b0:(0:Int) <= 2 * (p:Int) + 1:=by omega
  have b1:2 * (p:Int) + 1 < (items.length:Int):=by omega
  have b2:(2 * (p:Int) + 1).toNat=2 * p + 1:=by omega
  have Q:=hide (fun k=>F.out (2 * p + 2) true k (fun _=>by omega));have z:=hide (fun k=>F.out (2 * p + 1) true k (fun _=>by omega));rw [show ((2 * p + 2:Nat):Int)=2 * (p:Int) + 2 by omega] at Q;rw [show ((2 * p + 1:Nat):Int)=2 * (p:Int) + 1 by omega] at z;generalize decide (bz y < bz x)=bb at P;clear h o D C F m c N t L;go_enter Tryz.func244,Tryz.ntmps244
  go_upto_region 2 with fail
  go_quiet ((go_at_call 126;exact Calls.quiet_of (P.out _)))
  cases bb with
  | true=>
   go_wp2;go_ret2
   exact Q.out _
  | false=>
   obtain ⟨l,a⟩:∃ l,l=w.drewN nq:=⟨_,rfl⟩;have d:l.heap=w.heap:=by rw [a];rfl
   rw [<- a];rw [<- eX d] at B;have J:Hid (∀ k,KH w p items.length (.returned (.tuple #[.int .i64 (2 * (p:Int) + 1),.bool true])) (l.drewN k)):=fun k=>by rw [a,World.drewN_drewN];exact z.out _
   clear a d;go_upto_region 4 with fail
   go_quiet (fail)
   go_wp2;go_ret2
   exact J.out _
 ·have a1:¬ (2 * (p:Int) + 2 < (items.length:Int)):=by omega
  obtain ⟨u,aa,I⟩:∃ u,decide (2 * (p:Int) + 1 < (items.length:Int))=u/\Hid (u=true->p < 2 * p + 1/\2 * p + 1 < items.length):=⟨_,rfl,fun e=>by have:=of_decide_eq_true e;omega⟩;have z:=hide (fun k=>F.out (2 * p + 1) u k I.out);rw [show ((2 * p + 1:Nat):Int)=2 * (p:Int) + 1 by omega] at z;clear h o F L;go_enter Tryz.func244,Tryz.ntmps244
  go_upto_region 2 with fail
  go_quiet (fail)
  obtain ⟨l,a⟩:∃ l,l=w.drewN nq:=⟨_,rfl⟩;have d:l.heap=w.heap:=by rw [a];rfl
  rw [<- a];rw [<- eX d] at B;have J:Hid (∀ k,KH w p items.length (.returned (.tuple #[.int .i64 (2 * (p:Int) + 1),.bool u])) (l.drewN k)):=fun k=>by rw [a,World.drewN_drewN];exact z.out _
  clear a d;go_upto_region 4 with fail
  go_quiet (fail)
  go_wp2;go_ret2
  exact J.out _
end
section
variable {Z:Nat->Prop} {ob hb:Nat} {w w':World} {wt:Int} {V:Nat->Value} {X:Nat->List Value} {n g:Nat} {items:List Nat} {pl bz:Nat->Int}
theorem Qk (h:Ord Z ob hb w wt V X) (hM:oF n g X items pl bz) {item:Nat} (hp:RN n item 0 items pl) (hg:pl g=-1) (H:item ≠ g) (aa:items.length <= 1000):
  Calls Tryz.prog 226 #[.pointer (some ⟨hb,0,none⟩),.int .i64 (item:Nat)] w fun e w'=>e=.returned (.tuple #[])/\rA Z ob hb w wt V n g items.length (fun v=>pl v=-1/\v ≠ item) bz w':=by
 have S0:Hid (lq Z ob hb w wt V n g item items pl bz 0 X items pl w):=⟨h,hM,hp,rfl,fun _ _=>Iff.rfl,dB.refl _⟩;clear h hM hp;go_enter Tryz.func226,Tryz.ntmps226
 go_wp2_with fail
 go_loopw [4,5,6] (fun P _ _ wr=>Ky Z ob hb w wt V n g item items pl bz P wr) (fun P _ _ _=>items.length - (intOf P).toNat)
 case atStart=>exact ⟨0,X,items,pl,rfl,S0⟩
 case round=>
  clear S0;obtain ⟨k,X',a,ab,rfl,c⟩:=hrel;have r:k < a.length:=c.out.hp.hho;have G:=c.out.len;have QF:=hide (yY c.out.ord c.out.IK c.out.hp.lt r (by omega));go_upto_region 2 with (go_at_call 244;refine QF.out.mono ?_;rintro e7 w7 ⟨b,ok,rfl,C,j7,rfl⟩;have U:=hide C;clear C;simp only [])
  obtain ⟨l,y⟩:∃ l,l=wr.drewN j7:=⟨_,rfl⟩;have b1:Below wr.heap.size wr l:=by rw [y];exact Go.below_drewN bR _
  rw [<- y];have o:=hide (c.out.later b1);clear y b1 c QF;have z:Hid (∀ q,Below l.heap.size l q->Calls Tryz.prog 203 #[.pointer (some ⟨hb,0,none⟩),.int .i64 (k:Nat),.int .i64 (item:Nat)] q fun e w'=>e=.returned (.tuple #[])/\rA Z ob hb w wt V n g items.length (fun v=>pl v=-1/\v ≠ item) bz w'):=fun q Q=>by
   have m:=o.out.later Q;refine (rM m.ord m.IK (v:=item) (p:=k) m.hp.hit r).mono ?_;rintro e7 w7 ⟨h1,h2,h3⟩;exact ⟨h1,m.close H h2 h3⟩
  cases ok with
  | false=>
   go_quiet (fail)
   have N:=hide (z.out (l.drewN nq) (Go.below_drewN bR _));go_wp2_with (go_at_call 203;refine N.out.mono ?_;rintro e8 O ⟨rfl,d⟩;have T:=hide d;clear d;simp only [])
   go_end0
   exact ⟨rfl,T.out⟩
  | true=>
   obtain ⟨ac,t⟩:=U.out rfl;obtain ⟨ad,ae,Y,L⟩:=o.out.ord.item o.out.IK t;have qa:=o.out.ord.cells.2.2.2.2.2.1;unfold ahead at qa;obtain ⟨x,M⟩:∃ x,x=a[b]:=⟨_,rfl⟩;have B:x < n:=by rw [M];exact o.out.hp.lt _ (List.getElem_mem _)
   have S:Hid (∀ j,Calls Tryz.prog 126 #[.pointer (some ⟨ob,0,none⟩),.int .i64 (x:Nat),.int .i64 (item:Nat)] (l.drewN j) fun e w'=>e=.returned (.bool (decide (bz item < bz x)))/\∃ k,w'=(l.drewN j).drewN k):=fun j=>mK (o.out.ord.later (Go.below_drewN bR _)) o.out.IK B o.out.hp.hit
   rw [<- M] at L;have HX:=hide M;have m0:(0:Int) <= (b:Int):=by omega
   have m1:(b:Int) < (a.length:Int):=by omega
   have J:b ≠ k:=by omega
   have W:=hide G;clear M G;generalize decide (bz item < bz x)=bb at S;go_quiet ((go_at_call 126;exact Calls.quiet_of (S.out _)))
   obtain ⟨q,u⟩:∃ q,q=l.drewN nq:=⟨_,rfl⟩;have R:Below l.heap.size l q:=by rw [u];exact Go.below_drewN bR _
   rw [<- u];have m:=hide (o.out.later R);have N:=hide (z.out q R);clear u R o S Y L qa z
   cases bb with
   | false=>
    go_wp2_with (go_at_call 203;refine N.out.mono ?_;rintro e8 O ⟨rfl,d⟩;have T:=hide d;clear d;simp only [])
    go_end0
    exact ⟨rfl,T.out⟩
   | true=>
    have QP:=hide (rM m.out.ord m.out.IK (v:=x) (p:=k) B r);have MV:=hide (fun wx ho hc=>m.out.move (wx:=wx) hg H t J ho hc);rw [<- HX.out] at MV;obtain ⟨g3,c3,Y,L⟩:=m.out.ord.item m.out.IK t;rw [<- HX.out] at L;clear m N;go_wp2_with (go_at_call 203;refine QP.out.mono ?_;rintro e8 O ⟨rfl,D,I⟩;have F8:=hide (MV.out O D I);clear D I;simp only [])
    go_roundw
    case rel=>exact ⟨b,_,_,_,rfl,F8⟩
    case measure=>have:=W.out;simp [intOf];omega
theorem oF.placed (h:oF n g X items pl bz) (d:g < n) (b:pl g=-1):oF n n (upd X 0 ((X 0).set g (.int .i64 (-1)))) items pl bz where
 n0:=by rw [cz,List.length_set];exact h.n0
 t0:=fun v a _=>by
  rw [cz];by_cases e:v=g
  ·subst e;rw [List.getElem?_set_self (by rw [h.n0];exact a),b]
  ·rw [List.getElem?_set_ne (fun c=>e c.symm)];exact h.t0 v a e
 i0:=fun v a=>by
  rw [cz];by_cases e:v=g
  ·subst e;exact ⟨_,List.getElem?_set_self (by rw [h.n0];exact a)⟩
  ·rw [List.getElem?_set_ne (fun c=>e c.symm)];exact h.i0 v a
 n1:=by rw [cu _ _ (by decide)];exact h.n1
 t1:=by rw [cu _ _ (by decide)];exact h.t1
 t2:=by rw [cu _ _ (by decide)];exact h.t2
def zO (Z:Nat->Prop) (ob hb n:Nat) (w:World) (gone:Nat->Prop) (e:Ending) (w':World):Prop:=
 dB Z w w'/\((e=.returned (.tuple #[.int .i64 0,.bool false])/\(∀ v,v < n->gone v)/\iP Z ob hb n w' gone)\/∃ v:Nat,e=.returned (.tuple #[.int .i64 (v:Nat),.bool true])/\v < n/\¬ gone v/\iP Z ob hb n w' (fun x=>gone x\/x=v))
theorem Tq {gone:Nat->Prop} (h:iP Z ob hb n w gone) (hn:n <= 50):
  Calls Tryz.prog 191 #[.pointer (some ⟨hb,0,none⟩)] w fun e w'=>zO Z ob hb n w gone e w':=by
 obtain ⟨wt,V,X,items,pl,bz,C,u,z,t⟩:=h.ex;have ll:=z.len;obtain ⟨a2,U,O⟩:=C.eH.shape (k:=2) (by omega);have T:(X 2).length=items.length:=by rw [u.t2,cZ]
 have H:=C.cells.2.2.2.2.1;rw [O,T] at H;by_cases B:items.length=0
 ·have F:Hid (zO Z ob hb n w gone (.returned (.tuple #[.int .i64 0,.bool false])) w):=⟨dB.refl _,.inl ⟨rfl,fun v hv=>(t v).1 (z.empty B hv),h⟩⟩;rw [B] at H;clear h C u z t O T B;go_enter Tryz.func191,Tryz.ntmps191
  go_wp2;go_ret2
  exact F.out
 ·obtain ⟨l,hl⟩:∃ l,items.length=l + 1:=⟨items.length - 1,by omega⟩;obtain ⟨g2,an,G,r0⟩:=C.item u (show 0 < items.length by omega);obtain ⟨ah,am,j,rl⟩:=C.item u (show l < items.length by omega);rw [H] at G j;obtain ⟨e1,_,e3⟩:=Value.slice.inj (Option.some.inj G);obtain ⟨P,_,ai⟩:=Value.slice.inj (Option.some.inj j);subst e1 e3;obtain rfl:g2=ah:=by have:=Option.some.inj P;exact congrArg Addr.block this
  obtain ⟨first,M⟩:∃ x,x=items[0]:=⟨_,rfl⟩;obtain ⟨b,p⟩:∃ x,x=items[l]:=⟨_,rfl⟩;have Y8 : items[0]? = some first:=by rw [M];exact List.getElem?_eq_getElem _
  have Y7 : items[l]? = some b:=by rw [p];exact List.getElem?_eq_getElem _
  have fn:first < n:=by rw [M];exact z.lt _ (List.getElem_mem _)
  have ln:b < n:=by rw [p];exact z.lt _ (List.getElem_mem _)
  have aa:pl first=(0:Nat):=by rw [M];exact z.pl 0 (by omega)
  have I:pl b=(l:Nat):=by rw [p];exact z.pl l (by omega)
  rw [<- M] at r0;rw [<- p] at rl;obtain ⟨s1,c1⟩:=C.cut O (m:=l) (by omega);rw [u.t2,mX] at s1;have M1:oF n first (upd X 2 (dw (items.take l))) (items.take l) (eF pl first (-1)) bz:=⟨by rw [cu _ _ (by decide)];exact u.n0,fun v hv ac=>by rw [cu _ _ (by decide),df _ _ ac];exact u.t0 v hv (by omega),by rw [cu _ _ (by decide)];exact u.i0,by rw [cu _ _ (by decide)];exact u.n1,by rw [cu _ _ (by decide)];exact u.t1,cz ..⟩
  have ab:¬ gone first:=fun af=>by have:=(t first).2 af;omega
  have d:Hid (∀ W Vx X' a c,dB Z w W->Ord Z ob hb W wt Vx X'->oF n first X' a c bz->DN n a c->(∀ v,c v=-1↔gone v\/v=first)->Calls Tryz.prog 127 #[.pointer (some ⟨ob,0,none⟩),.int .i64 (first:Nat),.int .i64 (-1)] W fun e w'=>e=.returned (.tuple #[])/\zO Z ob hb n w gone (.returned (.tuple #[.int .i64 (first:Nat),.bool true])) w'):=fun W Vx X' a c hc ho hm hi r=>by
   refine (uj ho hm (-1) fn).mono ?_;rintro e7 Y ⟨h1,h2,h3⟩;refine ⟨h1,hc.trans h3,.inr ⟨first,rfl,fn,ab,⟨wt,Vx,_,a,c,bz,h2,hm.placed fn ((r first).2 (.inr rfl)),hi,r⟩,.inl h.last⟩⟩
  have S:∀ v,eF pl first (-1) v=-1↔gone v\/v=first:=fun v=>by
   by_cases e:v=first
   ·subst e;rw [dE];simp
   ·rw [df _ _ e,t v];simp [e]
  have ak:l <= U:=by
   have:=C.eH.own 2 (by omega);rw [O] at this
   rcases this.2 with ⟨e,_⟩ | ⟨_,al,_,e,_,_,ae,_⟩
   ·cases e
   ·obtain ⟨_,_,q⟩:=Value.slice.inj e;rw [T] at ae;omega
  have D:=hide s1;have C1:=hide c1;have y:=hide M1;have i0:(0:Int) < (l:Int) + 1:=by omega
  have i1:(l:Int) < (l:Int) + 1:=by omega
  have i2:(l:Int) <= (U:Int):=by omega
  have i3:(l:Int) + 1 <= 50:=by omega
  have i4:(0:Int) <= (l:Int):=by omega
  have zz:=C.cells.2.2.2.2.2.2.2.1;rw [hl] at H;have Q:=hide z;have R:=hide hl;have HF:=hide Y8;have aj:=hide Y7;clear h C u z t O T G j P ai s1 c1 M1 M p Y8 Y7 hl B;go_enter Tryz.func191,Tryz.ntmps191
  go_upto_region 8 with fail
  generalize ag:w.setCell ⟨hb,0,none⟩ (.slice (some ⟨g2,0,none⟩) l U)=W1 at D C1 ⊢;generalize upd V 2 (.slice (some ⟨g2,0,none⟩) l U)=V1 at D;generalize upd X 2 (dw (items.take l))=X1 at D y;clear ag H r0 rl zz;have qp:=D.out.cells.2.2.2.2.2.2.1;unfold placed at qp
  cases l with
  | zero=>
   have QD:=hide (d.out W1 V1 X1 (items.take 0) (eF pl first (-1)) C1.out D.out y.out (Q.out.VH R.out HF.out) S);clear d S D y;go_wp2_with (go_at_call 127;refine QD.out.mono ?_;rintro e7 Y ⟨rfl,o⟩;have P7:=hide o;clear o;simp only [])
   go_ret2
   exact P7.out
  | succ m=>
   have J:b ≠ first:=fun e=>by rw [e,aa] at I;omega
   have HH:=Q.out.pop (l:=m) R.out HF.out aj.out;have QF:=hide (Qk D.out y.out HH (dE ..) J (by rw [List.length_take];omega));have D2:Hid (∀ W,rA Z ob hb W1 wt V1 n first (items.take (m + 1)).length (fun v=>eF pl first (-1) v=-1/\v ≠ b) bz W->W.cell? ⟨hb,2,none⟩=some (.func (.func 127) #[.pointer (some ⟨ob,0,none⟩)] #[])/\Calls Tryz.prog 127 #[.pointer (some ⟨ob,0,none⟩),.int .i64 (first:Nat),.int .i64 (-1)] W fun e w'=>e=.returned (.tuple #[])/\zO Z ob hb n w gone (.returned (.tuple #[.int .i64 (first:Nat),.bool true])) w'):=fun W ad=>by
    obtain ⟨X',a,c,r1,r2,r3,r4,r5,r6⟩:=ad.ex;refine ⟨r1.cells.2.2.2.2.2.2.1,d.out W V1 X' a c (C1.out.trans r6) r1 r2 r3 fun v=>?_⟩;rw [r5 v,S v];constructor
    ·exact fun h=>h.1
    ·intro h;refine ⟨h,fun e=>?_⟩;subst e;have h2:=(S v).2 h;rw [df _ _ J,I] at h2;omega
   have l0:(0:Int) < ((m + 1:Nat):Int):=by omega
   clear d S D y HH qp;go_wp2_with (first
    |(go_at_call 226;refine QF.out.mono ?_;rintro e7 Y ⟨rfl,o⟩;obtain ⟨qp,N⟩:=D2.out Y o;have QD:=hide N;clear N o;simp only [])
    |(go_at_call 127;refine QD.out.mono ?_;rintro e8 w8 ⟨rfl,L⟩;have P8:=hide L;clear L;simp only []))
   go_ret2
   exact P8.out
end
section
variable {Z:Nat->Prop} {ob hb:Nat} {w w':World} {wt:Int} {V:Nat->Value} {X:Nat->List Value} {n g:Nat} {items:List Nat} {pl bz:Nat->Int} {gone:Nat->Prop}
theorem iP.congr {fB:Nat->Prop} (h:iP Z ob hb n w gone) (a:∀ v,gone v↔fB v):iP Z ob hb n w fB:=by
 obtain ⟨wt,V,X,items,pl,bz,e,d,c,b⟩:=h.ex;exact ⟨⟨wt,V,X,items,pl,bz,e,d,c,fun v=>(b v).trans (a v)⟩,(a n).1 h.last⟩
theorem yt (h:iP Z ob hb n w gone) (d:n <= 50):
  Calls Tryz.prog 146 #[.pointer (some ⟨ob,0,none⟩)] w fun e w'=>zO Z ob hb n w gone e w':=by
 have j:=hide (Tq h d);obtain ⟨wt,V,X,items,pl,bz,b,-⟩:=h.ex;have q:=b.cells.1;clear h b;go_enter Tryz.func146,Tryz.ntmps146
 go_upto_region 1 with fail
 go_wp2_with (go_at_call 191;refine j.out.mono ?_;rintro m l a;have k:=hide a;rcases a.2 with ⟨rfl,c⟩ | ⟨v,rfl,c⟩ <;> (clear a c;simp only []))
 all_goals (go_wp2;go_ret2;exact k.out)
theorem oF.place (c:oF n n X items pl bz) (h:Ord Z ob hb w wt V X) {v:Nat} (b:v < n):∃ a c0,w.cell? ⟨ob,1,none⟩=some (.slice (some ⟨a,0,none⟩) n c0)/\w.cell? ⟨a,v,none⟩=some (.int .i64 (pl v)):=by
 obtain ⟨a,c0,t,e,r,s,_⟩:=h.elem (k:=0) (j:=v) (by omega) c.n0 b;rw [c.t0 v b (by omega)] at s;obtain rfl:=Option.some.inj s;have:=h.cells.2.1;rw [e] at this;exact ⟨a,c0,this,r⟩
theorem NG (h:iP Z ob hb n w gone) {v:Nat} (o:v < n) (r:n <= 50):
  Calls Tryz.prog 178 #[.pointer (some ⟨ob,0,none⟩),.int .i64 (v:Nat)] w fun e w'=>e=.returned (.tuple #[])/\dB Z w w'/\iP Z ob hb n w' (fun x=>gone x/\x ≠ v):=by
 obtain ⟨wt,V,X,items,pl,bz,j,l,m,b⟩:=h.ex;obtain ⟨I,c0,G,p⟩:=l.place j o;have H:=j.cells.1;have D:(0:Int) <= (v:Int):=by omega
 have C:(v:Int) < (n:Int):=by omega
 by_cases a:pl v=-1
 ·have u:Hid (Calls Tryz.prog 128 #[.pointer (some ⟨hb,0,none⟩),.int .i64 (v:Nat)] w fun e w'=>e=.returned (.tuple #[])/\dB Z w w'/\iP Z ob hb n w' (fun x=>gone x/\x ≠ v)):=(OH j l m o a ((b n).2 h.last) r).mono fun e w' ⟨h1,h2,h3⟩=>⟨h1,h2,h3.congr fun x=>by rw [b x]⟩
  rw [a] at p;clear h j l m b a;go_enter Tryz.func178,Tryz.ntmps178
  go_wp2_with (go_at_call 128;refine u.out.mono ?_;rintro J B ⟨rfl,d,c⟩;have y:=hide c;have z:=hide d;clear c d;simp only [])
  go_end0
  exact ⟨rfl,z.out,y.out⟩
 ·have F:Hid (iP Z ob hb n w (fun x=>gone x/\x ≠ v)):=h.congr fun x=>⟨fun k=>⟨k,fun e=>a ((b v).2 (e ▸ k))⟩,fun k=>k.1⟩
  have q:(pl v == -1)=false:=by simpa using a
  generalize pl v=t at *
  clear h j l m b a;go_enter Tryz.func178,Tryz.ntmps178
  go_wp2;go_end0
  exact ⟨rfl,dB.refl _,F.out⟩
theorem UF (h:iP Z ob hb n w gone):
  Calls Tryz.prog 144 #[.pointer (some ⟨ob,0,none⟩)] w fun e w'=>e=.returned (.tuple #[])/\dB Z w w'/\iP Z ob hb n w' gone:=by
 obtain ⟨wt,V,X,items,pl,bz,d,k,j,c⟩:=h.ex;have m:=d.cells.2.2.2.1;have l:=d.cells.2.2.2.2.2.2.2.2;have F:Hid (∀ t,dB Z w (w.setCell ⟨ob,3,none⟩ (.int .i64 t)).drew/\iP Z ob hb n (w.setCell ⟨ob,3,none⟩ (.int .i64 t)).drew gone):=fun t=>by
  obtain ⟨a,b⟩:=d.weight t;exact ⟨b.drew,⟨t,V,X,items,pl,bz,a.later bR.drew,k,j,c⟩,h.last⟩
 clear h d k j c;go_enter Tryz.func144,Tryz.ntmps144
 go_region_with fail
 all_goals
  go_wp2;go_end0
  exact ⟨rfl,F.out _⟩
theorem oF.Q8 (h:oF n g X items pl bz) {v:Nat} (t:Int):oF n g (upd X 1 ((X 1).set v (.int .i64 t))) items pl (eF bz v t) where
 n0:=by rw [cu _ _ (by decide)];exact h.n0
 t0:=by rw [cu _ _ (by decide)];exact h.t0
 i0:=by rw [cu _ _ (by decide)];exact h.i0
 n1:=by rw [cz,List.length_set];exact h.n1
 t1:=fun x a=>by
  rw [cz];by_cases e:x=v
  ·subst e;rw [List.getElem?_set_self (by rw [h.n1];exact a),dE]
  ·rw [List.getElem?_set_ne (fun b=>e b.symm),df _ _ e];exact h.t1 x a
 t2:=by rw [cu _ _ (by decide)];exact h.t2
def Hf (Z:Nat->Prop) (ob hb n:Nat) (w:World) (V:Nat->Value) (items:List Nat) (pl:Nat->Int) (wt:Int) (s:Value) (wr:World):Prop:=
 ∃ (i:Nat) (X:Nat->List Value) (bz:Nat->Int),s=.int .i64 ((i:Nat):Int)/\i <= n/\Hid (Ord Z ob hb wr wt V X/\oF n n X items pl bz/\dB Z w wr)
def rz (Z:Nat->Prop) (ob hb n:Nat) (w:World) (V:Nat->Value) (items:List Nat) (pl:Nat->Int) (w':World):Prop:=dB Z w w'/\∃ Zb X' Zj,Ord Z ob hb w' Zb V X'/\oF n n X' items pl Zj
theorem Le (h:Ord Z ob hb w wt V X) (p:oF n n X items pl bz) (M:n <= 50):
  Calls Tryz.prog 238 #[.pointer (some ⟨ob,0,none⟩)] w fun e w'=>e=.returned (.tuple #[])/\rz Z ob hb n w V items pl w':=by
 have r:Hid (Ord Z ob hb w wt V X/\oF n n X items pl bz/\dB Z w w):=⟨h,p,dB.refl _⟩;obtain ⟨O,N,l⟩:=h.eH.shape (k:=1) (by omega);have o:=h.cells.2.2.1;rw [l,p.n1] at o;clear h p l;go_enter Tryz.func238,Tryz.ntmps238
 go_wp2_with fail
 go_loopw [2,8] (fun _ s wr=>Hf Z ob hb n w V items pl wt s wr) (fun _ s _=>n - (intOf s).toNat)
 case atStart=>exact ⟨0,X,bz,rfl,zl,r⟩
 case round=>
  clear r o;obtain ⟨i,X',m,rfl,y,c⟩:=hrel;by_cases d:i < n
  ·obtain ⟨g1,z,H,l,I,q,D,-⟩:=c.out.1.elem (k:=1) (j:=i) (by omega) c.out.2.1.n1 d;have o:=c.out.1.cells.2.2.1;rw [l] at o;rw [c.out.2.1.t1 i d] at q;obtain rfl:=Option.some.inj q;have L:(0:Int) <= (i:Int):=by omega
   have u:(i:Int) < (n:Int):=by omega
   have B:Hid (∀ t v,v=.int .i64 ((i + 1:Nat):Int)->Hf Z ob hb n w V items pl wt v (wr.setCell ⟨g1,i,none⟩ (.int .i64 t))):=fun t v x=>by
    obtain ⟨a,b⟩:=c.out.1.set (k:=1) (by omega) l i (.int .i64 t);exact ⟨i + 1,_,_,x,d,a,c.out.2.1.Q8 t,c.out.2.2.trans b⟩
   clear c l;generalize m i=G at *
   go_wp2;go_roundw
   case rel=>exact B.out _ _ (by go_num)
   case measure=>simp [intOf];omega
  ·have J:=c.out.1.cells.2.2.2.1;have C:=c.out.1.cells.2.2.2.2.2.2.2.2;have F:Hid (∀ t,rz Z ob hb n w V items pl (wr.setCell ⟨ob,3,none⟩ (.int .i64 t))):=fun t=>by
    obtain ⟨a,b⟩:=c.out.1.weight t;exact ⟨c.out.2.2.trans b,t,X',m,a,c.out.2.1⟩
   have u:¬ ((i:Int) < (n:Int)):=by omega
   clear c;go_wp2;go_end0;exact ⟨rfl,F.out _⟩
theorem Tj (h:Ord Z ob hb w wt V X) (G:oF n n X items pl bz) (l:DN n items pl) (b:∀ v,pl v=-1↔gone v) (q:gone n) (N:n <= 50) {v:Nat} (C:v < n) {p:Int} (c:pl v=p) (k:p ≠ -1):
  Calls Tryz.prog 173 #[.pointer (some ⟨hb,0,none⟩),.int .i64 p] w fun e w'=>e=.returned (.tuple #[])/\dB Z w w'/\iP Z ob hb n w' gone:=by
 rcases l.at' v C with m | ⟨i,m,r⟩
 ·exact absurd (c.symm.trans m) k
 ·obtain ⟨D,J⟩:=List.getElem?_eq_some_iff.1 r;have o:=l.open D;rw [J] at o;have M:=l.len;have e:p=(i:Nat):=c.symm.trans m;subst e;refine (Ey h G o r ((b n).2 q) (by omega) (by omega)).mono ?_;rintro e w' ⟨I,H⟩;obtain ⟨X',a,j,B,z,y,L,u,t⟩:=H.ex;refine ⟨I,t,⟨wt,V,X',a,j,bz,B,z,y,fun x=>?_⟩,q⟩;rw [u x,b x];refine ⟨fun d=>d.1,fun d=>⟨d,fun e=>?_⟩⟩;subst e;have:=(b x).2 d;omega
theorem NH (h:iP Z ob hb n w gone) {v:Nat} (u:v < n) (T:n <= 50):
  Calls Tryz.prog 217 #[.pointer (some ⟨ob,0,none⟩),.int .i64 (v:Nat)] w fun e w'=>e=.returned (.tuple #[])/\dB Z w w'/\iP Z ob hb n w' gone:=by
 obtain ⟨wt,V,X,items,pl,bz,D,L,S,B⟩:=h.ex;have U:=h.last;obtain ⟨g1,c1,t1,O,J,R,z1,aa,l1,no,nh⟩:=D.elem (k:=1) (j:=v) (by omega) L.n1 u;have y:=D.cells.2.2.1;rw [O] at y;have q3:=D.cells.2.2.2.1;rw [L.t1 v u] at R;obtain rfl:=Option.some.inj R;have v0:(0:Int) <= (v:Int):=by omega
 have v1:(v:Int) < (n:Int):=by omega
 have F1:Hid (∀ t,Ord Z ob hb (w.setCell ⟨g1,v,none⟩ (.int .i64 t)).drew wt V (upd X 1 ((X 1).set v (.int .i64 t)))/\oF n n (upd X 1 ((X 1).set v (.int .i64 t))) items pl (eF bz v t)/\dB Z w (w.setCell ⟨g1,v,none⟩ (.int .i64 t)).drew):=fun t=>by
  obtain ⟨a,b⟩:=D.set (k:=1) (by omega) O v (.int .i64 t);exact ⟨a.later bR.drew,L.Q8 t,b.drew⟩
 have Y:=hide S;have H:=hide B;clear h D L S B O;generalize bz v=tt at *
 go_enter Tryz.func217,Tryz.ntmps217
 go_upto_region 0 with fail
 go_cut [] from 4 (fun wx=>∃ t,Hid (Ord Z ob hb wx wt V (upd X 1 ((X 1).set v (.int .i64 t)))/\oF n n (upd X 1 ((X 1).set v (.int .i64 t))) items pl (eF bz v t)/\dB Z w wx))
 case first=>
  go_region_with fail
  all_goals
   go_wp2_with fail
   go_meet;exact ⟨_,F1.out _⟩
 case rest=>
  obtain ⟨t,m⟩:=hcut;clear F1 y q3 J z1;obtain ⟨ad,ae,ab,G,N,x,-⟩:=m.out.1.elem (k:=1) (j:=v) (by omega) m.out.2.1.n1 u;have y:=m.out.1.cells.2.2.1;rw [G] at y;rw [m.out.2.1.t1 v u] at x;obtain rfl:=Option.some.inj x;have W:=hide (Le m.out.1 m.out.2.1 T);have H1:Hid (rz Z ob hb n w V items pl wc):=⟨m.out.2.2,wt,_,_,m.out.1,m.out.2.1⟩;have C1:=hide m.out.2.2;clear m G;generalize eF bz v t v=t2 at *
  go_upto_if 24 with fail
  go_cut [] from 4 (fun wx=>Hid (rz Z ob hb n w V items pl wx))
  case first=>
   go_wp2_with (go_at_call 238;refine W.out.mono ?_;rintro e7 Q ⟨rfl,q⟩;have S7:Hid (rz Z ob hb n w V items pl Q):=⟨C1.out.trans q.1,q.2⟩;clear q;simp only [])
   ·go_meet;exact S7
   ·go_meet;exact H1
  case rest=>
   rename_i wy _;obtain ⟨r,M,X2,P,c,o⟩:=hcut.out;clear hcut H1 W C1 y N;obtain ⟨g0,c0,q1,J⟩:=o.place c u;have q0:=c.cells.1;have I:=hide r;by_cases l:pl v=-1
   ·have F:Hid (iP Z ob hb n wc gone):=⟨⟨M,V,X2,items,pl,P,c,o,Y.out,H.out⟩,U⟩;rw [l] at J;clear c o r l;go_wp2;go_end0;exact ⟨rfl,I.out,F.out⟩
   ·obtain ⟨p,d⟩:∃ p,pl v=p:=⟨_,rfl⟩;have QR:Hid (Calls Tryz.prog 173 #[.pointer (some ⟨hb,0,none⟩),.int .i64 p] wc.drew fun e w'=>e=.returned (.tuple #[])/\dB Z wc.drew w'/\iP Z ob hb n w' gone):=Tj (c.later bR.drew) o Y.out H.out U T u d (fun e=>l (d.trans e));have ac:(p != -1)=true:=by simpa using fun e=>l (d.trans e)
    rw [d] at J;clear c o r l d;have CD:Hid (dB Z w wc.drew):=I.out.drew;go_upto_region 4 with fail
    go_region_with (go_at_call 173;refine QR.out.mono ?_;rintro e7 Q ⟨rfl,C,z⟩;have C7:=hide (CD.out.trans C);have O7:=hide z;clear C z;simp only [])
    all_goals
     go_wp2;go_end0
     exact ⟨rfl,C7.out,O7.out⟩
end
section
variable {Z:Nat->Prop} {sb ob hb K n:Nat} {w w':World} {f f' V V':Nat->Value} {X X':Nat->List Value} {gone fB:Nat->Prop}
def zz (R:Nat->Prop) (w:World) (g:Nat):Prop:=R g\/w.heap.size <= g
theorem dQ.Lj {Z':Nat->Prop} (h:dQ Z sb w K f V X) (c:∀ g,g < w.heap.size->Z g->Z' g) (d:∀ g,w.heap.size <= g->Z' g):dQ Z' sb w K f V X:=
 ⟨h.row,h.eH,h.hdr,c sb h.row.lt h.jf,fun k a g b=>c g ((h.eH.own k a).lt g b).2 (h.al k a g b),d,h.hK⟩
theorem dQ.kept (h:dQ Z sb w K f V X) {Z':Nat->Prop} (c:dB Z' w w') (hd:∀ g,g < w.heap.size->Z g->¬ Z' g):dQ Z sb w' K f V X:=
 ⟨h.row.of_block (c.block _ h.row.lt (hd sb h.row.lt h.jf)),h.eH.kept fun k g b a=>c.block g ((h.eH.own k b).lt g a).2 (hd g ((h.eH.own k b).lt g a).2 (h.al k b g a)),h.hdr,h.jf,h.al,fun g a=>h.az g (Nat.le_trans c.size a),h.hK⟩
theorem Ord.Lj {wt:Int} {Z':Nat->Prop} (h:Ord Z ob hb w wt V X) (a:∀ g,g < w.heap.size->Z g->Z' g) (d:∀ g,w.heap.size <= g->Z' g):Ord Z' ob hb w wt V X:=
 ⟨h.jM,h.hrow,h.eH,a ob h.jM.lt h.zo,a hb h.hrow.lt h.zh,fun k b g c=>a g ((h.eH.own k b).lt g c).2 (h.al k b g c),d⟩
theorem iP.Lj {Z':Nat->Prop} (h:iP Z ob hb n w gone) (d:∀ g,g < w.heap.size->Z g->Z' g) (c:∀ g,w.heap.size <= g->Z' g):iP Z' ob hb n w gone:=by
 obtain ⟨wt,V,X,items,pl,bz,b,a⟩:=h.ex;exact ⟨⟨wt,V,X,items,pl,bz,b.Lj d c,a⟩,h.last⟩
theorem iR {R:Nat->Prop} {g:Nat} (a:g < w.heap.size) (h:zz R w g):R g:=by
 rcases h with h | h
 ·exact h
 ·omega
theorem iP.nJ {R:Nat->Prop} (h:iP (zz R w) ob hb n w gone) {Z':Nat->Prop} (j:dB Z' w w') (hd:∀ g,g < w.heap.size->R g->¬ Z' g):iP (zz R w') ob hb n w' gone:=by
 have l:iP (fun g=>R g\/w.heap.size <= g) ob hb n w gone:=h;obtain ⟨wt,V,X,items,pl,bz,a,e⟩:=h.ex;have c:=a.kept j (hd ob a.jM.lt (iR a.jM.lt a.zo)) (hd hb a.hrow.lt (iR a.hrow.lt a.zh)) fun k c g b=>hd g ((a.eH.own k c).lt g b).2 (iR ((a.eH.own k c).lt g b).2 (a.al k c g b))
 exact ⟨⟨wt,V,X,items,pl,bz,⟨c.jM,c.hrow,c.eH,.inl (iR a.jM.lt a.zo),.inl (iR a.hrow.lt a.zh),fun k d g b=>.inl (iR ((a.eH.own k d).lt g b).2 (a.al k d g b)),fun g b=>.inr b⟩,e⟩,h.last⟩
theorem dQ.nJ {R:Nat->Prop} (h:dQ (zz R w) sb w K f V X) {Z':Nat->Prop} (d:dB Z' w w') (hd:∀ g,g < w.heap.size->R g->¬ Z' g):dQ (zz R w') sb w' K f V X:=by
 have c:=h.kept d fun g a e=>hd g a (iR a e)
 exact ⟨c.row,c.eH,c.hdr,.inl (iR h.row.lt h.jf),fun k b g a=>.inl (iR ((h.eH.own k b).lt g a).2 (h.al k b g a)),fun g a=>.inr a,h.hK⟩
structure Duo (Z:Nat->Prop) (sb ob hb n:Nat) (w:World) (K:Nat) (f V:Nat->Value) (X:Nat->List Value) (gone:Nat->Prop) (Rs Ro:Nat->Prop):Prop where
 dF:dQ (zz Rs w) sb w K f V X
 ord:iP (zz Ro w) ob hb n w gone
 f12:f 12=.pointer (some ⟨ob,0,none⟩)
 za:∀ g,Rs g->¬ Ro g
 ls:∀ g,Rs g->g < w.heap.size
 lo:∀ g,Ro g->g < w.heap.size
 zs:∀ g,Rs g->Z g
 zo:∀ g,Ro g->Z g
 az:∀ g,w.heap.size <= g->Z g
variable {Rs Ro:Nat->Prop}
theorem Duo.xJ (h:Duo Z sb ob hb n w K f V X gone Rs Ro) {R:Nat->Prop} (c:∀ g,R g->Z g):∀ g,zz R w g->Z g:=fun g b=>by
 rcases b with a | a
 ·exact c g a
 ·exact h.az g a
theorem Duo.gK (h:Duo Z sb ob hb n w K f V X gone Rs Ro) (e:dQ (zz Rs w) sb w' K f' V' X') (d:dB (zz Rs w) w w') (j:f' 12=f 12):Duo Z sb ob hb n w' K f' V' X' gone (fun g=>zz Rs w g/\g < w'.heap.size) Ro/\dB Z w w':=by
 refine ⟨{
  dF:=e.Lj (fun g a b=>.inl ⟨b,a⟩) (fun g c=>.inr c)
  ord:=h.ord.nJ d fun g c a b=>h.za g (iR c b) a
  f12:=j.trans h.f12
  za:=fun g a b=>by
   have:=h.lo g b;exact h.za g (iR this a.1) b
  ls:=fun g a=>a.2
  lo:=fun g a=>Nat.lt_of_lt_of_le (h.lo g a) d.size
  zs:=fun g a=>h.xJ h.zs g a.1
  zo:=h.zo
  az:=fun g c=>h.az g (Nat.le_trans d.size c) },d.mono fun g _ a=>h.xJ h.zs g a⟩
theorem Duo.xS (h:Duo Z sb ob hb n w K f V X gone Rs Ro) (e:iP (zz Ro w) ob hb n w' fB) (d:dB (zz Ro w) w w'):Duo Z sb ob hb n w' K f V X fB Rs (fun g=>zz Ro w g/\g < w'.heap.size)/\dB Z w w':=by
 refine ⟨{
  dF:=h.dF.nJ d fun g b a c=>h.za g a (iR b c)
  ord:=e.Lj (fun g a c=>.inl ⟨c,a⟩) (fun g b=>.inr b)
  f12:=h.f12
  za:=fun g a c=>by
   have:=h.ls g a;exact h.za g a (iR this c.1)
  ls:=fun g a=>Nat.lt_of_lt_of_le (h.ls g a) d.size
  lo:=fun g a=>a.2
  zs:=h.zs
  zo:=fun g a=>h.xJ h.zo g a.1
  az:=fun g b=>h.az g (Nat.le_trans d.size b) },d.mono fun g _ a=>h.xJ h.zo g a⟩
theorem Duo.later (h:Duo Z sb ob hb n w K f V X gone Rs Ro) (a:Below w.heap.size w w'):Duo Z sb ob hb n w' K f V X gone Rs Ro where
 dF:=h.dF.nJ (Z':=fun _=>False) (dB.of_below a) fun _ _ _ h=>h
 ord:=h.ord.nJ (Z':=fun _=>False) (dB.of_below a) fun _ _ _ h=>h
 f12:=h.f12
 za:=h.za
 ls:=fun g b=>Nat.lt_of_lt_of_le (h.ls g b) a.size
 lo:=fun g b=>Nat.lt_of_lt_of_le (h.lo g b) a.size
 zs:=h.zs
 zo:=h.zo
 az:=fun g c=>h.az g (Nat.le_trans a.size c)
structure Hr (n:Nat) (X:Nat->List Value) (pre:Int) (seen:Nat->Bool) (jd:List Nat):Prop where
 n10:(X 10).length=n
 t10:∀ v,v < n->(X 10)[v]? = some (.bool (seen v))
 l7:X 7=.int .i64 pre :: dw jd
theorem Hr.mark {pre:Int} {seen:Nat->Bool} {a:List Nat} (h:Hr n X pre seen a) {v:Nat} (d:v < n):Hr n (upd X 10 ((X 10).set v (.bool true))) pre (eF seen v true) a where
 n10:=by rw [cz,List.length_set];exact h.n10
 t10:=fun x b=>by
  rw [cz];by_cases e:x=v
  ·subst e;rw [List.getElem?_set_self (by rw [h.n10];exact b),dE]
  ·rw [List.getElem?_set_ne (fun c=>e c.symm),df _ _ e];exact h.t10 x b
 l7:=by rw [cu _ _ (by decide)];exact h.l7
theorem Hr.more {pre:Int} {seen:Nat->Bool} {a:List Nat} (h:Hr n X pre seen a) (y:Nat):Hr n (upd X 7 (X 7 ++ [.int .i64 (y:Nat)])) pre seen (a ++ [y]) where
 n10:=by rw [cu _ _ (by decide)];exact h.n10
 t10:=by rw [cu _ _ (by decide)];exact h.t10
 l7:=by rw [cz,h.l7,jr];rfl
theorem Hr.congr {pre:Int} {seen:Nat->Bool} {a:List Nat} (h:Hr n X pre seen a) (c:X' 7=X 7) (b:X' 10=X 10):Hr n X' pre seen a:=⟨by rw [b];exact h.n10,by rw [b];exact h.t10,by rw [c];exact h.l7⟩
end
section
variable {Z:Nat->Prop} {sb K:Nat} {w w':World} {f V:Nat->Value} {X:Nat->List Value}
def JA (Z:Nat->Prop) (sb:Nat) (w:World) (K:Nat) (f V:Nat->Value) (X:Nat->List Value) (x:Nat) (w':World):Prop:=dB Z w w'/\∃ t:Int,dQ Z sb w' K f V (upd X 0 ((X 0).set (x + 2) (.int .i64 t)))
theorem Sm (x n:Nat) (t:Int) (h:dQ Z sb w K f V X) (m:(X 0).length=n) (l:x + 2 < n) (hb:n <= 17592186044416) (b:(X 0)[x + 2]? = some (.int .i64 t)):
  Calls Tryz.prog 216 #[.pointer (some ⟨sb,2,none⟩),.int .i64 x] w fun e w'=>e=.returned (.tuple #[])/\JA Z sb w K f V X x w':=by
 obtain ⟨g,o,z,c,d,B,a,q,p,D,C⟩:=h.elem (k:=0) (j:=x + 2) (by omega) m l;rw [show cellOf 0=2 from rfl] at d;rw [b] at a;obtain rfl:=Option.some.inj a;have F:Hid (∀ u:Int,JA Z sb w K f V X x (w.setCell ⟨g,x + 2,none⟩ (.int .i64 u))):=fun u=>⟨(dB.refl _).setCell p _,u,h.set (k:=0) (by have:=h.hK;omega) c (x + 2) (.int .i64 u)⟩
 have y:(0:Int) <= (x:Int) + 2:=by omega
 have v:(x:Int) + 2 < (n:Int):=by omega
 have r:((x:Int) + 2).toNat=x + 2:=by omega
 clear h c b a;go_enter Tryz.func216,Tryz.ntmps216
 go_wp2;go_end0
 exact ⟨rfl,F.out _⟩
end
section
variable {Z:Nat->Prop} {sb ob hb K n:Nat} {w w':World} {f f' V V':Nat->Value} {X X':Nat->List Value} {gone:Nat->Prop} {Rs Ro:Nat->Prop} {tr ch:List Nat} {lev:Nat->Nat} {rea:Nat->Int} {cs:List Rec}
def WK (n:Nat) (V:Nat->Value) (X:Nat->List Value):Prop:=∀ x,x < 2 * n->(X 9)[x]? = some (V (16 + x))
theorem WK.congr {n:Nat} {V V':Nat->Value} {X X':Nat->List Value} (h:WK n V X) (c:X' 9=X 9) (b:∀ x,V' (16 + x)=V (16 + x)):WK n V' X':=fun x a=>by rw [c,b];exact h x a
structure fe (Z:Nat->Prop) (sb ob hb n:Nat) (w:World) (K:Nat) (f:Nat->Value) (X:Nat->List Value) (gone:Nat->Prop) (E:List Value) (pre:Int) (s:Lk) (f' V':Nat->Value) (X':Nat->List Value) (Rs Ro:Nat->Prop) (wr:World):Prop where
 duo:Duo Z sb ob hb n wr K f' V' X' gone Rs Ro
 x0:X' 0=E
 DY:Hr n X' pre s.seen s.jd
 only:∀ j,j ≠ 0->j ≠ 7->j ≠ 10->X' j=X j
 ff:∀ j,j ≠ 15->f' j=f j
 eO:dB Z w wr
 wk:WK n V' X'
def xG (Z:Nat->Prop) (sb ob hb n:Nat) (w:World) (K:Nat) (f:Nat->Value) (X:Nat->List Value) (gone:Nat->Prop) (E:List Value) (pre:Int) (lev:Nat->Nat) (d:Nat) (s0:Lk) (lits:List Nat) (s5 s20:Value) (wr:World):Prop:=
 ∃ (i:Nat) (s:Lk) (f' V':Nat->Value) (X':Nat->List Value) (Rs Ro:Nat->Prop),s20=.int .i64 ((i:Nat):Int)/\s5=.int .i64 ((s.opn:Nat):Int)/\i <= lits.length/\Hid (s=(lits.take i).foldl (lY lev d) s0)/\Hid (fe Z sb ob hb n w K f X gone E pre s f' V' X' Rs Ro wr)
def xE (Z:Nat->Prop) (sb ob hb n:Nat) (w:World) (K:Nat) (f:Nat->Value) (X:Nat->List Value) (gone:Nat->Prop) (cs:List Rec) (k kd:Nat) (pre:Int) (lev:Nat->Nat) (d:Nat) (s0:Lk) (lits:List Nat) (e:Ending) (w':World):Prop:=
 ∃ (bs:Int) (f' V':Nat->Value) (X':Nat->List Value) (Rs Ro:Nat->Prop),e=.returned (.int .i64 (((lits.foldl (lY lev d) s0).opn:Nat):Int))/\fe Z sb ob hb n w K f X gone (ints (enc (cs.set k ⟨kd,bs,lits⟩))) pre (lits.foldl (lY lev d) s0) f' V' X' Rs Ro w'
variable {E:List Value} {pre:Int} {s:Lk} {wr wx:World}
theorem fe.later (h:fe Z sb ob hb n w K f X gone E pre s f' V' X' Rs Ro wr) (a:Below wr.heap.size wr wx):fe Z sb ob hb n w K f X gone E pre s f' V' X' Rs Ro wx:=
 { h with duo:=h.duo.later a,eO:=h.eO.trans (dB.of_below a) }
theorem fe.mark (h:fe Z sb ob hb n w K f X gone E pre s f' V' X' Rs Ro wr) {v:Nat} (l:v < n) {g c:Nat} (e:V' 10=.slice (some ⟨g,0,none⟩) n c) (d:zz Rs wr g) (k:Nat):fe Z sb ob hb n w K f X gone E pre ⟨eF s.seen v true,s.jd,k⟩ f' V' (upd X' 10 ((X' 10).set v (.bool true))) (fun b=>zz Rs wr b/\b < (wr.setCell ⟨g,v,none⟩ (.bool true)).heap.size) Ro (wr.setCell ⟨g,v,none⟩ (.bool true)):=by
 obtain ⟨q,p⟩:=h.duo.gK (h.duo.dF.set (k:=10) (by have:=h.duo.dF.hK;omega) e v (.bool true)) ((dB.refl _).setCell d _) rfl;exact ⟨q,by rw [cu _ _ (by decide)];exact h.x0,h.DY.mark l,fun j o m a=>by rw [cu _ _ a];exact h.only j o m a,h.ff,h.eO.trans p,h.wk.congr (cu _ _ (by decide)) fun _=>rfl⟩
theorem fe.used (h:fe Z sb ob hb n w K f X gone E pre s f' V' X' Rs Ro wr) (a:iP (zz Ro wr) ob hb n wx gone) (b:dB (zz Ro wr) wr wx):fe Z sb ob hb n w K f X gone E pre s f' V' X' Rs (fun g=>zz Ro wr g/\g < wx.heap.size) wx:=by
 obtain ⟨d,c⟩:=h.duo.xS a b;exact ⟨d,h.x0,h.DY,h.only,h.ff,h.eO.trans c,h.wk⟩
theorem fe.opn (h:fe Z sb ob hb n w K f X gone E pre s f' V' X' Rs Ro wr) (k:Nat):fe Z sb ob hb n w K f X gone E pre ⟨s.seen,s.jd,k⟩ f' V' X' Rs Ro wr:=⟨h.duo,h.x0,h.DY,h.only,h.ff,h.eO,h.wk⟩
theorem fe.push (h:fe Z sb ob hb n w K f X gone E pre s f' V' X' Rs Ro wr) {obj:Obj} {v':Value} {w6:World} {y:Nat} (A:dz (wr.alloc obj) 0 3 1 (V' 7) (X' 7).length (X' 7) 1 [.int .i64 (y:Nat)] v' w6) (k:Nat):
  fe Z sb ob hb n w K f X gone E pre ⟨s.seen,s.jd ++ [y],k⟩ (upd f' 15 v') (upd V' 7 v') (upd X' 7 (X' 7 ++ [.int .i64 (y:Nat)])) (fun g=>zz Rs wr g/\g < (w6.setCell ⟨sb,15,none⟩ v').heap.size) Ro (w6.setCell ⟨sb,15,none⟩ v'):=by
 have o:=h.duo.dF.hK;obtain ⟨l,e⟩:=h.duo.gK (h.duo.dF.push (k:=7) (m:=1) (news:=[.int .i64 (y:Nat)]) (by omega) rfl A) (h.duo.dF.nO (k:=7) (by omega) A 15 v') (cu _ _ (by decide));exact ⟨l,by rw [cu _ _ (by decide)];exact h.x0,h.DY.more y,fun j d b c=>by rw [cu _ _ b];exact h.only j d b c,fun j a=>by rw [cu _ _ a];exact h.ff j a,h.eO.trans e,h.wk.congr (cu _ _ (by decide)) fun x=>cu _ _ (by omega)⟩
theorem Fh {k:Nat} {s0:Lk} (D:Duo Z sb ob hb n w K f V X gone Rs Ro) (hn:n <= 50) (h0:X 0=ints (enc cs)) (hk:k < cs.length) (hN:(enc cs).length <= 1099511627776) (hT:lU n X tr ch lev rea) (hL:Hr n X pre s0.seen s0.jd) (ar:s0.opn=0) (q:∀ y ∈ (cs[k]).lits,y < 2 * n) (bd:ch.length <= 1000) (bb:s0.jd.length + (cs[k]).lits.length <= 1000) (hW:WK n V X):
  Calls Tryz.prog 182 #[.pointer (some ⟨sb,0,none⟩),.int .i64 (dn cs k:Nat)] w fun e w'=>xE Z sb ob hb n w K f X gone cs k (cs[k]).kind pre lev ch.length s0 (cs[k]).lits e w':=by
 obtain ⟨i0,hi,aM,aL,aK⟩:=info_parts Tryz.fO;have aZ:=eD hk;have ab:(X 0).length=(enc cs).length:=by rw [h0,fU]
 have QU:=hide (Sm (dn cs k) (enc cs).length (cs[k]).busy D.dF ab (by omega) (by omega) (Cx h0 (y9 hk)));have aH:Hid (∀ wu,JA (zz Rs w) sb w K f V X (dn cs k) wu->∃ r X1 ai,fe Z sb ob hb n w K f X gone (ints (enc (cs.set k ⟨(cs[k]).kind,r,(cs[k]).lits⟩))) pre s0 f V X1 ai Ro wu):=fun wu ⟨hc,t,hs⟩=>by
  obtain ⟨d1,d2⟩:=D.gK hs hc rfl;refine ⟨t,_,_,d1,?_,hL.congr (cu _ _ (by decide)) (cu _ _ (by decide)),fun j h1 h2 h3=>cu _ _ h1,fun j hj=>rfl,d2,hW.congr (cu _ _ (by decide)) fun _=>rfl⟩;rw [cz,h0,ints_set,qU hk]
 have HT:=hide hT;clear hW;have Q:Hid (∀ (r:Int) e w' f' V' X' Rs Ro,e=.returned (.int .i64 ((((cs[k]).lits.foldl (lY lev ch.length) s0).opn:Nat):Int))->fe Z sb ob hb n w K f X gone (ints (enc (cs.set k ⟨(cs[k]).kind,r,(cs[k]).lits⟩))) pre ((cs[k]).lits.foldl (lY lev ch.length) s0) f' V' X' Rs Ro w'->xE Z sb ob hb n w K f X gone cs k (cs[k]).kind pre lev ch.length s0 (cs[k]).lits e w'):=fun r e w' f' V' X' Rs Ro h1 h2=>⟨r,f',V',X',Rs,Ro,h1,h2⟩
 generalize xE Z sb ob hb n w K f X gone cs k (cs[k]).kind pre lev ch.length s0 (cs[k]).lits=RR at *
 go_enter Tryz.func182,Tryz.ntmps182
 go_upto_region 2 with (go_at_call 216;refine QU.out.mono ?_;rintro e7 w7 ⟨rfl,ap⟩;obtain ⟨r,X1,ai,aq⟩:=aH.out w7 ap;have S1:=hide aq;clear aq ap;simp only [])
 have ac:k < (cs.set k ⟨(cs[k]).kind,r,(cs[k]).lits⟩).length:=by simpa using hk
 have ag:dn (cs.set k ⟨(cs[k]).kind,r,(cs[k]).lits⟩) k=dn cs k:=oD (c:=⟨(cs[k]).kind,r,(cs[k]).lits⟩) hk rfl k;have aB:(cs.set k ⟨(cs[k]).kind,r,(cs[k]).lits⟩)[k]=⟨(cs[k]).kind,r,(cs[k]).lits⟩:=by simp
 have n1:(enc (cs.set k ⟨(cs[k]).kind,r,(cs[k]).lits⟩)).length=(enc cs).length:=Gu (c:=⟨(cs[k]).kind,r,(cs[k]).lits⟩) hk rfl;have aT:=hide (Q.out r);generalize aw:cs.set k ⟨(cs[k]).kind,r,(cs[k]).lits⟩=u at *
 obtain ⟨g,c,e0,q0,ay,lg,ng,zg,r0,-,-,-,-⟩:=fH S1.out.duo.dF S1.out.x0 ac;have p:(u[k]).lits=(cs[k]).lits:=by rw [aB]
 rw [ag,p] at r0;have QL:Hid (∀ Y:World,Y.heap=w7.heap->Calls Tryz.prog 175 #[.pointer (some ⟨sb,2,none⟩),.int .i64 (dn cs k:Nat)] Y fun e w'=>e=.returned (jw g (dn cs k) (cs[k]).lits.length c)/\∃ j,w'=Y.drewN j):=fun Y hY=>iY sb 2 g (enc u).length c (dn cs k) (cs[k]).lits.length Y (by rw [show Y.cell? ⟨sb,2,none⟩=w7.cell? ⟨sb,2,none⟩ from World.cell?_of_block (a:=⟨sb,2,none⟩) (by rw [hY])];exact q0) (by omega) (by unfold maxLen;omega) ay (by rw [show Y.cell? ⟨g,dn cs k,none⟩=w7.cell? ⟨g,dn cs k,none⟩ from World.cell?_of_block (a:=⟨g,dn cs k,none⟩) (by rw [hY])];exact r0)
 have aW:Hid (∀ wr s f' V' X' Rs Ro,fe Z sb ob hb n w K f X gone (ints (enc u)) pre s f' V' X' Rs Ro wr->∀ i (hi:i < (cs[k]).lits.length),wr.cell? ⟨g,dn cs k + 3 + i,none⟩=some (.int .i64 ((cs[k]).lits[i]:Nat))):=fun wr s f' V' X' B C b i hi=>by
  have aS:V' 0=.slice (some ⟨g,0,none⟩) (enc u).length c:=by
   rw [<- b.duo.dF.hdr 0 (by omega),b.ff _ (by decide),<- S1.out.ff _ (by decide),S1.out.duo.dF.hdr 0 (by omega)];exact e0
  have:=mV b.duo.dF b.x0 aS ac (i:=i) (by rw [p];exact hi);rw [ag] at this;rw [this];simp only [p]
 have aC:Hid (∀ wr s f' V' X' Rs Ro,fe Z sb ob hb n w K f X gone (ints (enc u)) pre s f' V' X' Rs Ro wr->lU n X' tr ch lev rea):=fun wr s f' V' X' B C b=>HT.out.congr fun j h1 h2=>b.only j (by omega) (by omega) (by omega)
 rw [n1] at ay;have aV:=hide q;have aE:=hide ar;clear QU aH D h0 hT hL ac Q aB n1 aw q0 r0 ag p e0 ab q ar lg ng zg;generalize dn cs k=a at *
 generalize (cs[k]).lits=lits at *
 generalize enc u=J at *
 have la:Hid (lits.length ≠ 0->jw g a lits.length c=.slice (some ⟨g,a + 3,none⟩) lits.length (c - (a + 3))):=fun h=>by unfold jw;rw [if_neg (by omega)]
 obtain ⟨al,ad⟩:∃ al,jw g a lits.length c=.slice al lits.length (c - (a + 3)):=⟨_,rfl⟩;rw [ad] at QL;have AL:Hid (lits.length ≠ 0->al=some ⟨g,a + 3,none⟩):=fun h=>by
  have:=la.out h;rw [ad] at this;exact (Value.slice.inj this).1
 clear ad la;have a6:lits.length <= 1000:=by omega
 go_upto_region 3 with fail
 go_wp2_with (go_at_call 175;refine (QL.out _ (by rfl)).mono ?_;rintro e8 w8 ⟨rfl,j8,rfl⟩;simp only [])
 obtain ⟨W,hW⟩:∃ W,W=w7.drewN j8:=⟨_,rfl⟩;have S2:=hide (S1.out.later (wx:=W) (by rw [hW];exact Go.below_drewN bR _));rw [<- hW];clear hW S1 QL;go_loopw [5,7,8,20] (fun s5 _ _ S wr=>xG Z sb ob hb n w K f X gone (ints J) pre lev ch.length s0 lits s5 S wr) (fun _ _ _ S _=>lits.length - (intOf S).toNat)
 case atStart=>exact ⟨0,s0,f,V,X1,ai,Ro,rfl,by rw [aE.out];rfl,zl,by rw [List.take_zero];rfl,S2⟩
 case round=>
  clear S2;obtain ⟨i,s,f',V',X',B,C,rfl,rfl,bc,o,b⟩:=hrel;by_cases q:i < lits.length
  ·obtain rfl:=AL.out (by omega);have ax:=aW.out wr s f' V' X' B C b.out i q;have af:=aC.out wr s f' V' X' B C b.out;obtain ⟨y,hy⟩:∃ y,y=lits[i]:=⟨_,rfl⟩;rw [<- hy] at ax;have ba:y < 2 * n:=by rw [hy];exact aV.out _ (List.getElem_mem _)
   have aj:Hid (lY lev ch.length s y=(lits.take (i + 1)).foldl (lY lev ch.length) s0):=by
    unfold Hid;rw [List.take_add_one,List.getElem?_eq_getElem q,Option.toList_some,List.foldl_append,<- o.out,hy];rfl
   have QV:=hide (fun Y=>eQ y Y (by omega));have M:y / 2 < n:=by omega
   obtain ⟨v,U⟩:∃ v,v=y / 2:=⟨_,rfl⟩;rw [<- U] at QV M;obtain ⟨aR,bg,a3,aA,ao,H,am,aI,ak,l10,a5⟩:=b.out.duo.dF.elem (k:=10) (j:=v) (by omega) b.out.DY.n10 M;rw [show cellOf 10=16 from rfl] at ao;rw [b.out.DY.t10 v M] at am;obtain rfl:=Option.some.inj am;obtain ⟨g4,c4,t4,e4,q4,r4,s4,-⟩:=b.out.duo.dF.elem (k:=4) (j:=v) (by omega) af.n4 M;rw [show cellOf 4=10 from rfl] at q4;rw [af.t4 v M] at s4;obtain rfl:=Option.some.inj s4;have LK:Hid (lY lev ch.length s y=if s.seen v=true\/lev v=0 then s else if lev v=ch.length then ⟨eF s.seen v true,s.jd,s.opn + 1⟩ else ⟨eF s.seen v true,s.jd ++ [y],s.opn⟩):=by unfold Hid lY;rw [<- U]
   have v0:(0:Int) <= (v:Int):=by omega
   have v1:(v:Int) < (n:Int):=by omega
   have a9:(0:Int) <= (i:Int):=by omega
   have a8:(i:Int) < (lits.length:Int):=by omega
   clear hy U e4;by_cases d:s.seen v=true\/lev v=0
   ·
    have R:Hid (∀ G,G=.int .i64 ((i + 1:Nat):Int)->xG Z sb ob hb n w K f X gone (ints J) pre lev ch.length s0 lits (.int .i64 ((s.opn:Nat):Int)) G wr):=fun G I=>⟨i + 1,s,f',V',X',B,C,I,rfl,q,by rw [<- aj.out,LK.out,if_pos d];rfl,b⟩
    rcases d with hs | hs
    ·rw [hs] at H;clear b LK;go_wp2_with (go_at_call 176;refine (QV.out _).mono ?_;rintro e9 w9 ⟨rfl,rfl⟩;simp only [])
     go_roundw
     case rel=>exact R.out _ (by go_num)
     case measure=>simp [intOf];omega
    ·rw [hs] at r4;by_cases aa:s.seen v=true
     ·rw [aa] at H;clear b LK;go_wp2_with (go_at_call 176;refine (QV.out _).mono ?_;rintro e9 w9 ⟨rfl,rfl⟩;simp only [])
      go_roundw
      case rel=>exact R.out _ (by go_num)
      case measure=>simp [intOf];omega
     ·rw [Bool.not_eq_true] at aa;rw [aa] at H;clear b LK;go_wp2_with (go_at_call 176;refine (QV.out _).mono ?_;rintro e9 w9 ⟨rfl,rfl⟩;simp only [])
      go_roundw
      case rel=>exact R.out _ (by go_num)
      case measure=>simp [intOf];omega
   ·
    have av:s.seen v=false:=by
     cases e:s.seen v with
     | false=>rfl
     | true=>exact absurd (.inl e) d
    have ab:lev v ≠ 0:=fun e=>d (.inr e)
    rw [av] at H;have S3:=hide (b.out.mark M aA ak s.opn);have C3:Hid (s.jd.length + 1 <= 1001):=by
     unfold Hid;have hh:∀ (l:List Nat) (t:Lk),(l.foldl (lY lev ch.length) t).jd.length <= t.jd.length + l.length:=by
      intro l
      induction l with
      | nil=>intro t;simp
      | cons z l ih=>
       intro t;have h1:=ih (lY lev ch.length t z);have h2:(lY lev ch.length t z).jd.length <= t.jd.length + 1:=by
        unfold lY;split
        ·omega
        ·split <;> simp
       simp only [List.foldl_cons,List.length_cons];omega
     have:=hh (lits.take i) s0;rw [<- o.out,List.length_take] at this;omega
    have aY:((lev v:Int) == 0)=false:=by simp;omega
    have O:Hid (lY lev ch.length s y=if lev v=ch.length then ⟨eF s.seen v true,s.jd,s.opn + 1⟩ else ⟨eF s.seen v true,s.jd ++ [y],s.opn⟩):=by unfold Hid;rw [LK.out,if_neg d]
    have aJ:Hid (s.opn <= 1000):=by
     unfold Hid;have hh:∀ (l:List Nat) (t:Lk),(l.foldl (lY lev ch.length) t).opn <= t.opn + l.length:=by
      intro l
      induction l with
      | nil=>intro t;simp
      | cons z l ih=>
       intro t;have h1:=ih (lY lev ch.length t z);have h2:(lY lev ch.length t z).opn <= t.opn + 1:=by
        unfold lY;split
        ·omega
        ·split <;> simp
       simp only [List.foldl_cons,List.length_cons];omega
     have:=hh (lits.take i) s0;rw [<- o.out,List.length_take,aE.out] at this;omega
    clear b LK d aA av af;go_upto_region 9 with (go_at_call 176;refine (QV.out _).mono ?_;rintro e9 w9 ⟨rfl,rfl⟩;simp only [])
    generalize aQ:w9.setCell ⟨aR,v,none⟩ (.bool true)=W3 at S3 ⊢;clear aQ ao H aI q4 r4 ax;have QO:=hide (NH S3.out.duo.ord M hn);have an:=(S3.out.duo.dF.head 12 (by omega)).1;rw [S3.out.duo.f12] at an;have US:=hide (fun wx ho hc=>S3.out.used (wx:=wx) ho hc);clear S3;go_upto_region 10 with (go_at_call 217;refine QO.out.mono ?_;rintro eA wA ⟨rfl,az,au⟩;have S4:=hide (US.out wA au az);clear az au;simp only [])
    have N:=aC.out _ _ _ _ _ _ _ S4.out;obtain ⟨be,bf,t4,e4,q4,r4,s4,-⟩:=S4.out.duo.dF.elem (k:=4) (j:=v) (by omega) N.n4 M;rw [show cellOf 4=10 from rfl] at q4;rw [N.t4 v M] at s4;obtain rfl:=Option.some.inj s4;obtain ⟨a2,c2,e2⟩:=S4.out.duo.dF.eH.shape (k:=2) (by have:=S4.out.duo.dF.hK;omega);have q2:=(S4.out.duo.dF.hd (k:=2) (by omega)).1;rw [show cellOf 2=8 from rfl,e2,N.l2,cZ] at q2;have QD:Hid (∀ j,Calls Tryz.prog 99 #[.pointer (some ⟨sb,6,none⟩)] (wA.drewN j) fun e w'=>e=.returned (.int .i64 (ch.length:Nat))/\w'=wA.drewN j):=fun j=>ni sb 6 ch.length c2 (wA.drewN j) a2 q2
    clear e4 e2 N QO US an;go_quiet ((go_at_call 99;exact Calls.quiet_of_same (QD.out _)))
    obtain ⟨P,ae⟩:∃ P,P=wA.drewN nq:=⟨_,rfl⟩;have x:=hide (S4.out.later (wx:=P) (by rw [ae];exact Go.below_drewN bR _));rw [<- ae];clear ae S4 q4 r4 q2 QD;by_cases hd:lev v=ch.length
    ·have R:Hid (∀ so G,so=.int .i64 ((s.opn + 1:Nat):Int)->G=.int .i64 ((i + 1:Nat):Int)->xG Z sb ob hb n w K f X gone (ints J) pre lev ch.length s0 lits so G P):=fun so G aO I=>⟨i + 1,⟨eF s.seen v true,s.jd,s.opn + 1⟩,_,_,_,_,_,I,aO,q,by rw [<- aj.out,O.out,if_pos hd];rfl,x.out.opn _⟩
     have aP:((lev v:Int) == (ch.length:Int))=true:=by simp [hd]
     have a4:(s.opn:Int) + 1 <= 1001:=by have:=aJ.out;omega
     clear x hd O;go_wp2;go_roundw
     case rel=>exact R.out _ _ (by go_num) (by go_num)
     case measure=>simp [intOf];omega
    ·have aP:((lev v:Int) == (ch.length:Int))=false:=by simp;omega
     obtain ⟨a7,c7,e7⟩:=x.out.duo.dF.eH.shape (k:=7) (by have:=x.out.duo.dF.hK;omega);have l7:∀ ah:Nat->List Value,Hr n ah pre (eF s.seen v true) s.jd->(ah 7).length=s.jd.length + 1:=fun ah h=>by rw [h.l7];simp [cZ]
     have L:=l7 _ x.out.DY;have q7:=(x.out.duo.dF.hd (k:=7) (by omega)).1;rw [show cellOf 7=15 from rfl,e7,L] at q7;have O7:=x.out.duo.dF.eH.own 7 (by have:=x.out.duo.dF.hK;omega);rw [e7,L] at O7;have aF:=hide O7;have E7:=hide e7;have L7:=hide L;have aX:=x.out.duo.dF.row.lt;have ns:¬ (sb=P.heap.size):=by omega
     have c3:=C3.out;have aD:=hide (fun obj v' w6 A=>x.out.push (obj:=obj) (v':=v') (w6:=w6) (y:=y) A s.opn);have aG:=hide (fun obj v' w6 A=>x.out.duo.dF.jQ (k:=7) (ob:=obj) (v':=v') (w6:=w6) (m:=1) (news:=[.int .i64 (y:Nat)]) (by have:=x.out.duo.dF.hK;omega) A 15 (by omega));have R:Hid (∀ f6 V6 X6 R6 O6 W6,fe Z sb ob hb n w K f X gone (ints J) pre ⟨eF s.seen v true,s.jd ++ [y],s.opn⟩ f6 V6 X6 R6 O6 W6->∀ G,G=.int .i64 ((i + 1:Nat):Int)->xG Z sb ob hb n w K f X gone (ints J) pre lev ch.length s0 lits (.int .i64 ((s.opn:Nat):Int)) G W6):=fun f6 V6 X6 R6 O6 W6 hs G I=>⟨i + 1,⟨eF s.seen v true,s.jd ++ [y],s.opn⟩,f6,V6,X6,R6,O6,I,rfl,q,by rw [<- aj.out,O.out,if_neg hd];rfl,hs⟩
     clear x hd O O7 e7 l7 L;go_wp2_with (at_builtin;refine dR _ rfl _ _ 43 rfl 0 3 i0 (.int .i64 0) 1 8 Tryz.underlying43 hi aM aL aK rfl (by decide) _ _ _ rfl (aF.out.alloc (.cells #[.int .i64 (y:Int)] 3)) (.slice (some ⟨P.heap.size,0,none⟩) 1 1) 1 [.int .i64 (y:Int)] rfl (.inr ⟨⟨P.heap.size,0,none⟩,1,rfl,World.news_of_block (cs:=#[.int .i64 (y:Int)]) (t:=3) (fr:=(0,0)) (heap_alloc_new P _)⟩) rfl (by simp [Value.oneCell']) (by unfold maxLen;omega) (by omega) zl ?_)
     intro v6 w6 A6;have A7:=A6;rw [<- L7.out,<- E7.out] at A7;obtain ⟨k6,z6⟩:=aG.out _ _ _ A7;have S6:=hide (aD.out _ _ _ A7);obtain ⟨a1,a0,aN⟩:=dH A6.own;subst aN;have aU:=hide (R.out _ _ _ _ _ _ S6.out);clear A6 A7 S6 aD aG aF R;go_wp2;go_roundw
     case rel=>exact aU.out _ (by go_num)
     case measure=>simp [intOf];omega
  ·have ei:i=lits.length:=by omega
   have FR:=hide (aT.out (.returned (.int .i64 ((s.opn:Nat):Int))) wr f' V' X' B C (by rw [o.out,ei,List.take_length]) (by have:=b.out;rw [o.out,ei,List.take_length] at this;exact this));clear b o;go_wp2;exact FR.out
end
theorem sj (z:Value) (n:Nat):Builtin.zeroCells #[z] n=(List.replicate n z).toArray:=by
 unfold Builtin.zeroCells;apply Array.ext
 ·simp
 ·intro i b a;simp [Nat.mod_one]
theorem Lf {P:Program} {w:World} {ot:TypeId} (t:TypeId) (elem:TypeId) (p:P.underlying t=some (.slice elem)) (i:TypeInfo) (hi:P.info? elem=some i) (z:Value) (m:i.zero=some z) (h:z.cells=#[z]) (r:z.oneCell'=true)
  (g n cap:Nat) (a:Array Value) (c:TypeId) (l:w.heap[g]? = some (.cells a c (0,0))) (b:n + 1 <= a.size):
  ∃ w',(Builtin.clear_ #[t] ot #[.slice (some ⟨g,0,none⟩) (n + 1) cap]).run P w=.ok (.tuple #[]) w'/\w'.heap[g]? = some (.cells (splice a.toList 0 (List.replicate (n + 1) z)).toArray c (0,0))/\(∀ k,k ≠ g->w'.heap[k]? = w.heap[k]?)/\Below 0 w w':=by
 have j:=run_storeCells_at P g 0 c (List.replicate (n + 1) z) 0 a w l (by simpa using b) (fun v o=>by rw [List.eq_of_mem_replicate o];exact r);have d:(zeroValue elem).run P w=.ok z w:=by simp [zeroValue,typeInfo,hi,m]
 refine ⟨w.setRow g (splice a.toList 0 (List.replicate (n + 1) z)).toArray,?_,setRow_heap w g _ _ c _ l,fun k q=>setRow_other w g k _ (fun e=>q (by first | exact e | exact e.symm)),below_setRow bR zl _⟩;simp only [Builtin.clear_];simp [run_underlying p,d,h,sj,Result.andThen];rw [j];simp [splice,Result.andThen]
theorem Ex {P:Program} {w:World} {ot:TypeId} (t:TypeId) (elem:TypeId) (p:P.underlying t=some (.slice elem)) (i:TypeInfo) (hi:P.info? elem=some i) (z:Value) (m:i.zero=some z) (h:z.cells=#[z]) (r:z.oneCell'=true)
  (g off n cap:Nat) (a:Array Value) (c:TypeId) (l:w.heap[g]? = some (.cells a c (0,0))) (b:off + (n + 1) <= a.size):
  ∃ w',(Builtin.clear_ #[t] ot #[.slice (some ⟨g,off,none⟩) (n + 1) cap]).run P w=.ok (.tuple #[]) w'/\w'.heap[g]? = some (.cells (splice a.toList off (List.replicate (n + 1) z)).toArray c (0,0))/\(∀ k,k ≠ g->w'.heap[k]? = w.heap[k]?)/\Below 0 w w':=by
 have j:=run_storeCells_at P g off c (List.replicate (n + 1) z) 0 a w l (by simpa using b) (fun v o=>by rw [List.eq_of_mem_replicate o];exact r);have d:(zeroValue elem).run P w=.ok z w:=by simp [zeroValue,typeInfo,hi,m]
 refine ⟨w.setRow g (splice a.toList off (List.replicate (n + 1) z)).toArray,?_,setRow_heap w g _ _ c _ l,fun k q=>setRow_other w g k _ (fun e=>q (by first | exact e | exact e.symm)),below_setRow bR zl _⟩;simp only [Builtin.clear_];simp [run_underlying p,d,h,sj,Result.andThen];rw [j];simp [splice,Result.andThen]
section
def fF (cs cs':List Rec):Prop:=cs'.length=cs.length/\∀ k (h:k < cs.length) (h':k < cs'.length),(cs'[k]).kind=(cs[k]).kind/\(cs'[k]).lits=(cs[k]).lits
theorem fF.refl (cs:List Rec):fF cs cs:=⟨rfl,fun _ _ _=>⟨rfl,rfl⟩⟩
theorem fF.trans {a b c:List Rec} (h:fF a b) (e:fF b c):fF a c:=⟨e.1.trans h.1,fun k d p=>by
 have hb:k < b.length:=by rw [h.1];exact d
 obtain ⟨o,m⟩:=h.2 k d hb;obtain ⟨l,j⟩:=e.2 k hb p;exact ⟨l.trans o,j.trans m⟩⟩
theorem fF.set {cs:List Rec} {k:Nat} (a:k < cs.length) (b:Int):fF cs (cs.set k ⟨(cs[k]).kind,b,(cs[k]).lits⟩):=⟨by simp,fun j h c=>by
 by_cases e:k=j
 ·subst e;rw [List.getElem_set_self];exact ⟨rfl,rfl⟩
 ·rw [List.getElem_set_ne e];exact ⟨rfl,rfl⟩⟩
theorem fF.dn {cs cs':List Rec} (h:fF cs cs'):∀ k,k <= cs.length->dn cs' k=dn cs k
 | 0,_=>by rw [jP,jP]
 | k + 1,hk=>by
  have a:k < cs'.length:=by rw [h.1];exact hk
  rw [gD a,gD (show k < cs.length from hk),h.dn k (by omega),(h.2 k hk a).2]
theorem fF.len {cs cs':List Rec} (h:fF cs cs'):(enc cs').length=(enc cs).length:=by
 rw [<- iD lr,<- iD (cs:=cs) lr,h.1];exact h.dn _ lr
theorem fF.map {cs cs':List Rec} (h:fF cs cs'):mapOf cs'=mapOf cs:=by
 funext a
 cases l:mapOf cs a with
 | none=>
  cases o:mapOf cs' a with
  | none=>rfl
  | some d=>
   obtain ⟨k,e,j,_⟩:=dO o;have b:k < cs.length:=by rw [<- h.1];exact e
   rw [h.dn k (Nat.le_of_lt b)] at j;rw [j,dP b] at l;cases l
 | some c=>
  obtain ⟨k,e,j,m⟩:=dO l;have b:k < cs'.length:=by rw [h.1];exact e
  have:=dP b;rw [h.dn k (Nat.le_of_lt e),<- j,(h.2 k e b).1,(h.2 k e b).2] at this;rw [this,m]
theorem fF.nS {cs cs':List Rec} (h:fF cs cs'):nS cs'=nS cs:=by
 have:∀ (a b:List Rec),fF a b->So.nS b=So.nS a:=by
  intro a
  induction a with
  | nil=>intro b h;have:b=[]:=List.eq_nil_of_length_eq_zero (by rw [h.1];rfl);subst this;rfl
  | cons c r ih=>
   intro b h
   match b,h with
   | [],h=>have:=h.1;simp at this
   | c' :: r',h=>
    obtain ⟨e,d⟩:=h.2 0 (by simp) (by simp);simp only [List.getElem_cons_zero] at e d;have j:fF r r':=⟨by have:=h.1;simpa using this,fun k m l=>by
     have:=h.2 (k + 1) (by simpa using m) (by simpa using l);simpa using this⟩
    have:=ih r' j;unfold So.nS at this ⊢;simp only [List.filter_cons,e];split
    ·simp only [List.map_cons,d,this]
    ·exact this
 exact this cs cs' h
structure Hz (Z:Nat->Prop) (sb ob hb n:Nat) (w:World) (K:Nat) (f:Nat->Value) (X:Nat->List Value) (gone:Nat->Prop) (cs:List Rec) (tr ch:List Nat) (lev:Nat->Nat) (rea:Nat->Int) (last:Nat) (c0:List Nat) (i:Nat) (s:Lk) (cs':List Rec) (f' V':Nat->Value) (X':Nat->List Value) (Rs Ro:Nat->Prop) (wr:World):Prop where
 ex:xH tr ch lev (je (mapOf cs) rea) last c0 i s
 look:fe Z sb ob hb n w K f X gone (ints (enc cs')) (-1) s f' V' X' Rs Ro wr
 busy:fF cs cs'
def JK (Z:Nat->Prop) (sb ob hb n:Nat) (w:World) (K:Nat) (f:Nat->Value) (X:Nat->List Value) (gone:Nat->Prop) (cs:List Rec) (tr ch:List Nat) (lev:Nat->Nat) (rea:Nat->Int) (last:Nat) (c0:List Nat) (s4 s5:Value) (wr:World):Prop:=
 ∃ (i:Nat) (s:Lk) (cs':List Rec) (f' V':Nat->Value) (X':Nat->List Value) (Rs Ro:Nat->Prop),s5=.int .i64 ((i:Nat):Int)/\s4=.int .i64 ((s.opn:Nat):Int)/\Hid (Hz Z sb ob hb n w K f X gone cs tr ch lev rea last c0 (i + 1) s cs' f' V' X' Rs Ro wr)
def vQ (Z:Nat->Prop) (sb ob hb n:Nat) (w:World) (K:Nat) (f:Nat->Value) (X:Nat->List Value) (gone:Nat->Prop) (cs:List Rec) (tr ch:List Nat) (lev:Nat->Nat) (rea:Nat->Int) (last:Nat) (c0:List Nat) (e:Ending) (w':World):Prop:=
 e=.returned (.tuple #[])/\∃ (i:Nat) (hi:i < tr.length) (s:Lk) (cs':List Rec) (f' V':Nat->Value) (X':Nat->List Value) (Rs Ro:Nat->Prop),xH tr ch lev (je (mapOf cs) rea) last c0 (i + 1) s/\s.seen (tr[i] / 2)=true/\s.opn=1/\fe Z sb ob hb n w K f X gone (ints (enc cs')) (op tr[i]:Nat) s f' V' X' Rs Ro w'/\fF cs cs'
variable {Z:Nat->Prop} {sb ob hb K n:Nat} {w wr wx:World} {f f' V' f2 V2:Nat->Value} {X X' X2:Nat->List Value} {gone:Nat->Prop} {Rs Ro Yi Za:Nat->Prop} {tr ch:List Nat} {lev:Nat->Nat} {rea:Nat->Int} {cs cs':List Rec} {last i:Nat} {c0:List Nat} {s:Lk}
theorem fe.comp {E l:List Value} {pre:Int} {b:Lk} (h:fe Z sb ob hb n w K f X gone E pre s f' V' X' Rs Ro wr) (a:fe Z sb ob hb n wr K f' X' gone l pre b f2 V2 X2 Yi Za wx):fe Z sb ob hb n w K f X gone l pre b f2 V2 X2 Yi Za wx:=
 ⟨a.duo,a.x0,a.DY,fun j k e d=>(a.only j k e d).trans (h.only j k e d),fun j c=>(a.ff j c).trans (h.ff j c),h.eO.trans a.eO,a.wk⟩
theorem Hz.fin (h:Hz Z sb ob hb n w K f X gone cs tr ch lev rea last c0 (i + 1) s cs' f' V' X' Rs Ro wr) (hi:i < tr.length) (d:s.seen (tr[i] / 2)=true) (e:s.opn=1) {g m c:Nat} (p:V' 7=.slice (some ⟨g,0,none⟩) m c) (b:zz Rs wr g):
  vQ Z sb ob hb n w K f X gone cs tr ch lev rea last c0 (.returned (.tuple #[])) (wr.setCell ⟨g,0,none⟩ (.int .i64 (op tr[i]:Nat))):=by
 have t:=h.look.duo.dF.hK;obtain ⟨r,q⟩:=h.look.duo.gK (h.look.duo.dF.set (k:=7) (by omega) p 0 (.int .i64 (op tr[i]:Nat))) ((dB.refl _).setCell b _) rfl;refine ⟨rfl,i,hi,s,cs',f',V',_,_,_,h.ex,d,e,⟨r,by rw [cu _ _ (by decide)];exact h.look.x0,⟨by rw [cu _ _ (by decide)];exact h.look.DY.n10,by rw [cu _ _ (by decide)];exact h.look.DY.t10,?_⟩,fun j o a l=>by rw [cu _ _ a];exact h.look.only j o a l,h.look.ff,h.look.eO.trans q,h.look.wk.congr (cu _ _ (by decide)) fun _=>rfl⟩,h.busy⟩;rw [cz,h.look.DY.l7];rfl
theorem vQ.later {e:Ending} (h:vQ Z sb ob hb n w K f X gone cs tr ch lev rea last c0 e wr) (a:Below wr.heap.size wr wx):vQ Z sb ob hb n w K f X gone cs tr ch lev rea last c0 e wx:=by
 obtain ⟨m,i,b,s,cs',f',V',X',Rs,Ro,l,k,j,d,c⟩:=h;exact ⟨m,i,b,s,cs',f',V',X',Rs,Ro,l,k,j,d.later a,c⟩
theorem jN {n:Nat} {l:List Nat} (h:(l.map (· / 2)).Nodup) (c:∀ x ∈ l,x < 2 * n):l.length <= n:=by
 have:=iZ n (l.map (· / 2)) h (fun v b=>by
  obtain ⟨x,a,rfl⟩:=List.mem_map.1 b;have:=c x a;omega)
 simpa using this
theorem Np.len {d:Nat} (h:Np tr lev d s) (b:jh n tr ch lev):s.jd.length <= n:=
 jN h.nd fun y a=>by
  have:=wm (b.lt _ ((h.jd y).1 a).1)
  rwa [ko] at this
theorem dQ.OI {V:Nat->Value} (h:dQ Z sb w K f V X) {k:Nat} (F:k < 13) {a:Option Addr} {B cap c:Nat} (t:V k=.slice a B cap) (v:c <= (X k).length) {obj:Obj} {v':Value} {w6:World} {m:Nat} {news:List Value} (D:news.length=m) (A:dz (w.alloc obj) 0 (kM k) 1 (.slice a c cap) c ((X k).take c) m news v' w6):
  dQ Z sb (w6.setCell ⟨sb,cellOf k,none⟩ v') K (upd f (cellOf k) v') (upd V k v') (upd X k ((X k).take c ++ news))/\dB Z w (w6.setCell ⟨sb,cellOf k,none⟩ v')/\∀ j,j < 22->w6.cell? ⟨sb,j,none⟩=some (f j)/\w6.frozen? ⟨sb,j,none⟩=false:=by
 have l:k < K:=by have:=h.hK;omega
 have o:=h.later ((Below.refl _ w).alloc lr obj);have z:∀ g,(Value.slice a c cap).ownBlock=some g->(V k).ownBlock=some g:=fun g b=>by rw [t];cases a <;> exact b
 have p:(Value.slice a c cap).ownBlock=(V k).ownBlock:=by rw [t];cases a <;> rfl
 have C:((X k).take c).length=c:=by rw [List.length_take];omega
 have H:=o.eH.cut l t v;have I:dz (w.alloc obj) 0 (kM k) 1 (upd V k (.slice a c cap) k) (upd X k ((X k).take c) k).length (upd X k ((X k).take c) k) m news v' w6:=by rw [cz,cz,C];exact A
 have y:=H.push l D I;rw [cz,eP,eP] at y;have x:=A.grew;rw [p] at x;have u:=o.row.of_block (x.block sb o.row.lt (fun e=>o.far l sb e.symm rfl));have r:v'.ownBlock=(V k).ownBlock\/v'.ownBlock=some (w.alloc obj).heap.size:=by
  rcases A.at' with d | d
  ·exact .inl (by rw [d,p])
  ·exact .inr d
 refine ⟨h.header F u y rfl (fun i q g b=>?_) (by have:=A.grew.size;simp at this;omega) (fun i q g b=>?_),(((dB.refl w).alloc obj).grown x (fun g b=>h.al k l g b)).setCell h.jf _,fun j G=>⟨u.cell G,u.frozen j⟩⟩
 ·by_cases e:i=k
  ·subst e;rw [cz] at b
   rcases r with d | d
   ·rw [d] at b;exact o.far q g b
   ·rw [d] at b;have:=Option.some.inj b;have:=o.row.lt;omega
  ·rw [cu _ _ e] at b;exact o.far q g b
 ·by_cases e:i=k
  ·subst e;rw [cz] at b
   rcases r with d | d
   ·rw [d] at b;exact h.al i q g b
   ·rw [d] at b;have:=Option.some.inj b;exact h.az g (by simp at this;omega)
  ·rw [cu _ _ e] at b;exact h.al i q g b
end
end
end So
end Go.Proofs.YtceahffmenbibaaGreatDoor
