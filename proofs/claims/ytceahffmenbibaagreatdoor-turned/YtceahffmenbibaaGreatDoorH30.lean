/- Scmp Sqs0 Sqs1 Sqs2 Sqs3 Sqs4 Sqs5 Sqs6 Sqs7. -/
import Derived.Test.YtceahffmenbibaaGreatDoorH05
import Derived.Test.YtceahffmenbibaaGreatDoorH21
set_option linter.unusedVariables false
set_option linter.unusedSimpArgs false
set_option maxHeartbeats 4000000
set_option maxRecDepth 100000
namespace Go.Proofs.YtceahffmenbibaaGreatDoor
namespace So
section
open Go Go.RowKit Go.Deep Rd
section
theorem MH (x:Int) (w:World):Calls Tryz.prog 236 #[.int .i64 x] w fun e a=>e=.returned (.bool false)/\a=w:=by
 go_enter Tryz.func236,Tryz.ntmps236
 go_wp2;go_ret
 exact ⟨by simp,rfl⟩
def qY (x y:Int):Int:=if x < y then -1 else if y < x then 1 else 0
theorem GG (x y:Int) (w:World):Calls Tryz.prog 241 #[.int .i64 x,.int .i64 y] w fun e a=>e=.returned (.int .i64 (qY x y))/\a=w:=by
 have b:Hid (∀ z Y,Calls Tryz.prog 236 #[.int .i64 z] Y fun e a=>e=.returned (.bool false)/\a=Y):=MH;unfold qY;by_cases h:x < y
 ·rw [if_pos h];go_enter Tryz.func241,Tryz.ntmps241
  go_wp2_with (go_at_call 236;refine (b.out _ _).mono ?_;rintro i c ⟨rfl,rfl⟩;simp only [])
  go_ret
  exact ⟨rfl,rfl⟩
 ·rw [if_neg h];by_cases d:y < x
  ·rw [if_pos d];go_enter Tryz.func241,Tryz.ntmps241
   go_wp2_with (go_at_call 236;refine (b.out _ _).mono ?_;rintro i c ⟨rfl,rfl⟩;simp only [])
   go_ret
   exact ⟨rfl,rfl⟩
  ·rw [if_neg d];go_enter Tryz.func241,Tryz.ntmps241
   go_wp2_with (go_at_call 236;refine (b.out _ _).mono ?_;rintro i c ⟨rfl,rfl⟩;simp only [])
   go_ret
   exact ⟨rfl,rfl⟩
def XR (x y z:Int) (w:World) (s8:Value) (wr:World):Prop:=∃ i:Nat,s8=.int .i64 ((i:Nat):Int)/\i <= 3/\(0 < i->x=0)/\(1 < i->y=0)/\(2 < i->z=0)/\wr=w
def OV (x y z:Int):Int:=if x=0 then if y=0 then z else y else x
theorem VK (x y z:Int) (g:Nat) (w:World) (o:w.cell? ⟨g,0,none⟩=some (.int .i64 x)) (l:w.cell? ⟨g,1,none⟩=some (.int .i64 y)) (k:w.cell? ⟨g,2,none⟩=some (.int .i64 z)):
  Calls Tryz.prog 240 #[.slice (some ⟨g,0,none⟩) 3 3] w fun e q=>e=.returned (.int .i64 (OV x y z))/\q=w:=by
 go_enter Tryz.func240,Tryz.ntmps240
 go_wp2_with fail
 go_loopw [5,8] (fun _ h wr=>XR x y z w h wr) (fun _ h _=>3 - (intOf h).toNat)
 case atStart=>exact ⟨0,rfl,by omega,by omega,by omega,by omega,rfl⟩
 case round=>
  obtain ⟨i,rfl,s,b,c,d,rfl⟩:=hrel
  rcases (show i=0\/i=1\/i=2\/i=3 by omega) with rfl | rfl | rfl | rfl
  ·clear l k b c d;by_cases a:x=0
   ·subst a;go_wp2;go_roundw
    case rel=>exact ⟨1,rfl,by omega,fun _=>rfl,by omega,by omega,rfl⟩
    case measure=>simp [intOf]
   ·have p:((x != 0)=true):=by simpa using a
    go_wp2;go_ret
    exact ⟨by unfold OV;rw [if_neg a];rfl,rfl⟩
  ·have a:=b (by omega);subst a;clear o k b c d;by_cases a:y=0
   ·subst a;go_wp2;go_roundw
    case rel=>exact ⟨2,rfl,by omega,fun _=>rfl,fun _=>rfl,by omega,rfl⟩
    case measure=>simp [intOf]
   ·have p:((y != 0)=true):=by simpa using a
    go_wp2;go_ret
    exact ⟨by unfold OV;rw [if_pos rfl,if_neg a];rfl,rfl⟩
  ·have a:=b (by omega);have j:=c (by omega);subst a j;clear o l b c d;by_cases a:z=0
   ·subst a;go_wp2;go_roundw
    case rel=>exact ⟨3,rfl,by omega,fun _=>rfl,fun _=>rfl,fun _=>rfl,rfl⟩
    case measure=>simp [intOf]
   ·have p:((z != 0)=true):=by simpa using a
    go_wp2;go_ret
    exact ⟨by unfold OV;rw [if_pos rfl,if_pos rfl];rfl,rfl⟩
  ·have a:=b (by omega);have j:=c (by omega);have r:=d (by omega);subst a j r;clear o l k b c d;go_wp2;go_ret;exact ⟨by unfold OV;rw [if_pos rfl,if_pos rfl];rfl,rfl⟩
theorem Xr (x y z:Int) (w:World):Calls Tryz.prog 240 #[.slice (some ⟨w.heap.size,0,none⟩) 3 3] (w.alloc (.cells #[.int .i64 x,.int .i64 y,.int .i64 z] 3 (0,0))).drew fun e c=>e=.returned (.int .i64 (OV x y z))/\c=(w.alloc (.cells #[.int .i64 x,.int .i64 y,.int .i64 z] 3 (0,0))).drew:=by
 obtain ⟨W,b⟩:∃ W,W=(w.alloc (.cells #[.int .i64 x,.int .i64 y,.int .i64 z] 3 (0,0))).drew:=⟨_,rfl⟩;have a:W.heap[w.heap.size]? = some (.cells #[.int .i64 x,.int .i64 y,.int .i64 z] 3 (0,0)):=by rw [b];exact heap_alloc_new w _
 rw [<- b];clear b;generalize w.heap.size=g at *
 exact VK x y z g W (by simp only [World.cell?,a];rfl) (by simp only [World.cell?,a];rfl) (by simp only [World.cell?,a];rfl)
variable {Z:Nat->Prop} {sb K n:Nat} {w:World} {f V:Nat->Value} {X:Nat->List Value} {cs:List Rec}
theorem xh {i j:Nat} (h:dQ Z sb w K f V X) (D:X 0=ints (enc cs)) (hi:i < cs.length) (I:j < cs.length) (hN:(enc cs).length <= 1099511627776):
  Calls Tryz.prog 223 #[.pointer (some ⟨sb,0,none⟩),.int .i64 (dn cs i:Nat),.int .i64 (dn cs j:Nat)] w fun e o=>e=.returned (.int .i64 (OV (qY (cs[i]).busy (cs[j]).busy) (qY (cs[j]).lits.length (cs[i]).lits.length) (qY (dn cs i) (dn cs j))))/\Below w.heap.size w o:=by
 have U:=hide (GG);have L:Hid (∀ k,∀ d:k < cs.length,∀ Y:World,Y.heap=w.heap->Calls Tryz.prog 242 #[.pointer (some ⟨sb,2,none⟩),.int .i64 (dn cs k:Nat)] Y fun e o=>e=.returned (.int .i64 ((cs[k]).busy))/\o=Y):=fun k d Y p=>by
  obtain ⟨g,c,Q,B,C,P,O,M,H,N,G,-,-⟩:=fH h D d;have s:=eD d;exact Q7 sb 2 g (enc cs).length c (dn cs k) _ Y (by rw [show Y.cell? ⟨sb,2,none⟩=w.cell? ⟨sb,2,none⟩ from eX p _];exact B) (by omega) (by unfold maxLen;omega) (by rw [show Y.cell? ⟨g,dn cs k + 2,none⟩=w.cell? ⟨g,dn cs k + 2,none⟩ from eX p _];exact G)
 have J:Hid (∀ k,∀ d:k < cs.length,∀ Y:World,Y.heap=w.heap->Calls Tryz.prog 220 #[.pointer (some ⟨sb,2,none⟩),.int .i64 (dn cs k:Nat)] Y fun e o=>e=.returned (.int .i64 ((cs[k]).lits.length:Nat))/\o=Y):=fun k d Y p=>by
  obtain ⟨g,c,Q,B,C,P,O,M,H,N,G,-,-⟩:=fH h D d;have s:=eD d;exact jq sb 2 g (enc cs).length c (dn cs k) _ Y (by rw [show Y.cell? ⟨sb,2,none⟩=w.cell? ⟨sb,2,none⟩ from eX p _];exact B) (by omega) (by unfold maxLen;omega) (by rw [show Y.cell? ⟨g,dn cs k,none⟩=w.cell? ⟨g,dn cs k,none⟩ from eX p _];exact H)
 obtain ⟨u,r⟩:∃ u:Nat->Int->Prop,u=fun a b=>∃ k,∃ d:k < cs.length,a=dn cs k/\b=(cs[k]).busy:=⟨_,rfl⟩
 obtain ⟨t,q⟩:∃ t:Nat->Nat->Prop,t=fun a b=>∃ k,∃ d:k < cs.length,a=dn cs k/\b=(cs[k]).lits.length:=⟨_,rfl⟩
 have B1:u (dn cs i) (cs[i]).busy:=by rw [r];exact ⟨i,hi,rfl,rfl⟩
 have B2:u (dn cs j) (cs[j]).busy:=by rw [r];exact ⟨j,I,rfl,rfl⟩
 have S1:t (dn cs i) (cs[i]).lits.length:=by rw [q];exact ⟨i,hi,rfl,rfl⟩
 have S2:t (dn cs j) (cs[j]).lits.length:=by rw [q];exact ⟨j,I,rfl,rfl⟩
 have S:Hid (∀ (a:Nat) (b:Int),u a b->∀ Y:World,Y.heap=w.heap->Calls Tryz.prog 242 #[.pointer (some ⟨sb,2,none⟩),.int .i64 (a:Nat)] Y fun e o=>e=.returned (.int .i64 b)/\o=Y):=fun a b l Y p=>by
  rw [r] at l;obtain ⟨k,d,rfl,rfl⟩:=l;exact L.out k d Y p
 have R:Hid (∀ (a b:Nat),t a b->∀ Y:World,Y.heap=w.heap->Calls Tryz.prog 220 #[.pointer (some ⟨sb,2,none⟩),.int .i64 (a:Nat)] Y fun e o=>e=.returned (.int .i64 (b:Nat))/\o=Y):=fun a b l Y p=>by
  rw [q] at l;obtain ⟨k,d,rfl,rfl⟩:=l;exact J.out k d Y p
 clear L J h D r q;generalize (cs[i]).busy=b1 at *
 generalize (cs[j]).busy=b2 at *
 generalize (cs[i]).lits.length=l1 at *
 generalize (cs[j]).lits.length=l2 at *
 generalize dn cs i=a1 at *
 generalize dn cs j=a2 at *
 have T:=hide (fun x y z=>Xr x y z w);go_enter Tryz.func223,Tryz.ntmps223
 go_upto_region 1 with fail
 go_region_with (first | (go_at_call 242;refine (S.out _ _ (by assumption) _ (by rfl)).mono ?_;rintro E v ⟨rfl,rfl⟩;simp only []) | (go_at_call 220;refine (R.out _ _ (by assumption) _ (by rfl)).mono ?_;rintro E v ⟨rfl,rfl⟩;simp only []) | (go_at_call 241;refine (U.out _ _ _).mono ?_;rintro E v ⟨rfl,rfl⟩;simp only []) | (go_at_call 240;refine (T.out _ _ _).mono ?_;rintro E v ⟨rfl,rfl⟩;simp only []))
 all_goals
  go_wp2;go_ret
  exact ⟨rfl,((Below.refl _ w).alloc lr _).drew⟩
end
end
end So
end Go.Proofs.YtceahffmenbibaaGreatDoor
namespace Go.Proofs.YtceahffmenbibaaGreatDoor
namespace So
open Go Go.RowKit Go.Deep Rd
namespace Qs
open Df
structure Pm (g:Nat) (post:List Value) (dS:List Nat) (w0:World) (xs:List Nat) (W:World):Prop where
 lie:xq g [] post xs W
 perm:xs.Perm dS
 eO:dB (fun k=>k=g) w0 W
def lX (sb g:Nat) (post:List Value) (dS:List Nat) (w0:World) (cf:Nat->Nat->Int):Prop:=∀ W ys,Pm g post dS w0 ys W->∀ x ∈ dS,∀ y ∈ dS,Calls Tryz.prog 223 #[.pointer (some ⟨sb,0,none⟩),.int .i64 (x:Nat),.int .i64 (y:Nat)] W fun e w'=>e=.returned (.int .i64 (cf x y))/\Below W.heap.size W w'
variable {sb g:Nat} {post:List Value} {dS xs:List Nat} {w0 W W':World}
theorem Pm.len (h:Pm g post dS w0 xs W):xs.length=dS.length:=h.perm.length_eq
theorem Pm.cell (h:Pm g post dS w0 xs W) {i:Nat} (hi:i < xs.length):W.cell? ⟨g,i,none⟩=some (.int .i64 (xs[i]:Nat))/\W.frozen? ⟨g,i,none⟩=false:=by
 have:=h.lie.cell hi;simpa using this
theorem Pm.mem (h:Pm g post dS w0 xs W) {i:Nat} (hi:i < xs.length):xs[i] ∈ dS:=h.perm.mem_iff.1 (List.getElem_mem hi)
theorem Pm.lt (h:Pm g post dS w0 xs W):g < W.heap.size:=by
 have:=h.lie;unfold xq at this;exact (Array.getElem?_eq_some_iff.1 this).1
theorem Pm.below (h:Pm g post dS w0 xs W) (a:Below W.heap.size W W'):Pm g post dS w0 xs W' where
 lie:=by
  have:=h.lie;unfold xq at this ⊢;rw [a.block g h.lt];exact this
 perm:=h.perm
 eO:=h.eO.trans (dB.of_below a)
theorem Lx {l:List Nat} {i j:Nat} (hi:i < l.length) (d:j < l.length):((l.set i l[j]).set j l[i]).Perm l:=by
 rw [List.perm_iff_count];intro a;by_cases e:i=j
 ·subst e;rw [List.set_set,List.set_getElem_self]
 ·rw [List.count_set (by simpa using d),List.count_set hi,List.getElem_set_ne e];have h:0 < l.count l[i]:=List.count_pos_iff.2 (List.getElem_mem hi);have k:0 < l.count l[j]:=List.count_pos_iff.2 (List.getElem_mem d);by_cases b:l[i]=a
  ·by_cases c:l[j]=a
   ·simp [b,c];rw [b] at h;omega
   ·simp [b,c];rw [b] at h;omega
  ·by_cases c:l[j]=a
   ·simp [b,c]
   ·simp [b,c]
theorem Pm.swap (h:Pm g post dS w0 xs W) {i j:Nat} (hi:i < xs.length) (a:j < xs.length):Pm g post dS w0 ((xs.set i xs[j]).set j xs[i]) ((W.setCell ⟨g,i,none⟩ (.int .i64 (xs[j]:Nat))).setCell ⟨g,j,none⟩ (.int .i64 (xs[i]:Nat))) where
 lie:=by
  have c:=h.lie.set hi xs[j];have b:=c.set (j:=j) (by simpa using a) xs[i];simpa using b
 perm:=(Lx hi a).trans h.perm
 eO:=(h.eO.setCell rfl _).setCell rfl _
structure iF (w:World) where
 W:World
 h:Below w.heap.size w W
theorem dx {P:Program} {id:Nat} {Q:Exit->Act->World->Prop} {a:Act} {w:World} {l:List Oper} (c:P.follows .mixedOrders=true) (d:Region.lexB .any l.toArray=true)
  (h:wpQuiet P l.toArray (fun b=>∃ p:iF w,b=p.W) (fun e=>∀ b,(∃ p:iF w,b=p.W)->Q .normal e b) l a):(Code.region id l.toArray true).wp P Q a w:=
 wp_region_quiet (C:=fun b=>∃ p:iF w,b=p.W) c d ⟨⟨w.drew,bR.drew⟩,rfl⟩ (by simpa using h)
theorem iF.cell {w:World} {a:Addr} {v:Value} (h:w.cell? a=some v) (p:iF w):p.W.cell? a=some v:=by
 rw [p.h.cell (p:=a) (block_lt_of_cell h)];exact h
theorem lX.at {sb g:Nat} {post:List Value} {dS:List Nat} {w0 w:World} {cf:Nat->Nat->Int} (C:lX sb g post dS w0 cf) {xs:List Nat} (h:Pm g post dS w0 xs w) {x y:Nat} (c:x ∈ dS) (b:y ∈ dS) (p:iF w):
  Calls Tryz.prog 223 #[.pointer (some ⟨sb,0,none⟩),.int .i64 (x:Nat),.int .i64 (y:Nat)] p.W fun e a=>e=.returned (.int .i64 (cf x y))/\∃ q:iF w,a=q.W:=
 (C p.W xs (h.below p.h) x c y b).mono fun e a ⟨h1,h2⟩=>⟨h1,⟨a,p.h.trans (h2.mono p.h.size)⟩,rfl⟩
end Qs
end So
end Go.Proofs.YtceahffmenbibaaGreatDoor
namespace Go.Proofs.YtceahffmenbibaaGreatDoor
namespace So
open Go Go.RowKit Go.Deep Rd
namespace Qs
variable {sb g cap m:Nat} {post:List Value} {dS xs:List Nat} {w0 w:World} {cf:Nat->Nat->Int}
def mq (g:Nat) (post:List Value) (dS:List Nat) (w0:World) (e:Ending) (w':World):Prop:=e=.returned (.tuple #[])/\∃ xs',Pm g post dS w0 xs' w'
theorem Ai (C:lX sb g post dS w0 cf) (h:Pm g post dS w0 xs w) (hm:dS.length=m) (S:m <= 1099511627776) {a b:Nat} (ad:a <= b) (hb:b <= m):
  Calls Tryz.prog 246 #[.slice (some ⟨g,0,none⟩) m cap,.int .i64 (a:Nat),.int .i64 (b:Nat),.func (.func 223) #[.pointer (some ⟨sb,0,none⟩)] #[]] w fun e N=>mq g post dS w0 e N:=by
 have HC:=hide C;have G:=hide h;clear C h;go_enter Tryz.func246,Tryz.ntmps246
 go_wp2;go_loopw [8] (fun q wr=>∃ (i:Nat) (xs:List Nat),q=.int .i64 (i:Nat)/\a < i/\i <= b + 1/\Hid (Pm g post dS w0 xs wr)) (fun q _=>b - (intOf q).toNat)
 case atStart=>exact ⟨a + 1,xs,by go_num,by omega,by omega,G⟩
 case round=>
  clear G;obtain ⟨i,L,rfl,ac,Y,c⟩:=hrel;by_cases T:i < b
  ·have r:(i:Int) < (b:Int):=by omega
   go_wp2;go_loopw [9] (fun o wr=>∃ (j:Nat) (xs:List Nat),o=.int .i64 (j:Nat)/\a <= j/\j <= i/\Hid (Pm g post dS w0 xs wr)) (fun o _=>(intOf o).toNat)
   case atStart=>exact ⟨i,L,rfl,by omega,lr,c⟩
   case round=>
    clear c;obtain ⟨j,l,rfl,ab,U,c⟩:=hrel;by_cases aa:a < j
    ·have hd:decide ((a:Int) < (j:Int))=true:=by simp;omega
     have hl:=c.out.len;have k:j < l.length:=by omega
     obtain ⟨t,E⟩:=c.out.cell k;have d:j - 1 < l.length:=by omega
     obtain ⟨s,D⟩:=c.out.cell d;have I:=hide (fun p:iF wr=>HC.out.at c.out (c.out.mem k) (c.out.mem d) p);have P:=iF.cell t;have O:=iF.cell s;have i2:IntKind.i64.wrap ((j:Int) - 1)=((j - 1:Nat):Int):=by rw [IntKind.wrap_i64];omega
     have i3:j - 1 < m:=by omega
     have i4:j < m:=by omega
     go_upto_region 4 with fail
     have u:Nonempty (iF wr):=⟨⟨wr,bR⟩⟩;refine dx (by kernel_rfl) (by kernel_rfl) ?_
     repeat (go_big_quiet_step ((go_at_call 223;exact I.out _)))
     refine wpQuiet_nil ?_;rintro _ ⟨p,rfl⟩;have H:=hide (c.out.below p.h);clear c P O t s E D I u;generalize p.W=M at *
     obtain ⟨t,E⟩:=H.out.cell k;obtain ⟨s,D⟩:=H.out.cell d;have J:=hide (H.out.swap k d);generalize l[j]=x at *
     generalize l[j - 1]=y at *
     obtain ⟨z,v⟩:∃ z,z=cf x y:=⟨_,rfl⟩;rw [<- v];clear v;by_cases Q:z < 0
     ·have R:¬ j=j - 1:=by omega
      have B:¬ j - 1=j:=by omega
      go_upto_region 6 with fail
      go_region_with fail
      all_goals
       have H3:=hide (J.out.below bR.drew);clear H J;go_wp2;go_roundw
       case rel=>exact ⟨j - 1,_,by go_num,by omega,by omega,H3⟩
       case measure=>simp [intOf];omega
     ·go_wp2;go_roundw
      case rel=>exact ⟨i + 1,l,by go_num,by omega,by omega,H⟩
      case measure=>simp [intOf];omega
    ·have hd:decide ((a:Int) < (j:Int))=false:=by simp;omega
     go_upto_region 4 with fail
     have u:Nonempty (iF wr):=⟨⟨wr,bR⟩⟩;refine dx (by kernel_rfl) (by kernel_rfl) ?_
     repeat (go_big_quiet_step (fail))
     refine wpQuiet_nil ?_;rintro _ ⟨p,rfl⟩;have H:=hide (c.out.below p.h);clear c;generalize p.W=M at *
     go_wp2;go_roundw
     case rel=>exact ⟨i + 1,l,by go_num,by omega,by omega,H⟩
     case measure=>simp [intOf];omega
  ·have r:¬ (i:Int) < (b:Int):=by omega
   go_wp2;go_end0
   exact ⟨rfl,_,c.out⟩
end Qs
end So
end Go.Proofs.YtceahffmenbibaaGreatDoor
namespace Go.Proofs.YtceahffmenbibaaGreatDoor
namespace So
open Go Go.RowKit Go.Deep Rd
namespace Qs
variable {sb g cap m:Nat} {post:List Value} {dS xs:List Nat} {w0 w:World} {cf:Nat->Nat->Int}
theorem ui (C:lX sb g post dS w0 cf) (h:Pm g post dS w0 xs w) (hm:dS.length=m) (an:m <= 1099511627776) {lo hi first:Nat} (ah:lo <= m) (hf:first + hi <= m):
  Calls Tryz.prog 254 #[.slice (some ⟨g,0,none⟩) m cap,.int .i64 (lo:Nat),.int .i64 (hi:Nat),.int .i64 (first:Nat),.func (.func 223) #[.pointer (some ⟨sb,0,none⟩)] #[]] w fun e w'=>mq g post dS w0 e w':=by
 have HC:=hide C;have S0:=hide h;clear C h;go_enter Tryz.func254,Tryz.ntmps254
 go_wp2;go_loopw [10,11] (fun rv cv wr=>∃ (r:Nat) (xs:List Nat),rv=.int .i64 (r:Nat)/\r <= m/\Hid (Pm g post dS w0 xs wr)) (fun rv _ _=>hi - (intOf rv).toNat)
 case atStart=>exact ⟨lo,xs,rfl,ah,S0⟩
 case round=>
  clear S0;obtain ⟨r,k,rfl,am,a⟩:=hrel;have hl:=a.out.len;by_cases ag:2 * r + 1 < hi
  ·obtain ⟨c,hc⟩:∃ c,c=2 * r + 1:=⟨_,rfl⟩;have aj:2 * (r:Int) + 1=(c:Int):=by omega
   have ae:¬ (hi:Int) <= 2 * (r:Int) + 1:=by omega
   have ak:c < hi:=by omega
   have af:r < c:=by omega
   clear hc ag;obtain ⟨d,ai⟩:∃ d,d=c + 1:=⟨_,rfl⟩;have ab:(c:Int) + 1=(d:Int):=by omega
   have ac:r < d:=by omega
   clear ai;by_cases hn:d < hi
   ·have hd:decide ((d:Int) < (hi:Int))=true:=by simp;omega
    obtain ⟨i,u⟩:∃ i,i=first + c:=⟨_,rfl⟩
    have s:(first:Int) + (c:Int)=(i:Int):=by omega
    obtain ⟨j,t⟩:∃ j,j=i + 1:=⟨_,rfl⟩;have q:(i:Int) + 1=(j:Int):=by omega
    have o:i < k.length:=by omega
    have l:j < k.length:=by omega
    have l1:i < m:=by omega
    have l2:j < m:=by omega
    clear u t;obtain ⟨B,J⟩:=a.out.cell o;obtain ⟨v,I⟩:=a.out.cell l;have G:=hide (fun p:iF wr=>HC.out.at a.out (a.out.mem o) (a.out.mem l) p);have Y:=iF.cell B;have U:=iF.cell v;go_upto_region 3 with fail
    have L:Nonempty (iF wr):=⟨⟨wr,bR⟩⟩;refine dx (by kernel_rfl) (by kernel_rfl) ?_
    repeat (go_big_quiet_step ((go_at_call 223;exact G.out _)))
    refine wpQuiet_nil ?_;rintro _ ⟨p,rfl⟩;have H:=hide (a.out.below p.h);clear a Y U B v J I G L;generalize p.W=wr at *
    have a:=H;clear H;obtain ⟨z,D⟩:∃ z,z=cf k[i] k[j]:=⟨_,rfl⟩;rw [<- D];clear D;generalize k[i]=x;generalize k[j]=y;generalize aa:decide (z < 0)=b;cases b
    ·clear o l l1 l2 s q hd hn ab ac;obtain ⟨i,u⟩:∃ i,i=first + r:=⟨_,rfl⟩
     have s:(first:Int) + (r:Int)=(i:Int):=by omega
     obtain ⟨j,t⟩:∃ j,j=first + c:=⟨_,rfl⟩
     have q:(first:Int) + (c:Int)=(j:Int):=by omega
     have o:i < k.length:=by omega
     have l:j < k.length:=by omega
     have E:=hide (show ¬ i=j/\¬ j=i by omega);have l1:i < m:=by omega
     have l2:j < m:=by omega
     clear u t;obtain ⟨B,J⟩:=a.out.cell o;obtain ⟨v,I⟩:=a.out.cell l;have G:=hide (fun p:iF wr=>HC.out.at a.out (a.out.mem o) (a.out.mem l) p);have Y:=iF.cell B;have U:=iF.cell v;go_upto_region 5 with fail
     have L:Nonempty (iF wr):=⟨⟨wr,bR⟩⟩;refine dx (by kernel_rfl) (by kernel_rfl) ?_
     repeat (go_big_quiet_step ((go_at_call 223;exact G.out _)))
     refine wpQuiet_nil ?_;rintro _ ⟨p,rfl⟩;have H:=hide (a.out.below p.h);clear a Y U B v J I G L;generalize p.W=wr at *
     have a:=H;clear H;obtain ⟨z,D⟩:∃ z,z=cf k[i] k[j]:=⟨_,rfl⟩;rw [<- D];clear D;generalize k[i]=x;generalize k[j]=y;generalize aa:(!decide (z < 0))=b;cases b
     ·obtain ⟨ad,S⟩:=E.out;have R:(0:Int) <= (first:Int) + (r:Int):=by omega
      have Q:(first:Int) + (r:Int) < (m:Int):=by omega
      have P:((first:Int) + (r:Int)).toNat=i:=by omega
      clear s;have O:(0:Int) <= (first:Int) + (c:Int):=by omega
      have N:(first:Int) + (c:Int) < (m:Int):=by omega
      have M:((first:Int) + (c:Int)).toNat=j:=by omega
      clear q;obtain ⟨B,J⟩:=a.out.cell o;obtain ⟨v,I⟩:=a.out.cell l;have T:=hide (a.out.swap o l);generalize k[i]=x at *
      generalize k[j]=y at *
      go_upto_region 6 with fail
      go_region
      all_goals
       have H3:=hide (T.out.below bR.drew);clear a T;go_wp2;go_roundw
       case rel=>exact ⟨c,_,by go_num,by omega,H3⟩
       case measure=>simp [intOf];omega
     ·go_wp2;go_end0
      exact ⟨rfl,_,a.out⟩
    ·clear o l l1 l2 s q;go_upto_region 5 with fail
     clear ab aj ae ak af hd;generalize al:d=c at *
     clear al;obtain ⟨i,u⟩:∃ i,i=first + r:=⟨_,rfl⟩
     have s:(first:Int) + (r:Int)=(i:Int):=by omega
     obtain ⟨j,t⟩:∃ j,j=first + c:=⟨_,rfl⟩
     have q:(first:Int) + (c:Int)=(j:Int):=by omega
     have o:i < k.length:=by omega
     have l:j < k.length:=by omega
     have E:=hide (show ¬ i=j/\¬ j=i by omega);have l1:i < m:=by omega
     have l2:j < m:=by omega
     clear u t;obtain ⟨B,J⟩:=a.out.cell o;obtain ⟨v,I⟩:=a.out.cell l;have G:=hide (fun p:iF wr=>HC.out.at a.out (a.out.mem o) (a.out.mem l) p);have Y:=iF.cell B;have U:=iF.cell v;have L:Nonempty (iF wr):=⟨⟨wr,bR⟩⟩;refine dx (by kernel_rfl) (by kernel_rfl) ?_
     repeat (go_big_quiet_step ((go_at_call 223;exact G.out _)))
     refine wpQuiet_nil ?_;rintro _ ⟨p,rfl⟩;have H:=hide (a.out.below p.h);clear a Y U B v J I G L;generalize p.W=wr at *
     have a:=H;clear H;obtain ⟨z,D⟩:∃ z,z=cf k[i] k[j]:=⟨_,rfl⟩;rw [<- D];clear D;generalize k[i]=x;generalize k[j]=y;generalize aa:(!decide (z < 0))=b;cases b
     ·obtain ⟨ad,S⟩:=E.out;have R:(0:Int) <= (first:Int) + (r:Int):=by omega
      have Q:(first:Int) + (r:Int) < (m:Int):=by omega
      have P:((first:Int) + (r:Int)).toNat=i:=by omega
      clear s;have O:(0:Int) <= (first:Int) + (c:Int):=by omega
      have N:(first:Int) + (c:Int) < (m:Int):=by omega
      have M:((first:Int) + (c:Int)).toNat=j:=by omega
      clear q;obtain ⟨B,J⟩:=a.out.cell o;obtain ⟨v,I⟩:=a.out.cell l;have T:=hide (a.out.swap o l);generalize k[i]=x at *
      generalize k[j]=y at *
      go_upto_region 6 with fail
      go_region
      all_goals
       have H3:=hide (T.out.below bR.drew);clear a T;go_wp2;go_roundw
       case rel=>exact ⟨c,_,by go_num,by omega,H3⟩
       case measure=>simp [intOf];omega
     ·go_wp2;go_end0
      exact ⟨rfl,_,a.out⟩
   ·have hd:decide ((d:Int) < (hi:Int))=false:=by simp;omega
    go_upto_region 3 with fail
    have L:Nonempty (iF wr):=⟨⟨wr,bR⟩⟩;refine dx (by kernel_rfl) (by kernel_rfl) ?_
    repeat (go_big_quiet_step (fail))
    refine wpQuiet_nil ?_;rintro _ ⟨p,rfl⟩;have H:=hide (a.out.below p.h);clear a L;generalize p.W=wr at *
    have a:=H;clear H;clear hd hn ab ac;obtain ⟨i,u⟩:∃ i,i=first + r:=⟨_,rfl⟩
    have s:(first:Int) + (r:Int)=(i:Int):=by omega
    obtain ⟨j,t⟩:∃ j,j=first + c:=⟨_,rfl⟩
    have q:(first:Int) + (c:Int)=(j:Int):=by omega
    have o:i < k.length:=by omega
    have l:j < k.length:=by omega
    have E:=hide (show ¬ i=j/\¬ j=i by omega);have l1:i < m:=by omega
    have l2:j < m:=by omega
    clear u t;obtain ⟨B,J⟩:=a.out.cell o;obtain ⟨v,I⟩:=a.out.cell l;have G:=hide (fun p:iF wr=>HC.out.at a.out (a.out.mem o) (a.out.mem l) p);have Y:=iF.cell B;have U:=iF.cell v;go_upto_region 5 with fail
    have L:Nonempty (iF wr):=⟨⟨wr,bR⟩⟩;refine dx (by kernel_rfl) (by kernel_rfl) ?_
    repeat (go_big_quiet_step ((go_at_call 223;exact G.out _)))
    refine wpQuiet_nil ?_;rintro _ ⟨p,rfl⟩;have H:=hide (a.out.below p.h);clear a Y U B v J I G L;generalize p.W=wr at *
    have a:=H;clear H;obtain ⟨z,D⟩:∃ z,z=cf k[i] k[j]:=⟨_,rfl⟩;rw [<- D];clear D;generalize k[i]=x;generalize k[j]=y;generalize aa:(!decide (z < 0))=b;cases b
    ·obtain ⟨ad,S⟩:=E.out;have R:(0:Int) <= (first:Int) + (r:Int):=by omega
     have Q:(first:Int) + (r:Int) < (m:Int):=by omega
     have P:((first:Int) + (r:Int)).toNat=i:=by omega
     clear s;have O:(0:Int) <= (first:Int) + (c:Int):=by omega
     have N:(first:Int) + (c:Int) < (m:Int):=by omega
     have M:((first:Int) + (c:Int)).toNat=j:=by omega
     clear q;obtain ⟨B,J⟩:=a.out.cell o;obtain ⟨v,I⟩:=a.out.cell l;have T:=hide (a.out.swap o l);generalize k[i]=x at *
     generalize k[j]=y at *
     go_upto_region 6 with fail
     go_region
     all_goals
      have H3:=hide (T.out.below bR.drew);clear a T;go_wp2;go_roundw
      case rel=>exact ⟨c,_,by go_num,by omega,H3⟩
      case measure=>simp [intOf];omega
    ·go_wp2;go_end0
     exact ⟨rfl,_,a.out⟩
  ·have ae:(hi:Int) <= 2 * (r:Int) + 1:=by omega
   go_wp2;go_end0
   exact ⟨rfl,_,a.out⟩
end Qs
end So
end Go.Proofs.YtceahffmenbibaaGreatDoor
namespace Go.Proofs.YtceahffmenbibaaGreatDoor
namespace So
open Go Go.RowKit Go.Deep Rd
namespace Qs
variable {sb g cap m:Nat} {post:List Value} {dS xs:List Nat} {w0 w:World} {cf:Nat->Nat->Int}
theorem Dq (C:lX sb g post dS w0 cf) (h:Pm g post dS w0 xs w) (N:dS.length=m) (u:m <= 1099511627776) {a b:Nat} (ac:a < b) (hb:b <= m):
  Calls Tryz.prog 247 #[.slice (some ⟨g,0,none⟩) m cap,.int .i64 (a:Nat),.int .i64 (b:Nat),.func (.func 223) #[.pointer (some ⟨sb,0,none⟩)] #[]] w fun e D=>mq g post dS w0 e D:=by
 have Q:=hide C;have P:=hide h;clear C h;go_enter Tryz.func247,Tryz.ntmps247
 obtain ⟨n,hn⟩:∃ n,n=b - a:=⟨_,rfl⟩;have ab:(b:Int) - (a:Int)=(n:Int):=by omega
 have Y:0 < n:=by omega
 have T:a + n <= m:=by omega
 clear hn;go_wp2;go_loopw [11] (fun s wr=>∃ (k:Nat) (xs:List Nat),s=.int .i64 ((k:Int) - 1)/\k <= n/\Hid (Pm g post dS w0 xs wr)) (fun s _=>(intOf s + 1).toNat)
 case atStart=>exact ⟨(n - 1) / 2 + 1,xs,by go_num,by omega,P⟩
 case round=>
  clear P;obtain ⟨k,p,rfl,E,c⟩:=hrel;by_cases j:k=0
  ·subst j;go_wp2;go_loopw [12] (fun s wr=>∃ (k:Nat) (xs:List Nat),s=.int .i64 ((k:Int) - 1)/\k <= n/\Hid (Pm g post dS w0 xs wr)) (fun s _=>(intOf s + 1).toNat)
   case atStart=>exact ⟨n,p,by go_num,lr,c⟩
   case round=>
    clear c;obtain ⟨k,p,rfl,E,c⟩:=hrel;have hl:=c.out.len;by_cases j:k=0
    ·subst j;go_wp2;go_end0;exact ⟨rfl,_,c.out⟩
    ·obtain ⟨i,rfl⟩:∃ i,k=i + 1:=⟨k - 1,by omega⟩;have l:((i + 1:Nat):Int) - 1=(i:Int):=by omega
     rw [l];clear l j;have B:Hid (∀ W q,Pm g post dS w0 q W->Calls Tryz.prog 254 #[.slice (some ⟨g,0,none⟩) m cap,.int .i64 0,.int .i64 (i:Nat),.int .i64 (a:Nat),.func (.func 223) #[.pointer (some ⟨sb,0,none⟩)] #[]] W fun e D=>mq g post dS w0 e D):=fun W q o=>ui Q.out o N u (lo:=0) (hi:=i) (first:=a) (by omega) (by omega)
     by_cases H:i=0
     ·have aa:(a:Int) + (i:Int)=(a:Int):=by omega
      have t:a < p.length:=by omega
      have R:a < m:=by omega
      clear H;obtain ⟨c1,f1⟩:=c.out.cell t;have z:=hide (c.out.swap t t);generalize p[a]=x at *
      go_upto_region 10 with fail
      go_region
      all_goals
       have I:=hide (z.out.below bR.drew);clear c z;have d:=hide (B.out _ _ I.out);clear B;go_wp2_with (go_at_call 254;(with_reducible refine d.out.mono ?_);rintro O J ⟨rfl,q,o⟩;have v:=hide o;clear o d;simp only [])
       go_roundw
       case rel=>exact ⟨i,q,by go_num,by omega,v⟩
       case measure=>simp [intOf]
     ·have t:a < p.length:=by omega
      obtain ⟨r,G⟩:∃ r,r=a + i:=⟨_,rfl⟩;have S:(a:Int) + (i:Int)=(r:Int):=by omega
      have L:r < p.length:=by omega
      have U:¬ a=r:=by omega
      have M:¬ r=a:=by omega
      have R:a < m:=by omega
      have l2:r < m:=by omega
      clear G;obtain ⟨c1,f1⟩:=c.out.cell t;obtain ⟨c2,f2⟩:=c.out.cell L;have z:=hide (c.out.swap t L);generalize p[a]=x at *
      generalize p[r]=y at *
      go_upto_region 10 with fail
      go_region
      all_goals
       have I:=hide (z.out.below bR.drew);clear c z;have d:=hide (B.out _ _ I.out);clear B;go_wp2_with (go_at_call 254;(with_reducible refine d.out.mono ?_);rintro O J ⟨rfl,q,o⟩;have v:=hide o;clear o d;simp only [])
       go_roundw
       case rel=>exact ⟨i,q,by go_num,by omega,v⟩
       case measure=>simp [intOf]
  ·obtain ⟨i,rfl⟩:∃ i,k=i + 1:=⟨k - 1,by omega⟩;have l:((i + 1:Nat):Int) - 1=(i:Int):=by omega
   rw [l];clear l j;have d:=hide (ui (cap:=cap) Q.out c.out N u (lo:=i) (hi:=n) (first:=a) (by omega) (by omega));clear c;go_wp2_with (go_at_call 254;(with_reducible refine d.out.mono ?_);rintro O J ⟨rfl,q,o⟩;have v:=hide o;clear o d;simp only [])
   go_roundw
   case rel=>exact ⟨i,q,by go_num,by omega,v⟩
   case measure=>simp [intOf]
theorem Ez (C:lX sb g post dS w0 cf) (h:Pm g post dS w0 xs w) (I:dS.length=m) (z:m <= 1099511627776) {a b:Nat} (E:a < b) (L:b <= m):
  Calls Tryz.prog 250 #[.slice (some ⟨g,0,none⟩) m cap,.int .i64 (a:Nat),.int .i64 (b:Nat),.func (.func 223) #[.pointer (some ⟨sb,0,none⟩)] #[]] w fun e t=>mq g post dS w0 e t:=by
 have Q:=hide C;have r:=hide h;clear C h;go_enter Tryz.func250,Tryz.ntmps250
 go_wp2;go_loopw [8,9] (fun u k wr=>∃ (i j:Nat) (xs:List Nat),u=.int .i64 (i:Nat)/\k=.int .i64 (j:Nat)/\j < m/\Hid (Pm g post dS w0 xs wr)) (fun _ k _=>(intOf k).toNat)
 case atStart=>exact ⟨a,b - 1,xs,rfl,by go_num,by omega,r⟩
 case round=>
  clear r;obtain ⟨i,j,d,rfl,rfl,D,c⟩:=hrel;have J:=c.out.len;by_cases B:i < j
  ·have l:(i:Int) < (j:Int):=by omega
   have p:i < d.length:=by omega
   have o:j < d.length:=by omega
   have H:i < m:=by omega
   have v:¬ i=j:=by omega
   have q:¬ j=i:=by omega
   obtain ⟨P,N⟩:=c.out.cell p;obtain ⟨O,M⟩:=c.out.cell o;have s:=hide (c.out.swap p o);generalize d[i]=x at *
   generalize d[j]=y at *
   go_upto_region 3 with fail
   go_region
   all_goals
    have G:=hide (s.out.below bR.drew);clear c s;go_wp2;go_roundw
    case rel=>exact ⟨i + 1,j - 1,_,by go_num,by go_num,by omega,G⟩
    case measure=>simp [intOf];omega
  ·have l:¬ (i:Int) < (j:Int):=by omega
   go_wp2;go_end0
   exact ⟨rfl,_,c.out⟩
end Qs
end So
end Go.Proofs.YtceahffmenbibaaGreatDoor
namespace Go.Proofs.YtceahffmenbibaaGreatDoor
namespace So
open Go Go.RowKit Go.Deep Rd
namespace Qs
variable {sb g cap m:Nat} {post:List Value} {dS xs:List Nat} {w0 w:World} {cf:Nat->Nat->Int}
structure Ps (g:Nat) (post:List Value) (dS:List Nat) (w0:World) (B n:Nat) (xs:List Nat) (W:World):Prop where
 pm:Pm g post dS w0 xs W
 box:W.rowIs B 3 1 (fun _=>.int .i64 (n:Nat))
 new:w0.heap.size <= B
 ne:B ≠ g
theorem Ps.below {B n:Nat} {W W':World} (h:Ps g post dS w0 B n xs W) (a:Below W.heap.size W W'):Ps g post dS w0 B n xs W':=
 ⟨h.pm.below a,h.box.of_block (a.block _ h.box.lt),h.new,h.ne⟩
theorem Ps.more {B n:Nat} {W:World} (h:Ps g post dS w0 B n xs W) (k:Nat):Ps g post dS w0 B k xs (W.setCell ⟨B,0,none⟩ (.int .i64 (k:Nat))) where
 pm:={
  lie:=by
   have a:=h.pm.lie;unfold Df.xq at a ⊢;rw [Below.heap_setCell _ _ _ _ (fun e=>h.ne e.symm)];exact a
  perm:=h.pm.perm
  eO:=⟨h.pm.eO.mO.setCell zl _,fun k c b=>by
   rw [Below.heap_setCell _ _ _ _ (by have:=h.new;simp only;omega)];exact h.pm.eO.block k c b⟩ }
 box:=(h.box.set 0 _).congr fun i d=>by simp;omega
 new:=h.new
 ne:=h.ne
def JB (g:Nat) (post:List Value) (dS:List Nat) (w0:World) (B n:Nat) (xs:List Nat) (a b:Nat) (e:Ending) (w':World):Prop:=
 ∃ p q n':Nat,e=.returned (.tuple #[.int .i64 (p:Nat),.int .i64 (q:Nat)])/\(p=a/\q=b\/p=b/\q=a)/\n' <= n + 1/\Ps g post dS w0 B n' xs w'
theorem sS (C:lX sb g post dS w0 cf) {B n:Nat} (h:Ps g post dS w0 B n xs w) (N:dS.length=m) (G:m <= 1099511627776) {a b:Nat} (Q:a < m) (P:b < m) (M:n <= 1000):
  Calls Tryz.prog 257 #[.slice (some ⟨g,0,none⟩) m cap,.int .i64 (a:Nat),.int .i64 (b:Nat),.pointer (some ⟨B,0,none⟩),.func (.func 223) #[.pointer (some ⟨sb,0,none⟩)] #[]] w fun e s=>JB g post dS w0 B n xs a b e s:=by
 have L:=hide C;have c:=hide h;clear C h;go_enter Tryz.func257,Tryz.ntmps257
 have O:=c.out.pm.len;have k:b < xs.length:=by omega
 have j:a < xs.length:=by omega
 obtain ⟨q,J⟩:=c.out.pm.cell k;obtain ⟨o,I⟩:=c.out.pm.cell j;have r:=hide (fun p:iF w=>L.out.at c.out.pm (c.out.pm.mem k) (c.out.pm.mem j) p);have D:=iF.cell q;have v:=iF.cell o;go_upto_region 1 with fail
 have u:Nonempty (iF w):=⟨⟨w,bR⟩⟩;refine dx (by kernel_rfl) (by kernel_rfl) ?_
 repeat (go_big_quiet_step ((go_at_call 223;exact r.out _)))
 refine wpQuiet_nil ?_;rintro _ ⟨p,rfl⟩;have H:=hide (c.out.below p.h);clear c D v q o J I r u;generalize p.W=wr at *
 obtain ⟨z,l⟩:∃ z,z=cf xs[b] xs[a]:=⟨_,rfl⟩;rw [<- l];clear l;generalize xs[b]=x;generalize xs[a]=y;generalize E:decide (z < 0)=t;cases t
 ·have F:Hid (JB g post dS w0 B n xs a b (.returned (.tuple #[.int .i64 (a:Nat),.int .i64 (b:Nat)])) wr):=⟨a,b,n,rfl,.inl ⟨rfl,rfl⟩,by omega,H.out⟩;go_wp2;go_ret2;exact F.out
 ·have S:=H.out.box.cell (i:=0) (by omega);have R:=H.out.box.frozen 0;have d:(n:Int) + 1=((n + 1:Nat):Int):=by omega
  have F:Hid (JB g post dS w0 B n xs a b (.returned (.tuple #[.int .i64 (b:Nat),.int .i64 (a:Nat)])) (wr.setCell ⟨B,0,none⟩ (.int .i64 ((n:Int) + 1)))):=⟨b,a,n + 1,rfl,.inr ⟨rfl,rfl⟩,by omega,by rw [d];exact H.out.more (n + 1)⟩;clear d H;go_wp2;go_ret2;exact F.out
def Rz (g:Nat) (post:List Value) (dS:List Nat) (w0:World) (B n k:Nat) (xs:List Nat) (P:Nat->Prop) (e:Ending) (w':World):Prop:=
 ∃ p n':Nat,e=.returned (.int .i64 (p:Nat))/\P p/\n' <= n + k/\Ps g post dS w0 B n' xs w'
theorem sV (C:lX sb g post dS w0 cf) {B n:Nat} (h:Ps g post dS w0 B n xs w) (i:dS.length=m) (d:m <= 1099511627776) {a b c:Nat} (L:a < m) (J:b < m) (I:c < m) (T:n <= 900):
  Calls Tryz.prog 256 #[.slice (some ⟨g,0,none⟩) m cap,.int .i64 (a:Nat),.int .i64 (b:Nat),.int .i64 (c:Nat),.pointer (some ⟨B,0,none⟩),.func (.func 223) #[.pointer (some ⟨sb,0,none⟩)] #[]] w fun e x=>Rz g post dS w0 B n 3 xs (fun p=>p=a\/p=b\/p=c) e x:=by
 have j:=hide C;have s:=hide h;clear C h;go_enter Tryz.func256,Tryz.ntmps256
 have v:=hide (sS (cap:=cap) j.out s.out i d L J (by omega));clear s;go_upto_region 2 with (go_at_call 257;(with_reducible refine v.out.mono ?_);rintro e1 P ⟨p1,z,S,rfl,h1,H,o⟩;have r:=hide o;clear o v;simp only [])
 have u:=hide (sS (cap:=cap) j.out r.out i d (a:=z) (b:=c) (by omega) I (by omega));clear r;go_upto_region 3 with (go_at_call 257;(with_reducible refine u.out.mono ?_);rintro e2 O ⟨p2,Q,R,rfl,Y,G,l⟩;have q:=hide l;clear l u;simp only [])
 have t:=hide (sS (cap:=cap) j.out q.out i d (a:=p1) (b:=p2) (by omega) (by omega) (by omega));clear q;go_upto_region 4 with (go_at_call 257;(with_reducible refine t.out.mono ?_);rintro e3 N ⟨p3,y,D,rfl,U,E,k⟩;have M:=hide k;clear k t;simp only [])
 go_wp2;go_ret
 exact ⟨y,D,rfl,by omega,by omega,M.out⟩
theorem jV (C:lX sb g post dS w0 cf) {B n:Nat} (h:Ps g post dS w0 B n xs w) (u:dS.length=m) (d:m <= 1099511627776) {a:Nat} (I:1 <= a) (H:a + 1 < m) (t:n <= 900):
  Calls Tryz.prog 255 #[.slice (some ⟨g,0,none⟩) m cap,.int .i64 (a:Nat),.pointer (some ⟨B,0,none⟩),.func (.func 223) #[.pointer (some ⟨sb,0,none⟩)] #[]] w fun e q=>Rz g post dS w0 B n 3 xs (fun p=>p + 1=a\/p=a\/p=a + 1) e q:=by
 have E:=hide C;have l:=hide h;clear C h;go_enter Tryz.func255,Tryz.ntmps255
 obtain ⟨x,k⟩:∃ x,x + 1=a:=⟨a - 1,by omega⟩;obtain ⟨y,j⟩:∃ y,y=a + 1:=⟨_,rfl⟩;have v:(a:Int) - 1=(x:Int):=by omega
 have L:(a:Int) + 1=(y:Int):=by omega
 have o:=hide (sV (cap:=cap) E.out l.out u d (a:=x) (b:=a) (c:=y) (by omega) (by omega) (by omega) t);have D:=hide (And.intro k j);clear l k j;go_wp2_with (go_at_call 256;(with_reducible refine o.out.mono ?_);rintro v G ⟨p1,r,rfl,J,s,i⟩;have z:=hide i;clear i o;simp only [])
 go_ret
 exact ⟨p1,r,rfl,by have:=D.out;omega,by omega,z.out⟩
end Qs
end So
end Go.Proofs.YtceahffmenbibaaGreatDoor
namespace Go.Proofs.YtceahffmenbibaaGreatDoor
namespace So
open Go Go.RowKit Go.Deep Rd
namespace Qs
variable {sb g cap m:Nat} {post:List Value} {dS xs:List Nat} {w0 w:World} {cf:Nat->Nat->Int}
def WA (g:Nat) (post:List Value) (dS:List Nat) (w0:World) (xs:List Nat) (a b:Nat) (e:Ending) (w':World):Prop:=
 ∃ (p:Nat) (t:Int),e=.returned (.tuple #[.int .i64 (p:Nat),.int .i64 t])/\a <= p/\p < b/\Pm g post dS w0 xs w'
theorem VE {W:World} (h:Pm g post dS w0 xs W):Ps g post dS w0 W.heap.size 0 xs (W.alloc (.cells #[.int .i64 0] 3)) where
 pm:=h.below (bR.alloc lr _)
 box:=World.rowIs_alloc W _ _ _ fun i a=>by
  obtain rfl:i=0:=by simp at a;omega
  rfl
 new:=h.eO.size
 ne:=by have:=h.lt;omega
theorem xk (C:lX sb g post dS w0 cf) (h:Pm g post dS w0 xs w) (u:dS.length=m) (o:m <= 1099511627776) {a b:Nat} (ag:a + 12 < b) (hb:b <= m):
  Calls Tryz.prog 249 #[.slice (some ⟨g,0,none⟩) m cap,.int .i64 (a:Nat),.int .i64 (b:Nat),.func (.func 223) #[.pointer (some ⟨sb,0,none⟩)] #[]] w fun e Q=>WA g post dS w0 xs a b e Q:=by
 have y:=hide C;have M:=hide h;clear C h;go_enter Tryz.func249,Tryz.ntmps249
 obtain ⟨l,hl⟩:∃ l,l=b - a:=⟨_,rfl⟩;have ae:(b:Int) - (a:Int)=(l:Int):=by omega
 obtain ⟨q,hq⟩:∃ q,q=l / 4:=⟨_,rfl⟩;have U:(l:Int) / 4=(q:Int):=by omega
 have aa:3 <= q:=by omega
 have Y:a + 4 * q <= b:=by omega
 obtain ⟨i,hi⟩:∃ i,i=a + q:=⟨_,rfl⟩;obtain ⟨j,hj⟩:∃ j,j=a + q * 2:=⟨_,rfl⟩;obtain ⟨k,hk⟩:∃ k,k=a + q * 3:=⟨_,rfl⟩;have ei:(a:Int) + (q:Int)=(i:Int):=by omega
 have ej:(a:Int) + (q:Int) * 2=(j:Int):=by omega
 have ek:(a:Int) + (q:Int) * 3=(k:Int):=by omega
 have af:(8:Int) <= (l:Int):=by omega
 have bi:a + 1 <= i/\i + 1 < b:=by omega
 have bj:a + 1 <= j/\j + 1 < b:=by omega
 have bk:a + 1 <= k/\k + 1 < b:=by omega
 have s:=hide (VE M.out);have ah:a <= m:=by omega
 clear hl hq hi hj hk M;by_cases ai:50 <= l
 ·have v:(50:Int) <= (l:Int):=by omega
  go_upto_region 8 with fail
  generalize w.alloc (.cells #[.int .i64 0] 3)=E at *
  generalize w.heap.size=B at *
  have P:=hide (jV (cap:=cap) y.out s.out u o (a:=i) (by omega) (by omega) (by omega));clear s;go_upto_region 9 with (go_at_call 255;(with_reducible refine P.out.mono ?_);rintro e1 E ⟨p1,n1,rfl,h1,ad,I⟩;have s:=hide I;clear I P;simp only [])
  have O:=hide (jV (cap:=cap) y.out s.out u o (a:=j) (by omega) (by omega) (by omega));clear s;go_upto_region 10 with (go_at_call 255;(with_reducible refine O.out.mono ?_);rintro e2 w2 ⟨p2,n2,rfl,h2,ac,H⟩;have L:=hide H;clear H O;simp only [])
  have N:=hide (jV (cap:=cap) y.out L.out u o (a:=k) (by omega) (by omega) (by omega));clear L;go_upto_region 11 with (go_at_call 255;(with_reducible refine N.out.mono ?_);rintro e3 w3 ⟨p3,n3,rfl,h3,ab,G⟩;have J:=hide G;clear G N;simp only [])
  have x:=hide (sV (cap:=cap) y.out J.out u o (a:=p1) (b:=p2) (c:=p3) (by omega) (by omega) (by omega) (by omega));clear J;go_upto_region 12 with (go_at_call 256;(with_reducible refine x.out.mono ?_);rintro e4 z ⟨p,S,rfl,h4,D,t⟩;have r:=hide t;clear t x;simp only [])
  have c0:=r.out.box.cell (i:=0) (by omega);have R:=hide (show Pm g post dS w0 xs z from r.out.pm);have d:a <= p/\p < b:=by omega
  clear r;go_wp2
  all_goals go_ret2
  all_goals exact ⟨p,_,rfl,d.1,d.2,R.out⟩
 ·have v:¬ (50:Int) <= (l:Int):=by omega
  go_upto_region 11 with fail
  generalize w.alloc (.cells #[.int .i64 0] 3)=E at *
  generalize w.heap.size=B at *
  have x:=hide (sV (cap:=cap) y.out s.out u o (a:=i) (b:=j) (c:=k) (by omega) (by omega) (by omega) (by omega));clear s;go_upto_region 12 with (go_at_call 256;(with_reducible refine x.out.mono ?_);rintro e4 z ⟨p,S,rfl,h4,D,t⟩;have r:=hide t;clear t x;simp only [])
  have c0:=r.out.box.cell (i:=0) (by omega);have R:=hide (show Pm g post dS w0 xs z from r.out.pm);have d:a <= p/\p < b:=by omega
  clear r;go_wp2
  all_goals go_ret2
  all_goals exact ⟨p,_,rfl,d.1,d.2,R.out⟩
end Qs
end So
end Go.Proofs.YtceahffmenbibaaGreatDoor
namespace Go.Proofs.YtceahffmenbibaaGreatDoor
namespace So
open Go Go.RowKit Go.Deep Rd
namespace Qs
variable {sb g cap m:Nat} {post:List Value} {dS xs:List Nat} {w0 w:World} {cf:Nat->Nat->Int}
def wP (g:Nat) (post:List Value) (dS:List Nat) (w0:World) (zs:List Nat) (G:Prop) (v:Value) (wx:World):Prop:=∃ b:Bool,v=.bool b/\(b=true->G)/\Pm g post dS w0 zs wx
theorem sQ (C:lX sb g post dS w0 cf) (h:Pm g post dS w0 xs w) (hm:dS.length=m) (ag:m <= 1099511627776) {a b pv:Nat} (ak:a < b) (hb:b <= m) (hp:a <= pv) (af:pv < b):
  Calls Tryz.prog 252 #[.slice (some ⟨g,0,none⟩) m cap,.int .i64 (a:Nat),.int .i64 (b:Nat),.int .i64 (pv:Nat),.func (.func 223) #[.pointer (some ⟨sb,0,none⟩)] #[]] w fun e w'=>∃ (q:Nat) (aa:List Nat),e=.returned (.int .i64 (q:Nat))/\a < q/\q <= b/\Pm g post dS w0 aa w':=by
 have HC:=hide C;have S0:=hide h;clear C h;go_enter Tryz.func252,Tryz.ntmps252
 obtain ⟨d,t⟩:∃ x,x=xs:=⟨_,rfl⟩;subst t;obtain ⟨wr,k⟩:∃ x,x=w:=⟨_,rfl⟩;subst k;have c:=S0;clear S0;have Y:=c.out.len;go_upto_region 1 with fail
 go_cut [] from 13 to 26 (fun E=>∃ D,Pm g post dS w0 D E)
 case first=>
  have l:a < d.length:=by omega
  have r:pv < d.length:=by omega
  have l1:a < m:=by omega
  have l2:pv < m:=by omega
  by_cases hs:a=pv
  ·subst hs;obtain ⟨B,I⟩:=c.out.cell l;have z:=hide (c.out.swap l l);generalize d[a]=x at *
   go_region
   all_goals
    have L:=hide (z.out.below bR.drew);clear c z;go_wp2;go_meet;exact ⟨_,L.out⟩
  ·obtain ⟨B,I⟩:=c.out.cell l;obtain ⟨J,T⟩:=c.out.cell r;have z:=hide (c.out.swap l r);have N:¬ pv=a:=by omega
   generalize d[a]=x at *
   generalize d[pv]=y at *
   go_region
   all_goals
    have L:=hide (z.out.below bR.drew);clear c z;go_wp2;go_meet;exact ⟨_,L.out⟩
 case rest=>
  obtain ⟨D,M⟩:=hcut;have H:=hide M;clear M c;have c:=H;clear H;obtain ⟨d,t⟩:∃ x,x=D:=⟨_,rfl⟩;subst t;have Y:=c.out.len;obtain ⟨wr,k⟩:∃ x,x=wc:=⟨_,rfl⟩;subst k;go_wp2;go_loopw [11,12] (fun s jv wr=>∃ (i j:Nat) (xs:List Nat),s=.int .i64 (i:Nat)/\jv=.int .i64 (j:Nat)/\True/\a < i/\i <= b/\a <= j/\j < b/\Hid (Pm g post dS w0 xs wr)) (fun s _ _=>b + 1 - (intOf s).toNat)
  case atStart=>exact ⟨a + 1,b - 1,d,by go_num,by go_num,trivial,by omega,by omega,by omega,by omega,c⟩
  case round=>
   clear c;obtain ⟨i,j,d,rfl,rfl,-,S,P,ae,ab,c⟩:=hrel;obtain ⟨i0,Q⟩:∃ x,x=i:=⟨_,rfl⟩;have ac:=hide Q;have aj:i0 <= i:=by omega
   clear Q;go_wp2;go_loopw [11] (fun s wr=>∃ (i:Nat) (xs:List Nat),s=.int .i64 (i:Nat)/\i0 <= i/\a < i/\i <= b/\Hid (Pm g post dS w0 xs wr)) (fun s _=>b + 1 - (intOf s).toNat)
   case atStart=>exact ⟨i,d,rfl,by omega,by omega,by omega,c⟩
   case round=>
    clear c;obtain ⟨i,d,rfl,ah,S,P,c⟩:=hrel;have Y:=c.out.len;go_upto_region 3 with fail
    go_cut [47] from 31 to 49 (fun v E=>wP g post dS w0 d (i <= j) v E)
    case first=>
     by_cases R:i <= j
     ·have hd:decide ((i:Int) <= (j:Int))=true:=by simp;omega
      have l:a < d.length:=by omega
      have r:i < d.length:=by omega
      have l1:a < m:=by omega
      have l2:i < m:=by omega
      obtain ⟨B,I⟩:=c.out.cell l;obtain ⟨J,T⟩:=c.out.cell r;have U:=hide (fun p:iF wr=>HC.out.at c.out (c.out.mem l) (c.out.mem r) p);have k1:=iF.cell B;have k2:=iF.cell J;have G:Nonempty (iF wr):=⟨⟨wr,bR⟩⟩;refine dx (by kernel_rfl) (by kernel_rfl) ?_
      repeat (go_big_quiet_step ((go_at_call 223;exact U.out _)))
      refine wpQuiet_nil ?_;rintro _ ⟨p,rfl⟩;have H:=hide (c.out.below p.h);have HG:=hide R;clear c k1 k2 B J I T U G R;generalize p.W=wn at *
      go_wp2;go_meet
      exact ⟨_,rfl,fun _=>HG.out,H.out⟩
     ·have hd:decide ((i:Int) <= (j:Int))=false:=by simp;omega
      have G:Nonempty (iF wr):=⟨⟨wr,bR⟩⟩;refine dx (by kernel_rfl) (by kernel_rfl) ?_
      repeat (go_big_quiet_step (fail))
      refine wpQuiet_nil ?_;rintro _ ⟨p,rfl⟩;have H:=hide (c.out.below p.h);clear c G;generalize p.W=wn at *
      go_wp2;go_meet
      exact ⟨false,rfl,fun h=>(by cases h),H.out⟩
    case rest=>
     obtain ⟨b1,rfl,o,u⟩:=hcut;have H:=hide u;clear u c;have c:=H;clear H;obtain ⟨wr,k⟩:∃ x,x=wc:=⟨_,rfl⟩;subst k;cases b1
     ·clear o;go_wp2;go_loopw [12] (fun s wr=>∃ (j:Nat) (xs:List Nat),s=.int .i64 (j:Nat)/\a <= j/\j < b/\Hid (Pm g post dS w0 xs wr)) (fun s _=>(intOf s).toNat)
      case atStart=>exact ⟨j,d,rfl,by omega,by omega,c⟩
      case round=>
       clear c;obtain ⟨j,d,rfl,ae,ab,c⟩:=hrel;have Y:=c.out.len;go_upto_region 5 with fail
       go_cut [65] from 50 to 67 (fun v E=>wP g post dS w0 d (i <= j) v E)
       case first=>
        by_cases R:i <= j
        ·have hd:decide ((i:Int) <= (j:Int))=true:=by simp;omega
         have l:a < d.length:=by omega
         have r:j < d.length:=by omega
         have l1:a < m:=by omega
         have l2:j < m:=by omega
         obtain ⟨B,I⟩:=c.out.cell l;obtain ⟨J,T⟩:=c.out.cell r;have U:=hide (fun p:iF wr=>HC.out.at c.out (c.out.mem l) (c.out.mem r) p);have k1:=iF.cell B;have k2:=iF.cell J;have G:Nonempty (iF wr):=⟨⟨wr,bR⟩⟩;refine dx (by kernel_rfl) (by kernel_rfl) ?_
         repeat (go_big_quiet_step ((go_at_call 223;exact U.out _)))
         refine wpQuiet_nil ?_;rintro _ ⟨p,rfl⟩;have H:=hide (c.out.below p.h);have HG:=hide R;clear c k1 k2 B J I T U G R;generalize p.W=wn at *
         go_wp2;go_meet
         exact ⟨_,rfl,fun _=>HG.out,H.out⟩
        ·have hd:decide ((i:Int) <= (j:Int))=false:=by simp;omega
         have G:Nonempty (iF wr):=⟨⟨wr,bR⟩⟩;refine dx (by kernel_rfl) (by kernel_rfl) ?_
         repeat (go_big_quiet_step (fail))
         refine wpQuiet_nil ?_;rintro _ ⟨p,rfl⟩;have H:=hide (c.out.below p.h);clear c G;generalize p.W=wn at *
         go_wp2;go_meet
         exact ⟨false,rfl,fun h=>(by cases h),H.out⟩
       case rest=>
        obtain ⟨b1,rfl,o,u⟩:=hcut;have H:=hide u;clear u c;have c:=H;clear H;obtain ⟨wr,k⟩:∃ x,x=wc:=⟨_,rfl⟩;subst k;cases b1
        ·clear o;by_cases O:i <= j
         ·have ad:¬ (j:Int) < (i:Int):=by omega
          go_upto_region 8 with fail
          go_cut [] from 71 to 84 (fun E=>∃ D,Pm g post dS w0 D E)
          case first=>
           have l:i < d.length:=by omega
           have r:j < d.length:=by omega
           have l1:i < m:=by omega
           have l2:j < m:=by omega
           by_cases hs:i=j
           ·subst hs;obtain ⟨B,I⟩:=c.out.cell l;have z:=hide (c.out.swap l l);generalize d[i]=x at *
            go_region
            all_goals
             have L:=hide (z.out.below bR.drew);clear c z;go_wp2;go_meet;exact ⟨_,L.out⟩
           ·obtain ⟨B,I⟩:=c.out.cell l;obtain ⟨J,T⟩:=c.out.cell r;have z:=hide (c.out.swap l r);have N:¬ j=i:=by omega
            generalize d[i]=x at *
            generalize d[j]=y at *
            go_region
            all_goals
             have L:=hide (z.out.below bR.drew);clear c z;go_wp2;go_meet;exact ⟨_,L.out⟩
          case rest=>
           obtain ⟨D,M⟩:=hcut;have H:=hide M;clear M c;have c:=H;clear H;obtain ⟨d,t⟩:∃ x,x=D:=⟨_,rfl⟩;subst t;have Y:=c.out.len;obtain ⟨wr,k⟩:∃ x,x=wc:=⟨_,rfl⟩;subst k;go_wp2;go_roundw
           case rel=>exact ⟨i + 1,j - 1,d,by go_num,by go_num,trivial,by omega,by omega,by omega,by omega,c⟩
           case measure=>have ai:=ac.out;simp [intOf];omega
         ·have ad:(j:Int) < (i:Int):=by omega
          go_wp2;go_ret
          exact ⟨i,d,rfl,S,P,c.out⟩
        ·have O:=o rfl;clear o;go_wp2;go_roundw
         case rel=>exact ⟨j - 1,d,by go_num,by omega,by omega,c⟩
         case measure=>simp [intOf];omega
     ·have O:=o rfl;clear o;go_wp2;go_roundw
      case rel=>exact ⟨i + 1,d,by go_num,by omega,by omega,by omega,c⟩
      case measure=>simp [intOf];omega
end Qs
end So
end Go.Proofs.YtceahffmenbibaaGreatDoor
namespace Go.Proofs.YtceahffmenbibaaGreatDoor
namespace So
open Go Go.RowKit Go.Deep Rd
namespace Qs
variable {sb g cap m:Nat} {post:List Value} {dS xs:List Nat} {w0 w:World} {cf:Nat->Nat->Int}
theorem Ac (C:lX sb g post dS w0 cf) (h:Pm g post dS w0 xs w) (hm:dS.length=m) (ai:m <= 1099511627776) {a b pv:Nat} (al:a < b) (hb:b <= m) (hp:a <= pv) (ah:pv < b):
  Calls Tryz.prog 253 #[.slice (some ⟨g,0,none⟩) m cap,.int .i64 (a:Nat),.int .i64 (b:Nat),.int .i64 (pv:Nat),.func (.func 223) #[.pointer (some ⟨sb,0,none⟩)] #[]] w fun e w'=>∃ (q:Nat) (t:Bool) (ae:List Nat),e=.returned (.tuple #[.int .i64 (q:Nat),.bool t])/\a <= q/\q < b/\Pm g post dS w0 ae w':=by
 have HC:=hide C;have S0:=hide h;clear C h;go_enter Tryz.func253,Tryz.ntmps253
 obtain ⟨d,u⟩:∃ x,x=xs:=⟨_,rfl⟩;subst u;obtain ⟨wr,l⟩:∃ x,x=w:=⟨_,rfl⟩;subst l;have c:=S0;clear S0;have hl:=c.out.len;go_upto_region 1 with fail
 go_cut [] from 14 to 27 (fun I=>∃ D,Pm g post dS w0 D I)
 case first=>
  have k:a < d.length:=by omega
  have s:pv < d.length:=by omega
  have l1:a < m:=by omega
  have l2:pv < m:=by omega
  by_cases Y:a=pv
  ·subst Y;obtain ⟨B,J⟩:=c.out.cell k;have r:=hide (c.out.swap k k);generalize d[a]=x at *
   go_region
   all_goals
    have G:=hide (r.out.below bR.drew);clear c r;go_wp2;go_meet;exact ⟨_,G.out⟩
  ·obtain ⟨B,J⟩:=c.out.cell k;obtain ⟨L,P⟩:=c.out.cell s;have r:=hide (c.out.swap k s);have O:¬ pv=a:=by omega
   generalize d[a]=x at *
   generalize d[pv]=y at *
   go_region
   all_goals
    have G:=hide (r.out.below bR.drew);clear c r;go_wp2;go_meet;exact ⟨_,G.out⟩
 case rest=>
  obtain ⟨D,N⟩:=hcut;have H:=hide N;clear N c;have c:=H;clear H;obtain ⟨d,u⟩:∃ x,x=D:=⟨_,rfl⟩;subst u;have hl:=c.out.len;obtain ⟨wr,l⟩:∃ x,x=wc:=⟨_,rfl⟩;subst l;obtain ⟨i,hi⟩:∃ i,i=a + 1:=⟨_,rfl⟩;obtain ⟨j,hj⟩:∃ j,j=b - 1:=⟨_,rfl⟩;have ei:(a:Int) + 1=(i:Int):=by omega
  have ej:(b:Int) - 1=(j:Int):=by omega
  have ac:a < i:=by omega
  have aa:i <= b:=by omega
  have T:a <= j:=by omega
  have Q:j < b:=by omega
  clear hi hj;go_wp2;clear ei ej;go_loopw [12] (fun E wr=>∃ (i:Nat) (xs:List Nat),E=.int .i64 (i:Nat)/\True/\a < i/\i <= b/\Hid (Pm g post dS w0 xs wr)) (fun E _=>b + 1 - (intOf E).toNat)
  case atStart=>exact ⟨i,d,rfl,trivial,by omega,by omega,c⟩
  case round=>
   clear c;obtain ⟨i,d,rfl,af,ac,aa,c⟩:=hrel;have hl:=c.out.len;go_upto_region 3 with fail
   go_cut [47] from 32 to 49 (fun v I=>wP g post dS w0 d (i <= j) v I)
   case first=>
    by_cases S:i <= j
    ·have hd:decide ((i:Int) <= (j:Int))=true:=by simp;omega
     have k:i < d.length:=by omega
     have s:a < d.length:=by omega
     have l1:i < m:=by omega
     have l2:a < m:=by omega
     obtain ⟨B,J⟩:=c.out.cell k;obtain ⟨L,P⟩:=c.out.cell s;have U:=hide (fun p:iF wr=>HC.out.at c.out (c.out.mem k) (c.out.mem s) p);have k1:=iF.cell B;have k2:=iF.cell L;have M:Nonempty (iF wr):=⟨⟨wr,bR⟩⟩;refine dx (by kernel_rfl) (by kernel_rfl) ?_
     repeat (go_big_quiet_step ((go_at_call 223;exact U.out _)))
     refine wpQuiet_nil ?_;rintro _ ⟨p,rfl⟩;have H:=hide (c.out.below p.h);have HG:=hide S;clear c k1 k2 B L J P U M S;generalize p.W=wn at *
     go_wp2;go_meet
     exact ⟨_,rfl,fun _=>HG.out,H.out⟩
    ·have hd:decide ((i:Int) <= (j:Int))=false:=by simp;omega
     have M:Nonempty (iF wr):=⟨⟨wr,bR⟩⟩;refine dx (by kernel_rfl) (by kernel_rfl) ?_
     repeat (go_big_quiet_step (fail))
     refine wpQuiet_nil ?_;rintro _ ⟨p,rfl⟩;have H:=hide (c.out.below p.h);clear c M;generalize p.W=wn at *
     go_wp2;go_meet
     exact ⟨false,rfl,fun h=>(by cases h),H.out⟩
   case rest=>
    obtain ⟨b1,rfl,o,z⟩:=hcut;have H:=hide z;clear z c;have c:=H;clear H;obtain ⟨wr,l⟩:∃ x,x=wc:=⟨_,rfl⟩;subst l;cases b1
    ·clear o;go_wp2;go_loopw [13] (fun E wr=>∃ (j:Nat) (xs:List Nat),E=.int .i64 (j:Nat)/\a <= j/\j < b/\Hid (Pm g post dS w0 xs wr)) (fun E _=>(intOf E).toNat)
     case atStart=>exact ⟨j,d,rfl,by omega,by omega,c⟩
     case round=>
      clear c;obtain ⟨j,d,rfl,T,Q,c⟩:=hrel;have hl:=c.out.len;go_upto_region 5 with fail
      go_cut [66] from 50 to 68 (fun v I=>wP g post dS w0 d (i <= j) v I)
      case first=>
       by_cases S:i <= j
       ·have hd:decide ((i:Int) <= (j:Int))=true:=by simp;omega
        have k:j < d.length:=by omega
        have s:a < d.length:=by omega
        have l1:j < m:=by omega
        have l2:a < m:=by omega
        obtain ⟨B,J⟩:=c.out.cell k;obtain ⟨L,P⟩:=c.out.cell s;have U:=hide (fun p:iF wr=>HC.out.at c.out (c.out.mem k) (c.out.mem s) p);have k1:=iF.cell B;have k2:=iF.cell L;have M:Nonempty (iF wr):=⟨⟨wr,bR⟩⟩;refine dx (by kernel_rfl) (by kernel_rfl) ?_
        repeat (go_big_quiet_step ((go_at_call 223;exact U.out _)))
        refine wpQuiet_nil ?_;rintro _ ⟨p,rfl⟩;have H:=hide (c.out.below p.h);have HG:=hide S;clear c k1 k2 B L J P U M S;generalize p.W=wn at *
        go_wp2;go_meet
        exact ⟨_,rfl,fun _=>HG.out,H.out⟩
       ·have hd:decide ((i:Int) <= (j:Int))=false:=by simp;omega
        have M:Nonempty (iF wr):=⟨⟨wr,bR⟩⟩;refine dx (by kernel_rfl) (by kernel_rfl) ?_
        repeat (go_big_quiet_step (fail))
        refine wpQuiet_nil ?_;rintro _ ⟨p,rfl⟩;have H:=hide (c.out.below p.h);clear c M;generalize p.W=wn at *
        go_wp2;go_meet
        exact ⟨false,rfl,fun h=>(by cases h),H.out⟩
      case rest=>
       obtain ⟨b1,rfl,o,z⟩:=hcut;have H:=hide z;clear z c;have c:=H;clear H;obtain ⟨wr,l⟩:∃ x,x=wc:=⟨_,rfl⟩;subst l;cases b1
       ·clear o;by_cases R:i <= j
        ·have ab:¬ (j:Int) < (i:Int):=by omega
         go_upto_region 10 with fail
         go_cut [] from 87 to 100 (fun I=>∃ D,Pm g post dS w0 D I)
         case first=>
          have k:i < d.length:=by omega
          have s:j < d.length:=by omega
          have l1:i < m:=by omega
          have l2:j < m:=by omega
          by_cases Y:i=j
          ·subst Y;obtain ⟨B,J⟩:=c.out.cell k;have r:=hide (c.out.swap k k);generalize d[i]=x at *
           go_region
           all_goals
            have G:=hide (r.out.below bR.drew);clear c r;go_wp2;go_meet;exact ⟨_,G.out⟩
          ·obtain ⟨B,J⟩:=c.out.cell k;obtain ⟨L,P⟩:=c.out.cell s;have r:=hide (c.out.swap k s);have O:¬ j=i:=by omega
           generalize d[i]=x at *
           generalize d[j]=y at *
           go_region
           all_goals
            have G:=hide (r.out.below bR.drew);clear c r;go_wp2;go_meet;exact ⟨_,G.out⟩
         case rest=>
          obtain ⟨D,N⟩:=hcut;have H:=hide N;clear N c;have c:=H;clear H;obtain ⟨d,u⟩:∃ x,x=D:=⟨_,rfl⟩;subst u;have hl:=c.out.len;obtain ⟨wr,l⟩:∃ x,x=wc:=⟨_,rfl⟩;subst l;go_wp2;go_loopw [12,13] (fun E jv wr=>∃ (i j:Nat) (xs:List Nat),E=.int .i64 (i:Nat)/\jv=.int .i64 (j:Nat)/\True/\a < i/\i <= b/\a <= j/\j < b/\Hid (Pm g post dS w0 xs wr)) (fun E _ _=>b + 1 - (intOf E).toNat)
          case atStart=>exact ⟨i + 1,j - 1,d,by go_num,by go_num,trivial,by omega,by omega,by omega,by omega,c⟩
          case round=>
           clear c;obtain ⟨i,j,d,rfl,rfl,-,ac,aa,T,Q,c⟩:=hrel;obtain ⟨i0,ad⟩:∃ x,x=i:=⟨_,rfl⟩;have ag:=hide ad;have ak:i0 <= i:=by omega
           clear ad;go_wp2;go_loopw [12] (fun E wr=>∃ (i:Nat) (xs:List Nat),E=.int .i64 (i:Nat)/\i0 <= i/\a < i/\i <= b/\Hid (Pm g post dS w0 xs wr)) (fun E _=>b + 1 - (intOf E).toNat)
           case atStart=>exact ⟨i,d,rfl,by omega,by omega,by omega,c⟩
           case round=>
            clear c;obtain ⟨i,d,rfl,af,ac,aa,c⟩:=hrel;have hl:=c.out.len;go_upto_region 13 with fail
            go_cut [120] from 105 to 122 (fun v I=>wP g post dS w0 d (i <= j) v I)
            case first=>
             by_cases S:i <= j
             ·have hd:decide ((i:Int) <= (j:Int))=true:=by simp;omega
              have k:i < d.length:=by omega
              have s:a < d.length:=by omega
              have l1:i < m:=by omega
              have l2:a < m:=by omega
              obtain ⟨B,J⟩:=c.out.cell k;obtain ⟨L,P⟩:=c.out.cell s;have U:=hide (fun p:iF wr=>HC.out.at c.out (c.out.mem k) (c.out.mem s) p);have k1:=iF.cell B;have k2:=iF.cell L;have M:Nonempty (iF wr):=⟨⟨wr,bR⟩⟩;refine dx (by kernel_rfl) (by kernel_rfl) ?_
              repeat (go_big_quiet_step ((go_at_call 223;exact U.out _)))
              refine wpQuiet_nil ?_;rintro _ ⟨p,rfl⟩;have H:=hide (c.out.below p.h);have HG:=hide S;clear c k1 k2 B L J P U M S;generalize p.W=wn at *
              go_wp2;go_meet
              exact ⟨_,rfl,fun _=>HG.out,H.out⟩
             ·have hd:decide ((i:Int) <= (j:Int))=false:=by simp;omega
              have M:Nonempty (iF wr):=⟨⟨wr,bR⟩⟩;refine dx (by kernel_rfl) (by kernel_rfl) ?_
              repeat (go_big_quiet_step (fail))
              refine wpQuiet_nil ?_;rintro _ ⟨p,rfl⟩;have H:=hide (c.out.below p.h);clear c M;generalize p.W=wn at *
              go_wp2;go_meet
              exact ⟨false,rfl,fun h=>(by cases h),H.out⟩
            case rest=>
             obtain ⟨b1,rfl,o,z⟩:=hcut;have H:=hide z;clear z c;have c:=H;clear H;obtain ⟨wr,l⟩:∃ x,x=wc:=⟨_,rfl⟩;subst l;cases b1
             ·clear o;go_wp2;go_loopw [13] (fun E wr=>∃ (j:Nat) (xs:List Nat),E=.int .i64 (j:Nat)/\a <= j/\j < b/\Hid (Pm g post dS w0 xs wr)) (fun E _=>(intOf E).toNat)
              case atStart=>exact ⟨j,d,rfl,by omega,by omega,c⟩
              case round=>
               clear c;obtain ⟨j,d,rfl,T,Q,c⟩:=hrel;have hl:=c.out.len;go_upto_region 15 with fail
               go_cut [139] from 123 to 141 (fun v I=>wP g post dS w0 d (i <= j) v I)
               case first=>
                by_cases S:i <= j
                ·have hd:decide ((i:Int) <= (j:Int))=true:=by simp;omega
                 have k:j < d.length:=by omega
                 have s:a < d.length:=by omega
                 have l1:j < m:=by omega
                 have l2:a < m:=by omega
                 obtain ⟨B,J⟩:=c.out.cell k;obtain ⟨L,P⟩:=c.out.cell s;have U:=hide (fun p:iF wr=>HC.out.at c.out (c.out.mem k) (c.out.mem s) p);have k1:=iF.cell B;have k2:=iF.cell L;have M:Nonempty (iF wr):=⟨⟨wr,bR⟩⟩;refine dx (by kernel_rfl) (by kernel_rfl) ?_
                 repeat (go_big_quiet_step ((go_at_call 223;exact U.out _)))
                 refine wpQuiet_nil ?_;rintro _ ⟨p,rfl⟩;have H:=hide (c.out.below p.h);have HG:=hide S;clear c k1 k2 B L J P U M S;generalize p.W=wn at *
                 go_wp2;go_meet
                 exact ⟨_,rfl,fun _=>HG.out,H.out⟩
                ·have hd:decide ((i:Int) <= (j:Int))=false:=by simp;omega
                 have M:Nonempty (iF wr):=⟨⟨wr,bR⟩⟩;refine dx (by kernel_rfl) (by kernel_rfl) ?_
                 repeat (go_big_quiet_step (fail))
                 refine wpQuiet_nil ?_;rintro _ ⟨p,rfl⟩;have H:=hide (c.out.below p.h);clear c M;generalize p.W=wn at *
                 go_wp2;go_meet
                 exact ⟨false,rfl,fun h=>(by cases h),H.out⟩
               case rest=>
                obtain ⟨b1,rfl,o,z⟩:=hcut;have H:=hide z;clear z c;have c:=H;clear H;obtain ⟨wr,l⟩:∃ x,x=wc:=⟨_,rfl⟩;subst l;cases b1
                ·clear o;by_cases R:i <= j
                 ·have ab:¬ (j:Int) < (i:Int):=by omega
                  go_upto_region 18 with fail
                  go_cut [] from 145 to 158 (fun I=>∃ D,Pm g post dS w0 D I)
                  case first=>
                   have k:i < d.length:=by omega
                   have s:j < d.length:=by omega
                   have l1:i < m:=by omega
                   have l2:j < m:=by omega
                   by_cases Y:i=j
                   ·subst Y;obtain ⟨B,J⟩:=c.out.cell k;have r:=hide (c.out.swap k k);generalize d[i]=x at *
                    go_region
                    all_goals
                     have G:=hide (r.out.below bR.drew);clear c r;go_wp2;go_meet;exact ⟨_,G.out⟩
                   ·obtain ⟨B,J⟩:=c.out.cell k;obtain ⟨L,P⟩:=c.out.cell s;have r:=hide (c.out.swap k s);have O:¬ j=i:=by omega
                    generalize d[i]=x at *
                    generalize d[j]=y at *
                    go_region
                    all_goals
                     have G:=hide (r.out.below bR.drew);clear c r;go_wp2;go_meet;exact ⟨_,G.out⟩
                  case rest=>
                   obtain ⟨D,N⟩:=hcut;have H:=hide N;clear N c;have c:=H;clear H;obtain ⟨d,u⟩:∃ x,x=D:=⟨_,rfl⟩;subst u;have hl:=c.out.len;obtain ⟨wr,l⟩:∃ x,x=wc:=⟨_,rfl⟩;subst l;go_wp2;go_roundw
                   case rel=>exact ⟨i + 1,j - 1,d,by go_num,by go_num,trivial,by omega,by omega,by omega,by omega,c⟩
                   case measure=>have aj:=ag.out;simp [intOf];omega
                 ·have ab:(j:Int) < (i:Int):=by omega
                  go_upto_region 21 with fail
                  go_cut [] from 163 to 176 (fun I=>∃ D,Pm g post dS w0 D I)
                  case first=>
                   have k:j < d.length:=by omega
                   have s:a < d.length:=by omega
                   have l1:j < m:=by omega
                   have l2:a < m:=by omega
                   by_cases Y:j=a
                   ·subst Y;obtain ⟨B,J⟩:=c.out.cell k;have r:=hide (c.out.swap k k);generalize d[j]=x at *
                    go_region
                    all_goals
                     have G:=hide (r.out.below bR.drew);clear c r;go_wp2;go_meet;exact ⟨_,G.out⟩
                   ·obtain ⟨B,J⟩:=c.out.cell k;obtain ⟨L,P⟩:=c.out.cell s;have r:=hide (c.out.swap k s);have O:¬ a=j:=by omega
                    generalize d[j]=x at *
                    generalize d[a]=y at *
                    go_region
                    all_goals
                     have G:=hide (r.out.below bR.drew);clear c r;go_wp2;go_meet;exact ⟨_,G.out⟩
                  case rest=>
                   obtain ⟨D,N⟩:=hcut;have H:=hide N;clear N c;have c:=H;clear H;obtain ⟨d,u⟩:∃ x,x=D:=⟨_,rfl⟩;subst u;have hl:=c.out.len;obtain ⟨wr,l⟩:∃ x,x=wc:=⟨_,rfl⟩;subst l;go_wp2;go_ret2;exact ⟨j,false,d,rfl,T,Q,c.out⟩
                ·have R:=o rfl;clear o;go_wp2;go_roundw
                 case rel=>exact ⟨j - 1,d,by go_num,by omega,by omega,c⟩
                 case measure=>simp [intOf];omega
             ·have R:=o rfl;clear o;go_wp2;go_roundw
              case rel=>exact ⟨i + 1,d,by go_num,by omega,by omega,by omega,c⟩
              case measure=>simp [intOf];omega
        ·have ab:(j:Int) < (i:Int):=by omega
         go_upto_region 8 with fail
         go_cut [] from 72 to 85 (fun I=>∃ D,Pm g post dS w0 D I)
         case first=>
          have k:j < d.length:=by omega
          have s:a < d.length:=by omega
          have l1:j < m:=by omega
          have l2:a < m:=by omega
          by_cases Y:j=a
          ·subst Y;obtain ⟨B,J⟩:=c.out.cell k;have r:=hide (c.out.swap k k);generalize d[j]=x at *
           go_region
           all_goals
            have G:=hide (r.out.below bR.drew);clear c r;go_wp2;go_meet;exact ⟨_,G.out⟩
          ·obtain ⟨B,J⟩:=c.out.cell k;obtain ⟨L,P⟩:=c.out.cell s;have r:=hide (c.out.swap k s);have O:¬ a=j:=by omega
           generalize d[j]=x at *
           generalize d[a]=y at *
           go_region
           all_goals
            have G:=hide (r.out.below bR.drew);clear c r;go_wp2;go_meet;exact ⟨_,G.out⟩
         case rest=>
          obtain ⟨D,N⟩:=hcut;have H:=hide N;clear N c;have c:=H;clear H;obtain ⟨d,u⟩:∃ x,x=D:=⟨_,rfl⟩;subst u;have hl:=c.out.len;obtain ⟨wr,l⟩:∃ x,x=wc:=⟨_,rfl⟩;subst l;go_wp2;go_ret2;exact ⟨j,true,d,rfl,T,Q,c.out⟩
       ·have R:=o rfl;clear o;go_wp2;go_roundw
        case rel=>exact ⟨j - 1,d,by go_num,by omega,by omega,c⟩
        case measure=>simp [intOf];omega
    ·have R:=o rfl;clear o;go_wp2;go_roundw
     case rel=>exact ⟨i + 1,d,by go_num,trivial,by omega,by omega,c⟩
     case measure=>simp [intOf];omega
end Qs
end So
end Go.Proofs.YtceahffmenbibaaGreatDoor
