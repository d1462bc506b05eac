/- Scmp Sqs0 Sqs1 Sqs2 Sqs3 Sqs4 Sqs5. -/
import Derived.Test.YtceahffmenbibaaGreatDoorG10
import Derived.Test.YtceahffmenbibaaGreatDoorG32
import Derived.BigQuiet
set_option linter.unusedVariables false
set_option linter.unusedSimpArgs false
set_option maxHeartbeats 4000000
set_option maxRecDepth 100000
namespace Go.Proofs.YtceahffmenbibaaGreatDoor
namespace So
section
open Go Go.RowKit Go.Deep Rd
theorem KM (x:Int) (w:World):Calls Tryz.prog 236 #[.int .i64 x] w fun e w'=>e=.returned (.bool false)/\w'=w:=by
 go_enter Tryz.func236,Tryz.ntmps236
 go_wp2;go_ret
 exact ⟨by simp,rfl⟩
def oI (x y:Int):Int:=if x < y then -1 else if y < x then 1 else 0
theorem EK (x y:Int) (w:World):Calls Tryz.prog 241 #[.int .i64 x,.int .i64 y] w fun e w'=>e=.returned (.int .i64 (oI x y))/\w'=w:=by
 have QN:Hid (∀ z Y,Calls Tryz.prog 236 #[.int .i64 z] Y fun e w'=>e=.returned (.bool false)/\w'=Y):=KM
 unfold oI;by_cases h:x < y
 ·rw [if_pos h];go_enter Tryz.func241,Tryz.ntmps241
  go_wp2_with (go_at_call 236;refine (QN.out _ _).mono ?_;rintro e7 w7 ⟨rfl,rfl⟩;simp only [])
  go_ret
  exact ⟨rfl,rfl⟩
 ·rw [if_neg h];by_cases h2:y < x
  ·rw [if_pos h2];go_enter Tryz.func241,Tryz.ntmps241
   go_wp2_with (go_at_call 236;refine (QN.out _ _).mono ?_;rintro e7 w7 ⟨rfl,rfl⟩;simp only [])
   go_ret
   exact ⟨rfl,rfl⟩
  ·rw [if_neg h2];go_enter Tryz.func241,Tryz.ntmps241
   go_wp2_with (go_at_call 236;refine (QN.out _ _).mono ?_;rintro e7 w7 ⟨rfl,rfl⟩;simp only [])
   go_ret
   exact ⟨rfl,rfl⟩
def OrRel (x y z:Int) (w:World) (s8:Value) (wr:World):Prop:=∃ i:Nat,s8=.int .i64 ((i:Nat):Int)/\i <= 3/\(0 < i->x=0)/\(1 < i->y=0)/\(2 < i->z=0)/\wr=w
def NB (x y z:Int):Int:=if x=0 then if y=0 then z else y else x
theorem V7 (x y z:Int) (g:Nat) (w:World) (h0:w.cell? ⟨g,0,none⟩=some (.int .i64 x)) (h1:w.cell? ⟨g,1,none⟩=some (.int .i64 y)) (h2:w.cell? ⟨g,2,none⟩=some (.int .i64 z)):
  Calls Tryz.prog 240 #[.slice (some ⟨g,0,none⟩) 3 3] w fun e w'=>e=.returned (.int .i64 (NB x y z))/\w'=w:=by
 go_enter Tryz.func240,Tryz.ntmps240
 go_wp2_with fail
 go_loopw [5,8] (fun _ s8 wr=>OrRel x y z w s8 wr) (fun _ s8 _=>3 - (intOf s8).toNat)
 case atStart=>exact ⟨0,rfl,by omega,by omega,by omega,by omega,rfl⟩
 case round=>
  obtain ⟨i,rfl,hi,a0,a1,a2,rfl⟩:=hrel
  rcases (show i=0\/i=1\/i=2\/i=3 by omega) with rfl | rfl | rfl | rfl
  ·clear h1 h2 a0 a1 a2;by_cases hx:x=0
   ·subst hx;go_wp2;go_roundw
    case rel=>exact ⟨1,rfl,by omega,fun _=>rfl,by omega,by omega,rfl⟩
    case measure=>simp [intOf]
   ·have hb:((x != 0)=true):=by simpa using hx
    go_wp2;go_ret
    exact ⟨by unfold NB;rw [if_neg hx];rfl,rfl⟩
  ·have hx:=a0 (by omega)
   subst hx;clear h0 h2 a0 a1 a2;by_cases hx:y=0
   ·subst hx;go_wp2;go_roundw
    case rel=>exact ⟨2,rfl,by omega,fun _=>rfl,fun _=>rfl,by omega,rfl⟩
    case measure=>simp [intOf]
   ·have hb:((y != 0)=true):=by simpa using hx
    go_wp2;go_ret
    exact ⟨by unfold NB;rw [if_pos rfl,if_neg hx];rfl,rfl⟩
  ·have hx:=a0 (by omega)
   have hy:=a1 (by omega)
   subst hx hy;clear h0 h1 a0 a1 a2;by_cases hx:z=0
   ·subst hx;go_wp2;go_roundw
    case rel=>exact ⟨3,rfl,by omega,fun _=>rfl,fun _=>rfl,fun _=>rfl,rfl⟩
    case measure=>simp [intOf]
   ·have hb:((z != 0)=true):=by simpa using hx
    go_wp2;go_ret
    exact ⟨by unfold NB;rw [if_pos rfl,if_pos rfl];rfl,rfl⟩
  ·have hx:=a0 (by omega)
   have hy:=a1 (by omega)
   have hz:=a2 (by omega)
   subst hx hy hz;clear h0 h1 h2 a0 a1 a2;go_wp2;go_ret;exact ⟨by unfold NB;rw [if_pos rfl,if_pos rfl];rfl,rfl⟩
theorem YN (x y z:Int) (w:World):Calls Tryz.prog 240 #[.slice (some ⟨w.heap.size,0,none⟩) 3 3] (w.alloc (.cells #[.int .i64 x,.int .i64 y,.int .i64 z] 3 (0,0))).drew fun e w'=>e=.returned (.int .i64 (NB x y z))/\w'=(w.alloc (.cells #[.int .i64 x,.int .i64 y,.int .i64 z] 3 (0,0))).drew:=by
 obtain ⟨W,hW⟩:∃ W,W=(w.alloc (.cells #[.int .i64 x,.int .i64 y,.int .i64 z] 3 (0,0))).drew:=⟨_,rfl⟩;have hb:W.heap[w.heap.size]? = some (.cells #[.int .i64 x,.int .i64 y,.int .i64 z] 3 (0,0)):=by rw [hW];exact heap_alloc_new w _
 rw [<- hW];clear hW;generalize w.heap.size=g at *
 exact V7 x y z g W (by simp only [World.cell?,hb];rfl) (by simp only [World.cell?,hb];rfl) (by simp only [World.cell?,hb];rfl)
variable {Z:Nat->Prop} {sb K n:Nat} {w:World} {f V:Nat->Value} {X:Nat->List Value} {cs:List Rec}
theorem uU {i j:Nat} (h:aQ Z sb w K f V X) (h0:X 0=ints (enc cs)) (hi:i < cs.length) (hj:j < cs.length) (hN:(enc cs).length <= 1099511627776):
  Calls Tryz.prog 223 #[.pointer (some ⟨sb,0,none⟩),.int .i64 (aj cs i:Nat),.int .i64 (aj cs j:Nat)] w fun e w'=>e=.returned (.int .i64 (NB (oI (cs[i]).busy (cs[j]).busy) (oI (cs[j]).lits.length (cs[i]).lits.length) (oI (aj cs i) (aj cs j))))/\Below w.heap.size w w':=by
 have QC:=hide (EK);have QB:Hid (∀ k,∀ hk:k < cs.length,∀ Y:World,Y.heap=w.heap->Calls Tryz.prog 242 #[.pointer (some ⟨sb,2,none⟩),.int .i64 (aj cs k:Nat)] Y fun e w'=>e=.returned (.int .i64 ((cs[k]).busy))/\w'=Y):=fun k hk Y hY=>by
  obtain ⟨g,c,e0,q0,Ef,lg,ng,zg,r0,r1,r2,-,-⟩:=bV h h0 hk;have hend:=bA hk;exact PT sb 2 g (enc cs).length c (aj cs k) _ Y (by rw [show Y.cell? ⟨sb,2,none⟩=w.cell? ⟨sb,2,none⟩ from bG hY _];exact q0) (by omega) (by unfold maxLen;omega) (by rw [show Y.cell? ⟨g,aj cs k + 2,none⟩=w.cell? ⟨g,aj cs k + 2,none⟩ from bG hY _];exact r2)
 have QS:Hid (∀ k,∀ hk:k < cs.length,∀ Y:World,Y.heap=w.heap->Calls Tryz.prog 220 #[.pointer (some ⟨sb,2,none⟩),.int .i64 (aj cs k:Nat)] Y fun e w'=>e=.returned (.int .i64 ((cs[k]).lits.length:Nat))/\w'=Y):=fun k hk Y hY=>by
  obtain ⟨g,c,e0,q0,Ef,lg,ng,zg,r0,r1,r2,-,-⟩:=bV h h0 hk;have hend:=bA hk;exact gZ sb 2 g (enc cs).length c (aj cs k) _ Y (by rw [show Y.cell? ⟨sb,2,none⟩=w.cell? ⟨sb,2,none⟩ from bG hY _];exact q0) (by omega) (by unfold maxLen;omega) (by rw [show Y.cell? ⟨g,aj cs k,none⟩=w.cell? ⟨g,aj cs k,none⟩ from bG hY _];exact r0)
 obtain ⟨BZ,hBZ⟩:∃ BZ:Nat->Int->Prop,BZ=fun a b=>∃ k,∃ hk:k < cs.length,a=aj cs k/\b=(cs[k]).busy:=⟨_,rfl⟩
 obtain ⟨SZ,hSZ⟩:∃ SZ:Nat->Nat->Prop,SZ=fun a b=>∃ k,∃ hk:k < cs.length,a=aj cs k/\b=(cs[k]).lits.length:=⟨_,rfl⟩
 have B1:BZ (aj cs i) (cs[i]).busy:=by rw [hBZ];exact ⟨i,hi,rfl,rfl⟩
 have B2:BZ (aj cs j) (cs[j]).busy:=by rw [hBZ];exact ⟨j,hj,rfl,rfl⟩
 have S1:SZ (aj cs i) (cs[i]).lits.length:=by rw [hSZ];exact ⟨i,hi,rfl,rfl⟩
 have S2:SZ (aj cs j) (cs[j]).lits.length:=by rw [hSZ];exact ⟨j,hj,rfl,rfl⟩
 have RB:Hid (∀ (a:Nat) (b:Int),BZ a b->∀ Y:World,Y.heap=w.heap->Calls Tryz.prog 242 #[.pointer (some ⟨sb,2,none⟩),.int .i64 (a:Nat)] Y fun e w'=>e=.returned (.int .i64 b)/\w'=Y):=fun a b hab Y hY=>by
  rw [hBZ] at hab;obtain ⟨k,hk,rfl,rfl⟩:=hab;exact QB.out k hk Y hY
 have RS:Hid (∀ (a b:Nat),SZ a b->∀ Y:World,Y.heap=w.heap->Calls Tryz.prog 220 #[.pointer (some ⟨sb,2,none⟩),.int .i64 (a:Nat)] Y fun e w'=>e=.returned (.int .i64 (b:Nat))/\w'=Y):=fun a b hab Y hY=>by
  rw [hSZ] at hab;obtain ⟨k,hk,rfl,rfl⟩:=hab;exact QS.out k hk Y hY
 clear QB QS h h0 hBZ hSZ;generalize (cs[i]).busy=b1 at *
 generalize (cs[j]).busy=b2 at *
 generalize (cs[i]).lits.length=l1 at *
 generalize (cs[j]).lits.length=l2 at *
 generalize aj cs i=a1 at *
 generalize aj cs j=a2 at *
 have QO:=hide (fun x y z=>YN x y z w)
 go_enter Tryz.func223,Tryz.ntmps223
 go_upto_region 1 with fail
 go_region_with (first | (go_at_call 242;refine (RB.out _ _ (by assumption) _ (by rfl)).mono ?_;rintro e7 w7 ⟨rfl,rfl⟩;simp only []) | (go_at_call 220;refine (RS.out _ _ (by assumption) _ (by rfl)).mono ?_;rintro e7 w7 ⟨rfl,rfl⟩;simp only []) | (go_at_call 241;refine (QC.out _ _ _).mono ?_;rintro e7 w7 ⟨rfl,rfl⟩;simp only []) | (go_at_call 240;refine (QO.out _ _ _).mono ?_;rintro e7 w7 ⟨rfl,rfl⟩;simp only []))
 all_goals
  go_wp2;go_ret
  exact ⟨rfl,((Below.refl _ w).alloc (Nat.le_refl _) _).drew⟩
end
end So
end Go.Proofs.YtceahffmenbibaaGreatDoor
namespace Go.Proofs.YtceahffmenbibaaGreatDoor
namespace So
open Go Go.RowKit Go.Deep Rd
namespace Qs
open Df
structure Pm (g:Nat) (post:List Value) (aY:List Nat) (w0:World) (xs:List Nat) (W:World):Prop where
 lie:uX g [] post xs W
 perm:xs.Perm aY
 bD:aC (fun k=>k=g) w0 W
def iY (sb g:Nat) (post:List Value) (aY:List Nat) (w0:World) (cf:Nat->Nat->Int):Prop:=∀ W ys,Pm g post aY w0 ys W->∀ x ∈ aY,∀ y ∈ aY,Calls Tryz.prog 223 #[.pointer (some ⟨sb,0,none⟩),.int .i64 (x:Nat),.int .i64 (y:Nat)] W fun e w'=>e=.returned (.int .i64 (cf x y))/\Below W.heap.size W w'
variable {sb g:Nat} {post:List Value} {aY xs:List Nat} {w0 W W':World}
theorem Pm.len (h:Pm g post aY w0 xs W):xs.length=aY.length:=h.perm.length_eq
theorem Pm.cell (h:Pm g post aY w0 xs W) {i:Nat} (hi:i < xs.length):W.cell? ⟨g,i,none⟩=some (.int .i64 (xs[i]:Nat))/\W.frozen? ⟨g,i,none⟩=false:=by
 have:=h.lie.cell hi;simpa using this
theorem Pm.mem (h:Pm g post aY w0 xs W) {i:Nat} (hi:i < xs.length):xs[i] ∈ aY:=h.perm.mem_iff.1 (List.getElem_mem hi)
theorem Pm.lt (h:Pm g post aY w0 xs W):g < W.heap.size:=by
 have:=h.lie;unfold uX at this;exact (Array.getElem?_eq_some_iff.1 this).1
theorem Pm.below (h:Pm g post aY w0 xs W) (hb:Below W.heap.size W W'):Pm g post aY w0 xs W' where
 lie:=by
  have:=h.lie;unfold uX at this ⊢;rw [hb.block g h.lt];exact this
 perm:=h.perm
 bD:=h.bD.trans (aC.of_below hb)
theorem J6 {l:List Nat} {i j:Nat} (hi:i < l.length) (hj:j < l.length):((l.set i l[j]).set j l[i]).Perm l:=by
 rw [List.perm_iff_count];intro a;by_cases e:i=j
 ·subst e;rw [List.set_set,List.set_getElem_self]
 ·rw [List.count_set (by simpa using hj),List.count_set hi,List.getElem_set_ne e]
  have h1:0 < l.count l[i]:=List.count_pos_iff.2 (List.getElem_mem hi);have h2:0 < l.count l[j]:=List.count_pos_iff.2 (List.getElem_mem hj);by_cases e1:l[i]=a
  ·by_cases e2:l[j]=a
   ·simp [e1,e2];rw [e1] at h1;omega
   ·simp [e1,e2];rw [e1] at h1;omega
  ·by_cases e2:l[j]=a
   ·simp [e1,e2]
   ·simp [e1,e2]
theorem Pm.swap (h:Pm g post aY w0 xs W) {i j:Nat} (hi:i < xs.length) (hj:j < xs.length):Pm g post aY w0 ((xs.set i xs[j]).set j xs[i]) ((W.setCell ⟨g,i,none⟩ (.int .i64 (xs[j]:Nat))).setCell ⟨g,j,none⟩ (.int .i64 (xs[i]:Nat))) where
 lie:=by
  have h1:=h.lie.set hi xs[j];have h2:=h1.set (j:=j) (by simpa using hj) xs[i]
  simpa using h2
 perm:=(J6 hi hj).trans h.perm
 bD:=(h.bD.setCell rfl _).setCell rfl _
structure dZ (w:World) where
 W:World
 h:Below w.heap.size w W
theorem ay {P:Program} {id:Nat} {Q:Exit->Act->World->Prop} {a:Act} {w:World} {l:List Oper} (hm:P.follows .mixedOrders=true) (hB:Region.lexB .any l.toArray=true)
  (h:wpQuiet P l.toArray (fun w'=>∃ p:dZ w,w'=p.W) (fun a'=>∀ w',(∃ p:dZ w,w'=p.W)->Q .normal a' w') l a):(Code.region id l.toArray true).wp P Q a w:=
 wp_region_quiet (C:=fun w'=>∃ p:dZ w,w'=p.W) hm hB ⟨⟨w.drew,(Below.refl _ _).drew⟩,rfl⟩ (by simpa using h)
theorem dZ.cell {w:World} {a:Addr} {v:Value} (h:w.cell? a=some v) (p:dZ w):p.W.cell? a=some v:=by
 rw [p.h.cell (p:=a) (block_lt_of_cell h)];exact h
theorem iY.at {sb g:Nat} {post:List Value} {aY:List Nat} {w0 w:World} {cf:Nat->Nat->Int} (C:iY sb g post aY w0 cf) {xs:List Nat} (h:Pm g post aY w0 xs w) {x y:Nat} (hx:x ∈ aY) (hy:y ∈ aY) (p:dZ w):
  Calls Tryz.prog 223 #[.pointer (some ⟨sb,0,none⟩),.int .i64 (x:Nat),.int .i64 (y:Nat)] p.W fun e w'=>e=.returned (.int .i64 (cf x y))/\∃ q:dZ w,w'=q.W:=
 (C p.W xs (h.below p.h) x hx y hy).mono fun e w' ⟨h1,h2⟩=>⟨h1,⟨w',p.h.trans (h2.mono p.h.size)⟩,rfl⟩
end Qs
end So
end Go.Proofs.YtceahffmenbibaaGreatDoor
namespace Go.Proofs.YtceahffmenbibaaGreatDoor
namespace So
open Go Go.RowKit Go.Deep Rd
namespace Qs
variable {sb g cap m:Nat} {post:List Value} {aY xs:List Nat} {w0 w:World} {cf:Nat->Nat->Int}
def jh (g:Nat) (post:List Value) (aY:List Nat) (w0:World) (e:Ending) (w':World):Prop:=e=.returned (.tuple #[])/\∃ xs',Pm g post aY w0 xs' w'
theorem yD (C:iY sb g post aY w0 cf) (h:Pm g post aY w0 xs w) (hm:aY.length=m) (hm2:m <= 1099511627776) {a b:Nat} (hab:a <= b) (hb:b <= m):
  Calls Tryz.prog 246 #[.slice (some ⟨g,0,none⟩) m cap,.int .i64 (a:Nat),.int .i64 (b:Nat),.func (.func 223) #[.pointer (some ⟨sb,0,none⟩)] #[]] w fun e w'=>jh g post aY w0 e w':=by
 have HC:=hide C;have S0:=hide h;clear C h;go_enter Tryz.func246,Tryz.ntmps246
 go_wp2;go_loopw [8] (fun iv wr=>∃ (i:Nat) (xs:List Nat),iv=.int .i64 (i:Nat)/\a < i/\i <= b + 1/\Hid (Pm g post aY w0 xs wr)) (fun iv _=>b - (intOf iv).toNat)
 case atStart=>exact ⟨a + 1,xs,by go_num,by omega,by omega,S0⟩
 case round=>
  clear S0;obtain ⟨i,ys,rfl,hai,hib,hst⟩:=hrel;by_cases hlt:i < b
  ·have WM:(i:Int) < (b:Int):=by omega
   go_wp2;go_loopw [9] (fun jv wr=>∃ (j:Nat) (xs:List Nat),jv=.int .i64 (j:Nat)/\a <= j/\j <= i/\Hid (Pm g post aY w0 xs wr)) (fun jv _=>(intOf jv).toNat)
   case atStart=>exact ⟨i,ys,rfl,by omega,Nat.le_refl _,hst⟩
   case round=>
    clear hst;obtain ⟨j,zs,rfl,haj,hji,hst⟩:=hrel;by_cases hgt:a < j
    ·have hd:decide ((a:Int) < (j:Int))=true:=by simp;omega
     have hl:=hst.out.len;have hjl:j < zs.length:=by omega
     obtain ⟨c1,f1⟩:=hst.out.cell hjl;have Ub:j - 1 < zs.length:=by omega
     obtain ⟨c2,f2⟩:=hst.out.cell Ub;have QC:=hide (fun p:dZ wr=>HC.out.at hst.out (hst.out.mem hjl) (hst.out.mem Ub) p)
     have k1:=dZ.cell c1;have k2:=dZ.cell c2;have i2:IntKind.i64.wrap ((j:Int) - 1)=((j - 1:Nat):Int):=by rw [IntKind.wrap_i64];omega
     have i3:j - 1 < m:=by omega
     have i4:j < m:=by omega
     go_upto_region 4 with fail
     have ne:Nonempty (dZ wr):=⟨⟨wr,Below.refl _ _⟩⟩;refine ay (by kernel_rfl) (by kernel_rfl) ?_
     repeat (go_big_quiet_step ((go_at_call 223;exact QC.out _)))
     refine wpQuiet_nil ?_;rintro _ ⟨p,rfl⟩;have H:=hide (hst.out.below p.h);clear hst k1 k2 c1 c2 f1 f2 QC ne;generalize p.W=wn at *
     obtain ⟨c1,f1⟩:=H.out.cell hjl;obtain ⟨c2,f2⟩:=H.out.cell Ub;have H2:=hide (H.out.swap hjl Ub);generalize zs[j]=x at *
     generalize zs[j - 1]=y at *
     obtain ⟨z,hz⟩:∃ z,z=cf x y:=⟨_,rfl⟩;rw [<- hz];clear hz;by_cases hz0:z < 0
     ·have hne:¬ j=j - 1:=by omega
      have hne2:¬ j - 1=j:=by omega
      go_upto_region 6 with fail
      go_region_with fail
      all_goals
       have H3:=hide (H2.out.below (Below.refl _ _).drew);clear H H2;go_wp2;go_roundw
       case rel=>exact ⟨j - 1,_,by go_num,by omega,by omega,H3⟩
       case measure=>simp [intOf];omega
     ·go_wp2;go_roundw
      case rel=>exact ⟨i + 1,zs,by go_num,by omega,by omega,H⟩
      case measure=>simp [intOf];omega
    ·have hd:decide ((a:Int) < (j:Int))=false:=by simp;omega
     go_upto_region 4 with fail
     have ne:Nonempty (dZ wr):=⟨⟨wr,Below.refl _ _⟩⟩;refine ay (by kernel_rfl) (by kernel_rfl) ?_
     repeat (go_big_quiet_step (fail))
     refine wpQuiet_nil ?_;rintro _ ⟨p,rfl⟩;have H:=hide (hst.out.below p.h);clear hst;generalize p.W=wn at *
     go_wp2;go_roundw
     case rel=>exact ⟨i + 1,zs,by go_num,by omega,by omega,H⟩
     case measure=>simp [intOf];omega
  ·have WM:¬ (i:Int) < (b:Int):=by omega
   go_wp2;go_end0
   exact ⟨rfl,_,hst.out⟩
end Qs
end So
end Go.Proofs.YtceahffmenbibaaGreatDoor
namespace Go.Proofs.YtceahffmenbibaaGreatDoor
namespace So
open Go Go.RowKit Go.Deep Rd
namespace Qs
variable {sb g cap m:Nat} {post:List Value} {aY xs:List Nat} {w0 w:World} {cf:Nat->Nat->Int}
theorem qV (C:iY sb g post aY w0 cf) (h:Pm g post aY w0 xs w) (hm:aY.length=m) (hm2:m <= 1099511627776) {lo hi first:Nat} (hlo:lo <= m) (hf:first + hi <= m):
  Calls Tryz.prog 254 #[.slice (some ⟨g,0,none⟩) m cap,.int .i64 (lo:Nat),.int .i64 (hi:Nat),.int .i64 (first:Nat),.func (.func 223) #[.pointer (some ⟨sb,0,none⟩)] #[]] w fun e w'=>jh g post aY w0 e w':=by
 have HC:=hide C;have S0:=hide h;clear C h;go_enter Tryz.func254,Tryz.ntmps254
 go_wp2;go_loopw [10,11] (fun rv cv wr=>∃ (r:Nat) (xs:List Nat),rv=.int .i64 (r:Nat)/\r <= m/\Hid (Pm g post aY w0 xs wr)) (fun rv _ _=>hi - (intOf rv).toNat)
 case atStart=>exact ⟨lo,xs,rfl,hlo,S0⟩
 case round=>
  clear S0;obtain ⟨r,zs,rfl,hrm,hst⟩:=hrel;have hl:=hst.out.len;by_cases hlt:2 * r + 1 < hi
  ·obtain ⟨c,hc⟩:∃ c,c=2 * r + 1:=⟨_,rfl⟩;have hcr:2 * (r:Int) + 1=(c:Int):=by omega
   have hci:¬ (hi:Int) <= 2 * (r:Int) + 1:=by omega
   have hch:c < hi:=by omega
   have hrc:r < c:=by omega
   clear hc hlt;obtain ⟨d,hd1⟩:∃ d,d=c + 1:=⟨_,rfl⟩;have hd2:(c:Int) + 1=(d:Int):=by omega
   have hrd:r < d:=by omega
   clear hd1;by_cases hn:d < hi
   ·have hd:decide ((d:Int) < (hi:Int))=true:=by simp;omega
    obtain ⟨ja,hja⟩:∃ ja,ja=first + c:=⟨_,rfl⟩
    have U0:(first:Int) + (c:Int)=(ja:Int):=by omega
    obtain ⟨jb,hjb⟩:∃ jb,jb=ja + 1:=⟨_,rfl⟩;have KT:(ja:Int) + 1=(jb:Int):=by omega
    have jx:ja < zs.length:=by omega
    have jy:jb < zs.length:=by omega
    have l1:ja < m:=by omega
    have l2:jb < m:=by omega
    clear hja hjb;obtain ⟨c1,f1⟩:=hst.out.cell jx;obtain ⟨c2,f2⟩:=hst.out.cell jy;have QC:=hide (fun p:dZ wr=>HC.out.at hst.out (hst.out.mem jx) (hst.out.mem jy) p)
    have k1:=dZ.cell c1;have k2:=dZ.cell c2;go_upto_region 3 with fail
    have ne:Nonempty (dZ wr):=⟨⟨wr,Below.refl _ _⟩⟩;refine ay (by kernel_rfl) (by kernel_rfl) ?_
    repeat (go_big_quiet_step ((go_at_call 223;exact QC.out _)))
    refine wpQuiet_nil ?_;rintro _ ⟨p,rfl⟩;have H:=hide (hst.out.below p.h);clear hst k1 k2 c1 c2 f1 f2 QC ne;generalize p.W=wr at *
    have hst:=H;clear H;obtain ⟨z,hz⟩:∃ z,z=cf zs[ja] zs[jb]:=⟨_,rfl⟩;rw [<- hz];clear hz;generalize zs[ja]=x;generalize zs[jb]=y;generalize hzb:decide (z < 0)=b;cases b
    ·clear jx jy l1 l2 U0 KT hd hn hd2 hrd;obtain ⟨ja,hja⟩:∃ ja,ja=first + r:=⟨_,rfl⟩
     have U0:(first:Int) + (r:Int)=(ja:Int):=by omega
     obtain ⟨jb,hjb⟩:∃ jb,jb=first + c:=⟨_,rfl⟩
     have KT:(first:Int) + (c:Int)=(jb:Int):=by omega
     have jx:ja < zs.length:=by omega
     have jy:jb < zs.length:=by omega
     have hnn:=hide (show ¬ ja=jb/\¬ jb=ja by omega)
     have l1:ja < m:=by omega
     have l2:jb < m:=by omega
     clear hja hjb;obtain ⟨c1,f1⟩:=hst.out.cell jx;obtain ⟨c2,f2⟩:=hst.out.cell jy;have QC:=hide (fun p:dZ wr=>HC.out.at hst.out (hst.out.mem jx) (hst.out.mem jy) p)
     have k1:=dZ.cell c1;have k2:=dZ.cell c2;go_upto_region 5 with fail
     have ne:Nonempty (dZ wr):=⟨⟨wr,Below.refl _ _⟩⟩;refine ay (by kernel_rfl) (by kernel_rfl) ?_
     repeat (go_big_quiet_step ((go_at_call 223;exact QC.out _)))
     refine wpQuiet_nil ?_;rintro _ ⟨p,rfl⟩;have H:=hide (hst.out.below p.h);clear hst k1 k2 c1 c2 f1 f2 QC ne;generalize p.W=wr at *
     have hst:=H;clear H;obtain ⟨z,hz⟩:∃ z,z=cf zs[ja] zs[jb]:=⟨_,rfl⟩;rw [<- hz];clear hz;generalize zs[ja]=x;generalize zs[jb]=y;generalize hzb:(!decide (z < 0))=b;cases b
     ·obtain ⟨hne,hne2⟩:=hnn.out;have YG:(0:Int) <= (first:Int) + (r:Int):=by omega
      have YF:(first:Int) + (r:Int) < (m:Int):=by omega
      have YE:((first:Int) + (r:Int)).toNat=ja:=by omega
      clear U0;have YD:(0:Int) <= (first:Int) + (c:Int):=by omega
      have YC:(first:Int) + (c:Int) < (m:Int):=by omega
      have YB:((first:Int) + (c:Int)).toNat=jb:=by omega
      clear KT;obtain ⟨c1,f1⟩:=hst.out.cell jx;obtain ⟨c2,f2⟩:=hst.out.cell jy;have H2:=hide (hst.out.swap jx jy);generalize zs[ja]=x at *
      generalize zs[jb]=y at *
      go_upto_region 6 with fail
      go_region
      all_goals
       have H3:=hide (H2.out.below (Below.refl _ _).drew);clear hst H2;go_wp2;go_roundw
       case rel=>exact ⟨c,_,by go_num,by omega,H3⟩
       case measure=>simp [intOf];omega
     ·go_wp2;go_end0
      exact ⟨rfl,_,hst.out⟩
    ·clear jx jy l1 l2 U0 KT;go_upto_region 5 with fail
     clear hd2 hcr hci hch hrc hd;generalize hcd:d=c at *
     clear hcd;obtain ⟨ja,hja⟩:∃ ja,ja=first + r:=⟨_,rfl⟩
     have U0:(first:Int) + (r:Int)=(ja:Int):=by omega
     obtain ⟨jb,hjb⟩:∃ jb,jb=first + c:=⟨_,rfl⟩
     have KT:(first:Int) + (c:Int)=(jb:Int):=by omega
     have jx:ja < zs.length:=by omega
     have jy:jb < zs.length:=by omega
     have hnn:=hide (show ¬ ja=jb/\¬ jb=ja by omega)
     have l1:ja < m:=by omega
     have l2:jb < m:=by omega
     clear hja hjb;obtain ⟨c1,f1⟩:=hst.out.cell jx;obtain ⟨c2,f2⟩:=hst.out.cell jy;have QC:=hide (fun p:dZ wr=>HC.out.at hst.out (hst.out.mem jx) (hst.out.mem jy) p)
     have k1:=dZ.cell c1;have k2:=dZ.cell c2;have ne:Nonempty (dZ wr):=⟨⟨wr,Below.refl _ _⟩⟩;refine ay (by kernel_rfl) (by kernel_rfl) ?_
     repeat (go_big_quiet_step ((go_at_call 223;exact QC.out _)))
     refine wpQuiet_nil ?_;rintro _ ⟨p,rfl⟩;have H:=hide (hst.out.below p.h);clear hst k1 k2 c1 c2 f1 f2 QC ne;generalize p.W=wr at *
     have hst:=H;clear H;obtain ⟨z,hz⟩:∃ z,z=cf zs[ja] zs[jb]:=⟨_,rfl⟩;rw [<- hz];clear hz;generalize zs[ja]=x;generalize zs[jb]=y;generalize hzb:(!decide (z < 0))=b;cases b
     ·obtain ⟨hne,hne2⟩:=hnn.out;have YG:(0:Int) <= (first:Int) + (r:Int):=by omega
      have YF:(first:Int) + (r:Int) < (m:Int):=by omega
      have YE:((first:Int) + (r:Int)).toNat=ja:=by omega
      clear U0;have YD:(0:Int) <= (first:Int) + (c:Int):=by omega
      have YC:(first:Int) + (c:Int) < (m:Int):=by omega
      have YB:((first:Int) + (c:Int)).toNat=jb:=by omega
      clear KT;obtain ⟨c1,f1⟩:=hst.out.cell jx;obtain ⟨c2,f2⟩:=hst.out.cell jy;have H2:=hide (hst.out.swap jx jy);generalize zs[ja]=x at *
      generalize zs[jb]=y at *
      go_upto_region 6 with fail
      go_region
      all_goals
       have H3:=hide (H2.out.below (Below.refl _ _).drew);clear hst H2;go_wp2;go_roundw
       case rel=>exact ⟨c,_,by go_num,by omega,H3⟩
       case measure=>simp [intOf];omega
     ·go_wp2;go_end0
      exact ⟨rfl,_,hst.out⟩
   ·have hd:decide ((d:Int) < (hi:Int))=false:=by simp;omega
    go_upto_region 3 with fail
    have ne:Nonempty (dZ wr):=⟨⟨wr,Below.refl _ _⟩⟩;refine ay (by kernel_rfl) (by kernel_rfl) ?_
    repeat (go_big_quiet_step (fail))
    refine wpQuiet_nil ?_;rintro _ ⟨p,rfl⟩;have H:=hide (hst.out.below p.h);clear hst ne;generalize p.W=wr at *
    have hst:=H;clear H;clear hd hn hd2 hrd;obtain ⟨ja,hja⟩:∃ ja,ja=first + r:=⟨_,rfl⟩
    have U0:(first:Int) + (r:Int)=(ja:Int):=by omega
    obtain ⟨jb,hjb⟩:∃ jb,jb=first + c:=⟨_,rfl⟩
    have KT:(first:Int) + (c:Int)=(jb:Int):=by omega
    have jx:ja < zs.length:=by omega
    have jy:jb < zs.length:=by omega
    have hnn:=hide (show ¬ ja=jb/\¬ jb=ja by omega)
    have l1:ja < m:=by omega
    have l2:jb < m:=by omega
    clear hja hjb;obtain ⟨c1,f1⟩:=hst.out.cell jx;obtain ⟨c2,f2⟩:=hst.out.cell jy;have QC:=hide (fun p:dZ wr=>HC.out.at hst.out (hst.out.mem jx) (hst.out.mem jy) p)
    have k1:=dZ.cell c1;have k2:=dZ.cell c2;go_upto_region 5 with fail
    have ne:Nonempty (dZ wr):=⟨⟨wr,Below.refl _ _⟩⟩;refine ay (by kernel_rfl) (by kernel_rfl) ?_
    repeat (go_big_quiet_step ((go_at_call 223;exact QC.out _)))
    refine wpQuiet_nil ?_;rintro _ ⟨p,rfl⟩;have H:=hide (hst.out.below p.h);clear hst k1 k2 c1 c2 f1 f2 QC ne;generalize p.W=wr at *
    have hst:=H;clear H;obtain ⟨z,hz⟩:∃ z,z=cf zs[ja] zs[jb]:=⟨_,rfl⟩;rw [<- hz];clear hz;generalize zs[ja]=x;generalize zs[jb]=y;generalize hzb:(!decide (z < 0))=b;cases b
    ·obtain ⟨hne,hne2⟩:=hnn.out;have YG:(0:Int) <= (first:Int) + (r:Int):=by omega
     have YF:(first:Int) + (r:Int) < (m:Int):=by omega
     have YE:((first:Int) + (r:Int)).toNat=ja:=by omega
     clear U0;have YD:(0:Int) <= (first:Int) + (c:Int):=by omega
     have YC:(first:Int) + (c:Int) < (m:Int):=by omega
     have YB:((first:Int) + (c:Int)).toNat=jb:=by omega
     clear KT;obtain ⟨c1,f1⟩:=hst.out.cell jx;obtain ⟨c2,f2⟩:=hst.out.cell jy;have H2:=hide (hst.out.swap jx jy);generalize zs[ja]=x at *
     generalize zs[jb]=y at *
     go_upto_region 6 with fail
     go_region
     all_goals
      have H3:=hide (H2.out.below (Below.refl _ _).drew);clear hst H2;go_wp2;go_roundw
      case rel=>exact ⟨c,_,by go_num,by omega,H3⟩
      case measure=>simp [intOf];omega
    ·go_wp2;go_end0
     exact ⟨rfl,_,hst.out⟩
  ·have hci:(hi:Int) <= 2 * (r:Int) + 1:=by omega
   go_wp2;go_end0
   exact ⟨rfl,_,hst.out⟩
end Qs
end So
end Go.Proofs.YtceahffmenbibaaGreatDoor
namespace Go.Proofs.YtceahffmenbibaaGreatDoor
namespace So
open Go Go.RowKit Go.Deep Rd
namespace Qs
variable {sb g cap m:Nat} {post:List Value} {aY xs:List Nat} {w0 w:World} {cf:Nat->Nat->Int}
theorem Bn (C:iY sb g post aY w0 cf) (h:Pm g post aY w0 xs w) (hm:aY.length=m) (hm2:m <= 1099511627776) {a b:Nat} (hab:a < b) (hb:b <= m):
  Calls Tryz.prog 247 #[.slice (some ⟨g,0,none⟩) m cap,.int .i64 (a:Nat),.int .i64 (b:Nat),.func (.func 223) #[.pointer (some ⟨sb,0,none⟩)] #[]] w fun e w'=>jh g post aY w0 e w':=by
 have HC:=hide C;have S0:=hide h;clear C h;go_enter Tryz.func247,Tryz.ntmps247
 obtain ⟨n,hn⟩:∃ n,n=b - a:=⟨_,rfl⟩;have hbn:(b:Int) - (a:Int)=(n:Int):=by omega
 have hn0:0 < n:=by omega
 have hnm:a + n <= m:=by omega
 clear hn;go_wp2;go_loopw [11] (fun iv wr=>∃ (k:Nat) (xs:List Nat),iv=.int .i64 ((k:Int) - 1)/\k <= n/\Hid (Pm g post aY w0 xs wr)) (fun iv _=>(intOf iv + 1).toNat)
 case atStart=>exact ⟨(n - 1) / 2 + 1,xs,by go_num,by omega,S0⟩
 case round=>
  clear S0;obtain ⟨k,zs,rfl,hkn,hst⟩:=hrel;by_cases hk0:k=0
  ·subst hk0;go_wp2;go_loopw [12] (fun iv wr=>∃ (k:Nat) (xs:List Nat),iv=.int .i64 ((k:Int) - 1)/\k <= n/\Hid (Pm g post aY w0 xs wr)) (fun iv _=>(intOf iv + 1).toNat)
   case atStart=>exact ⟨n,zs,by go_num,Nat.le_refl _,hst⟩
   case round=>
    clear hst;obtain ⟨k,zs,rfl,hkn,hst⟩:=hrel;have hl:=hst.out.len;by_cases hk0:k=0
    ·subst hk0;go_wp2;go_end0;exact ⟨rfl,_,hst.out⟩
    ·obtain ⟨i,rfl⟩:∃ i,k=i + 1:=⟨k - 1,by omega⟩
     have hik:((i + 1:Nat):Int) - 1=(i:Int):=by omega
     rw [hik];clear hik hk0;have QS:Hid (∀ W ys,Pm g post aY w0 ys W->Calls Tryz.prog 254 #[.slice (some ⟨g,0,none⟩) m cap,.int .i64 0,.int .i64 (i:Nat),.int .i64 (a:Nat),.func (.func 223) #[.pointer (some ⟨sb,0,none⟩)] #[]] W fun e w'=>jh g post aY w0 e w'):=fun W ys hy=>qV HC.out hy hm hm2 (lo:=0) (hi:=i) (first:=a) (by omega) (by omega)
     by_cases hi0:i=0
     ·have hia:(a:Int) + (i:Int)=(a:Int):=by omega
      have jx:a < zs.length:=by omega
      have l1:a < m:=by omega
      clear hi0;obtain ⟨c1,f1⟩:=hst.out.cell jx;have H2:=hide (hst.out.swap jx jx);generalize zs[a]=x at *
      go_upto_region 10 with fail
      go_region
      all_goals
       have H3:=hide (H2.out.below (Below.refl _ _).drew);clear hst H2;have Vi:=hide (QS.out _ _ H3.out);clear QS;go_wp2_with (go_at_call 254;(with_reducible refine Vi.out.mono ?_);rintro e7 w7 ⟨rfl,ys,hy⟩;have H7:=hide hy;clear hy Vi;simp only [])
       go_roundw
       case rel=>exact ⟨i,ys,by go_num,by omega,H7⟩
       case measure=>simp [intOf]
     ·have jx:a < zs.length:=by omega
      obtain ⟨jb,hjb⟩:∃ jb,jb=a + i:=⟨_,rfl⟩;have KT:(a:Int) + (i:Int)=(jb:Int):=by omega
      have jy:jb < zs.length:=by omega
      have hne:¬ a=jb:=by omega
      have hne2:¬ jb=a:=by omega
      have l1:a < m:=by omega
      have l2:jb < m:=by omega
      clear hjb;obtain ⟨c1,f1⟩:=hst.out.cell jx;obtain ⟨c2,f2⟩:=hst.out.cell jy;have H2:=hide (hst.out.swap jx jy);generalize zs[a]=x at *
      generalize zs[jb]=y at *
      go_upto_region 10 with fail
      go_region
      all_goals
       have H3:=hide (H2.out.below (Below.refl _ _).drew);clear hst H2;have Vi:=hide (QS.out _ _ H3.out);clear QS;go_wp2_with (go_at_call 254;(with_reducible refine Vi.out.mono ?_);rintro e7 w7 ⟨rfl,ys,hy⟩;have H7:=hide hy;clear hy Vi;simp only [])
       go_roundw
       case rel=>exact ⟨i,ys,by go_num,by omega,H7⟩
       case measure=>simp [intOf]
  ·obtain ⟨i,rfl⟩:∃ i,k=i + 1:=⟨k - 1,by omega⟩
   have hik:((i + 1:Nat):Int) - 1=(i:Int):=by omega
   rw [hik];clear hik hk0;have Vi:=hide (qV (cap:=cap) HC.out hst.out hm hm2 (lo:=i) (hi:=n) (first:=a) (by omega) (by omega))
   clear hst;go_wp2_with (go_at_call 254;(with_reducible refine Vi.out.mono ?_);rintro e7 w7 ⟨rfl,ys,hy⟩;have H7:=hide hy;clear hy Vi;simp only [])
   go_roundw
   case rel=>exact ⟨i,ys,by go_num,by omega,H7⟩
   case measure=>simp [intOf]
theorem CK (C:iY sb g post aY w0 cf) (h:Pm g post aY w0 xs w) (hm:aY.length=m) (hm2:m <= 1099511627776) {a b:Nat} (hab:a < b) (hb:b <= m):
  Calls Tryz.prog 250 #[.slice (some ⟨g,0,none⟩) m cap,.int .i64 (a:Nat),.int .i64 (b:Nat),.func (.func 223) #[.pointer (some ⟨sb,0,none⟩)] #[]] w fun e w'=>jh g post aY w0 e w':=by
 have HC:=hide C;have S0:=hide h;clear C h;go_enter Tryz.func250,Tryz.ntmps250
 go_wp2;go_loopw [8,9] (fun iv jv wr=>∃ (i j:Nat) (xs:List Nat),iv=.int .i64 (i:Nat)/\jv=.int .i64 (j:Nat)/\j < m/\Hid (Pm g post aY w0 xs wr)) (fun _ jv _=>(intOf jv).toNat)
 case atStart=>exact ⟨a,b - 1,xs,rfl,by go_num,by omega,S0⟩
 case round=>
  clear S0;obtain ⟨i,j,zs,rfl,rfl,hjm,hst⟩:=hrel;have hl:=hst.out.len;by_cases hlt:i < j
  ·have WM:(i:Int) < (j:Int):=by omega
   have jx:i < zs.length:=by omega
   have jy:j < zs.length:=by omega
   have l1:i < m:=by omega
   have hne:¬ i=j:=by omega
   have hne2:¬ j=i:=by omega
   obtain ⟨c1,f1⟩:=hst.out.cell jx;obtain ⟨c2,f2⟩:=hst.out.cell jy;have H2:=hide (hst.out.swap jx jy);generalize zs[i]=x at *
   generalize zs[j]=y at *
   go_upto_region 3 with fail
   go_region
   all_goals
    have H3:=hide (H2.out.below (Below.refl _ _).drew);clear hst H2;go_wp2;go_roundw
    case rel=>exact ⟨i + 1,j - 1,_,by go_num,by go_num,by omega,H3⟩
    case measure=>simp [intOf];omega
  ·have WM:¬ (i:Int) < (j:Int):=by omega
   go_wp2;go_end0
   exact ⟨rfl,_,hst.out⟩
end Qs
end So
end Go.Proofs.YtceahffmenbibaaGreatDoor
namespace Go.Proofs.YtceahffmenbibaaGreatDoor
namespace So
open Go Go.RowKit Go.Deep Rd
namespace Qs
variable {sb g cap m:Nat} {post:List Value} {aY xs:List Nat} {w0 w:World} {cf:Nat->Nat->Int}
structure Ps (g:Nat) (post:List Value) (aY:List Nat) (w0:World) (B n:Nat) (xs:List Nat) (W:World):Prop where
 pm:Pm g post aY w0 xs W
 box:W.rowIs B 3 1 (fun _=>.int .i64 (n:Nat))
 new:w0.heap.size <= B
 ne:B ≠ g
theorem Ps.below {B n:Nat} {W W':World} (h:Ps g post aY w0 B n xs W) (hb:Below W.heap.size W W'):Ps g post aY w0 B n xs W':=
 ⟨h.pm.below hb,h.box.of_block (hb.block _ h.box.lt),h.new,h.ne⟩
theorem Ps.more {B n:Nat} {W:World} (h:Ps g post aY w0 B n xs W) (k:Nat):Ps g post aY w0 B k xs (W.setCell ⟨B,0,none⟩ (.int .i64 (k:Nat))) where
 pm:={
  lie:=by
   have h1:=h.pm.lie;unfold Df.uX at h1 ⊢;rw [Below.heap_setCell _ _ _ _ (fun e=>h.ne e.symm)];exact h1
  perm:=h.pm.perm
  bD:=⟨h.pm.bD.jK.setCell (Nat.zero_le _) _,fun k hk hz=>by
   rw [Below.heap_setCell _ _ _ _ (by have:=h.new;simp only;omega)]
   exact h.pm.bD.block k hk hz⟩ }
 box:=(h.box.set 0 _).congr fun i hi=>by simp;omega
 new:=h.new
 ne:=h.ne
def Ib (g:Nat) (post:List Value) (aY:List Nat) (w0:World) (B n:Nat) (xs:List Nat) (a b:Nat) (e:Ending) (w':World):Prop:=
 ∃ p q n':Nat,e=.returned (.tuple #[.int .i64 (p:Nat),.int .i64 (q:Nat)])/\(p=a/\q=b\/p=b/\q=a)/\n' <= n + 1/\Ps g post aY w0 B n' xs w'
theorem qA (C:iY sb g post aY w0 cf) {B n:Nat} (h:Ps g post aY w0 B n xs w) (hm:aY.length=m) (hm2:m <= 1099511627776) {a b:Nat} (ha:a < m) (hb:b < m) (hn:n <= 1000):
  Calls Tryz.prog 257 #[.slice (some ⟨g,0,none⟩) m cap,.int .i64 (a:Nat),.int .i64 (b:Nat),.pointer (some ⟨B,0,none⟩),.func (.func 223) #[.pointer (some ⟨sb,0,none⟩)] #[]] w fun e w'=>Ib g post aY w0 B n xs a b e w':=by
 have HC:=hide C;have S0:=hide h;clear C h;go_enter Tryz.func257,Tryz.ntmps257
 have hl:=S0.out.pm.len;have jx:b < xs.length:=by omega
 have jy:a < xs.length:=by omega
 obtain ⟨c1,f1⟩:=S0.out.pm.cell jx;obtain ⟨c2,f2⟩:=S0.out.pm.cell jy;have QC:=hide (fun p:dZ w=>HC.out.at S0.out.pm (S0.out.pm.mem jx) (S0.out.pm.mem jy) p)
 have k1:=dZ.cell c1;have k2:=dZ.cell c2;go_upto_region 1 with fail
 have ne:Nonempty (dZ w):=⟨⟨w,Below.refl _ _⟩⟩;refine ay (by kernel_rfl) (by kernel_rfl) ?_
 repeat (go_big_quiet_step ((go_at_call 223;exact QC.out _)))
 refine wpQuiet_nil ?_;rintro _ ⟨p,rfl⟩;have H:=hide (S0.out.below p.h);clear S0 k1 k2 c1 c2 f1 f2 QC ne;generalize p.W=wr at *
 obtain ⟨z,hz⟩:∃ z,z=cf xs[b] xs[a]:=⟨_,rfl⟩;rw [<- hz];clear hz;generalize xs[b]=x;generalize xs[a]=y;generalize hzb:decide (z < 0)=t;cases t
 ·have F:Hid (Ib g post aY w0 B n xs a b (.returned (.tuple #[.int .i64 (a:Nat),.int .i64 (b:Nat)])) wr):=⟨a,b,n,rfl,.inl ⟨rfl,rfl⟩,by omega,H.out⟩
  go_wp2;go_ret2
  exact F.out
 ·have c0:=H.out.box.cell (i:=0) (by omega)
  have f0:=H.out.box.frozen 0;have hn1:(n:Int) + 1=((n + 1:Nat):Int):=by omega
  have F:Hid (Ib g post aY w0 B n xs a b (.returned (.tuple #[.int .i64 (b:Nat),.int .i64 (a:Nat)])) (wr.setCell ⟨B,0,none⟩ (.int .i64 ((n:Int) + 1)))):=⟨b,a,n + 1,rfl,.inr ⟨rfl,rfl⟩,by omega,by rw [hn1];exact H.out.more (n + 1)⟩
  clear hn1 H;go_wp2;go_ret2;exact F.out
def Qr (g:Nat) (post:List Value) (aY:List Nat) (w0:World) (B n k:Nat) (xs:List Nat) (P:Nat->Prop) (e:Ending) (w':World):Prop:=
 ∃ p n':Nat,e=.returned (.int .i64 (p:Nat))/\P p/\n' <= n + k/\Ps g post aY w0 B n' xs w'
theorem qB (C:iY sb g post aY w0 cf) {B n:Nat} (h:Ps g post aY w0 B n xs w) (hm:aY.length=m) (hm2:m <= 1099511627776) {a b c:Nat} (ha:a < m) (hb:b < m) (hc:c < m) (hn:n <= 900):
  Calls Tryz.prog 256 #[.slice (some ⟨g,0,none⟩) m cap,.int .i64 (a:Nat),.int .i64 (b:Nat),.int .i64 (c:Nat),.pointer (some ⟨B,0,none⟩),.func (.func 223) #[.pointer (some ⟨sb,0,none⟩)] #[]] w fun e w'=>Qr g post aY w0 B n 3 xs (fun p=>p=a\/p=b\/p=c) e w':=by
 have HC:=hide C;have S0:=hide h;clear C h;go_enter Tryz.func256,Tryz.ntmps256
 have Q1:=hide (qA (cap:=cap) HC.out S0.out hm hm2 ha hb (by omega))
 clear S0;go_upto_region 2 with (go_at_call 257;(with_reducible refine Q1.out.mono ?_);rintro e1 w1 ⟨p1,q1,n1,rfl,h1,hn1,s1⟩;have S1:=hide s1;clear s1 Q1;simp only [])
 have Q2:=hide (qA (cap:=cap) HC.out S1.out hm hm2 (a:=q1) (b:=c) (by omega) hc (by omega))
 clear S1;go_upto_region 3 with (go_at_call 257;(with_reducible refine Q2.out.mono ?_);rintro e2 w2 ⟨p2,q2,n2,rfl,h2,hn2,s2⟩;have S2:=hide s2;clear s2 Q2;simp only [])
 have Q3:=hide (qA (cap:=cap) HC.out S2.out hm hm2 (a:=p1) (b:=p2) (by omega) (by omega) (by omega))
 clear S2;go_upto_region 4 with (go_at_call 257;(with_reducible refine Q3.out.mono ?_);rintro e3 w3 ⟨p3,q3,n3,rfl,h3,hn3,s3⟩;have S3:=hide s3;clear s3 Q3;simp only [])
 go_wp2;go_ret
 exact ⟨q3,n3,rfl,by omega,by omega,S3.out⟩
theorem gP (C:iY sb g post aY w0 cf) {B n:Nat} (h:Ps g post aY w0 B n xs w) (hm:aY.length=m) (hm2:m <= 1099511627776) {a:Nat} (ha:1 <= a) (hb:a + 1 < m) (hn:n <= 900):
  Calls Tryz.prog 255 #[.slice (some ⟨g,0,none⟩) m cap,.int .i64 (a:Nat),.pointer (some ⟨B,0,none⟩),.func (.func 223) #[.pointer (some ⟨sb,0,none⟩)] #[]] w fun e w'=>Qr g post aY w0 B n 3 xs (fun p=>p + 1=a\/p=a\/p=a + 1) e w':=by
 have HC:=hide C;have S0:=hide h;clear C h;go_enter Tryz.func255,Tryz.ntmps255
 obtain ⟨x,hx⟩:∃ x,x + 1=a:=⟨a - 1,by omega⟩
 obtain ⟨y,hy⟩:∃ y,y=a + 1:=⟨_,rfl⟩;have e1:(a:Int) - 1=(x:Int):=by omega
 have e2:(a:Int) + 1=(y:Int):=by omega
 have Q1:=hide (qB (cap:=cap) HC.out S0.out hm hm2 (a:=x) (b:=a) (c:=y) (by omega) (by omega) (by omega) hn)
 have HX:=hide (And.intro hx hy);clear S0 hx hy;go_wp2_with (go_at_call 256;(with_reducible refine Q1.out.mono ?_);rintro e1 w1 ⟨p1,n1,rfl,h1,hn1,s1⟩;have S1:=hide s1;clear s1 Q1;simp only [])
 go_ret
 exact ⟨p1,n1,rfl,by have:=HX.out;omega,by omega,S1.out⟩
end Qs
end So
end Go.Proofs.YtceahffmenbibaaGreatDoor
namespace Go.Proofs.YtceahffmenbibaaGreatDoor
namespace So
open Go Go.RowKit Go.Deep Rd
namespace Qs
variable {sb g cap m:Nat} {post:List Value} {aY xs:List Nat} {w0 w:World} {cf:Nat->Nat->Int}
def Xu (g:Nat) (post:List Value) (aY:List Nat) (w0:World) (xs:List Nat) (a b:Nat) (e:Ending) (w':World):Prop:=
 ∃ (p:Nat) (t:Int),e=.returned (.tuple #[.int .i64 (p:Nat),.int .i64 t])/\a <= p/\p < b/\Pm g post aY w0 xs w'
theorem VW {W:World} (h:Pm g post aY w0 xs W):Ps g post aY w0 W.heap.size 0 xs (W.alloc (.cells #[.int .i64 0] 3)) where
 pm:=h.below ((Below.refl _ _).alloc (Nat.le_refl _) _)
 box:=World.rowIs_alloc W _ _ _ fun i hi=>by
  obtain rfl:i=0:=by simp at hi;omega
  rfl
 new:=h.bD.size
 ne:=by have:=h.lt;omega
theorem uV (C:iY sb g post aY w0 cf) (h:Pm g post aY w0 xs w) (hm:aY.length=m) (hm2:m <= 1099511627776) {a b:Nat} (hab:a + 12 < b) (hb:b <= m):
  Calls Tryz.prog 249 #[.slice (some ⟨g,0,none⟩) m cap,.int .i64 (a:Nat),.int .i64 (b:Nat),.func (.func 223) #[.pointer (some ⟨sb,0,none⟩)] #[]] w fun e w'=>Xu g post aY w0 xs a b e w':=by
 have HC:=hide C;have S0:=hide h;clear C h;go_enter Tryz.func249,Tryz.ntmps249
 obtain ⟨l,hl⟩:∃ l,l=b - a:=⟨_,rfl⟩;have WM:(b:Int) - (a:Int)=(l:Int):=by omega
 obtain ⟨q,hq⟩:∃ q,q=l / 4:=⟨_,rfl⟩;have hqi:(l:Int) / 4=(q:Int):=by omega
 have hq1:3 <= q:=by omega
 have hq2:a + 4 * q <= b:=by omega
 obtain ⟨i,hi⟩:∃ i,i=a + q:=⟨_,rfl⟩;obtain ⟨j,hj⟩:∃ j,j=a + q * 2:=⟨_,rfl⟩;obtain ⟨k,hk⟩:∃ k,k=a + q * 3:=⟨_,rfl⟩;have ei:(a:Int) + (q:Int)=(i:Int):=by omega
 have ej:(a:Int) + (q:Int) * 2=(j:Int):=by omega
 have ek:(a:Int) + (q:Int) * 3=(k:Int):=by omega
 have hl8:(8:Int) <= (l:Int):=by omega
 have bi:a + 1 <= i/\i + 1 < b:=by omega
 have bj:a + 1 <= j/\j + 1 < b:=by omega
 have bk:a + 1 <= k/\k + 1 < b:=by omega
 have S1:=hide (VW S0.out);have ha0:a <= m:=by omega
 clear hl hq hi hj hk S0;by_cases h50:50 <= l
 ·have WZ:(50:Int) <= (l:Int):=by omega
  go_upto_region 8 with fail
  generalize w.alloc (.cells #[.int .i64 0] 3)=w1 at *
  generalize w.heap.size=B at *
  have Q1:=hide (gP (cap:=cap) HC.out S1.out hm hm2 (a:=i) (by omega) (by omega) (by omega))
  clear S1;go_upto_region 9 with (go_at_call 255;(with_reducible refine Q1.out.mono ?_);rintro e1 w1 ⟨p1,n1,rfl,h1,hn1,s1⟩;have S1:=hide s1;clear s1 Q1;simp only [])
  have Q2:=hide (gP (cap:=cap) HC.out S1.out hm hm2 (a:=j) (by omega) (by omega) (by omega))
  clear S1;go_upto_region 10 with (go_at_call 255;(with_reducible refine Q2.out.mono ?_);rintro e2 w2 ⟨p2,n2,rfl,h2,hn2,s2⟩;have S2:=hide s2;clear s2 Q2;simp only [])
  have Q3:=hide (gP (cap:=cap) HC.out S2.out hm hm2 (a:=k) (by omega) (by omega) (by omega))
  clear S2;go_upto_region 11 with (go_at_call 255;(with_reducible refine Q3.out.mono ?_);rintro e3 w3 ⟨p3,n3,rfl,h3,hn3,s3⟩;have S3:=hide s3;clear s3 Q3;simp only [])
  have Q4:=hide (qB (cap:=cap) HC.out S3.out hm hm2 (a:=p1) (b:=p2) (c:=p3) (by omega) (by omega) (by omega) (by omega))
  clear S3;go_upto_region 12 with (go_at_call 256;(with_reducible refine Q4.out.mono ?_);rintro e4 w4 ⟨p4,n4,rfl,h4,hn4,s4⟩;have S4:=hide s4;clear s4 Q4;simp only [])
  have c0:=S4.out.box.cell (i:=0) (by omega)
  have R:=hide (show Pm g post aY w0 xs w4 from S4.out.pm)
  have hpb:a <= p4/\p4 < b:=by omega
  clear S4;go_wp2
  all_goals go_ret2
  all_goals exact ⟨p4,_,rfl,hpb.1,hpb.2,R.out⟩
 ·have WZ:¬ (50:Int) <= (l:Int):=by omega
  go_upto_region 11 with fail
  generalize w.alloc (.cells #[.int .i64 0] 3)=w1 at *
  generalize w.heap.size=B at *
  have Q4:=hide (qB (cap:=cap) HC.out S1.out hm hm2 (a:=i) (b:=j) (c:=k) (by omega) (by omega) (by omega) (by omega))
  clear S1;go_upto_region 12 with (go_at_call 256;(with_reducible refine Q4.out.mono ?_);rintro e4 w4 ⟨p4,n4,rfl,h4,hn4,s4⟩;have S4:=hide s4;clear s4 Q4;simp only [])
  have c0:=S4.out.box.cell (i:=0) (by omega)
  have R:=hide (show Pm g post aY w0 xs w4 from S4.out.pm)
  have hpb:a <= p4/\p4 < b:=by omega
  clear S4;go_wp2
  all_goals go_ret2
  all_goals exact ⟨p4,_,rfl,hpb.1,hpb.2,R.out⟩
end Qs
end So
end Go.Proofs.YtceahffmenbibaaGreatDoor
