/- Sdfn. -/
import Derived.Test.YtceahffmenbibaaGreatDoorH05
set_option linter.unusedVariables false
set_option linter.unusedSimpArgs false
set_option maxHeartbeats 4000000
set_option maxRecDepth 100000
namespace Go.Proofs.YtceahffmenbibaaGreatDoor
namespace So
open Go Go.RowKit Go.Deep Rd
namespace Df
structure Yl (cb sb g o:Nat) (len:Nat) (P:Nat->Bool) (ys0:List Nat) (Inv:World->Prop):Prop where
 drew:∀ W d,Inv W->Inv (W.drewN d)
 set:∀ W j (u:Nat),j < len->Inv W->Inv (W.setCell ⟨g,o + j,none⟩ (.int .i64 (u:Nat)))
 is:cb=183\/cb=224
 call:∀ W,Inv W->∀ y ∈ ys0,Calls Tryz.prog cb #[.pointer (some ⟨sb,0,none⟩),.int .i64 (y:Nat)] W fun e w'=>lV W (P y) e w'
def xq (g:Nat) (pre post:List Value) (l:List Nat) (W:World):Prop:=W.heap[g]? = some (.cells (pre ++ dw l ++ post).toArray 3 (0,0))
theorem xq.cell {g:Nat} {pre post:List Value} {l:List Nat} {W:World} (a:xq g pre post l W) {i:Nat} (hi:i < l.length):W.cell? ⟨g,pre.length + i,none⟩=some (.int .i64 (l[i]:Nat))/\W.frozen? ⟨g,pre.length + i,none⟩=false:=by
 unfold xq at a;constructor
 ·simp only [World.cell?,a];rw [List.getElem?_toArray,List.append_assoc,List.getElem?_append_right (by omega),Nat.add_sub_cancel_left,List.getElem?_append_left (by rw [cZ];exact hi),iK l i hi];rfl
 ·simp [World.frozen?,a]
theorem xq.drew {g:Nat} {pre post:List Value} {l:List Nat} {W:World} (h:xq g pre post l W) (d:Nat):xq g pre post l (W.drewN d):=h
theorem xq.set {g:Nat} {pre post:List Value} {l:List Nat} {W:World} (a:xq g pre post l W) {j:Nat} (b:j < l.length) (u:Nat):xq g pre post (l.set j u) (W.setCell ⟨g,pre.length + j,none⟩ (.int .i64 (u:Nat))):=by
 unfold xq at a ⊢;rw [setCell_eq_setRow W g (pre.length + j) _ _ (0,0) _ a,setRow_heap W g _ _ _ _ a]
 congr 2
 rw [<- nG];apply Array.toList_inj.1;simp only [Array.toList_setIfInBounds,List.toList_toArray];rw [List.append_assoc,List.append_assoc,List.set_append_right _ _ (by omega),Nat.add_sub_cancel_left,List.set_append_left _ _ (by rw [cZ];exact b)]
def Vl (w:World) (Inv:World->Prop) (P:Nat->Bool) (ys:List Nat) (s:Value) (wr:World):Prop:=
 ∃ i:Nat,s=.int .i64 ((i:Nat):Int)/\i <= ys.length/\Hid ((∀ j (hj:j < ys.length),j < i->P ys[j]=false)/\Inv wr/\∃ d,wr=w.drewN d)
def RJ (w:World) (P:Nat->Bool) (ys:List Nat) (e:Ending) (w':World):Prop:=(∃ d,w'=w.drewN d)/\((e=.returned (.int .i64 (-1))/\∀ y ∈ ys,P y=false)\/∃ i,∃ hi:i < ys.length,e=.returned (.int .i64 ((i:Nat):Int))/\P ys[i]=true/\∀ j (hj:j < ys.length),j < i->P ys[j]=false)
theorem Aj {D sb g cap:Nat} {pre post:List Value} {P:Nat->Bool} {ys:List Nat} {al:Option Addr} {Inv:World->Prop} {w:World} (C:Yl D sb g pre.length ys.length P ys Inv) (m:ys.length ≠ 0->al=some ⟨g,pre.length,none⟩) (z:Inv w) (hL:ys.length ≠ 0->xq g pre post ys w) (S:ys.length <= 1099511627776):
  Calls Tryz.prog 218 #[.slice al ys.length cap,.func (.func D) #[.pointer (some ⟨sb,0,none⟩)] #[]] w fun e J=>RJ w P ys e J:=by
 rcases C.is with rfl | rfl
 all_goals
  have G:=hide C;have x:=hide m;have v:=hide hL;have E:Hid (Inv w/\∃ d,w=w.drewN d):=⟨z,0,rfl⟩;clear C m z hL;go_enter Tryz.func218,Tryz.ntmps218
  go_wp2_with fail
  go_loopw [5,8] (fun _ s wr=>Vl w Inv P ys s wr) (fun _ s _=>ys.length - (intOf s).toNat)
  case atStart=>exact ⟨0,rfl,zl,fun j n h=>absurd h (Nat.not_lt_zero _),E.out⟩
  case round=>
   clear E;obtain ⟨i,rfl,L,a⟩:=hrel;by_cases c:i < ys.length
   ·obtain rfl:=x.out (by omega);obtain ⟨M,f⟩:=a.out.2.2
    have l:=((v.out (by omega)).drew M).cell c |>.1;rw [<- f] at l;have u:=hide (G.out.call wr a.out.2.1 ys[i] (List.getElem_mem _));obtain ⟨y,k⟩:∃ y,y=ys[i]:=⟨_,rfl⟩;rw [<- k] at l u;obtain ⟨b,r⟩:∃ b,b=P y:=⟨_,rfl⟩;rw [<- r] at u;have H:Hid (P ys[i]=b):=by unfold Hid;rw [r,k]
    have I:=hide f;have R:(0:Int) <= (i:Int):=by omega
    have K:(i:Int) < (ys.length:Int):=by omega
    have Q:(i:Int) <= 1099511627776:=by omega
    clear k r f
    go_upto_if 16 with ((first | go_at_call 183 | go_at_call 224);refine u.out.mono ?_;rintro T O ⟨rfl,B,rfl⟩;simp only [])
    cases b with
    | true=>
     have F:Hid (RJ w P ys (.returned (.int .i64 ((i:Nat):Int))) (wr.drewN B)):=⟨⟨_,by rw [I.out,World.drewN_drewN]⟩,.inr ⟨i,c,rfl,H.out,a.out.1⟩⟩;clear a;go_wp2;go_ret;exact F.out
    | false=>
     have N:Hid (∀ o,o=.int .i64 ((i + 1:Nat):Int)->Vl w Inv P ys o (wr.drewN B)):=fun o p=>⟨i + 1,p,c,fun j n q=>by
      rcases Nat.lt_succ_iff_lt_or_eq.1 q with t | t
      ·exact a.out.1 j n t
      ·subst t;exact H.out,G.out.drew _ _ a.out.2.1,_,by rw [I.out,World.drewN_drewN]⟩
     clear a;go_wp2;go_roundw
     case rel=>exact N.out _ (by go_num)
     case measure=>simp [intOf];omega
   ·have F:Hid (RJ w P ys (.returned (.int .i64 (-1))) wr):=⟨a.out.2.2,.inl ⟨rfl,fun y k=>by
     obtain ⟨j,n,rfl⟩:=List.mem_iff_getElem.1 k;exact a.out.1 j n (by omega)⟩⟩
    have K:¬ ((i:Int) < (ys.length:Int)):=by omega
    clear a;go_wp2;go_ret;exact F.out
def qz (P:Nat->Bool) (ys:List Nat):List Nat:=ys.filter fun y=>!P y
theorem yX (P:Nat->Bool) (ys:List Nat) (y:Nat):qz P (ys ++ [y])=qz P ys ++ if P y then [] else [y]:=by
 unfold qz;rw [List.filter_append];cases h:P y <;> simp [h]
theorem Qg {P:Nat->Bool} {ys:List Nat} {i:Nat} (hi:i <= ys.length) (h:∀ j (a:j < ys.length),j < i->P ys[j]=false):qz P (ys.take i)=ys.take i:=by
 unfold qz;rw [List.filter_eq_self];intro y b;obtain ⟨j,a,rfl⟩:=List.mem_iff_getElem.1 b;rw [List.length_take] at a;rw [List.getElem_take,h j (by omega) (by omega)];rfl
def RS (w:World) (g:Nat) (pre post:List Value) (P:Nat->Bool) (ys:List Nat) (al:Option Addr) (cap:Nat) (e:Ending) (w':World):Prop:=
 ∃ l':List Nat,l'.length=ys.length/\l'.take (qz P ys).length=qz P ys/\e=.returned (.slice al (qz P ys).length cap)/\Below 0 w w'/\(∀ k,k ≠ g->w'.heap[k]? = w.heap[k]?)/\(ys.length ≠ 0->xq g pre post l' w')/\(ys.length=0->w'.heap=w.heap)
structure Au (w:World) (Inv:World->Prop) (g:Nat) (pre post:List Value) (P:Nat->Bool) (ys:List Nat) (i j:Nat) (l:List Nat) (wr:World):Prop where
 ij:i < j
 jl:j <= ys.length
 len:l.length=ys.length
 tk:l.take i=qz P (ys.take j)
 dr:l.drop j=ys.drop j
 inv:Inv wr
 lie:xq g pre post l wr
 WU:∀ k,k ≠ g->wr.heap[k]? = w.heap[k]?
 mO:Below 0 w wr
def RU (w:World) (Inv:World->Prop) (g:Nat) (pre post:List Value) (P:Nat->Bool) (ys:List Nat) (s5 s6:Value) (wr:World):Prop:=
 ∃ (i j:Nat) (l:List Nat),s5=.int .i64 ((i:Nat):Int)/\s6=.int .i64 ((j:Nat):Int)/\Hid (Au w Inv g pre post P ys i j l wr)
theorem Au.at' {w wr:World} {Inv:World->Prop} {g:Nat} {pre post:List Value} {P:Nat->Bool} {ys l:List Nat} {i j:Nat} (h:Au w Inv g pre post P ys i j l wr) (c:j < ys.length) (a:j < l.length):l[j]=ys[j]:=by
 have b:=List.drop_eq_getElem_cons a;have d:=List.drop_eq_getElem_cons c;rw [h.dr,d] at b;exact (List.cons.inj b).1.symm
theorem Au.skip {w wr wx:World} {Inv:World->Prop} {g:Nat} {pre post:List Value} {P:Nat->Bool} {ys l:List Nat} {i j d:Nat} (h:Au w Inv g pre post P ys i j l wr) (c:Inv (wr.drewN d)) (a:j < ys.length) (b:P ys[j]=true):Au w Inv g pre post P ys i (j + 1) l (wr.drewN d) where
 ij:=by have:=h.ij;omega
 jl:=a
 len:=h.len
 tk:=by rw [h.tk,List.take_add_one,List.getElem?_eq_getElem a,Option.toList_some,yX,b];simp
 dr:=by rw [<- List.drop_drop,h.dr,List.drop_drop]
 inv:=c
 lie:=h.lie
 WU:=h.WU
 mO:=Go.below_drewN h.mO d
theorem Au.keep {w wr:World} {Inv:World->Prop} {g:Nat} {pre post:List Value} {P:Nat->Bool} {ys l:List Nat} {i j d:Nat} (h:Au w Inv g pre post P ys i j l wr) (m:Inv ((wr.drewN d).setCell ⟨g,pre.length + i,none⟩ (.int .i64 (ys.getD j 0:Nat)))) (b:j < ys.length) (e:P ys[j]=false):Au w Inv g pre post P ys (i + 1) (j + 1) (l.set i (ys.getD j 0)) ((wr.drewN d).setCell ⟨g,pre.length + i,none⟩ (.int .i64 (ys.getD j 0:Nat))):=by
 have a:i < l.length:=by rw [h.len];have:=h.ij;omega
 have f:ys.getD j 0=ys[j]:=by rw [List.getD_eq_getElem?_getD,List.getElem?_eq_getElem b];rfl
 exact {
  ij:=by have:=h.ij;omega
  jl:=b
  len:=by rw [List.length_set];exact h.len
  tk:=by
   rw [List.take_add_one,List.getElem?_set_self a,Option.toList_some,List.take_set_of_le lr,h.tk,f,List.take_add_one,List.getElem?_eq_getElem b,Option.toList_some,yX,e];simp
  dr:=by rw [List.drop_set_of_lt (by have:=h.ij;omega),<- List.drop_drop,h.dr,List.drop_drop]
  inv:=m
  lie:=(h.lie.drew d).set a _
  WU:=fun k c=>(Below.heap_setCell _ _ _ _ c).trans (h.WU k c)
  mO:=(Go.below_drewN h.mO d).setCell zl _ }
theorem QH (pre post:List Value) (l:List Nat) (i k:Nat) (d:i + k=l.length):splice (pre ++ dw l ++ post) (pre.length + i) (List.replicate k (.int .i64 0))=pre ++ dw (l.take i ++ List.replicate k 0) ++ post:=by
 unfold splice;rw [List.length_replicate,List.append_assoc,List.append_assoc];have c:(pre ++ (dw l ++ post)).take (pre.length + i)=pre ++ dw (l.take i):=by
  rw [List.take_append,List.take_of_length_le (by omega),Nat.add_sub_cancel_left,List.take_append_of_le_length (by rw [cZ];omega),mX]
 have b:(pre ++ (dw l ++ post)).drop (pre.length + i + k)=post:=by
  rw [List.drop_append,List.drop_of_length_le (by omega),List.nil_append,List.drop_append,List.drop_of_length_le (by rw [cZ];omega),List.nil_append,cZ,show pre.length + i + k - pre.length - l.length=0 by omega,List.drop_zero]
 have a:dw (List.replicate k 0)=List.replicate k (.int .i64 0):=by unfold dw;rw [List.map_replicate];rfl
 rw [c,b,jr,a,List.append_assoc,List.append_assoc]
theorem qV {cb sb g cap:Nat} {pre post:List Value} {P:Nat->Bool} {ys:List Nat} {al:Option Addr} {Inv:World->Prop} {w:World} (C:Yl cb sb g pre.length ys.length P ys Inv) (r:ys.length ≠ 0->al=some ⟨g,pre.length,none⟩) (S:Inv w) (hL:ys.length ≠ 0->xq g pre post ys w) (hm:ys.length <= 1099511627776) (ad:ys.length <= cap):
  Calls Tryz.prog 184 #[.slice al ys.length cap,.func (.func cb) #[.pointer (some ⟨sb,0,none⟩)] #[]] w fun e w'=>RS w g pre post P ys al cap e w':=by
 rcases C.is with rfl | rfl
 all_goals
  obtain ⟨Q,hi,R,-,-⟩:=info_parts Tryz.fO;have QI:=hide (Aj (cap:=cap) C r S hL hm);have H:=hide C;have ab:=hide r;have G:=hide hL;have HW:=hide S;clear C r S hL;go_enter Tryz.func184,Tryz.ntmps184
  go_upto_region 2 with (go_at_call 218;refine QI.out.mono ?_;rintro e7 w7 ⟨⟨Y,rfl⟩,hr⟩;have HR:=hide hr;rcases hr with ⟨rfl,E⟩ | ⟨i,z,rfl,E,h2⟩ <;> (simp only []))
  ·have s:qz P ys=ys:=by unfold qz;rw [List.filter_eq_self];intro y t;rw [E y t];rfl
   have F:Hid (RS w g pre post P ys al cap (.returned (.slice al ys.length cap)) (w.drewN Y)):=⟨ys,rfl,by rw [s,List.take_length],by rw [s],Go.below_drewN bR _,fun _ _=>rfl,fun h=>G.out h,fun _=>rfl⟩;clear s E HR;go_wp2;go_ret;exact F.out
  ·obtain rfl:=ab.out (by omega);have Z:Hid (Au w Inv g pre post P ys i (i + 1) ys (w.drewN Y)):={
    ij:=by omega
    jl:=z
    len:=rfl
    tk:=by rw [List.take_add_one,List.getElem?_eq_getElem z,Option.toList_some,yX,E,Qg (by omega) h2];simp
    dr:=rfl
    inv:=H.out.drew _ _ HW.out
    lie:=(G.out (by omega)).drew _
    WU:=fun _ _=>rfl
    mO:=Go.below_drewN bR _ }
   have ae:((i:Int) == -1)=false:=by simp
   have ib:(i:Int) + 1 <= 1099511627776:=by omega
   clear E h2 HR QI;obtain ⟨W1,D⟩:∃ W1,W1=w.drewN Y:=⟨_,rfl⟩;rw [<- D] at Z ⊢;clear D;go_wp2_with fail
   go_loopw [5,6,7] (fun s5 N _ wr=>RU w Inv g pre post P ys s5 N wr) (fun _ N _ _=>ys.length - (intOf N).toNat)
   case atStart=>exact ⟨i,i + 1,ys,rfl,by go_num,Z⟩
   case round=>
    clear Z;obtain ⟨c,j,l,rfl,rfl,a⟩:=hrel;have ag:=a.out.ij;have af:=a.out.jl;have V:=a.out.len;by_cases f:j < ys.length
    ·obtain ⟨q,-⟩:=a.out.lie.cell (i:=j) (by omega);rw [a.out.at' f (by omega)] at q;have K:=hide (H.out.call wr a.out.inv ys[j] (List.getElem_mem _));obtain ⟨y,t⟩:∃ y,y=ys[j]:=⟨_,rfl⟩;have u:ys.getD j 0=y:=by rw [t,List.getD_eq_getElem?_getD,List.getElem?_eq_getElem f];rfl
     rw [<- t] at q K;obtain ⟨b,X⟩:∃ b,b=P y:=⟨_,rfl⟩;rw [<- X] at K;have HB:Hid (P ys[j]=b):=by unfold Hid;rw [X,t]
     have aa:=hide u;obtain ⟨B,W⟩:=a.out.lie.cell (i:=c) (by omega);generalize (l[c]'(by omega):Nat)=ac at B;have j0:(0:Int) <= (j:Int):=by omega
     have j1:(j:Int) < (ys.length:Int):=by omega
     have j2:(j:Int) <= 1099511627776:=by omega
     have k0:(0:Int) <= (c:Int):=by omega
     have k1:(c:Int) < (ys.length:Int):=by omega
     have k2:(c:Int) <= 1099511627776:=by omega
     clear t X u V
     cases b with
     | true=>
      have L:Hid (∀ n o,o=.int .i64 ((j + 1:Nat):Int)->RU w Inv g pre post P ys (.int .i64 ((c:Nat):Int)) o (wr.drewN n)):=fun n o p=>⟨c,j + 1,l,rfl,p,a.out.skip (wx:=wr) (H.out.drew _ _ a.out.inv) f HB.out⟩
      clear a
      go_wp2_with ((first | go_at_call 183 | go_at_call 224);refine K.out.mono ?_;rintro e8 w8 ⟨rfl,n,rfl⟩;simp only [])
      go_roundw
      case rel=>exact L.out _ _ (by go_num)
      case measure=>simp [intOf];omega
     | false=>
      go_upto_region 9 with ((first | go_at_call 183 | go_at_call 224);refine K.out.mono ?_;rintro e8 w8 ⟨rfl,n,rfl⟩;simp only [])
      have L:Hid (∀ M o,M=.int .i64 ((c + 1:Nat):Int)->o=.int .i64 ((j + 1:Nat):Int)->RU w Inv g pre post P ys M o ((wr.drewN n).setCell ⟨g,pre.length + c,none⟩ (.int .i64 (y:Nat)))):=fun M o U p=>by
       have:=a.out.keep (d:=n) (H.out.set _ c _ (by omega) (H.out.drew _ n a.out.inv)) f HB.out;rw [aa.out] at this;exact ⟨c + 1,j + 1,_,U,p,this⟩
      obtain ⟨J,m⟩:∃ J,J=wr.drewN n:=⟨_,rfl⟩;rw [<- m] at L ⊢;rw [<- eX (show J.heap=wr.heap by rw [m];rfl)] at B;rw [<- nX (show J.heap=wr.heap by rw [m];rfl)] at W;clear a m q;go_wp2;go_roundw
      case rel=>exact L.out _ _ (by go_num) (by go_num)
      case measure=>simp [intOf];omega
    ·have ej:j=ys.length:=by omega
     subst ej;have tk:=a.out.tk;rw [List.take_length] at tk;have s:(qz P ys).length=c:=by rw [<- tk,List.length_take];omega
     obtain ⟨O,x⟩:∃ O,ys.length - c=O + 1:=⟨ys.length - c - 1,by omega⟩;obtain ⟨wc,v,I,H2,H3⟩:=Ex (P:=Tryz.prog) (w:=wr) (ot:=0) 43 3 Tryz.underlying43 Q hi (.int .i64 0) R rfl rfl g (pre.length + c) O (cap - c) _ 3 a.out.lie (by simp [cZ];omega);rw [<- x] at v I;simp only [List.toList_toArray] at I;rw [QH pre post l c (ys.length - c) (by omega)] at I;have F:Hid (RS w g pre post P ys (some ⟨g,pre.length,none⟩) cap (.returned (.slice (some ⟨g,pre.length,none⟩) c cap)) wc):=⟨l.take c ++ List.replicate (ys.length - c) 0,by simp;omega,by rw [s,List.take_append_of_le_length (by simp;omega),tk,List.take_of_length_le (by omega)],by rw [s],a.out.mO.trans H3,fun k hk=>(H2 k hk).trans (a.out.WU k hk),fun _=>I,fun h=>by omega⟩;have j1:¬ ((ys.length:Int) < (ys.length:Int)):=by omega
     have k0:(0:Int) <= (c:Int):=by omega
     have k1:(c:Int) <= (ys.length:Int):=by omega
     have k2:(c:Int) <= (cap:Int):=by omega
     have k3:¬ (cap=c):=by omega
     clear a I H2 H3 tk s x;go_wp2;go_ret;exact F.out
end Df
end So
end Go.Proofs.YtceahffmenbibaaGreatDoor
