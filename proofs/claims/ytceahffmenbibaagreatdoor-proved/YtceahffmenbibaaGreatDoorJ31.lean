/- Sdfn. -/
import Derived.Test.YtceahffmenbibaaGreatDoorJ10
set_option linter.unusedVariables false
set_option linter.unusedSimpArgs false
set_option maxHeartbeats 4000000
set_option maxRecDepth 100000
namespace Go.Proofs.YtceahffmenbibaaGreatDoor
namespace So
open Go Go.RowKit Go.Deep Rd
namespace Df
structure V9 (cb sb g o:Nat) (len:Nat) (P:Nat->Bool) (ys0:List Nat) (Inv:World->Prop):Prop where
 drew:∀ W d,Inv W->Inv (W.drewN d)
 set:∀ W j (u:Nat),j < len->Inv W->Inv (W.setCell ⟨g,o + j,none⟩ (.int .i64 (u:Nat)))
 is:cb=183\/cb=224
 call:∀ W,Inv W->∀ y ∈ ys0,Calls Tryz.prog cb #[.pointer (some ⟨sb,0,none⟩),.int .i64 (y:Nat)] W fun e w'=>o8 W (P y) e w'
def Ik (g:Nat) (pre post:List Value) (l:List Nat) (W:World):Prop:=W.heap[g]? = some (.cells (pre ++ dC l ++ post).toArray 3 (0,0))
theorem Ik.cell {g:Nat} {pre post:List Value} {l:List Nat} {W:World} (a:Ik g pre post l W) {i:Nat} (b:i < l.length):W.cell? ⟨g,pre.length + i,none⟩=some (.int .i64 (l[i]:Nat))/\W.frozen? ⟨g,pre.length + i,none⟩=false:=by
 unfold Ik at a;constructor
 ·simp only [World.cell?,a];rw [List.getElem?_toArray,List.append_assoc,List.getElem?_append_right (by omega),Nat.add_sub_cancel_left,List.getElem?_append_left (by rw [dh];exact b),iZ l i b];rfl
 ·simp [World.frozen?,a]
theorem Ik.drew {g:Nat} {pre post:List Value} {l:List Nat} {W:World} (h:Ik g pre post l W) (d:Nat):Ik g pre post l (W.drewN d):=h
theorem Ik.set {g:Nat} {pre post:List Value} {l:List Nat} {W:World} (a:Ik g pre post l W) {j:Nat} (b:j < l.length) (u:Nat):Ik g pre post (l.set j u) (W.setCell ⟨g,pre.length + j,none⟩ (.int .i64 (u:Nat))):=by
 unfold Ik at a ⊢;rw [setCell_eq_setRow W g (pre.length + j) _ _ (0,0) _ a,setRow_heap W g _ _ _ _ a]
 congr 2
 rw [<- oI];apply Array.toList_inj.1;simp only [Array.toList_setIfInBounds,List.toList_toArray];rw [List.append_assoc,List.append_assoc,List.set_append_right _ _ (by omega),Nat.add_sub_cancel_left,List.set_append_left _ _ (by rw [dh];exact b)]
def SB (w:World) (Inv:World->Prop) (P:Nat->Bool) (ys:List Nat) (s:Value) (wr:World):Prop:=
 ∃ i:Nat,s=.int .i64 ((i:Nat):Int)/\i <= ys.length/\Hid ((∀ j (hj:j < ys.length),j < i->P ys[j]=false)/\Inv wr/\∃ d,wr=w.drewN d)
def OQ (w:World) (P:Nat->Bool) (ys:List Nat) (e:Ending) (w':World):Prop:=(∃ d,w'=w.drewN d)/\((e=.returned (.int .i64 (-1))/\∀ y ∈ ys,P y=false)\/∃ i,∃ hi:i < ys.length,e=.returned (.int .i64 ((i:Nat):Int))/\P ys[i]=true/\∀ j (hj:j < ys.length),j < i->P ys[j]=false)
theorem zH {E sb g cap:Nat} {pre post:List Value} {P:Nat->Bool} {c:List Nat} {al:Option Addr} {Inv:World->Prop} {w:World} (C:V9 E sb g pre.length c.length P c Inv) (n:c.length ≠ 0->al=some ⟨g,pre.length,none⟩) (B:Inv w) (hL:c.length ≠ 0->Ik g pre post c w) (T:c.length <= 1099511627776):
  Calls Tryz.prog 218 #[.slice al c.length cap,.func (.func E) #[.pointer (some ⟨sb,0,none⟩)] #[]] w fun e K=>OQ w P c e K:=by
 rcases C.is with rfl | rfl
 all_goals
  have H:=hide C;have z:=hide n;have x:=hide hL;have G:Hid (Inv w/\∃ d,w=w.drewN d):=⟨B,0,rfl⟩;clear C n B hL;go_enter Tryz.func218,Tryz.ntmps218
  go_wp2_with fail
  go_loopw [5,8] (fun _ s wr=>SB w Inv P c s wr) (fun _ s _=>c.length - (intOf s).toNat)
  case atStart=>exact ⟨0,rfl,zl,fun j o h=>absurd h (Nat.not_lt_zero _),G.out⟩
  case round=>
   clear G;obtain ⟨i,rfl,M,a⟩:=hrel;by_cases f:i < c.length
   ·obtain rfl:=z.out (by omega);obtain ⟨N,k⟩:=a.out.2.2
    have m:=((x.out (by omega)).drew N).cell f |>.1;rw [<- k] at m;have v:=hide (H.out.call wr a.out.2.1 c[i] (List.getElem_mem _));obtain ⟨y,l⟩:∃ y,y=c[i]:=⟨_,rfl⟩;rw [<- l] at m v;obtain ⟨b,t⟩:∃ b,b=P y:=⟨_,rfl⟩;rw [<- t] at v;have I:Hid (P c[i]=b):=by unfold Hid;rw [t,l]
    have J:=hide k;have S:(0:Int) <= (i:Int):=by omega
    have L:(i:Int) < (c.length:Int):=by omega
    have R:(i:Int) <= 1099511627776:=by omega
    clear l t k
    go_upto_if 16 with ((first | go_at_call 183 | go_at_call 224);refine v.out.mono ?_;rintro U Q ⟨rfl,D,rfl⟩;simp only [])
    cases b with
    | true=>
     have F:Hid (OQ w P c (.returned (.int .i64 ((i:Nat):Int))) (wr.drewN D)):=⟨⟨_,by rw [J.out,World.drewN_drewN]⟩,.inr ⟨i,f,rfl,I.out,a.out.1⟩⟩;clear a;go_wp2;go_ret;exact F.out
    | false=>
     have O:Hid (∀ p,p=.int .i64 ((i + 1:Nat):Int)->SB w Inv P c p (wr.drewN D)):=fun p q=>⟨i + 1,q,f,fun j o r=>by
      rcases Nat.lt_succ_iff_lt_or_eq.1 r with u | u
      ·exact a.out.1 j o u
      ·subst u;exact I.out,H.out.drew _ _ a.out.2.1,_,by rw [J.out,World.drewN_drewN]⟩
     clear a;go_wp2;go_roundw
     case rel=>exact O.out _ (by go_num)
     case measure=>simp [intOf];omega
   ·have F:Hid (OQ w P c (.returned (.int .i64 (-1))) wr):=⟨a.out.2.2,.inl ⟨rfl,fun y l=>by
     obtain ⟨j,o,rfl⟩:=List.mem_iff_getElem.1 l;exact a.out.1 j o (by omega)⟩⟩
    have L:¬ ((i:Int) < (c.length:Int)):=by omega
    clear a;go_wp2;go_ret;exact F.out
def wM (P:Nat->Bool) (ys:List Nat):List Nat:=ys.filter fun y=>!P y
theorem yo (P:Nat->Bool) (a:List Nat) (y:Nat):wM P (a ++ [y])=wM P a ++ if P y then [] else [y]:=by
 unfold wM;rw [List.filter_append];cases h:P y <;> simp [h]
theorem NP {P:Nat->Bool} {a:List Nat} {i:Nat} (d:i <= a.length) (h:∀ j (b:j < a.length),j < i->P a[j]=false):wM P (a.take i)=a.take i:=by
 unfold wM;rw [List.filter_eq_self];intro y c;obtain ⟨j,b,rfl⟩:=List.mem_iff_getElem.1 c;rw [List.length_take] at b;rw [List.getElem_take,h j (by omega) (by omega)];rfl
def OU (w:World) (g:Nat) (pre post:List Value) (P:Nat->Bool) (ys:List Nat) (al:Option Addr) (cap:Nat) (e:Ending) (w':World):Prop:=
 ∃ l':List Nat,l'.length=ys.length/\l'.take (wM P ys).length=wM P ys/\e=.returned (.slice al (wM P ys).length cap)/\Below 0 w w'/\(∀ k,k ≠ g->w'.heap[k]? = w.heap[k]?)/\(ys.length ≠ 0->Ik g pre post l' w')/\(ys.length=0->w'.heap=w.heap)
structure zQ (w:World) (Inv:World->Prop) (g:Nat) (pre post:List Value) (P:Nat->Bool) (ys:List Nat) (i j:Nat) (l:List Nat) (wr:World):Prop where
 ij:i < j
 jl:j <= ys.length
 len:l.length=ys.length
 tk:l.take i=wM P (ys.take j)
 dr:l.drop j=ys.drop j
 inv:Inv wr
 lie:Ik g pre post l wr
 Un:∀ k,k ≠ g->wr.heap[k]? = w.heap[k]?
 ny:Below 0 w wr
def OV (w:World) (Inv:World->Prop) (g:Nat) (pre post:List Value) (P:Nat->Bool) (ys:List Nat) (s5 s6:Value) (wr:World):Prop:=
 ∃ (i j:Nat) (l:List Nat),s5=.int .i64 ((i:Nat):Int)/\s6=.int .i64 ((j:Nat):Int)/\Hid (zQ w Inv g pre post P ys i j l wr)
theorem zQ.at' {w wr:World} {Inv:World->Prop} {g:Nat} {pre post:List Value} {P:Nat->Bool} {a l:List Nat} {i j:Nat} (h:zQ w Inv g pre post P a i j l wr) (d:j < a.length) (b:j < l.length):l[j]=a[j]:=by
 have c:=List.drop_eq_getElem_cons b;have e:=List.drop_eq_getElem_cons d;rw [h.dr,e] at c;exact (List.cons.inj c).1.symm
theorem zQ.skip {w wr wx:World} {Inv:World->Prop} {g:Nat} {pre post:List Value} {P:Nat->Bool} {a l:List Nat} {i j d:Nat} (h:zQ w Inv g pre post P a i j l wr) (e:Inv (wr.drewN d)) (b:j < a.length) (c:P a[j]=true):zQ w Inv g pre post P a i (j + 1) l (wr.drewN d) where
 ij:=by have:=h.ij;omega
 jl:=b
 len:=h.len
 tk:=by rw [h.tk,List.take_add_one,List.getElem?_eq_getElem b,Option.toList_some,yo,c];simp
 dr:=by rw [<- List.drop_drop,h.dr,List.drop_drop]
 inv:=e
 lie:=h.lie
 Un:=h.Un
 ny:=Go.below_drewN h.ny d
theorem zQ.keep {w wr:World} {Inv:World->Prop} {g:Nat} {pre post:List Value} {P:Nat->Bool} {a l:List Nat} {i j d:Nat} (h:zQ w Inv g pre post P a i j l wr) (n:Inv ((wr.drewN d).setCell ⟨g,pre.length + i,none⟩ (.int .i64 (a.getD j 0:Nat)))) (c:j < a.length) (f:P a[j]=false):zQ w Inv g pre post P a (i + 1) (j + 1) (l.set i (a.getD j 0)) ((wr.drewN d).setCell ⟨g,pre.length + i,none⟩ (.int .i64 (a.getD j 0:Nat))):=by
 have b:i < l.length:=by rw [h.len];have:=h.ij;omega
 have m:a.getD j 0=a[j]:=by rw [List.getD_eq_getElem?_getD,List.getElem?_eq_getElem c];rfl
 exact {
  ij:=by have:=h.ij;omega
  jl:=c
  len:=by rw [List.length_set];exact h.len
  tk:=by
   rw [List.take_add_one,List.getElem?_set_self b,Option.toList_some,List.take_set_of_le lr,h.tk,m,List.take_add_one,List.getElem?_eq_getElem c,Option.toList_some,yo,f];simp
  dr:=by rw [List.drop_set_of_lt (by have:=h.ij;omega),<- List.drop_drop,h.dr,List.drop_drop]
  inv:=n
  lie:=(h.lie.drew d).set b _
  Un:=fun k e=>(Below.heap_setCell _ _ _ _ e).trans (h.Un k e)
  ny:=(Go.below_drewN h.ny d).setCell zl _ }
theorem Oh (pre post:List Value) (l:List Nat) (i k:Nat) (d:i + k=l.length):splice (pre ++ dC l ++ post) (pre.length + i) (List.replicate k (.int .i64 0))=pre ++ dC (l.take i ++ List.replicate k 0) ++ post:=by
 unfold splice;rw [List.length_replicate,List.append_assoc,List.append_assoc];have c:(pre ++ (dC l ++ post)).take (pre.length + i)=pre ++ dC (l.take i):=by
  rw [List.take_append,List.take_of_length_le (by omega),Nat.add_sub_cancel_left,List.take_append_of_le_length (by rw [dh];omega),oH]
 have b:(pre ++ (dC l ++ post)).drop (pre.length + i + k)=post:=by
  rw [List.drop_append,List.drop_of_length_le (by omega),List.nil_append,List.drop_append,List.drop_of_length_le (by rw [dh];omega),List.nil_append,dh,show pre.length + i + k - pre.length - l.length=0 by omega,List.drop_zero]
 have a:dC (List.replicate k 0)=List.replicate k (.int .i64 0):=by unfold dC;rw [List.map_replicate];rfl
 rw [c,b,je,a,List.append_assoc,List.append_assoc]
theorem yD {cb sb g cap:Nat} {pre post:List Value} {P:Nat->Bool} {a:List Nat} {al:Option Addr} {Inv:World->Prop} {w:World} (C:V9 cb sb g pre.length a.length P a Inv) (s:a.length ≠ 0->al=some ⟨g,pre.length,none⟩) (U:Inv w) (hL:a.length ≠ 0->Ik g pre post a w) (hm:a.length <= 1099511627776) (ad:a.length <= cap):
  Calls Tryz.prog 184 #[.slice al a.length cap,.func (.func cb) #[.pointer (some ⟨sb,0,none⟩)] #[]] w fun e w'=>OU w g pre post P a al cap e w':=by
 rcases C.is with rfl | rfl
 all_goals
  obtain ⟨R,hi,S,-,-⟩:=info_parts Tryz.gB;have QI:=hide (zH (cap:=cap) C s U hL hm);have I:=hide C;have ab:=hide s;have H:=hide hL;have HW:=hide U;clear C s U hL;go_enter Tryz.func184,Tryz.ntmps184
  go_upto_region 2 with (go_at_call 218;refine QI.out.mono ?_;rintro e7 w7 ⟨⟨Z,rfl⟩,hr⟩;have HR:=hide hr;rcases hr with ⟨rfl,G⟩ | ⟨i,B,rfl,G,h2⟩ <;> (simp only []))
  ·have t:wM P a=a:=by unfold wM;rw [List.filter_eq_self];intro y u;rw [G y u];rfl
   have F:Hid (OU w g pre post P a al cap (.returned (.slice al a.length cap)) (w.drewN Z)):=⟨a,rfl,by rw [t,List.take_length],by rw [t],Go.below_drewN bR _,fun _ _=>rfl,fun h=>H.out h,fun _=>rfl⟩;clear t G HR;go_wp2;go_ret;exact F.out
  ·obtain rfl:=ab.out (by omega);have S0:Hid (zQ w Inv g pre post P a i (i + 1) a (w.drewN Z)):={
    ij:=by omega
    jl:=B
    len:=rfl
    tk:=by rw [List.take_add_one,List.getElem?_eq_getElem B,Option.toList_some,yo,G,NP (by omega) h2];simp
    dr:=rfl
    inv:=I.out.drew _ _ HW.out
    lie:=(H.out (by omega)).drew _
    Un:=fun _ _=>rfl
    ny:=Go.below_drewN bR _ }
   have ae:((i:Int) == -1)=false:=by simp
   have ib:(i:Int) + 1 <= 1099511627776:=by omega
   clear G h2 HR QI;obtain ⟨W1,E⟩:∃ W1,W1=w.drewN Z:=⟨_,rfl⟩;rw [<- E] at S0 ⊢;clear E;go_wp2_with fail
   go_loopw [5,6,7] (fun s5 O _ wr=>OV w Inv g pre post P a s5 O wr) (fun _ O _ _=>a.length - (intOf O).toNat)
   case atStart=>exact ⟨i,i + 1,a,rfl,by go_num,S0⟩
   case round=>
    clear S0;obtain ⟨f,j,l,rfl,rfl,c⟩:=hrel;have ag:=c.out.ij;have af:=c.out.jl;have W:=c.out.len;by_cases m:j < a.length
    ·obtain ⟨r,-⟩:=c.out.lie.cell (i:=j) (by omega);rw [c.out.at' m (by omega)] at r;have L:=hide (I.out.call wr c.out.inv a[j] (List.getElem_mem _));obtain ⟨y,u⟩:∃ y,y=a[j]:=⟨_,rfl⟩;have v:a.getD j 0=y:=by rw [u,List.getD_eq_getElem?_getD,List.getElem?_eq_getElem m];rfl
     rw [<- u] at r L;obtain ⟨b,Y⟩:∃ b,b=P y:=⟨_,rfl⟩;rw [<- Y] at L;have HB:Hid (P a[j]=b):=by unfold Hid;rw [Y,u]
     have aa:=hide v;obtain ⟨D,X⟩:=c.out.lie.cell (i:=f) (by omega);generalize (l[f]'(by omega):Nat)=ac at D;have j0:(0:Int) <= (j:Int):=by omega
     have j1:(j:Int) < (a.length:Int):=by omega
     have j2:(j:Int) <= 1099511627776:=by omega
     have k0:(0:Int) <= (f:Int):=by omega
     have k1:(f:Int) < (a.length:Int):=by omega
     have k2:(f:Int) <= 1099511627776:=by omega
     clear u Y v W
     cases b with
     | true=>
      have M:Hid (∀ o p,p=.int .i64 ((j + 1:Nat):Int)->OV w Inv g pre post P a (.int .i64 ((f:Nat):Int)) p (wr.drewN o)):=fun o p q=>⟨f,j + 1,l,rfl,q,c.out.skip (wx:=wr) (I.out.drew _ _ c.out.inv) m HB.out⟩
      clear c
      go_wp2_with ((first | go_at_call 183 | go_at_call 224);refine L.out.mono ?_;rintro e8 w8 ⟨rfl,o,rfl⟩;simp only [])
      go_roundw
      case rel=>exact M.out _ _ (by go_num)
      case measure=>simp [intOf];omega
     | false=>
      go_upto_region 9 with ((first | go_at_call 183 | go_at_call 224);refine L.out.mono ?_;rintro e8 w8 ⟨rfl,o,rfl⟩;simp only [])
      have M:Hid (∀ N p,N=.int .i64 ((f + 1:Nat):Int)->p=.int .i64 ((j + 1:Nat):Int)->OV w Inv g pre post P a N p ((wr.drewN o).setCell ⟨g,pre.length + f,none⟩ (.int .i64 (y:Nat)))):=fun N p V q=>by
       have:=c.out.keep (d:=o) (I.out.set _ f _ (by omega) (I.out.drew _ o c.out.inv)) m HB.out;rw [aa.out] at this;exact ⟨f + 1,j + 1,_,V,q,this⟩
      obtain ⟨K,n⟩:∃ K,K=wr.drewN o:=⟨_,rfl⟩;rw [<- n] at M ⊢;rw [<- gy (show K.heap=wr.heap by rw [n];rfl)] at D;rw [<- nH (show K.heap=wr.heap by rw [n];rfl)] at X;clear c n r;go_wp2;go_roundw
      case rel=>exact M.out _ _ (by go_num) (by go_num)
      case measure=>simp [intOf];omega
    ·have ej:j=a.length:=by omega
     subst ej;have tk:=c.out.tk;rw [List.take_length] at tk;have t:(wM P a).length=f:=by rw [<- tk,List.length_take];omega
     obtain ⟨Q,z⟩:∃ Q,a.length - f=Q + 1:=⟨a.length - f - 1,by omega⟩;obtain ⟨wc,x,J,H2,H3⟩:=DY (P:=Tryz.prog) (w:=wr) (ot:=0) 43 3 Tryz.underlying43 R hi (.int .i64 0) S rfl rfl g (pre.length + f) Q (cap - f) _ 3 c.out.lie (by simp [dh];omega);rw [<- z] at x J;simp only [List.toList_toArray] at J;rw [Oh pre post l f (a.length - f) (by omega)] at J;have F:Hid (OU w g pre post P a (some ⟨g,pre.length,none⟩) cap (.returned (.slice (some ⟨g,pre.length,none⟩) f cap)) wc):=⟨l.take f ++ List.replicate (a.length - f) 0,by simp;omega,by rw [t,List.take_append_of_le_length (by simp;omega),tk,List.take_of_length_le (by omega)],by rw [t],c.out.ny.trans H3,fun k hk=>(H2 k hk).trans (c.out.Un k hk),fun _=>J,fun h=>by omega⟩;have j1:¬ ((a.length:Int) < (a.length:Int)):=by omega
     have k0:(0:Int) <= (f:Int):=by omega
     have k1:(f:Int) <= (a.length:Int):=by omega
     have k2:(f:Int) <= (cap:Int):=by omega
     have k3:¬ (cap=f):=by omega
     clear c J H2 H3 tk t z;go_wp2;go_ret;exact F.out
end Df
end So
end Go.Proofs.YtceahffmenbibaaGreatDoor
