/- Sdfn. -/
import Derived.Test.YtceahffmenbibaaGreatDoorG10
set_option linter.unusedVariables false
set_option linter.unusedSimpArgs false
set_option maxHeartbeats 4000000
set_option maxRecDepth 100000
namespace Go.Proofs.YtceahffmenbibaaGreatDoor
namespace So
open Go Go.RowKit Go.Deep Rd
namespace Df
structure Cbk (cb sb g o:Nat) (len:Nat) (P:Nat->Bool) (ys0:List Nat) (Inv:World->Prop):Prop where
 drew:∀ W d,Inv W->Inv (W.drewN d)
 set:∀ W j (u:Nat),j < len->Inv W->Inv (W.setCell ⟨g,o + j,none⟩ (.int .i64 (u:Nat)))
 is:cb=183\/cb=224
 call:∀ W,Inv W->∀ y ∈ ys0,Calls Tryz.prog cb #[.pointer (some ⟨sb,0,none⟩),.int .i64 (y:Nat)] W fun e w'=>iX W (P y) e w'
def uX (g:Nat) (pre post:List Value) (l:List Nat) (W:World):Prop:=W.heap[g]? = some (.cells (pre ++ au l ++ post).toArray 3 (0,0))
theorem uX.cell {g:Nat} {pre post:List Value} {l:List Nat} {W:World} (h2:uX g pre post l W) {i:Nat} (hi:i < l.length):W.cell? ⟨g,pre.length + i,none⟩=some (.int .i64 (l[i]:Nat))/\W.frozen? ⟨g,pre.length + i,none⟩=false:=by
 unfold uX at h2;constructor
 ·simp only [World.cell?,h2];rw [List.getElem?_toArray,List.append_assoc,List.getElem?_append_right (by omega),Nat.add_sub_cancel_left,List.getElem?_append_left (by rw [ag];exact hi),eH l i hi]
  rfl
 ·simp [World.frozen?,h2]
theorem uX.drew {g:Nat} {pre post:List Value} {l:List Nat} {W:World} (h:uX g pre post l W) (d:Nat):uX g pre post l (W.drewN d):=h
theorem uX.set {g:Nat} {pre post:List Value} {l:List Nat} {W:World} (h2:uX g pre post l W) {j:Nat} (hj:j < l.length) (u:Nat):uX g pre post (l.set j u) (W.setCell ⟨g,pre.length + j,none⟩ (.int .i64 (u:Nat))):=by
 unfold uX at h2 ⊢;rw [setCell_eq_setRow W g (pre.length + j) _ _ (0,0) _ h2,setRow_heap W g _ _ _ _ h2]
 congr 2
 rw [<- jQ];apply Array.toList_inj.1;simp only [Array.toList_setIfInBounds,List.toList_toArray];rw [List.append_assoc,List.append_assoc,List.set_append_right _ _ (by omega),Nat.add_sub_cancel_left,List.set_append_left _ _ (by rw [ag];exact hj)]
def Vo (w:World) (Inv:World->Prop) (P:Nat->Bool) (ys:List Nat) (s:Value) (wr:World):Prop:=
 ∃ i:Nat,s=.int .i64 ((i:Nat):Int)/\i <= ys.length/\Hid ((∀ j (hj:j < ys.length),j < i->P ys[j]=false)/\Inv wr/\∃ d,wr=w.drewN d)
def Qx (w:World) (P:Nat->Bool) (ys:List Nat) (e:Ending) (w':World):Prop:=(∃ d,w'=w.drewN d)/\((e=.returned (.int .i64 (-1))/\∀ y ∈ ys,P y=false)\/∃ i,∃ hi:i < ys.length,e=.returned (.int .i64 ((i:Nat):Int))/\P ys[i]=true/\∀ j (hj:j < ys.length),j < i->P ys[j]=false)
theorem yE {cb sb g cap:Nat} {pre post:List Value} {P:Nat->Bool} {ys:List Nat} {al:Option Addr} {Inv:World->Prop} {w:World} (C:Cbk cb sb g pre.length ys.length P ys Inv) (hal:ys.length ≠ 0->al=some ⟨g,pre.length,none⟩) (hw:Inv w) (hL:ys.length ≠ 0->uX g pre post ys w) (hm:ys.length <= 1099511627776):
  Calls Tryz.prog 218 #[.slice al ys.length cap,.func (.func cb) #[.pointer (some ⟨sb,0,none⟩)] #[]] w fun e w'=>Qx w P ys e w':=by
 rcases C.is with rfl | rfl
 all_goals
  have HC:=hide C;have XI:=hide hal;have HLI:=hide hL;have S0:Hid (Inv w/\∃ d,w=w.drewN d):=⟨hw,0,rfl⟩;clear C hal hw hL;go_enter Tryz.func218,Tryz.ntmps218
  go_wp2_with fail
  go_loopw [5,8] (fun _ s wr=>Vo w Inv P ys s wr) (fun _ s _=>ys.length - (intOf s).toNat)
  case atStart=>exact ⟨0,rfl,Nat.zero_le _,fun j hj h=>absurd h (Nat.not_lt_zero _),S0.out⟩
  case round=>
   clear S0;obtain ⟨i,rfl,hil,hst⟩:=hrel;by_cases hlt:i < ys.length
   ·obtain rfl:=XI.out (by omega)
    obtain ⟨d0,hd0⟩:=hst.out.2.2
    have hci:=((HLI.out (by omega)).drew d0).cell hlt |>.1
    rw [<- hd0] at hci;have QC:=hide (HC.out.call wr hst.out.2.1 ys[i] (List.getElem_mem _));obtain ⟨y,hy⟩:∃ y,y=ys[i]:=⟨_,rfl⟩;rw [<- hy] at hci QC;obtain ⟨b,hb⟩:∃ b,b=P y:=⟨_,rfl⟩;rw [<- hb] at QC;have HB:Hid (P ys[i]=b):=by unfold Hid;rw [hb,hy]
    have D0:=hide hd0;have i0:(0:Int) <= (i:Int):=by omega
    have i1:(i:Int) < (ys.length:Int):=by omega
    have i2:(i:Int) <= 1099511627776:=by omega
    clear hy hb hd0
    go_upto_if 16 with ((first | go_at_call 183 | go_at_call 224);refine QC.out.mono ?_;rintro e7 w7 ⟨rfl,d7,rfl⟩;simp only [])
    cases b with
    | true=>
     have F:Hid (Qx w P ys (.returned (.int .i64 ((i:Nat):Int))) (wr.drewN d7)):=⟨⟨_,by rw [D0.out,World.drewN_drewN]⟩,.inr ⟨i,hlt,rfl,HB.out,hst.out.1⟩⟩
     clear hst;go_wp2;go_ret;exact F.out
    | false=>
     have NX:Hid (∀ sv,sv=.int .i64 ((i + 1:Nat):Int)->Vo w Inv P ys sv (wr.drewN d7)):=fun sv hsv=>⟨i + 1,hsv,hlt,fun j hj hji=>by
      rcases Nat.lt_succ_iff_lt_or_eq.1 hji with h1 | h1
      ·exact hst.out.1 j hj h1
      ·subst h1;exact HB.out,HC.out.drew _ _ hst.out.2.1,_,by rw [D0.out,World.drewN_drewN]⟩
     clear hst;go_wp2;go_roundw
     case rel=>exact NX.out _ (by go_num)
     case measure=>simp [intOf];omega
   ·have F:Hid (Qx w P ys (.returned (.int .i64 (-1))) wr):=⟨hst.out.2.2,.inl ⟨rfl,fun y hy=>by
     obtain ⟨j,hj,rfl⟩:=List.mem_iff_getElem.1 hy;exact hst.out.1 j hj (by omega)⟩⟩
    have i1:¬ ((i:Int) < (ys.length:Int)):=by omega
    clear hst;go_wp2;go_ret;exact F.out
def nG (P:Nat->Bool) (ys:List Nat):List Nat:=ys.filter fun y=>!P y
theorem wY (P:Nat->Bool) (ys:List Nat) (y:Nat):nG P (ys ++ [y])=nG P ys ++ if P y then [] else [y]:=by
 unfold nG;rw [List.filter_append];cases h:P y <;> simp [h]
theorem Pg {P:Nat->Bool} {ys:List Nat} {i:Nat} (hi:i <= ys.length) (h:∀ j (hj:j < ys.length),j < i->P ys[j]=false):nG P (ys.take i)=ys.take i:=by
 unfold nG;rw [List.filter_eq_self];intro y hy;obtain ⟨j,hj,rfl⟩:=List.mem_iff_getElem.1 hy;rw [List.length_take] at hj;rw [List.getElem_take,h j (by omega) (by omega)];rfl
def QJ (w:World) (g:Nat) (pre post:List Value) (P:Nat->Bool) (ys:List Nat) (al:Option Addr) (cap:Nat) (e:Ending) (w':World):Prop:=
 ∃ l':List Nat,l'.length=ys.length/\l'.take (nG P ys).length=nG P ys/\e=.returned (.slice al (nG P ys).length cap)/\Below 0 w w'/\(∀ k,k ≠ g->w'.heap[k]? = w.heap[k]?)/\(ys.length ≠ 0->uX g pre post l' w')/\(ys.length=0->w'.heap=w.heap)
structure yR (w:World) (Inv:World->Prop) (g:Nat) (pre post:List Value) (P:Nat->Bool) (ys:List Nat) (i j:Nat) (l:List Nat) (wr:World):Prop where
 ij:i < j
 jl:j <= ys.length
 len:l.length=ys.length
 tk:l.take i=nG P (ys.take j)
 dr:l.drop j=ys.drop j
 inv:Inv wr
 lie:uX g pre post l wr
 XV:∀ k,k ≠ g->wr.heap[k]? = w.heap[k]?
 jK:Below 0 w wr
def QY (w:World) (Inv:World->Prop) (g:Nat) (pre post:List Value) (P:Nat->Bool) (ys:List Nat) (s5 s6:Value) (wr:World):Prop:=
 ∃ (i j:Nat) (l:List Nat),s5=.int .i64 ((i:Nat):Int)/\s6=.int .i64 ((j:Nat):Int)/\Hid (yR w Inv g pre post P ys i j l wr)
theorem yR.at' {w wr:World} {Inv:World->Prop} {g:Nat} {pre post:List Value} {P:Nat->Bool} {ys l:List Nat} {i j:Nat} (h:yR w Inv g pre post P ys i j l wr) (hj:j < ys.length) (hj':j < l.length):l[j]=ys[j]:=by
 have h1:=List.drop_eq_getElem_cons hj';have h2:=List.drop_eq_getElem_cons hj;rw [h.dr,h2] at h1;exact (List.cons.inj h1).1.symm
theorem yR.skip {w wr wx:World} {Inv:World->Prop} {g:Nat} {pre post:List Value} {P:Nat->Bool} {ys l:List Nat} {i j d:Nat} (h:yR w Inv g pre post P ys i j l wr) (hI:Inv (wr.drewN d)) (hj:j < ys.length) (hp:P ys[j]=true):yR w Inv g pre post P ys i (j + 1) l (wr.drewN d) where
 ij:=by have:=h.ij;omega
 jl:=hj
 len:=h.len
 tk:=by rw [h.tk,List.take_add_one,List.getElem?_eq_getElem hj,Option.toList_some,wY,hp];simp
 dr:=by rw [<- List.drop_drop,h.dr,List.drop_drop]
 inv:=hI
 lie:=h.lie
 XV:=h.XV
 jK:=below_drewN h.jK d
theorem yR.keep {w wr:World} {Inv:World->Prop} {g:Nat} {pre post:List Value} {P:Nat->Bool} {ys l:List Nat} {i j d:Nat} (h:yR w Inv g pre post P ys i j l wr) (hI:Inv ((wr.drewN d).setCell ⟨g,pre.length + i,none⟩ (.int .i64 (ys.getD j 0:Nat)))) (hj:j < ys.length) (hp:P ys[j]=false):yR w Inv g pre post P ys (i + 1) (j + 1) (l.set i (ys.getD j 0)) ((wr.drewN d).setCell ⟨g,pre.length + i,none⟩ (.int .i64 (ys.getD j 0:Nat))):=by
 have hil:i < l.length:=by rw [h.len];have:=h.ij;omega
 have hg:ys.getD j 0=ys[j]:=by rw [List.getD_eq_getElem?_getD,List.getElem?_eq_getElem hj];rfl
 exact {
  ij:=by have:=h.ij;omega
  jl:=hj
  len:=by rw [List.length_set];exact h.len
  tk:=by
   rw [List.take_add_one,List.getElem?_set_self hil,Option.toList_some,List.take_set_of_le (Nat.le_refl _),h.tk,hg,List.take_add_one,List.getElem?_eq_getElem hj,Option.toList_some,wY,hp];simp
  dr:=by rw [List.drop_set_of_lt (by have:=h.ij;omega),<- List.drop_drop,h.dr,List.drop_drop]
  inv:=hI
  lie:=(h.lie.drew d).set hil _
  XV:=fun k hk=>(Below.heap_setCell _ _ _ _ hk).trans (h.XV k hk)
  jK:=(below_drewN h.jK d).setCell (Nat.zero_le _) _ }
theorem PQ (pre post:List Value) (l:List Nat) (i k:Nat) (hk:i + k=l.length):splice (pre ++ au l ++ post) (pre.length + i) (List.replicate k (.int .i64 0))=pre ++ au (l.take i ++ List.replicate k 0) ++ post:=by
 unfold splice;rw [List.length_replicate,List.append_assoc,List.append_assoc];have e1:(pre ++ (au l ++ post)).take (pre.length + i)=pre ++ au (l.take i):=by
  rw [List.take_append,List.take_of_length_le (by omega),Nat.add_sub_cancel_left,List.take_append_of_le_length (by rw [ag];omega),jE]
 have e2:(pre ++ (au l ++ post)).drop (pre.length + i + k)=post:=by
  rw [List.drop_append,List.drop_of_length_le (by omega),List.nil_append,List.drop_append,List.drop_of_length_le (by rw [ag];omega),List.nil_append,ag,show pre.length + i + k - pre.length - l.length=0 by omega,List.drop_zero]
 have e3:au (List.replicate k 0)=List.replicate k (.int .i64 0):=by unfold au;rw [List.map_replicate];rfl
 rw [e1,e2,fQ,e3,List.append_assoc,List.append_assoc]
theorem oD {cb sb g cap:Nat} {pre post:List Value} {P:Nat->Bool} {ys:List Nat} {al:Option Addr} {Inv:World->Prop} {w:World} (C:Cbk cb sb g pre.length ys.length P ys Inv) (hal:ys.length ≠ 0->al=some ⟨g,pre.length,none⟩) (hw:Inv w) (hL:ys.length ≠ 0->uX g pre post ys w) (hm:ys.length <= 1099511627776) (hcap:ys.length <= cap):
  Calls Tryz.prog 184 #[.slice al ys.length cap,.func (.func cb) #[.pointer (some ⟨sb,0,none⟩)] #[]] w fun e w'=>QJ w g pre post P ys al cap e w':=by
 rcases C.is with rfl | rfl
 all_goals
  obtain ⟨ii0,hi,hz0,-,-⟩:=info_parts Tryz.cu;have QI:=hide (yE (cap:=cap) C hal hw hL hm);have HC:=hide C;have XI:=hide hal;have HLI:=hide hL;have HW:=hide hw;clear C hal hw hL;go_enter Tryz.func184,Tryz.ntmps184
  go_upto_region 2 with (go_at_call 218;refine QI.out.mono ?_;rintro e7 w7 ⟨⟨d7,rfl⟩,hr⟩;have HR:=hide hr;rcases hr with ⟨rfl,h1⟩ | ⟨i,hil,rfl,h1,h2⟩ <;> (simp only []))
  ·have fl:nG P ys=ys:=by unfold nG;rw [List.filter_eq_self];intro y hy;rw [h1 y hy];rfl
   have F:Hid (QJ w g pre post P ys al cap (.returned (.slice al ys.length cap)) (w.drewN d7)):=⟨ys,rfl,by rw [fl,List.take_length],by rw [fl],below_drewN (Below.refl _ _) _,fun _ _=>rfl,fun h=>HLI.out h,fun _=>rfl⟩
   clear fl h1 HR;go_wp2;go_ret;exact F.out
  ·obtain rfl:=XI.out (by omega)
   have S0:Hid (yR w Inv g pre post P ys i (i + 1) ys (w.drewN d7)):={
    ij:=by omega
    jl:=hil
    len:=rfl
    tk:=by rw [List.take_add_one,List.getElem?_eq_getElem hil,Option.toList_some,wY,h1,Pg (by omega) h2];simp
    dr:=rfl
    inv:=HC.out.drew _ _ HW.out
    lie:=(HLI.out (by omega)).drew _
    XV:=fun _ _=>rfl
    jK:=below_drewN (Below.refl _ _) _ }
   have hne:((i:Int) == -1)=false:=by simp
   have ib:(i:Int) + 1 <= 1099511627776:=by omega
   clear h1 h2 HR QI;obtain ⟨W1,hW1⟩:∃ W1,W1=w.drewN d7:=⟨_,rfl⟩;rw [<- hW1] at S0 ⊢;clear hW1;go_wp2_with fail
   go_loopw [5,6,7] (fun s5 s6 _ wr=>QY w Inv g pre post P ys s5 s6 wr) (fun _ s6 _ _=>ys.length - (intOf s6).toNat)
   case atStart=>exact ⟨i,i + 1,ys,rfl,by go_num,S0⟩
   case round=>
    clear S0;obtain ⟨iq,j,l,rfl,rfl,hst⟩:=hrel;have hij:=hst.out.ij;have hjl:=hst.out.jl;have hll:=hst.out.len;by_cases hlt:j < ys.length
    ·obtain ⟨hcj,-⟩:=hst.out.lie.cell (i:=j) (by omega)
     rw [hst.out.at' hlt (by omega)] at hcj
     have QC:=hide (HC.out.call wr hst.out.inv ys[j] (List.getElem_mem _));obtain ⟨y,hy⟩:∃ y,y=ys[j]:=⟨_,rfl⟩;have hyD:ys.getD j 0=y:=by rw [hy,List.getD_eq_getElem?_getD,List.getElem?_eq_getElem hlt];rfl
     rw [<- hy] at hcj QC;obtain ⟨b,hb⟩:∃ b,b=P y:=⟨_,rfl⟩;rw [<- hb] at QC;have HB:Hid (P ys[j]=b):=by unfold Hid;rw [hb,hy]
     have HYD:=hide hyD;obtain ⟨hci,hfi⟩:=hst.out.lie.cell (i:=iq) (by omega)
     generalize (l[iq]'(by omega):Nat)=oldv at hci
     have j0:(0:Int) <= (j:Int):=by omega
     have j1:(j:Int) < (ys.length:Int):=by omega
     have j2:(j:Int) <= 1099511627776:=by omega
     have k0:(0:Int) <= (iq:Int):=by omega
     have k1:(iq:Int) < (ys.length:Int):=by omega
     have k2:(iq:Int) <= 1099511627776:=by omega
     clear hy hb hyD hll
     cases b with
     | true=>
      have NX:Hid (∀ d8 sv,sv=.int .i64 ((j + 1:Nat):Int)->QY w Inv g pre post P ys (.int .i64 ((iq:Nat):Int)) sv (wr.drewN d8)):=fun d8 sv hsv=>⟨iq,j + 1,l,rfl,hsv,hst.out.skip (wx:=wr) (HC.out.drew _ _ hst.out.inv) hlt HB.out⟩
      clear hst
      go_wp2_with ((first | go_at_call 183 | go_at_call 224);refine QC.out.mono ?_;rintro e8 w8 ⟨rfl,d8,rfl⟩;simp only [])
      go_roundw
      case rel=>exact NX.out _ _ (by go_num)
      case measure=>simp [intOf];omega
     | false=>
      go_upto_region 9 with ((first | go_at_call 183 | go_at_call 224);refine QC.out.mono ?_;rintro e8 w8 ⟨rfl,d8,rfl⟩;simp only [])
      have NX:Hid (∀ su sv,su=.int .i64 ((iq + 1:Nat):Int)->sv=.int .i64 ((j + 1:Nat):Int)->QY w Inv g pre post P ys su sv ((wr.drewN d8).setCell ⟨g,pre.length + iq,none⟩ (.int .i64 (y:Nat)))):=fun su sv hsu hsv=>by
       have:=hst.out.keep (d:=d8) (HC.out.set _ iq _ (by omega) (HC.out.drew _ d8 hst.out.inv)) hlt HB.out
       rw [HYD.out] at this;exact ⟨iq + 1,j + 1,_,hsu,hsv,this⟩
      obtain ⟨W2,hW2⟩:∃ W2,W2=wr.drewN d8:=⟨_,rfl⟩;rw [<- hW2] at NX ⊢;rw [<- bG (show W2.heap=wr.heap by rw [hW2];rfl)] at hci
      rw [<- kG (show W2.heap=wr.heap by rw [hW2];rfl)] at hfi
      clear hst hW2 hcj;go_wp2;go_roundw
      case rel=>exact NX.out _ _ (by go_num) (by go_num)
      case measure=>simp [intOf];omega
    ·have ej:j=ys.length:=by omega
     subst ej;have tk:=hst.out.tk;rw [List.take_length] at tk;have fl:(nG P ys).length=iq:=by rw [<- tk,List.length_take];omega
     obtain ⟨nn,hnn⟩:∃ nn,ys.length - iq=nn + 1:=⟨ys.length - iq - 1,by omega⟩
     obtain ⟨wc,hrun,H1,H2,H3⟩:=CG (P:=Tryz.prog) (w:=wr) (ot:=0) 43 3 Tryz.underlying43 ii0 hi (.int .i64 0) hz0 rfl rfl g (pre.length + iq) nn (cap - iq) _ 3 hst.out.lie (by simp [ag];omega)
     rw [<- hnn] at hrun H1;simp only [List.toList_toArray] at H1;rw [PQ pre post l iq (ys.length - iq) (by omega)] at H1
     have F:Hid (QJ w g pre post P ys (some ⟨g,pre.length,none⟩) cap (.returned (.slice (some ⟨g,pre.length,none⟩) iq cap)) wc):=⟨l.take iq ++ List.replicate (ys.length - iq) 0,by simp;omega,by rw [fl,List.take_append_of_le_length (by simp;omega),tk,List.take_of_length_le (by omega)],by rw [fl],hst.out.jK.trans H3,fun k hk=>(H2 k hk).trans (hst.out.XV k hk),fun _=>H1,fun h=>by omega⟩
     have j1:¬ ((ys.length:Int) < (ys.length:Int)):=by omega
     have k0:(0:Int) <= (iq:Int):=by omega
     have k1:(iq:Int) <= (ys.length:Int):=by omega
     have k2:(iq:Int) <= (cap:Int):=by omega
     have k3:¬ (cap=iq):=by omega
     clear hst H1 H2 H3 tk fl hnn;go_wp2;go_ret;exact F.out
end Df
end So
end Go.Proofs.YtceahffmenbibaaGreatDoor
