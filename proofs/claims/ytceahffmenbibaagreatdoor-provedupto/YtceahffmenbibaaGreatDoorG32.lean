/- SdfA. -/
import Derived.Test.YtceahffmenbibaaGreatDoorG10
set_option linter.unusedVariables false
set_option linter.unusedSimpArgs false
namespace Go.Proofs.YtceahffmenbibaaGreatDoor
namespace So
open Go Go.RowKit Go.Deep Rd
namespace DfA
structure Cbk (sb g o:Nat) (len:Nat) (P:Nat→Bool) (ys0:List Nat) (Inv:World→Prop):Prop where
 drew:∀ W d,Inv W→Inv (W.drewN d)
 set:∀ W j (u:Nat),j < len→Inv W→Inv (W.setCell ⟨g,o + j,none⟩ (.int .i64 (u:Nat)))
 call:∀ W,Inv W→∀ y ∈ ys0,Calls Tryz.prog 183 #[.pointer (some ⟨sb,0,none⟩),.int .i64 (y:Nat)] W fun e w'=>QuietRet W (P y) e w'
def Lie (g:Nat) (pre post:List Value) (l:List Nat) (W:World):Prop:=W.heap[g]? = some (.cells (pre ++ nats l ++ post).toArray 3 (0,0))
theorem Lie.cell {g:Nat} {pre post:List Value} {l:List Nat} {W:World} (h2:Lie g pre post l W) {i:Nat} (hi:i < l.length):W.cell? ⟨g,pre.length + i,none⟩=some (.int .i64 (l[i]:Nat))∧W.frozen? ⟨g,pre.length + i,none⟩=false:=by
 unfold Lie at h2
 constructor
 ·simp only [World.cell?,h2]
  rw [List.getElem?_toArray,List.append_assoc,List.getElem?_append_right (by omega),Nat.add_sub_cancel_left,List.getElem?_append_left (by rw [nats_len];exact hi),nats_at l i hi]
  rfl
 ·simp [World.frozen?,h2]
theorem Lie.drew {g:Nat} {pre post:List Value} {l:List Nat} {W:World} (h:Lie g pre post l W) (d:Nat):Lie g pre post l (W.drewN d):=h
theorem Lie.set {g:Nat} {pre post:List Value} {l:List Nat} {W:World} (h2:Lie g pre post l W) {j:Nat} (hj:j < l.length) (u:Nat):Lie g pre post (l.set j u) (W.setCell ⟨g,pre.length + j,none⟩ (.int .i64 (u:Nat))):=by
 unfold Lie at h2 ⊢
 rw [setCell_eq_setRow W g (pre.length + j) _ _ (0,0) _ h2,setRow_heap W g _ _ _ _ h2]
 congr 2
 rw [← nats_set]
 apply Array.toList_inj.1
 simp only [Array.toList_setIfInBounds,List.toList_toArray]
 rw [List.append_assoc,List.append_assoc,List.set_append_right _ _ (by omega),Nat.add_sub_cancel_left,List.set_append_left _ _ (by rw [nats_len];exact hj)]
def IfRel (w:World) (Inv:World→Prop) (P:Nat→Bool) (ys:List Nat) (s:Value) (wr:World):Prop:=
 ∃ i:Nat,s=.int .i64 ((i:Nat):Int)∧i ≤ ys.length∧Hid ((∀ j (hj:j < ys.length),j < i→P ys[j]=false)∧Inv wr∧∃ d,wr=w.drewN d)
def IfRet (w:World) (P:Nat→Bool) (ys:List Nat) (e:Ending) (w':World):Prop:=(∃ d,w'=w.drewN d)∧((e=.returned (.int .i64 (-1))∧∀ y ∈ ys,P y=false)∨∃ i,∃ hi:i < ys.length,e=.returned (.int .i64 ((i:Nat):Int))∧P ys[i]=true∧∀ j (hj:j < ys.length),j < i→P ys[j]=false)
set_option maxHeartbeats 4000000 in
set_option maxRecDepth 100000 in
theorem indexFunc_any {sb g cap:Nat} {pre post:List Value} {P:Nat→Bool} {ys:List Nat} {al:Option Addr} {Inv:World→Prop} {w:World} (C:Cbk sb g pre.length ys.length P ys Inv) (hal:ys.length ≠ 0→al=some ⟨g,pre.length,none⟩) (hw:Inv w) (hL:ys.length ≠ 0→Lie g pre post ys w) (hm:ys.length ≤ 1099511627776):
  Calls Tryz.prog 218 #[.slice al ys.length cap,.func (.func 183) #[.pointer (some ⟨sb,0,none⟩)] #[]] w fun e w'=>IfRet w P ys e w':=by
 have HC:=hide C
 have HAL:=hide hal
 have HLI:=hide hL
 have S0:Hid (Inv w∧∃ d,w=w.drewN d):=⟨hw,0,rfl⟩
 clear C hal hw hL
 go_enter Tryz.func218,Tryz.ntmps218
 go_wp2_with fail
 go_loopw [5,8] (fun _ s wr=>IfRel w Inv P ys s wr) (fun _ s _=>ys.length - (intOf s).toNat)
 case atStart=>exact ⟨0,rfl,Nat.zero_le _,fun j hj h=>absurd h (Nat.not_lt_zero _),unhide S0⟩
 case round=>
  clear S0
  obtain ⟨i,rfl,hil,hst⟩:=hrel
  by_cases hlt:i < ys.length
  ·obtain rfl:=unhide HAL (by omega)
   obtain ⟨d0,hd0⟩:=(unhide hst).2.2
   have hci:=((unhide HLI (by omega)).drew d0).cell hlt |>.1
   rw [← hd0] at hci
   have QC:=hide ((unhide HC).call wr (unhide hst).2.1 ys[i] (List.getElem_mem _))
   obtain ⟨y,hy⟩:∃ y,y=ys[i]:=⟨_,rfl⟩
   rw [← hy] at hci QC
   obtain ⟨b,hb⟩:∃ b,b=P y:=⟨_,rfl⟩
   rw [← hb] at QC
   have HB:Hid (P ys[i]=b):=by unfold Hid;rw [hb,hy]
   have D0:=hide hd0
   have i0:(0:Int) ≤ (i:Int):=by omega
   have i1:(i:Int) < (ys.length:Int):=by omega
   have i2:(i:Int) ≤ 1099511627776:=by omega
   clear hy hb hd0
   go_upto_if 16 with (go_at_call 183;refine (unhide QC).mono ?_;rintro e7 w7 ⟨rfl,d7,rfl⟩;simp only [])
   cases b with
   | true=>
    have F:Hid (IfRet w P ys (.returned (.int .i64 ((i:Nat):Int))) (wr.drewN d7)):=⟨⟨_,by rw [unhide D0,World.drewN_drewN]⟩,.inr ⟨i,hlt,rfl,unhide HB,(unhide hst).1⟩⟩
    clear hst
    go_wp2
    go_ret
    exact unhide F
   | false=>
    have NX:Hid (∀ sv,sv=.int .i64 ((i + 1:Nat):Int)→IfRel w Inv P ys sv (wr.drewN d7)):=fun sv hsv=>⟨i + 1,hsv,hlt,fun j hj hji=>by
     rcases Nat.lt_succ_iff_lt_or_eq.1 hji with h1 | h1
     ·exact (unhide hst).1 j hj h1
     ·subst h1;exact unhide HB,(unhide HC).drew _ _ (unhide hst).2.1,_,by rw [unhide D0,World.drewN_drewN]⟩
    clear hst
    go_wp2
    go_roundw
    case rel=>exact unhide NX _ (by go_num)
    case measure=>simp [intOf];omega
  ·have F:Hid (IfRet w P ys (.returned (.int .i64 (-1))) wr):=⟨(unhide hst).2.2,.inl ⟨rfl,fun y hy=>by
    obtain ⟨j,hj,rfl⟩:=List.mem_iff_getElem.1 hy
    exact (unhide hst).1 j hj (by omega)⟩⟩
   have i1:¬ ((i:Int) < (ys.length:Int)):=by omega
   clear hst
   go_wp2
   go_ret
   exact unhide F
def flt (P:Nat→Bool) (ys:List Nat):List Nat:=ys.filter fun y=>!P y
theorem flt_snoc (P:Nat→Bool) (ys:List Nat) (y:Nat):flt P (ys ++ [y])=flt P ys ++ if P y then [] else [y]:=by
 unfold flt;rw [List.filter_append];cases h:P y <;> simp [h]
theorem flt_take {P:Nat→Bool} {ys:List Nat} {i:Nat} (hi:i ≤ ys.length) (h:∀ j (hj:j < ys.length),j < i→P ys[j]=false):flt P (ys.take i)=ys.take i:=by
 unfold flt
 rw [List.filter_eq_self]
 intro y hy
 obtain ⟨j,hj,rfl⟩:=List.mem_iff_getElem.1 hy
 rw [List.length_take] at hj
 rw [List.getElem_take,h j (by omega) (by omega)];rfl
def DfRet (w:World) (g:Nat) (pre post:List Value) (P:Nat→Bool) (ys:List Nat) (al:Option Addr) (cap:Nat) (e:Ending) (w':World):Prop:=
 ∃ l':List Nat,l'.length=ys.length∧l'.take (flt P ys).length=flt P ys∧e=.returned (.slice al (flt P ys).length cap)∧Below 0 w w'∧(∀ k,k ≠ g→w'.heap[k]? = w.heap[k]?)∧(ys.length ≠ 0→Lie g pre post l' w')∧(ys.length=0→w'.heap=w.heap)
structure DfSt (w:World) (Inv:World→Prop) (g:Nat) (pre post:List Value) (P:Nat→Bool) (ys:List Nat) (i j:Nat) (l:List Nat) (wr:World):Prop where
 ij:i < j
 jl:j ≤ ys.length
 len:l.length=ys.length
 tk:l.take i=flt P (ys.take j)
 dr:l.drop j=ys.drop j
 inv:Inv wr
 lie:Lie g pre post l wr
 oth:∀ k,k ≠ g→wr.heap[k]? = w.heap[k]?
 bel:Below 0 w wr
def DfRel (w:World) (Inv:World→Prop) (g:Nat) (pre post:List Value) (P:Nat→Bool) (ys:List Nat) (s5 s6:Value) (wr:World):Prop:=
 ∃ (i j:Nat) (l:List Nat),s5=.int .i64 ((i:Nat):Int)∧s6=.int .i64 ((j:Nat):Int)∧Hid (DfSt w Inv g pre post P ys i j l wr)
theorem DfSt.at' {w wr:World} {Inv:World→Prop} {g:Nat} {pre post:List Value} {P:Nat→Bool} {ys l:List Nat} {i j:Nat} (h:DfSt w Inv g pre post P ys i j l wr) (hj:j < ys.length) (hj':j < l.length):l[j]=ys[j]:=by
 have h1:=List.drop_eq_getElem_cons hj'
 have h2:=List.drop_eq_getElem_cons hj
 rw [h.dr,h2] at h1
 exact (List.cons.inj h1).1.symm
theorem DfSt.skip {w wr wx:World} {Inv:World→Prop} {g:Nat} {pre post:List Value} {P:Nat→Bool} {ys l:List Nat} {i j d:Nat} (h:DfSt w Inv g pre post P ys i j l wr) (hI:Inv (wr.drewN d)) (hj:j < ys.length) (hp:P ys[j]=true):DfSt w Inv g pre post P ys i (j + 1) l (wr.drewN d) where
 ij:=by have:=h.ij;omega
 jl:=hj
 len:=h.len
 tk:=by rw [h.tk,List.take_add_one,List.getElem?_eq_getElem hj,Option.toList_some,flt_snoc,hp];simp
 dr:=by rw [← List.drop_drop,h.dr,List.drop_drop]
 inv:=hI
 lie:=h.lie
 oth:=h.oth
 bel:=below_drewN h.bel d
theorem DfSt.keep {w wr:World} {Inv:World→Prop} {g:Nat} {pre post:List Value} {P:Nat→Bool} {ys l:List Nat} {i j d:Nat} (h:DfSt w Inv g pre post P ys i j l wr) (hI:Inv ((wr.drewN d).setCell ⟨g,pre.length + i,none⟩ (.int .i64 (ys.getD j 0:Nat)))) (hj:j < ys.length) (hp:P ys[j]=false):DfSt w Inv g pre post P ys (i + 1) (j + 1) (l.set i (ys.getD j 0)) ((wr.drewN d).setCell ⟨g,pre.length + i,none⟩ (.int .i64 (ys.getD j 0:Nat))):=by
 have hil:i < l.length:=by rw [h.len];have:=h.ij;omega
 have hg:ys.getD j 0=ys[j]:=by rw [List.getD_eq_getElem?_getD,List.getElem?_eq_getElem hj];rfl
 exact {
  ij:=by have:=h.ij;omega
  jl:=hj
  len:=by rw [List.length_set];exact h.len
  tk:=by
   rw [List.take_add_one,List.getElem?_set_self hil,Option.toList_some,List.take_set_of_le (Nat.le_refl _),h.tk,hg,List.take_add_one,List.getElem?_eq_getElem hj,Option.toList_some,flt_snoc,hp];simp
  dr:=by rw [List.drop_set_of_lt (by have:=h.ij;omega),← List.drop_drop,h.dr,List.drop_drop]
  inv:=hI
  lie:=(h.lie.drew d).set hil _
  oth:=fun k hk=>(Below.heap_setCell _ _ _ _ hk).trans (h.oth k hk)
  bel:=(below_drewN h.bel d).setCell (Nat.zero_le _) _ }
theorem clr_list (pre post:List Value) (l:List Nat) (i k:Nat) (hk:i + k=l.length):splice (pre ++ nats l ++ post) (pre.length + i) (List.replicate k (.int .i64 0))=pre ++ nats (l.take i ++ List.replicate k 0) ++ post:=by
 unfold splice
 rw [List.length_replicate,List.append_assoc,List.append_assoc]
 have e1:(pre ++ (nats l ++ post)).take (pre.length + i)=pre ++ nats (l.take i):=by
  rw [List.take_append,List.take_of_length_le (by omega),Nat.add_sub_cancel_left,List.take_append_of_le_length (by rw [nats_len];omega),nats_take]
 have e2:(pre ++ (nats l ++ post)).drop (pre.length + i + k)=post:=by
  rw [List.drop_append,List.drop_of_length_le (by omega),List.nil_append,List.drop_append,List.drop_of_length_le (by rw [nats_len];omega),List.nil_append,nats_len,show pre.length + i + k - pre.length - l.length=0 by omega,List.drop_zero]
 have e3:nats (List.replicate k 0)=List.replicate k (.int .i64 0):=by unfold nats;rw [List.map_replicate];rfl
 rw [e1,e2,nats_append,e3,List.append_assoc,List.append_assoc]
set_option maxHeartbeats 4000000 in
set_option maxRecDepth 100000 in
theorem deleteFunc_any {sb g cap:Nat} {pre post:List Value} {P:Nat→Bool} {ys:List Nat} {al:Option Addr} {Inv:World→Prop} {w:World} (C:Cbk sb g pre.length ys.length P ys Inv) (hal:ys.length ≠ 0→al=some ⟨g,pre.length,none⟩) (hw:Inv w) (hL:ys.length ≠ 0→Lie g pre post ys w) (hm:ys.length ≤ 1099511627776) (hcap:ys.length ≤ cap):
  Calls Tryz.prog 184 #[.slice al ys.length cap,.func (.func 183) #[.pointer (some ⟨sb,0,none⟩)] #[]] w fun e w'=>DfRet w g pre post P ys al cap e w':=by
 obtain ⟨ii0,hi,hz0,-,-⟩:=info_parts Tryz.infoInt9
 have QI:=hide (indexFunc_any (cap:=cap) C hal hw hL hm)
 have HC:=hide C
 have HAL:=hide hal
 have HLI:=hide hL
 have HW:=hide hw
 clear C hal hw hL
 go_enter Tryz.func184,Tryz.ntmps184
 go_upto_region 2 with (go_at_call 218;refine (unhide QI).mono ?_;rintro e7 w7 ⟨⟨d7,rfl⟩,hr⟩;have HR:=hide hr;rcases hr with ⟨rfl,h1⟩ | ⟨i,hil,rfl,h1,h2⟩ <;> (simp only []))
 ·have fl:flt P ys=ys:=by unfold flt;rw [List.filter_eq_self];intro y hy;rw [h1 y hy];rfl
  have F:Hid (DfRet w g pre post P ys al cap (.returned (.slice al ys.length cap)) (w.drewN d7)):=⟨ys,rfl,by rw [fl,List.take_length],by rw [fl],below_drewN (Below.refl _ _) _,fun _ _=>rfl,fun h=>unhide HLI h,fun _=>rfl⟩
  clear fl h1 HR
  go_wp2
  go_ret
  exact unhide F
 ·obtain rfl:=unhide HAL (by omega)
  have S0:Hid (DfSt w Inv g pre post P ys i (i + 1) ys (w.drewN d7)):={
   ij:=by omega
   jl:=hil
   len:=rfl
   tk:=by rw [List.take_add_one,List.getElem?_eq_getElem hil,Option.toList_some,flt_snoc,h1,flt_take (by omega) h2];simp
   dr:=rfl
   inv:=(unhide HC).drew _ _ (unhide HW)
   lie:=(unhide HLI (by omega)).drew _
   oth:=fun _ _=>rfl
   bel:=below_drewN (Below.refl _ _) _ }
  have hne:((i:Int) == -1)=false:=by simp
  have ib:(i:Int) + 1 ≤ 1099511627776:=by omega
  clear h1 h2 HR QI
  obtain ⟨W1,hW1⟩:∃ W1,W1=w.drewN d7:=⟨_,rfl⟩
  rw [← hW1] at S0 ⊢
  clear hW1
  go_wp2_with fail
  go_loopw [5,6,7] (fun s5 s6 _ wr=>DfRel w Inv g pre post P ys s5 s6 wr) (fun _ s6 _ _=>ys.length - (intOf s6).toNat)
  case atStart=>exact ⟨i,i + 1,ys,rfl,by go_num,S0⟩
  case round=>
   clear S0
   obtain ⟨iq,j,l,rfl,rfl,hst⟩:=hrel
   have hij:=(unhide hst).ij
   have hjl:=(unhide hst).jl
   have hll:=(unhide hst).len
   by_cases hlt:j < ys.length
   ·obtain ⟨hcj,-⟩:=(unhide hst).lie.cell (i:=j) (by omega)
    rw [(unhide hst).at' hlt (by omega)] at hcj
    have QC:=hide ((unhide HC).call wr (unhide hst).inv ys[j] (List.getElem_mem _))
    obtain ⟨y,hy⟩:∃ y,y=ys[j]:=⟨_,rfl⟩
    have hyD:ys.getD j 0=y:=by rw [hy,List.getD_eq_getElem?_getD,List.getElem?_eq_getElem hlt];rfl
    rw [← hy] at hcj QC
    obtain ⟨b,hb⟩:∃ b,b=P y:=⟨_,rfl⟩
    rw [← hb] at QC
    have HB:Hid (P ys[j]=b):=by unfold Hid;rw [hb,hy]
    have HYD:=hide hyD
    obtain ⟨hci,hfi⟩:=(unhide hst).lie.cell (i:=iq) (by omega)
    generalize (l[iq]'(by omega):Nat)=oldv at hci
    have j0:(0:Int) ≤ (j:Int):=by omega
    have j1:(j:Int) < (ys.length:Int):=by omega
    have j2:(j:Int) ≤ 1099511627776:=by omega
    have k0:(0:Int) ≤ (iq:Int):=by omega
    have k1:(iq:Int) < (ys.length:Int):=by omega
    have k2:(iq:Int) ≤ 1099511627776:=by omega
    clear hy hb hyD hll
    cases b with
    | true=>
     have NX:Hid (∀ d8 sv,sv=.int .i64 ((j + 1:Nat):Int)→DfRel w Inv g pre post P ys (.int .i64 ((iq:Nat):Int)) sv (wr.drewN d8)):=fun d8 sv hsv=>⟨iq,j + 1,l,rfl,hsv,(unhide hst).skip (wx:=wr) ((unhide HC).drew _ _ (unhide hst).inv) hlt (unhide HB)⟩
     clear hst
     go_wp2_with (go_at_call 183;refine (unhide QC).mono ?_;rintro e8 w8 ⟨rfl,d8,rfl⟩;simp only [])
     go_roundw
     case rel=>exact unhide NX _ _ (by go_num)
     case measure=>simp [intOf];omega
    | false=>
     go_upto_region 9 with (go_at_call 183;refine (unhide QC).mono ?_;rintro e8 w8 ⟨rfl,d8,rfl⟩;simp only [])
     have NX:Hid (∀ su sv,su=.int .i64 ((iq + 1:Nat):Int)→sv=.int .i64 ((j + 1:Nat):Int)→DfRel w Inv g pre post P ys su sv ((wr.drewN d8).setCell ⟨g,pre.length + iq,none⟩ (.int .i64 (y:Nat)))):=fun su sv hsu hsv=>by
      have:=(unhide hst).keep (d:=d8) ((unhide HC).set _ iq _ (by omega) ((unhide HC).drew _ d8 (unhide hst).inv)) hlt (unhide HB)
      rw [unhide HYD] at this
      exact ⟨iq + 1,j + 1,_,hsu,hsv,this⟩
     obtain ⟨W2,hW2⟩:∃ W2,W2=wr.drewN d8:=⟨_,rfl⟩
     rw [← hW2] at NX ⊢
     rw [← same_cell (show W2.heap=wr.heap by rw [hW2];rfl)] at hci
     rw [← same_frozen (show W2.heap=wr.heap by rw [hW2];rfl)] at hfi
     clear hst hW2 hcj
     go_wp2
     go_roundw
     case rel=>exact unhide NX _ _ (by go_num) (by go_num)
     case measure=>simp [intOf];omega
   ·have ej:j=ys.length:=by omega
    subst ej
    have tk:=(unhide hst).tk
    rw [List.take_length] at tk
    have fl:(flt P ys).length=iq:=by rw [← tk,List.length_take];omega
    obtain ⟨nn,hnn⟩:∃ nn,ys.length - iq=nn + 1:=⟨ys.length - iq - 1,by omega⟩
    obtain ⟨wc,hrun,H1,H2,H3⟩:=run_clearAt (P:=Tryz.prog) (w:=wr) (ot:=0) 43 3 Tryz.underlying43 ii0 hi (.int .i64 0) hz0 rfl rfl g (pre.length + iq) nn (cap - iq) _ 3 (unhide hst).lie (by simp [nats_len];omega)
    rw [← hnn] at hrun H1
    simp only [List.toList_toArray] at H1
    rw [clr_list pre post l iq (ys.length - iq) (by omega)] at H1
    have F:Hid (DfRet w g pre post P ys (some ⟨g,pre.length,none⟩) cap (.returned (.slice (some ⟨g,pre.length,none⟩) iq cap)) wc):=⟨l.take iq ++ List.replicate (ys.length - iq) 0,by simp;omega,by rw [fl,List.take_append_of_le_length (by simp;omega),tk,List.take_of_length_le (by omega)],by rw [fl],(unhide hst).bel.trans H3,fun k hk=>(H2 k hk).trans ((unhide hst).oth k hk),fun _=>H1,fun h=>by omega⟩
    have j1:¬ ((ys.length:Int) < (ys.length:Int)):=by omega
    have k0:(0:Int) ≤ (iq:Int):=by omega
    have k1:(iq:Int) ≤ (ys.length:Int):=by omega
    have k2:(iq:Int) ≤ (cap:Int):=by omega
    have k3:¬ (cap=iq):=by omega
    clear hst H1 H2 H3 tk fl hnn
    go_wp2
    go_ret
    exact unhide F
end DfA
end So
end Go.Proofs.YtceahffmenbibaaGreatDoor
