/- Ssh3 Ssh4 Ssh5 Ssh6 Ssh7. -/
import Derived.Test.YtceahffmenbibaaGreatDoorG46
set_option linter.unusedVariables false
set_option linter.unusedSimpArgs false
set_option maxHeartbeats 4000000
set_option maxRecDepth 100000
namespace Go.Proofs.YtceahffmenbibaaGreatDoor
namespace So
section
open Go Go.RowKit Go.Deep Rd
variable {Z:Nat->Prop} {sb K n:Nat} {w w' wr:World} {f V:Nat->Value} {X:Nat->List Value} {cs gD:List Rec} {G C OB k:Nat} {v0:Value}
theorem Kk (cap:Nat) (hc:cap <= 1099511627776) (w:World):(Instr.makeSlice 43 (.int .i64 0) (.int .i64 (cap:Int))).run Tryz.prog w=.ok (.slice (some ⟨w.heap.size,0,none⟩) 0 cap) (w.alloc (.cells (madeCells #[.int .i64 0] cap) 3)):=by
 obtain ⟨i0,hi,hz0,hz1,hz2⟩:=info_parts Tryz.cu;have hr:=run_make (P:=Tryz.prog) w 43 3 i0 (.int .i64 0) Tryz.underlying43 hi hz0 .i64 .i64 0 (cap:Int) (by omega) (by omega) (by rw [hz2];omega) (by omega)
 simp only [Int.toNat_natCast,hz1,Nat.mul_one] at hr;exact hr
theorem VG {w:World} {x y z:Value} {t:TypeId}:(w.alloc (.cells #[x,y,z] t)).cell? ⟨w.heap.size,0,none⟩=some x/\(w.alloc (.cells #[x,y,z] t)).cell? ⟨w.heap.size,1,none⟩=some y/\Below w.heap.size w (w.alloc (.cells #[x,y,z] t)):=by
 have r:(w.alloc (.cells #[x,y,z] t)).rowIs w.heap.size t 3 (fun i=>if i=0 then x else if i=1 then y else z):=World.rowIs_alloc w _ _ _ fun i hi=>match i,hi with
  | 0,_=>rfl
  | 1,_=>rfl
  | 2,_=>rfl
 exact ⟨r.cell (i:=0) (by omega),r.cell (i:=1) (by omega),(Below.refl _ _).alloc (Nat.le_refl _) _⟩
theorem JK (h:aQ Z sb w K f V X) (h0:X 0=ints (enc cs)) {G C cap:Nat} {lv ws:Value} (e0:V 0=.slice (some ⟨G,0,none⟩) (enc cs).length C) (hc:cap <= 1099511627776) (zg:Z G) (ng:G ≠ sb) (lg:G < w.heap.size):
  xQ Z sb w K f V X cs G C w.heap.size 0 cs (.slice (some ⟨w.heap.size + 1,0,none⟩) 0 cap) ((((w.alloc (.cells #[.slice (some ⟨G,0,none⟩) (enc cs).length C,lv,ws] 165)).alloc (.cells (madeCells #[.int .i64 0] cap) 3)).setCell ⟨sb,2,none⟩ (.slice (some ⟨w.heap.size + 1,0,none⟩) 0 cap)).setCell ⟨sb,4,none⟩ (.int .i64 0)):=by
 have hK:=h.hK;have hsb:=h.row.lt;obtain ⟨d0,d1,b1⟩:=VG (w:=w) (x:=.slice (some ⟨G,0,none⟩) (enc cs).length C) (y:=lv) (z:=ws) (t:=165);generalize hW1:w.alloc (.cells #[.slice (some ⟨G,0,none⟩) (enc cs).length C,lv,ws] 165)=W1 at *
 have s1:W1.heap.size=w.heap.size + 1:=by rw [<- hW1];simp
 have b2:Below W1.heap.size W1 (W1.alloc (.cells (madeCells #[.int .i64 0] cap) 3)):=(Below.refl _ _).alloc (Nat.le_refl _) _;have o2:(W1.alloc (.cells (madeCells #[.int .i64 0] cap) 3)).ownsRow 0 (iC 0) 1 (.slice (some ⟨w.heap.size + 1,0,none⟩) 0 cap) 0 []:=by
  have:=World.ownsRow_made (base:=0) (e:=iC 0) (size:=1) W1 (madeCells #[.int .i64 0] cap) cap (Nat.zero_le _) (by unfold maxLen;omega) (by rw [size_madeCells];simp)
  rw [s1] at this;exact this
 generalize hW2:W1.alloc (.cells (madeCells #[.int .i64 0] cap) 3)=W2 at *
 have b3:Below w.heap.size w W2:=b1.trans (b2.mono (by omega))
 have S1:=h.W9 (g:=w.heap.size + 1) b3 o2 rfl (by omega)
 have S2:=S1.scalar 4 (.int .i64 0) (fun k hk=>by
  match k,hk with
  | 0,_=>decide
  | 1,_=>decide
  | 2,_=>decide
  | 3,_=>decide
  | 4,_=>decide
  | 5,_=>decide
  | 6,_=>decide
  | 7,_=>decide
  | 8,_=>decide
  | 9,_=>decide
  | 10,_=>decide
  | 11,_=>decide
  | 12,_=>decide)
 have blk:∀ g,g ≠ sb->((W2.setCell ⟨sb,2,none⟩ (.slice (some ⟨w.heap.size + 1,0,none⟩) 0 cap)).setCell ⟨sb,4,none⟩ (.int .i64 0)).heap[g]? = W2.heap[g]? := fun g hg=>by
  rw [Below.heap_setCell _ _ _ _ (by simpa using hg),Below.heap_setCell _ _ _ _ (by simpa using hg)]
 have far:∀ j,j < K->∀ g,(V j).ownBlock=some g->g < w.heap.size:=fun j hj g hg=>((h.bC.own j hj).lt g hg).2
 exact {
  aG:=S2
  bD:=(((aC.of_below b3).setCell h.fZ _).setCell h.fZ _)
  PV:=bU.refl _
  Xd:=fun i _ _ a _=>absurd a (Nat.not_lt_zero _)
  not:=fun i _ _ _=>rfl
  box:=by
   have e:((W2.setCell ⟨sb,2,none⟩ (.slice (some ⟨w.heap.size + 1,0,none⟩) 0 cap)).setCell ⟨sb,4,none⟩ (.int .i64 0)).cell? ⟨w.heap.size,0,none⟩=W2.cell? ⟨w.heap.size,0,none⟩:=by
    unfold World.cell?;simp only [blk w.heap.size (by omega)]
   rw [e,b2.cell (p:=⟨w.heap.size,0,none⟩) (by simp;omega)]
   exact d0
  old:=by
   have o:=h.bC.own 0 (by omega)
   rw [e0,h0,cZ] at o;refine ownB o fun g hg=>?_
   have e:g=G:=(Option.some.inj hg).symm;subst e;rw [blk _ ng];exact b3.block _ lg
  gs:=ng
  os:=by omega
  go:=by omega
  zg:=zg
  ng:=fun j hj e=>by
   by_cases e1:j=0
   ·subst e1;rw [ae] at e;have:=Option.some.inj e;simp only at this;omega
   ·rw [aa _ _ e1] at e
    rcases h.bC.apart j 0 hj (by omega) e1 with a | a
    ·rw [a] at e;cases e
    ·rw [e,e0] at a;exact a rfl
  no:=fun j hj e=>by
   by_cases e1:j=0
   ·subst e1;rw [ae] at e;have:=Option.some.inj e;simp only at this;omega
   ·rw [aa _ _ e1] at e;have:=far j hj _ e;omega }
def Qm (Z:Nat->Prop) (sb:Nat) (w:World) (K:Nat) (f V:Nat->Value) (X:Nat->List Value) (cs:List Rec) (e:Ending) (w':World):Prop:=
 ∃ G C OB gD v0,e=.returned (.func (.func 243) #[] #[.pointer (some ⟨OB,0,none⟩)])/\xQ Z sb w K f V X cs G C OB cs.length gD v0 w'
theorem Ao (h:aQ Z sb w K f V X) (h0:X 0=ints (enc cs)) (hN:(enc cs).length <= 1099511627776) (hp:0 < cs.length) (lc ws:Nat) (f3:f 3=.int .i64 ((lc:Nat):Int)) (f4:f 4=.int .i64 ((ws:Nat):Int)) (hws:ws <= (enc cs).length):
  Calls Tryz.prog 225 #[.pointer (some ⟨sb,2,none⟩)] w fun e w'=>Qm Z sb w K f V X cs e w':=by
 have hK:=h.hK;obtain ⟨i0,hi,hz0,hz1,hz2⟩:=info_parts Tryz.cu;obtain ⟨G,C,e0,q0,Ef,lg,ng,zg,r0,-,-,-,-⟩:=bV h h0 hp;have z2:=(h.head 2 (by omega)).2
 have c3:=(h.head 3 (by omega)).1
 have c4:=(h.head 4 (by omega)).1
 have z4:=(h.head 4 (by omega)).2
 rw [f3] at c3;rw [f4] at c4;have hsb:=h.row.lt;have ns:¬ (sb=w.heap.size):=by omega
 have ns1:¬ (sb=w.heap.size + 1):=by omega
 obtain ⟨cap,hcap⟩:∃ cap,cap=(enc cs).length - ws:=⟨_,rfl⟩;have ecap:((enc cs).length:Int) - (ws:Int)=(cap:Int):=by omega
 have hcl:cap <= 1099511627776:=by omega
 have S0:=hide (JK (lv:=.int .i64 ((lc:Nat):Int)) (ws:=.int .i64 ((ws:Nat):Int)) h h0 e0 hcl zg ng lg);have mk:=Kk cap hcl;rw [World.setCell_alloc_past _ _ _ _ (by simp;omega),World.setCell_alloc_past _ _ _ _ (by simp [World.setCell];omega),World.setCell_alloc_past _ _ _ _ (by omega),World.setCell_alloc_past _ _ _ _ (by simp [World.setCell];omega)] at S0
 clear h hcap e0 r0;go_enter Tryz.func225,Tryz.ntmps225
 go_upto_region 4 with fail
 clear mk z2 z4 c3 c4 q0 ecap hcl;generalize (((w.setCell ⟨sb,2,none⟩ (.slice (some ⟨w.heap.size + 1,0,none⟩) 0 cap)).setCell ⟨sb,4,none⟩ (.int .i64 0)).alloc (.cells #[.slice (some ⟨G,0,none⟩) (enc cs).length C,.int .i64 ((lc:Nat):Int),.int .i64 ((ws:Nat):Int)] 165)).alloc (.cells (madeCells #[.int .i64 0] cap) 3)=w1 at *
 generalize w.heap.size=OB at *
 go_wp2;go_loopw [4] (fun iv wr=>∃ (k:Nat) (gD:List Rec) (v0:Value),iv=.int .i64 ((aj cs k:Nat):Int)/\k <= cs.length/\Hid (xQ Z sb w K f V X cs G C OB k gD v0 wr)) (fun iv _=>(enc cs).length - (intOf iv).toNat)
 case atStart=>exact ⟨0,cs,_,by rw [gK];rfl,Nat.zero_le _,S0⟩
 case round=>
  clear S0;obtain ⟨k,gD,v0,rfl,hkl,hst⟩:=hrel;have bx:=hst.out.box;by_cases hlt:k < cs.length
  ·have hend:=bA hlt;have r0:=hst.out.at hlt 0 (by omega)
   have r1:=hst.out.at hlt 1 (by omega)
   rw [Nat.add_zero,show (ints (enc1 cs[k]))[0]? = some (.int .i64 (((cs[k]).lits.length:Nat):Int)) from rfl] at r0
   rw [show (ints (enc1 cs[k]))[1]? = some (.int .i64 (((cs[k]).kind:Nat):Int)) from rfl] at r1
   have QK:=hide (wP OB 0 G (enc cs).length C (aj cs k) (cs[k]).kind wr bx (by omega) (by unfold maxLen;omega) r1)
   have yP:Hid (aj cs k < aj cs (k + 1)/\aj cs (k + 1) <= (enc cs).length):=by
    unfold Hid;rw [dz hlt];omega
   have QB:Hid (∀ Y:World,Y.cell? ⟨OB,0,none⟩=some (.slice (some ⟨G,0,none⟩) (enc cs).length C)->Y.cell? ⟨G,aj cs k,none⟩=some (.int .i64 (((cs[k]).lits.length:Nat):Int))->Calls Tryz.prog 213 #[.pointer (some ⟨OB,0,none⟩),.int .i64 (aj cs k:Nat)] Y fun e w'=>e=.returned (.int .i64 ((aj cs (k + 1):Nat):Int))/\w'=Y):=fun Y h1 h2=>by
    have:=mV OB 0 G (enc cs).length C (aj cs k) (cs[k]).lits.length Y h1 (by omega) (by unfold maxLen;omega) h2
    rw [show aj cs k + 3 + (cs[k]).lits.length=aj cs (k + 1) by rw [dz hlt];omega] at this
    exact this
   have a3:(aj cs k:Int) < ((enc cs).length:Int):=by omega
   by_cases hd:(cs[k]).kind=2
   ·have hdb:(((cs[k]).kind:Int) == 2)=true:=by simp;omega
    have QB1:=hide (QB.out wr bx r0);have F:=hide (hst.out.dead hlt hd);clear hst QB;generalize (cs[k]).kind=kd at *
    go_wp2_with (first
     |(go_at_call 219;(with_reducible refine QK.out.mono ?_);rintro e7 w7 ⟨rfl,rfl⟩;simp only [])
     |(go_at_call 213;(with_reducible refine QB1.out.mono ?_);rintro e8 w8 ⟨rfl,rfl⟩;simp only []))
    go_roundw
    case rel=>exact ⟨k + 1,gD,v0,rfl,by omega,F⟩
    case measure=>have:=yP.out;simp [intOf];omega
   ·have hdb:(((cs[k]).kind:Int) == 2)=false:=by simp;omega
    have K3:=hst.out.aG.hK;have oo:=hst.out.aG.bC.own 0 (by omega)
    rw [ae,ae,cZ] at oo;obtain ⟨va,vc,hva⟩:=aH oo;subst hva;have q2:=(hst.out.aG.head 2 (by omega)).1
    rw [aa _ _ (by decide),ae] at q2
    have hLn:(enc (iF cs k)).length <= aj cs k:=Bb k hkl;have SD:=hide (hst.out.later (Below.refl _ _).drew);have OD:Hid (wr.drew.ownsRow 0 3 1 (.slice va (enc (iF cs k)).length vc) (enc (iF cs k)).length (ints (enc (iF cs k)))):=oo;have SR:Hid (Src wr.drew (.slice (some ⟨G,aj cs k,none⟩) (3 + (cs[k]).lits.length) (C - aj cs k)) (3 + (cs[k]).lits.length) (ints (enc1 cs[k]))):=.inr ⟨_,_,rfl,fun j u hu=>by
     have hj:j < 3 + (cs[k]).lits.length:=by
      rcases Nat.lt_or_ge j (3 + (cs[k]).lits.length) with h | h
      ·exact h
      ·rw [List.getElem?_eq_none (by rw [cZ,dh];exact h)] at hu;cases hu
     rw [show (Addr.add ⟨G,aj cs k,none⟩ j:Addr)=⟨G,aj cs k + j,none⟩ by simp [Addr.add],<- hu,<- SD.out.at hlt j hj]⟩
    have ML:Hid (∀ v6 w6,aB wr.drew 0 3 1 (.slice va (enc (iF cs k)).length vc) (enc (iF cs k)).length (ints (enc (iF cs k))) (3 + (cs[k]).lits.length) (ints (enc1 cs[k])) v6 w6->_):=fun v6 w6 A=>SD.out.mid hlt A
    have LV:Hid (∀ v6 w6,aB wr.drew 0 3 1 (.slice va (enc (iF cs k)).length vc) (enc (iF cs k)).length (ints (enc (iF cs k))) (3 + (cs[k]).lits.length) (ints (enc1 cs[k])) v6 w6->_):=fun v6 w6 A=>SD.out.live hlt hd A (Below.refl _ _)
    have LN:Hid (∀ wz YQ v6,xQ Z sb w K f V X cs G C OB (k + 1) YQ v6 wz->wz.cell? ⟨OB,0,none⟩=some (.slice (some ⟨G,0,none⟩) (enc cs).length C)/\wz.cell? ⟨G,aj cs k,none⟩=some (.int .i64 (((cs[k]).lits.length:Nat):Int))):=fun wz YQ v6 H=>⟨H.box,H.Wt hlt⟩
    have el:(ints (enc1 cs[k])).length=(3 + (cs[k]).lits.length) * 1:=by rw [cZ,dh];omega
    have one:∀ u ∈ ints (enc1 cs[k]),u.oneCell'=true:=fun u hu=>by
     unfold ints at hu;obtain ⟨y,_,rfl⟩:=List.mem_map.1 hu;rfl
    have SUC:aj cs (k + 1)=aj cs k + 3 + (cs[k]).lits.length:=by rw [dz hlt];omega
    rw [SUC] at QB;have MD:=hide (show ¬ (cs[k]).kind=2 from hd)
    have s1:(0:Int) <= (aj cs k:Int) + 3 + ((cs[k]).lits.length:Int):=by omega
    have s2:(aj cs k:Int) + 3 + ((cs[k]).lits.length:Int) <= (C:Int):=by omega
    have s3:((aj cs k:Int) + 3 + ((cs[k]).lits.length:Int)).toNat=aj cs k + (3 + (cs[k]).lits.length):=by omega
    have s4:aj cs k + (3 + (cs[k]).lits.length) - aj cs k=3 + (cs[k]).lits.length:=by omega
    have s5:¬ (C=aj cs k):=by omega
    have s6:aj cs k <= aj cs k + (3 + (cs[k]).lits.length):=by omega
    have t0:(0:Int) <= (aj cs k:Int) + 2:=by omega
    have t1:(aj cs k:Int) + 2 < ((enc cs).length:Int):=by omega
    have t2:((aj cs k:Int) + 2).toNat=aj cs k + 2:=by omega
    have S14:=hide SUC;have QBd:=hide (QB.out wr.drew bx r0);clear hst oo SUC;generalize hmm:(cs[k]).lits.length=m at *
    generalize hne:ints (enc1 cs[k])=news at *
    generalize (cs[k]).kind=kd at *
    generalize hLL:(enc (iF cs k)).length=L at *
    generalize KU:ints (enc (iF cs k))=xs at *
    generalize Ue:aj cs k=a at *
    go_upto_region 9 with (go_at_call 219;(with_reducible refine QK.out.mono ?_);rintro e7 w7 ⟨rfl,h7⟩;(have h8:=h7.symm);subst h8;clear h7;simp only [])
    go_cut [] from 22 to 56 (fun wx=>∃ v6 w6,Hid (aB wr.drew 0 3 1 (.slice va L vc) L xs (3 + m) news v6 w6)/\wx=w6.setCell ⟨sb,2,none⟩ v6)
    case first=>
     go_region_law (first
      |(refine dR _ (by rfl) _ _ 43 (by rfl) 0 3 i0 (.int .i64 0) 1 8 Tryz.underlying43 hi hz0 hz1 hz2 (by rfl) (by decide) (.slice va L vc) L xs (by rfl) OD.out (.slice (some ⟨G,a,none⟩) (3 + m) (C - a)) (3 + m) news (by rfl) SR.out el one (by unfold maxLen;omega) (by omega) (Nat.zero_le _) ?_;intro v6 w6 A6;obtain ⟨b1,⟨u,b2⟩,b3,b4,b5⟩:=ML.out v6 w6 A6;have A7:=hide A6;obtain ⟨qL,qK,hv6⟩:=aH A6.own;subst hv6;clear A6)
      |(go_simp;go_at_call 213;(with_reducible refine QBd.out.mono ?_);rintro e7 w7 ⟨rfl,rfl⟩))
     all_goals
      go_wp2_with fail
      go_meet;exact ⟨_,_,A7,rfl⟩
    case rest=>
     obtain ⟨v6,w6,A6,rfl⟩:=hcut;obtain ⟨b1,⟨u,b2⟩,b3,_⟩:=ML.out v6 w6 A6.out;have L7:=hide (LV.out v6 w6 A6.out);obtain ⟨l1,l2⟩:=LN.out _ _ _ L7.out;have QB2:=hide (QB.out _ l1 l2);go_wp2_with (go_at_call 213;(with_reducible refine QB2.out.mono ?_);rintro e8 w8 ⟨rfl,rfl⟩;simp only [])
     go_roundw
     case rel=>exact ⟨k + 1,_,_,by rw [S14.out],by omega,L7⟩
     case measure=>have:=yP.out;have:=S14.out;simp [intOf];omega
  ·have ek:k=cs.length:=by omega
   subst ek;have hal:aj cs cs.length=(enc cs).length:=dY (Nat.le_refl _);rw [hal];have F:Hid (Qm Z sb w K f V X cs (.returned (.func (.func 243) #[] #[.pointer (some ⟨OB,0,none⟩)])) wr):=⟨G,C,OB,gD,v0,rfl,hst.out⟩;clear hst hal;generalize (enc cs).length=N at *
   go_wp2;go_ret
   exact F.out
end
section
open Go Go.RowKit Go.Deep Rd
variable {cs gD:List Rec} {n:Nat} {tr ch:List Nat} {lev:Nat->Nat} {rea:Nat->Int}
def u7 (cs:List Rec):List Rec:=iF cs cs.length
theorem nX:u7 cs=cs.filter fun c=>!decide (c.kind=2):=by unfold u7 iF;rw [List.take_length]
theorem Kq {k:Nat} (hk:k < cs.length) (hd:(cs[k]).kind ≠ 2):u7 cs=iF cs k ++ cs[k] :: (cs.drop (k + 1)).filter fun c=>!decide (c.kind=2):=by
 rw [nX];have e:cs=cs.take k ++ cs[k] :: cs.drop (k + 1):=by rw [<- List.drop_eq_getElem_cons hk,List.take_append_drop]
 conv=>lhs;rw [e]
 rw [List.filter_append,List.filter_cons_of_pos (by simpa using hd)]
 rfl
theorem Oh {k:Nat} (hk:k < cs.length) (hd:(cs[k]).kind ≠ 2):∃ h:(iF cs k).length < (u7 cs).length,(u7 cs)[(iF cs k).length]=cs[k]/\aj (u7 cs) (iF cs k).length=(enc (iF cs k)).length:=by
 have e:=Kq hk hd;refine ⟨by rw [e];simp,?_,?_⟩
 ·have:(u7 cs)[(iF cs k).length]? = some cs[k]:=by rw [e,List.getElem?_append_right (Nat.le_refl _)];simp
  exact (List.getElem?_eq_some_iff.1 this).2
 ·unfold aj;rw [e,List.take_left' rfl]
theorem wL:∀ (cs:List Rec) (j:Nat) (hj:j < (u7 cs).length),∃ k,∃ hk:k < cs.length,(cs[k]).kind ≠ 2/\(iF cs k).length=j
 | [],j,hj=>by simp [nX] at hj
 | c :: r,j,hj=>by
  rw [nX] at hj;by_cases hc:c.kind=2
  ·rw [List.filter_cons_of_neg (by simpa using hc)] at hj
   obtain ⟨k,hk,h1,h2⟩:=wL r j (by rw [nX];exact hj)
   refine ⟨k + 1,by simp;omega,by simpa using h1,?_⟩
   unfold iF at h2 ⊢;rw [List.take_succ_cons,List.filter_cons_of_neg (by simpa using hc)]
   exact h2
  ·rw [List.filter_cons_of_pos (by simpa using hc)] at hj
   match j,hj with
   | 0,_=>exact ⟨0,by simp,by simpa using hc,rfl⟩
   | j + 1,hj=>
    obtain ⟨k,hk,h1,h2⟩:=wL r j (by rw [nX];simpa using hj)
    refine ⟨k + 1,by simp;omega,by simpa using h1,?_⟩
    unfold iF at h2 ⊢;rw [List.take_succ_cons,List.filter_cons_of_pos (by simpa using hc),List.length_cons,h2]
theorem Oc {j k:Nat} (h:j <= k):(enc (iF cs j)).length <= (enc (iF cs k)).length:=by
 have e:cs.take k=cs.take j ++ (cs.take k).drop j:=by
  conv=>lhs;rw [<- List.take_append_drop j (cs.take k)]
  rw [List.take_take,Nat.min_eq_left h]
 unfold iF;rw [e,List.filter_append,dn,List.length_append];omega
theorem Du {j k:Nat} (h:j < k) (hj:j < cs.length) (hd:(cs[j]).kind ≠ 2):(enc (iF cs j)).length < (enc (iF cs k)).length:=by
 have:=Oc (cs:=cs) (show j + 1 <= k from h)
 rw [wG hj hd,xm,List.length_append,dh] at this;omega
def sG (gD:List Rec) (a:Nat):Nat:=(((enc gD)[a + 2]?).getD 0).toNat
theorem qX (hb:bU cs gD) (hd:∀ i (h:i < gD.length) (h':i < cs.length),(cs[i]).kind ≠ 2->(gD[i]).busy=(((enc (iF cs i)).length:Nat):Int)) {k:Nat} (hk:k < cs.length) (hl:(cs[k]).kind ≠ 2):sG gD (aj cs k)=(enc (iF cs k)).length/\(enc gD)[aj cs k + 2]? = some ((sG gD (aj cs k):Nat):Int):=by
 have hk':k < gD.length:=by rw [hb.1];exact hk
 have e:=xq hk';rw [hb.aj k (by omega),hd k hk' hk hl] at e
 have r:sG gD (aj cs k)=(enc (iF cs k)).length:=by unfold sG;rw [e];simp
 exact ⟨r,by rw [e,r]⟩
theorem Td (hb:bU cs gD) (hd:∀ i (h:i < gD.length) (h':i < cs.length),(cs[i]).kind ≠ 2->(gD[i]).busy=(((enc (iF cs i)).length:Nat):Int)):Fs (mapOf cs) (mapOf (u7 cs)) (sG gD) where
 to':=fun a c h1 h2=>by
  obtain ⟨k,hk,rfl,rfl⟩:=aN h1;obtain ⟨g1,g2,g3⟩:=Oh hk h2;rw [(qX hb hd hk h2).1,<- g3,aP g1,g2]
 from':=fun b c h1=>by
  obtain ⟨j,hj,rfl,rfl⟩:=aN h1;obtain ⟨k,hk,h2,rfl⟩:=wL cs j hj;obtain ⟨g1,g2,g3⟩:=Oh hk h2;refine ⟨aj cs k,?_,?_,?_⟩
  ·rw [aP hk,g2]
  ·rw [g2];exact h2
  ·rw [(qX hb hd hk h2).1,g3]
 inj:=fun a b c d h1 h2 h3 h4 e=>by
  obtain ⟨j,hj,rfl,rfl⟩:=aN h1;obtain ⟨k,hk,rfl,rfl⟩:=aN h3;rw [(qX hb hd hj h2).1,(qX hb hd hk h4).1] at e
  rcases Nat.lt_trichotomy j k with h | h | h
  ·have:=Du h hj h2;omega
  ·rw [h]
  ·have:=Du h hk h4;omega
theorem Tq:kz (u7 cs)=kz cs:=by
 unfold kz;rw [nX,List.filter_filter]
 congr 2
 funext c
 by_cases h:c.kind=2 <;> simp [h]
theorem DC:eQ (u7 cs)=eQ cs:=by
 unfold eQ;rw [nX,List.countP_filter]
 congr 1
 funext c
 by_cases h:c.kind=1
 ·simp [h]
 ·simp [h]
theorem Og:fE (u7 cs)=0:=by
 rw [nX]
 induction cs with
 | nil=>rfl
 | cons c r ih=>
  by_cases h:c.kind=2
  ·rw [List.filter_cons_of_neg (by simpa using h)];exact ih
  ·rw [List.filter_cons_of_pos (by simpa using h)]
   unfold fE at ih ⊢;rw [List.map_cons,List.sum_cons,ih,if_neg h]
theorem Tt:(enc (u7 cs)).length <= (enc cs).length:=by
 have:=Bb (cs:=cs) cs.length (Nat.le_refl _);rw [dY (Nat.le_refl _)] at this;exact this
def CV (ro:Nat->Nat) (tr:List Nat) (rea:Nat->Int) (i:Nat) (v:Nat):Int:=if v ∈ (tr.take i).map (· / 2)/\rea v ≠ -1 then ((ro (rea v).toNat:Nat):Int) else rea v
theorem Nk (ro:Nat->Nat) (tr:List Nat) (rea:Nat->Int):CV ro tr rea 0=rea:=by
 funext v;unfold CV;simp
theorem fM.YS (ht:fM n tr ch lev) {i:Nat} (hi:i < tr.length):tr[i] / 2 ∉ (tr.take i).map (· / 2):=fun hm=>by
 obtain ⟨y,hy,e⟩:=List.mem_map.1 hm;obtain ⟨j,hj,ej⟩:=List.mem_iff_getElem.1 hy;rw [List.length_take] at hj;rw [List.getElem_take] at ej;have:=ht.mE (show j < tr.length by omega) hi (by rw [ej];exact e)
 omega
theorem VQ (ht:fM n tr ch lev) (ro:Nat->Nat) {i:Nat} (hi:i < tr.length):CV ro tr rea i (tr[i] / 2)=rea (tr[i] / 2):=by
 unfold CV;rw [if_neg (fun h=>ht.YS hi h.1)]
theorem sj {i:Nat} (hi:i < tr.length) (v:Nat):v ∈ (tr.take (i + 1)).map (· / 2)↔v ∈ (tr.take i).map (· / 2)\/v=tr[i] / 2:=by
 rw [List.take_succ_eq_append_getElem hi,List.map_append,List.mem_append,List.map_cons,List.map_nil,List.mem_singleton]
theorem Si (ro:Nat->Nat) {i:Nat} (hi:i < tr.length) (hr:rea (tr[i] / 2) ≠ -1):CV ro tr rea (i + 1)=bB (CV ro tr rea i) (tr[i] / 2) ((ro (rea (tr[i] / 2)).toNat:Nat):Int):=by
 funext v
 by_cases e:v=tr[i] / 2
 ·rw [e,aD];unfold CV;rw [if_pos ⟨(sj hi _).2 (.inr rfl),hr⟩]
 ·rw [ah _ _ e];unfold CV;have:(v ∈ (tr.take (i + 1)).map (· / 2)/\rea v ≠ -1)↔(v ∈ (tr.take i).map (· / 2)/\rea v ≠ -1):=by
   rw [sj hi];constructor
   ·rintro ⟨h1 | h1,h2⟩
    ·exact ⟨h1,h2⟩
    ·exact absurd h1 e
   ·rintro ⟨h1,h2⟩;exact ⟨.inl h1,h2⟩
  simp only [this]
theorem Nl (ro:Nat->Nat) {i:Nat} (hi:i < tr.length) (hr:rea (tr[i] / 2)=-1):CV ro tr rea (i + 1)=CV ro tr rea i:=by
 funext v
 unfold CV;have:(v ∈ (tr.take (i + 1)).map (· / 2)/\rea v ≠ -1)↔(v ∈ (tr.take i).map (· / 2)/\rea v ≠ -1):=by
  rw [sj hi];constructor
  ·rintro ⟨h1 | h1,h2⟩
   ·exact ⟨h1,h2⟩
   ·exact absurd (h1 ▸ hr) h2
  ·rintro ⟨h1,h2⟩;exact ⟨.inl h1,h2⟩
 simp only [this]
theorem lh.Wj {C C':eX} {ro:Nat->Nat} (h:lh C tr ch rea) (hm:Fs C C' ro):lh C' tr ch (CV ro tr rea tr.length):=by
 refine h.NV hm fun x hx=>⟨fun e=>?_,fun a e=>?_⟩
 ·unfold CV;rw [if_neg (fun h=>h.2 e)];exact e
 ·unfold CV;rw [if_pos ⟨by rw [List.take_length];exact List.mem_map.2 ⟨x,hx,rfl⟩,by omega⟩,e]
  simp
theorem lh.live {C:eX} (h:lh C tr ch rea) {i:Nat} (hi:i < tr.length) (hr:rea (tr[i] / 2) ≠ -1):∃ (a:Nat) (c:uY),rea (tr[i] / 2)=(a:Int)/\C a=some c/\c.kind ≠ 2:=by
 by_cases hc:i ∈ ch
 ·exact absurd (h.Jh i hi hc) hr
 ·obtain ⟨a,c,r,h1,h2,h3,_⟩:=h.why i hi hc;exact ⟨a,c,h1,h2,h3⟩
def BS (ro:Nat->Nat) (wl:Nat->List Nat) (i j:Nat) (x:Nat):List Nat:=if x < i then (wl x).map ro else if x=i then ((wl x).take j).map ro ++ (wl x).drop j else wl x
theorem Ml (ro:Nat->Nat) (wl:Nat->List Nat):BS ro wl 0 0=wl:=by
 funext x;unfold BS
 rw [if_neg (by omega)]
 split
 ·simp
 ·rfl
theorem Mo (ro:Nat->Nat) (wl:Nat->List Nat) (i:Nat):BS ro wl i (wl i).length=BS ro wl (i + 1) 0:=by
 funext x;unfold BS
 by_cases h1:x < i
 ·rw [if_pos h1,if_pos (by omega)]
 ·rw [if_neg h1];by_cases h2:x=i
  ·subst h2;rw [if_pos rfl,if_pos (by omega)];simp
  ·rw [if_neg h2,if_neg (by omega)]
   by_cases h3:x=i + 1
   ·rw [if_pos h3];simp
   ·rw [if_neg h3]
theorem Ir (ro:Nat->Nat) (wl:Nat->List Nat) (i j x:Nat):(BS ro wl i j x).length=(wl x).length:=by
 unfold BS;split
 ·simp
 ·split
  ·simp;omega
  ·rfl
theorem Vy (ro:Nat->Nat) (wl:Nat->List Nat) {i j:Nat} (hj:j < (wl i).length):(BS ro wl i j i)[j]? = some ((wl i)[j]):=by
 unfold BS;have e:j - (((wl i).take j).map ro).length=0:=by simp;omega
 rw [if_neg (by omega),if_pos rfl,List.getElem?_append_right (by simp;omega),e,List.getElem?_drop,Nat.add_zero,List.getElem?_eq_getElem hj]
theorem Mm (ro:Nat->Nat) (wl:Nat->List Nat) {i j:Nat} (hj:j < (wl i).length):BS ro wl i (j + 1)=fun x=>if x=i then (BS ro wl i j i).set j (ro (wl i)[j]) else BS ro wl i j x:=by
 funext x
 by_cases h2:x=i
 ·subst h2;rw [if_pos rfl];unfold BS;rw [if_neg (by omega),if_pos rfl,if_neg (by omega),if_pos rfl]
  rw [List.set_append_right _ _ (by simp;omega)]
  have e:j - (((wl x).take j).map ro).length=0:=by simp;omega
  rw [e,List.drop_eq_getElem_cons hj,List.set_cons_zero,List.take_succ_eq_append_getElem hj,List.map_append,List.append_assoc];rfl
 ·rw [if_neg h2];unfold BS;by_cases h1:x < i
  ·rw [if_pos h1,if_pos h1]
  ·rw [if_neg h1,if_neg h2,if_neg h1,if_neg h2]
theorem Rw (ro:Nat->Nat) (wl:Nat->List Nat) {m x:Nat} (hx:x < m):BS ro wl m 0 x=(wl x).map ro:=by unfold BS;rw [if_pos hx]
end
section
open Go Go.RowKit Go.Deep Rd
variable {Z:Nat->Prop} {sb K n:Nat} {w w' wr:World} {f V:Nat->Value} {X:Nat->List Value} {cs gD:List Rec} {G C OB N k:Nat} {v0:Value} {ro:Nat->Nat} {Lv:Nat->Prop} {tr ch:List Nat} {lev:Nat->Nat} {rea:Nat->Int} {wl:Nat->List Nat}
structure Rn (K:Nat) (V:Nat->Value) (G C OB N:Nat) (ro:Nat->Nat) (Lv:Nat->Prop) (w:World):Prop where
 box:w.cell? ⟨OB,0,none⟩=some (.slice (some ⟨G,0,none⟩) N C)
 at':∀ a,Lv a->a + 2 < N/\w.cell? ⟨G,a + 2,none⟩=some (.int .i64 ((ro a:Nat):Int))
 ng:∀ j,j < K->(V j).ownBlock ≠ some G
 no:∀ j,j < K->(V j).ownBlock ≠ some OB
theorem Rn.later (h:Rn K V G C OB N ro Lv w) (hb:Below w.heap.size w w'):Rn K V G C OB N ro Lv w':={ h with
 box:=by rw [hb.cell (p:=⟨OB,0,none⟩) (block_lt_of_cell h.box)];exact h.box
 at':=fun a ha=>⟨(h.at' a ha).1,by rw [hb.cell (p:=⟨G,a + 2,none⟩) (block_lt_of_cell (h.at' a ha).2)];exact (h.at' a ha).2⟩ }
theorem Rn.set (h:Rn K V G C OB N ro Lv w) {g m c:Nat} (hk:k < K) (hv:V k=.slice (some ⟨g,0,none⟩) m c) (j:Nat) (u:Value):Rn K V G C OB N ro Lv (w.setCell ⟨g,j,none⟩ u):=by
 have g1:g ≠ G:=fun e=>h.ng k hk (by rw [hv,e];rfl)
 have g2:g ≠ OB:=fun e=>h.no k hk (by rw [hv,e];rfl)
 exact { h with
  box:=by rw [World.cell?_setCell_far _ _ _ _ (by simpa using g2)];exact h.box
  at':=fun a ha=>⟨(h.at' a ha).1,by rw [World.cell?_setCell_far _ _ _ _ (by simpa using g1)];exact (h.at' a ha).2⟩ }
theorem IL (h:Rn K V G C OB N ro Lv w) (hN:N <= 1099511627776) {a:Nat} (ha:Lv a):
  Calls Tryz.prog 243 #[.int .i64 ((a:Nat):Int),.pointer (some ⟨OB,0,none⟩)] w fun e w'=>e=.returned (.int .i64 ((ro a:Nat):Int))/\w'=w:=by
 have bx:=h.box;obtain ⟨h1,h2⟩:=h.at' a ha;have x0:(0:Int) <= (a:Int) + 2:=by omega
 have x1:(a:Int) + 2 < (N:Int):=by omega
 have x2:((a:Int) + 2).toNat=a + 2:=by omega
 generalize ro a=z at *
 clear h ha;go_enter Tryz.func243,Tryz.ntmps243
 go_wp2;go_ret
 exact ⟨rfl,rfl⟩
theorem xQ.Jf (h:xQ Z sb w K f V X cs G C OB cs.length gD v0 wr):Rn K (upd V 0 v0) G C OB (enc cs).length (sG gD) (fun a=>∃ k,∃ hk:k < cs.length,a=aj cs k/\(cs[k]).kind ≠ 2) wr where
 box:=h.box
 at':=fun a ⟨k,hk,e,hd⟩=>by
  subst e;have hend:=bA hk;refine ⟨by omega,?_⟩
  rw [h.old.cellAt (aj cs k + 2) (by omega),iR,(qX h.PV (fun i a1 a2 a3=>h.Xd i a1 a2 a2 a3) hk hd).2]
  rfl
 ng:=h.ng
 no:=h.no
theorem jm.one (h:jm n V X wl) {x j u:Nat} (hx:x < 2 * n):jm n V (upd X (16 + x) ((X (16 + x)).set j (.int .i64 (u:Nat)))) (fun y=>if y=x then (wl x).set j u else wl y) where
 n9:=by rw [aa _ _ (by omega)];exact h.n9
 hd:=fun y hy=>by rw [aa _ _ (by omega)];exact h.hd y hy
 row:=fun y hy=>by
  by_cases e:y=x
  ·subst e;rw [ae,if_pos rfl,h.row y hy,jQ]
  ·rw [aa _ _ (by omega),if_neg e];exact h.row y hy
theorem iW.rea1 (h:iW n X tr ch lev rea) {v:Nat} (hv:v < n) (u:Int):iW n (upd X 5 ((X 5).set v (.int .i64 u))) tr ch lev (bB rea v u) where
 l1:=by rw [aa _ _ (by decide)];exact h.l1
 l2:=by rw [aa _ _ (by decide)];exact h.l2
 n3:=by rw [aa _ _ (by decide)];exact h.n3
 t3:=by rw [aa _ _ (by decide)];exact h.t3
 n4:=by rw [aa _ _ (by decide)];exact h.n4
 t4:=by rw [aa _ _ (by decide)];exact h.t4
 n5:=by rw [ae,List.length_set];exact h.n5
 t5:=fun y hy=>by
  rw [ae,qj h.n5 h.t5 hv _ y hy];by_cases e:y=v
  ·subst e;rw [aD,aD]
  ·rw [ah _ _ e,ah _ _ e]
structure Xr (Z:Nat->Prop) (sb:Nat) (w:World) (K n:Nat) (f V:Nat->Value) (X:Nat->List Value) (wl:Nat->List Nat) (G C OB N:Nat) (ro:Nat->Nat) (Lv:Nat->Prop) (i j:Nat) (wr:World) (X':Nat->List Value):Prop where
 aG:aQ Z sb wr K f V X'
 dL:jm n V X' (BS ro wl i j)
 only:∀ k,k < 16->X' k=X k
 bD:aC Z w wr
 Jf:Rn K V G C OB N ro Lv wr
theorem Xr.step {i j:Nat} {X':Nat->List Value} {g m c:Nat} (h:Xr Z sb w K n f V X wl G C OB N ro Lv i j wr X') (hK2:K=16 + 2 * n) (hi:i < 2 * n) (hj:j < (wl i).length) (hv:V (16 + i)=.slice (some ⟨g,0,none⟩) m c):
  Xr Z sb w K n f V X wl G C OB N ro Lv i (j + 1) (wr.setCell ⟨g,j,none⟩ (.int .i64 ((ro (wl i)[j]:Nat):Int))) (upd X' (16 + i) ((X' (16 + i)).set j (.int .i64 ((ro (wl i)[j]:Nat):Int)))) where
 aG:=h.aG.set (by omega) hv j _
 dL:=by rw [Mm ro wl hj];exact h.dL.one hi
 only:=fun k hk=>by rw [aa _ _ (by omega)];exact h.only k hk
 bD:=h.bD.setCell (h.aG.al (16 + i) (by omega) g (by rw [hv];rfl)) _
 Jf:=h.Jf.set (k:=16 + i) (by omega) hv j _
structure ShT (Z:Nat->Prop) (sb:Nat) (w:World) (K n:Nat) (f V:Nat->Value) (X:Nat->List Value) (wl:Nat->List Nat) (tr ch:List Nat) (lev:Nat->Nat) (rea:Nat->Int) (G C OB N:Nat) (ro:Nat->Nat) (Lv:Nat->Prop) (i:Nat) (wr:World) (X':Nat->List Value):Prop where
 aG:aQ Z sb wr K f V X'
 dL:jm n V X' (BS ro wl (2 * n) 0)
 dx:iW n X' tr ch lev (CV ro tr rea i)
 only:∀ k,k < 16->k ≠ 5->X' k=X k
 bD:aC Z w wr
 Jf:Rn K V G C OB N ro Lv wr
theorem ShT.later {i:Nat} {X':Nat->List Value} (h:ShT Z sb w K n f V X wl tr ch lev rea G C OB N ro Lv i wr X') (hb:Below wr.heap.size wr w'):ShT Z sb w K n f V X wl tr ch lev rea G C OB N ro Lv i w' X':={ h with
 aG:=h.aG.later hb
 bD:=h.bD.trans (aC.of_below hb)
 Jf:=h.Jf.later hb }
theorem ShT.skip {i:Nat} {X':Nat->List Value} (h:ShT Z sb w K n f V X wl tr ch lev rea G C OB N ro Lv i wr X') (hi:i < tr.length) (hr:rea (tr[i] / 2)=-1):ShT Z sb w K n f V X wl tr ch lev rea G C OB N ro Lv (i + 1) wr X':={ h with
 dx:=by rw [Nl ro hi hr];exact h.dx }
theorem ShT.step {i:Nat} {X':Nat->List Value} {g m c:Nat} (h:ShT Z sb w K n f V X wl tr ch lev rea G C OB N ro Lv i wr X') (hi:i < tr.length) (hv:tr[i] / 2 < n) (hr:rea (tr[i] / 2) ≠ -1) (h5:V 5=.slice (some ⟨g,0,none⟩) m c):
  ShT Z sb w K n f V X wl tr ch lev rea G C OB N ro Lv (i + 1) (wr.setCell ⟨g,tr[i] / 2,none⟩ (.int .i64 ((ro (rea (tr[i] / 2)).toNat:Nat):Int))) (upd X' 5 ((X' 5).set (tr[i] / 2) (.int .i64 ((ro (rea (tr[i] / 2)).toNat:Nat):Int)))) where
 aG:=h.aG.set (k:=5) (by have:=h.aG.hK;omega) h5 _ _
 dL:=by
  refine h.dL.congr (aa _ _ (by decide)) (fun x hx=>rfl) fun x hx=>aa _ _ (by omega)
 dx:=by rw [Si ro hi hr];exact h.dx.rea1 hv _
 only:=fun k hk h5=>by rw [aa _ _ h5];exact h.only k hk h5
 bD:=h.bD.setCell (h.aG.al 5 (by have:=h.aG.hK;omega) g (by rw [h5];rfl)) _
 Jf:=h.Jf.set (k:=5) (by have:=h.aG.hK;omega) h5 _ _
end
section
open Go Go.RowKit Go.Deep Rd
variable {Z:Nat->Prop} {sb K n:Nat} {w w' wr:World} {f V:Nat->Value} {X:Nat->List Value} {cs gD:List Rec} {tr ch:List Nat} {lev:Nat->Nat} {rea:Nat->Int} {wl:Nat->List Nat}
def Rl (cs:List Rec) (a:Nat):Prop:=∃ k,∃ hk:k < cs.length,a=aj cs k/\(cs[k]).kind ≠ 2
def Vh (Z:Nat->Prop) (sb:Nat) (w:World) (K n:Nat) (f V:Nat->Value) (X:Nat->List Value) (cs:List Rec) (wl:Nat->List Nat) (tr ch:List Nat) (lev:Nat->Nat) (rea:Nat->Int) (w':World):Prop:=
 aC Z w w'/\∃ (gD:List Rec) (v0:Value) (X':Nat->List Value),bU cs gD/\(∀ i (h:i < gD.length) (h':i < cs.length),(cs[i]).kind ≠ 2->(gD[i]).busy=(((enc (iF cs i)).length:Nat):Int))/\aQ Z sb w' K (upd (upd f 2 v0) 4 (.int .i64 0)) (upd V 0 v0) X'/\X' 0=ints (enc (u7 cs))/\iW n X' tr ch lev (CV (sG gD) tr rea tr.length)/\jm n (upd V 0 v0) X' (fun x=>(wl x).map (sG gD))/\∀ k,k < 16->k ≠ 0->k ≠ 5->X' k=X k
theorem Am (h:aQ Z sb w K f V X) (h0:X 0=ints (enc cs)) (hN:(enc cs).length <= 1099511627776) (hp:0 < cs.length) (lc ws:Nat) (f3:f 3=.int .i64 ((lc:Nat):Int)) (f4:f 4=.int .i64 ((ws:Nat):Int)) (hws:ws <= (enc cs).length)
  (hT:iW n X tr ch lev rea) (ht:fM n tr ch lev) (hW:jm n V X wl) (hK2:K=16 + 2 * n) (hn:n <= 50) (hn0:0 < n) (hlv:∀ x,x < 2 * n->∀ a ∈ wl x,Rl cs a) (hlen:∀ x,x < 2 * n->(wl x).length <= 1099511627776) (hre:∀ i (hi:i < tr.length),rea (tr[i] / 2) ≠ -1->∃ a:Nat,rea (tr[i] / 2)=(a:Int)/\Rl cs a):
  Calls Tryz.prog 190 #[.pointer (some ⟨sb,0,none⟩)] w fun e w'=>e=.returned (.tuple #[])/\Vh Z sb w K n f V X cs wl tr ch lev rea w':=by
 have QC:=hide (Ao h h0 hN hp lc ws f3 f4 hws);have HT:=hide hT;have HW:=hide hW;have UC:=hide ht;have htl:tr.length <= n:=ht.len;clear h hT hW ht;go_enter Tryz.func190,Tryz.ntmps190
 go_upto_region 1 with (go_at_call 225;(with_reducible refine QC.out.mono ?_);rintro e2 w2 ⟨G,C,OB,gD,v0,rfl,hs2⟩;have HS:=hide hs2;clear hs2 QC;simp only [])
 have CL:=hide HS.out.Jf;have L0:Hid (Xr Z sb w K n (upd (upd f 2 v0) 4 (.int .i64 0)) (upd V 0 v0) (upd X 0 (ints (enc (u7 cs)))) wl G C OB (enc cs).length (sG gD) (Rl cs) 0 0 w2 (upd X 0 (ints (enc (u7 cs))))):={
  aG:=HS.out.aG
  dL:=by
   rw [Ml];exact HW.out.congr (aa _ _ (by decide)) (fun x hx=>aa _ _ (by omega)) (fun x hx=>aa _ _ (by omega))
  only:=fun _ _=>rfl
  bD:=HS.out.bD
  Jf:=CL.out }
 have FIN:Hid (∀ wr X',ShT Z sb w K n (upd (upd f 2 v0) 4 (.int .i64 0)) (upd V 0 v0) (upd X 0 (ints (enc (u7 cs)))) wl tr ch lev rea G C OB (enc cs).length (sG gD) (Rl cs) tr.length wr X'->Vh Z sb w K n f V X cs wl tr ch lev rea wr):=fun wr X' H=>by
  refine ⟨H.bD,gD,v0,X',HS.out.PV,fun i a1 a2 a3=>HS.out.Xd i a1 a2 a2 a3,H.aG,?_,H.dx,⟨H.dL.n9,H.dL.hd,fun x hx=>?_⟩,fun k h1 h2 h3=>?_⟩
  ·rw [H.only 0 (by decide) (by decide),ae]
  ·rw [H.dL.row x hx,Rw _ _ hx]
  ·rw [H.only k h1 h3,aa _ _ h2]
 have T1:Hid (iW n (upd X 0 (ints (enc (u7 cs)))) tr ch lev rea):=HT.out.congr fun k h1 h2=>aa _ _ (by omega)
 clear HS CL HT HW h0 f3 f4;generalize upd (upd f 2 v0) 4 (.int .i64 0)=f1 at *
 generalize upd V 0 v0=V1 at *
 generalize upd X 0 (ints (enc (u7 cs)))=X1 at *
 generalize sG gD=ro at *
 generalize (enc cs).length=N at *
 obtain ⟨g9,c9,_,_,e9,-,q9,-⟩:=L0.out.dL.at' L0.out.aG hK2 (x:=0) (by omega)
 go_upto_region 2 with fail
 clear q9;go_loopw [19] (fun iv wr=>∃ (i:Nat) (X':Nat->List Value),iv=.int .i64 ((i:Nat):Int)/\i <= 2 * n/\Hid (Xr Z sb w K n f1 V1 X1 wl G C OB N ro (Rl cs) i 0 wr X')) (fun iv _=>2 * n - (intOf iv).toNat)
 case atStart=>exact ⟨0,X1,rfl,Nat.zero_le _,L0⟩
 case round=>
  clear L0;obtain ⟨i,X',rfl,hil,hst⟩:=hrel;by_cases hlt:i < 2 * n
  ·have hi0:(0:Int) <= (i:Int):=by omega
   have hi1:(i:Int) < 2 * (n:Int):=by omega
   obtain ⟨g9',c9',wa,wc,Xb,ex,-,r9,-,-,-,-,own⟩:=hst.out.dL.at' hst.out.aG hK2 hlt;rw [Ir] at ex r9 own;rw [e9] at Xb;obtain ⟨y1,_,y3⟩:=Value.slice.inj Xb;obtain rfl:g9=g9':=by have:=Option.some.inj y1;simpa using this
   clear Xb y1 y3;obtain ⟨g,hal⟩:∃ g,0 < (wl i).length->wa=some ⟨g,0,none⟩:=by
    rcases own.2 with ⟨e',hz⟩ | ⟨g',cap',cur',e',_⟩
    ·exact ⟨0,fun h=>by omega⟩
    ·exact ⟨g',fun _=>(Value.slice.inj e').1⟩
   have hln:=hlen i hlt;clear own;have EX:=hide ex;have XI:=hide hal;clear ex hal;go_upto_region 5 with fail
   clear r9;go_loopw [25] (fun jv wr=>∃ (j:Nat) (X':Nat->List Value),jv=.int .i64 ((j:Nat):Int)/\j <= (wl i).length/\Hid (Xr Z sb w K n f1 V1 X1 wl G C OB N ro (Rl cs) i j wr X')) (fun jv _=>(wl i).length - (intOf jv).toNat)
   case atStart=>exact ⟨0,X',rfl,Nat.zero_le _,hst⟩
   case round=>
    clear hst;obtain ⟨j,X2,rfl,hjl,hst⟩:=hrel;by_cases hjt:j < (wl i).length
    ·obtain rfl:=XI.out (by omega)
     have hj0:(0:Int) <= (j:Int):=by omega
     have hj1:(j:Int) < ((wl i).length:Int):=by omega
     obtain ⟨r1,r2⟩:=hst.out.aG.bC.cell (k:=16 + i) (by omega) EX.out (j:=j) (by rw [hst.out.dL.row i hlt,ag,Ir];exact hjt)
     rw [hst.out.dL.row i hlt] at r1;have r3:wr.cell? ⟨g,j,none⟩=some (.int .i64 (((wl i)[j]:Nat):Int)):=by
      rw [r1];unfold au;rw [List.getElem?_map,Vy ro wl hjt];rfl
     have QN:=hide (IL hst.out.Jf hN (hlv i hlt _ (List.getElem_mem hjt)));have NX:=hide (hst.out.step hK2 hlt hjt EX.out);clear r1 hst;generalize ro (wl i)[j]=z at *
     generalize (wl i)[j]=y at *
     go_wp2_with (go_at_call 243;(with_reducible refine QN.out.mono ?_);rintro e3 w3 ⟨rfl,rfl⟩;simp only [])
     go_roundw
     case rel=>exact ⟨j + 1,_,by go_num,hjt,NX⟩
     case measure=>simp [intOf];omega
    ·have ej:j=(wl i).length:=by omega
     have NX:Hid (Xr Z sb w K n f1 V1 X1 wl G C OB N ro (Rl cs) (i + 1) 0 wr X2):=by
      have h:=hst.out;exact { h with dL:=by rw [<- Mo,<- ej];exact h.dL }
     have hj1:¬ (j:Int) < ((wl i).length:Int):=by omega
     clear hst;go_wp2;go_roundw
     case rel=>exact ⟨i + 1,X2,by go_num,hlt,NX⟩
     case measure=>simp [intOf];omega
  ·have ei:i=2 * n:=by omega
   have hi1:¬ (i:Int) < 2 * (n:Int):=by omega
   have T0:Hid (ShT Z sb w K n f1 V1 X1 wl tr ch lev rea G C OB N ro (Rl cs) 0 wr X'):={
    aG:=hst.out.aG
    dL:=by rw [<- ei];exact hst.out.dL
    dx:=by rw [Nk];exact T1.out.congr fun k h1 h2=>hst.out.only k (by omega)
    only:=fun k h1 _=>hst.out.only k h1
    bD:=hst.out.bD
    Jf:=hst.out.Jf }
   have hK:=hst.out.aG.hK;obtain ⟨a1,c1,e1⟩:=T0.out.aG.bC.shape (k:=1) (by omega)
   have q1:=(T0.out.aG.hd (k:=1) (by omega)).1
   rw [T0.out.dx.l1,ag] at e1;rw [show cellOf 1=6 from rfl,e1] at q1
   have E1:=hide e1;clear hst T1 e1 ei;go_upto_region 11 with fail
   clear q1;go_loopw [44] (fun iv wr=>∃ (m:Nat) (X':Nat->List Value),iv=.int .i64 ((m:Nat):Int)/\m <= tr.length/\Hid (ShT Z sb w K n f1 V1 X1 wl tr ch lev rea G C OB N ro (Rl cs) m wr X')) (fun iv _=>tr.length - (intOf iv).toNat)
   case atStart=>exact ⟨0,X',rfl,Nat.zero_le _,T0⟩
   case round=>
    clear T0;obtain ⟨m,X2,rfl,Ua,hst⟩:=hrel;by_cases hmt:m < tr.length
    ·have hm0:(0:Int) <= (m:Int):=by omega
     have hm1:(m:Int) < (tr.length:Int):=by omega
     obtain ⟨g1,cp1,cur,eb,-,-,-⟩:=hst.out.aG.bC.block (k:=1) (by omega) (by rw [hst.out.dx.l1,ag];omega)
     rw [E1.out] at eb;obtain rfl:=(Value.slice.inj eb).1;clear eb;obtain ⟨r1,-⟩:=hst.out.aG.bC.cell (k:=1) (by omega) E1.out (j:=m) (by rw [hst.out.dx.l1,ag];exact hmt)
     rw [hst.out.dx.l1,eH tr m hmt] at r1;have hx2:tr[m] < 2 * n:=UC.out.lt _ (List.getElem_mem hmt);have hv:tr[m] / 2 < n:=by omega
     obtain ⟨g5,c5,t5,e5,q5,r5,s5,z5,-⟩:=hst.out.aG.elem (k:=5) (j:=tr[m] / 2) (by omega) hst.out.dx.n5 hv
     rw [show cellOf 5=11 from rfl] at q5
     rw [hst.out.dx.t5 _ hv,VQ UC.out ro hmt] at s5;obtain rfl:=Option.some.inj s5;have QV:=hide (fun Y=>bF (tr[m]) Y (by omega))
     have v00:(0:Int) <= ((tr[m] / 2:Nat):Int):=by omega
     have v11:((tr[m] / 2:Nat):Int) < (n:Int):=by omega
     by_cases hr:rea (tr[m] / 2)=-1
     ·have NX:=hide (hst.out.skip hmt hr);rw [hr] at r5;clear hst;generalize tr[m] / 2=v at *
      generalize tr[m]=y at *
      go_wp2_with (go_at_call 176;(with_reducible refine (QV.out _).mono ?_);rintro e3 w3 ⟨rfl,rfl⟩;simp only [])
      go_roundw
      case rel=>exact ⟨m + 1,_,by go_num,hmt,NX⟩
      case measure=>simp [intOf];omega
     ·obtain ⟨a,ea,la⟩:=hre m hmt hr;have SD:=hst.out.later (Below.refl _ _).drew;have QN:=hide (IL SD.Jf hN la);have NX:=hide (SD.step hmt hv hr e5);rw [ea,Int.toNat_natCast] at NX;rw [ea] at r5;have hne:(((a:Nat):Int) == -1)=false:=by simp
      clear hst SD hr e5;generalize ro a=z at *
      generalize tr[m] / 2=v at *
      generalize tr[m]=y at *
      go_upto_region 15 with (go_at_call 176;(with_reducible refine (QV.out _).mono ?_);rintro e3 w3 ⟨rfl,h7⟩;(have h8:=h7.symm);subst h8;clear h7;simp only [])
      go_region_law (go_simp;go_at_call 243;(with_reducible refine QN.out.mono ?_);rintro e7 w7 ⟨rfl,rfl⟩)
      all_goals
       go_wp2;go_roundw
       case rel=>exact ⟨m + 1,_,by go_num,hmt,NX⟩
       case measure=>simp [intOf];omega
    ·have em:m=tr.length:=by omega
     have hm1:¬ (m:Int) < (tr.length:Int):=by omega
     subst em;have FR:=hide (FIN.out _ _ hst.out);clear hst FIN Ua hmt htl E1 hK2;go_wp2;go_end0;exact ⟨rfl,FR.out⟩
end
section
open Go Go.RowKit Go.Deep Rd
variable {Z:Nat->Prop} {sb ob hb kb n:Nat} {L0:List Cl} {N0:Nat} {w w':World} {s:St}
theorem Jo.NV {C C':eX} {ro:Nat->Nat} (h:Jo L0 C) (hm:Fs C C' ro):Jo L0 C':=fun c hc=>by
 rcases h c hc with h1 | ⟨a,d,h1,h2,h3⟩
 ·exact .inl h1
 ·exact .inr ⟨ro a,d,hm.to' a d h1 (by omega),h2,h3⟩
theorem Al (hn:n <= 50) (hn0:0 < n):xP Z sb ob hb kb n L0 N0:=fun w s h hr hp hN=>by
 have hp':0 < s.cs.length:=by
  rcases Nat.eq_zero_or_pos s.cs.length with e | e
  ·have e1:s.cs=[]:=List.eq_nil_of_length_eq_zero e;rw [h.uJ,e1] at hp;exact absurd hp (by decide)
  ·exact e
 have hmem:∀ x,x < 2 * n->∀ a ∈ s.wl x,Rl s.cs a:=fun x hx a ha=>by
  obtain ⟨c,⟨g1,g2,_⟩,_⟩:=h.pi.kT.lists x hx a ha;obtain ⟨k,hk,e,rfl⟩:=aN g1;exact ⟨k,hk,e,g2⟩
 refine (Am (n:=n) (wl:=s.wl) (tr:=s.tr) (ch:=s.ch) (lev:=s.lev) (rea:=s.rea) h.aI.duo.aG h.x0 hN hp' s.lc s.ws h.f3 h.f4 (by rw [h.uJ];exact Ab _) h.dx h.pi.aI h.dL rfl hn hn0 hmem (fun x hx=>?_) (fun i hi hq=>?_)).mono ?_
 ·refine Nat.le_trans (Dn (h.pi.kT.nodup x hx) (N:=(enc s.cs).length) fun a ha=>?_) (by omega)
  obtain ⟨k,hk,rfl,_⟩:=hmem x hx a ha;have:=bA hk;omega
 ·obtain ⟨a,c,e,g1,g2⟩:=h.pi.lK.live hi hq;obtain ⟨k,hk,e',rfl⟩:=aN g1;exact ⟨a,e,k,hk,e',g2⟩
 ·rintro e w' ⟨rfl,hc,gD,v0,X',hb,hd,hS,hx0,hT,hW,hO⟩;have hm:=Td hb hd;have fx:∀ j,j ≠ 2->j ≠ 4->(upd (upd s.f 2 v0) 4 (.int .i64 0)) j=s.f j:=fun j a b=>by rw [aa _ _ b,aa _ _ a]
  obtain ⟨t1,t2⟩:=h.aI.dH hS hc (fx 12 (by decide) (by decide))
  refine ⟨rfl,t2,{ s with cs:=u7 s.cs,rea:=CV (sG gD) s.tr s.rea s.tr.length,wl:=fun x=>(s.wl x).map (sG gD),f:=upd (upd s.f 2 v0) 4 (.int .i64 0),V:=upd s.V 0 v0,X:=X',ws:=0,Rs:=(fun g=>zz s.Rs w g/\g < w'.heap.size),Rd:=(fun g=>zz s.Rd w g/\g < w'.heap.size) },{
   aI:=t1
   pi:={
    aI:=h.pi.aI
    lK:=h.pi.lK.Wj hm
    jc:=h.pi.jc.NV hm
    kT:=h.pi.kT.NV hm h.pi.jc (fun x hx=>rfl)
    uo:=h.pi.uo.NV hm }
   x0:=hx0
   dx:=hT
   dL:=hW
   lam:=h.lam.congr (hO 6 (by decide) (by decide) (by decide))
   n10:=by show (X' 10).length=n;rw [hO 10 (by decide) (by decide) (by decide)];exact h.n10
   lD:=by
    obtain ⟨fol,hf⟩:=h.lD;exact ⟨fol,hf.congr (hO 11 (by decide) (by decide) (by decide))⟩
   f0:=(fx 0 (by decide) (by decide)).trans h.f0
   f3:=(fx 3 (by decide) (by decide)).trans h.f3
   f4:=by show (upd (upd s.f 2 v0) 4 (.int .i64 0)) 4=.int .i64 ((0:Nat):Int);rw [ae];rfl
   f7:=(fx 7 (by decide) (by decide)).trans h.f7
   f14:=(fx 14 (by decide) (by decide)).trans h.f14
   f18:=(fx 18 (by decide) (by decide)).trans h.f18
   f20:=(fx 20 (by decide) (by decide)).trans h.f20
   f21:=(fx 21 (by decide) (by decide)).trans h.f21
   ze:=h.ze
   late:=h.late
   nH:=h.nH
   yf:=fun hb=>(h.yf hb).NV hm
   bad:=h.bad
   lines:=h.lines
   wK:=h.wK
   qG:=by show tQ s.L (kz (u7 s.cs));rw [Tq];exact h.qG
   Cc:=h.Cc.NV hm
   num:=by
    show (enc (u7 s.cs)).length <= _
    exact Nat.le_trans Tt h.num
   uM:=by show (bJ s.ls).length + 125 * eQ (u7 s.cs) <= _;rw [DC];exact h.uM
   cnt:=by show s.lc=eQ (u7 s.cs);rw [DC];exact h.cnt
   uJ:=Og.symm
   dI:=h.dI
   lcm:=h.lcm
   km:=h.km
   n30:=h.n30 },hr,rfl,rfl,rfl,rfl,rfl⟩
theorem Ej (hn:n <= 50) (hn0:0 < n):rV Z sb ob hb kb n L0 N0 (fun s=>N0 + 33 * s.m <= 1099511627776/\s.m <= 137438953472/\s.mo <= 4611686018427387904):=G5 (Al hn hn0) hn hn0
end
end So
end Go.Proofs.YtceahffmenbibaaGreatDoor
