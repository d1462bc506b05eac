/- Snsv Tsem Srun. -/
import Derived.Test.YtceahffmenbibaaGreatDoorG38
set_option linter.unusedVariables false
set_option linter.unusedSimpArgs false
set_option maxHeartbeats 8000000
set_option maxRecDepth 100000
namespace Go.Proofs.YtceahffmenbibaaGreatDoor
namespace So
section
open Go Go.RowKit Go.Deep Rd
variable {Z:Nat->Prop} {n sb ob hb kb gW g1 g2 g3 gL gS gF:Nat}
theorem Rv {i:Nat} (h:i <= 50):IntKind.i64.wrap (-((i:Int) + 1))=-((i:Int) + 1):=by
 rw [IntKind.wrap_i64];omega
def Mg (Z:Nat->Prop) (w:World) (lv:Value) (L:List Cl):Prop:=∃ (a:Option Addr) (c b:Nat),lv=.slice a L.length c/\(0 < L.length->a=some ⟨b,0,none⟩/\b < w.heap.size/\¬ Z b)/\∀ i (hi:i < L.length),∃ (ai:Option Addr) (ci bi:Nat),w.cell? ⟨b,i,none⟩=some (.slice ai (L[i]).length ci)/\(0 < (L[i]).length->ai=some ⟨bi,0,none⟩)/\bi < w.heap.size/\¬ Z bi/\∀ j (hj:j < (L[i]).length),w.cell? ⟨bi,j,none⟩=some (.int .i64 (L[i])[j])
def Vm (Z:Nat->Prop) (kb n:Nat) (L:List Cl) (N0:Nat) (w:World) (e:Ending) (w':World):Prop:=∃ sb ob hb brk s,e=.returned (.pointer (some ⟨sb,0,none⟩))/\aC Z w w'/\Main Z sb ob hb kb n L N0 brk w' s/\Ready s/\s.k=0/\s.m=0/\s.r=1/\s.lc=0/\s.mo=100
def yw (L:List Cl):Nat:=(L.map fun c=>3 + c.length).sum
theorem NN (L:List Cl) (c:Cl):yw (L ++ [c])=yw L + 3 + c.length:=by simp [yw];omega
theorem NM (L:List Cl) (i:Nat):yw (L.take i) <= yw L:=by
 conv=>rhs;rw [<- List.take_append_drop i L]
 unfold yw;rw [List.map_append,List.sum_append];omega
structure Vn (Z:Nat->Prop) (sb ob hb kb n:Nat) (w:World) (gW g1 g2 g3 gL gS gF:Nat) (Ro Rk:Nat->Prop) (i:Nat) (wr:World):Prop where
 ex:∃ Rs Rd,oJ Z sb ob hb kb n wr (16 + 2 * n) (We (.iface 105 (.pointer (some ⟨kb,0,none⟩))) n ob gW g1 g2 g3 gL gS gF) (IK (.iface 105 (.pointer (some ⟨kb,0,none⟩))) n ob gW g1 g2 g3 gL gS gF) (iJ n i) (fun v=>n <= v) [] Rs Ro Rd Rk
 bD:aC Z w wr
theorem Vn.step {w wr wx:World} {Ro Rk:Nat->Prop} {i:Nat} (h:Vn Z sb ob hb kb n w gW g1 g2 g3 gL gS gF Ro Rk i wr) (hi:i < n) (hb':Below wr.heap.size wr wx):
  wr.cell? ⟨sb,13,none⟩=some (.slice (some ⟨gL,0,none⟩) n n)/\(∃ u,wr.cell? ⟨gL,i,none⟩=some u)/\wr.frozen? ⟨gL,i,none⟩=false/\Vn Z sb ob hb kb n w gW g1 g2 g3 gL gS gF Ro Rk (i + 1) (wx.setCell ⟨gL,i,none⟩ (.int .i64 ((2 * i + 1:Nat):Int))):=by
 obtain ⟨Rs,Rd,T⟩:=h.ex;have e6:IK (.iface 105 (.pointer (some ⟨kb,0,none⟩))) n ob gW g1 g2 g3 gL gS gF 6=.slice (some ⟨gL,0,none⟩) n n:=rfl;have l6:(iJ n i 6).length=n:=by simp [iJ]
 obtain ⟨g,cap,t,e,q,r,r2,z,zg,_⟩:=T.duo.aG.elem (k:=6) (j:=i) (by omega) l6 hi
 rw [e6] at e;obtain ⟨y1,_,y3⟩:=Value.slice.inj e;obtain rfl:gL=g:=by have:=Option.some.inj y1;exact congrArg Addr.block this
 subst y3;have T2:=T.later hb';obtain ⟨g',cap',t',e',q',r',r2',z',zg',_⟩:=T2.duo.aG.elem (k:=6) (j:=i) (by omega) l6 hi
 rw [e6] at e';obtain ⟨y1',_,_⟩:=Value.slice.inj e';obtain rfl:gL=g':=by have:=Option.some.inj y1';exact congrArg Addr.block this
 obtain ⟨t1,t2⟩:=T2.dH (T2.duo.aG.set (k:=6) (by omega) e6 i (.int .i64 ((2 * i + 1:Nat):Int))) ((aC.refl _).setCell zg' _) rfl
 rw [SL n i hi] at t1;exact ⟨q,⟨_,r⟩,z,⟨⟨_,_,t1⟩,(h.bD.trans (aC.of_below hb')).trans t2⟩⟩
theorem Vn.later {w wr wx:World} {Ro Rk:Nat->Prop} {i:Nat} (h:Vn Z sb ob hb kb n w gW g1 g2 g3 gL gS gF Ro Rk i wr) (hb':Below wr.heap.size wr wx):Vn Z sb ob hb kb n w gW g1 g2 g3 gL gS gF Ro Rk i wx:=by
 obtain ⟨Rs,Rd,T⟩:=h.ex;exact ⟨⟨Rs,Rd,T.later hb'⟩,h.bD.trans (aC.of_below hb')⟩
theorem Mg.at {w wr:World} {lv:Value} {L:List Cl} (h:Mg Z w lv L) (hc:aC Z w wr):Mg Z wr lv L:=by
 obtain ⟨a,c,b,h1,h2,h3⟩:=h;refine ⟨a,c,b,h1,fun hp=>⟨(h2 hp).1,Nat.lt_of_lt_of_le (h2 hp).2.1 hc.size,(h2 hp).2.2⟩,fun i hi=>?_⟩
 obtain ⟨ai,ci,bi,k1,k2,k3,k4,k5⟩:=h3 i hi;obtain ⟨_,b1,b2⟩:=h2 (by omega)
 refine ⟨ai,ci,bi,?_,k2,Nat.lt_of_lt_of_le k3 hc.size,k4,fun j hj=>?_⟩
 ·rw [World.cell?_of_block (w:=w) (a:=⟨b,i,none⟩) (hc.block b b1 b2)];exact k1
 ·rw [World.cell?_of_block (w:=w) (a:=⟨bi,j,none⟩) (hc.block bi k3 k4)];exact k5 j hj
structure GiS (Z:Nat->Prop) (sb ob hb kb n:Nat) (L:List Cl) (w:World) (i:Nat) (wr:World):Prop where
 ex:∃ brk s,Main Z sb ob hb kb n (L.take i) (yw (L.take i)) brk wr s/\Pre s
 bD:aC Z w wr
theorem Wd {w aT aO aS aW aL w7 w8 w9 wz:World} {iv:Value} {sv gv lv:Nat} (hn:n <= 50)
  (T7:Made aT g1 3 (2 * n) w7/\Made aT g2 3 n w7/\Made aT g3 3 n w7/\g1 ≠ g2/\g1 ≠ g3/\g2 ≠ g3/\Below aT.heap.size aT w7)
  (T8:eU (fun g=>aO.heap.size <= g) ob hb n w8 (fun v=>n <= v)/\Below aO.heap.size aO w8)
  (T9:aS.heap.size <= gS/\aS.heap.size <= gF/\gS ≠ gF/\Below aS.heap.size aS w9/\w9.rowIs gS 4 n (fun _=>.bool false)/\w9.rowIs gF 4 n (fun _=>.bool false))
  (fW:Later (aW.alloc (.cells (madeCells #[.slice none 0 0] (2 * n)) 43)) wz) (fL:Later (aL.alloc (.cells (madeCells #[.int .i64 0] n) 3)) wz) (fT:Later w7 wz) (fO:Later w8 wz) (fS:Later w9 wz)
  (oT:Later w aT) (oO:Later w aO) (oS:Later w aS) (oW:Later w aW) (oL:Later w aL) (TO:Later w7 aO) (OS:Later w8 aS)
  (WO:Later (aW.alloc (.cells (madeCells #[.slice none 0 0] (2 * n)) 43)) aO\/Later w8 aW) (LO:Later (aL.alloc (.cells (madeCells #[.int .i64 0] n) 3)) aO\/Later w8 aL) (LT:Later (aL.alloc (.cells (madeCells #[.int .i64 0] n) 3)) aT\/Later w7 aL) (e1:sv=wz.heap.size) (e2:gv=aW.heap.size) (e3:lv=aL.heap.size):
  ∃ xs xo xh xW x1 x2 x3 xL xS xF lo hi,Value.pointer (some ⟨sv,0,none⟩)=.pointer (some ⟨xs,0,none⟩)/\Hid (Xy w n iv xs xo xh xW x1 x2 x3 xL xS xF lo hi (wz.alloc (.cells #[iv,.slice none 0 0,.slice none 0 0,.int .i64 0,.int .i64 0,.slice (some ⟨gv,0,none⟩) (2 * n) (2 * n),.slice none 0 0,.int .i64 0,.slice none 0 0,.slice (some ⟨g1,0,none⟩) (2 * n) (2 * n),.slice (some ⟨g2,0,none⟩) n n,.slice (some ⟨g3,0,none⟩) n n,.pointer (some ⟨ob,0,none⟩),.slice (some ⟨lv,0,none⟩) n n,.bool false,.slice none 0 0,.slice (some ⟨gS,0,none⟩) n n,.slice (some ⟨gF,0,none⟩) n n,.int .i64 100,.slice none 0 0,.int .i64 0,.int .i64 0] 167))):=by
 subst e1 e2 e3;obtain ⟨lo,hi,h⟩:=SA (iv:=iv) hn T7 T8 T9 fT fO fS fW fL oT oO oS oW oL TO OS WO LO LT;exact ⟨_,_,_,_,_,_,_,_,_,_,lo,hi,rfl,h⟩
theorem yx (hn:n <= 50) (Va:n <= 30) (w:World) (lv:Value) (L:List Cl) (hL:Mg Z w lv L) (hz:∀ c ∈ L,∀ x ∈ c,jo n x) (hl:∀ c ∈ L,c.length <= 20001) (hm:L.length <= 20001) (hk:ky Z kb w []) (hN:yw L <= 1000000000000):Calls Tryz.prog 56 #[.int .i64 (n:Nat),lv,.iface 105 (.pointer (some ⟨kb,0,none⟩))] w fun e w'=>Vm Z kb n L (yw L) w e w':=by
 have NY:=run_make_row' (P:=Tryz.prog) 43 3 (.int .i64 0) 8 Tryz.underlying43 Tryz.cu rfl .i64 .i64 n (by omega) (by omega)
 have UR:=run_make_row' (P:=Tryz.prog) 32 43 (.slice none 0 0) 24 Tryz.underlying32 Tryz.KP rfl .i64 .i64 (2 * n) (by omega) (by omega)
 have e2:((2 * n:Nat):Int)=2 * (n:Int):=by omega
 rw [e2] at UR;have hw2:IntKind.i64.wrap (2 * (n:Int))=2 * (n:Int):=tY _ (by omega) (by omega)
 have QT:=hide (fun wx=>AU n hn wx)
 have QO:=hide (fun wx=>AX n hn wx)
 have QL:=hide (fun wx=>yz n hn wx)
 have HL:=hide hL;obtain ⟨la,lc,lb,rfl,hlb,-⟩:=hL;have HK:=hide hk;have HZ:=hide hz;have Ym:=hide hl;clear hk hz hl hlb;go_enter Tryz.func56,Tryz.ntmps56
 go_upto_region 1 with fail
 go_cut [7] from 27 (fun s7 wx=>∃ sb ob hb gW g1 g2 g3 gL gS gF lo hi,s7=.pointer (some ⟨sb,0,none⟩)/\Hid (Xy w n (.iface 105 (.pointer (some ⟨kb,0,none⟩))) sb ob hb gW g1 g2 g3 gL gS gF lo hi wx))
 case first=>
  clear HL HK HZ Ym
  go_region_with (first | (go_at_call 92;refine (QT.out _).mono ?_;rintro e7 w7 ⟨g1,g2,g3,rfl,t7⟩;have T7:=hide t7;clear t7;simp only []) | (go_at_call 93;refine (QO.out _).mono ?_;rintro e8 w8 ⟨ob,hb,rfl,t8⟩;have T8:=hide t8;clear t8;simp only []) | (go_at_call 94;refine (QL.out _).mono ?_;rintro e9 w9 ⟨gS,gF,rfl,t9⟩;have T9:=hide t9;clear t9;simp only []))
  all_goals
   go_wp2_with fail
   go_meet;have B7:Later _ w7:=T7.out.2.2.2.2.2.2
   have B8:Later _ w8:=T8.out.2;have B9:Later _ w9:=T9.out.2.2.2.1;apply Wd hn T7.out T8.out T9.out
   case fW=>(repeat first | exact Later.refl _ | refine Later.alloc ?_ _ | refine Later.drew ?_ | refine Later.trans' ?_ B7 | refine Later.trans' ?_ B8 | refine Later.trans' ?_ B9)
   case fL=>(repeat first | exact Later.refl _ | refine Later.alloc ?_ _ | refine Later.drew ?_ | refine Later.trans' ?_ B7 | refine Later.trans' ?_ B8 | refine Later.trans' ?_ B9)
   all_goals first | ((repeat first | exact Later.refl _ | refine Later.alloc ?_ _ | refine Later.drew ?_ | refine Later.trans' ?_ B7 | refine Later.trans' ?_ B8 | refine Later.trans' ?_ B9);done) | (left;(repeat first | exact Later.refl _ | refine Later.alloc ?_ _ | refine Later.drew ?_ | refine Later.trans' ?_ B7 | refine Later.trans' ?_ B8 | refine Later.trans' ?_ B9);done) | (right;(repeat first | exact Later.refl _ | refine Later.alloc ?_ _ | refine Later.drew ?_ | refine Later.trans' ?_ B7 | refine Later.trans' ?_ B8 | refine Later.trans' ?_ B9);done) | rfl | simp
 case rest=>
  obtain ⟨sb,ob,hb,gW,g1,g2,g3,gL,gS,gF,lo,hi,rfl,hns⟩:=hcut;have S0:Hid (Vn Z sb ob hb kb n w gW g1 g2 g3 gL gS gF (fun g=>lo <= g/\g < hi) (fun g=>Z g/\g < w.heap.size) 0 wc):=⟨⟨_,_,hns.out.aI hn HK.out⟩,aC.of_below hns.out.jK⟩
  generalize (fun g=>lo <= g/\g < hi)=Ro at S0
  generalize (fun g=>Z g/\g < w.heap.size)=Rk at S0
  clear hns QT QO QL NY UR hw2 e2 HK;go_wp2_with fail
  go_loopw [8,27] (fun _ VN wr=>∃ i:Nat,VN=.int .i64 ((i:Nat):Int)/\i <= n/\Hid (Vn Z sb ob hb kb n w gW g1 g2 g3 gL gS gF Ro Rk i wr)) (fun _ VN _=>n - (intOf VN).toNat)
  case atStart=>exact ⟨0,rfl,Nat.zero_le _,S0⟩
  case round=>
   clear S0;obtain ⟨i,rfl,hin,hst⟩:=hrel;by_cases hlt:i < n
   ·obtain ⟨q13,⟨u6,r6⟩,z6,-⟩:=hst.out.step (wx:=wr) hlt (Below.refl _ _);have NX:=hide (fun wx (hb':Below wr.heap.size wr wx)=>(hst.out.step hlt hb').2.2.2)
    have QQ:=hide (fun Y=>kY (-((i:Int) + 1)) Y (by omega) (by omega) (by omega))
    rw [show lit (-((i:Int) + 1))=2 * i + 1 by unfold lit;rw [if_pos (by omega)];omega] at QQ
    have i0:(0:Int) <= (i:Int):=by omega
    have i1:(i:Int) < (n:Int):=by omega
    have i2:(i:Int) <= 50:=by omega
    have hw1:IntKind.i64.wrap ((i:Int) + 1)=(i:Int) + 1:=tY _ (by omega) (by omega)
    have hw3:=Rv (i:=i) (by omega)
    clear hst;generalize (2 * i + 1:Nat)=lx at NX QQ;go_upto_region 5 with fail
    go_region_with (go_at_call 95;(try rw [hw1]);(try rw [hw3]);with_reducible refine (QQ.out _).mono ?_;rintro e7 w7 ⟨rfl,rfl⟩;simp only [])
    all_goals
     go_wp2_with fail
     go_roundw
     case rel=>exact ⟨i + 1,by go_num,hlt,(NX.out _ (Below.refl _ _)).later (Below.refl _ _).drew⟩
     case measure=>simp [intOf];omega
   ·have e:i=n:=by omega
    subst e;have S1:Hid (GiS Z sb ob hb kb i L w 0 wr):=by
     obtain ⟨Rs,Rd,T⟩:=hst.out.ex;obtain ⟨s,m,p⟩:=SK hn Va T;exact ⟨⟨false,s,m,p⟩,hst.out.bD⟩
    clear hst;go_wp2_with fail
    go_loopw [10,43] (fun _ s43 wr=>∃ j:Nat,s43=.int .i64 ((j:Nat):Int)/\j <= L.length/\Hid (GiS Z sb ob hb kb i L w j wr)) (fun _ s43 _=>L.length - (intOf s43).toNat)
    case atStart=>exact ⟨0,rfl,Nat.zero_le _,S1⟩
    case round=>
     clear S1;obtain ⟨j,rfl,hjl,hst⟩:=hrel;by_cases hlt:j < L.length
     ·obtain ⟨a',c',b',e',h2',h3'⟩:=HL.out.at hst.out.bD;obtain ⟨y1,_,_⟩:=Value.slice.inj e';obtain ⟨ha',hb1,hb2⟩:=h2' (by omega)
      rw [ha'] at y1;subst y1;obtain ⟨ai,ci,bi,k1,k2,k3,k4,k5⟩:=h3' j hlt;have QG:Hid (Calls Tryz.prog 96 #[.pointer (some ⟨sb,0,none⟩),.slice ai (L[j]).length ci] wr fun e w'=>e=.returned (.tuple #[])/\GiS Z sb ob hb kb i L w (j + 1) w'):=by
       obtain ⟨brk,s,m,p⟩:=hst.out.ex;have OI:=m.num;rw [p.m] at OI;have hle:=NM L j;refine (OY m p hn (by omega) ai bi 0 ci k2 k3 (fun q hq=>by rw [Nat.zero_add];exact k5 q hq) (HZ.out _ (List.getElem_mem hlt)) (Ym.out _ (List.getElem_mem hlt))).mono ?_
       rintro e w' ⟨rfl,ge⟩;refine ⟨rfl,?_⟩;obtain ⟨c,brk',s',m',p'⟩:=ge;have e:L.take (j + 1)=L.take j ++ [L[j]]:=by rw [List.take_add_one,List.getElem?_eq_getElem hlt];rfl
       refine ⟨⟨brk',s',?_,p'⟩,hst.out.bD.trans c⟩;rw [e,NN];exact m'
      have j0:(0:Int) <= (j:Int):=by omega
      have j1:(j:Int) < (L.length:Int):=by omega
      have j2:(j:Int) <= 20001:=by omega
      generalize (L[j]).length=lj at k1 QG;clear hst h2' h3' k2 k3 k4 k5 e' hb1 hb2 ha';go_wp2_with (go_at_call 96;with_reducible refine QG.out.mono ?_;rintro e7 w7 ⟨rfl,KY⟩;have G7:=hide KY;clear KY;simp only [])
      go_roundw
      case rel=>exact ⟨j + 1,by go_num,hlt,G7⟩
      case measure=>simp [intOf];omega
     ·have e:j=L.length:=by omega
      subst e;have QBG:Hid (Calls Tryz.prog 97 #[.pointer (some ⟨sb,0,none⟩)] wr fun e w'=>e=.returned (.tuple #[])/\Vm Z kb i L (yw L) w (.returned (.pointer (some ⟨sb,0,none⟩))) w'):=by
       obtain ⟨brk,s,m,p⟩:=hst.out.ex;rw [List.take_length] at m;refine (xJ m (by unfold Ready;rw [p.P,p.sp]) hn (by rw [p.r];decide)).mono ?_
       rintro e w' ⟨rfl,c,s',m',r',a1,a2,a3,a4,a5⟩;exact ⟨rfl,sb,ob,hb,brk,s',rfl,hst.out.bD.trans c,m',r',a2,by rw [a3,p.m],by rw [a1,p.r],by rw [a5,p.lc],by rw [a4,p.mo]⟩
      clear hst HL HZ Ym;go_wp2_with (go_at_call 97;with_reducible refine QBG.out.mono ?_;rintro e7 w7 ⟨rfl,KY⟩;have G7:=hide KY;clear KY;simp only [])
      go_ret
      exact G7.out
end
end So
namespace So
section
open Rd
def LJ (t:Nat->Bool) (l:Int):Prop:=l ≠ 0/\t l.natAbs=decide (0 < l)
def Sat (t:Nat->Bool) (L:List Cl):Prop:=∀ c ∈ L,∃ l ∈ c,LJ t l
def Nz (c:Cl):Prop:=∀ l ∈ c,l ≠ 0
variable {t:Nat->Bool} {L:List Cl} {c:Cl}
theorem Ck (t:Nat->Bool):Cons (LJ t):=fun l h1 h2=>by
 have a:=h1.2;have b:=h2.2;rw [Int.natAbs_neg,a] at b;have:=h1.1;have:=decide_eq_decide.1 b;omega
theorem Ae {l:Int} (h0:l ≠ 0) (h:¬ LJ t l):LJ t (-l):=by
 refine ⟨by omega,?_⟩
 rw [Int.natAbs_neg];have h1:¬ t l.natAbs=decide (0 < l):=fun e=>h ⟨h0,e⟩
 have e:decide (0 < -l)=!decide (0 < l):=by
  by_cases g:0 < l
  ·rw [decide_eq_true g,decide_eq_false (by omega)];rfl
  ·rw [decide_eq_false g,decide_eq_true (by omega)];rfl
 rw [e];generalize t l.natAbs=a at h1 ⊢;generalize decide (0 < l)=b at h1 ⊢;cases a <;> cases b <;> simp_all
theorem Sat.stable (h:Sat t L):Stable L (LJ t):=fun c hc=>.inl (h c hc)
theorem ry {c:Cl} {b x:Int}:x ∈ IE c b↔∃ l ∈ c,l ≠ b/\x=-l:=by
 unfold IE;rw [List.mem_map];constructor
 ·rintro ⟨l,hl,rfl⟩;obtain ⟨h1,h2⟩:=List.mem_filter.1 hl;exact ⟨l,h1,by simpa using h2,rfl⟩
 ·rintro ⟨l,h1,h2,rfl⟩;exact ⟨l,List.mem_filter.2 ⟨h1,by simpa using h2⟩,rfl⟩
theorem Sb (h:Sat t L) (hc:nJ L (IE c 0)):∃ l ∈ c,LJ t l:=by
 refine Classical.byContradiction fun hn=>?_
 refine hc (LJ t) (Ck t) (fun x hx=>?_) h.stable
 obtain ⟨l,h1,h2,rfl⟩:=ry.1 hx;exact Ae h2 fun g=>hn ⟨l,h1,g⟩
theorem sH (h:Sat t L) (hz:∀ d ∈ L,Nz d) (hc:Nz c) (hr:bH L c):∃ t',Sat t' (L ++ [c]):=by
 by_cases hm:∃ l ∈ c,LJ t l
 ·refine ⟨t,fun d hd=>?_⟩
  rcases List.mem_append.1 hd with hd | hd
  ·exact h d hd
  ·rw [List.mem_singleton.1 hd];exact hm
 ·rcases hr with hr | ⟨l,r,e,hr⟩
  ·exact absurd (Sb h hr) hm
  ·subst e;have l0:=hc l (List.mem_cons_self ..);have self:LJ (fun v=>if v=l.natAbs then decide (0 < l) else t v) l:=⟨l0,by simp⟩
   have other:∀ x,x.natAbs ≠ l.natAbs->LJ t x->LJ (fun v=>if v=l.natAbs then decide (0 < l) else t v) x:=fun x hx g=>⟨g.1,by simp only [if_neg hx];exact g.2⟩
   refine ⟨fun v=>if v=l.natAbs then decide (0 < l) else t v,fun d hd=>?_⟩
   rcases List.mem_append.1 hd with hd | hd
   ·by_cases Ua:-l ∈ d
    ·have hcf:=hr d hd Ua;have:∃ x ∈ d,x ≠ -l/\LJ t x:=by
      refine Classical.byContradiction fun hn=>?_
      refine hcf (LJ t) (Ck t) (fun x hx=>?_) h.stable
      rcases List.mem_append.1 hx with hx | hx
      ·obtain ⟨y,h1,h2,rfl⟩:=ry.1 hx;exact Ae h2 fun g=>hm ⟨y,h1,g⟩
      ·obtain ⟨y,h1,h2,rfl⟩:=ry.1 hx;exact Ae (hz d hd y h1) fun g=>hn ⟨y,h1,h2,g⟩
     obtain ⟨x,h1,h2,h3⟩:=this;by_cases hx:x.natAbs=l.natAbs
     ·have:x=l:=by omega
      subst this;exact ⟨x,h1,self⟩
     ·exact ⟨x,h1,other x hx h3⟩
    ·obtain ⟨x,h1,h2⟩:=h d hd;by_cases hx:x.natAbs=l.natAbs
     ·have:x=l:=by
       rcases Int.natAbs_eq_natAbs_iff.1 hx with e | e
       ·exact e
       ·exact absurd (e ▸ h1) Ua
      subst this;exact ⟨x,h1,self⟩
     ·exact ⟨x,h1,other x hx h2⟩
   ·rw [List.mem_singleton.1 hd];exact ⟨l,List.mem_cons_self ..,self⟩
theorem Au:∀ {L:List Cl} {c:Cl} {L':List Cl},rem L c=some L'->∀ d ∈ L',d ∈ L
 | [],c,L',h,d,hd=>by simp [rem] at h
 | e :: r,c,L',h,d,hd=>by
  unfold rem at h;split at h
  ·cases h;exact List.mem_cons_of_mem _ hd
  ·cases hr:rem r c with
   | none=>rw [hr] at h;cases h
   | some M=>
    rw [hr] at h;cases h
    rcases List.mem_cons.1 hd with rfl | hd
    ·exact List.mem_cons_self ..
    ·exact List.mem_cons_of_mem _ (Au hr d hd)
end
section
open Go Go.RowKit Go.Deep Rd
variable {Z:Nat->Prop} {sb ob hb kb n:Nat} {L0:List Cl} {N0:Nat} {brk:Bool} {w w':World} {s:St}
theorem Ol {β:Type} (p:β->Prop) (f:β->Nat) (h:∃ b,p b):∃ m,(∃ b,p b/\f b=m)/\∀ b,p b->m <= f b:=by
 obtain ⟨b,hb⟩:=h;have:∀ k,∀ b,p b->f b <= k->∃ m,(∃ b,p b/\f b=m)/\∀ b,p b->m <= f b:=by
  intro k
  induction k with
  | zero=>intro b hb hk;exact ⟨f b,⟨b,hb,rfl⟩,fun c _=>by omega⟩
  | succ k ih=>
   intro b hb hk;by_cases hx:∃ c,p c/\f c <= k
   ·obtain ⟨c,hc,hck⟩:=hx;exact ih c hc hck
   ·refine ⟨f b,⟨b,hb,rfl⟩,fun c hc=>?_⟩
    rcases Nat.lt_or_ge k (f c) with g | g
    ·omega
    ·exact absurd ⟨c,hc,g⟩ hx
 exact this (f b) b hb (Nat.le_refl _)
theorem Om {α β:Type} (p:α->β->Prop) (f:β->Nat):∃ ms:α->Nat,∀ a,(∃ b,p a b)->(∃ b,p a b/\f b=ms a)/\∀ b,p a b->ms a <= f b:=by
 have h:∀ a,∃ m,(∃ b,p a b)->(∃ b,p a b/\f b=m)/\∀ b,p a b->m <= f b:=fun a=>by
  by_cases hx:∃ b,p a b
  ·obtain ⟨m,h1⟩:=Ol (p a) f hx;exact ⟨m,fun _=>h1⟩
  ·exact ⟨0,fun h=>absurd h hx⟩
 exact ⟨fun a=>Classical.choose (h a),fun a=>Classical.choose_spec (h a)⟩
def Steps (Z:Nat->Prop) (sb ob hb kb n:Nat) (L0:List Cl) (N0:Nat) (Inv:St->Prop) (f:St->Nat) (mx:Nat):Prop:=
 ∀ brk w s,Main Z sb ob hb kb n L0 N0 brk w s->Ready s->Inv s->Calls Tryz.prog 57 #[.pointer (some ⟨sb,0,none⟩)] w fun e w'=>aC Z w w'/\((e=.returned (.tuple #[.int .i64 2,.nilIface])/\pJ Z kb n L0 mx w')\/(e=.returned (.tuple #[.int .i64 0,.nilIface])/\∃ s',Main Z sb ob hb kb n L0 N0 false w' s'/\Ready s'/\Inv s'/\f s' < f s) \/
  (e=.returned (.tuple #[.int .i64 1,.nilIface])/\∃ s',Main Z sb ob hb kb n L0 N0 false w' s'/\(∀ v,v < n->∃ x ∈ s'.tr,x / 2=v)/\s'.P=s'.tr.length/\s'.m <= mx))
def qc (L:List Cl) (vals:Nat->Bool):Prop:=Sat (fun v=>vals (v - 1)) L
theorem Kj {tr ch:List Nat} {lev:Nat->Nat} (ht:fM n tr ch lev) (h:∀ c ∈ L0,∃ y ∈ tr,wr y ∈ c):qc L0 (fun v=>decide (0 < tv tr (2 * v))):=fun c hc=>by
 obtain ⟨y,hy,hm⟩:=h c hc;refine ⟨wr y,hm,Mi y,?_⟩;by_cases e:y % 2=0
 ·have e1:wr y=((y / 2:Nat):Int) + 1:=by unfold wr;rw [if_pos e]
  have e2:2 * ((wr y).natAbs - 1)=y:=by rw [e1];omega
  show decide (0 < tv tr (2 * ((wr y).natAbs - 1)))=_
  rw [e2,Ac.2 hy,e1];simp;omega
 ·have e1:wr y=-(((y / 2:Nat):Int) + 1):=by unfold wr;rw [if_neg e]
  have e2:2 * ((wr y).natAbs - 1)=op y:=by rw [e1];unfold op;rw [if_neg e];omega
  show decide (0 < tv tr (2 * ((wr y).natAbs - 1)))=_
  rw [e2,ht.lJ.2 (by rw [gQ];exact hy),e1]
  simp;omega
def xR (Z:Nat->Prop) (kb n:Nat) (L:List Cl) (mx:Nat) (w:World) (e:Ending) (w':World):Prop:=
 aC Z w w'/\((e=.returned (.tuple #[.slice none 0 0,.bool false,.nilIface])/\pJ Z kb n L mx w') \/
  ∃ g vals l,e=.returned (.tuple #[.slice (some ⟨g,0,none⟩) n n,.bool true,.nilIface])/\w.heap.size <= g/\w'.rowIs g 4 n (fun v=>.bool (vals v))/\qc L vals/\ky Z kb w' l/\l.length <= 250 * mx)
theorem Ci (h:Main Z sb ob hb kb n L0 N0 false w s) (hn:n <= 50) (hall:∀ v,v < n->∃ x ∈ s.tr,x / 2=v) (hP:s.P=s.tr.length) (hz:∀ c ∈ L0,∀ x ∈ c,jo n x) {mx:Nat} (hm:s.m <= mx):
  Calls Tryz.prog 58 #[.pointer (some ⟨sb,0,none⟩)] w fun e w'=>∃ g vals l,e=.returned (.slice (some ⟨g,0,none⟩) n n)/\w.heap.size <= g/\w'.rowIs g 4 n (fun v=>.bool (vals v))/\qc L0 vals/\ky Z kb w' l/\l.length <= 250 * mx/\aC Z w w':=by
 refine (F6 h.aI.duo.aG h.dx h.lam.n6 hn).mono ?_;rintro e w' ⟨rfl,hb',hr⟩;have hs:=h.aI.MU.JU (Z':=Z) (fun g _ hg=>h.aI.vH h.aI.zk g hg) h.aI.az
 have Ze:=h.pi.uo;rw [hP] at Ze;have:=h.prf;exact ⟨_,_,_,rfl,Nat.le_refl _,hr,Kj h.pi.aI (h.Cc.met h.pi.aI h.pi.jc Ze (h.yf rfl) hall fun c hc x hx=>sQ (hz c hc x hx)),hs.later hb',by omega,aC.of_below hb'⟩
theorem Sd (hn:n <= 50) (Va:n <= 30) (w:World) (lv:Value) (L:List Cl) (hL:Mg Z w lv L) (hz:∀ c ∈ L,∀ x ∈ c,jo n x) (hl:∀ c ∈ L,c.length <= 20001) (hm:L.length <= 20001) (hk:ky Z kb w []) (hN:yw L <= 1000000000000) (Inv:St->Prop) (f:St->Nat) (mx:Nat) (hI:∀ s,s.k=0->s.m=0->s.r=1->s.lc=0->s.mo=100->s.ch.length <= n->Inv s) (hS:∀ sb ob hb,Steps Z sb ob hb kb n L (yw L) Inv f mx):
  Calls Tryz.prog 31 #[.int .i64 (n:Nat),lv,.iface 105 (.pointer (some ⟨kb,0,none⟩))] w fun e w'=>xR Z kb n L mx w e w':=by
 have QN:=hide (yx hn Va w lv L hL hz hl hm hk hN);obtain ⟨la,lc,lb,rfl,-⟩:=hL;have HS:=hide hS;have HI:=hide hI;have HZ:=hide hz;clear hz hl hk hS hI;go_enter Tryz.func31,Tryz.ntmps31
 go_upto_region 2 with (go_at_call 56;(with_reducible refine QN.out.mono ?_);rintro e1 w1 ⟨sb,ob,hb,brk,s,rfl,hc1,hm1,hr1,a1,a2,a3,a4,a5⟩;have C1:=hide hc1;have M1:=hide hm1;have R1:=hide hr1;have I1:=hide (HI.out s a1 a2 a3 a4 a5 hm1.pi.aI.depth);clear hc1 hm1 hr1 a1 a2 a3 a4 a5;simp only [])
 obtain ⟨ms,hms⟩:=Om (fun (wr:World) (x:Bool × St)=>Main Z sb ob hb kb n L (yw L) x.1 wr x.2/\Ready x.2/\Inv x.2/\aC Z w wr) (fun x=>f x.2)
 have HMS:=hide hms;clear hms QN;go_loopw [10,11] (fun _ _ wr=>Hid (∃ x:Bool × St,Main Z sb ob hb kb n L (yw L) x.1 wr x.2/\Ready x.2/\Inv x.2/\aC Z w wr)) (fun _ _ wr=>ms wr)
 case atStart=>exact ⟨(brk,s),M1.out,R1.out,I1.out,C1.out⟩
 case round=>
  clear M1 R1 I1 C1;obtain ⟨⟨⟨b,s1⟩,⟨m1,r1,i1,c1⟩,e1⟩,-⟩:=HMS.out wr hrel.out;have QS:Hid (Calls Tryz.prog 57 #[.pointer (some ⟨sb,0,none⟩)] wr fun e w'=>(e=.returned (.tuple #[.int .i64 2,.nilIface])/\xR Z kb n L mx w (.returned (.tuple #[.slice none 0 0,.bool false,.nilIface])) w')\/(e=.returned (.tuple #[.int .i64 0,.nilIface])/\(∃ x:Bool × St,Main Z sb ob hb kb n L (yw L) x.1 w' x.2/\Ready x.2/\Inv x.2/\aC Z w w')/\ms w' < ms wr)\/(e=.returned (.tuple #[.int .i64 1,.nilIface])/\Calls Tryz.prog 58 #[.pointer (some ⟨sb,0,none⟩)] w' fun e' w''=>∃ g,e'=.returned (.slice (some ⟨g,0,none⟩) n n)/\xR Z kb n L mx w (.returned (.tuple #[.slice (some ⟨g,0,none⟩) n n,.bool true,.nilIface])) w'')):=by
   refine (HS.out sb ob hb b wr s1 m1 r1 i1).mono ?_
   rintro e w' ⟨c2,⟨rfl,nv⟩ | ⟨rfl,s2,m2,r2,i2,lt⟩ | ⟨rfl,s2,m2,hall,hP,hmx⟩⟩
   ·exact .inl ⟨rfl,c1.trans c2,.inl ⟨rfl,nv⟩⟩
   ·have hx:∃ x:Bool × St,Main Z sb ob hb kb n L (yw L) x.1 w' x.2/\Ready x.2/\Inv x.2/\aC Z w w':=⟨(false,s2),m2,r2,i2,c1.trans c2⟩;refine .inr (.inl ⟨rfl,hx,?_⟩);have:=(HMS.out w' hx).2 (false,s2) ⟨m2,r2,i2,c1.trans c2⟩;rw [<- e1];exact Nat.lt_of_le_of_lt this lt
   ·refine .inr (.inr ⟨rfl,(Ci m2 hn hall hP HZ.out hmx).mono ?_⟩);rintro e' w'' ⟨g,vals,l,rfl,hg,hr,hmt,hs,hl,c3⟩;have:=(c1.trans c2).size;exact ⟨g,rfl,(c1.trans c2).trans c3,.inr ⟨g,vals,l,rfl,by omega,hr,hmt,hs,hl⟩⟩
  clear m1 r1 i1 c1 e1 hrel HMS HS
  go_upto_region 3 with (go_at_call 57;(with_reducible refine QS.out.mono ?_);rintro e2 w2 (⟨rfl,h2⟩ | ⟨rfl,h2,l2⟩ | ⟨rfl,h2⟩) <;> (have H2:=hide h2;clear h2;simp only []))
  ·go_wp2;go_ret3
   exact H2.out
  ·go_wp2;go_roundw
   case rel=>exact H2
   case measure=>exact l2
  ·go_wp2_with (go_at_call 58;(with_reducible refine H2.out.mono ?_);rintro e3 w3 ⟨g,rfl,h3⟩;have H3:=hide h3;clear h3;simp only [])
   go_ret3
   exact H3.out
end
end So
end Go.Proofs.YtceahffmenbibaaGreatDoor
