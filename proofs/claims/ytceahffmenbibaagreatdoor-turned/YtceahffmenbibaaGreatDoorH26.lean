/- Snsv. -/
import Derived.Test.YtceahffmenbibaaGreatDoorH25
set_option linter.unusedVariables false
set_option linter.unusedSimpArgs false
set_option maxHeartbeats 8000000
set_option maxRecDepth 100000
namespace Go.Proofs.YtceahffmenbibaaGreatDoor
namespace So
section
open Go Go.RowKit Go.Deep Rd
section
variable {Z:Nat->Prop} {n sb ob hb kb gW g1 g2 g3 gL gS gF:Nat}
theorem Sg {i:Nat} (h:i <= 50):IntKind.i64.wrap (-((i:Int) + 1))=-((i:Int) + 1):=by
 rw [IntKind.wrap_i64];omega
def Nv (Z:Nat->Prop) (w:World) (lv:Value) (L:List Cl):Prop:=∃ (a:Option Addr) (c b:Nat),lv=.slice a L.length c/\(0 < L.length->a=some ⟨b,0,none⟩/\b < w.heap.size/\¬ Z b)/\∀ i (hi:i < L.length),∃ (ai:Option Addr) (ci bi:Nat),w.cell? ⟨b,i,none⟩=some (.slice ai (L[i]).length ci)/\(0 < (L[i]).length->ai=some ⟨bi,0,none⟩)/\bi < w.heap.size/\¬ Z bi/\∀ j (hj:j < (L[i]).length),w.cell? ⟨bi,j,none⟩=some (.int .i64 (L[i])[j])
def Vj (Z:Nat->Prop) (kb n:Nat) (L:List Cl) (N0:Nat) (w:World) (e:Ending) (w':World):Prop:=∃ sb ob hb brk s,e=.returned (.pointer (some ⟨sb,0,none⟩))/\dB Z w w'/\Main Z sb ob hb kb n L N0 brk w' s/\Ready s/\s.k=0/\s.m=0/\s.r=1/\s.lc=0/\s.mo=100
def zV (L:List Cl):Nat:=(L.map fun c=>3 + c.length).sum
theorem Pf (L:List Cl) (c:Cl):zV (L ++ [c])=zV L + 3 + c.length:=by simp [zV];omega
theorem Pe (L:List Cl) (i:Nat):zV (L.take i) <= zV L:=by
 conv=>rhs;rw [<- List.take_append_drop i L]
 unfold zV;rw [List.map_append,List.sum_append];omega
structure Vk (Z:Nat->Prop) (sb ob hb kb n:Nat) (w:World) (gW g1 g2 g3 gL gS gF:Nat) (Ro Rk:Nat->Prop) (i:Nat) (wr:World):Prop where
 ex:∃ Rs Rd,rq Z sb ob hb kb n wr (16 + 2 * n) (VP (.iface 105 (.pointer (some ⟨kb,0,none⟩))) n ob gW g1 g2 g3 gL gS gF) (J6 (.iface 105 (.pointer (some ⟨kb,0,none⟩))) n ob gW g1 g2 g3 gL gS gF) (kY n i) (fun v=>n <= v) [] Rs Ro Rd Rk
 eO:dB Z w wr
theorem Vk.step {w wr wx:World} {s v:Nat->Prop} {i:Nat} (h:Vk Z sb ob hb kb n w gW g1 g2 g3 gL gS gF s v i wr) (hi:i < n) (a:Below wr.heap.size wr wx):
  wr.cell? ⟨sb,13,none⟩=some (.slice (some ⟨gL,0,none⟩) n n)/\(∃ u,wr.cell? ⟨gL,i,none⟩=some u)/\wr.frozen? ⟨gL,i,none⟩=false/\Vk Z sb ob hb kb n w gW g1 g2 g3 gL gS gF s v (i + 1) (wx.setCell ⟨gL,i,none⟩ (.int .i64 ((2 * i + 1:Nat):Int))):=by
 obtain ⟨K,L,T⟩:=h.ex;have d:J6 (.iface 105 (.pointer (some ⟨kb,0,none⟩))) n ob gW g1 g2 g3 gL gS gF 6=.slice (some ⟨gL,0,none⟩) n n:=rfl;have m:(kY n i 6).length=n:=by simp [kY]
 obtain ⟨g,D,t,e,q,r,H,z,E,_⟩:=T.duo.dF.elem (k:=6) (j:=i) (by omega) m hi;rw [d] at e;obtain ⟨y,_,x⟩:=Value.slice.inj e;obtain rfl:gL=g:=by have:=Option.some.inj y;exact congrArg Addr.block this
 subst x;have f:=T.later a;obtain ⟨C,p,G,o,J,I,B,F,b,_⟩:=f.duo.dF.elem (k:=6) (j:=i) (by omega) m hi;rw [d] at o;obtain ⟨c,_,_⟩:=Value.slice.inj o;obtain rfl:gL=C:=by have:=Option.some.inj c;exact congrArg Addr.block this
 obtain ⟨l,A⟩:=f.gK (f.duo.dF.set (k:=6) (by omega) d i (.int .i64 ((2 * i + 1:Nat):Int))) ((dB.refl _).setCell b _) rfl;rw [TD n i hi] at l;exact ⟨q,⟨_,r⟩,z,⟨⟨_,_,l⟩,(h.eO.trans (dB.of_below a)).trans A⟩⟩
theorem Vk.later {w wr wx:World} {b c:Nat->Prop} {i:Nat} (h:Vk Z sb ob hb kb n w gW g1 g2 g3 gL gS gF b c i wr) (a:Below wr.heap.size wr wx):Vk Z sb ob hb kb n w gW g1 g2 g3 gL gS gF b c i wx:=by
 obtain ⟨d,e,T⟩:=h.ex;exact ⟨⟨d,e,T.later a⟩,h.eO.trans (dB.of_below a)⟩
theorem Nv.at {w wr:World} {lv:Value} {L:List Cl} (h:Nv Z w lv L) (d:dB Z w wr):Nv Z wr lv L:=by
 obtain ⟨a,c,b,t,e,s⟩:=h;refine ⟨a,c,b,t,fun f=>⟨(e f).1,Nat.lt_of_lt_of_le (e f).2.1 d.size,(e f).2.2⟩,fun i r=>?_⟩;obtain ⟨x,ci,g,p,o,l,k,m⟩:=s i r;obtain ⟨_,v,u⟩:=e (by omega);refine ⟨x,ci,g,?_,o,Nat.lt_of_lt_of_le l d.size,k,fun j q=>?_⟩
 ·rw [World.cell?_of_block (w:=w) (a:=⟨b,i,none⟩) (d.block b v u)];exact p
 ·rw [World.cell?_of_block (w:=w) (a:=⟨g,j,none⟩) (d.block g l k)];exact m j q
structure YX (Z:Nat->Prop) (sb ob hb kb n:Nat) (L:List Cl) (w:World) (i:Nat) (wr:World):Prop where
 ex:∃ brk s,Main Z sb ob hb kb n (L.take i) (zV (L.take i)) brk wr s/\Pre s
 eO:dB Z w wr
theorem VO {w c d f i aL b e j a:World} {iv:Value} {o p lv:Nat} (G:n <= 50)
  (R:Made c g1 3 (2 * n) b/\Made c g2 3 n b/\Made c g3 3 n b/\g1 ≠ g2/\g1 ≠ g3/\g2 ≠ g3/\Below c.heap.size c b)
  (Q:iP (fun g=>d.heap.size <= g) ob hb n e (fun v=>n <= v)/\Below d.heap.size d e)
  (P:f.heap.size <= gS/\f.heap.size <= gF/\gS ≠ gF/\Below f.heap.size f j/\j.rowIs gS 4 n (fun _=>.bool false)/\j.rowIs gF 4 n (fun _=>.bool false))
  (fW:Later (i.alloc (.cells (madeCells #[.slice none 0 0] (2 * n)) 43)) a) (fL:Later (aL.alloc (.cells (madeCells #[.int .i64 0] n) 3)) a) (H:Later b a) (J:Later e a) (I:Later j a)
  (C:Later w c) (E:Later w d) (D:Later w f) (B:Later w i) (F:Later w aL) (O:Later b d) (S:Later e f)
  (N:Later (i.alloc (.cells (madeCells #[.slice none 0 0] (2 * n)) 43)) d\/Later e i) (U:Later (aL.alloc (.cells (madeCells #[.int .i64 0] n) 3)) d\/Later e aL) (LT:Later (aL.alloc (.cells (madeCells #[.int .i64 0] n) 3)) c\/Later b aL) (M:o=a.heap.size) (L:p=i.heap.size) (K:lv=aL.heap.size):
  ∃ m q r s A z y u t x k l,Value.pointer (some ⟨o,0,none⟩)=.pointer (some ⟨m,0,none⟩)/\Hid (WE w n iv m q r s A z y u t x k l (a.alloc (.cells #[iv,.slice none 0 0,.slice none 0 0,.int .i64 0,.int .i64 0,.slice (some ⟨p,0,none⟩) (2 * n) (2 * n),.slice none 0 0,.int .i64 0,.slice none 0 0,.slice (some ⟨g1,0,none⟩) (2 * n) (2 * n),.slice (some ⟨g2,0,none⟩) n n,.slice (some ⟨g3,0,none⟩) n n,.pointer (some ⟨ob,0,none⟩),.slice (some ⟨lv,0,none⟩) n n,.bool false,.slice none 0 0,.slice (some ⟨gS,0,none⟩) n n,.slice (some ⟨gF,0,none⟩) n n,.int .i64 100,.slice none 0 0,.int .i64 0,.int .i64 0] 167))):=by
 subst M L K;obtain ⟨k,l,h⟩:=TB (iv:=iv) G R Q P H J I fW fL C E D B F O S N U LT;exact ⟨_,_,_,_,_,_,_,_,_,_,k,l,rfl,h⟩
theorem Ae (f:n <= 50) (aa:n <= 30) (w:World) (lv:Value) (L:List Cl) (hL:Nv Z w lv L) (hz:∀ c ∈ L,∀ x ∈ c,lW n x) (hl:∀ c ∈ L,c.length <= 20001) (hm:L.length <= 20001) (hk:nR Z kb w []) (hN:zV L <= 1000000000000):Calls Tryz.prog 56 #[.int .i64 (n:Nat),lv,.iface 105 (.pointer (some ⟨kb,0,none⟩))] w fun e h=>Vj Z kb n L (zV L) w e h:=by
 have O:=run_make_row' (P:=Tryz.prog) 43 3 (.int .i64 0) 8 Tryz.underlying43 Tryz.fO rfl .i64 .i64 n (by omega) (by omega);have u:=run_make_row' (P:=Tryz.prog) 32 43 (.slice none 0 0) 24 Tryz.underlying32 Tryz.MK rfl .i64 .i64 (2 * n) (by omega) (by omega);have e2:((2 * n:Nat):Int)=2 * (n:Int):=by omega
 rw [e2] at u;have S:IntKind.i64.wrap (2 * (n:Int))=2 * (n:Int):=vR _ (by omega) (by omega);have QT:=hide (fun wx=>CU n f wx);have QO:=hide (fun wx=>CX n f wx);have QL:=hide (fun wx=>Af n f wx);have HL:=hide hL;obtain ⟨la,lc,lb,rfl,V,-⟩:=hL;have HK:=hide hk;have HZ:=hide hz;have t:=hide hl;clear hk hz hl V;go_enter Tryz.func56,Tryz.ntmps56
 go_upto_region 1 with fail
 go_cut [7] from 27 (fun s7 wx=>∃ sb ob hb gW g1 g2 g3 gL gS gF J K,s7=.pointer (some ⟨sb,0,none⟩)/\Hid (WE w n (.iface 105 (.pointer (some ⟨kb,0,none⟩))) sb ob hb gW g1 g2 g3 gL gS gF J K wx))
 case first=>
  clear HL HK HZ t
  go_region_with (first | (go_at_call 92;refine (QT.out _).mono ?_;rintro e7 I ⟨g1,g2,g3,rfl,t7⟩;have T7:=hide t7;clear t7;simp only []) | (go_at_call 93;refine (QO.out _).mono ?_;rintro e8 w8 ⟨ob,hb,rfl,t8⟩;have T8:=hide t8;clear t8;simp only []) | (go_at_call 94;refine (QL.out _).mono ?_;rintro e9 w9 ⟨gS,gF,rfl,t9⟩;have T9:=hide t9;clear t9;simp only []))
  all_goals
   go_wp2_with fail
   go_meet;have H:Later _ I:=T7.out.2.2.2.2.2.2
   have G:Later _ w8:=T8.out.2;have E:Later _ w9:=T9.out.2.2.2.1;apply VO f T7.out T8.out T9.out
   case fW=>(repeat first | exact Later.refl _ | refine Later.alloc ?_ _ | refine Later.drew ?_ | refine Later.trans' ?_ H | refine Later.trans' ?_ G | refine Later.trans' ?_ E)
   case fL=>(repeat first | exact Later.refl _ | refine Later.alloc ?_ _ | refine Later.drew ?_ | refine Later.trans' ?_ H | refine Later.trans' ?_ G | refine Later.trans' ?_ E)
   all_goals first | ((repeat first | exact Later.refl _ | refine Later.alloc ?_ _ | refine Later.drew ?_ | refine Later.trans' ?_ H | refine Later.trans' ?_ G | refine Later.trans' ?_ E);done) | (left;(repeat first | exact Later.refl _ | refine Later.alloc ?_ _ | refine Later.drew ?_ | refine Later.trans' ?_ H | refine Later.trans' ?_ G | refine Later.trans' ?_ E);done) | (right;(repeat first | exact Later.refl _ | refine Later.alloc ?_ _ | refine Later.drew ?_ | refine Later.trans' ?_ H | refine Later.trans' ?_ G | refine Later.trans' ?_ E);done) | rfl | simp
 case rest=>
  obtain ⟨sb,ob,hb,gW,g1,g2,g3,gL,gS,gF,J,K,rfl,o⟩:=hcut;have M:Hid (Vk Z sb ob hb kb n w gW g1 g2 g3 gL gS gF (fun g=>J <= g/\g < K) (fun g=>Z g/\g < w.heap.size) 0 wc):=⟨⟨_,_,o.out.dI f HK.out⟩,dB.of_below o.out.mO⟩;generalize (fun g=>J <= g/\g < K)=Ro at M;generalize (fun g=>Z g/\g < w.heap.size)=Rk at M;clear o QT QO QL O u S e2 HK;go_wp2_with fail
  go_loopw [8,27] (fun _ l wr=>∃ i:Nat,l=.int .i64 ((i:Nat):Int)/\i <= n/\Hid (Vk Z sb ob hb kb n w gW g1 g2 g3 gL gS gF Ro Rk i wr)) (fun _ l _=>n - (intOf l).toNat)
  case atStart=>exact ⟨0,rfl,zl,M⟩
  case round=>
   clear M;obtain ⟨i,rfl,af,a⟩:=hrel;by_cases b:i < n
   ·obtain ⟨ac,⟨u6,r6⟩,z6,-⟩:=a.out.step (wx:=wr) b bR;have NX:=hide (fun wx (hb':Below wr.heap.size wr wx)=>(a.out.step b hb').2.2.2);have QQ:=hide (fun Y=>oL (-((i:Int) + 1)) Y (by omega) (by omega) (by omega));rw [show lit (-((i:Int) + 1))=2 * i + 1 by unfold lit;rw [if_pos (by omega)];omega] at QQ;have i0:(0:Int) <= (i:Int):=by omega
    have i1:(i:Int) < (n:Int):=by omega
    have i2:(i:Int) <= 50:=by omega
    have U:IntKind.i64.wrap ((i:Int) + 1)=(i:Int) + 1:=vR _ (by omega) (by omega);have R:=Sg (i:=i) (by omega);clear a;generalize (2 * i + 1:Nat)=lx at NX QQ;go_upto_region 5 with fail
    go_region_with (go_at_call 95;(try rw [U]);(try rw [R]);with_reducible refine (QQ.out _).mono ?_;rintro e7 I ⟨rfl,rfl⟩;simp only [])
    all_goals
     go_wp2_with fail
     go_roundw
     case rel=>exact ⟨i + 1,by go_num,b,(NX.out _ bR).later bR.drew⟩
     case measure=>simp [intOf];omega
   ·have e:i=n:=by omega
    subst e;have S1:Hid (YX Z sb ob hb kb i L w 0 wr):=by
     obtain ⟨Rs,Rd,T⟩:=a.out.ex;obtain ⟨s,m,p⟩:=TC f aa T;exact ⟨⟨false,s,m,p⟩,a.out.eO⟩
    clear a;go_wp2_with fail
    go_loopw [10,43] (fun _ k wr=>∃ j:Nat,k=.int .i64 ((j:Nat):Int)/\j <= L.length/\Hid (YX Z sb ob hb kb i L w j wr)) (fun _ k _=>L.length - (intOf k).toNat)
    case atStart=>exact ⟨0,rfl,zl,S1⟩
    case round=>
     clear S1;obtain ⟨j,rfl,ae,a⟩:=hrel;by_cases b:j < L.length
     ·obtain ⟨a',c',b',e',B,z⟩:=HL.out.at a.out.eO;obtain ⟨y1,_,_⟩:=Value.slice.inj e';obtain ⟨y,X,W⟩:=B (by omega);rw [y] at y1;subst y1;obtain ⟨ai,ci,bi,k1,k2,k3,k4,k5⟩:=z j b;have QG:Hid (Calls Tryz.prog 96 #[.pointer (some ⟨sb,0,none⟩),.slice ai (L[j]).length ci] wr fun e h=>e=.returned (.tuple #[])/\YX Z sb ob hb kb i L w (j + 1) h):=by
       obtain ⟨D,s,m,p⟩:=a.out.ex;have v:=m.num;rw [p.m] at v;have ad:=Pe L j;refine (Qa m p f (by omega) ai bi 0 ci k2 k3 (fun q hq=>by rw [Nat.zero_add];exact k5 q hq) (HZ.out _ (List.getElem_mem b)) (t.out _ (List.getElem_mem b))).mono ?_;rintro e h ⟨rfl,ge⟩;refine ⟨rfl,?_⟩;obtain ⟨c,C,N,Q,p'⟩:=ge;have e:L.take (j + 1)=L.take j ++ [L[j]]:=by rw [List.take_add_one,List.getElem?_eq_getElem b];rfl
       refine ⟨⟨C,N,?_,p'⟩,a.out.eO.trans c⟩;rw [e,Pf];exact Q
      have j0:(0:Int) <= (j:Int):=by omega
      have j1:(j:Int) < (L.length:Int):=by omega
      have j2:(j:Int) <= 20001:=by omega
      generalize (L[j]).length=lj at k1 QG;clear a B z k2 k3 k4 k5 e' X W y;go_wp2_with (go_at_call 96;with_reducible refine QG.out.mono ?_;rintro e7 I ⟨rfl,d⟩;have G7:=hide d;clear d;simp only [])
      go_roundw
      case rel=>exact ⟨j + 1,by go_num,b,G7⟩
      case measure=>simp [intOf];omega
     ·have e:j=L.length:=by omega
      subst e;have ab:Hid (Calls Tryz.prog 97 #[.pointer (some ⟨sb,0,none⟩)] wr fun e h=>e=.returned (.tuple #[])/\Vj Z kb i L (zV L) w (.returned (.pointer (some ⟨sb,0,none⟩))) h):=by
       obtain ⟨D,s,m,p⟩:=a.out.ex;rw [List.take_length] at m;refine (zD m (by unfold Ready;rw [p.P,p.sp]) f (by rw [p.r];decide)).mono ?_;rintro e h ⟨rfl,c,N,Q,r',a1,a2,a3,a4,a5⟩;exact ⟨rfl,sb,ob,hb,D,N,rfl,a.out.eO.trans c,Q,r',a2,by rw [a3,p.m],by rw [a1,p.r],by rw [a5,p.lc],by rw [a4,p.mo]⟩
      clear a HL HZ t;go_wp2_with (go_at_call 97;with_reducible refine ab.out.mono ?_;rintro e7 I ⟨rfl,d⟩;have G7:=hide d;clear d;simp only [])
      go_ret
      exact G7.out
end
end
end So
end Go.Proofs.YtceahffmenbibaaGreatDoor
