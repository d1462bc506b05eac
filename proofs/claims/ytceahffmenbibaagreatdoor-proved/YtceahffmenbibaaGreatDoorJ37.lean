/- Snsv. -/
import Derived.Test.YtceahffmenbibaaGreatDoorJ36
set_option linter.unusedVariables false
set_option linter.unusedSimpArgs false
set_option maxHeartbeats 8000000
set_option maxRecDepth 100000
namespace Go.Proofs.YtceahffmenbibaaGreatDoor
namespace So
section
open Go Go.RowKit Go.Deep Rd
section
variable {Z:Nat->Prop} {n sb ob hb kb gW g1 g2 g3 gL gS gF:Nat}
theorem Pb {i:Nat} (h:i <= 50):IntKind.i64.wrap (-((i:Int) + 1))=-((i:Int) + 1):=by
 rw [IntKind.wrap_i64];omega
def Lh (Z:Nat->Prop) (w:World) (lv:Value) (L:List Cl):Prop:=∃ (a:Option Addr) (c b:Nat),lv=.slice a L.length c/\(0 < L.length->a=some ⟨b,0,none⟩/\b < w.heap.size/\¬ Z b)/\∀ i (hi:i < L.length),∃ (ai:Option Addr) (ci bi:Nat),w.cell? ⟨b,i,none⟩=some (.slice ai (L[i]).length ci)/\(0 < (L[i]).length->ai=some ⟨bi,0,none⟩)/\bi < w.heap.size/\¬ Z bi/\∀ j (hj:j < (L[i]).length),w.cell? ⟨bi,j,none⟩=some (.int .i64 (L[i])[j])
def Sy (Z:Nat->Prop) (kb n:Nat) (L:List Cl) (N0:Nat) (w:World) (e:Ending) (w':World):Prop:=∃ sb ob hb brk s,e=.returned (.pointer (some ⟨sb,0,none⟩))/\dD Z w w'/\Main Z sb ob hb kb n L N0 brk w' s/\Ready s/\s.k=0/\s.m=0/\s.r=1/\s.lc=0/\s.mo=100
def Aw (L:List Cl):Nat:=(L.map fun c=>3 + c.length).sum
theorem MO (L:List Cl) (c:Cl):Aw (L ++ [c])=Aw L + 3 + c.length:=by simp [Aw];omega
theorem MN (L:List Cl) (i:Nat):Aw (L.take i) <= Aw L:=by
 conv=>rhs;rw [<- List.take_append_drop i L]
 unfold Aw;rw [List.map_append,List.sum_append];omega
structure Sz (Z:Nat->Prop) (sb ob hb kb n:Nat) (w:World) (gW g1 g2 g3 gL gS gF:Nat) (Ro Rk:Nat->Prop) (i:Nat) (wr:World):Prop where
 ex:∃ Rs Rd,sN Z sb ob hb kb n wr (16 + 2 * n) (Tu (.iface 105 (.pointer (some ⟨kb,0,none⟩))) n ob gW g1 g2 g3 gL gS gF) (IV (.iface 105 (.pointer (some ⟨kb,0,none⟩))) n ob gW g1 g2 g3 gL gS gF) (kT n i) (fun v=>n <= v) [] Rs Ro Rd Rk
 fV:dD Z w wr
theorem Sz.step {w wr wx:World} {v x:Nat->Prop} {i:Nat} (h:Sz Z sb ob hb kb n w gW g1 g2 g3 gL gS gF v x i wr) (d:i < n) (a:Below wr.heap.size wr wx):
  wr.cell? ⟨sb,13,none⟩=some (.slice (some ⟨gL,0,none⟩) n n)/\(∃ u,wr.cell? ⟨gL,i,none⟩=some u)/\wr.frozen? ⟨gL,i,none⟩=false/\Sz Z sb ob hb kb n w gW g1 g2 g3 gL gS gF v x (i + 1) (wx.setCell ⟨gL,i,none⟩ (.int .i64 ((2 * i + 1:Nat):Int))):=by
 obtain ⟨L,M,T⟩:=h.ex;have f:IV (.iface 105 (.pointer (some ⟨kb,0,none⟩))) n ob gW g1 g2 g3 gL gS gF 6=.slice (some ⟨gL,0,none⟩) n n:=rfl;have o:(kT n i 6).length=n:=by simp [kT]
 obtain ⟨g,E,t,e,q,r,I,z,F,_⟩:=T.duo.dM.elem (k:=6) (j:=i) (by omega) o d;rw [f] at e;obtain ⟨A,_,y⟩:=Value.slice.inj e;obtain rfl:gL=g:=by have:=Option.some.inj A;exact congrArg Addr.block this
 subst y;have l:=T.later a;obtain ⟨D,s,H,p,K,J,C,G,b,_⟩:=l.duo.dM.elem (k:=6) (j:=i) (by omega) o d;rw [f] at p;obtain ⟨c,_,_⟩:=Value.slice.inj p;obtain rfl:gL=D:=by have:=Option.some.inj c;exact congrArg Addr.block this
 obtain ⟨m,B⟩:=l.iL (l.duo.dM.set (k:=6) (by omega) f i (.int .i64 ((2 * i + 1:Nat):Int))) ((dD.refl _).setCell b _) rfl;rw [Qd n i d] at m;exact ⟨q,⟨_,r⟩,z,⟨⟨_,_,m⟩,(h.fV.trans (dD.of_below a)).trans B⟩⟩
theorem Sz.later {w wr wx:World} {b c:Nat->Prop} {i:Nat} (h:Sz Z sb ob hb kb n w gW g1 g2 g3 gL gS gF b c i wr) (a:Below wr.heap.size wr wx):Sz Z sb ob hb kb n w gW g1 g2 g3 gL gS gF b c i wx:=by
 obtain ⟨d,e,T⟩:=h.ex;exact ⟨⟨d,e,T.later a⟩,h.fV.trans (dD.of_below a)⟩
theorem Lh.at {w wr:World} {k:Value} {L:List Cl} (h:Lh Z w k L) (d:dD Z w wr):Lh Z wr k L:=by
 obtain ⟨a,c,b,u,e,t⟩:=h;refine ⟨a,c,b,u,fun f=>⟨(e f).1,Nat.lt_of_lt_of_le (e f).2.1 d.size,(e f).2.2⟩,fun i s=>?_⟩;obtain ⟨y,ci,g,q,p,m,l,o⟩:=t i s;obtain ⟨_,x,v⟩:=e (by omega);refine ⟨y,ci,g,?_,p,Nat.lt_of_lt_of_le m d.size,l,fun j r=>?_⟩
 ·rw [World.cell?_of_block (w:=w) (a:=⟨b,i,none⟩) (d.block b x v)];exact q
 ·rw [World.cell?_of_block (w:=w) (a:=⟨g,j,none⟩) (d.block g m l)];exact o j r
structure V8 (Z:Nat->Prop) (sb ob hb kb n:Nat) (L:List Cl) (w:World) (i:Nat) (wr:World):Prop where
 ex:∃ brk s,Main Z sb ob hb kb n (L.take i) (Aw (L.take i)) brk wr s/\Pre s
 fV:dD Z w wr
theorem Tt {w c d f i aL b e j a:World} {iv:Value} {o q p:Nat} (H:n <= 50)
  (S:Made c g1 3 (2 * n) b/\Made c g2 3 n b/\Made c g3 3 n b/\g1 ≠ g2/\g1 ≠ g3/\g2 ≠ g3/\Below c.heap.size c b)
  (R:iI (fun g=>d.heap.size <= g) ob hb n e (fun v=>n <= v)/\Below d.heap.size d e)
  (Q:f.heap.size <= gS/\f.heap.size <= gF/\gS ≠ gF/\Below f.heap.size f j/\j.rowIs gS 4 n (fun _=>.bool false)/\j.rowIs gF 4 n (fun _=>.bool false))
  (fW:Later (i.alloc (.cells (madeCells #[.slice none 0 0] (2 * n)) 43)) a) (fL:Later (aL.alloc (.cells (madeCells #[.int .i64 0] n) 3)) a) (I:Later b a) (K:Later e a) (J:Later j a)
  (D:Later w c) (F:Later w d) (E:Later w f) (C:Later w i) (G:Later w aL) (P:Later b d) (U:Later e f)
  (O:Later (i.alloc (.cells (madeCells #[.slice none 0 0] (2 * n)) 43)) d\/Later e i) (V:Later (aL.alloc (.cells (madeCells #[.int .i64 0] n) 3)) d\/Later e aL) (LT:Later (aL.alloc (.cells (madeCells #[.int .i64 0] n) 3)) c\/Later b aL) (N:o=a.heap.size) (M:q=i.heap.size) (L:p=aL.heap.size):
  ∃ m r s t B A z x u y k l,Value.pointer (some ⟨o,0,none⟩)=.pointer (some ⟨m,0,none⟩)/\Hid (Ub w n iv m r s t B A z x u y k l (a.alloc (.cells #[iv,.slice none 0 0,.slice none 0 0,.int .i64 0,.int .i64 0,.slice (some ⟨q,0,none⟩) (2 * n) (2 * n),.slice none 0 0,.int .i64 0,.slice none 0 0,.slice (some ⟨g1,0,none⟩) (2 * n) (2 * n),.slice (some ⟨g2,0,none⟩) n n,.slice (some ⟨g3,0,none⟩) n n,.pointer (some ⟨ob,0,none⟩),.slice (some ⟨p,0,none⟩) n n,.bool false,.slice none 0 0,.slice (some ⟨gS,0,none⟩) n n,.slice (some ⟨gF,0,none⟩) n n,.int .i64 100,.slice none 0 0,.int .i64 0,.int .i64 0] 167))):=by
 subst N M L;obtain ⟨k,l,h⟩:=Qb (iv:=iv) H S R Q I K J fW fL D F E C G P U O V LT;exact ⟨_,_,_,_,_,_,_,_,_,_,k,l,rfl,h⟩
theorem zC (f:n <= 50) (aa:n <= 30) (w:World) (lv:Value) (L:List Cl) (hL:Lh Z w lv L) (hz:∀ c ∈ L,∀ x ∈ c,pW n x) (hl:∀ c ∈ L,c.length <= 20001) (hm:L.length <= 20001) (hk:nE Z kb w []) (hN:Aw L <= 1000000000000):Calls Tryz.prog 56 #[.int .i64 (n:Nat),lv,.iface 105 (.pointer (some ⟨kb,0,none⟩))] w fun e h=>Sy Z kb n L (Aw L) w e h:=by
 have O:=run_make_row' (P:=Tryz.prog) 43 3 (.int .i64 0) 8 Tryz.underlying43 Tryz.gB rfl .i64 .i64 n (by omega) (by omega);have u:=run_make_row' (P:=Tryz.prog) 32 43 (.slice none 0 0) 24 Tryz.underlying32 Tryz.Ky rfl .i64 .i64 (2 * n) (by omega) (by omega);have e2:((2 * n:Nat):Int)=2 * (n:Int):=by omega
 rw [e2] at u;have S:IntKind.i64.wrap (2 * (n:Int))=2 * (n:Int):=zR _ (by omega) (by omega);have QT:=hide (fun wx=>Cg n f wx);have QO:=hide (fun wx=>Ci n f wx);have QL:=hide (fun wx=>zD n f wx);have HL:=hide hL;obtain ⟨la,lc,lb,rfl,V,-⟩:=hL;have HK:=hide hk;have HZ:=hide hz;have t:=hide hl;clear hk hz hl V;go_enter Tryz.func56,Tryz.ntmps56
 go_upto_region 1 with fail
 go_cut [7] from 27 (fun s7 wx=>∃ sb ob hb gW g1 g2 g3 gL gS gF J K,s7=.pointer (some ⟨sb,0,none⟩)/\Hid (Ub w n (.iface 105 (.pointer (some ⟨kb,0,none⟩))) sb ob hb gW g1 g2 g3 gL gS gF J K wx))
 case first=>
  clear HL HK HZ t
  go_region_with (first | (go_at_call 92;refine (QT.out _).mono ?_;rintro e7 I ⟨g1,g2,g3,rfl,t7⟩;have T7:=hide t7;clear t7;simp only []) | (go_at_call 93;refine (QO.out _).mono ?_;rintro e8 w8 ⟨ob,hb,rfl,t8⟩;have T8:=hide t8;clear t8;simp only []) | (go_at_call 94;refine (QL.out _).mono ?_;rintro e9 w9 ⟨gS,gF,rfl,t9⟩;have T9:=hide t9;clear t9;simp only []))
  all_goals
   go_wp2_with fail
   go_meet;have H:Later _ I:=T7.out.2.2.2.2.2.2
   have G:Later _ w8:=T8.out.2;have E:Later _ w9:=T9.out.2.2.2.1;apply Tt f T7.out T8.out T9.out
   case fW=>(repeat first | exact Later.refl _ | refine Later.alloc ?_ _ | refine Later.drew ?_ | refine Later.trans' ?_ H | refine Later.trans' ?_ G | refine Later.trans' ?_ E)
   case fL=>(repeat first | exact Later.refl _ | refine Later.alloc ?_ _ | refine Later.drew ?_ | refine Later.trans' ?_ H | refine Later.trans' ?_ G | refine Later.trans' ?_ E)
   all_goals first | ((repeat first | exact Later.refl _ | refine Later.alloc ?_ _ | refine Later.drew ?_ | refine Later.trans' ?_ H | refine Later.trans' ?_ G | refine Later.trans' ?_ E);done) | (left;(repeat first | exact Later.refl _ | refine Later.alloc ?_ _ | refine Later.drew ?_ | refine Later.trans' ?_ H | refine Later.trans' ?_ G | refine Later.trans' ?_ E);done) | (right;(repeat first | exact Later.refl _ | refine Later.alloc ?_ _ | refine Later.drew ?_ | refine Later.trans' ?_ H | refine Later.trans' ?_ G | refine Later.trans' ?_ E);done) | rfl | simp
 case rest=>
  obtain ⟨sb,ob,hb,gW,g1,g2,g3,gL,gS,gF,J,K,rfl,o⟩:=hcut;have M:Hid (Sz Z sb ob hb kb n w gW g1 g2 g3 gL gS gF (fun g=>J <= g/\g < K) (fun g=>Z g/\g < w.heap.size) 0 wc):=⟨⟨_,_,o.out.dN f HK.out⟩,dD.of_below o.out.ny⟩;generalize (fun g=>J <= g/\g < K)=Ro at M;generalize (fun g=>Z g/\g < w.heap.size)=Rk at M;clear o QT QO QL O u S e2 HK;go_wp2_with fail
  go_loopw [8,27] (fun _ l wr=>∃ i:Nat,l=.int .i64 ((i:Nat):Int)/\i <= n/\Hid (Sz Z sb ob hb kb n w gW g1 g2 g3 gL gS gF Ro Rk i wr)) (fun _ l _=>n - (intOf l).toNat)
  case atStart=>exact ⟨0,rfl,zl,M⟩
  case round=>
   clear M;obtain ⟨i,rfl,af,a⟩:=hrel;by_cases b:i < n
   ·obtain ⟨ac,⟨u6,r6⟩,z6,-⟩:=a.out.step (wx:=wr) b bR;have NX:=hide (fun wx (hb':Below wr.heap.size wr wx)=>(a.out.step b hb').2.2.2);have QQ:=hide (fun Y=>og (-((i:Int) + 1)) Y (by omega) (by omega) (by omega));rw [show lit (-((i:Int) + 1))=2 * i + 1 by unfold lit;rw [if_pos (by omega)];omega] at QQ;have i0:(0:Int) <= (i:Int):=by omega
    have i1:(i:Int) < (n:Int):=by omega
    have i2:(i:Int) <= 50:=by omega
    have U:IntKind.i64.wrap ((i:Int) + 1)=(i:Int) + 1:=zR _ (by omega) (by omega);have R:=Pb (i:=i) (by omega);clear a;generalize (2 * i + 1:Nat)=lx at NX QQ;go_upto_region 5 with fail
    go_region_with (go_at_call 95;(try rw [U]);(try rw [R]);with_reducible refine (QQ.out _).mono ?_;rintro e7 I ⟨rfl,rfl⟩;simp only [])
    all_goals
     go_wp2_with fail
     go_roundw
     case rel=>exact ⟨i + 1,by go_num,b,(NX.out _ bR).later bR.drew⟩
     case measure=>simp [intOf];omega
   ·have e:i=n:=by omega
    subst e;have S1:Hid (V8 Z sb ob hb kb i L w 0 wr):=by
     obtain ⟨Rs,Rd,T⟩:=a.out.ex;obtain ⟨s,m,p⟩:=Qc f aa T;exact ⟨⟨false,s,m,p⟩,a.out.fV⟩
    clear a;go_wp2_with fail
    go_loopw [10,43] (fun _ k wr=>∃ j:Nat,k=.int .i64 ((j:Nat):Int)/\j <= L.length/\Hid (V8 Z sb ob hb kb i L w j wr)) (fun _ k _=>L.length - (intOf k).toNat)
    case atStart=>exact ⟨0,rfl,zl,S1⟩
    case round=>
     clear S1;obtain ⟨j,rfl,ae,a⟩:=hrel;by_cases b:j < L.length
     ·obtain ⟨a',c',b',e',B,z⟩:=HL.out.at a.out.fV;obtain ⟨y1,_,_⟩:=Value.slice.inj e';obtain ⟨y,X,W⟩:=B (by omega);rw [y] at y1;subst y1;obtain ⟨ai,ci,bi,k1,k2,k3,k4,k5⟩:=z j b;have QG:Hid (Calls Tryz.prog 96 #[.pointer (some ⟨sb,0,none⟩),.slice ai (L[j]).length ci] wr fun e h=>e=.returned (.tuple #[])/\V8 Z sb ob hb kb i L w (j + 1) h):=by
       obtain ⟨D,s,m,p⟩:=a.out.ex;have v:=m.num;rw [p.m] at v;have ad:=MN L j;refine (NG m p f (by omega) ai bi 0 ci k2 k3 (fun q hq=>by rw [Nat.zero_add];exact k5 q hq) (HZ.out _ (List.getElem_mem b)) (t.out _ (List.getElem_mem b))).mono ?_;rintro e h ⟨rfl,ge⟩;refine ⟨rfl,?_⟩;obtain ⟨c,C,N,Q,p'⟩:=ge;have e:L.take (j + 1)=L.take j ++ [L[j]]:=by rw [List.take_add_one,List.getElem?_eq_getElem b];rfl
       refine ⟨⟨C,N,?_,p'⟩,a.out.fV.trans c⟩;rw [e,MO];exact Q
      have j0:(0:Int) <= (j:Int):=by omega
      have j1:(j:Int) < (L.length:Int):=by omega
      have j2:(j:Int) <= 20001:=by omega
      generalize (L[j]).length=lj at k1 QG;clear a B z k2 k3 k4 k5 e' X W y;go_wp2_with (go_at_call 96;with_reducible refine QG.out.mono ?_;rintro e7 I ⟨rfl,d⟩;have G7:=hide d;clear d;simp only [])
      go_roundw
      case rel=>exact ⟨j + 1,by go_num,b,G7⟩
      case measure=>simp [intOf];omega
     ·have e:j=L.length:=by omega
      subst e;have ab:Hid (Calls Tryz.prog 97 #[.pointer (some ⟨sb,0,none⟩)] wr fun e h=>e=.returned (.tuple #[])/\Sy Z kb i L (Aw L) w (.returned (.pointer (some ⟨sb,0,none⟩))) h):=by
       obtain ⟨D,s,m,p⟩:=a.out.ex;rw [List.take_length] at m;refine (yT m (by unfold Ready;rw [p.P,p.sp]) f (by rw [p.r];decide)).mono ?_;rintro e h ⟨rfl,c,N,Q,r',a1,a2,a3,a4,a5⟩;exact ⟨rfl,sb,ob,hb,D,N,rfl,a.out.fV.trans c,Q,r',a2,by rw [a3,p.m],by rw [a1,p.r],by rw [a5,p.lc],by rw [a4,p.mo]⟩
      clear a HL HZ t;go_wp2_with (go_at_call 97;with_reducible refine ab.out.mono ?_;rintro e7 I ⟨rfl,d⟩;have G7:=hide d;clear d;simp only [])
      go_ret
      exact G7.out
end
end
end So
end Go.Proofs.YtceahffmenbibaaGreatDoor
