/- Uspw. -/
import Derived.Test.YtceahffmenbibaaGreatDoorG20
import Derived.Test.YtceahffmenbibaaGreatDoorG21
set_option linter.unusedVariables false
set_option linter.unusedSimpArgs false
set_option maxHeartbeats 4000000
set_option maxRecDepth 100000
namespace Go.Proofs.YtceahffmenbibaaGreatDoor
namespace Rd
section
open Go Go.RowKit Go.Deep
attribute [local go_sem ↓] Go.wp_at_zero Go.wp_at_succ
theorem Cv {B sb mb:Nat} {cv:Value} {gone:Int} {u:Key} {wv:Nat->Value} {es:List aX} {wl:Nat->List Nat} (ak laid:Key) (w:World) (hd:ak.ok) (hl:laid.ok) (hlen:es.length <= 549755813888)
  (hS:di B sb w cv mb gone u wv es wl) (hT:nL B w) (hW:dP es wl) (hr:Rest es ak) (hN:nC es):
  Calls Tryz.prog 117 #[.pointer (some ⟨sb,0,none⟩),aK ak,aK laid] w fun e w'=>oM B sb w ak laid cv mb gone u es e w':=by
 have M0:=hide (dw.start ak laid hS hT);have HW:=hide hW;have HR:=hide hr;have HLEN:=hide hlen;have HD:=hide hd;have HL:=hide hl;have Q1:Hid (∀ W,Calls Tryz.prog 114 #[aK laid,aK ak] W fun e w'=>e=.returned (aK (laid.wo ak))/\Below W.heap.size W w'):=fun W=>nM laid ak W hl hd
 have Q2:Hid (∀ W,Calls Tryz.prog 75 #[aK ak,aK laid] W fun e w'=>e=.returned (aK (ak.un laid))/\Below W.heap.size W w'):=fun W=>gu ak laid W hd hl
 have Q3:Hid (∀ W,Calls Tryz.prog 166 #[aK (ak.un laid)] W fun e w'=>e=.returned (.bool (kZ (ak.un laid)))/\Below W.heap.size W w'):=fun W=>ES _ W (uh hd hl)
 unfold aK at Q1 Q2 Q3 ⊢;clear hS hT hW hr hlen;go_enter Tryz.func117,Tryz.ntmps117
 go_upto_region 1 with fail
 obtain ⟨W,hWd⟩:∃ W,W=((w.alloc (Obj.cells #[Value.int IntKind.u64 (ak.1:Int),Value.int IntKind.u64 (ak.2:Int)] 84)).alloc (Obj.cells #[Value.int IntKind.u64 (laid.1:Int),Value.int IntKind.u64 (laid.2:Int)] 84)).alloc (Obj.cells #[Value.int IntKind.u64 0,Value.int IntKind.u64 0] 84):=⟨_,rfl⟩;rw [<- hWd] at M0 ⊢;clear hWd;obtain ⟨a0,a1,_,_⟩:=aF (hide M0.out.je);obtain ⟨b0,b1,_,_⟩:=aF (hide M0.out.uR);generalize hP0:laid.wo ak=P0 at Q1;go_wp2_with fail
 with_reducible refine (Q1.out _).mono ?_
 rintro e1 w1 ⟨rfl,hb1⟩;simp only [];have M1:=hide (M0.out.later hb1);have H1:=M1.out.hs;clear hb1 a0 a1 b0 b1 M0;go_upto_region 2 with fail
 have Yk:Hid (dQ B sb w1.heap.size w ak laid (0,0) P0 cv mb gone u wv es wl (w1.alloc (.cells #[.int .u64 (P0.1:Int),.int .u64 (P0.2:Int)] 84))):=
  ⟨M1.out.later ((Below.refl _ _).alloc (Nat.le_refl _) _),dS _ _ _ _,H1⟩
 generalize hpb:w1.heap.size=pb at Yk ⊢;obtain ⟨W2,hW2⟩:∃ W2,W2=w1.alloc (.cells #[.int .u64 (P0.1:Int),.int .u64 (P0.2:Int)] 84):=⟨_,rfl⟩;rw [<- hW2] at Yk ⊢;clear hW2 hpb M1 H1;obtain ⟨a0,a1,a2,a3⟩:=aF (hide Yk.out.mem.je);obtain ⟨b0,b1,_,_⟩:=aF (hide Yk.out.mem.uR);generalize hD0:ak.un laid=D0 at Q2 Q3;have HD0:=hide hD0;have HP0:=hide hP0;go_wp2_with fail
 with_reducible refine (Q2.out _).mono ?_
 rintro e3 w3 ⟨rfl,hb3⟩;simp only [];have M3:=hide (Yk.out.later hb3);have M4:=hide (M3.out.YK D0);obtain ⟨c0,c1,c2,c3⟩:=aF (hide M3.out.mem.je);clear hb3 a0 a1 a2 a3 b0 b1 Yk;go_upto_region 3 with fail
 generalize hw4:(w3.setCell ⟨w.heap.size,0,none⟩ (.int .u64 (D0.1:Int))).setCell ⟨w.heap.size,1,none⟩ (.int .u64 (D0.2:Int))=w4 at M4 ⊢;clear hw4 c0 c1 c2 c3 M3;obtain ⟨a0,a1,a2,a3⟩:=aF (hide M4.out.mem.je);generalize hcl:kZ D0=cl at Q3;have XH:=hide hcl;go_wp2_with fail
 with_reducible refine (Q3.out _).mono ?_
 rintro e5 w5 ⟨rfl,hb5⟩;simp only [];have M5:=hide (M4.out.later hb5);clear hb5 a0 a1 a2 a3 M4 Q1 Q2 Q3
 cases cl with
 | true=>
  obtain ⟨a0,a1,a2,a3⟩:=aF (hide M5.out.mem.je);obtain ⟨b0,b1,b2,b3⟩:=aF (hide M5.out.mem.mO);have M6:=hide (M5.out.VT D0);obtain ⟨d0,d1,_,_⟩:=aF (hide M6.out.mem.mO);go_wp2;refine @bodyPost_ret _ _ _ _ _ (.tuple #[.agg #[.int .u64 (D0.1:Int),.int .u64 (D0.2:Int)],.bool true]) ?_ ?_ ?_
  ·simp [results,Tryz.results117,go_sem,d0,d1]
  ·rfl
  ·exact ⟨D0,true,_,es,_,rfl,M6.out.mem.below,M6.out.mem.keeps,M6.out.mem.nK,dF.clash (by rw [HD0.out];exact XH.out),HW.out,by rw [<- HD0.out];exact uh HD.out HL.out⟩
 | false=>
  have S0:Hid (lZ es es wl ak laid D0 P0):=by
   have:=lZ.start HR.out HW.out HD.out HL.out (by rw [HD0.out];exact XH.out)
   rw [HD0.out,HP0.out] at this;exact this
  have pbH:=M5.out.hpb;clear HW HR XH;go_upto_region 5 with fail
  go_loopw [] (fun wr=>Ic B sb pb w ak laid cv mb gone u es wr) (fun wr=>JF (uB wr w.heap.size) (uB wr pb))
  case atStart=>exact ⟨D0,P0,_,_,_,M5,S0⟩
  case round=>
   clear M5 S0;obtain ⟨D,P,wv',es',iO,M,S⟩:=hrel;have Rh:=S.out.BU.Rh;have Ra:=S.out.BU.Ra;have QE:Hid (∀ W,Calls Tryz.prog 74 #[aK P] W fun e w'=>e=.returned (.bool (mR P))/\Below W.heap.size W w'):=fun W=>ou P W Ra
   unfold aK at QE;obtain ⟨p0,p1,_,_⟩:=aF (hide M.out.iH);generalize hE:mR P=em at QE;have HE:=hide hE;go_wp2_with fail
   with_reducible refine (QE.out _).mono ?_
   rintro e6 w6 ⟨rfl,hb6⟩;simp only [];have M6:=hide (M.out.later hb6);have KR:Hid (uB wr w.heap.size=D/\uB wr pb=P):=⟨o9 M.out.mem.je,o9 M.out.iH⟩;clear hb6 p0 p1 QE M hE
   cases em with
   | true=>
    have P00:P=(0,0):=of_decide_eq_true HE.out;subst P00;obtain ⟨a0,a1,a2,a3⟩:=aF (hide M6.out.mem.je);obtain ⟨b0,b1,b2,b3⟩:=aF (hide M6.out.mem.mO);have M7:=hide (M6.out.VT D);obtain ⟨d0,d1,_,_⟩:=aF (hide M7.out.mem.mO);go_wp2;refine @bodyPost_ret _ _ _ _ _ (.tuple #[.agg #[.int .u64 (D.1:Int),.int .u64 (D.2:Int)],.bool false]) ?_ ?_ ?_
    ·simp [results,Tryz.results117,go_sem,d0,d1]
    ·rfl
    ·exact ⟨D,false,_,es',_,rfl,M7.out.mem.below,M7.out.mem.keeps,M7.out.mem.nK,S.out.done,S.out.qg,Rh⟩
   | false=>
    have pne:P ≠ (0,0):=of_decide_eq_false HE.out;obtain ⟨o1,o2,ip⟩:=lM Ra pne;have Q1:Hid (∀ W,Calls Tryz.prog 158 #[aK P] W fun e w'=>e=.returned (aK P.one)/\Below W.heap.size W w'):=fun W=>AO P W Ra pne
    rw [o1] at Q1;obtain ⟨p,hp⟩:∃ p,P.dW=p:=⟨_,rfl⟩;rw [hp] at Q1 o2 ip;clear o1 hp;have ip0:=bX ip;have hpd:=S.out.BU.sub p o2;have Q2:Hid (∀ W,Calls Tryz.prog 114 #[aK P,aK (single p)] W fun e w'=>e=.returned (aK (P.wo (single p)))/\Below W.heap.size W w'):=fun W=>nM P (single p) W Ra (gy ip)
    have Q3:Hid (∀ W,Calls Tryz.prog 118 #[aK (single p)] W fun e w'=>e=.returned (aK (single p).op)/\Below W.heap.size W w'):=fun W=>pW (single p) W
    rw [JI ip0] at Q3;have elen:es'.length <= 549755813888:=by rw [qU S.out.BU.same];exact HLEN.out
    have Q4:Hid (∀ W,dQ B sb pb w D laid (0,0) (P.wo (single p)) cv mb gone u wv' es' iO W->Calls Tryz.prog 167 #[.pointer (some ⟨sb,0,none⟩),aK (single (-p)),aK D] W fun e w'=>∃ (F:Key) (cf:Bool) (wv2:Nat->Value) (es2:List aX) (pR:Nat->List Nat),e=.returned (.tuple #[aK F,.bool cf])/\Hid (dQ B sb pb w D laid (0,0) (P.wo (single p)) cv mb gone u wv2 es2 pR w'/\aA W w'/\gq es' es2 (-p) D F cf/\dP es2 pR)):=fun W hM=>by
     with_reducible refine (Bu (-p) D W (KN ip) Rh (by rw [Int.neg_neg];exact hpd) elen hM.mem.nK hM.mem.tab S.out.qg (hN.sigs S.out.BU.same)).mono ?_
     rintro e w' ⟨F,cf,wv2,es2,pR,h1,h2,h3,h4,h5,h6⟩;exact ⟨F,cf,wv2,es2,pR,h1,hM.step h4 h3 h2,h3,h5,h6⟩
    unfold aK at Q1 Q2 Q3 Q4;have P1ok:(P.wo (single p)).ok:=Cg Ra _;generalize hP1:P.wo (single p)=P1 at Q2 Q4 P1ok;have HPW:Hid (P.wo (single p)=P1):=hP1;obtain ⟨p0,p1,_,_⟩:=aF (hide M6.out.iH);obtain ⟨sp,hsp⟩:∃ s,single p=s:=⟨_,rfl⟩;obtain ⟨sq,hsq⟩:∃ s,single (-p)=s:=⟨_,rfl⟩;rw [hsp] at Q1 Q2 Q3;rw [hsq] at Q3 Q4;clear hsp hsq hP1;go_upto_region 6 with fail
    go_wp2_with fail
    with_reducible refine (Q1.out _).mono ?_
    rintro e7 w7 ⟨rfl,ku⟩;simp only [];have M7:=hide (M6.out.later ku);clear ku p0 p1 M6;have M8:=hide (M7.out.later ((Below.refl _ w7).alloc (Nat.le_refl _) (.cells #[.int .u64 (sp.1:Int),.int .u64 (sp.2:Int)] 84)));have L8:=hide (dS w7 (.int .u64 (sp.1:Int)) (.int .u64 (sp.2:Int)) 84);have lb1:w.heap.size + 3 <= w7.heap.size:=M7.out.mem.hs;have lb2:w7.heap.size ≠ pb:=fun e=>by have:=M7.out.iH.lt;omega
    go_upto_region 7 with fail
    generalize hlb:w7.heap.size=lb at L8 lb1 lb2 ⊢;generalize hw8:w7.alloc (.cells #[.int .u64 (sp.1:Int),.int .u64 (sp.2:Int)] 84)=w8 at M8 L8 ⊢;clear hw8 hlb M7;obtain ⟨p0,p1,_,_⟩:=aF (hide M8.out.iH);have l0:=L8.out.cell (i:=0) (by omega)
    have l1:=L8.out.cell (i:=1) (by omega)
    unfold vY at l0 l1;simp only [if_true,show ¬ (1=0) by decide,if_false] at l0 l1
    go_wp2_with fail
    with_reducible refine (Q2.out _).mono ?_
    rintro e9 w9 ⟨rfl,L6⟩;simp only [];have M9:=hide (M8.out.later L6);have L9:Hid (w9.rowIs lb 84 2 (fA sp)):=L8.out.of_block (L6.block _ L8.out.lt);obtain ⟨p2,p3,p4,p5⟩:=aF (hide M9.out.iH);have MA:=hide (M9.out.YI P1);have LA:Hid (((w9.setCell ⟨pb,0,none⟩ (.int .u64 (P1.1:Int))).setCell ⟨pb,1,none⟩ (.int .u64 (P1.2:Int))).rowIs lb 84 2 (fA sp)):=L9.out.of_block (bP _ lb2);clear L6 p0 p1 l0 l1 M8 L8 Q1 Q2;go_upto_region 8 with fail
    generalize hwA:(w9.setCell ⟨pb,0,none⟩ (.int .u64 (P1.1:Int))).setCell ⟨pb,1,none⟩ (.int .u64 (P1.2:Int))=wA at MA LA ⊢;clear hwA M9 L9 p2 p3 p4 p5;obtain ⟨d0,d1,_,_⟩:=aF (hide MA.out.mem.je);obtain ⟨l0,l1,_,_⟩:=aF LA;have A1:=MA.out.mem.hs;have A2:=MA.out.iH.lt;have A3:=LA.out.lt;have KS:Hid (∀ W,Below wA.heap.size wA W->W.cell? ⟨w.heap.size,0,none⟩=some (.int .u64 (D.1:Int))/\W.cell? ⟨w.heap.size,1,none⟩=some (.int .u64 (D.2:Int))):=fun W h=>
     ⟨(h.cell (p:=⟨w.heap.size,0,none⟩) (by simp;omega)).trans d0,(h.cell (p:=⟨w.heap.size,1,none⟩) (by simp;omega)).trans d1⟩
    go_cut [10,11] from 21 to 44 (fun q c wx=>xZ B sb pb w (-p) D laid P1 cv mb gone u es' q c wx)
    case first=>
     have Tj:w.heap.size < wA.heap.size:=by omega
     have ne1:¬ (w.heap.size=wA.heap.size):=by omega
     have ne2:¬ (wA.heap.size=w.heap.size):=by omega
     have ne3:¬ (lb=wA.heap.size):=by omega
     have ne4:¬ (wA.heap.size=lb):=by omega
     go_region_with (first
      |(go_at_call 118;refine (Q3.out _).mono ?_;rintro e6 w6 ⟨rfl,hb6⟩;have B6:Hid (Below wA.heap.size wA w6):=(by first | exact hb6 | exact (Below.refl _ _).drew.trans hb6 | exact ((Below.refl _ _).drew.alloc (Nat.le_refl _) _).drew.trans (hb6.mono (by simp)) | exact ((Below.refl _ _).alloc (Nat.le_refl _) _).drew.trans (hb6.mono (by simp)) | exact ((Below.refl _ _).alloc (Nat.le_refl _) _).trans (hb6.mono (by simp)) | exact ((Below.refl _ _).drew.alloc (Nat.le_refl _) _).trans (hb6.mono (by simp)));obtain ⟨k0,k1⟩:=KS.out w6 B6.out;have s6:wA.heap.size <= w6.heap.size:=B6.out.size;have l6:w.heap.size < w6.heap.size:=(by omega);have n6:¬ (w.heap.size=w6.heap.size):=(by omega);(first | (have N6:=(by with_reducible exact AR hb6)) | (have N6:=(by with_reducible exact wC hb6)) | (have N6:True:=trivial));clear hb6;simp only [])
      |(go_at_call 167;refine (Q4.out _ (MA.out.later (by first | exact B6.out | exact B6.out.drew | exact B6.out.alloc s6 _ | exact (B6.out.alloc s6 _).drew | exact (B6.out.drew.alloc s6 _) | exact (B6.out.drew.alloc s6 _).drew))).mono ?_;rintro e7 w7 ⟨F,cf,wv2,es2,pR,rfl,H7⟩;(first | (have R7:=(by with_reducible exact DY H7.out.2.1);obtain ⟨m0,m1,m2,m3⟩:=aF R7) | (have R7:=(by with_reducible exact zL H7.out.2.1);obtain ⟨m0,m1,m2,m3⟩:=aF R7) | (have R7:=(by with_reducible exact DX H7.out.2.1 N6);obtain ⟨m0,m1,m2,m3⟩:=aF R7) | (have R7:=(by with_reducible exact zK H7.out.2.1 N6);obtain ⟨m0,m1,m2,m3⟩:=aF R7) | skip);simp only []))
     all_goals
      go_wp2_with fail
      go_meet
      first
       | exact G9 H7.out.1 H7.out.2.2.1 H7.out.2.2.2
       | exact G6 H7.out.1 R7.out (by omega) (by omega) H7.out.2.2.1 H7.out.2.2.2
    case rest=>
     obtain ⟨fb,F,cf,wv2,es2,pR,rfl,rfl,HF⟩:=hcut;have FP:=hide HF.out.2.2.2.2.1;have WI:=hide HF.out.2.2.2.2.2;have MC:=hide HF.out.1;have FR:=hide HF.out.2.1;have fb1:=HF.out.2.2.1;have fb2:=HF.out.2.2.2.1;clear HF MA LA KS d0 d1 l0 l1 A1 A2 A3 Q3 Q4;obtain ⟨d0,d1,d2,d3⟩:=aF (hide MC.out.mem.je)
     cases cf with
     | true=>
      obtain ⟨b0,b1,b2,b3⟩:=aF (hide MC.out.mem.mO);have M7:=hide (MC.out.VT D);obtain ⟨x0,x1,_,_⟩:=aF (hide M7.out.mem.mO);have SP:=hide (S.out.PK (d:=D) FP.out);go_wp2;refine @bodyPost_ret _ _ _ _ _ (.tuple #[.agg #[.int .u64 (D.1:Int),.int .u64 (D.2:Int)],.bool true]) ?_ ?_ ?_
      ·simp [results,Tryz.results117,go_sem,x0,x1]
      ·rfl
      ·exact ⟨D,true,_,es2,_,rfl,M7.out.mem.below,M7.out.mem.keeps,M7.out.mem.nK,SP.out,WI.out,Rh⟩
     | false=>
      have La:=FP.out.La;have MS:Hid (JF (D.un F) (P1.un F) < JF D P):=by
       rw [<- HPW.out];exact RZ ip o2 hpd FP.out.fresh
      have SN:Hid (lZ es es2 pR ak laid (D.un F) (P1.un F)):=by
       have:=S.out.step o2 ip0 FP.out WI.out;rw [HPW.out] at this;exact this
      have Q5:Hid (∀ W,Calls Tryz.prog 75 #[aK P1,aK F] W fun e w'=>e=.returned (aK (P1.un F))/\Below W.heap.size W w'):=fun W=>gu P1 F W P1ok La
      have Q6:Hid (∀ W,Calls Tryz.prog 75 #[aK D,aK F] W fun e w'=>e=.returned (aK (D.un F))/\Below W.heap.size W w'):=fun W=>gu D F W Rh La
      unfold aK at Q5 Q6;generalize P1.un F=P2 at Q5 MS SN;generalize D.un F=D2 at Q6 MS SN;obtain ⟨p0,p1,p2,p3⟩:=aF (hide MC.out.iH);obtain ⟨f0,f1,_,_⟩:=aF FR;go_upto_region 11 with fail
      go_wp2_with fail
      with_reducible refine (Q5.out _).mono ?_
      rintro ea wa ⟨rfl,hba⟩;simp only [];have Ma:=hide (MC.out.later hba);have Fa:Hid (wa.rowIs fb 84 2 (fA F)):=FR.out.of_block (hba.block _ FR.out.lt);have Mb:=hide (Ma.out.YI P2);have Fb:Hid (((wa.setCell ⟨pb,0,none⟩ (.int .u64 (P2.1:Int))).setCell ⟨pb,1,none⟩ (.int .u64 (P2.2:Int))).rowIs fb 84 2 (fA F)):=Fa.out.of_block (bP _ fb2);clear p0 p1 p2 p3 f0 f1 d0 d1 d2 d3;obtain ⟨p0,p1,p2,p3⟩:=aF (hide Ma.out.iH);clear hba;go_upto_region 12 with fail
      generalize hwb:(wa.setCell ⟨pb,0,none⟩ (.int .u64 (P2.1:Int))).setCell ⟨pb,1,none⟩ (.int .u64 (P2.2:Int))=wb at Mb Fb ⊢;clear hwb p0 p1 p2 p3 Ma Fa MC FR;obtain ⟨d0,d1,d2,d3⟩:=aF (hide Mb.out.mem.je);obtain ⟨f0,f1,_,_⟩:=aF Fb;go_wp2_with fail
      with_reducible refine (Q6.out _).mono ?_
      rintro ed wd ⟨rfl,hbd⟩;simp only [];have Md:=hide (Mb.out.later hbd);have Me:=hide (Md.out.YK D2);clear d0 d1 d2 d3 f0 f1 hbd;obtain ⟨d0,d1,d2,d3⟩:=aF (hide Md.out.mem.je);go_wp2;have KE:uB ((wd.setCell ⟨w.heap.size,0,none⟩ (.int .u64 (D2.1:Int))).setCell ⟨w.heap.size,1,none⟩ (.int .u64 (D2.2:Int))) w.heap.size=D2/\uB ((wd.setCell ⟨w.heap.size,0,none⟩ (.int .u64 (D2.1:Int))).setCell ⟨w.heap.size,1,none⟩ (.int .u64 (D2.2:Int))) pb=P2:=⟨o9 Me.out.mem.je,o9 Me.out.iH⟩;go_roundw
      case rel=>exact ⟨D2,P2,_,_,_,Me,SN⟩
      case measure=>rw [KE.1,KE.2,KR.out.1,KR.out.2];exact MS.out
end
end Rd
end Go.Proofs.YtceahffmenbibaaGreatDoor
