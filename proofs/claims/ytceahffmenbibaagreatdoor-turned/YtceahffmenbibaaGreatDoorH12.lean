/- Pspw. -/
import Derived.Test.YtceahffmenbibaaGreatDoorH11
set_option linter.unusedVariables false
set_option linter.unusedSimpArgs false
set_option maxHeartbeats 4000000
set_option maxRecDepth 100000
namespace Go.Proofs.YtceahffmenbibaaGreatDoor
namespace Rd
section
open Go Go.RowKit Go.Deep
section
attribute [local go_sem ↓] Go.wp_at_zero Go.wp_at_succ
theorem FL {X a:World} (k:dm (X.alloc (.cells #[.int .u64 0,.int .u64 0] 84)) a):Hid (a.rowIs X.heap.size 84 2 (gJ (0,0))):=by
 have r:=fZ X (.int .u64 0) (.int .u64 0) 84;exact r.of_block (k _ (gI r))
theorem BG {X a:World} (k:dm (X.alloc (.cells #[.int .u64 0,.int .u64 0] 84)).drew a):Hid (a.rowIs X.heap.size 84 2 (gJ (0,0))):=by
 have r:=(fZ X (.int .u64 0) (.int .u64 0) 84).drew;exact r.of_block (k _ (gI r))
theorem FK {X a:World} {c:Nat} (k:dm X a) (h:Hid (X.rowIs c 84 2 (gJ (0,0)))):Hid (a.rowIs c 84 2 (gJ (0,0))):=h.out.of_block (k _ (gI h.out))
theorem Bz {X a:World} {c:Nat} (k:dm X.drew a) (h:Hid (X.rowIs c 84 2 (gJ (0,0)))):Hid (a.rowIs c 84 2 (gJ (0,0))):=h.out.of_block (k _ (gI h.out.drew))
theorem sK {B sb mb:Nat} {cv:Value} {j:Int} {u:Key} {wv:Nat->Value} {z:List dN} {wl:Nat->List Nat} (a b:Key) (w:World) (hd:a.ok) (hl:b.ok) (U:z.length <= 1600000000000)
  (hS:fu B sb w cv mb j u wv z wl) (hT:nT B w) (hW:fJ z wl) (hr:Rest z a):
  Calls Tryz.prog 117 #[.pointer (some ⟨sb,0,none⟩),dC a,dC b] w fun e g=>ry B sb w a b cv mb j u z e g:=by
 have M0:=hide (dV.start a b hS hT);have HW:=hide hW;have HR:=hide hr;have aw:=hide U;have HD:=hide hd;have HL:=hide hl;have G:Hid (∀ W,Calls Tryz.prog 114 #[dC b,dC a] W fun e g=>e=.returned (dC (b.wo a))/\Below W.heap.size W g):=fun W=>jm b a W hl hd
 have J:Hid (∀ W,Calls Tryz.prog 75 #[dC a,dC b] W fun e g=>e=.returned (dC (a.un b))/\Below W.heap.size W g):=fun W=>ig a b W hd hl
 have t:Hid (∀ W,Calls Tryz.prog 166 #[dC (a.un b)] W fun e g=>e=.returned (.bool (oO (a.un b)))/\Below W.heap.size W g):=fun W=>GQ _ W (qB hd hl)
 unfold dC at G J t ⊢;clear hS hT hW hr U;go_enter Tryz.func117,Tryz.ntmps117
 go_upto_region 1 with fail
 obtain ⟨W,ao⟩:∃ W,W=((w.alloc (.cells #[.int .u64 (a.1:Int),.int .u64 (a.2:Int)] 84)).alloc (.cells #[.int .u64 (b.1:Int),.int .u64 (b.2:Int)] 84)).alloc (.cells #[.int .u64 0,.int .u64 0] 84):=⟨_,rfl⟩;rw [<- ao] at M0 ⊢;clear ao;obtain ⟨a0,a1,_,_⟩:=di (hide M0.out.kR);obtain ⟨b0,b1,_,_⟩:=di (hide M0.out.p9);generalize aH:b.wo a=P0 at G;go_wp2_with fail
 with_reducible refine (G.out _).mono ?_
 rintro e1 w1 ⟨rfl,an⟩;simp only [];have M1:=hide (M0.out.later an);have H1:=M1.out.hs;clear an a0 a1 b0 b1 M0;go_upto_region 2 with fail
 have r:Hid (gZ B sb w1.heap.size w a b (0,0) P0 cv mb j u wv z wl (w1.alloc (.cells #[.int .u64 (P0.1:Int),.int .u64 (P0.2:Int)] 84))):=
  ⟨M1.out.later (bR.alloc lr _),fZ _ _ _ _,H1⟩
 generalize aE:w1.heap.size=l at r ⊢;obtain ⟨W2,ap⟩:∃ W2,W2=w1.alloc (.cells #[.int .u64 (P0.1:Int),.int .u64 (P0.2:Int)] 84):=⟨_,rfl⟩;rw [<- ap] at r ⊢;clear ap aE M1 H1;obtain ⟨a0,a1,a2,a3⟩:=di (hide r.out.mem.kR);obtain ⟨b0,b1,_,_⟩:=di (hide r.out.mem.p9);generalize aI:a.un b=L at J t;have Q:=hide aI;have aL:=hide aH;go_wp2_with fail
 with_reducible refine (J.out _).mono ?_
 rintro e3 w3 ⟨rfl,am⟩;simp only [];have M3:=hide (r.out.later am);have M4:=hide (M3.out.Tn L);obtain ⟨c0,c1,c2,c3⟩:=di (hide M3.out.mem.kR);clear am a0 a1 a2 a3 b0 b1 r;go_upto_region 3 with fail
 generalize aD:(w3.setCell ⟨w.heap.size,0,none⟩ (.int .u64 (L.1:Int))).setCell ⟨w.heap.size,1,none⟩ (.int .u64 (L.2:Int))=w4 at M4 ⊢;clear aD c0 c1 c2 c3 M3;obtain ⟨a0,a1,a2,a3⟩:=di (hide M4.out.mem.kR);generalize aG:oO L=cl at t;have ac:=hide aG;go_wp2_with fail
 with_reducible refine (t.out _).mono ?_
 rintro e5 w5 ⟨rfl,al⟩;simp only [];have M5:=hide (M4.out.later al);clear al a0 a1 a2 a3 M4 G J t
 cases cl with
 | true=>
  obtain ⟨a0,a1,a2,a3⟩:=di (hide M5.out.mem.kR);obtain ⟨b0,b1,b2,b3⟩:=di (hide M5.out.mem.mM);have H:=hide (M5.out.VD L);obtain ⟨E,C,_,_⟩:=di (hide H.out.mem.mM);go_wp2;refine @bodyPost_ret _ _ _ _ _ (.tuple #[.agg #[.int .u64 (L.1:Int),.int .u64 (L.2:Int)],.bool true]) ?_ ?_ ?_
  ·simp [results,Tryz.results117,go_sem,E,C]
  ·rfl
  ·exact ⟨L,true,_,z,_,rfl,H.out.mem.below,H.out.mem.keeps,H.out.mem.fK,gH.clash (by rw [Q.out];exact ac.out),HW.out,by rw [<- Q.out];exact qB HD.out HL.out⟩
 | false=>
  have S0:Hid (pI z z wl a b L P0):=by
   have:=pI.start HR.out HW.out HD.out HL.out (by rw [Q.out];exact ac.out);rw [Q.out,aL.out] at this;exact this
  have aM:=M5.out.hpb;clear HW HR ac;go_upto_region 5 with fail
  go_loopw [] (fun wr=>JC B sb l w a b cv mb j u z wr) (fun wr=>KY (wG wr w.heap.size) (wG wr l))
  case atStart=>exact ⟨L,P0,_,_,_,M5,S0⟩
  case round=>
   clear M5 S0;obtain ⟨D,P,ax,y,ay,M,S⟩:=hrel;have O:=S.out.Et.Yh;have x:=S.out.Et.Yd;have QE:Hid (∀ W,Calls Tryz.prog 74 #[dC P] W fun e g=>e=.returned (.bool (jW P))/\Below W.heap.size W g):=fun W=>ou P W x
   unfold dC at QE;obtain ⟨N,p1,_,_⟩:=di (hide M.out.kV);generalize hE:jW P=em at QE;have HE:=hide hE;go_wp2_with fail
   with_reducible refine (QE.out _).mono ?_
   rintro e6 w6 ⟨rfl,f⟩;simp only [];have H:=hide (M.out.later f);have KR:Hid (wG wr w.heap.size=D/\wG wr l=P):=⟨rR M.out.mem.kR,rR M.out.kV⟩;clear f N p1 QE M hE
   cases em with
   | true=>
    have aK:P=(0,0):=of_decide_eq_true HE.out;subst aK;obtain ⟨a0,a1,a2,a3⟩:=di (hide H.out.mem.kR);obtain ⟨b0,b1,b2,b3⟩:=di (hide H.out.mem.mM);have n:=hide (H.out.VD D);obtain ⟨E,C,_,_⟩:=di (hide n.out.mem.mM);go_wp2;refine @bodyPost_ret _ _ _ _ _ (.tuple #[.agg #[.int .u64 (D.1:Int),.int .u64 (D.2:Int)],.bool false]) ?_ ?_ ?_
    ·simp [results,Tryz.results117,go_sem,E,C]
    ·rfl
    ·exact ⟨D,false,_,y,_,rfl,n.out.mem.below,n.out.mem.keeps,n.out.mem.fK,S.out.done,S.out.gT,O⟩
   | false=>
    have ad:P ≠ (0,0):=of_decide_eq_false HE.out;obtain ⟨o1,o2,ip⟩:=mW x ad;have G:Hid (∀ W,Calls Tryz.prog 158 #[dC P] W fun e g=>e=.returned (dC P.one)/\Below W.heap.size W g):=fun W=>xy P W x ad
    rw [o1] at G;obtain ⟨p,hp⟩:∃ p,P.gV=p:=⟨_,rfl⟩;rw [hp] at G o2 ip;clear o1 hp;have af:=dD ip;have ai:=S.out.Et.sub p o2;have J:Hid (∀ W,Calls Tryz.prog 114 #[dC P,dC (single p)] W fun e g=>e=.returned (dC (P.wo (single p)))/\Below W.heap.size W g):=fun W=>jm P (single p) W x (fP ip)
    have t:Hid (∀ W,Calls Tryz.prog 118 #[dC (single p)] W fun e g=>e=.returned (dC (single p).op)/\Below W.heap.size W g):=fun W=>oK (single p) W
    rw [K5 af] at t;have au:y.length <= 1600000000000:=by rw [o6 S.out.Et.same];exact aw.out
    have Q4:Hid (∀ W,gZ B sb l w D b (0,0) (P.wo (single p)) cv mb j u ax y ay W->Calls Tryz.prog 167 #[.pointer (some ⟨sb,0,none⟩),dC (single (-p)),dC D] W fun e g=>∃ (F:Key) (cf:Bool) (v:Nat->Value) (k:List dN) (m:Nat->List Nat),e=.returned (.tuple #[dC F,.bool cf])/\Hid (gZ B sb l w D b (0,0) (P.wo (single p)) cv mb j u v k m g/\dm W g/\iE y k (-p) D F cf/\fJ k m)):=fun W hM=>by
     with_reducible refine (qR (-p) D W (MI ip) O (by rw [Int.neg_neg];exact ai) au hM.mem.fK hM.mem.tab S.out.gT).mono ?_
     rintro e g ⟨F,cf,v,k,m,h1,h2,h3,h4,h5,h6⟩;exact ⟨F,cf,v,k,m,h1,hM.step h4 h3 h2,h3,h5,h6⟩
    unfold dC at G J t Q4;have X:(P.wo (single p)).ok:=sD x _;generalize aq:P.wo (single p)=o at J Q4 X;have av:Hid (P.wo (single p)=o):=aq;obtain ⟨N,p1,_,_⟩:=di (hide H.out.kV);obtain ⟨R,ah⟩:∃ s,single p=s:=⟨_,rfl⟩;obtain ⟨sq,ag⟩:∃ s,single (-p)=s:=⟨_,rfl⟩;rw [ah] at G J t;rw [ag] at t Q4;clear ah ag aq;go_upto_region 6 with fail
    go_wp2_with fail
    with_reducible refine (G.out _).mono ?_
    rintro e7 Z ⟨rfl,ak⟩;simp only [];have n:=hide (H.out.later ak);clear ak N p1 H;have M8:=hide (n.out.later ((Below.refl _ Z).alloc lr (.cells #[.int .u64 (R.1:Int),.int .u64 (R.2:Int)] 84)));have L8:=hide (fZ Z (.int .u64 (R.1:Int)) (.int .u64 (R.2:Int)) 84);have az:w.heap.size + 3 <= Z.heap.size:=n.out.mem.hs;have ae:Z.heap.size ≠ l:=fun e=>by have:=n.out.kV.lt;omega
    go_upto_region 7 with fail
    generalize aF:Z.heap.size=lb at L8 az ae ⊢;generalize aC:Z.alloc (.cells #[.int .u64 (R.1:Int),.int .u64 (R.2:Int)] 84)=w8 at M8 L8 ⊢;clear aC aF n;obtain ⟨N,p1,_,_⟩:=di (hide M8.out.kV);have l0:=L8.out.cell (i:=0) (by omega);have l1:=L8.out.cell (i:=1) (by omega);unfold vZ at l0 l1;simp only [if_true,show ¬ (1=0) by decide,if_false] at l0 l1;go_wp2_with fail
    with_reducible refine (J.out _).mono ?_
    rintro e9 w9 ⟨rfl,ab⟩;simp only [];have M9:=hide (M8.out.later ab);have L9:Hid (w9.rowIs lb 84 2 (gJ R)):=L8.out.of_block (ab.block _ L8.out.lt);obtain ⟨p2,p3,p4,p5⟩:=di (hide M9.out.kV);have MA:=hide (M9.out.Xo o);have LA:Hid (((w9.setCell ⟨l,0,none⟩ (.int .u64 (o.1:Int))).setCell ⟨l,1,none⟩ (.int .u64 (o.2:Int))).rowIs lb 84 2 (gJ R)):=L9.out.of_block (dZ _ ae);clear ab N p1 l0 l1 M8 L8 G J;go_upto_region 8 with fail
    generalize aB:(w9.setCell ⟨l,0,none⟩ (.int .u64 (o.1:Int))).setCell ⟨l,1,none⟩ (.int .u64 (o.2:Int))=I at MA LA ⊢;clear aB M9 L9 p2 p3 p4 p5;obtain ⟨E,C,_,_⟩:=di (hide MA.out.mem.kR);obtain ⟨l0,l1,_,_⟩:=di LA;have A1:=MA.out.mem.hs;have A2:=MA.out.kV.lt;have A3:=LA.out.lt;have KS:Hid (∀ W,Below I.heap.size I W->W.cell? ⟨w.heap.size,0,none⟩=some (.int .u64 (D.1:Int))/\W.cell? ⟨w.heap.size,1,none⟩=some (.int .u64 (D.2:Int))):=fun W h=>
     ⟨(h.cell (p:=⟨w.heap.size,0,none⟩) (by simp;omega)).trans E,(h.cell (p:=⟨w.heap.size,1,none⟩) (by simp;omega)).trans C⟩
    go_cut [10,11] from 21 to 44 (fun q c wx=>zR B sb l w (-p) D b o cv mb j u y q c wx)
    case first=>
     have aR:w.heap.size < I.heap.size:=by omega
     have aQ:¬ (w.heap.size=I.heap.size):=by omega
     have aP:¬ (I.heap.size=w.heap.size):=by omega
     have aO:¬ (lb=I.heap.size):=by omega
     have aN:¬ (I.heap.size=lb):=by omega
     go_region_with (first
      |(go_at_call 118;refine (t.out _).mono ?_;rintro e6 w6 ⟨rfl,f⟩;have Y:Hid (Below I.heap.size I w6):=(by first | exact f | exact bR.drew.trans f | exact (bR.drew.alloc lr _).drew.trans (f.mono (by simp)) | exact (bR.alloc lr _).drew.trans (f.mono (by simp)) | exact (bR.alloc lr _).trans (f.mono (by simp)) | exact (bR.drew.alloc lr _).trans (f.mono (by simp)));obtain ⟨k0,k1⟩:=KS.out w6 Y.out;have s6:I.heap.size <= w6.heap.size:=Y.out.size;have l6:w.heap.size < w6.heap.size:=(by omega);have n6:¬ (w.heap.size=w6.heap.size):=(by omega);(first | (have N6:=(by with_reducible exact uy f)) | (have N6:=(by with_reducible exact uw f)) | (have N6:True:=trivial));clear f;simp only [])
      |(go_at_call 167;refine (Q4.out _ (MA.out.later (by first | exact Y.out | exact Y.out.drew | exact Y.out.alloc s6 _ | exact (Y.out.alloc s6 _).drew | exact (Y.out.drew.alloc s6 _) | exact (Y.out.drew.alloc s6 _).drew))).mono ?_;rintro e7 Z ⟨F,cf,v,k,m,rfl,K⟩;(first | (have V:=(by with_reducible exact FL K.out.2.1);obtain ⟨m0,m1,m2,m3⟩:=di V) | (have V:=(by with_reducible exact BG K.out.2.1);obtain ⟨m0,m1,m2,m3⟩:=di V) | (have V:=(by with_reducible exact FK K.out.2.1 N6);obtain ⟨m0,m1,m2,m3⟩:=di V) | (have V:=(by with_reducible exact Bz K.out.2.1 N6);obtain ⟨m0,m1,m2,m3⟩:=di V) | skip);simp only []))
     all_goals
      go_wp2_with fail
      go_meet
      first
       | exact Jf K.out.1 K.out.2.2.1 K.out.2.2.2
       | exact Je K.out.1 V.out (by omega) (by omega) K.out.2.2.1 K.out.2.2.2
    case rest=>
     obtain ⟨fb,F,cf,v,k,m,rfl,rfl,HF⟩:=hcut;have FP:=hide HF.out.2.2.2.2.1;have WI:=hide HF.out.2.2.2.2.2;have MC:=hide HF.out.1;have FR:=hide HF.out.2.1;have aS:=HF.out.2.2.1;have aJ:=HF.out.2.2.2.1;clear HF MA LA KS E C l0 l1 A1 A2 A3 t Q4;obtain ⟨E,C,d2,d3⟩:=di (hide MC.out.mem.kR)
     cases cf with
     | true=>
      obtain ⟨b0,b1,b2,b3⟩:=di (hide MC.out.mem.mM);have n:=hide (MC.out.VD D);obtain ⟨x0,x1,_,_⟩:=di (hide n.out.mem.mM);have SP:=hide (S.out.zq (d:=D) FP.out);go_wp2;refine @bodyPost_ret _ _ _ _ _ (.tuple #[.agg #[.int .u64 (D.1:Int),.int .u64 (D.2:Int)],.bool true]) ?_ ?_ ?_
      ·simp [results,Tryz.results117,go_sem,x0,x1]
      ·rfl
      ·exact ⟨D,true,_,k,_,rfl,n.out.mem.below,n.out.mem.keeps,n.out.mem.fK,SP.out,WI.out,O⟩
     | false=>
      have ar:=FP.out.Gl;have MS:Hid (KY (D.un F) (o.un F) < KY D P):=by
       rw [<- av.out];exact Ta ip o2 ai FP.out.fresh
      have SN:Hid (pI z k m a b (D.un F) (o.un F)):=by
       have:=S.out.step o2 af FP.out WI.out;rw [av.out] at this;exact this
      have Q5:Hid (∀ W,Calls Tryz.prog 75 #[dC o,dC F] W fun e g=>e=.returned (dC (o.un F))/\Below W.heap.size W g):=fun W=>ig o F W X ar
      have Q6:Hid (∀ W,Calls Tryz.prog 75 #[dC D,dC F] W fun e g=>e=.returned (dC (D.un F))/\Below W.heap.size W g):=fun W=>ig D F W O ar
      unfold dC at Q5 Q6;generalize o.un F=P2 at Q5 MS SN;generalize D.un F=D2 at Q6 MS SN;obtain ⟨N,p1,p2,p3⟩:=di (hide MC.out.kV);obtain ⟨f0,f1,_,_⟩:=di FR;go_upto_region 11 with fail
      go_wp2_with fail
      with_reducible refine (Q5.out _).mono ?_
      rintro ea wa ⟨rfl,aa⟩;simp only [];have Ma:=hide (MC.out.later aa);have Fa:Hid (wa.rowIs fb 84 2 (gJ F)):=FR.out.of_block (aa.block _ FR.out.lt);have Mb:=hide (Ma.out.Xo P2);have Fb:Hid (((wa.setCell ⟨l,0,none⟩ (.int .u64 (P2.1:Int))).setCell ⟨l,1,none⟩ (.int .u64 (P2.2:Int))).rowIs fb 84 2 (gJ F)):=Fa.out.of_block (dZ _ aJ);clear N p1 p2 p3 f0 f1 E C d2 d3;obtain ⟨N,p1,p2,p3⟩:=di (hide Ma.out.kV);clear aa;go_upto_region 12 with fail
      generalize aA:(wa.setCell ⟨l,0,none⟩ (.int .u64 (P2.1:Int))).setCell ⟨l,1,none⟩ (.int .u64 (P2.2:Int))=wb at Mb Fb ⊢;clear aA N p1 p2 p3 Ma Fa MC FR;obtain ⟨E,C,d2,d3⟩:=di (hide Mb.out.mem.kR);obtain ⟨f0,f1,_,_⟩:=di Fb;go_wp2_with fail
      with_reducible refine (Q6.out _).mono ?_
      rintro ed wd ⟨rfl,aj⟩;simp only [];have Md:=hide (Mb.out.later aj);have Me:=hide (Md.out.Tn D2);clear E C d2 d3 f0 f1 aj;obtain ⟨E,C,d2,d3⟩:=di (hide Md.out.mem.kR);go_wp2;have KE:wG ((wd.setCell ⟨w.heap.size,0,none⟩ (.int .u64 (D2.1:Int))).setCell ⟨w.heap.size,1,none⟩ (.int .u64 (D2.2:Int))) w.heap.size=D2/\wG ((wd.setCell ⟨w.heap.size,0,none⟩ (.int .u64 (D2.1:Int))).setCell ⟨w.heap.size,1,none⟩ (.int .u64 (D2.2:Int))) l=P2:=⟨rR Me.out.mem.kR,rR Me.out.kV⟩;go_roundw
      case rel=>exact ⟨D2,P2,_,_,_,Me,SN⟩
      case measure=>rw [KE.1,KE.2,KR.out.1,KR.out.2];exact MS.out
end
end
end Rd
end Go.Proofs.YtceahffmenbibaaGreatDoor
