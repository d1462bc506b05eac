/- Pspw. -/
import Derived.Test.YtceahffmenbibaaGreatDoorJ19
import Derived.Deep.CutRange
set_option linter.unusedVariables false
set_option linter.unusedSimpArgs false
set_option maxHeartbeats 4000000
set_option maxRecDepth 100000
namespace Go.Proofs.YtceahffmenbibaaGreatDoor
namespace Rd
section
open Go Go.RowKit Go.Deep
section
attribute [local go_sem ↓] Go.wp_at_zero Go.wp_at_succ
theorem yf {X a:World} (k:di (X.alloc (.cells #[.int .u64 0,.int .u64 0] 84)) a):Hid (a.rowIs X.heap.size 84 2 (fU (0,0))):=by
 have r:=fK X (.int .u64 0) (.int .u64 0) 84;exact r.of_block (k _ (gu r))
theorem uT {X a:World} (k:di (X.alloc (.cells #[.int .u64 0,.int .u64 0] 84)).drew a):Hid (a.rowIs X.heap.size 84 2 (fU (0,0))):=by
 have r:=(fK X (.int .u64 0) (.int .u64 0) 84).drew;exact r.of_block (k _ (gu r))
theorem yc {X a:World} {c:Nat} (k:di X a) (h:Hid (X.rowIs c 84 2 (fU (0,0)))):Hid (a.rowIs c 84 2 (fU (0,0))):=h.out.of_block (k _ (gu h.out))
theorem uS {X a:World} {c:Nat} (k:di X.drew a) (h:Hid (X.rowIs c 84 2 (fU (0,0)))):Hid (a.rowIs c 84 2 (fU (0,0))):=h.out.of_block (k _ (gu h.out.drew))
theorem pq {B sb mb:Nat} {cv:Value} {j:Int} {u:Key} {wv:Nat->Value} {z:List dH} {wl:Nat->List Nat} (a b:Key) (w:World) (hd:a.ok) (hl:b.ok) (U:z.length <= 1600000000000)
  (hS:eG B sb w cv mb j u wv z wl) (hT:jJ B w) (hW:eU z wl) (hr:Rest z a):
  Calls Tryz.prog 117 #[.pointer (some ⟨sb,0,none⟩),dn a,dn b] w fun e g=>qW B sb w a b cv mb j u z e g:=by
 have M0:=hide (dR.start a b hS hT);have HW:=hide hW;have HR:=hide hr;have aw:=hide U;have HD:=hide hd;have HL:=hide hl;have G:Hid (∀ W,Calls Tryz.prog 114 #[dn b,dn a] W fun e g=>e=.returned (dn (b.wo a))/\Below W.heap.size W g):=fun W=>iK b a W hl hd
 have J:Hid (∀ W,Calls Tryz.prog 75 #[dn a,dn b] W fun e g=>e=.returned (dn (a.un b))/\Below W.heap.size W g):=fun W=>gN a b W hd hl
 have t:Hid (∀ W,Calls Tryz.prog 166 #[dn (a.un b)] W fun e g=>e=.returned (.bool (oq (a.un b)))/\Below W.heap.size W g):=fun W=>Fy _ W (qm hd hl)
 unfold dn at G J t ⊢;clear hS hT hW hr U;go_enter Tryz.func117,Tryz.ntmps117
 go_upto_region 1 with fail
 obtain ⟨W,ao⟩:∃ W,W=((w.alloc (.cells #[.int .u64 (a.1:Int),.int .u64 (a.2:Int)] 84)).alloc (.cells #[.int .u64 (b.1:Int),.int .u64 (b.2:Int)] 84)).alloc (.cells #[.int .u64 0,.int .u64 0] 84):=⟨_,rfl⟩;rw [<- ao] at M0 ⊢;clear ao;obtain ⟨a0,a1,_,_⟩:=cZ (hide M0.out.kI);obtain ⟨b0,b1,_,_⟩:=cZ (hide M0.out.pQ);generalize aH:b.wo a=P0 at G;go_wp2_with fail
 with_reducible refine (G.out _).mono ?_
 rintro e1 w1 ⟨rfl,an⟩;simp only [];have M1:=hide (M0.out.later an);have H1:=M1.out.hs;clear an a0 a1 b0 b1 M0;go_upto_region 2 with fail
 have r:Hid (gK B sb w1.heap.size w a b (0,0) P0 cv mb j u wv z wl (w1.alloc (.cells #[.int .u64 (P0.1:Int),.int .u64 (P0.2:Int)] 84))):=
  ⟨M1.out.later (bR.alloc lr _),fK _ _ _ _,H1⟩
 generalize aE:w1.heap.size=l at r ⊢;obtain ⟨W2,ap⟩:∃ W2,W2=w1.alloc (.cells #[.int .u64 (P0.1:Int),.int .u64 (P0.2:Int)] 84):=⟨_,rfl⟩;rw [<- ap] at r ⊢;clear ap aE M1 H1;obtain ⟨a0,a1,a2,a3⟩:=cZ (hide r.out.mem.kI);obtain ⟨b0,b1,_,_⟩:=cZ (hide r.out.mem.pQ);generalize aI:a.un b=L at J t;have Q:=hide aI;have aL:=hide aH;go_wp2_with fail
 with_reducible refine (J.out _).mono ?_
 rintro e3 w3 ⟨rfl,am⟩;simp only [];have M3:=hide (r.out.later am);have M4:=hide (M3.out.PQ L);obtain ⟨c0,c1,c2,c3⟩:=cZ (hide M3.out.mem.kI);clear am a0 a1 a2 a3 b0 b1 r;go_upto_region 3 with fail
 generalize aD:(w3.setCell ⟨w.heap.size,0,none⟩ (.int .u64 (L.1:Int))).setCell ⟨w.heap.size,1,none⟩ (.int .u64 (L.2:Int))=w4 at M4 ⊢;clear aD c0 c1 c2 c3 M3;obtain ⟨a0,a1,a2,a3⟩:=cZ (hide M4.out.mem.kI);generalize aG:oq L=cl at t;have ac:=hide aG;go_wp2_with fail
 with_reducible refine (t.out _).mono ?_
 rintro e5 w5 ⟨rfl,al⟩;simp only [];have M5:=hide (M4.out.later al);clear al a0 a1 a2 a3 M4 G J t
 cases cl with
 | true=>
  obtain ⟨a0,a1,a2,a3⟩:=cZ (hide M5.out.mem.kI);obtain ⟨b0,b1,b2,b3⟩:=cZ (hide M5.out.mem.ma);have H:=hide (M5.out.Tj L);obtain ⟨E,C,_,_⟩:=cZ (hide H.out.mem.ma);go_wp2;refine @bodyPost_ret _ _ _ _ _ (.tuple #[.agg #[.int .u64 (L.1:Int),.int .u64 (L.2:Int)],.bool true]) ?_ ?_ ?_
  ·simp [results,Tryz.results117,go_sem,E,C]
  ·rfl
  ·exact ⟨L,true,_,z,_,rfl,H.out.mem.below,H.out.mem.keeps,H.out.mem.fA,fo.clash (by rw [Q.out];exact ac.out),HW.out,by rw [<- Q.out];exact qm HD.out HL.out⟩
 | false=>
  have S0:Hid (o5 z z wl a b L P0):=by
   have:=o5.start HR.out HW.out HD.out HL.out (by rw [Q.out];exact ac.out);rw [Q.out,aL.out] at this;exact this
  have aM:=M5.out.hpb;clear HW HR ac;go_upto_region 5 with fail
  go_loopw [] (fun wr=>Ii B sb l w a b cv mb j u z wr) (fun wr=>JH (vU wr w.heap.size) (vU wr l))
  case atStart=>exact ⟨L,P0,_,_,_,M5,S0⟩
  case round=>
   clear M5 S0;obtain ⟨D,P,ax,y,ay,M,S⟩:=hrel;have O:=S.out.Ad.Vn;have x:=S.out.Ad.Vi;have QE:Hid (∀ W,Calls Tryz.prog 74 #[dn P] W fun e g=>e=.returned (.bool (jg P))/\Below W.heap.size W g):=fun W=>nQ P W x
   unfold dn at QE;obtain ⟨N,p1,_,_⟩:=cZ (hide M.out.kQ);generalize hE:jg P=em at QE;have HE:=hide hE;go_wp2_with fail
   with_reducible refine (QE.out _).mono ?_
   rintro e6 w6 ⟨rfl,f⟩;simp only [];have H:=hide (M.out.later f);have KR:Hid (vU wr w.heap.size=D/\vU wr l=P):=⟨rE M.out.mem.kI,rE M.out.kQ⟩;clear f N p1 QE M hE
   cases em with
   | true=>
    have aK:P=(0,0):=of_decide_eq_true HE.out;subst aK;obtain ⟨a0,a1,a2,a3⟩:=cZ (hide H.out.mem.kI);obtain ⟨b0,b1,b2,b3⟩:=cZ (hide H.out.mem.ma);have n:=hide (H.out.Tj D);obtain ⟨E,C,_,_⟩:=cZ (hide n.out.mem.ma);go_wp2;refine @bodyPost_ret _ _ _ _ _ (.tuple #[.agg #[.int .u64 (D.1:Int),.int .u64 (D.2:Int)],.bool false]) ?_ ?_ ?_
    ·simp [results,Tryz.results117,go_sem,E,C]
    ·rfl
    ·exact ⟨D,false,_,y,_,rfl,n.out.mem.below,n.out.mem.keeps,n.out.mem.fA,S.out.done,S.out.gG,O⟩
   | false=>
    have ad:P ≠ (0,0):=of_decide_eq_false HE.out;obtain ⟨o1,o2,ip⟩:=mE x ad;have G:Hid (∀ W,Calls Tryz.prog 158 #[dn P] W fun e g=>e=.returned (dn P.one)/\Below W.heap.size W g):=fun W=>wL P W x ad
    rw [o1] at G;obtain ⟨p,hp⟩:∃ p,P.gI=p:=⟨_,rfl⟩;rw [hp] at G o2 ip;clear o1 hp;have af:=dw ip;have ai:=S.out.Ad.sub p o2;have J:Hid (∀ W,Calls Tryz.prog 114 #[dn P,dn (single p)] W fun e g=>e=.returned (dn (P.wo (single p)))/\Below W.heap.size W g):=fun W=>iK P (single p) W x (fE ip)
    have t:Hid (∀ W,Calls Tryz.prog 118 #[dn (single p)] W fun e g=>e=.returned (dn (single p).op)/\Below W.heap.size W g):=fun W=>jE (single p) W
    rw [Ae af] at t;have au:y.length <= 1600000000000:=by rw [lN S.out.Ad.same];exact aw.out
    have Q4:Hid (∀ W,gK B sb l w D b (0,0) (P.wo (single p)) cv mb j u ax y ay W->Calls Tryz.prog 167 #[.pointer (some ⟨sb,0,none⟩),dn (single (-p)),dn D] W fun e g=>∃ (F:Key) (cf:Bool) (v:Nat->Value) (k:List dH) (m:Nat->List Nat),e=.returned (.tuple #[dn F,.bool cf])/\Hid (gK B sb l w D b (0,0) (P.wo (single p)) cv mb j u v k m g/\di W g/\gZ y k (-p) D F cf/\eU k m)):=fun W hM=>by
     with_reducible refine (qO (-p) D W (AR ip) O (by rw [Int.neg_neg];exact ai) au hM.mem.fA hM.mem.tab S.out.gG).mono ?_
     rintro e g ⟨F,cf,v,k,m,h1,h2,h3,h4,h5,h6⟩;exact ⟨F,cf,v,k,m,h1,hM.step h4 h3 h2,h3,h5,h6⟩
    unfold dn at G J t Q4;have X:(P.wo (single p)).ok:=qi x _;generalize aq:P.wo (single p)=o at J Q4 X;have av:Hid (P.wo (single p)=o):=aq;obtain ⟨N,p1,_,_⟩:=cZ (hide H.out.kQ);obtain ⟨R,ah⟩:∃ s,single p=s:=⟨_,rfl⟩;obtain ⟨sq,ag⟩:∃ s,single (-p)=s:=⟨_,rfl⟩;rw [ah] at G J t;rw [ag] at t Q4;clear ah ag aq;go_upto_region 6 with fail
    go_wp2_with fail
    with_reducible refine (G.out _).mono ?_
    rintro e7 Z ⟨rfl,ak⟩;simp only [];have n:=hide (H.out.later ak);clear ak N p1 H;have M8:=hide (n.out.later ((Below.refl _ Z).alloc lr (.cells #[.int .u64 (R.1:Int),.int .u64 (R.2:Int)] 84)));have L8:=hide (fK Z (.int .u64 (R.1:Int)) (.int .u64 (R.2:Int)) 84);have az:w.heap.size + 3 <= Z.heap.size:=n.out.mem.hs;have ae:Z.heap.size ≠ l:=fun e=>by have:=n.out.kQ.lt;omega
    go_upto_region 7 with fail
    generalize aF:Z.heap.size=lb at L8 az ae ⊢;generalize aC:Z.alloc (.cells #[.int .u64 (R.1:Int),.int .u64 (R.2:Int)] 84)=w8 at M8 L8 ⊢;clear aC aF n;obtain ⟨N,p1,_,_⟩:=cZ (hide M8.out.kQ);have l0:=L8.out.cell (i:=0) (by omega);have l1:=L8.out.cell (i:=1) (by omega);unfold vN at l0 l1;simp only [if_true,show ¬ (1=0) by decide,if_false] at l0 l1;go_wp2_with fail
    with_reducible refine (J.out _).mono ?_
    rintro e9 w9 ⟨rfl,ab⟩;simp only [];have M9:=hide (M8.out.later ab);have L9:Hid (w9.rowIs lb 84 2 (fU R)):=L8.out.of_block (ab.block _ L8.out.lt);obtain ⟨p2,p3,p4,p5⟩:=cZ (hide M9.out.kQ);have MA:=hide (M9.out.UG o);have LA:Hid (((w9.setCell ⟨l,0,none⟩ (.int .u64 (o.1:Int))).setCell ⟨l,1,none⟩ (.int .u64 (o.2:Int))).rowIs lb 84 2 (fU R)):=L9.out.of_block (dY _ ae);clear ab N p1 l0 l1 M8 L8 G J;go_upto_region 8 with fail
    generalize aB:(w9.setCell ⟨l,0,none⟩ (.int .u64 (o.1:Int))).setCell ⟨l,1,none⟩ (.int .u64 (o.2:Int))=I at MA LA ⊢;clear aB M9 L9 p2 p3 p4 p5;obtain ⟨E,C,_,_⟩:=cZ (hide MA.out.mem.kI);obtain ⟨l0,l1,_,_⟩:=cZ LA;have A1:=MA.out.mem.hs;have A2:=MA.out.kQ.lt;have A3:=LA.out.lt;have KS:Hid (∀ W,Below I.heap.size I W->W.cell? ⟨w.heap.size,0,none⟩=some (.int .u64 (D.1:Int))/\W.cell? ⟨w.heap.size,1,none⟩=some (.int .u64 (D.2:Int))):=fun W h=>
     ⟨(h.cell (p:=⟨w.heap.size,0,none⟩) (by simp;omega)).trans E,(h.cell (p:=⟨w.heap.size,1,none⟩) (by simp;omega)).trans C⟩
    go_cut [10,11] from 21 to 44 (fun q c wx=>zb B sb l w (-p) D b o cv mb j u y q c wx)
    case first=>
     have aR:w.heap.size < I.heap.size:=by omega
     have aQ:¬ (w.heap.size=I.heap.size):=by omega
     have aP:¬ (I.heap.size=w.heap.size):=by omega
     have aO:¬ (lb=I.heap.size):=by omega
     have aN:¬ (I.heap.size=lb):=by omega
     go_region_with (first
      |(go_at_call 118;refine (t.out _).mono ?_;rintro e6 w6 ⟨rfl,f⟩;have Y:Hid (Below I.heap.size I w6):=(by first | exact f | exact bR.drew.trans f | exact (bR.drew.alloc lr _).drew.trans (f.mono (by simp)) | exact (bR.alloc lr _).drew.trans (f.mono (by simp)) | exact (bR.alloc lr _).trans (f.mono (by simp)) | exact (bR.drew.alloc lr _).trans (f.mono (by simp)));obtain ⟨k0,k1⟩:=KS.out w6 Y.out;have s6:I.heap.size <= w6.heap.size:=Y.out.size;have l6:w.heap.size < w6.heap.size:=(by omega);have n6:¬ (w.heap.size=w6.heap.size):=(by omega);(first | (have N6:=(by with_reducible exact pz f)) | (have N6:=(by with_reducible exact oG f)) | (have N6:True:=trivial));clear f;simp only [])
      |(go_at_call 167;refine (Q4.out _ (MA.out.later (by first | exact Y.out | exact Y.out.drew | exact Y.out.alloc s6 _ | exact (Y.out.alloc s6 _).drew | exact (Y.out.drew.alloc s6 _) | exact (Y.out.drew.alloc s6 _).drew))).mono ?_;rintro e7 Z ⟨F,cf,v,k,m,rfl,K⟩;(first | (have V:=(by with_reducible exact yf K.out.2.1);obtain ⟨m0,m1,m2,m3⟩:=cZ V) | (have V:=(by with_reducible exact uT K.out.2.1);obtain ⟨m0,m1,m2,m3⟩:=cZ V) | (have V:=(by with_reducible exact yc K.out.2.1 N6);obtain ⟨m0,m1,m2,m3⟩:=cZ V) | (have V:=(by with_reducible exact uS K.out.2.1 N6);obtain ⟨m0,m1,m2,m3⟩:=cZ V) | skip);simp only []))
     all_goals
      go_wp2_with fail
      go_meet
      first
       | exact Hl K.out.1 K.out.2.2.1 K.out.2.2.2
       | exact Hg K.out.1 V.out (by omega) (by omega) K.out.2.2.1 K.out.2.2.2
    case rest=>
     obtain ⟨fb,F,cf,v,k,m,rfl,rfl,HF⟩:=hcut;have FP:=hide HF.out.2.2.2.2.1;have WI:=hide HF.out.2.2.2.2.2;have MC:=hide HF.out.1;have FR:=hide HF.out.2.1;have aS:=HF.out.2.2.1;have aJ:=HF.out.2.2.2.1;clear HF MA LA KS E C l0 l1 A1 A2 A3 t Q4;obtain ⟨E,C,d2,d3⟩:=cZ (hide MC.out.mem.kI)
     cases cf with
     | true=>
      obtain ⟨b0,b1,b2,b3⟩:=cZ (hide MC.out.mem.ma);have n:=hide (MC.out.Tj D);obtain ⟨x0,x1,_,_⟩:=cZ (hide n.out.mem.ma);have SP:=hide (S.out.yK (d:=D) FP.out);go_wp2;refine @bodyPost_ret _ _ _ _ _ (.tuple #[.agg #[.int .u64 (D.1:Int),.int .u64 (D.2:Int)],.bool true]) ?_ ?_ ?_
      ·simp [results,Tryz.results117,go_sem,x0,x1]
      ·rfl
      ·exact ⟨D,true,_,k,_,rfl,n.out.mem.below,n.out.mem.keeps,n.out.mem.fA,SP.out,WI.out,O⟩
     | false=>
      have ar:=FP.out.EN;have MS:Hid (JH (D.un F) (o.un F) < JH D P):=by
       rw [<- av.out];exact Px ip o2 ai FP.out.fresh
      have SN:Hid (o5 z k m a b (D.un F) (o.un F)):=by
       have:=S.out.step o2 af FP.out WI.out;rw [av.out] at this;exact this
      have Q5:Hid (∀ W,Calls Tryz.prog 75 #[dn o,dn F] W fun e g=>e=.returned (dn (o.un F))/\Below W.heap.size W g):=fun W=>gN o F W X ar
      have Q6:Hid (∀ W,Calls Tryz.prog 75 #[dn D,dn F] W fun e g=>e=.returned (dn (D.un F))/\Below W.heap.size W g):=fun W=>gN D F W O ar
      unfold dn at Q5 Q6;generalize o.un F=P2 at Q5 MS SN;generalize D.un F=D2 at Q6 MS SN;obtain ⟨N,p1,p2,p3⟩:=cZ (hide MC.out.kQ);obtain ⟨f0,f1,_,_⟩:=cZ FR;go_upto_region 11 with fail
      go_wp2_with fail
      with_reducible refine (Q5.out _).mono ?_
      rintro ea wa ⟨rfl,aa⟩;simp only [];have Ma:=hide (MC.out.later aa);have Fa:Hid (wa.rowIs fb 84 2 (fU F)):=FR.out.of_block (aa.block _ FR.out.lt);have Mb:=hide (Ma.out.UG P2);have Fb:Hid (((wa.setCell ⟨l,0,none⟩ (.int .u64 (P2.1:Int))).setCell ⟨l,1,none⟩ (.int .u64 (P2.2:Int))).rowIs fb 84 2 (fU F)):=Fa.out.of_block (dY _ aJ);clear N p1 p2 p3 f0 f1 E C d2 d3;obtain ⟨N,p1,p2,p3⟩:=cZ (hide Ma.out.kQ);clear aa;go_upto_region 12 with fail
      generalize aA:(wa.setCell ⟨l,0,none⟩ (.int .u64 (P2.1:Int))).setCell ⟨l,1,none⟩ (.int .u64 (P2.2:Int))=wb at Mb Fb ⊢;clear aA N p1 p2 p3 Ma Fa MC FR;obtain ⟨E,C,d2,d3⟩:=cZ (hide Mb.out.mem.kI);obtain ⟨f0,f1,_,_⟩:=cZ Fb;go_wp2_with fail
      with_reducible refine (Q6.out _).mono ?_
      rintro ed wd ⟨rfl,aj⟩;simp only [];have Md:=hide (Mb.out.later aj);have Me:=hide (Md.out.PQ D2);clear E C d2 d3 f0 f1 aj;obtain ⟨E,C,d2,d3⟩:=cZ (hide Md.out.mem.kI);go_wp2;have KE:vU ((wd.setCell ⟨w.heap.size,0,none⟩ (.int .u64 (D2.1:Int))).setCell ⟨w.heap.size,1,none⟩ (.int .u64 (D2.2:Int))) w.heap.size=D2/\vU ((wd.setCell ⟨w.heap.size,0,none⟩ (.int .u64 (D2.1:Int))).setCell ⟨w.heap.size,1,none⟩ (.int .u64 (D2.2:Int))) l=P2:=⟨rE Me.out.mem.kI,rE Me.out.kQ⟩;go_roundw
      case rel=>exact ⟨D2,P2,_,_,_,Me,SN⟩
      case measure=>rw [KE.1,KE.2,KR.out.1,KR.out.2];exact MS.out
end
end
end Rd
end Go.Proofs.YtceahffmenbibaaGreatDoor
