/- Sfwk Sspr Shw2 Shw3. -/
import Derived.Test.YtceahffmenbibaaGreatDoorJ06
import Derived.Test.YtceahffmenbibaaGreatDoorJ05
set_option linter.unusedVariables false
set_option linter.unusedSimpArgs false
set_option maxHeartbeats 4000000
set_option maxRecDepth 100000
namespace Go.Proofs.YtceahffmenbibaaGreatDoor
namespace So
section
open Go Go.RowKit Go.Deep Rd
section
variable {Z:Nat->Prop} {sb K:Nat} {w w':World} {f V:Nat->Value} {X:Nat->List Value} {n:Nat} {wl:Nat->List Nat} {tr ch:List Nat} {lev:Nat->Nat} {dB:Nat->Int}
theorem qO {cs:List Rec} {lit p:Nat} (h:dX Z sb w K f V X) (aP:K=16 + 2 * n) (h0:X 0=ints (enc cs)) (hn:n <= 50) (hN:(enc cs).length <= 1099511627776) (hT:ou n X tr ch lev dB) (hW:qh n V X wl)
  (ht:jm n tr ch lev) (hr:rZ (mapOf cs) tr ch dB) (hc:Dr n (mapOf cs)) (hw:wQ n (mapOf cs) wl) (hs:sO (mapOf cs) tr lev p) (hp:tr[p]? = some (op lit)) (ak:∀ q ∈ ch,q <= p):
  Calls Tryz.prog 138 #[.pointer (some ⟨sb,0,none⟩),.int .i64 (lit:Nat)] w fun e w'=>oz Z sb w K f X n lit p ch cs tr e w':=by
 have J:lit < 2 * n:=by
  have:=vP (ht.lt _ (List.mem_of_getElem? hp))
  rwa [jT] at this
 obtain ⟨g9,c9,wa,s,aE,a5,q5,qx,zx,l9,n9,z9,ox⟩:=hW.at' h aP J;have bs:=hw.len J;have S0:Hid (eD Z sb w K f X n lit p ch (wl lit) (V (16 + lit)) cs tr 0 [] (mix [] (wl lit)) cs tr lev dB wl f V X w):={
  fi:=FI.start ht hr hc hw hs hp ak
  dM:=h
  x0:=h0
  iD:=hT
  jk:=by
   rw [Cn];have e:(fun x=>if x=lit then wl lit else wl x)=wl:=by
    funext x;split
    ·rename_i e;rw [e]
    ·rfl
   rw [e];exact hW
  hv:=rfl
  perm:=iA.refl _
  only:=fun _ _ _ _=>rfl
  ff:=fun _ _=>rfl
  ext:=⟨[],by simp⟩
  fV:=dD.refl _ }
 have bF:(0:Int) <= (lit:Int):=by omega
 have bE:(lit:Int) < 2 * (n:Int):=by omega
 rw [a5] at S0;have W:Hid ((wa=none/\(wl lit).length=0/\s=0)\/∃ P,wa=some ⟨P,0,none⟩/\(wl lit).length <= s):=by
  rcases ox.2 with ⟨e,h0⟩ | ⟨g,a8,C,e,_,_,hn,_⟩
  ·obtain ⟨e1,e2,e3⟩:=Value.slice.inj e;exact .inl ⟨e1,e2,e3⟩
  ·obtain ⟨e1,e2,e3⟩:=Value.slice.inj e;exact .inr ⟨g,e1,by rw [e3];exact hn⟩
 clear h h0 hT hW ht hr hc hw hs hp ak aE a5 ox;generalize wl lit=d at *
 go_enter Tryz.func138,Tryz.ntmps138
 go_upto_region 3 with fail
 go_cut [7] from 8 (fun s7 wx=>s7=.int .i64 (-1)/\Hid (eD Z sb w K f X n lit p ch d (.slice wa d.length s) cs tr 0 [] (mix [] d) cs tr lev dB wl f V X wx))
 case first=>
  go_wp2_with fail
  go_meet;exact ⟨rfl,S0⟩
 case rest=>
 obtain ⟨rfl,S1⟩:=hcut;clear S0 q5 qx zx l9 n9 z9;rename_i bn;apply bn;apply wp_seq_k;intro K2 bu;go_cut [6,7] from 8 (fun s6 s7 wx=>Di Z sb w K f X n lit p ch (.slice wa d.length s) d.length cs tr s6 s7 wx)
 case first=>
  go_wp2_with fail
  go_loopw [6,7,8,9,10,20] (fun s6 s7 _ _ _ aI wr=>Ir Z sb w K f X n lit p ch d (.slice wa d.length s) cs tr s6 s7 aI wr) (fun _ _ _ _ _ aI _=>d.length - (intOf aI).toNat)
  case atStart=>exact ⟨0,[],cs,tr,lev,dB,wl,f,V,X,rfl,rfl,rfl,S1⟩
  case round=>
   clear S1;obtain ⟨i,G,cs',z,ad,ac,aH,f',V',X',rfl,rfl,rfl,l⟩:=hrel;have bP:=l.out.fi.uX;have bj:=l.out.fi.oK;by_cases O:i < d.length
   ·obtain ⟨P,rfl,bt⟩:∃ P,wa=some ⟨P,0,none⟩/\d.length <= s:=by
     rcases W.out with ⟨_,h0,_⟩ | h
     ·omega
     ·exact h
    obtain ⟨c,⟨hC,aB,aj⟩,L⟩:=l.out.fi.next O;obtain ⟨k,hk,ha,rfl⟩:=fD hC;simp only at aB aj L;obtain ⟨q,r,hl⟩:∃ q r,(cs'[k]).lits=lit :: q :: r\/(cs'[k]).lits=q :: lit :: r:=by
     match e:(cs'[k]).lits,aj,L with
     | x :: y :: r,_,L=>
      simp only [List.getElem?_cons_zero,List.getElem?_cons_succ,Option.some.injEq] at L
      rcases L with rfl | rfl
      ·exact ⟨y,r,.inl rfl⟩
      ·exact ⟨x,r,.inr rfl⟩
    have H:=l.out.fi.oC.vars _ _ hC;have ai:=l.out.fi.oC.lt _ _ hC;simp only at H ai;have aK:lit ≠ q/\lit ∉ r:=by
     rcases hl with e | e
     ·rw [e] at H;simp only [List.map_cons,List.nodup_cons,List.mem_cons,List.mem_map,not_or,not_exists,not_and] at H;exact ⟨fun e2=>H.1.1 (by rw [e2]),fun hm=>H.1.2 lit hm rfl⟩
     ·rw [e] at H;simp only [List.map_cons,List.nodup_cons,List.mem_cons,List.mem_map,not_or,not_exists,not_and] at H;exact ⟨fun e2=>H.1.1 (by rw [e2]),fun hm=>H.2.1 lit hm rfl⟩
    have bT:(enc cs').length <= 1099511627776:=by rw [l.out.perm.len];exact hN
    have QW:=hide (uD (w:=wr) l.out.dM aP l.out.x0 hk hl aK.1 aK.2 ai hn (by omega) l.out.iD l.out.jk (fun x hx=>by
     by_cases e:x=lit
     ·rw [if_pos e,fO (by omega)];omega
     ·have:=l.out.fi.qj.len hx;rw [if_neg e] at this ⊢;omega))
    rw [<- ha] at QW;have a2:wr.cell? ⟨P,i,none⟩=some (.int .i64 (d[i]:Nat)):=by
     have t:=l.out.jk.row lit J;rw [if_pos rfl] at t;have:=(l.out.dM.fG.cell (k:=16 + lit) (by omega) l.out.hv (j:=i) (by rw [t,dh,fO (by omega)];exact O)).1;rw [this,t,iZ _ _ (by rw [fO (by omega)];exact O),GV bj O]
    have bJ:(0:Int) <= (i:Int):=by omega
    have bI:(i:Int) < (d.length:Int):=by omega
    have a9:=hide l;have HL:=hide hl;have HA:=hide ha;obtain ⟨a,aN⟩:∃ a,a=d[i]:=⟨_,rfl⟩;rw [<- aN] at a2 QW;have ar:=hide aN;clear L aj hC H ai aK aN ha l;have l:Hid (eD Z sb w K f X n lit p ch d (.slice (some ⟨P,0,none⟩) d.length s) cs tr i G (mix G d) cs' z ad ac aH f' V' X' wr):=a9.out;clear a9 hl;go_upto_if 28 with (go_at_call 179;refine QW.out.mono ?_;rintro e7 w7 ⟨b,V2,X2,rfl,aF⟩;have aG:=hide aF;clear aF;simp only [])
    clear QW a2;obtain ⟨aC,aw,ay,av,aM⟩:=aG.out;clear aG
    rcases aM with ⟨rfl,ae,af,aW⟩ | ⟨rfl,bi,jj,o,bh,bg,ae,af⟩
    ·
     have S2:=l.out.stays O hk HA.out HL.out aw aC ay ae af av;have U:k < (cs'.set k ⟨(cs'[k]).kind,(cs'[k]).busy,q :: lit :: r⟩).length:=by simpa using hk
     have az:((cs'.set k ⟨(cs'[k]).kind,(cs'[k]).busy,q :: lit :: r⟩)[k]).lits=q :: lit :: r:=by simp
     have am:((cs'.set k ⟨(cs'[k]).kind,(cs'[k]).busy,q :: lit :: r⟩)[k]).kind ≠ 2:=by simpa using aB
     have aO:d[i]=dU (cs'.set k ⟨(cs'[k]).kind,(cs'[k]).busy,q :: lit :: r⟩) k:=by
      rw [HA.out];exact (nT hk (by rcases HL.out with e | e <;> rw [e] <;> simp) k).symm
     generalize cs'.set k ⟨(cs'[k]).kind,(cs'[k]).busy,q :: lit :: r⟩=u at S2 U az am aO;have ah:q < 2 * n:=by
      have:=S2.fi.oC.lt _ _ (eP U) q (by rw [az];simp);exact this
     have t:=S2.jk.row lit J;rw [if_pos rfl] at t;have al:G.length < d.length:=by omega
     obtain ⟨a7,bp⟩:=S2.dM.fG.cell (k:=16 + lit) (by omega) S2.hv (j:=G.length) (by rw [t,dh,fO (by omega)];exact al);rw [t,iZ _ _ (by rw [fO (by omega)];exact al)] at a7;have S3:=hide (S2.store (by omega) al rfl a);have bH:(0:Int) <= (G.length:Int):=by omega
     have bG:(G.length:Int) < (d.length:Int):=by omega
     have kw:(G.length:Int) + 1 < 9223372036854775807:=by omega
     have aT:=hide aW;have aq:=hide az;have au:=hide aO;have bb:=hide am;clear l aw aC ay ae af av aW S2 az aO am t HL HA aB hk;go_upto_region 10 with fail
     generalize bm:w7.setCell ⟨P,G.length,none⟩ (.int .i64 (a:Nat))=W3 at S3 ⊢;clear bm a7 bp;generalize upd X2 (16 + lit) (dC (mix (G ++ [a]) d))=X3 at S3;obtain ⟨g,c,e0,q0,bl,lg,ng,zg,r0,-,-,rl,-⟩:=mU S3.out.dM S3.out.x0 U;have Q:=kH U;have bN:2 <= (u[k]).lits.length:=by rw [aq.out];simp
     have bS:(enc u).length <= 1099511627776:=by rw [S3.out.perm.len];exact hN
     have cq:=rl 0 (by omega);rw [show (u[k]).lits[0]'(by omega)=q by simp [aq.out],Nat.add_zero,<- au.out,<- ar.out] at cq;have QL:Hid (∀ Y:World,Y.heap=W3.heap->Calls Tryz.prog 175 #[.pointer (some ⟨sb,2,none⟩),.int .i64 (dU u k:Nat)] Y fun e w'=>e=.returned (jM g (dU u k) (u[k]).lits.length c)/\∃ j,w'=Y.drewN j):=fun Y hY=>ky sb 2 g (enc u).length c (dU u k) (u[k]).lits.length Y (by rw [show Y.cell? ⟨sb,2,none⟩=W3.cell? ⟨sb,2,none⟩ from World.cell?_of_block (a:=⟨sb,2,none⟩) (by rw [hY])];exact q0) (by omega) (by unfold maxLen;omega) bl (by rw [show Y.cell? ⟨g,dU u k,none⟩=W3.cell? ⟨g,dU u k,none⟩ from World.cell?_of_block (a:=⟨g,dU u k,none⟩) (by rw [hY])];exact r0)
     have nc:¬ (c=dU u k + 3):=by omega
     unfold jM at QL;rw [if_neg nc,<- au.out,<- ar.out] at QL;have bf:(0:Int) < ((u[k]).lits.length:Int):=by omega
     clear r0 rl q0 e0;generalize (u[k]).lits.length=m at QL bf;obtain ⟨g3,c3,t3,e3,q3,r3,s3,-⟩:=S3.out.dM.elem (k:=3) (j:=q) (by omega) S3.out.iD.n3 ah;rw [show cellOf 3=9 from rfl] at q3;rw [S3.out.iD.t3 q ah] at s3;obtain rfl:=Option.some.inj s3;clear e3;have bC:(0:Int) <= (q:Int):=by omega
     have QO:Hid (∀ Y:World,Y.heap=W3.heap->Calls Tryz.prog 135 #[.pointer (some ⟨sb,6,none⟩),.int .i64 (q:Nat)] Y fun e w'=>e=.returned (.bool (tv z q == 0))/\w'=Y):=fun Y hY=>sJ sb 6 g3 (2 * n) c3 q (tv z q) Y (by rw [show Y.cell? ⟨sb,6 + 3,none⟩=W3.cell? ⟨sb,9,none⟩ from World.cell?_of_block (a:=⟨sb,9,none⟩) (by rw [hY])];exact q3) ah (by rw [show Y.cell? ⟨g3,q,none⟩=W3.cell? ⟨g3,q,none⟩ from World.cell?_of_block (a:=⟨g3,q,none⟩) (by rw [hY])];exact r3)
     have QF:Hid (∀ Y:World,Y.heap=W3.heap->Calls Tryz.prog 134 #[.pointer (some ⟨sb,6,none⟩),.int .i64 (q:Nat)] Y fun e w'=>e=.returned (.bool (decide (tv z q < 0)))/\w'=Y):=fun Y hY=>qN sb 6 g3 (2 * n) c3 q (tv z q) Y (by rw [show Y.cell? ⟨sb,6 + 3,none⟩=W3.cell? ⟨sb,9,none⟩ from World.cell?_of_block (a:=⟨sb,9,none⟩) (by rw [hY])];exact q3) ah (by rw [show Y.cell? ⟨g3,q,none⟩=W3.cell? ⟨g3,q,none⟩ from World.cell?_of_block (a:=⟨g3,q,none⟩) (by rw [hY])];exact r3)
     clear q3 r3;have HQ:Hid (tv z q=1\/tv z q=0\/tv z q=-1):=by unfold Hid tv;split <;> (try split) <;> omega
     generalize aX:tv z q=tq at QO QF aT HQ;have aU:=hide aX;clear aX;go_upto_region 11 with (go_at_call 175;refine (QL.out _ (by rfl)).mono ?_;rintro e8 w8 ⟨rfl,j8,rfl⟩;simp only [])
     obtain ⟨W4,aD⟩:∃ W4,W4=W3.drewN j8:=⟨_,rfl⟩;have b4:Below W3.heap.size W3 W4:=by rw [aD];exact Go.below_drewN bR _
     have bc:Hid (W4.heap=W3.heap):=by rw [aD];rfl
     rw [<- aD];have S:=hide (S3.out.later b4);have ab:Hid (∀ Y:World,Y.heap=W4.heap->Calls Tryz.prog 135 #[.pointer (some ⟨sb,6,none⟩),.int .i64 (q:Nat)] Y fun e w'=>e=.returned (.bool (tq == 0))/\w'=Y):=fun Y hY=>QO.out Y (hY.trans bc.out)
     have ap:Hid (∀ Y:World,Y.heap=W4.heap->Calls Tryz.prog 134 #[.pointer (some ⟨sb,6,none⟩),.int .i64 (q:Nat)] Y fun e w'=>e=.returned (.bool (decide (tq < 0)))/\w'=Y):=fun Y hY=>QF.out Y (hY.trans bc.out)
     clear aD b4 S3 QO QF QL cq lg
     rcases HQ.out with rfl | rfl | rfl
     ·
      have ao:Hid (∀ Y:World,Y.heap=W4.heap->Calls Tryz.prog 135 #[.pointer (some ⟨sb,6,none⟩),.int .i64 (q:Nat)] Y fun e w'=>e=.returned (.bool false)/\w'=Y):=ab.out;have aS:Hid (∀ Y:World,Y.heap=W4.heap->Calls Tryz.prog 134 #[.pointer (some ⟨sb,6,none⟩),.int .i64 (q:Nat)] Y fun e w'=>e=.returned (.bool false)/\w'=Y):=ap.out;clear ab ap;have S5:=hide (S.out.UW O U au.out aq.out aU.out);rw [<- ar.out] at S5;have aJ:Hid ((G ++ [a]).length=G.length + 1):=by unfold Hid;simp
      clear S;go_upto_region 13 with (go_at_call 135;refine (ao.out _ (by rfl)).mono ?_;rintro e9 w9 ⟨rfl,rfl⟩;simp only [])
      go_wp2_with (go_at_call 134;refine (aS.out _ (by rfl)).mono ?_;rintro e9 w9 ⟨rfl,rfl⟩;simp only [])
      go_roundw
      case rel=>exact ⟨i + 1,G ++ [a],_,_,_,_,_,_,_,_,by rw [aJ.out];rfl,rfl,by go_num,S5⟩
      case measure=>simp [intOf];omega
     ·
      have R:∀ y ∈ r,tv z y=-1:=by
       rcases aT.out with e | ⟨_,e⟩
       ·cases e
       ·exact e
      have ao:Hid (∀ Y:World,Y.heap=W4.heap->Calls Tryz.prog 135 #[.pointer (some ⟨sb,6,none⟩),.int .i64 (q:Nat)] Y fun e w'=>e=.returned (.bool true)/\w'=Y):=ab.out;have l1:(X3 1).length=z.length:=by rw [S.out.iD.l1,dh]
      have l2:(X3 2).length=ch.length:=by rw [S.out.iD.l2,dh]
      have be:=S.out.fi.dN.len;have QA:=hide (pV (w:=W4) q n ch.length (a:Nat) ah hn S.out.dM (by omega) l2 S.out.iD.n3 S.out.iD.n4 S.out.iD.n5);have UT:=hide (fun w' v' hs hc=>S.out.Ux (w':=w') (v':=v') O U bb.out au.out aq.out aU.out R hs hc);rw [<- ar.out] at UT;have aJ:Hid ((G ++ [a]).length=G.length + 1):=by unfold Hid;simp
      clear ab ap S R l1 l2 be;go_upto_region 12 with (go_at_call 135;refine (ao.out _ (by rfl)).mono ?_;rintro e9 w9 ⟨rfl,rfl⟩;simp only [])
      go_wp2_with (go_at_call 136;refine QA.out.mono ?_;rintro eA wA ⟨rfl,a3,vA,aZ⟩;have S5:=hide (UT.out wA vA aZ a3);clear a3 aZ;simp only [])
      go_roundw
      case rel=>exact ⟨i + 1,G ++ [a],_,_,_,_,_,_,_,_,by rw [aJ.out];rfl,rfl,by go_num,S5⟩
      case measure=>simp [intOf];omega
     ·
      have R:∀ y ∈ r,tv z y=-1:=by
       rcases aT.out with e | ⟨_,e⟩
       ·cases e
       ·exact e
      have ao:Hid (∀ Y:World,Y.heap=W4.heap->Calls Tryz.prog 135 #[.pointer (some ⟨sb,6,none⟩),.int .i64 (q:Nat)] Y fun e w'=>e=.returned (.bool false)/\w'=Y):=ab.out;have aS:Hid (∀ Y:World,Y.heap=W4.heap->Calls Tryz.prog 134 #[.pointer (some ⟨sb,6,none⟩),.int .i64 (q:Nat)] Y fun e w'=>e=.returned (.bool true)/\w'=Y):=ap.out;clear ab ap
      go_upto_region 14 with (first | (go_at_call 135;refine (ao.out _ (by rfl)).mono ?_;rintro e9 w9 ⟨rfl,rfl⟩;simp only []) | (go_at_call 134;refine (aS.out _ (by rfl)).mono ?_;rintro e9 w9 ⟨rfl,rfl⟩;simp only []))
      obtain ⟨D,aA⟩:∃ D,D=G.length + 1:=⟨_,rfl⟩;obtain ⟨E,aL⟩:∃ E,E=i + 1:=⟨_,rfl⟩;have t:=S.out.jk.row lit J;rw [if_pos rfl] at t;have ax:=S.out.dM.fG.own (16 + lit) (by omega);rw [S.out.hv,wN,t,dh,fO (by simp;omega)] at ax;obtain ⟨C,hg,bQ⟩:∃ C,w9.heap[P]? = some (.cells C 3 (0,0))/\d.length <= C.size:=by
       rcases ax.2 with ⟨e,_⟩ | ⟨g',a8,a6,e,_,bk,bL,_,bK,_⟩
       ·cases e
       ·cases e;exact ⟨a6,bk,by omega⟩
      obtain ⟨N,an⟩:∃ N,N=d.length - E:=⟨_,rfl⟩;obtain ⟨B,M⟩:∃ B,B=dC (d.drop E):=⟨_,rfl⟩;have I:B.length=N:=by rw [M,an,dh];simp
      have aV:(G ++ [a]).length=D:=by rw [aA];simp
      have aY:Hid (∀ j v,B[j]? = some v->w9.cell? (Addr.add ⟨P,E,none⟩ j)=some v):=by rw [M];exact yI ax (by rw [aV];omega)
      have aQ:Hid (∀ v ∈ B,v.oneCell'=true):=by rw [M];exact xS _
      have CP:Hid (∀ w',w'.heap[P]? = some (.cells (splice C.toList D B).toArray 3 (0,0))->(∀ k,k ≠ P->w'.heap[k]? = w9.heap[k]?)->Below 0 w9 w'->Di Z sb w K f X n lit p ch (.slice (some ⟨P,0,none⟩) d.length s) d.length cs tr (.int .i64 ((D + N:Nat):Int)) (.int .i64 (a:Nat)) w'):=fun w' q1 q2 q3=>S.out.KL O ar.out (by omega) U bb.out au.out aq.out aU.out R rfl aA aL an hg (by rw [<- M];exact q1) q2 q3
      have HG:=hide hg;have bW:=hide aA;have bX:=hide aL;have i1:(i:Int) + 1=(E:Int):=by omega
      have i2:(G.length:Int) + 1=(D:Int):=by omega
      have j0:(0:Int) <= (E:Int):=by omega
      have j1:(E:Int) <= (d.length:Int):=by omega
      have j2:(0:Int) <= (D:Int):=by omega
      have j3:(D:Int) <= (d.length:Int):=by omega
      have j4:(E:Int) <= (s:Int):=by omega
      have j5:(D:Int) <= (s:Int):=by omega
      have j6:D <= E:=by omega
      have j7:(i:Int) + 1 < 9223372036854775807:=by omega
      have a0:N=Nat.min (d.length - E) (d.length - D):=by rw [an];exact (Nat.min_eq_left (by omega)).symm
      have br:=hide a0;clear a0;have a1:D + N <= C.size:=by omega
      have kb:D + N <= 1099511627776:=by omega
      have bv:=hide M;have ba:=hide an;have wi:IntKind.i64.wrap (E:Int)=(E:Int):=zR _ (by omega) (by omega);have wk:Hid (IntKind.i64.wrap ((D:Int) + (N:Int))=((D + N:Nat):Int)):=by unfold Hid;rw [zR _ (by omega) (by omega)];omega
      have aa:s=E->d.length=E:=fun e=>by omega
      clear ax t M hg an aV aA aL S R;rw [i2];by_cases cA:E < s
      ·have bA:¬ (s=E):=by omega
       have bx:¬ (s=D):=by omega
       go_region_law (refine jB (by rfl) _ _ 43 43 (by rfl) 3 Tryz.underlying43 (by rfl) P D ⟨P,E,none⟩ (d.length - D) (s - D) (d.length - E) (s - E) (by simp [Act.eval,Act.put]) (by simp [Act.eval,Act.put]) C 3 HG.out B (by rw [I];exact br.out) aY.out (by rw [I];exact a1) aQ.out 0 zl ?_;intro wZ H1 H2 H3;rw [I])
       all_goals
        have FX:=hide (CP.out wZ H1.out H2.out ((Below.refl 0 w9).drew.trans H3.out));rw [<- wk.out] at FX;clear H1 H2 H3;go_wp2_with fail
        go_meet
        first | exact FX.out | (rw [wk.out,Int.natCast_add] at FX;exact FX.out)
      ·have eA:s=E:=by omega
       have eB:d.length=E:=aa eA;have aR:B=[]:=List.eq_nil_of_length_eq_zero (by rw [I,ba.out];omega);have ag:Hid (∀ j v,B[j]? = some v->w9.cell? (Addr.add ⟨P,0,none⟩ j)=some v):=fun j v hv=>by rw [aR] at hv;simp at hv
       have bq:Hid (∀ o,splice C.toList o B=splice C.toList D B):=fun o=>by rw [aR,xy,xy]
       have a4:Hid (∀ y,N=Nat.min 0 y):=fun y=>by rw [ba.out,eB];simp
       have bY:=hide eB;clear aR aa eB;subst eA;by_cases cB:s=D
       ·subst cB;have bo:0 + N <= C.size:=by omega
        go_region_law (refine jB (by rfl) _ _ 43 43 (by rfl) 3 Tryz.underlying43 (by rfl) P 0 ⟨P,0,none⟩ 0 0 0 0 (by simp [Act.eval,Act.put]) (by simp [Act.eval,Act.put]) C 3 HG.out B (by rw [I];exact a4.out _) ag.out (by rw [I];exact bo) aQ.out 0 zl ?_;intro wZ H1 H2 H3;rw [I])
        all_goals
         rw [bq.out] at H1;have FX:=hide (CP.out wZ H1.out H2.out ((Below.refl 0 w9).drew.trans H3.out));rw [<- wk.out] at FX;clear H1 H2 H3;go_wp2_with fail
         go_meet
         first | exact FX.out | (rw [wk.out,Int.natCast_add] at FX;exact FX.out)
       ·go_region_law (refine jB (by rfl) _ _ 43 43 (by rfl) 3 Tryz.underlying43 (by rfl) P D ⟨P,0,none⟩ (d.length - D) (s - D) 0 0 (by simp [Act.eval,Act.put]) (by simp [Act.eval,Act.put]) C 3 HG.out B (by rw [I];exact a4.out _) ag.out (by rw [I];exact a1) aQ.out 0 zl ?_;intro wZ H1 H2 H3;rw [I])
        all_goals
         have FX:=hide (CP.out wZ H1.out H2.out ((Below.refl 0 w9).drew.trans H3.out));rw [<- wk.out] at FX;clear H1 H2 H3;go_wp2_with fail
         go_meet
         first | exact FX.out | (rw [wk.out,Int.natCast_add] at FX;exact FX.out)
    ·have S2:=hide (l.out.moves O hk aB HA.out HL.out aw aC ay bi bh bg ae af av);clear l aw aC ay ae af av;go_wp2;go_roundw
     case rel=>exact ⟨i + 1,G,_,_,_,_,_,_,_,_,rfl,rfl,by go_num,S2⟩
     case measure=>simp [intOf];omega
   ·have ei:i=d.length:=by omega
    subst ei;have SE:=hide l.out.atEnd;clear l;go_wp2_with fail
    go_meet;exact ⟨G.length,-1,mix G d,cs',z,ad,ac,aH,f',V',X',rfl,rfl,by omega,fO (by omega),SE⟩
 case rest=>
  clear S1;obtain ⟨kept,bB,ml,cs',z,ad,ac,aH,f',V',X',rfl,rfl,bO,bM,Q⟩:=hcut;have h9:=Q.out.jk.n9;obtain ⟨bU,bV,t9,aE,q9,r9,s9,z9,bw,l9,bD⟩:=Q.out.dM.elem (k:=9) (j:=lit) (by omega) h9 J;rw [show cellOf 9=5 from rfl] at q9;have bd:=hide (Q.out.out aP rfl (by omega) aE);have k0:(0:Int) <= (kept:Int):=by omega
  have k1:(kept:Int) <= (d.length:Int):=by omega
  have k2:(kept:Int) <= (s:Int):=by
   rcases W.out with ⟨_,h0,_⟩ | ⟨_,_,h⟩ <;> omega
  clear Q aE s9 h9;go_upto_region 17 with fail
  go_region_with fail
  all_goals
   go_wp2;go_ret
   first | exact bd.out | exact bd.out.later bR.drew
end
section
variable {Z:Nat->Prop} {sb K:Nat} {w w':World} {f V:Nat->Value} {X:Nat->List Value} {n:Nat} {wl:Nat->List Nat} {tr ch:List Nat} {lev:Nat->Nat} {dB:Nat->Int}
def kD (w:World) (a:Addr):Int:=match w.cell? a with | some v=>intOf v | none=>0
structure qV (Z:Nat->Prop) (sb:Nat) (w:World) (K:Nat) (f:Nat->Value) (X:Nat->List Value) (n:Nat) (ch:List Nat) (cs:List Rec) (lJ:List Nat) (sp:Nat) (cs':List Rec) (tr:List Nat) (lev:Nat->Nat) (dB:Nat->Int) (wl:Nat->List Nat) (f' V':Nat->Value) (X':Nat->List Value) (wr:World):Prop where
 pi:PI n (mapOf cs') tr ch lev dB wl sp
 dM:dX Z sb wr K f' V' X'
 x0:X' 0=ints (enc cs')
 iD:ou n X' tr ch lev dB
 jk:qh n V' X' wl
 perm:iA cs cs'
 only:∀ k,6 <= k->k ≠ 9->k < 16->X' k=X k
 ff:∀ j,j ≠ 6->j ≠ 7->f' j=f j
 f7:f' 7=.int .i64 (sp:Nat)
 Gg:sp <= tr.length
 late:∀ q ∈ ch,q <= sp
 ext:∃ e,tr=lJ ++ e
 fV:dD Z w wr
def Ii (Z:Nat->Prop) (sb:Nat) (w:World) (K:Nat) (f:Nat->Value) (X:Nat->List Value) (n:Nat) (ch:List Nat) (cs:List Rec) (lJ:List Nat) (wr:World):Prop:=
 ∃ sp cs' tr lev dB wl f' V' X',Hid (qV Z sb w K f X n ch cs lJ sp cs' tr lev dB wl f' V' X' wr)
structure fo (Z:Nat->Prop) (sb:Nat) (w:World) (K:Nat) (f:Nat->Value) (X:Nat->List Value) (n:Nat) (ch:List Nat) (cs:List Rec) (lJ:List Nat) (res:Int) (P sp:Nat) (cs':List Rec) (tr:List Nat) (lev:Nat->Nat) (dB:Nat->Int) (wl:Nat->List Nat) (f' V':Nat->Value) (X':Nat->List Value) (wr:World):Prop where
 pi:PI n (mapOf cs') tr ch lev dB wl P
 dM:dX Z sb wr K f' V' X'
 x0:X' 0=ints (enc cs')
 iD:ou n X' tr ch lev dB
 jk:qh n V' X' wl
 perm:iA cs cs'
 only:∀ k,6 <= k->k ≠ 9->k < 16->X' k=X k
 ff:∀ j,j ≠ 6->j ≠ 7->f' j=f j
 f7:f' 7=.int .i64 (sp:Nat)
 Gg:sp <= tr.length
 late:∀ q ∈ ch,q <= P
 ext:∃ e,tr=lJ ++ e
 fV:dD Z w wr
 res:(res=-1/\P=tr.length/\sp=tr.length)\/∃ k,∃ hk:k < cs'.length,res=(dU cs' k:Nat)/\(cs'[k]).kind ≠ 2/\(∀ y ∈ (cs'[k]).lits,op y ∈ tr)/\∃ y ∈ (cs'[k]).lits,lev (y / 2)=ch.length
def qW (Z:Nat->Prop) (sb:Nat) (w:World) (K:Nat) (f:Nat->Value) (X:Nat->List Value) (n:Nat) (ch:List Nat) (cs:List Rec) (lJ:List Nat) (e:Ending) (w':World):Prop:=
 ∃ res P sp cs' tr lev dB wl f' V' X',e=.returned (.int .i64 res)/\fo Z sb w K f X n ch cs lJ res P sp cs' tr lev dB wl f' V' X' w'
variable {cs cs':List Rec} {lJ:List Nat} {sp:Nat} {f' V':Nat->Value} {X':Nat->List Value} {wr wx:World}
theorem gy {w w':World} (h:w'.heap=w.heap) (a:Addr):w'.cell? a=w.cell? a:=World.cell?_of_block (by rw [h])
theorem nH {w w':World} (h:w'.heap=w.heap) (a:Addr):w'.frozen? a=w.frozen? a:=World.frozen?_of_block (by rw [h])
theorem qV.later (h:qV Z sb w K f X n ch cs lJ sp cs' tr lev dB wl f' V' X' wr) (hb:Below wr.heap.size wr wx):qV Z sb w K f X n ch cs lJ sp cs' tr lev dB wl f' V' X' wx:=
 { h with dM:=h.dM.later hb,fV:=h.fV.trans (dD.of_below hb) }
theorem qW.later {e:Ending} (h:qW Z sb w K f X n ch cs lJ e wr) (hb:Below wr.heap.size wr wx):qW Z sb w K f X n ch cs lJ e wx:=by
 obtain ⟨a,P,sp,cs',tr,lev,dB,wl,f',V',X',c,b⟩:=h;exact ⟨a,P,sp,cs',tr,lev,dB,wl,f',V',X',c,{ b with dM:=b.dM.later hb,fV:=b.fV.trans (dD.of_below hb) }⟩
theorem qV.done (h:qV Z sb w K f X n ch cs lJ sp cs' tr lev dB wl f' V' X' wr) (a:sp=tr.length):qW Z sb w K f X n ch cs lJ (.returned (.int .i64 (-1))) wr:=
 ⟨-1,sp,sp,cs',tr,lev,dB,wl,f',V',X',rfl,{ h with res:=.inl ⟨rfl,a,a⟩ }⟩
theorem qV.next (h:qV Z sb w K f X n ch cs lJ sp cs' tr lev dB wl f' V' X' wr) (I:sp < tr.length) {lit:Nat} (N:tr[sp]? = some (op lit)) {e:Ending} (J:oz Z sb (wr.setCell ⟨sb,7,none⟩ (.int .i64 ((sp + 1:Nat):Int))) K (upd f' 7 (.int .i64 ((sp + 1:Nat):Int))) X' n lit sp ch cs' tr e wx):
  ∃ res,e=.returned (.int .i64 res)/\((res=-1/\∃ l a c b i p x v,qV Z sb w K f X n ch cs lJ (sp + 1) l a c b i p x v wx)\/(res ≠ -1/\qW Z sb w K f X n ch cs lJ (.returned (.int .i64 res)) wx)):=by
 obtain ⟨res,l,a,c,b,i,p,x,v,rfl,g⟩:=J;obtain ⟨P,o⟩:=g.ext;obtain ⟨R,B⟩:=h.ext;have d:sp < a.length:=by rw [o];simp;omega
 have C:dD Z w wx:=(h.fV.setCell h.dM.jA _).trans g.fV;have t:∀ j,j ≠ 6->j ≠ 7->p j=f j:=fun j E D=>(g.ff j E).trans ((cu _ _ D).trans (h.ff j E D))
 have u:p 7=.int .i64 ((sp + 1:Nat):Int):=(g.ff 7 (by decide)).trans (cK ..);have s:∀ k,6 <= k->k ≠ 9->k < 16->v k=X k:=fun k H G F=>(g.only k H G F).trans (h.only k H G F)
 have r:∃ e,a=lJ ++ e:=⟨R ++ P,by rw [o,B,List.append_assoc]⟩;refine ⟨res,rfl,?_⟩
 rcases g.res with ⟨m,y⟩ | ⟨y,k,O,m,z,A,M⟩
 ·refine .inl ⟨m,l,a,c,b,i,p,x,v,{
   pi:=⟨g.dN,g.qg,g.oC,g.qj,y⟩
   dM:=g.dM
   x0:=g.x0
   iD:=g.iD
   jk:=g.jk
   perm:=h.perm.trans g.perm
   only:=s
   ff:=t
   f7:=u
   Gg:=d
   late:=fun q L=>Nat.le_succ_of_le (h.late q L)
   ext:=r
   fV:=C }⟩
 ·refine .inr ⟨by omega,res,sp,sp + 1,l,a,c,b,i,p,x,v,rfl,{
   pi:=⟨g.dN,g.qg,g.oC,g.qj,y⟩
   dM:=g.dM
   x0:=g.x0
   iD:=g.iD
   jk:=g.jk
   perm:=h.perm.trans g.perm
   only:=s
   ff:=t
   f7:=u
   Gg:=d
   late:=h.late
   ext:=r
   fV:=C
   res:=.inr ⟨k,O,m,z,A,lit,M,?_⟩ }⟩
  have Q:a[sp]'d=op lit:=by
   have:a[sp]? = some (op lit):=by rw [o,List.getElem?_append_left I];exact N
   exact (List.getElem?_eq_some_iff.1 this).2
  have:=g.dN.lev sp d;rw [Q,gq] at this;rw [this,ui h.late]
theorem pq (h:qV Z sb w K f X n ch cs tr sp cs tr lev dB wl f V X w) (T:K=16 + 2 * n) (hn:n <= 50) (hN:(enc cs).length <= 1099511627776):
  Calls Tryz.prog 98 #[.pointer (some ⟨sb,0,none⟩)] w fun e w'=>qW Z sb w K f X n ch cs tr e w':=by
 subst T;have S0:=hide h;clear h;go_enter Tryz.func98,Tryz.ntmps98
 go_wp2_with fail
 go_loopw [2,3,4] (fun _ _ _ wr=>Ii Z sb w (16 + 2 * n) f X n ch cs tr wr) (fun _ _ _ wr=>n - (kD wr ⟨sb,7,none⟩).toNat)
 case atStart=>exact ⟨sp,cs,tr,lev,dB,wl,f,V,X,S0⟩
 case round=>
  clear S0;obtain ⟨a,cs',c,ac,ab,af,f',V',X',b⟩:=hrel;have hK:=b.out.dM.hK;obtain ⟨a1,c1,M⟩:=b.out.dM.fG.shape (k:=1) (by omega);have C:=(b.out.dM.hd (k:=1) (by omega)).1;have l1:(X' 1).length=c.length:=by rw [b.out.iD.l1,dh]
  rw [show cellOf 1=6 from rfl,M,l1] at C;obtain ⟨L,z7⟩:=b.out.dM.head 7 (by omega);rw [b.out.f7] at L;have ad:=b.out.Gg;have ai:=b.out.pi.dN.len;clear M;by_cases m:a < c.length
  ·have s1:(a:Int) < (c.length:Int):=by omega
   have s0:(0:Int) <= (a:Int):=by omega
   obtain ⟨g1,W,t1,M,y,S,z,-⟩:=b.out.dM.elem (k:=1) (j:=a) (by omega) l1 m;rw [show cellOf 1=6 from rfl] at y;have ea:a1=some ⟨g1,0,none⟩/\c1=W:=by
    rw [y] at C;obtain ⟨x1,_,x3⟩:=Value.slice.inj (Option.some.inj C);exact ⟨x1.symm,x3.symm⟩
   obtain ⟨rfl,rfl⟩:=ea;rw [b.out.iD.l1,iZ _ _ m] at z;obtain rfl:=Option.some.inj z;obtain ⟨x,E⟩:∃ x,x=c[a]:=⟨_,rfl⟩;rw [<- E] at S;have HX:=hide E;have ah:x < 2 * n:=by rw [E];exact b.out.pi.dN.lt _ (List.getElem_mem _)
   have aa:=hide (fun Y=>ko x Y (by omega));have H:Hid (c[a]? = some (op (op x))):=by unfold Hid;rw [jT,E];exact List.getElem?_eq_getElem m
   have sw:(a:Int) + 1 < 9223372036854775807:=by omega
   clear E M y;go_upto_region 1 with fail
   go_quiet (fail)
   obtain ⟨t,s⟩:∃ t,t=wr.drewN nq:=⟨_,rfl⟩;have q:t.heap=wr.heap:=by rw [s];rfl
   have b1:Below wr.heap.size wr t:=by rw [s];exact Go.below_drewN bR _
   rw [<- s];have T1:=hide (b.out.later b1);rw [<- gy q] at C L S;rw [<- nH q] at z7;have M1:Hid (kD wr ⟨sb,7,none⟩=kD t ⟨sb,7,none⟩):=by unfold Hid kD;rw [gy q]
   clear s q b1 b;go_upto_region 2 with fail
   go_quiet (fail)
   rename_i ag;obtain ⟨J,r⟩:∃ J,J=t.drewN nq:=⟨_,rfl⟩;have o:J.heap=t.heap:=by rw [r];rfl
   have b2:Below t.heap.size t J:=by rw [r];exact Go.below_drewN bR _
   rw [<- r];have d:=hide (T1.out.later b2);rw [<- gy o] at C L S;rw [<- nH o] at z7;have M2:Hid (kD wr ⟨sb,7,none⟩=a):=by unfold Hid;rw [M1.out];unfold kD;rw [<- gy o,L];rfl
   clear r o b2 T1 M1;have S2:=d.out.dM.scalar 7 (.int .i64 ((a + 1:Nat):Int)) (by decide +kernel);have N:=hide (qO (w:=J.setCell ⟨sb,7,none⟩ (.int .i64 ((a + 1:Nat):Int))) (lit:=op x) (p:=a) S2 rfl d.out.x0 hn (by rw [d.out.perm.len];exact hN) d.out.iD d.out.jk d.out.pi.dN d.out.pi.qg d.out.pi.oC d.out.pi.qj d.out.pi.zn H.out d.out.late);have O:=hide (fun (e:Ending) (wx:World)=>d.out.next (wx:=wx) (e:=e) m H.out);rw [show ((a + 1:Nat):Int)=(a:Int) + 1 from rfl] at N O;clear S2 d;generalize op x=ox at *
   go_upto_region 5 with (first
    |(go_at_call 139;refine (aa.out _).mono ?_;rintro e7 w7 ⟨rfl,rfl⟩;simp only [])
    |(go_at_call 138;refine N.out.mono ?_;intro e8 w8 u;obtain ⟨R,rfl,v⟩:=O.out _ _ u;have i:=hide v;clear v u;simp only []))
   rcases i.out with ⟨rfl,U,Q,D,B,P,f2,V2,X2,l⟩ | ⟨I,G⟩
   ·have ST:=hide l;have M3:Hid (kD w8 ⟨sb,7,none⟩=((a + 1:Nat):Int)):=by
     unfold Hid kD;rw [(l.dM.head 7 (by omega)).1,l.f7];rfl
    clear i l O N;go_wp2;go_roundw
    case rel=>exact ⟨a + 1,U,Q,D,B,P,f2,V2,X2,ST⟩
    case measure=>rw [M2.out,M3.out];omega
   ·have RT:=hide G;have ae:(R != -1)=true:=by simpa using I
    clear i G O N I;go_wp2;go_ret;exact RT.out
  ·have SD:=hide (b.out.done (by omega));have s1:¬ ((a:Int) < (c.length:Int)):=by omega
   go_upto_region 1 with fail
   go_quiet (fail)
   go_wp2;go_ret
   exact SD.out.later (Go.below_drewN bR _)
end
section
variable {Z:Nat->Prop} {ob hb:Nat} {w w':World} {wt:Int} {V:Nat->Value} {X:Nat->List Value} {n g:Nat} {items:List Nat} {pl bz:Nat->Int}
structure kY (Z:Nat->Prop) (ob hb:Nat) (w:World) (wt:Int) (V:Nat->Value) (n g item:Nat) (items:List Nat) (pl bz:Nat->Int) (hole:Nat) (X':Nat->List Value) (items':List Nat) (PT:Nat->Int) (wr:World):Prop where
 ord:Ord Z ob hb wr wt V X'
 GK:nU n g X' items' PT bz
 hp:OT n item hole items' PT
 len:items'.length=items.length
 wait:∀ v,v ≠ item->(PT v=-1↔pl v=-1)
 fV:dD Z w wr
theorem kY.VG {item hole:Nat} {X':Nat->List Value} {a:List Nat} {b:Nat->Int} {wr:World} (h:kY Z ob hb w wt V n g item items pl bz hole X' a b wr) (j:pl g=-1) (d:item ≠ g) {k:Nat} (i:k < a.length) (c:k ≠ hole):a[k] ≠ g:=fun e=>by
 have m:=(h.hp.pl k i c).2;have l:=(h.wait g (fun e=>d e.symm)).2 j;rw [e,l] at m;omega
theorem kY.move {item hole:Nat} {X':Nat->List Value} {a:List Nat} {c:Nat->Int} {wr wx:World} (h:kY Z ob hb w wt V n g item items pl bz hole X' a c wr) (m:pl g=-1) (i:item ≠ g) {k:Nat} (d:k < a.length) (b:k ≠ hole)
  (l:Ord Z ob hb wx wt V (upd (upd X' 2 ((X' 2).set hole (.int .i64 (a[k]:Nat)))) 0 ((X' 0).set a[k] (.int .i64 (hole:Nat))))) (o:dD Z wr wx):
  kY Z ob hb w wt V n g item items pl bz k (upd (upd X' 2 ((X' 2).set hole (.int .i64 (a[k]:Nat)))) 0 ((X' 0).set a[k] (.int .i64 (hole:Nat)))) (a.set hole a[k]) (eu c a[k] (hole:Nat)) wx where
 ord:=l
 GK:=h.GK.put (h.hp.lt _ (List.getElem_mem d)) (h.VG m i d b)
 hp:=h.hp.move d b
 len:=by rw [List.length_set];exact h.len
 wait:=fun v j=>by
  by_cases e:v=a[k]
  ·subst e;rw [dx];have q:=(h.hp.pl k d b).2;have p:=h.wait _ j;rw [<- p,q];constructor <;> intro r <;> omega
  ·rw [dm _ _ e];exact h.wait v j
 fV:=h.fV.trans o
theorem kY.later {item hole:Nat} {X':Nat->List Value} {a:List Nat} {b:Nat->Int} {wr wx:World} (h:kY Z ob hb w wt V n g item items pl bz hole X' a b wr) (c:Below wr.heap.size wr wx):kY Z ob hb w wt V n g item items pl bz hole X' a b wx:=
 { h with ord:=h.ord.later c,fV:=h.fV.trans (dD.of_below c) }
structure qY (Z:Nat->Prop) (ob hb:Nat) (w:World) (wt:Int) (V:Nat->Value) (n g:Nat) (len:Nat) (gone:Nat->Prop) (bz:Nat->Int) (w':World):Prop where
 ex:∃ X' items' PT,Ord Z ob hb w' wt V X'/\nU n g X' items' PT bz/\Dg n items' PT/\items'.length=len/\(∀ v,PT v=-1↔gone v)/\dD Z w w'
theorem kY.close {item hole:Nat} {X':Nat->List Value} {a:List Nat} {c:Nat->Int} {wr wx:World} (h:kY Z ob hb w wt V n g item items pl bz hole X' a c wr) (d:item ≠ g)
  (i:Ord Z ob hb wx wt V (upd (upd X' 2 ((X' 2).set hole (.int .i64 (item:Nat)))) 0 ((X' 0).set item (.int .i64 (hole:Nat))))) (j:dD Z wr wx):qY Z ob hb w wt V n g items.length (fun v=>pl v=-1/\v ≠ item) bz wx:=
 ⟨_,_,_,i,h.GK.put h.hp.hit d,h.hp.close,by rw [List.length_set];exact h.len,fun v=>by
  by_cases e:v=item
  ·subst e;rw [dx];constructor
   ·intro b;omega
   ·intro b;exact absurd rfl b.2
  ·rw [dm _ _ e,h.wait v e];exact ⟨fun b=>⟨b,e⟩,fun b=>b.1⟩,h.fV.trans j⟩
def Js (Z:Nat->Prop) (ob hb:Nat) (w:World) (wt:Int) (V:Nat->Value) (n g item:Nat) (items:List Nat) (pl bz:Nat->Int) (s:Value) (wr:World):Prop:=
 ∃ hole X' items' PT,s=.int .i64 ((hole:Nat):Int)/\Hid (kY Z ob hb w wt V n g item items pl bz hole X' items' PT wr)
theorem Ord.item (h:Ord Z ob hb w wt V X) (c:nU n g X items pl bz) {k:Nat} (b:k < items.length):∃ g2 a,w.cell? ⟨hb,0,none⟩=some (.slice (some ⟨g2,0,none⟩) items.length a)/\w.cell? ⟨g2,k,none⟩=some (.int .i64 (items[k]:Nat)):=by
 have d:(X 2).length=items.length:=by rw [c.t2,dh]
 obtain ⟨g2,a,t,e,r,s,_⟩:=h.elem (k:=2) (j:=k) (by omega) d b;rw [c.t2,iZ _ _ b] at s;obtain rfl:=Option.some.inj s;have q:=h.cells.2.2.2.2.1;rw [e] at q;exact ⟨g2,a,q,r⟩
theorem DZ (h:Ord Z ob hb w wt V X) (L:nU n g X items pl bz) {item hole:Nat} (R:OT n item hole items pl) (T:items[hole]? = some item) (hg:pl g=-1) (r:item ≠ g) (S:items.length <= 1000):
  Calls Tryz.prog 173 #[.pointer (some ⟨hb,0,none⟩),.int .i64 (hole:Nat)] w fun e w'=>e=.returned (.tuple #[])/\qY Z ob hb w wt V n g items.length (fun v=>pl v=-1/\v ≠ item) bz w':=by
 obtain ⟨hh,U⟩:=List.getElem?_eq_some_iff.1 T;obtain ⟨g2,c2,q0,O⟩:=h.item L hh;rw [U] at O;have S0:Hid (kY Z ob hb w wt V n g item items pl bz hole X items pl w):=⟨h,L,R,rfl,fun _ _=>Iff.rfl,dD.refl _⟩;have h0:(0:Int) <= (hole:Int):=by omega
 have h1:(hole:Int) < (items.length:Int):=by omega
 clear h L R T U;go_enter Tryz.func173,Tryz.ntmps173
 go_wp2_with fail
 go_loopw [1,5] (fun I _ wr=>Js Z ob hb w wt V n g item items pl bz I wr) (fun I _ _=>(intOf I).toNat)
 case atStart=>exact ⟨hole,X,items,pl,rfl,S0⟩
 case round=>
  clear S0 q0 O;obtain ⟨k,X',b,aa,rfl,a⟩:=hrel;have q:k < b.length:=a.out.hp.hho;have o:=a.out.len;have t:=hide (ru a.out.ord a.out.GK (v:=item) (p:=k) a.out.hp.hit q);have H:=hide (fun wx z C=>a.out.close (wx:=wx) r z C);by_cases J:k=0
  ·subst J;go_wp2_with (go_at_call 203;refine t.out.mono ?_;rintro W u ⟨rfl,c,d⟩;have D:=hide (H.out u c d);clear c d;simp only [])
   go_end0
   exact ⟨rfl,D.out⟩
  ·obtain ⟨m,hm⟩:∃ m,m=(k - 1) / 2:=⟨_,rfl⟩;have l:m < b.length:=by omega
   have B:m ≠ k:=by omega
   have hd:((k:Int) - 1) / 2=(m:Int):=by omega
   have ab:Int.tdiv ((k:Int) - 1) 2=(m:Int):=by rw [Int.tdiv_eq_ediv_of_nonneg (by omega)];exact hd
   obtain ⟨ac,ad,P,E⟩:=a.out.ord.item a.out.GK l;have Q:=a.out.ord.cells.2.2.2.2.2.1;obtain ⟨x,G⟩:∃ x,x=b[m]:=⟨_,rfl⟩;have y:x < n:=by rw [G];exact a.out.hp.lt _ (List.getElem_mem _)
   have N:Hid (∀ j,Calls Tryz.prog 126 #[.pointer (some ⟨ob,0,none⟩),.int .i64 (item:Nat),.int .i64 (x:Nat)] (wr.drewN j) fun e w'=>e=.returned (.bool (decide (bz x < bz item)))/\∃ k,w'=(wr.drewN j).drewN k):=fun j=>lZ (a.out.ord.later (Go.below_drewN bR _)) a.out.GK a.out.hp.hit y
   rw [<- G] at E;have HX:=hide G;have m0:(0:Int) <= (m:Int):=by omega
   have m1:(m:Int) < (b.length:Int):=by omega
   have k1:(0:Int) < (k:Int):=by omega
   have k2:(0:Int) <= (k:Int) - 1:=by omega
   have k3:(k:Int) < 1000:=by omega
   have mk:m < k:=by omega
   clear G hm o hd;unfold ahead at Q;generalize decide (bz x < bz item)=bb at N;go_upto_region 3 with fail
   go_quiet ((go_at_call 126;exact Calls.quiet_of (N.out _)))
   obtain ⟨M,s⟩:∃ M,M=wr.drewN nq:=⟨_,rfl⟩;have Y:Below wr.heap.size wr M:=by rw [s];exact Go.below_drewN bR _
   rw [<- s];have i:=hide (a.out.later Y);clear s Y a t H N P E Q
   cases bb with
   | false=>
    have t:=hide (ru i.out.ord i.out.GK (v:=item) (p:=k) i.out.hp.hit q);have H:=hide (fun wx z C=>i.out.close (wx:=wx) r z C);clear i;go_wp2_with (go_at_call 203;refine t.out.mono ?_;rintro W u ⟨rfl,c,d⟩;have D:=hide (H.out u c d);clear c d;simp only [])
    go_end0
    exact ⟨rfl,D.out⟩
   | true=>
    have t:=hide (ru i.out.ord i.out.GK (v:=x) (p:=k) y q);have MV:=hide (fun wx z C=>i.out.move (wx:=wx) hg r l B z C);rw [<- HX.out] at MV;obtain ⟨g3,c3,P,E⟩:=i.out.ord.item i.out.GK l;rw [<- HX.out] at E;clear i;go_wp2_with (go_at_call 203;refine t.out.mono ?_;rintro W u ⟨rfl,c,d⟩;have D:=hide (MV.out u c d);clear c d;simp only [])
    go_roundw
    case rel=>exact ⟨m,_,_,_,rfl,D⟩
    case measure=>simp [intOf];omega
end
section
variable {Z:Nat->Prop} {ob hb:Nat} {w w':World} {wt:Int} {V:Nat->Value} {X:Nat->List Value} {n g:Nat} {items:List Nat} {pl bz:Nat->Int}
structure iI (Z:Nat->Prop) (ob hb n:Nat) (w:World) (gone:Nat->Prop):Prop where
 ex:∃ wt V X items pl bz,Ord Z ob hb w wt V X/\nU n n X items pl bz/\Dg n items pl/\∀ v,pl v=-1↔gone v
 last:gone n
theorem Ms (h:Ord Z ob hb w wt V X) (j:nU n n X items pl bz) (D:Dg n items pl) {v:Nat} (hv:v < n) (C:pl v=-1) (d:pl n=-1) (hn:n <= 50):
  Calls Tryz.prog 128 #[.pointer (some ⟨hb,0,none⟩),.int .i64 (v:Nat)] w fun e w'=>e=.returned (.tuple #[])/\dD Z w w'/\iI Z ob hb n w' (fun x=>pl x=-1/\x ≠ v):=by
 obtain ⟨i0,hi,z,y,u⟩:=info_parts Tryz.gB;have ll:=D.len;have HS:=hide h;obtain ⟨O,N,q⟩:=h.fG.shape (k:=2) (by omega);have s:(X 2).length=items.length:=by rw [j.t2,dh]
 have p:=h.cells.2.2.2.2.1;rw [q,s] at p;have Q:Hid (w.ownsRow 0 3 1 (.slice O items.length N) items.length (dC items)):=by
  have:=h.fG.own 2 (by omega);rw [q,j.t2,dh] at this;exact this
 have S:Hid (V 2=.slice O items.length N):=by unfold Hid;rw [q,s]
 have l:Hid (X 2=dC items):=j.t2;have aa:=h.hrow.lt;have ns:¬ (hb=w.heap.size):=by omega
 have HP:=hide (D.push hv C);have o:=hide j;clear h j D q s;go_enter Tryz.func128,Tryz.ntmps128
 go_wp2_with (at_builtin;refine dF _ rfl _ _ 43 rfl 0 3 i0 (.int .i64 0) 1 8 Tryz.underlying43 hi z y u rfl (by decide) _ _ _ rfl (Q.out.alloc (.cells #[.int .i64 (v:Int)] 3)) (.slice (some ⟨w.heap.size,0,none⟩) 1 1) 1 [.int .i64 (v:Int)] rfl (.inr ⟨⟨w.heap.size,0,none⟩,1,rfl,World.news_of_block (cs:=#[.int .i64 (v:Int)]) (t:=3) (fr:=(0,0)) (heap_alloc_new w _)⟩) rfl (by simp [Value.oneCell']) (by unfold maxLen;omega) (by omega) zl ?_)
 intro v6 I H;have W:dz (w.alloc (.cells #[.int .i64 (v:Int)] 3)) 0 3 1 (V 2) (X 2).length (X 2) 1 [.int .i64 (v:Int)] v6 I:=by rw [S.out,l.out,dh];exact H
 obtain ⟨J,M,L,Y⟩:=HS.out.push (m:=1) (news:=[.int .i64 (v:Int)]) rfl W;rw [S.out] at L;obtain ⟨c,b,B⟩:=dI H.own;subst B;have G:=hide J;have U:=hide M;clear H W J M p Q;go_upto_region 1 with fail
 generalize E:I.setCell ⟨hb,0,none⟩ (.slice c (items.length + 1) b)=W1 at G U ⊢;clear E L Y;have P:Hid (upd X 2 (X 2 ++ [.int .i64 (v:Int)]) 2=dC (items ++ [v])):=by unfold Hid;rw [cK,l.out,je];rfl
 have R:nU n n (upd X 2 (X 2 ++ [.int .i64 (v:Int)])) (items ++ [v]) pl bz:=⟨by rw [cu _ _ (by decide)];exact o.out.n0,by rw [cu _ _ (by decide)];exact o.out.t0,by rw [cu _ _ (by decide)];exact o.out.i0,by rw [cu _ _ (by decide)];exact o.out.n1,by rw [cu _ _ (by decide)];exact o.out.t1,P.out⟩;have p:=G.out.cells.2.2.2.2.1;rw [cK] at p;have QR:=hide (DZ G.out R HP.out (by simp) d (by omega) (by simp;omega));clear R P;generalize upd X 2 (X 2 ++ [.int .i64 (v:Int)])=X6 at *
 generalize upd V 2 (.slice c (items.length + 1) b)=V6 at *
 go_wp2_with (go_at_call 173;refine QR.out.mono ?_;rintro e7 w7 ⟨rfl,i⟩;have P7:=hide i;clear i;simp only [])
 go_end0
 obtain ⟨X',a,r,r1,r2,r3,r4,r5,r6⟩:=P7.out.ex;exact ⟨rfl,U.out.trans r6,⟨_,_,X',a,r,bz,r1,r2,r3,r5⟩,d,by omega⟩
def Jv (w:World) (p len:Nat) (e:Ending) (w':World):Prop:=∃ (b:Nat) (ok:Bool),e=.returned (.tuple #[.int .i64 ((b:Nat):Int),.bool ok])/\(ok=true->p < b/\b < len)/\∃ k,w'=w.drewN k
theorem yt (h:Ord Z ob hb w wt V X) (m:nU n g X items pl bz) (o:∀ v ∈ items,v < n) {p:Nat} (U:p < items.length) (I:items.length <= 1000):
  Calls Tryz.prog 244 #[.pointer (some ⟨hb,0,none⟩),.int .i64 (p:Nat)] w fun e w'=>Jv w p items.length e w':=by
 obtain ⟨g2,c2,u,H⟩:=h.item m U;have S:=h.cells.2.2.2.2.2.1;unfold ahead at S;have p0:(0:Int) <= (p:Int):=by omega
 have p1:(p:Int) < 1000:=by omega
 have F:Hid (∀ (b:Nat) (ok:Bool) k,(ok=true->p < b/\b < items.length)->Jv w p items.length (.returned (.tuple #[.int .i64 ((b:Nat):Int),.bool ok])) (w.drewN k)):=fun b ok k W=>⟨b,ok,rfl,W,k,rfl⟩
 by_cases T:2 * p + 2 < items.length
 ·obtain ⟨C,aa,l,Q⟩:=h.item m T;obtain ⟨q,L,c,R⟩:=h.item m (show 2 * p + 1 < items.length by omega);rw [u] at l c;obtain ⟨J,_,e3⟩:=Value.slice.inj (Option.some.inj l);obtain ⟨r,_,D⟩:=Value.slice.inj (Option.some.inj c);obtain rfl:g2=C:=by have:=Option.some.inj J;exact congrArg Addr.block this
  obtain rfl:g2=q:=by have:=Option.some.inj r;exact congrArg Addr.block this
  subst e3 D;obtain ⟨x,B⟩:∃ x,x=items[2 * p + 2]:=⟨_,rfl⟩;obtain ⟨y,z⟩:∃ y,y=items[2 * p + 1]:=⟨_,rfl⟩;have P:x < n:=by rw [B];exact o _ (List.getElem_mem _)
  have O:y < n:=by rw [z];exact o _ (List.getElem_mem _)
  rw [<- B] at Q;rw [<- z] at R;have M:Hid (∀ j,Calls Tryz.prog 126 #[.pointer (some ⟨ob,0,none⟩),.int .i64 (x:Nat),.int .i64 (y:Nat)] (w.drewN j) fun e w'=>e=.returned (.bool (decide (bz y < bz x)))/\∃ k,w'=(w.drewN j).drewN k):=fun j=>lZ (h.later (Go.below_drewN bR _)) m P O
  have a0:(0:Int) <= 2 * (p:Int) + 2:=by omega
  have a1:2 * (p:Int) + 2 < (items.length:Int):=by omega
  have a2:(2 * (p:Int) + 2).toNat=2 * p + 2:=by omega
  have b0:(0:Int) <= 2 * (p:Int) + 1:=by omega
  have b1:2 * (p:Int) + 1 < (items.length:Int):=by omega
  have b2:(2 * (p:Int) + 1).toNat=2 * p + 1:=by omega
  have N:=hide (fun k=>F.out (2 * p + 2) true k (fun _=>by omega));have t:=hide (fun k=>F.out (2 * p + 1) true k (fun _=>by omega));rw [show ((2 * p + 2:Nat):Int)=2 * (p:Int) + 2 by omega] at N;rw [show ((2 * p + 1:Nat):Int)=2 * (p:Int) + 1 by omega] at t;generalize decide (bz y < bz x)=bb at M;clear h m B z F l c J r H;go_enter Tryz.func244,Tryz.ntmps244
  go_upto_region 2 with fail
  go_quiet ((go_at_call 126;exact Calls.quiet_of (M.out _)))
  cases bb with
  | true=>
   go_wp2;go_ret2
   exact N.out _
  | false=>
   obtain ⟨i,a⟩:∃ i,i=w.drewN nq:=⟨_,rfl⟩;have d:i.heap=w.heap:=by rw [a];rfl
   rw [<- a];rw [<- gy d] at u;have G:Hid (∀ k,Jv w p items.length (.returned (.tuple #[.int .i64 (2 * (p:Int) + 1),.bool true])) (i.drewN k)):=fun k=>by rw [a,World.drewN_drewN];exact t.out _
   clear a d;go_upto_region 4 with fail
   go_quiet (fail)
   go_wp2;go_ret2
   exact G.out _
 ·have a1:¬ (2 * (p:Int) + 2 < (items.length:Int)):=by omega
  obtain ⟨s,Y,E⟩:∃ s,decide (2 * (p:Int) + 1 < (items.length:Int))=s/\Hid (s=true->p < 2 * p + 1/\2 * p + 1 < items.length):=⟨_,rfl,fun e=>by have:=of_decide_eq_true e;omega⟩;have t:=hide (fun k=>F.out (2 * p + 1) s k E.out);rw [show ((2 * p + 1:Nat):Int)=2 * (p:Int) + 1 by omega] at t;clear h m F H;go_enter Tryz.func244,Tryz.ntmps244
  go_upto_region 2 with fail
  go_quiet (fail)
  obtain ⟨i,a⟩:∃ i,i=w.drewN nq:=⟨_,rfl⟩;have d:i.heap=w.heap:=by rw [a];rfl
  rw [<- a];rw [<- gy d] at u;have G:Hid (∀ k,Jv w p items.length (.returned (.tuple #[.int .i64 (2 * (p:Int) + 1),.bool s])) (i.drewN k)):=fun k=>by rw [a,World.drewN_drewN];exact t.out _
  clear a d;go_upto_region 4 with fail
  go_quiet (fail)
  go_wp2;go_ret2
  exact G.out _
end
end
end So
end Go.Proofs.YtceahffmenbibaaGreatDoor
