/- Sxpw Sfor Sfg1 Sval Snle Shelf Rprog2 Rprog3 Rcount. -/
import Derived.Test.YtceahffmenbibaaGreatDoorH04
import Derived.Shelf.Small.Bits
import Derived.Shelf.Small.Wraps
import Derived.Shelf.Strconv.Atoi
import Derived.Shelf.Strconv.Itoa1
import Derived.Shelf.Strconv.Itoa2
import Derived.Shelf.Strconv.Itoa3
import Derived.Shelf.Strconv.AtoiErrFast
import Derived.Shelf.Strconv.ParseIntEmpty
import Derived.Shelf.Strconv.AtoiFail
import Derived.Shelf.Strconv.Clone
import Derived.Shelf.Strconv.SyntaxError
import Derived.Shelf.LaysC
import Derived.Shelf.Strconv.ToError
import Derived.Shelf.Strconv.Lower
import Derived.Shelf.Strconv.ParseUint10
import Derived.Shelf.Strconv.ParseUint10Empty
import Derived.Shelf.Strconv.ParseUint10Any
import Derived.Shelf.Strconv.ParseInt10
import Derived.Shelf.Strconv.AtoiLong
import Derived.Shelf.Strconv.AtoiInnerAll
import Derived.Shelf.Strconv.RangeError
import Derived.Shelf.Strconv.ToErrorRange
import Derived.Shelf.Strconv.AtoiAll
import Derived.Shelf.Strconv.ErrVarAll
import Derived.Shelf.Strings.Search1
import Derived.Shelf.Strings.Search2
import Derived.Shelf.Strings.Cut
import Derived.Shelf.Strings.Shaped
import Derived.Shelf.Strings.FieldsFuncAny
import Derived.Shelf.Strings.FieldsFuncGrows
import Derived.Shelf.Slices.Turned
import Derived.Test.YtceahffmenbibaaGreatDoorProg
set_option linter.unusedVariables false
set_option linter.unusedSimpArgs false
set_option maxHeartbeats 4000000
set_option maxRecDepth 100000
open Go.Proofs.Tryz
namespace Go.Proofs.YtceahffmenbibaaGreatDoor
namespace So
section
open Go Go.RowKit Go.Deep Rd
section
variable {Z:Nat->Prop} {sb ob hb K n:Nat} {w:World} {f V:Nat->Value} {X:Nat->List Value} {gone:Nat->Prop} {Rs Ro:Nat->Prop} {tr ch:List Nat} {lev:Nat->Nat} {rea:Nat->Int} {cs:List Rec}
theorem Tryz.PV:(Tryz.prog.info? 4).map (fun i=>(i.zero,i.size,i.bytes))=some (some (.bool false),1,1):=by kernel_rfl
theorem FU {t:TypeId} {z:Value} {a b:Nat} (h:(Tryz.prog.info? t).map (fun i=>(i.zero,i.size,i.bytes))=some (some z,a,b)):∃ i,Tryz.prog.info? t=some i/\i.zero=some z:=by
 cases e:Tryz.prog.info? t with
 | none=>rw [e] at h;cases h
 | some i=>rw [e] at h;exact ⟨i,rfl,(Prod.mk.inj (Option.some.inj h)).1⟩
theorem Gq {k:Nat} (D:Duo Z sb ob hb n w K f V X gone Rs Ro) (hn:n <= 50) (h0:X 0=ints (enc cs)) (hk:k < cs.length) (hN:(enc cs).length <= 1099511627776) (hT:lU n X tr ch lev rea) (au:(X 10).length=n) (hW:WK n V X)
  (ht:jh n tr ch lev) (hr:oP (mapOf cs) tr ch rea) (hc:wQ n (mapOf cs)) (hd:0 < ch.length) (hf:∀ y ∈ (cs[k]).lits,op y ∈ tr) {y0:Nat} (aB:y0 ∈ (cs[k]).lits) (bo:lev (y0 / 2)=ch.length):
  Calls Tryz.prog 141 #[.pointer (some ⟨sb,0,none⟩),.int .i64 (dn cs k:Nat)] w fun e w'=>vQ Z sb ob hb n w K f X gone cs tr ch lev rea ch[ch.length - 1] (cs[k]).lits e w':=by
 have ax:Hid (xH tr ch lev (je (mapOf cs) rea) ch[ch.length - 1] (cs[k]).lits tr.length ((cs[k]).lits.foldl (lY lev ch.length) ⟨fun _=>false,[],0⟩)):=xH.start ht hd hf aB bo;have a8:Hid (∀ i s,xH tr ch lev (je (mapOf cs) rea) ch[ch.length - 1] (cs[k]).lits (i + 1) s->∀ (hi:i < tr.length),s.seen (tr[i] / 2)=true->s.opn ≠ 1->∃ a c r,rea (tr[i] / 2)=(a:Nat)/\mapOf cs a=some c/\c.lits=tr[i] :: r/\∃ more,(c.lits.foldl (lY lev ch.length) ⟨s.seen,s.jd,0⟩).opn=more/\xH tr ch lev (je (mapOf cs) rea) ch[ch.length - 1] (cs[k]).lits i ⟨(c.lits.foldl (lY lev ch.length) ⟨s.seen,s.jd,0⟩).seen,(c.lits.foldl (lY lev ch.length) ⟨s.seen,s.jd,0⟩).jd,s.opn + more - 1⟩):=fun i s he hi hs ho=>by
  obtain ⟨a,c,r,B,h2,h3,h4,h5,h6⟩:=Cg (hr.why i hi (he.forced ht hd ho));obtain ⟨more,m1,m2⟩:=he.step ht hd hi hs ho h5 h4 h6;exact ⟨a,c,r,B,h2,h4,more,m1,m2⟩
 obtain ⟨d,q⟩:∃ d,d=ch[ch.length - 1]:=⟨_,rfl⟩;rw [<- q] at ax a8 ⊢;obtain ⟨i0,hi,bj,bi,bh⟩:=info_parts Tryz.fO;obtain ⟨ib,bp,bg⟩:=FU Tryz.PV;have hK:=D.dF.hK;have tl:=ht.len;have dl:=ht.depth;have bV:1 <= n:=by omega
 obtain ⟨n',ao⟩:∃ n',n=n' + 1:=⟨n - 1,by omega⟩;obtain ⟨ah,aR,ai,h,-,u,af⟩:=D.dF.eH.block (k:=10) (by omega) (by omega);have bF:n <= ai.size:=by
  have:=D.dF.eH.own 10 (by omega);rw [h] at this
  rcases this.2 with ⟨e,_⟩ | ⟨g',aQ,aP,e,_,L,bm,_,aE,_⟩
  ·cases e
  ·cases e
   rw [u] at L;cases L;omega
 have aa:=(D.dF.hd (k:=10) (by omega)).1;rw [show cellOf 10=16 from rfl,h,au] at aa;rw [au] at h;have a9:Hid (∀ p,p.heap[ah]? = some (.cells (splice ai.toList 0 (List.replicate (n' + 1) (.bool false))).toArray 4 (0,0))->(∀ k,k ≠ ah->p.heap[k]? = w.heap[k]?)->Below 0 w p->∃ C,Duo Z sb ob hb n p K f V (upd X 10 (List.replicate n (.bool false))) gone C Ro/\dB Z w p):=fun p q1 q2 q3=>by
  obtain ⟨H,c1⟩:=D.dF.xA (k:=10) (R:=List.replicate n (.bool false)) (by omega) h (by
   rw [h,List.length_replicate];have ho:=D.dF.eH.own 10 (by omega);rw [h] at ho;refine ⟨by simp,?_⟩
   rcases ho.2 with ⟨e,_⟩ | ⟨g',aQ,aP,e,bq,L,bm,hm,aE,bU⟩
   ·cases e
   ·cases e
    rw [u] at L;cases L
    refine .inr ⟨ah,aR,_,rfl,bq,q1,by omega,hm,?_,?_⟩
    ·simp only [List.size_toArray];rw [length_splice _ _ _ (by simp;omega)];simpa using aE
    ·simp only [Nat.mul_one];unfold splice;rw [<- ao];simp) q2 q3
  obtain ⟨d1,d2⟩:=D.gK H c1 rfl;exact ⟨_,d1,d2⟩
 have M:Hid (∀ w2 O V2 U R2 O2 (s2:Lk) G f3 V3 X3 R3 O3 w3,fe Z sb ob hb n w K f X gone (ints (enc cs)) (-1) ⟨fun _=>false,[],0⟩ O V2 U R2 O2 w2->fe Z sb ob hb n w2 K O U gone (ints (enc (cs.set k ⟨(cs[k]).kind,G,(cs[k]).lits⟩))) (-1) ((cs[k]).lits.foldl (lY lev ch.length) ⟨fun _=>false,[],0⟩) f3 V3 X3 R3 O3 w3->Hz Z sb ob hb n w K f X gone cs tr ch lev rea d (cs[k]).lits tr.length ((cs[k]).lits.foldl (lY lev ch.length) ⟨fun _=>false,[],0⟩) (cs.set k ⟨(cs[k]).kind,G,(cs[k]).lits⟩) f3 V3 X3 R3 O3 w3):=fun w2 O V2 U R2 O2 s2 G f3 V3 X3 R3 O3 w3 B h2=>⟨ax.out,B.comp h2,fF.set hk G⟩
 have bn:(cs[k]).lits.length <= n:=jN (hc.vars _ _ (dP hk)) (hc.lt _ _ (dP hk));have ak:∀ y ∈ (cs[k]).lits,y < 2 * n:=hc.lt _ _ (dP hk);have aV:Hid (∀ w2 O V2 U R2 O2,fe Z sb ob hb n w K f X gone (ints (enc cs)) (-1) ⟨fun _=>false,[],0⟩ O V2 U R2 O2 w2->Calls Tryz.prog 182 #[.pointer (some ⟨sb,0,none⟩),.int .i64 (dn cs k:Nat)] w2 fun e w'=>xE Z sb ob hb n w2 K O U gone cs k (cs[k]).kind (-1) lev ch.length ⟨fun _=>false,[],0⟩ (cs[k]).lits e w'):=fun w2 O V2 U R2 O2 B=>Fh B.duo hn B.x0 hk hN (hT.congr fun j h2 h3=>B.only j (by omega) (by omega) (by omega)) B.DY rfl ak (by omega) (by simp;omega) B.wk
 have N:Hid (∀ p C,Duo Z sb ob hb n p K f V (upd X 10 (List.replicate n (.bool false))) gone C Ro->dB Z w p->∃ S Q m7,p.cell? ⟨sb,15,none⟩=some (.slice S m7 Q)/\m7=(X 7).length/\p.ownsRow 0 3 1 (.slice S 0 Q) 0 []/\sb < p.heap.size/\∀ al v' w6,dz (p.alloc al) 0 3 1 (.slice S 0 Q) 0 [] 1 [.int .i64 (-1)] v' w6->(w6.cell? ⟨sb,15,none⟩=some (.slice S m7 Q)/\w6.frozen? ⟨sb,15,none⟩=false)/\∃ O V2 U R2,fe Z sb ob hb n w K f X gone (ints (enc cs)) (-1) ⟨fun _=>false,[],0⟩ O V2 U R2 Ro (w6.setCell ⟨sb,15,none⟩ v')):=fun p C D1 C1=>by
  obtain ⟨S,Q,e7⟩:=D1.dF.eH.shape (k:=7) (by omega);rw [cu _ _ (by decide)] at e7;have q7:=(D1.dF.hd (k:=7) (by omega)).1;rw [show cellOf 7=15 from rfl,e7] at q7;have ow:=(D1.dF.eH.cut (k:=7) (by omega) e7 (m:=0) zl).own 7 (by omega);rw [cz,cz,List.take_zero] at ow;refine ⟨S,Q,_,q7,rfl,ow,D1.dF.row.lt,fun al v' w6 A=>?_⟩;have A':dz (p.alloc al) 0 (kM 7) 1 (.slice S 0 Q) 0 ((upd X 10 (List.replicate n (.bool false)) 7).take 0) 1 [.int .i64 (-1)] v' w6:=by rw [List.take_zero];exact A
  obtain ⟨p1,p2,p3⟩:=D1.dF.OI (k:=7) (by omega) e7 zl (m:=1) (news:=[.int .i64 (-1)]) rfl A';obtain ⟨d1,d2⟩:=D1.gK p1 p2 (cu _ _ (by decide));have q6:=p3 15 (by omega);have aH:f 15=.slice S (X 7).length Q:=by
   have:=D1.dF.hdr 7 (by omega);rw [e7] at this;exact this
  rw [aH] at q6;refine ⟨q6,_,_,_,_,⟨d1,by rw [cu _ _ (by decide),cu _ _ (by decide)];exact h0,⟨by rw [cu _ _ (by decide),cz];simp,fun v hv=>by rw [cu _ _ (by decide),cz,List.getElem?_replicate,if_pos hv],by rw [cz,List.take_zero];rfl⟩,fun j B h2 h3=>by rw [cu _ _ h2,cu _ _ h3],fun j hj=>cu _ _ hj,C1.trans d2,hW.congr (by rw [cu _ _ (by decide),cu _ _ (by decide)]) fun x=>cu _ _ (by omega)⟩⟩
 have a2:=hide u;have aX:=hide (ht.len);have HR:=hide hr;have aY:=hide ht;have a3:=hide hc;have bw:=hide hT;have bZ:=hide ao;have ar:n' + 1 <= ai.size:=by omega
 rw [ao] at aa;generalize aN:vQ Z sb ob hb n w K f X gone cs tr ch lev rea d (cs[k]).lits=RR;have a0:=hide aN;have bz:=hide q;clear D au hW h af u hr ht hc hT hf aB h0 aN ak ax q;obtain ⟨W1,aF,H1,H2,H3⟩:=Lf (P:=Tryz.prog) (w:=w) (ot:=0) 26 4 Tryz.underlying26 ib bp (.bool false) bg rfl rfl ah n' aR ai 4 a2.out ar;obtain ⟨C,aJ,aL⟩:=a9.out W1 H1 H2 H3;obtain ⟨S,Q,m7,q7,-,aA,bK,ba⟩:=N.out W1 C aJ aL;have aW:=hide aA;have a4:=hide ba;have bM:¬ (sb=W1.heap.size):=by omega
 clear aJ aL H1 H2 H3 a9 N aA ba;go_enter Tryz.func141,Tryz.ntmps141
 go_upto_region 1 with fail
 go_wp2_with (at_builtin;refine dR _ rfl _ _ 43 rfl 0 3 i0 (.int .i64 0) 1 8 Tryz.underlying43 hi bj bi bh rfl (by decide) (.slice S 0 Q) 0 [] rfl (aW.out.alloc (.cells #[.int .i64 (-1)] 3)) (.slice (some ⟨W1.heap.size,0,none⟩) 1 1) 1 [.int .i64 (-1)] rfl (.inr ⟨⟨W1.heap.size,0,none⟩,1,rfl,World.news_of_block (cs:=#[.int .i64 (-1)]) (t:=3) (fr:=(0,0)) (heap_alloc_new W1 _)⟩) rfl (by simp [Value.oneCell']) (by unfold maxLen;omega) (by omega) zl ?_)
 intro v6 w6 A6;obtain ⟨⟨q6,z6⟩,O,V2,U,R2,ag⟩:=a4.out _ _ _ A6;obtain ⟨bd,bc,bk⟩:=dH A6.own;subst bk;have L2:=hide ag;have E:=hide (aV.out _ _ _ _ _ _ ag);have av:=hide (fun s2 G f3 V3 X3 R3 O3 w3=>M.out _ _ _ _ _ _ s2 G f3 V3 X3 R3 O3 w3 ag);clear A6 ag a4 aW aV M q7 aF;go_upto_region 2 with fail
 generalize br:w6.setCell ⟨sb,15,none⟩ (.slice bd (0 + 1) bc)=W2 at *
 clear br q6 z6;generalize aD:(cs[k]).lits.foldl (lY lev ch.length) ⟨fun _=>false,[],0⟩=s0 at av;have aw:=hide aD;clear aD;go_upto_region 3 with (go_at_call 182;refine E.out.mono ?_;rintro e7 w7 ⟨G,f3,V3,X3,R3,O3,rfl,aq⟩;rw [aw.out] at aq;rw [aw.out];have E3:=hide (av.out s0 G f3 V3 X3 R3 O3 w7 aq);clear aq;simp only [])
 have aS:Hid (∀ wr s g i f' V' X' Rs Ro,Hz Z sb ob hb n w K f X gone cs tr ch lev rea d (cs[k]).lits i s g f' V' X' Rs Ro wr->lU n X' tr ch lev rea):=fun wr s g i f' V' X' aT aU b=>bw.out.congr fun j B h2=>b.look.only j (by omega) (by omega) (by omega)
 obtain ⟨j0,ae,-⟩:=E3.out.ex.more;have aM:=aS.out _ _ _ _ _ _ _ _ _ E3.out;obtain ⟨a1,c1,e1⟩:=E3.out.look.duo.dF.eH.shape (k:=1) (by omega);have q1:=(E3.out.look.duo.dF.hd (k:=1) (by omega)).1;rw [show cellOf 1=6 from rfl,e1,aM.l1,cZ,ae] at q1;rw [ae] at E3;have bO:(j0:Int) + 1 <= 50:=by have:=aX.out;omega
 have b0:=hide ae;clear E av L2 e1 aM ae tl;go_wp2_with fail
 generalize bG:(cs[k]).lits=c0 at *
 go_loopw [4,5,6,7,8] (fun s4 s5 _ _ _ wr=>JK Z sb ob hb n w K f X gone cs tr ch lev rea d c0 s4 s5 wr) (fun _ s5 _ _ _ _=>(intOf s5).toNat)
 case atStart=>exact ⟨j0,s0,_,f3,V3,X3,R3,O3,by go_num,rfl,E3⟩
 case round=>
  clear E3 q1 aw;obtain ⟨i,s,g,f',V',X',aT,aU,rfl,rfl,b⟩:=hrel;have bE:=b.out.ex.YO;have J:i < tr.length:=by omega
  have o:=aS.out _ _ _ _ _ _ _ _ _ b.out;have l1:(X' 1).length=tr.length:=by rw [o.l1,cZ]
  obtain ⟨g1,bY,t1,e1,q1,r1,H,-⟩:=b.out.look.duo.dF.elem (k:=1) (j:=i) (by omega) l1 J;rw [show cellOf 1=6 from rfl] at q1;rw [o.l1,iK _ _ J] at H;obtain rfl:=Option.some.inj H;obtain ⟨x,hx⟩:∃ x,x=tr[i]:=⟨_,rfl⟩;rw [<- hx] at r1;have bT:x < 2 * n:=by rw [hx];exact aY.out.lt _ (List.getElem_mem _)
  have QV:=hide (fun Y=>eQ x Y (by omega));obtain ⟨v,am⟩:∃ v,v=x / 2:=⟨_,rfl⟩;have hv:v < n:=by omega
  rw [<- am] at QV;have aj:Hid (tr[i] / 2=v):=by unfold Hid;rw [am,hx]
  have HX:=hide hx;obtain ⟨bH,bI,bJ,h,aa,az,ay,-⟩:=b.out.look.duo.dF.elem (k:=10) (j:=v) (by omega) b.out.look.DY.n10 hv;rw [show cellOf 10=16 from rfl] at aa;rw [b.out.look.DY.t10 v hv] at ay;obtain rfl:=Option.some.inj ay;have bS:(0:Int) <= (i:Int):=by omega
  have bQ:(i:Int) < (tr.length:Int):=by omega
  have bP:(i:Int) <= 50:=by have:=aX.out;omega
  have v0:(0:Int) <= (v:Int):=by omega
  have v1:(v:Int) < (n:Int):=by omega
  clear hx am e1 h l1;by_cases z:s.seen v=true
  ·rw [z] at az;by_cases ac:s.opn=1
   ·
    have l7:(X' 7).length=s.jd.length + 1:=by rw [b.out.look.DY.l7];simp [cZ]
    obtain ⟨g7,bX,t7,e7,q7,r7,s7,z7,bb,bN,n7⟩:=b.out.look.duo.dF.elem (k:=7) (j:=0) (by omega) l7 (by omega);rw [show cellOf 7=15 from rfl] at q7;have a6:=hide (b.out.fin J (by rw [aj.out];exact z) ac e7 bb);rw [a0.out,<- HX.out] at a6;have a5:Hid (∀ W,Below (wr.setCell ⟨g7,0,none⟩ (.int .i64 (op x:Nat))).heap.size (wr.setCell ⟨g7,0,none⟩ (.int .i64 (op x:Nat))) W->RR (.returned (.tuple #[])) W):=fun W hW=>by
     have:=a6.out;rw [<- a0.out] at this ⊢;exact this.later hW
    have bu:=hide (fun Y=>kE x Y (by omega));have bB:(0:Int) < (s.jd.length:Int) + 1:=by omega
    rw [ac];clear b e7 s7 l7 o;generalize op x=ox at *
    go_upto_region 9 with (go_at_call 176;refine (QV.out _).mono ?_;rintro e9 w9 ⟨rfl,rfl⟩;simp only [])
    go_region_with (go_at_call 139;refine (bu.out _).mono ?_;rintro eA wA ⟨rfl,rfl⟩;simp only [])
    all_goals
     go_wp2
     first | go_end0 | refine bodyPost_ret (results_none rfl _ _ _) rfl ?_
     exact a5.out _ bR.drew
   ·
    have aI:=a8.out i s (by have:=b.out.ex;exact this) J (by rw [aj.out];exact z) ac;obtain ⟨a,c,rr,ha,hC,aK,more,ad,l⟩:=aI;rw [<- bz.out] at l;obtain ⟨m,hm,-⟩:=l.more;rw [<- b.out.busy.map] at hC;obtain ⟨k',aG,rfl,rfl⟩:=dO hC;simp only at aK ad l;rw [aj.out] at ha;have aO:(enc g).length <= 1099511627776:=by rw [b.out.busy.len];exact hN
    have I:∀ y ∈ (g[k']).lits,y < 2 * n:=fun y hy=>a3.out.lt _ _ (by rw [<- b.out.busy.map];exact hC) y hy
    have bW:(g[k']).lits.length <= n:=jN (a3.out.vars _ _ (by rw [<- b.out.busy.map];exact hC)) I;have bD:=b.out.ex.lk.len aY.out;have E:=hide (Fh (k:=k') (s0:=⟨s.seen,s.jd,0⟩) b.out.look.duo hn b.out.look.x0 aG aO o b.out.look.DY rfl I (by omega) (by simp only;omega) b.out.look.wk);obtain ⟨g5,c5,t5,e5,q5,r5,s5,-⟩:=b.out.look.duo.dF.elem (k:=5) (j:=v) (by omega) o.n5 hv;rw [show cellOf 5=11 from rfl] at q5;rw [o.t5 v hv,ha] at s5;obtain rfl:=Option.some.inj s5;generalize aC:(g[k']).lits.foldl (lY lev ch.length) ⟨s.seen,s.jd,0⟩=H at E ad l;have aZ:=hide aC;have NX:Hid (∀ (G:Int) f4 V4 X4 R4 O4 w4,fe Z sb ob hb n wr K f' X' gone (ints (enc (g.set k' ⟨(g[k']).kind,G,(g[k']).lits⟩))) (-1) H f4 V4 X4 R4 O4 w4->∀ so sv,so=.int .i64 ((s.opn + more - 1:Nat):Int)->sv=.int .i64 ((m:Nat):Int)->JK Z sb ob hb n w K f X gone cs tr ch lev rea d c0 so sv w4):=fun G f4 V4 X4 R4 O4 w4 hL so sv bl an=>⟨m,⟨H.seen,H.jd,s.opn + more - 1⟩,_,f4,V4,X4,R4,O4,an,bl,by rw [hm] at l;exact l,(b.out.look.comp hL).opn _,b.out.busy.trans (fF.set aG G)⟩
    have im:(i:Int) - 1=(m:Int):=by omega
    have mi:m < i:=by omega
    have bC:=b.out.ex.pos;have bL:s.opn <= 51:=by
     rw [b.out.ex.cnt];have:lT tr d (i + 1) s.seen <= i + 1:=by
      unfold lT;have:=List.length_filter_le (fun j=>decide (d <= j) && s.seen (vr tr j)) (List.range (i + 1));simpa using this
     omega
    have bA:s.opn + more - 1 <= 51:=by
     have B:=l.cnt;have:lT tr d i H.seen <= i:=by
      unfold lT;have:=List.length_filter_le (fun j=>decide (d <= j) && H.seen (vr tr j)) (List.range i);simpa using this
     simp only at B;omega
    have om:Hid ((s.opn:Int) + ((more:Int) - 1)=((s.opn + more - 1:Nat):Int)):=by unfold Hid;omega
    have o1:((s.opn:Int) == 1)=false:=by simp;omega
    have bf:(0:Int) <= (more:Int):=by omega
    have be:(more:Int) <= 52:=by omega
    have bx:Hid (H.opn=more):=ad;clear b l hm o hC aK aC I aO ac ha e5 ad;go_upto_region 11 with (first
     |(go_at_call 176;refine (QV.out _).mono ?_;rintro e9 w9 ⟨rfl,rfl⟩;simp only [])
     |(go_at_call 182;refine E.out.mono ?_;rintro eA wA ⟨bt,f4,V4,X4,R4,O4,rfl,ap⟩;rw [aZ.out] at ap;rw [aZ.out,bx.out];have bv:=hide (NX.out bt f4 V4 X4 R4 O4 wA ap);clear ap;simp only []))
    clear E NX;go_wp2;go_roundw
    case rel=>exact bv.out _ _ (by rw [<- om.out]) (by go_num)
    case measure=>simp [intOf];omega
  ·rw [Bool.not_eq_true] at z;rw [z] at az;have ab:=b.out.ex.skip (by rw [vT J,aj.out];exact z);obtain ⟨m,hm,-⟩:=ab.more;have NX:Hid (∀ sv,sv=.int .i64 ((m:Nat):Int)->JK Z sb ob hb n w K f X gone cs tr ch lev rea d c0 (.int .i64 ((s.opn:Nat):Int)) sv wr):=fun sv an=>⟨m,s,g,f',V',X',aT,aU,an,rfl,by rw [hm] at ab;exact ab,b.out.look,b.out.busy⟩
   have im:(i:Int) - 1=(m:Int):=by omega
   have mi:m < i:=by omega
   clear b ab hm o;go_wp2_with (go_at_call 176;refine (QV.out _).mono ?_;rintro e9 w9 ⟨rfl,rfl⟩;simp only [])
   go_roundw
   case rel=>exact NX.out _ (by go_num)
   case measure=>simp [intOf];omega
end
section
variable {Z:Nat->Prop} {sb K n:Nat} {w:World} {f V:Nat->Value} {X:Nat->List Value} {tr ch:List Nat} {lev:Nat->Nat} {rea:Nat->Int} {cs:List Rec}
structure JH (n:Nat) (X:Nat->List Value) (fol:Nat->Bool):Prop where
 n11:(X 11).length=n
 t11:∀ v,v < n->(X 11)[v]? = some (.bool (fol v))
def JG (Z:Nat->Prop) (sb:Nat) (w:World) (K:Nat) (f V:Nat->Value) (X:Nat->List Value) (fol:Nat->Bool) (tl:List Nat) (s:Value) (wr:World):Prop:=
 ∃ i:Nat,s=.int .i64 ((i:Nat):Int)/\i <= tl.length/\Hid ((∀ j (hj:j < tl.length),j < i->fol (tl[j] / 2)=true)/\dQ Z sb wr K f V X/\∃ d,wr=w.drewN d)
def lV (w:World) (b:Bool) (e:Ending) (w':World):Prop:=e=.returned (.bool b)/\∃ d,w'=w.drewN d
theorem Gh {C:iQ} {fol:Nat->Bool} {v:Nat} (h:rea v=-1):dW (je C rea) fol v=false:=by
 unfold dW je;rw [if_pos h]
theorem Gg {fol:Nat->Bool} {v k:Nat} (a:k < cs.length) (h:rea v=(dn cs k:Nat)):dW (je (mapOf cs) rea) fol v=(cs[k]).lits.tail.all fun y=>fol (y / 2):=by
 unfold dW je;rw [if_neg (by omega),h,Int.toNat_natCast,dP a];rfl
theorem uE {fol:Nat->Bool} {y:Nat} (h:dQ Z sb w K f V X) (hn:n <= 50) (h0:X 0=ints (enc cs)) (hN:(enc cs).length <= 1099511627776) (hT:lU n X tr ch lev rea) (hF:JH n X fol) (hy:y < 2 * n)
  (o:rea (y / 2)=-1\/∃ k,∃ D:k < cs.length,rea (y / 2)=(dn cs k:Nat)/\(cs[k]).lits ≠ []/\∀ x ∈ (cs[k]).lits,x < 2 * n):
  Calls Tryz.prog 183 #[.pointer (some ⟨sb,0,none⟩),.int .i64 (y:Nat)] w fun e r=>lV w (dW (je (mapOf cs) rea) fol (y / 2)) e r:=by
 have hK:=h.hK;have QV:Hid (∀ Y,Calls Tryz.prog 176 #[.int .i64 (y:Nat)] Y fun e r=>e=.returned (.int .i64 ((y / 2:Nat):Int))/\r=Y):=fun Y=>eQ y Y (by omega)
 have hv:y / 2 < n:=by omega
 obtain ⟨g5,c5,t5,e5,q5,r5,s5,-⟩:=h.elem (k:=5) (j:=y / 2) (by omega) hT.n5 hv;rw [show cellOf 5=11 from rfl] at q5;rw [hT.t5 _ hv] at s5;obtain rfl:=Option.some.inj s5;have v0:(0:Int) <= ((y / 2:Nat):Int):=by omega
 have v1:((y / 2:Nat):Int) < (n:Int):=by omega
 rcases o with o | ⟨k,D,o,M,q⟩
 ·rw [Gh o];rw [o] at r5;clear h h0 hT hF e5;generalize y / 2=v at *
  go_enter Tryz.func183,Tryz.ntmps183
  go_upto_region 1 with fail
  go_quiet ((go_at_call 176;exact Calls.quiet_of_same (QV.out _)))
  go_wp2;go_ret
  exact ⟨rfl,_,rfl⟩
 ·rw [Gg D o];rw [o] at r5;obtain ⟨g,c,e0,q0,R,lg,ng,zg,r0,-,-,-,-⟩:=fH h h0 D;have O:=eD D;obtain ⟨x0,m,N⟩:∃ x0 m,(cs[k]).lits=x0 :: m:=by
   match e:(cs[k]).lits,M with
   | x0 :: m,_=>exact ⟨x0,m,rfl⟩
  have hm:(cs[k]).lits.length=m.length + 1:=by rw [N];simp
  have QL:Hid (∀ j,Calls Tryz.prog 175 #[.pointer (some ⟨sb,2,none⟩),.int .i64 (dn cs k:Nat)] (w.drewN j) fun e r=>e=.returned (jw g (dn cs k) (cs[k]).lits.length c)/\∃ d,r=(w.drewN j).drewN d):=fun j=>iY sb 2 g (enc cs).length c (dn cs k) (cs[k]).lits.length (w.drewN j) q0 (by omega) (by unfold maxLen;omega) R r0
  have nc:¬ (c=dn cs k + 3):=by omega
  unfold jw at QL;rw [if_neg nc,hm] at QL;have ag:Hid (∀ wr,dQ Z sb wr K f V X->∀ i (hi:i < m.length),wr.cell? ⟨g,dn cs k + 3 + 1 + i,none⟩=some (.int .i64 (m[i]:Nat))):=fun wr hs i hi=>by
   have:=mV hs h0 e0 D (i:=i + 1) (by omega);rw [show dn cs k + 3 + 1 + i=dn cs k + 3 + (i + 1) by omega,this];simp [N]
  have af:Hid (∀ x ∈ m,x < 2 * n):=fun x L=>q x (by rw [N];simp [L])
  rw [N,List.tail_cons];have HS:=hide h;have HF:=hide hF;have ah:m.length + 1 <= 1099511627776:=by omega
  have S:m.length + 1 <= c - (dn cs k + 3):=by omega
  clear h h0 hT hF e5 N hm o M q q0 r0 e0 O lg ng zg D;generalize dn cs k=a at *
  generalize aa:y / 2=v at *
  obtain ⟨cc,Q⟩:∃ cc,cc=c - (a + 3):=⟨_,rfl⟩;rw [<- Q] at QL S;have c1:(1:Int) <= (cc:Int):=by omega
  have c2:(1:Int) <= ((m.length + 1:Nat):Int):=by omega
  clear Q nc R;obtain ⟨B,hB⟩:∃ B,B=m.all fun y=>fol (y / 2):=⟨_,rfl⟩
  rw [<- hB];have HB:=hide hB;clear hB aa;go_enter Tryz.func183,Tryz.ntmps183
  go_upto_region 1 with fail
  go_quiet ((go_at_call 176;exact Calls.quiet_of_same (QV.out _)))
  go_upto_region 4 with fail
  go_wp2_with (go_at_call 175;refine (QL.out _).mono ?_;rintro e7 w7 ⟨rfl,d7,rfl⟩;simp only [])
  ·obtain ⟨W,C⟩:∃ W,W=w.drewN (nq + d7):=⟨_,rfl⟩;have T:Hid (dQ Z sb W K f V X/\∃ d,W=w.drewN d):=by rw [C];exact ⟨HS.out.later (Go.below_drewN bR _),_,rfl⟩
   rw [<- C];clear C q5 r5;go_loopw [7,26] (fun _ p wr=>JG Z sb w K f V X fol m p wr) (fun _ p _=>m.length - (intOf p).toNat)
   case atStart=>exact ⟨0,rfl,zl,fun j s h=>absurd h (Nat.not_lt_zero _),T.out⟩
   case round=>
    clear T;obtain ⟨i,rfl,ad,l⟩:=hrel;by_cases q:i < m.length
    ·exact absurd q (by omega)
    ·have FB:Hid (lV w B (.returned (.bool true)) wr):=by
      refine ⟨?_,l.out.2.2⟩;have:B=true:=by
       rw [HB.out,List.all_eq_true];intro x L;obtain ⟨j,s,rfl⟩:=List.mem_iff_getElem.1 L;exact l.out.1 j s (by omega)
      rw [this]
     have i1:¬ ((i:Int) < (m.length:Int)):=by omega
     clear l;go_wp2;go_ret;exact FB.out
  ·obtain ⟨W,C⟩:∃ W,W=w.drewN (nq + d7):=⟨_,rfl⟩;have T:Hid (dQ Z sb W K f V X/\∃ d,W=w.drewN d):=by rw [C];exact ⟨HS.out.later (Go.below_drewN bR _),_,rfl⟩
   rw [<- C];clear C q5 r5;go_loopw [7,26] (fun _ p wr=>JG Z sb w K f V X fol m p wr) (fun _ p _=>m.length - (intOf p).toNat)
   case atStart=>exact ⟨0,rfl,zl,fun j s h=>absurd h (Nat.not_lt_zero _),T.out⟩
   case round=>
    clear T;obtain ⟨i,rfl,ad,l⟩:=hrel;by_cases q:i < m.length
    ·have P:=ag.out wr l.out.2.1 i q;obtain ⟨z,hz⟩:∃ z,z=m[i]:=⟨_,rfl⟩;rw [<- hz] at P;have aj:z < 2 * n:=by rw [hz];exact af.out _ (List.getElem_mem _)
     have QZ:Hid (∀ Y,Calls Tryz.prog 176 #[.int .i64 (z:Nat)] Y fun e r=>e=.returned (.int .i64 ((z / 2:Nat):Int))/\r=Y):=fun Y=>eQ z Y (by omega)
     have J:z / 2 < n:=by omega
     obtain ⟨ak,al,ai,ae,I,H,G,-⟩:=l.out.2.1.elem (k:=11) (j:=z / 2) (by omega) HF.out.n11 J;rw [show cellOf 11=17 from rfl] at I;rw [HF.out.t11 _ J] at G;obtain rfl:=Option.some.inj G;have z0:(0:Int) <= ((z / 2:Nat):Int):=by omega
     have z1:((z / 2:Nat):Int) < (n:Int):=by omega
     have i0:(0:Int) <= (i:Int):=by omega
     have i1:(i:Int) < (m.length:Int):=by omega
     have i2:(i:Int) <= 1099511627776:=by omega
     obtain ⟨bz,t⟩:∃ b,b=fol (z / 2):=⟨_,rfl⟩;rw [<- t] at H;have U:Hid (fol (m[i] / 2)=bz):=by unfold Hid;rw [t,hz]
     clear ae hz t;generalize z / 2=zv at *
     go_upto_region 7 with fail
     go_quiet ((go_at_call 176;exact Calls.quiet_of_same (QZ.out _)))
     obtain ⟨E,u⟩:∃ E,E=wr.drewN nq:=⟨_,rfl⟩;have S2:Hid (dQ Z sb E K f V X/\∃ d,E=w.drewN d):=by
      obtain ⟨d,hd⟩:=l.out.2.2;rw [u];exact ⟨l.out.2.1.later (Go.below_drewN bR _),_,by rw [hd,World.drewN_drewN]⟩
     rw [<- u];clear u I H P
     cases bz with
     | true=>
      have NX:Hid (∀ sv,sv=.int .i64 ((i + 1:Nat):Int)->JG Z sb w K f V X fol m sv E):=fun sv ab=>⟨i + 1,ab,q,fun j s ac=>by
       rcases Nat.lt_succ_iff_lt_or_eq.1 ac with h1 | h1
       ·exact l.out.1 j s h1
       ·subst h1;exact U.out,S2.out⟩
      clear l;go_wp2;go_roundw
      case rel=>exact NX.out _ (by go_num)
      case measure=>simp [intOf];omega
     | false=>
      have FB:Hid (lV w B (.returned (.bool false)) E):=by
       refine ⟨?_,S2.out.2⟩;have:B=false:=by
        rw [HB.out,List.all_eq_false];exact ⟨m[i],List.getElem_mem _,by rw [U.out];simp⟩
       rw [this]
      clear l;go_wp2;go_ret;exact FB.out
    ·have FB:Hid (lV w B (.returned (.bool true)) wr):=by
      refine ⟨?_,l.out.2.2⟩;have:B=true:=by
       rw [HB.out,List.all_eq_true];intro x L;obtain ⟨j,s,rfl⟩:=List.mem_iff_getElem.1 L;exact l.out.1 j s (by omega)
      rw [this]
     have i1:¬ ((i:Int) < (m.length:Int)):=by omega
     clear l;go_wp2;go_ret;exact FB.out
end
section
variable {Z:Nat->Prop} {sb K n:Nat} {w:World} {f V:Nat->Value} {X:Nat->List Value} {tr ch:List Nat} {lev:Nat->Nat} {rea:Nat->Int} {cs:List Rec}
theorem Dn {x:Nat} (a:Int) (h:dQ Z sb w K f V X) (d:lU n X tr ch lev rea) (g:x < 2 * n) (H:n <= 50):
  Calls Tryz.prog 221 #[.pointer (some ⟨sb,6,none⟩),.int .i64 a,.int .i64 (x:Nat)] w fun e c=>lV w (decide (0 < tv tr x) && (rea (x / 2) == a)) e c:=by
 have I:=h.hK;obtain ⟨t,z,E,y,m,r,l,-⟩:=h.elem (k:=3) (j:=x) (by omega) d.n3 g;rw [show cellOf 3=9 from rfl] at m;rw [d.t3 x g] at l;obtain rfl:=Option.some.inj l;have o:x / 2 < n:=by omega
 obtain ⟨J,L,D,u,s,G,i,-⟩:=h.elem (k:=5) (j:=x / 2) (by omega) d.n5 o;rw [show cellOf 5=11 from rfl] at s;rw [d.t5 _ o] at i;obtain rfl:=Option.some.inj i;have q:Hid (∀ j,Calls Tryz.prog 103 #[.pointer (some ⟨sb,6,none⟩),.int .i64 (x:Nat)] (w.drewN j) fun e c=>e=.returned (.bool (decide (0 < tv tr x)))/\c=w.drewN j):=fun j=>tu sb 6 t (2 * n) z x (tv tr x) (w.drewN j) m g r
 have p:Hid (∀ Y,Calls Tryz.prog 176 #[.int .i64 (x:Nat)] Y fun e c=>e=.returned (.int .i64 ((x / 2:Nat):Int))/\c=Y):=fun Y=>eQ x Y (by omega)
 have C:(0:Int) <= ((x / 2:Nat):Int):=by omega
 have B:((x / 2:Nat):Int) < (n:Int):=by omega
 clear h d y u;generalize x / 2=v at *
 generalize decide (0 < tv tr x)=b at *
 cases b with
 | true=>
  go_enter Tryz.func221,Tryz.ntmps221
  go_upto_region 1 with fail
  go_quiet (first | (go_at_call 103;exact Calls.quiet_of_same (q.out _)) | (go_at_call 176;exact Calls.quiet_of_same (p.out _)))
  go_wp2;go_ret
  exact ⟨by simp,_,rfl⟩
 | false=>
  go_enter Tryz.func221,Tryz.ntmps221
  go_upto_region 1 with fail
  go_quiet (first | (go_at_call 103;exact Calls.quiet_of_same (q.out _)) | (go_at_call 176;exact Calls.quiet_of_same (p.out _)))
  go_wp2;go_ret
  exact ⟨by simp,_,rfl⟩
theorem Ah {k:Nat} (h:dQ Z sb w K f V X) (o:X 0=ints (enc cs)) (j:k < cs.length) (z:(enc cs).length <= 1099511627776):
  Calls Tryz.prog 224 #[.pointer (some ⟨sb,0,none⟩),.int .i64 (dn cs k:Nat)] w fun e b=>lV w (decide ((cs[k]).kind=2)) e b:=by
 obtain ⟨g,c,C,i,q,x,v,t,p,d,-,-,-⟩:=fH h o j;have l:=eD j;have s:Hid (∀ Y:World,Y.heap=w.heap->Calls Tryz.prog 219 #[.pointer (some ⟨sb,2,none⟩),.int .i64 (dn cs k:Nat)] Y fun e b=>e=.returned (.int .i64 ((cs[k]).kind:Nat))/\b=Y):=fun Y m=>yR sb 2 g (enc cs).length c (dn cs k) _ Y (by rw [show Y.cell? ⟨sb,2,none⟩=w.cell? ⟨sb,2,none⟩ from eX m _];exact i) (by omega) (by unfold maxLen;omega) (by rw [show Y.cell? ⟨g,dn cs k + 1,none⟩=w.cell? ⟨g,dn cs k + 1,none⟩ from eX m _];exact d)
 have r:Hid ((((cs[k]).kind:Int) == 2)=decide ((cs[k]).kind=2)):=by
  unfold Hid;rw [Bool.eq_iff_iff];simp only [beq_iff_eq,decide_eq_true_eq];omega
 clear h o p d i;generalize (cs[k]).kind=y at *
 generalize dn cs k=a at *
 go_enter Tryz.func224,Tryz.ntmps224
 go_wp2_with (go_at_call 219;refine (s.out _ (by rfl)).mono ?_;rintro B u ⟨rfl,rfl⟩;simp only [])
 go_ret
 exact ⟨by rw [<- r.out];rfl,0,rfl⟩
def UJ (Z:Nat->Prop) (sb:Nat) (w:World) (K:Nat) (f V:Nat->Value) (X:Nat->List Value) (cs:List Rec) (s2:Value) (wr:World):Prop:=
 ∃ (k:Nat) (cs':List Rec),s2=.int .i64 ((dn cs k:Nat):Int)/\k <= cs.length/\Hid (fF cs cs'/\dQ Z sb wr K f V (upd X 0 (ints (enc cs')))/\dB Z w wr)
def Kz (Z:Nat->Prop) (sb:Nat) (w:World) (K:Nat) (f V:Nat->Value) (X:Nat->List Value) (cs:List Rec) (w':World):Prop:=
 dB Z w w'/\∃ cs',fF cs cs'/\dQ Z sb w' K f V (upd X 0 (ints (enc cs')))
theorem Ox (h:dQ Z sb w K f V X) (L:X 0=ints (enc cs)) (hN:(enc cs).length <= 1099511627776):
  Calls Tryz.prog 188 #[.pointer (some ⟨sb,2,none⟩)] w fun e v=>e=.returned (.tuple #[])/\Kz Z sb w K f V X cs v:=by
 have hK:=h.hK;have O:Hid (fF cs cs/\dQ Z sb w K f V (upd X 0 (ints (enc cs)))/\dB Z w w):=⟨fF.refl _,by rw [<- L,upd_same];exact h,dB.refl _⟩;clear h L;go_enter Tryz.func188,Tryz.ntmps188
 go_wp2_with fail
 go_loopw [2] (fun x wr=>UJ Z sb w K f V X cs x wr) (fun x _=>(enc cs).length - (intOf x).toNat)
 case atStart=>exact ⟨0,cs,by rw [jP];rfl,zl,O⟩
 case round=>
  clear O;obtain ⟨k,d,rfl,aa,b⟩:=hrel;have r:=b.out.1.len;have W:=(b.out.2.1.hd (k:=0) (by omega)).1;obtain ⟨a0,c0,s⟩:=b.out.2.1.eH.shape (k:=0) (by omega);rw [show cellOf 0=2 from rfl,s,cz,fU,r] at W;by_cases i:k < cs.length
  ·have j:k < d.length:=by rw [b.out.1.1];exact i
   have C:=b.out.1.dn k (by omega);have I:=eD i;obtain ⟨g,c,o,y,ab,lg,ng,Q,H,U,T,-,M⟩:=fH b.out.2.1 (cz ..) j;rw [C] at H T;rw [s] at o;obtain ⟨S,_,R⟩:=Value.slice.inj o;subst S R;have z2:=M (dn cs k + 2);have P:Hid (∀ t:Int,fF cs (d.set k ⟨(d[k]).kind,t,(d[k]).lits⟩)/\dQ Z sb (wr.setCell ⟨g,dn cs k + 2,none⟩ (.int .i64 t)) K f V (upd X 0 (ints (enc (d.set k ⟨(d[k]).kind,t,(d[k]).lits⟩))))/\dB Z w (wr.setCell ⟨g,dn cs k + 2,none⟩ (.int .i64 t))):=fun t=>by
    have G:=b.out.2.1.set (k:=0) (by omega) s (dn cs k + 2) (.int .i64 t);rw [cz,eP,ints_set,<- C,<- qU j] at G;rw [<- C];exact ⟨b.out.1.trans (fF.set j t),G,b.out.2.2.setCell Q _⟩
   have QB:Hid (∀ (t:Int) (Y:World),Y=wr.setCell ⟨g,dn cs k + 2,none⟩ (.int .i64 t)->Calls Tryz.prog 213 #[.pointer (some ⟨sb,2,none⟩),.int .i64 (dn cs k:Nat)] Y fun e v=>e=.returned (.int .i64 ((dn cs (k + 1):Nat):Int))/\v=Y):=fun t Y hY=>by
    subst hY;obtain ⟨z,n2,n3⟩:=P.out t;have m:k < (d.set k ⟨(d[k]).kind,t,(d[k]).lits⟩).length:=by simpa using j
    obtain ⟨g',c',N,p,J,_,_,_,l,-,-,-,-⟩:=fH n2 (cz ..) m;have D:=z.dn k (by omega);have B:=(z.2 k i m).2;have q:=eD m;rw [B] at l q;rw [D] at l q;have:=qd sb 2 g' _ c' (dn cs k) (cs[k]).lits.length (wr.setCell ⟨g,dn cs k + 2,none⟩ (.int .i64 t)) p (by omega) (by have:=z.len;unfold maxLen;omega) l;rw [show dn cs k + 3 + (cs[k]).lits.length=dn cs (k + 1) by rw [gD i];omega] at this;exact this
   have u:Hid (dn cs k < dn cs (k + 1)/\dn cs (k + 1) <= (enc cs).length):=by
    unfold Hid;rw [gD i];omega
   have a0:(0:Int) <= (dn cs k:Int) + 2:=by omega
   have a1:(dn cs k:Int) + 2 < ((enc cs).length:Int):=by omega
   have a2:((dn cs k:Int) + 2).toNat=dn cs k + 2:=by omega
   have a3:(dn cs k:Int) < ((enc cs).length:Int):=by omega
   generalize (d[k]).busy=bz at *
   have E:k + 1 <= cs.length:=i;clear b s y r o M H U;generalize ac:dn cs k=a at *
   go_upto_region 2 with fail
   go_wp2_with (go_at_call 213;refine (QB.out _ _ rfl).mono ?_;rintro e7 w7 ⟨rfl,rfl⟩;simp only [])
   go_roundw
   case rel=>exact ⟨k + 1,_,rfl,E,P.out _⟩
   case measure=>have:=u.out;simp [intOf];omega
  ·have ek:k=cs.length:=by omega
   have F:Hid (Kz Z sb w K f V X cs wr):=⟨b.out.2.2,d,b.out.1,b.out.2.1⟩;have a3:¬ ((dn cs k:Int) < ((enc cs).length:Int)):=by rw [ek,iD lr];omega
   clear b s;generalize dn cs k=a at *
   go_wp2;go_end0
   exact ⟨rfl,F.out⟩
end
section
variable {Z:Nat->Prop} {sb K n:Nat} {w:World} {f V:Nat->Value} {X:Nat->List Value} {tr ch:List Nat} {lev:Nat->Nat} {rea:Nat->Int}
theorem Tryz.BH:(Tryz.prog.info? 4).map (fun i=>(i.zero,i.size,i.bytes))=some (some (.bool false),1,1):=by kernel_rfl
def Ri (w:World) (n:Nat) (tr:List Nat) (s:Value) (wr:World):Prop:=
 ∃ i:Nat,s=.int .i64 ((i:Nat):Int)/\i <= n/\Hid (Below w.heap.size w wr/\wr.rowIs w.heap.size 4 n (fun v=>.bool (decide (v < i) && decide (0 < tv tr (2 * v)))))
theorem Ik (h:dQ Z sb w K f V X) (p:lU n X tr ch lev rea) (z:(X 6).length=n) (hn:n <= 50):
  Calls Tryz.prog 58 #[.pointer (some ⟨sb,0,none⟩)] w fun e d=>e=.returned (.slice (some ⟨w.heap.size,0,none⟩) n n)/\Below w.heap.size w d/\d.rowIs w.heap.size 4 n (fun v=>.bool (decide (0 < tv tr (2 * v)))):=by
 have hK:=h.hK;have l:=run_make_row' (P:=Tryz.prog) 26 4 (.bool false) 1 Tryz.underlying26 Tryz.BH rfl .i64 .i64 n (by omega) (by omega);obtain ⟨a6,c6,B⟩:=h.eH.shape (k:=6) (by omega);have u:=(h.hd (k:=6) (by omega)).1;rw [show cellOf 6=13 from rfl,B,z] at u;go_enter Tryz.func58,Tryz.ntmps58
 go_wp2_with fail
 have q:Hid (∀ (wr Y:World) (v:Nat),Below w.heap.size w wr->Y.heap=wr.heap->v < n->Calls Tryz.prog 103 #[.pointer (some ⟨sb,6,none⟩),.int .i64 ((2 * v:Nat):Int)] Y fun e d=>e=.returned (.bool (decide (0 < tv tr (2 * v))))/\d=Y):=fun wr Y v hb g o=>by
  have y:=h.later hb;obtain ⟨L,O,U,e3,x,G,t,-⟩:=y.elem (k:=3) (j:=2 * v) (by omega) p.n3 (by omega);rw [show cellOf 3=9 from rfl] at x;rw [p.t3 _ (by omega)] at t;obtain rfl:=Option.some.inj t;exact tu sb 6 L (2 * n) O (2 * v) (tv tr (2 * v)) Y (by rw [eX g];exact x) (by omega) (by rw [eX g];exact G)
 have D:Hid (Below w.heap.size w (w.alloc (.cells (madeCells #[.bool false] n) 4))/\(w.alloc (.cells (madeCells #[.bool false] n) 4)).rowIs w.heap.size 4 n (fun v=>.bool (decide (v < 0) && decide (0 < tv tr (2 * v))))):=by
  refine ⟨bR.alloc lr _,?_⟩;exact (World.rowIs_made w (.bool false) n 4).congr fun i hi=>by simp
 clear h p z l B u;go_loopw [4,13] (fun _ s wr=>Ri w n tr s wr) (fun _ s _=>n - (intOf s).toNat)
 case atStart=>exact ⟨0,rfl,zl,D⟩
 case round=>
  clear D;obtain ⟨i,rfl,J,a⟩:=hrel;by_cases c:i < n
  ·have W:=a.out.2.cell c;have S:=a.out.2.frozen i;have C:=hide (fun Y=>oL ((i:Int) + 1) Y (by omega) (by omega) (by omega));rw [show lit ((i:Int) + 1)=2 * i by unfold lit;rw [if_neg (by omega)];omega] at C;have Q:=hide (fun Y g=>q.out wr Y i a.out.1 g c);generalize hb:decide (0 < tv tr (2 * i))=b at *
   have R:Hid (Ri w n tr (.int .i64 ((i + 1:Nat):Int)) (wr.setCell ⟨w.heap.size,i,none⟩ (.bool b)).drew):=by
    refine ⟨i + 1,rfl,c,(a.out.1.setCell lr _).drew,World.rowIs.drew ((a.out.2.set i (.bool b)).congr fun v o=>?_)⟩;by_cases e:v=i
    ·subst e;rw [if_pos rfl,<- hb];simp
    ·rw [if_neg e,show decide (v < i + 1)=decide (v < i) by rw [decide_eq_decide];omega]
   have i0:(0:Int) <= (i:Int):=by omega
   have H:(i:Int) < (n:Int):=by omega
   have i2:(i:Int) <= 50:=by omega
   have I:w.heap.size < wr.heap.size:=a.out.2.lt;have m:IntKind.i64.wrap ((i:Int) + 1)=(i:Int) + 1:=vR _ (by omega) (by omega);clear a hb q;generalize hk:(2 * i:Nat)=k at *
   generalize w.heap.size=y at *
   go_upto_region 5 with fail
   go_region_with (first | (go_at_call 95;(try rw [m]);refine (C.out _).mono ?_;rintro N E ⟨rfl,rfl⟩;simp only []) | (go_at_call 103;refine (Q.out _ (by rfl)).mono ?_;rintro N E ⟨rfl,rfl⟩;simp only []))
   all_goals
    go_wp2;go_roundw
    case rel=>exact R.out
    case measure=>simp [intOf];omega
  ·have M:i=n:=by omega
   subst M;have r:Hid (Below w.heap.size w wr/\wr.rowIs w.heap.size 4 i (fun v=>.bool (decide (0 < tv tr (2 * v))))):=⟨a.out.1,a.out.2.congr fun v o=>by simp [o]⟩;have H:¬ ((i:Int) < (i:Int)):=by omega
   clear a q;go_wp2;go_ret;exact ⟨rfl,r.out⟩
end
def WG (w:World) (n:Nat) (e:Ending) (w':World):Prop:=∃ g1 g2,e=.returned (.agg #[.slice none 0 0,.slice (some ⟨g1,0,none⟩) n n,.slice (some ⟨g2,0,none⟩) n n])/\w.heap.size <= g1/\w.heap.size <= g2/\g1 ≠ g2/\Below w.heap.size w w'/\w'.rowIs g1 4 n (fun _=>.bool false)/\w'.rowIs g2 4 n (fun _=>.bool false)
theorem U5 (w:World) (ob:Obj) (z:Value) (t:TypeId) (a b:Nat):(((w.alloc ob).alloc (.cells (madeCells #[z] a) t)).alloc (.cells (madeCells #[z] b) t)).drew.rowIs (w.heap.size + 1) t a (fun _=>z)/\(((w.alloc ob).alloc (.cells (madeCells #[z] a) t)).alloc (.cells (madeCells #[z] b) t)).drew.rowIs (w.heap.size + 1 + 1) t b (fun _=>z)/\Below w.heap.size w (((w.alloc ob).alloc (.cells (madeCells #[z] a) t)).alloc (.cells (madeCells #[z] b) t)).drew:=by
 have d:=World.rowIs_made (w.alloc ob) z a t;have c:=World.rowIs_made ((w.alloc ob).alloc (.cells (madeCells #[z] a) t)) z b t;simp only [World.size_alloc] at d c;exact ⟨(d.alloc _).drew,c.drew,((((Below.refl _ w).alloc lr _).alloc (by simp) _).alloc (by simp;omega) _).drew⟩
theorem Af (n:Nat) (h:n <= 50) (w:World):Calls Tryz.prog 94 #[.int .i64 (n:Nat)] w fun e d=>WG w n e d:=by
 have g:=run_make_row' (P:=Tryz.prog) 26 4 (.bool false) 1 Tryz.underlying26 Tryz.BH rfl .i64 .i64 n (by omega) (by omega);go_enter Tryz.func94,Tryz.ntmps94
 go_upto_region 1 with fail
 go_region_with (fail)
 ·go_wp2;refine bodyPost_ret (v:=.agg #[.slice none 0 0,.slice (some ⟨w.heap.size + 1,0,none⟩) n n,.slice (some ⟨w.heap.size + 1 + 1,0,none⟩) n n]) (by simp [results,Tryz.results94,go_sem]) rfl ?_
  obtain ⟨c,b,a⟩:=U5 w (.cells #[.slice none 0 0,.slice (some ⟨w.heap.size + 1,0,none⟩) n n,.slice (some ⟨w.heap.size + 1 + 1,0,none⟩) n n] 162 (0,0)) (.bool false) 4 n n;exact ⟨w.heap.size + 1,w.heap.size + 1 + 1,rfl,by omega,by omega,by omega,a,c,b⟩
 ·go_wp2;refine bodyPost_ret (v:=.agg #[.slice none 0 0,.slice (some ⟨w.heap.size + 1 + 1,0,none⟩) n n,.slice (some ⟨w.heap.size + 1,0,none⟩) n n]) (by simp [results,Tryz.results94,go_sem]) rfl ?_
  obtain ⟨c,b,a⟩:=U5 w (.cells #[.slice none 0 0,.slice (some ⟨w.heap.size + 1 + 1,0,none⟩) n n,.slice (some ⟨w.heap.size + 1,0,none⟩) n n] 162 (0,0)) (.bool false) 4 n n;exact ⟨w.heap.size + 1 + 1,w.heap.size + 1,rfl,by omega,by omega,by omega,a,b,c⟩
end
end So
end Go.Proofs.YtceahffmenbibaaGreatDoor
namespace Go.Proofs
open Go.Shelf
def Tryz.Fz:Go.Shelf.Ren:=⟨fun | 103=>71 | 210=>112 | 206=>148 | n=>n,fun | 9=>9 | 4=>4 | 24=>121 | 3=>3 | n=>n,fun | n=>n⟩
theorem Tryz.Uj:Go.Proofs.Lays.n103 Tryz.prog Tryz.Fz:={
 mixed:=by kernel_rfl
 f103:=tC func71 (by kernel_rfl)
 f206:=tC func148 (by kernel_rfl)
 f210:=tC func112 (by kernel_rfl)
 t3:=underlying3
 a3:=isAgg3
 z3:=sizeOf3
 v3:=zeroValue3
 t4:=underlying4
 a4:=isAgg4
 z4:=sizeOf4
 v4:=zeroValue4
 t9:=underlying9
 a9:=isAgg9
 z9:=sizeOf9
 v9:=zeroValue9
 t24:=underlying121
 a24:=isAgg121
 z24:=sizeOf121
 v24:=zeroValue121 }
open Go.RowKit in
theorem Tryz.strings_CutPrefix (s p:ByteArray) (w:World):
  Calls Tryz.prog 71 #[.string s,.string p] w fun e a=>e=.returned (.tuple #[.string ⟨(Lib.trimPrefix s.data.toList p.data.toList).toArray⟩,.bool (Lib.hasPrefix s.data.toList p.data.toList)])/\a=w:=Any.strings_CutPrefix Tryz.Uj s p w
def Tryz.Fv:Go.Shelf.Ren:=⟨fun | 172=>66 | 244=>107 | 245=>108 | 247=>153 | 279=>154 | 280=>155 | 281=>156 | 282=>157 | 287=>196 | 316=>197 | 171=>36 | 205=>198 | 321=>229 | 322=>230 | 243=>65 | 246=>106 | 283=>149 | 284=>150 | 285=>151 | 286=>152 | 129=>170 | 317=>192 | 318=>193 | 319=>194 | 320=>195 | 337=>227 | 338=>228 | n=>n,fun | 9=>9 | 3=>3 | 75=>65 | 76=>117 | 4=>4 | 5=>5 | 167=>209 | 37=>107 | 0=>0 | 85=>210 | 2=>2 | 168=>212 | 53=>82 | 175=>234 | 46=>187 | 210=>238 | 127=>171 | 145=>256 | 143=>254 | 21=>21 | 171=>204 | 173=>207 | 212=>232 | 51=>218 | 20=>20 | 213=>233 | 232=>267 | 233=>268 | 80=>120 | n=>n,fun | 15=>2 | 16=>3 | 17=>1 | 18=>4 | 19=>5 | n=>n⟩
theorem Tryz.Uf:Go.Proofs.Lays.n172 Tryz.prog Tryz.Fv:={
 mixed:=by kernel_rfl
 f129:=tC func170 (by kernel_rfl)
 f171:=tC func36 (by kernel_rfl)
 f172:=tC func66 (by kernel_rfl)
 f205:=tC func198 (by kernel_rfl)
 f243:=tC func65 (by kernel_rfl)
 f244:=tC func107 (by kernel_rfl)
 f245:=tC func108 (by kernel_rfl)
 f246:=tC func106 (by kernel_rfl)
 f247:=tC func153 (by kernel_rfl)
 f279:=tC func154 (by kernel_rfl)
 f280:=tC func155 (by kernel_rfl)
 f281:=tC func156 (by kernel_rfl)
 f282:=tC func157 (by kernel_rfl)
 f283:=tC func149 (by kernel_rfl)
 f284:=tC func150 (by kernel_rfl)
 f285:=tC func151 (by kernel_rfl)
 f286:=tC func152 (by kernel_rfl)
 f287:=tC func196 (by kernel_rfl)
 f316:=tC func197 (by kernel_rfl)
 f317:=tC func192 (by kernel_rfl)
 f318:=tC func193 (by kernel_rfl)
 f319:=tC func194 (by kernel_rfl)
 f320:=tC func195 (by kernel_rfl)
 f321:=tC func229 (by kernel_rfl)
 f322:=tC func230 (by kernel_rfl)
 f337:=tC func227 (by kernel_rfl)
 f338:=tC func228 (by kernel_rfl)
 t0:=underlying0
 a0:=isAgg0
 z0:=sizeOf0
 v0:=zeroValue0
 t2:=underlying2
 a2:=isAgg2
 z2:=sizeOf2
 v2:=zeroValue2
 t3:=underlying3
 a3:=isAgg3
 z3:=sizeOf3
 v3:=zeroValue3
 t4:=underlying4
 a4:=isAgg4
 z4:=sizeOf4
 v4:=zeroValue4
 t5:=underlying5
 a5:=isAgg5
 z5:=sizeOf5
 v5:=zeroValue5
 t9:=underlying9
 a9:=isAgg9
 z9:=sizeOf9
 v9:=zeroValue9
 t20:=underlying20
 a20:=isAgg20
 z20:=sizeOf20
 v20:=zeroValue20
 t21:=underlying21
 a21:=isAgg21
 z21:=sizeOf21
 v21:=zeroValue21
 t37:=underlying107
 a37:=isAgg107
 z37:=sizeOf107
 v37:=zeroValue107
 t46:=underlying187
 a46:=isAgg187
 z46:=sizeOf187
 v46:=zeroValue187
 t51:=underlying218
 a51:=isAgg218
 z51:=sizeOf218
 v51:=zeroValue218
 t53:=underlying82
 a53:=isAgg82
 z53:=sizeOf82
 v53:=zeroValue82
 t75:=underlying65
 a75:=isAgg65
 z75:=sizeOf65
 v75:=zeroValue65
 t76:=underlying117
 a76:=isAgg117
 z76:=sizeOf117
 v76:=zeroValue117
 t85:=underlying210
 a85:=isAgg210
 z85:=sizeOf210
 v85:=zeroValue210
 t127:=underlying171
 a127:=isAgg171
 z127:=sizeOf171
 v127:=zeroValue171
 t143:=underlying254
 a143:=isAgg254
 z143:=sizeOf254
 v143:=zeroValue254
 t145:=underlying256
 a145:=isAgg256
 z145:=sizeOf256
 v145:=zeroValue256
 t167:=underlying209
 a167:=isAgg209
 z167:=sizeOf209
 v167:=zeroValue209
 t168:=underlying212
 a168:=isAgg212
 z168:=sizeOf212
 v168:=zeroValue212
 t171:=underlying204
 a171:=isAgg204
 z171:=sizeOf204
 v171:=zeroValue204
 t173:=underlying207
 a173:=isAgg207
 z173:=sizeOf207
 v173:=zeroValue207
 t175:=underlying234
 a175:=isAgg234
 z175:=sizeOf234
 v175:=zeroValue234
 t210:=underlying238
 a210:=isAgg238
 z210:=sizeOf238
 v210:=zeroValue238
 t212:=underlying232
 a212:=isAgg232
 z212:=sizeOf232
 v212:=zeroValue232
 t213:=underlying233
 a213:=isAgg233
 z213:=sizeOf233
 t232:=underlying267
 a232:=isAgg267
 z232:=sizeOf267
 v232:=zeroValue267
 t233:=underlying268
 a233:=isAgg268
 z233:=sizeOf268
 v233:=zeroValue268
 g15:=by kernel_rfl
 g16:=by kernel_rfl
 g17:=by kernel_rfl
 g18:=by kernel_rfl
 g19:=by kernel_rfl }
open Go.RowKit in
theorem Tryz.strconv_Atoi (s:ByteArray) (n:Int) (b:s.size <= 18) (h:Lib.atoi s.data.toList=some n) (w:World):
  Calls Tryz.prog 66 #[.string s] w fun e a=>e=.returned (.tuple #[.int .i64 n,.nilIface])/\∃ t,a=Lib.bytesWorld w 5 t:=Any.strconv_Atoi Tryz.Uf s n b h w
def Tryz.Dk:Go.Shelf.Ren:=⟨fun | 171=>36 | 243=>65 | 246=>106 | 283=>149 | 284=>150 | 285=>151 | 286=>152 | 129=>170 | 317=>192 | 318=>193 | 319=>194 | 320=>195 | 337=>227 | 338=>228 | n=>n,fun | 3=>3 | 9=>9 | 2=>2 | 4=>4 | 171=>204 | 0=>0 | 53=>82 | 37=>107 | 5=>5 | 173=>207 | 212=>232 | 51=>218 | 20=>20 | 213=>233 | 46=>187 | 232=>267 | 233=>268 | n=>n,fun | 17=>1 | 18=>4 | 19=>5 | n=>n⟩
theorem Tryz.PM:Go.Proofs.LaysM.n171 Tryz.prog Tryz.Dk:={
 mixed:=by kernel_rfl
 f129:=tC func170 (by kernel_rfl)
 f171:=tC func36 (by kernel_rfl)
 f243:=tC func65 (by kernel_rfl)
 f246:=tC func106 (by kernel_rfl)
 f283:=tC func149 (by kernel_rfl)
 f284:=tC func150 (by kernel_rfl)
 f285:=tC func151 (by kernel_rfl)
 f286:=tC func152 (by kernel_rfl)
 f317:=tC func192 (by kernel_rfl)
 f318:=tC func193 (by kernel_rfl)
 f319:=tC func194 (by kernel_rfl)
 f320:=tC func195 (by kernel_rfl)
 f337:=tC func227 (by kernel_rfl)
 f338:=tC func228 (by kernel_rfl)
 t0:=underlying0
 a0:=isAgg0
 z0:=sizeOf0
 v0:=zeroValue0
 t2:=underlying2
 a2:=isAgg2
 z2:=sizeOf2
 v2:=zeroValue2
 t3:=underlying3
 a3:=isAgg3
 z3:=sizeOf3
 v3:=zeroValue3
 t4:=underlying4
 a4:=isAgg4
 z4:=sizeOf4
 v4:=zeroValue4
 t5:=underlying5
 a5:=isAgg5
 z5:=sizeOf5
 v5:=zeroValue5
 t9:=underlying9
 a9:=isAgg9
 z9:=sizeOf9
 v9:=zeroValue9
 t20:=underlying20
 a20:=isAgg20
 z20:=sizeOf20
 v20:=zeroValue20
 t37:=underlying107
 a37:=isAgg107
 z37:=sizeOf107
 v37:=zeroValue107
 t46:=underlying187
 a46:=isAgg187
 z46:=sizeOf187
 v46:=zeroValue187
 t51:=underlying218
 a51:=isAgg218
 z51:=sizeOf218
 v51:=zeroValue218
 t53:=underlying82
 a53:=isAgg82
 z53:=sizeOf82
 v53:=zeroValue82
 t171:=underlying204
 a171:=isAgg204
 z171:=sizeOf204
 v171:=zeroValue204
 t173:=underlying207
 a173:=isAgg207
 z173:=sizeOf207
 v173:=zeroValue207
 t212:=underlying232
 a212:=isAgg232
 z212:=sizeOf232
 v212:=zeroValue232
 t213:=underlying233
 a213:=isAgg233
 z213:=sizeOf233
 t232:=underlying267
 a232:=isAgg267
 z232:=sizeOf267
 v232:=zeroValue267
 t233:=underlying268
 a233:=isAgg268
 z233:=sizeOf268
 v233:=zeroValue268
 g17:=by kernel_rfl
 g18:=by kernel_rfl
 g19:=by kernel_rfl
 i0:=by kernel_rfl
 i2:=by kernel_rfl
 i3:=by kernel_rfl
 i4:=by kernel_rfl
 i5:=by kernel_rfl
 i9:=by kernel_rfl
 i20:=by kernel_rfl
 i37:=by kernel_rfl
 i46:=by kernel_rfl
 i51:=by kernel_rfl
 i53:=by kernel_rfl
 i171:=by kernel_rfl
 i173:=by kernel_rfl
 i212:=by kernel_rfl
 i232:=by kernel_rfl
 i233:=by kernel_rfl
 m17:=by kernel_rfl
 m18:=by kernel_rfl
 m19:=by kernel_rfl }
def Tryz.Fw:Go.Shelf.Ren:=⟨fun | 171=>36 | 243=>65 | 246=>106 | 283=>149 | 284=>150 | 285=>151 | 286=>152 | 129=>170 | 317=>192 | 318=>193 | 319=>194 | 320=>195 | 337=>227 | 338=>228 | n=>n,fun | 3=>3 | 9=>9 | 2=>2 | 4=>4 | 171=>204 | 0=>0 | 53=>82 | 37=>107 | 5=>5 | 173=>207 | 212=>232 | 51=>218 | 20=>20 | 213=>233 | 46=>187 | 232=>267 | 233=>268 | n=>n,fun | 17=>1 | 18=>4 | 19=>5 | n=>n⟩
theorem Tryz.Ug:Go.Proofs.Lays.n171 Tryz.prog Tryz.Fw:={
 mixed:=by kernel_rfl
 f129:=tC func170 (by kernel_rfl)
 f171:=tC func36 (by kernel_rfl)
 f243:=tC func65 (by kernel_rfl)
 f246:=tC func106 (by kernel_rfl)
 f283:=tC func149 (by kernel_rfl)
 f284:=tC func150 (by kernel_rfl)
 f285:=tC func151 (by kernel_rfl)
 f286:=tC func152 (by kernel_rfl)
 f317:=tC func192 (by kernel_rfl)
 f318:=tC func193 (by kernel_rfl)
 f319:=tC func194 (by kernel_rfl)
 f320:=tC func195 (by kernel_rfl)
 f337:=tC func227 (by kernel_rfl)
 f338:=tC func228 (by kernel_rfl)
 t0:=underlying0
 a0:=isAgg0
 z0:=sizeOf0
 v0:=zeroValue0
 t2:=underlying2
 a2:=isAgg2
 z2:=sizeOf2
 v2:=zeroValue2
 t3:=underlying3
 a3:=isAgg3
 z3:=sizeOf3
 v3:=zeroValue3
 t4:=underlying4
 a4:=isAgg4
 z4:=sizeOf4
 v4:=zeroValue4
 t5:=underlying5
 a5:=isAgg5
 z5:=sizeOf5
 v5:=zeroValue5
 t9:=underlying9
 a9:=isAgg9
 z9:=sizeOf9
 v9:=zeroValue9
 t20:=underlying20
 a20:=isAgg20
 z20:=sizeOf20
 v20:=zeroValue20
 t37:=underlying107
 a37:=isAgg107
 z37:=sizeOf107
 v37:=zeroValue107
 t46:=underlying187
 a46:=isAgg187
 z46:=sizeOf187
 v46:=zeroValue187
 t51:=underlying218
 a51:=isAgg218
 z51:=sizeOf218
 v51:=zeroValue218
 t53:=underlying82
 a53:=isAgg82
 z53:=sizeOf82
 v53:=zeroValue82
 t171:=underlying204
 a171:=isAgg204
 z171:=sizeOf204
 v171:=zeroValue204
 t173:=underlying207
 a173:=isAgg207
 z173:=sizeOf207
 v173:=zeroValue207
 t212:=underlying232
 a212:=isAgg232
 z212:=sizeOf232
 v212:=zeroValue232
 t213:=underlying233
 a213:=isAgg233
 z213:=sizeOf233
 t232:=underlying267
 a232:=isAgg267
 z232:=sizeOf267
 v232:=zeroValue267
 t233:=underlying268
 a233:=isAgg268
 z233:=sizeOf268
 v233:=zeroValue268
 g17:=by kernel_rfl
 g18:=by kernel_rfl
 g19:=by kernel_rfl }
open Go.RowKit Go.Sort Go.Lib in
theorem Tryz.strconv_Itoa_small (i:Nat) (hi:i < 100) (w:World):
  Calls Tryz.prog 36 #[.int .i64 i] w fun e a=>e=.returned (.string ⟨(Lib.decDigits i).toArray⟩)/\a=w:=Any.strconv_Itoa_small Tryz.Ug i hi w
def Tryz.wF:Go.Shelf.Ren:=⟨fun | 145=>40 | 220=>70 | 219=>111 | 217=>161 | 225=>162 | 224=>163 | 267=>164 | 266=>200 | 314=>201 | n=>n,fun | 9=>9 | 4=>4 | 59=>80 | 3=>3 | 5=>5 | 46=>187 | 146=>240 | 51=>218 | n=>n,fun | 1=>0 | n=>n⟩
theorem Tryz.Kj:Go.Proofs.Lays.n145 Tryz.prog Tryz.wF:={
 mixed:=by kernel_rfl
 f145:=tC func40 (by kernel_rfl)
 f217:=tC func161 (by kernel_rfl)
 f219:=tC func111 (by kernel_rfl)
 f220:=tC func70 (by kernel_rfl)
 f224:=tC func163 (by kernel_rfl)
 f225:=tC func162 (by kernel_rfl)
 f266:=tC func200 (by kernel_rfl)
 f267:=tC func164 (by kernel_rfl)
 f314:=tC func201 (by kernel_rfl)
 t3:=underlying3
 a3:=isAgg3
 z3:=sizeOf3
 v3:=zeroValue3
 t4:=underlying4
 a4:=isAgg4
 z4:=sizeOf4
 v4:=zeroValue4
 t5:=underlying5
 a5:=isAgg5
 z5:=sizeOf5
 v5:=zeroValue5
 t9:=underlying9
 a9:=isAgg9
 z9:=sizeOf9
 v9:=zeroValue9
 t46:=underlying187
 a46:=isAgg187
 z46:=sizeOf187
 v46:=zeroValue187
 t51:=underlying218
 a51:=isAgg218
 z51:=sizeOf218
 v51:=zeroValue218
 t59:=underlying80
 a59:=isAgg80
 z59:=sizeOf80
 v59:=zeroValue80
 t146:=underlying240
 a146:=isAgg240
 z146:=sizeOf240
 v146:=zeroValue240
 g1:=by kernel_rfl }
open Go.RowKit Go.Lib in
theorem Tryz.strings_Cut (s a:ByteArray) (m:Int) (w:World) (c:s.size < 4294967281) (d:w.cell? ⟨0,0,none⟩=some (.int .i64 m)):
  Calls Tryz.prog 40 #[.string s,.string a] w fun e b=>e=.returned (.tuple #[.string ⟨(Lib.cut s.data.toList a.data.toList).1.toArray⟩,.string ⟨(Lib.cut s.data.toList a.data.toList).2.1.toArray⟩,.bool (Lib.cut s.data.toList a.data.toList).2.2])/\∃ n,b=w.drewN n:=Any.strings_Cut Tryz.Kj s a m w c d
def Tryz.Dj:Go.Shelf.Ren:=⟨fun | 219=>111 | 217=>161 | 225=>162 | 224=>163 | 267=>164 | 266=>200 | 314=>201 | n=>n,fun | 9=>9 | 3=>3 | 4=>4 | 5=>5 | 46=>187 | 146=>240 | 51=>218 | n=>n,fun | 1=>0 | n=>n⟩
theorem Tryz.PL:Go.Proofs.LaysM.n219 Tryz.prog Tryz.Dj:={
 mixed:=by kernel_rfl
 f217:=tC func161 (by kernel_rfl)
 f219:=tC func111 (by kernel_rfl)
 f224:=tC func163 (by kernel_rfl)
 f225:=tC func162 (by kernel_rfl)
 f266:=tC func200 (by kernel_rfl)
 f267:=tC func164 (by kernel_rfl)
 f314:=tC func201 (by kernel_rfl)
 t3:=underlying3
 a3:=isAgg3
 z3:=sizeOf3
 v3:=zeroValue3
 t4:=underlying4
 a4:=isAgg4
 z4:=sizeOf4
 v4:=zeroValue4
 t5:=underlying5
 a5:=isAgg5
 z5:=sizeOf5
 v5:=zeroValue5
 t9:=underlying9
 a9:=isAgg9
 z9:=sizeOf9
 v9:=zeroValue9
 t46:=underlying187
 a46:=isAgg187
 z46:=sizeOf187
 v46:=zeroValue187
 t51:=underlying218
 a51:=isAgg218
 z51:=sizeOf218
 v51:=zeroValue218
 t146:=underlying240
 a146:=isAgg240
 z146:=sizeOf240
 v146:=zeroValue240
 g1:=by kernel_rfl
 i3:=by kernel_rfl
 i4:=by kernel_rfl
 i5:=by kernel_rfl
 i9:=by kernel_rfl
 i46:=by kernel_rfl
 i51:=by kernel_rfl
 i146:=by kernel_rfl
 m1:=by kernel_rfl
 s1_3:=fun w h=>Go.Proofs.cell_of_shapedOpen_int (zero:=#[.int .i64 0]) (t:=3) h (of_decide_eq_true (by kernel_rfl)) (by kernel_rfl) rfl (by kernel_rfl) (by kernel_rfl) Tryz.underlying3 }
def Tryz.I4:Go.Shelf.Ren:=⟨fun | 99=>104 | 206=>148 | n=>n,fun | 9=>9 | 4=>4 | 3=>3 | n=>n,fun | n=>n⟩
theorem Tryz.V7:Go.Proofs.Lays.n99 Tryz.prog Tryz.I4:={
 mixed:=by kernel_rfl
 f99:=tC func104 (by kernel_rfl)
 f206:=tC func148 (by kernel_rfl)
 t3:=underlying3
 a3:=isAgg3
 z3:=sizeOf3
 v3:=zeroValue3
 t4:=underlying4
 a4:=isAgg4
 z4:=sizeOf4
 v4:=zeroValue4
 t9:=underlying9
 a9:=isAgg9
 z9:=sizeOf9
 v9:=zeroValue9 }
open Go.RowKit Go.Lib in
theorem Tryz.strings_HasPrefix (s p:ByteArray) (w:World):
  Calls Tryz.prog 104 #[.string s,.string p] w fun e a=>e=.returned (.bool (Lib.hasPrefix s.data.toList p.data.toList))/\a=w:=Any.strings_HasPrefix Tryz.V7 s p w
def Tryz.FH:Go.Shelf.Ren:=⟨fun | 101=>113 | 208=>165 | 206=>148 | n=>n,fun | 9=>9 | 4=>4 | 3=>3 | n=>n,fun | n=>n⟩
theorem Tryz.Uk:Go.Proofs.Lays.n101 Tryz.prog Tryz.FH:={
 mixed:=by kernel_rfl
 f101:=tC func113 (by kernel_rfl)
 f206:=tC func148 (by kernel_rfl)
 f208:=tC func165 (by kernel_rfl)
 t3:=underlying3
 a3:=isAgg3
 z3:=sizeOf3
 v3:=zeroValue3
 t4:=underlying4
 a4:=isAgg4
 z4:=sizeOf4
 v4:=zeroValue4
 t9:=underlying9
 a9:=isAgg9
 z9:=sizeOf9
 v9:=zeroValue9 }
open Go.RowKit Go.Lib in
theorem Tryz.strings_TrimPrefix (s p:ByteArray) (w:World):
  Calls Tryz.prog 113 #[.string s,.string p] w fun e a=>e=.returned (.string ⟨(Lib.trimPrefix s.data.toList p.data.toList).toArray⟩)/\a=w:=Any.strings_TrimPrefix Tryz.Uk s p w
def Tryz.Fs:Go.Shelf.Ren:=⟨fun | 229=>63 | n=>n,fun | 9=>9 | 40=>127 | 31=>70 | 152=>172 | 3=>3 | 0=>0 | 4=>4 | 21=>21 | 154=>174 | n=>n,fun | n=>n⟩
theorem Tryz.Ud:Go.Proofs.Lays.n229 Tryz.prog Tryz.Fs:={
 mixed:=by kernel_rfl
 f229:=tC func63 (by kernel_rfl)
 t0:=underlying0
 a0:=isAgg0
 z0:=sizeOf0
 v0:=zeroValue0
 t3:=underlying3
 a3:=isAgg3
 z3:=sizeOf3
 v3:=zeroValue3
 t4:=underlying4
 a4:=isAgg4
 z4:=sizeOf4
 v4:=zeroValue4
 t9:=underlying9
 a9:=isAgg9
 z9:=sizeOf9
 v9:=zeroValue9
 t21:=underlying21
 a21:=isAgg21
 z21:=sizeOf21
 v21:=zeroValue21
 t31:=underlying70
 a31:=isAgg70
 z31:=sizeOf70
 v31:=zeroValue70
 t40:=underlying127
 a40:=isAgg127
 z40:=sizeOf127
 v40:=zeroValue127
 t152:=underlying172
 a152:=isAgg172
 z152:=sizeOf172
 v152:=zeroValue172
 t154:=underlying174
 a154:=isAgg174
 z154:=sizeOf174
 v154:=zeroValue174 }
open Go.RowKit Go.Lib in
theorem Tryz.strings_FieldsFunc (g:Nat) (b:Array Value) (i:∀ a w,(callFunc g a).run Tryz.prog w=.ok (.enter g a) w) (p:Nat->Bool) (s:ByteArray) (w:World) (d:s.size <= 4294967296) (h:PredAt Tryz.prog g b encR p w):
  Calls Tryz.prog 63 #[.string s,.func (.func g) #[] b] w fun e c=>∃ A,e=.returned (.slice (some ⟨A,0,none⟩) (Lib.goFieldsP p s).length (Lib.goFieldsP p s).length)/\w.heap.size <= A/\
   c.ownsRow w.heap.size 9 1 (.slice (some ⟨A,0,none⟩) (Lib.goFieldsP p s).length (Lib.goFieldsP p s).length) (Lib.goFieldsP p s).length ((Lib.goFieldsP p s).map Value.string)/\Below w.heap.size w c:=Any.strings_FieldsFunc Tryz.Ud g b i p s w d h (by kernel_rfl) (by kernel_rfl)
def Tryz.Fy:Go.Shelf.Ren:=⟨fun | 109=>67 | n=>n,fun | 31=>70 | 9=>9 | 3=>3 | 0=>0 | 4=>4 | n=>n,fun | n=>n⟩
theorem Tryz.Ui:Go.Proofs.Lays.n109 Tryz.prog Tryz.Fy:={
 mixed:=by kernel_rfl
 f109:=tC func67 (by kernel_rfl)
 t0:=underlying0
 a0:=isAgg0
 z0:=sizeOf0
 v0:=zeroValue0
 t3:=underlying3
 a3:=isAgg3
 z3:=sizeOf3
 v3:=zeroValue3
 t4:=underlying4
 a4:=isAgg4
 z4:=sizeOf4
 v4:=zeroValue4
 t9:=underlying9
 a9:=isAgg9
 z9:=sizeOf9
 v9:=zeroValue9
 t31:=underlying70
 a31:=isAgg70
 z31:=sizeOf70
 v31:=zeroValue70 }
open Go.Lib in
theorem Tryz.slices_Index_string (b off n c:Nat) (zs:List ByteArray) (x:ByteArray) (w:World) (g:n <= zs.length) (a:n <= 9223372036854775807) (h:∀ j,j < zs.length->w.cell? ⟨b,off + j,none⟩=some (.string (zs.getD j ByteArray.empty))):
  Calls Tryz.prog 67 #[.slice (some ⟨b,off,none⟩) n c,.string x] w fun e d=>e=.returned (.int .i64 (Lib.idxOfS (zs.take n) x))/\d=w:=Any.slices_Index_string Tryz.Ui b off n c zs x w g a h
end Go.Proofs
namespace Go.Proofs.YtceahffmenbibaaGreatDoor
namespace Rd
section
open Go Go.RowKit Go.Proofs
theorem Ob (t:Bs):Lib.trimPrefix t [45]=strip t:=by
 unfold Lib.trimPrefix Lib.hasPrefix strip
 cases t with
 | nil=>simp
 | cons c r=>
  by_cases h:c=45
  ·subst h;simp [List.isPrefixOf]
  ·have a:¬ (45:UInt8)=c:=fun e=>h e.symm
   simp [List.isPrefixOf,h,a]
theorem KV (t:Bs):(strip t).length <= t.length:=by
 unfold strip;split <;> simp
theorem KQ (t:ByteArray) (w:World):
  Calls Tryz.prog 113 #[.string t,.string ⟨#[45]⟩] w fun e a=>∃ x:ByteArray,e=.returned (.string x)/\Hid (x.data.toList=strip t.data.toList)/\a=w:=by
 refine (Tryz.strings_TrimPrefix t _ _).mono ?_;rintro e a ⟨rfl,rfl⟩;exact ⟨_,rfl,Ob _,rfl⟩
theorem oM {x:ByteArray} {l:Bs} (h:x.data.toList=l):x.size=l.length:=by rw [<- h];simp
theorem oN (t v:ByteArray) (w:World) (p:t.size <= maxLen) (m:v.size <= maxLen):
  Calls Tryz.prog 72 #[.string t,.string v] w fun e l=>e=.returned (.bool (jC v.data.toList t.data.toList))/\l=w:=by
 go_enter Tryz.func72,Tryz.ntmps72
 go_wp2_with fail
 refine (KQ t _).mono ?_;rintro e l ⟨x,rfl,j,rfl⟩;have h:x.size <= maxLen:=by rw [oM j.out];have:=KV t.data.toList;simp at this;omega
 have c:Hid (jC v.data.toList t.data.toList=(gY x.data.toList && !(x.data.toList == [48]) && !above x.data.toList v.data.toList)):=by
  unfold Hid jC;rw [j.out]
 clear j;by_cases a:gY x.data.toList=true
 ·by_cases i:(!x.toList == [48])=true
  ·have E:Hid (jC v.data.toList t.data.toList=!above x.data.toList v.data.toList):=by
    unfold Hid;rw [c.out,a];rw [ByteArray.toList_eq] at i;rw [i];simp
   clear c;have g:=hide a;clear a;go_wp2_with fail
   refine (kI x _ h).mono ?_;rintro e k ⟨rfl,rfl⟩;rw [g.out];go_wp2_with fail
   refine (wH x v _ h m).mono ?_;rintro e o ⟨rfl,rfl⟩;go_wp2;go_ret;exact ⟨fM (by rw [E.out]),rfl⟩
  ·have d:(!x.toList == [48])=false:=by simpa using i
   clear i;have E:Hid (jC v.data.toList t.data.toList=false):=by
    unfold Hid;rw [c.out,a];rw [ByteArray.toList_eq] at d;rw [d];simp
   clear c;have g:=hide a;clear a;go_wp2_with fail
   refine (kI x _ h).mono ?_;rintro e k ⟨rfl,rfl⟩;rw [g.out];go_wp2;go_ret;exact ⟨fM (by rw [E.out]),rfl⟩
 ·have b:gY x.data.toList=false:=by simpa using a
  clear a;have E:Hid (jC v.data.toList t.data.toList=false):=by
   unfold Hid;rw [c.out,b];simp
  clear c;have g:=hide b;clear b;go_wp2_with fail
  refine (kI x _ h).mono ?_;rintro e k ⟨rfl,rfl⟩;rw [g.out];go_wp2;go_ret;exact ⟨fM (by rw [E.out]),rfl⟩
def XC (r:Nat):Bool:=r == 32 || r == 9 || r == 10
theorem MJ (r:Nat) (w:World):
  Calls Tryz.prog 64 #[.int .i32 r] w fun e d=>e=.returned (.bool (XC r))/\d=w:=by
 have i:((r:Int) == 32)=(r == 32):=by rw [Bool.eq_iff_iff];simp;omega
 have h:((r:Int) == 9)=(r == 9):=by rw [Bool.eq_iff_iff];simp;omega
 have g:((r:Int) == 10)=(r == 10):=by rw [Bool.eq_iff_iff];simp;omega
 cases c:(r == 32) <;> cases b:(r == 9) <;> cases a:(r == 10)
 all_goals
  rw [c] at i;rw [b] at h;rw [a] at g
  have E:Hid (XC r=((r == 32) || (r == 9) || (r == 10))):=rfl;rw [c,b,a] at E;clear c b a;go_enter Tryz.func64,Tryz.ntmps64
  go_wp2;go_ret
  exact ⟨fM (by rw [E.out];rfl),rfl⟩
theorem BI:∀ (l:Bs),Lib.index l [10]=if ended l then ((line l).length:Int) else -1
 | []=>by simp [Lib.index,ended,line]
 | c :: r=>by
  have b:=BI r;by_cases h:c=10
  ·subst h;simp [Lib.index,ended,line,List.isPrefixOf]
  ·have d:¬ (10:UInt8)=c:=fun e=>h e.symm
   unfold Lib.index;rw [show List.isPrefixOf [10] (c :: r)=false from by simp [List.isPrefixOf,d],b];have a:line (c :: r)=c :: line r:=by simp [line,h]
   have g:ended (c :: r)=ended r:=by simp [ended,a]
   rw [g,a];cases ended r <;> simp
theorem UA (l:Bs):Lib.cut l [10]=if ended l then (line l,rest l,true) else (l,[],false):=by
 unfold Lib.cut;rw [BI]
 cases h:ended l with
 | true=>
  have a:l.take (line l).length=line l:=by
   unfold line;have:=List.takeWhile_prefix (l:=l) (p:=fun c=>!(c == 10));exact (List.prefix_iff_eq_take.1 this).symm
  simp [a,rest]
 | false=>simp
theorem Qq (s:ByteArray) (m:Int) (w:World) (d:s.size <= 20000) (c:w.cell? ⟨0,0,none⟩=some (.int .i64 m)):
  Calls Tryz.prog 40 #[.string s,.string ⟨#[10]⟩] w fun e a=>∃ x y:ByteArray,e=.returned (.tuple #[.string x,.string y,.bool (ended s.data.toList)])/\
   Hid (x.data.toList=if ended s.data.toList then line s.data.toList else s.data.toList)/\Hid (y.data.toList=if ended s.data.toList then rest s.data.toList else [])/\∃ n,a=w.drewN n:=by
 refine (Tryz.strings_Cut s _ m _ (by omega) c).mono ?_;rintro e a ⟨rfl,b⟩;rw [show Lib.cut s.data.toList (⟨#[10]⟩:ByteArray).data.toList=_ from UA _];cases ended s.data.toList
 ·exact ⟨_,_,rfl,rfl,rfl,b⟩
 ·exact ⟨_,_,rfl,rfl,rfl,b⟩
theorem Pz (l:Bs):(line l).length <= l.length:=by unfold line;exact (List.takeWhile_prefix _).length_le
theorem EA {l:Bs} (h:ended l=true):(rest l).length < l.length:=by
 simp [ended] at h;simp [rest];omega
theorem F5 (l:Bs):Lib.hasPrefix l [99]=(l.head? == some 99):=by
 unfold Lib.hasPrefix
 cases l with
 | nil=>rfl
 | cons c r=>
  by_cases h:c=99
  ·subst h;simp [List.isPrefixOf]
  ·have b:((99:UInt8) == c)=false:=by simpa using fun e=>h e.symm
   have a:(c == (99:UInt8))=false:=by simpa using h
   simp [List.isPrefixOf,b,a]
def jg:Nat->Bs->Option Bs
 | 0,_=>none
 | f + 1,l=>if Lib.hasPrefix l [99] then (if ended l && comment (line l) then jg f (rest l) else none) else some l
def jZ:Value->Nat
 | .string x=>x.size
 | _=>0
theorem uV (s:ByteArray) (m:Int) (w:World) (I:s.size <= 20000) (J:w.cell? ⟨0,0,none⟩=some (.int .i64 m)):
  Calls Tryz.prog 60 #[.string s] w fun e v=>(∃ n,v=w.drewN n)/\∃ x:ByteArray,
   ((jg (s.size + 1) s.data.toList=none/\e=.returned (.tuple #[.string x,.bool false])) \/
    (jg (s.size + 1) s.data.toList=some x.data.toList/\x.size <= 20000/\e=.returned (.tuple #[.string x,.bool true]))):=by
 go_enter Tryz.func60,Tryz.ntmps60
 go_wp2;go_loopw [0,4,5,6] (fun t _ _ _ wr=>∃ (x:ByteArray) (f n:Nat),t=.string x/\x.size < f/\x.size <= 20000/\wr=w.drewN n/\Hid (jg f x.data.toList=jg (s.size + 1) s.data.toList)) (fun t _ _ _ _=>jZ t)
 case atStart=>exact ⟨s,s.size + 1,0,rfl,by omega,I,rfl,rfl⟩
 case round=>
  obtain ⟨x,f,n,rfl,M,C,rfl,j⟩:=hrel;obtain ⟨g,rfl⟩:∃ g,f=g + 1:=⟨f - 1,by omega⟩;have q:(w.drewN n).cell? ⟨0,0,none⟩=some (.int .i64 m):=J;go_wp2_with fail
  refine (Tryz.strings_HasPrefix x _ _).mono ?_;rintro e v ⟨rfl,rfl⟩
  cases l:Lib.hasPrefix x.data.toList (⟨#[99]⟩:ByteArray).data.toList with
  | false=>
   have E:Hid (jg (g + 1) x.data.toList=some x.data.toList):=by unfold Hid jg;rw [show Lib.hasPrefix x.data.toList [99]=false from l];rfl
   clear l;go_wp2;go_ret2;exact ⟨⟨n,rfl⟩,x,.inr ⟨j.out.symm.trans E.out,C,rfl⟩⟩
  | true=>
   have D:=hide l;clear l;go_wp2_with fail
   refine (Qq x m _ C q).mono ?_;rintro e L ⟨y,z,rfl,p,o,B,rfl⟩
   cases b:ended x.data.toList with
   | false=>
    have E:Hid (jg (g + 1) x.data.toList=none):=by unfold Hid jg;rw [show Lib.hasPrefix x.data.toList [99]=true from D.out,b];rfl
    clear b p o;go_wp2;go_ret2;exact ⟨⟨_,rfl⟩,_,.inl ⟨j.out.symm.trans E.out,rfl⟩⟩
   | true=>
    have h:Hid (y.data.toList=line x.data.toList):=by unfold Hid;rw [p.out,b];rfl
    have a:Hid (z.data.toList=rest x.data.toList):=by unfold Hid;rw [o.out,b];rfl
    have d:z.size < x.size:=by rw [oM a.out];have:=EA b;simp at this;exact this
    have r:Hid (jg (g + 1) x.data.toList=if comment y.data.toList then jg g z.data.toList else none):=by
     unfold Hid;rw [h.out,a.out,jg];rw [show Lib.hasPrefix x.data.toList [99]=true from D.out,b];simp
    clear p o b h a;by_cases k:(!y.toList == [99])=true
    ·cases c:Lib.hasPrefix y.data.toList (⟨#[99,32]⟩:ByteArray).data.toList with
     | false=>
      have E:Hid (jg (g + 1) x.data.toList=none):=by
       unfold Hid;rw [r.out];unfold comment;rw [show Lib.hasPrefix y.data.toList [99,32]=false from c,<- ByteArray.toList_eq];simp at k;simp [k]
      have u:=hide c;clear c;go_wp2_with fail
      refine (Tryz.strings_HasPrefix y _ _).mono ?_;rintro e H ⟨rfl,rfl⟩;rw [u.out];go_wp2;go_ret2;exact ⟨⟨_,rfl⟩,_,.inl ⟨j.out.symm.trans E.out,rfl⟩⟩
     | true=>
      have E:Hid (jg (g + 1) x.data.toList=jg g z.data.toList):=by
       unfold Hid;rw [r.out];unfold comment;rw [show Lib.hasPrefix y.data.toList [99,32]=true from c];simp
      have u:=hide c;clear c;go_wp2_with fail
      refine (Tryz.strings_HasPrefix y _ _).mono ?_;rintro e H ⟨rfl,rfl⟩;rw [u.out];go_wp2;go_roundw
      case rel=>exact ⟨z,g,n + B,rfl,by omega,by omega,rfl,E.out.symm.trans j.out⟩
      case measure=>simpa [jZ] using d
    ·have i:(!y.toList == [99])=false:=by simpa using k
     clear k;have E:Hid (jg (g + 1) x.data.toList=jg g z.data.toList):=by
      unfold Hid;rw [r.out];unfold comment;rw [<- ByteArray.toList_eq];simp at i;simp [i]
     go_wp2;go_roundw
     case rel=>exact ⟨z,g,n + B,rfl,by omega,by omega,rfl,E.out.symm.trans j.out⟩
     case measure=>simpa [jZ] using d
abbrev kD:Bs:=[112,32,99,110,102,32]
def qX (l:Bs):Option (Bs × Bs × Bs):=
 if ended l && Lib.hasPrefix (line l) kD && (Lib.cut (Lib.trimPrefix (line l) kD) [32]).2.2 && gY (Lib.cut (Lib.trimPrefix (line l) kD) [32]).1 && gY (Lib.cut (Lib.trimPrefix (line l) kD) [32]).2.1
 then some ((Lib.cut (Lib.trimPrefix (line l) kD) [32]).1,(Lib.cut (Lib.trimPrefix (line l) kD) [32]).2.1,rest l) else none
theorem Qt (l a:Bs):(Lib.cut l a).1.length <= l.length:=by unfold Lib.cut;split <;> simp;omega
theorem Qr (l a:Bs):(Lib.cut l a).2.1.length <= l.length:=by unfold Lib.cut;split <;> simp
theorem Ef (l p:Bs):(Lib.trimPrefix l p).length <= l.length:=by unfold Lib.trimPrefix;split <;> simp
theorem GD {l y t a b:Bs} (c:y=if ended l then line l else l) (d:t=Lib.trimPrefix y kD) (e:a=(Lib.cut t [32]).1) (hb:b=(Lib.cut t [32]).2.1):
  (qX l).isSome=(ended l && Lib.hasPrefix y kD && (Lib.cut t [32]).2.2 && gY a && gY b):=by
 unfold qX
 cases g:ended l with
 | false=>rfl
 | true=>
  rw [g,if_pos rfl] at c;subst c d e hb;cases (true && Lib.hasPrefix (line l) kD && (Lib.cut (Lib.trimPrefix (line l) kD) [32]).2.2 && gY (Lib.cut (Lib.trimPrefix (line l) kD) [32]).1 && gY (Lib.cut (Lib.trimPrefix (line l) kD) [32]).2.1) <;> rfl
theorem Jr {l y z t a b:Bs} (e:y=if ended l then line l else l) (d:z=if ended l then rest l else []) (h:t=Lib.trimPrefix y kD) (i:a=(Lib.cut t [32]).1) (hb:b=(Lib.cut t [32]).2.1):
  ∀ o,qX l=some o->o=(a,b,z):=by
 intro o c;unfold qX at c
 cases g:ended l with
 | false=>rw [g] at c;simp at c
 | true=>
  rw [g,if_pos rfl] at e d;subst e d h i hb;split at c
  ·exact (Option.some.inj c).symm
  ·cases c
theorem zi (s:ByteArray) (m:Int) (w:World) (q:s.size <= 20000) (r:w.cell? ⟨0,0,none⟩=some (.int .i64 m)):
  Calls Tryz.prog 61 #[.string s] w fun e J=>(∃ n,J=w.drewN n)/\∃ a b z:ByteArray,e=.returned (.tuple #[.string a,.string b,.string z,.bool (qX s.data.toList).isSome])/\
   (∀ o,qX s.data.toList=some o->o=(a.data.toList,b.data.toList,z.data.toList))/\a.size <= 20000/\b.size <= 20000/\z.size <= 20000:=by
 go_enter Tryz.func61,Tryz.ntmps61
 go_wp2_with fail
 refine (Qq s m _ q r).mono ?_;rintro e U ⟨y,z,rfl,d,p,Y,rfl⟩;have L:y.size <= 20000:=by
  rw [oM d.out];split
  ·have:=Pz s.data.toList;simp at this;omega
  ·simpa using q
 have c:z.size <= 20000:=by
  rw [oM p.out];split
  ·simp [rest];omega
  ·simp
 go_wp2_with fail
 refine (Tryz.strings_CutPrefix y _ _).mono ?_;rintro e T ⟨rfl,rfl⟩;obtain ⟨t,g⟩:∃ t:ByteArray,t=⟨(Lib.trimPrefix y.data.toList (⟨#[112,32,99,110,102,32]⟩:ByteArray).data.toList).toArray⟩:=⟨_,rfl⟩;rw [<- g];have j:Hid (t.data.toList=Lib.trimPrefix y.data.toList kD):=by unfold Hid;rw [g]
 clear g;have M:t.size <= 20000:=by rw [oM j.out];have:=Ef y.data.toList kD;simp at this;omega
 cases C:Lib.hasPrefix y.data.toList (⟨#[112,32,99,110,102,32]⟩:ByteArray).data.toList
 all_goals
  have O:=hide C;clear C;go_wp2_with fail
  refine (Tryz.strings_Cut t _ m _ (by omega) (by exact r)).mono ?_;rintro e S ⟨rfl,W,rfl⟩;obtain ⟨a,i⟩:∃ a:ByteArray,a=⟨(Lib.cut t.data.toList (⟨#[32]⟩:ByteArray).data.toList).1.toArray⟩:=⟨_,rfl⟩;obtain ⟨b,hb⟩:∃ b:ByteArray,b=⟨(Lib.cut t.data.toList (⟨#[32]⟩:ByteArray).data.toList).2.1.toArray⟩:=⟨_,rfl⟩;rw [<- i,<- hb];have l:Hid (a.data.toList=(Lib.cut t.data.toList [32]).1):=by unfold Hid;rw [i]
  have k:Hid (b.data.toList=(Lib.cut t.data.toList [32]).2.1):=by unfold Hid;rw [hb]
  clear i hb;have has:a.size <= 20000:=by rw [oM l.out];have:=Qt t.data.toList [32];simp at this;omega
  have h:b.size <= 20000:=by rw [oM k.out];have:=Qr t.data.toList [32];simp at this;omega
  cases B:(Lib.cut t.data.toList (⟨#[32]⟩:ByteArray).data.toList).2.2
  all_goals
   have N:=hide B;clear B;cases D:ended s.data.toList
   all_goals
    have P:=hide D;clear D;cases x:gY a.data.toList
    all_goals
     have I:=hide x;clear x;cases u:gY b.data.toList
     all_goals
      have H:=hide u;clear u
      go_wp2_with (first | (go_at_call_of 105 (Value.string a);refine (kI a _ (by unfold maxLen;omega)).mono ?_;rintro e R ⟨rfl,rfl⟩;rw [I.out]) | (go_at_call_of 105 (Value.string b);refine (kI b _ (by unfold maxLen;omega)).mono ?_;rintro e Q ⟨rfl,rfl⟩;rw [H.out]))
      have E:=GD d.out j.out l.out k.out;rw [P.out,show Lib.hasPrefix y.data.toList kD=_ from O.out,show (Lib.cut t.data.toList [32]).2.2=_ from N.out,I.out,H.out] at E;refine bodyPost_ret (v:=.tuple #[.string a,.string b,.string z,.bool (qX s.data.toList).isSome]) (by rw [E];simp [results,Tryz.results61,go_sem]) rfl ⟨⟨_,rfl⟩,a,b,z,rfl,Jr d.out p.out j.out l.out k.out,has,h,c⟩
def bss (T:List ByteArray):List Bs:=T.map fun x=>x.data.toList
theorem Ra {T:List ByteArray} {k:Nat} (h:k < T.length):bss (T.take (k + 1))=bss (T.take k) ++ [T[k].data.toList]:=by
 rw [List.take_succ_eq_append_getElem h];unfold bss;rw [List.map_append];rfl
theorem xI (T:List Bs) (t:Bs):zeros (T ++ [t])=zeros T + if zero t then 1 else 0:=by
 unfold zeros;rw [List.filter_append];cases h:zero t <;> simp [h]
theorem Bu (T:List Bs) (t:Bs):lits (T ++ [t])=lits T + if zero t then 0 else 1:=by
 unfold lits;rw [List.filter_append];cases h:zero t <;> simp [h]
theorem yn (v:Bs) (T:List Bs) (t:Bs):kS v (T ++ [t])=(kS v T && (zero t || jC v t)):=by
 unfold kS;rw [List.all_append];simp
theorem tQ (T:List Bs):zeros T <= T.length:=by unfold zeros;exact List.length_filter_le _ _
theorem Kc (T:List Bs):lits T <= T.length:=by unfold lits;exact List.length_filter_le _ _
theorem LY {v:Bs} {T:List ByteArray} {k:Nat} (a:k < T.length) (h:(zero T[k].data.toList || jC v T[k].data.toList)=false):kS v (bss T)=false:=by
 rw [Bool.eq_false_iff];intro b;have:=List.all_eq_true.1 b T[k].data.toList (by simp only [bss,List.mem_map];exact ⟨T[k],List.getElem_mem a,rfl⟩);rw [h] at this;cases this
def jD (T:List Bs):Bool:=T.isEmpty || T.getLast? == some [48]
abbrev DW (v:ByteArray) (c l:Nat) (a:Option Addr) (n:Nat):Array Value:=#[.string v,.int .i64 c,.int .i64 l,.slice a n n]
theorem xe (T:List ByteArray) (v:ByteArray) (A:Nat) (w:World) (Q:T.length <= 20000) (z:∀ x ∈ T,x.size <= 20000) (O:v.size <= 20000) (W:A < w.heap.size)
  (y:∀ j (h:j < T.length),w.cell? ⟨A,j,none⟩=some (.string T[j])):
  Calls Tryz.prog 62 #[.slice (some ⟨A,0,none⟩) T.length T.length,.string v] w fun e G=>Below w.heap.size w G/\
   ((kS v.data.toList (bss T)=true/\e=.returned (.tuple #[.agg (DW v (zeros (bss T)) (lits (bss T)) (some ⟨A,0,none⟩) T.length),.bool (jD (bss T))])) \/
    (kS v.data.toList (bss T)=false/\e=.returned (.tuple #[.agg (DW ⟨#[]⟩ 0 0 none 0),.bool false]))):=by
 have C:=hide y;clear y;have u:=hide z;clear z;go_enter Tryz.func62,Tryz.ntmps62
 go_wp2;go_loopw [15] (fun i wr=>∃ k:Nat,k <= T.length/\i=.int .i64 k/\Hid (kS v.data.toList (bss (T.take k))=true)/\
   wr=(w.alloc (.cells (DW ⟨#[]⟩ 0 0 none 0) 72)).alloc (.cells (DW v (zeros (bss (T.take k))) (lits (bss (T.take k))) (some ⟨A,0,none⟩) T.length) 72)) (fun i _=>T.length - (intOf i).toNat)
 case atStart=>exact ⟨0,zl,rfl,rfl,rfl⟩
 case round=>
  obtain ⟨k,R,rfl,b,rfl⟩:=hrel;have N:=tQ (bss (T.take k));have M:=Kc (bss (T.take k));have L:(bss (T.take k)).length <= k:=by simp [bss];omega
  by_cases c:k < T.length
  ·have s:=C.out k c;have p:=u.out T[k] (List.getElem_mem c);have S:=hide (Ra c);obtain ⟨t,g⟩:∃ t,t=T[k]:=⟨_,rfl⟩;rw [<- g] at s p S
   have J:Hid ((zero t.data.toList || jC v.data.toList t.data.toList)=false->kS v.data.toList (bss T)=false):=fun h=>LY c (by rw [<- g];exact h)
   clear g
   cases B:(t.toList == [48]) with
   | true=>
    have Z:Hid (zero t.data.toList=true):=by unfold Hid zero;rw [<- ByteArray.toList_eq];exact B
    go_wp2;go_roundw
    case rel=>
     refine ⟨k + 1,by omega,by go_num,?_,?_⟩
     ·unfold Hid;rw [S.out,yn,b.out,Z.out];rfl
     ·rw [S.out,xI,Bu,Z.out];rfl
    case measure=>simp [intOf];omega
   | false=>
    have Z:Hid (zero t.data.toList=false):=by unfold Hid zero;rw [<- ByteArray.toList_eq];exact B
    cases o:jC v.data.toList t.data.toList with
    | true=>
     have l:=hide o;clear o;go_wp2_with fail
     refine (oN t v _ (by unfold maxLen;omega) (by unfold maxLen;omega)).mono ?_;rintro e D ⟨rfl,rfl⟩;rw [l.out];go_wp2;go_roundw
     case rel=>
      refine ⟨k + 1,by omega,by go_num,?_,?_⟩
      ·unfold Hid;rw [S.out,yn,b.out,Z.out,l.out];rfl
      ·rw [S.out,xI,Bu,Z.out];rfl
     case measure=>simp [intOf];omega
    | false=>
     have l:=hide o;clear o;go_wp2_with fail
     refine (oN t v _ (by unfold maxLen;omega) (by unfold maxLen;omega)).mono ?_;rintro e D ⟨rfl,rfl⟩;rw [l.out];go_wp2;have q:=J.out (by rw [Z.out,l.out];rfl);exact bodyPost_ret (v:=.tuple #[.agg (DW ⟨#[]⟩ 0 0 none 0),.bool false]) (by simp [results,Tryz.results62,go_sem]) rfl ⟨(bR.alloc lr _).alloc (by simp) _,.inr ⟨q,rfl⟩⟩
  ·have e:k=T.length:=by omega
   subst e;have a:=b.out;rw [List.take_of_length_le lr] at a ⊢;have d:=hide a;clear a b;by_cases m:T.length=0
   ·have hb:((T.length:Int) == 0)=true:=by simp [m]
    have E:Hid (jD (bss T)=true):=by unfold Hid jD bss;rw [List.eq_nil_of_length_eq_zero m];rfl
    clear m;go_wp2;exact bodyPost_ret (v:=.tuple #[.agg (DW v (zeros (bss T)) (lits (bss T)) (some ⟨A,0,none⟩) T.length),.bool (jD (bss T))]) (by rw [E.out];simp [results,Tryz.results62,go_sem]) rfl
     ⟨(bR.alloc lr _).alloc (by simp) _,.inl ⟨d.out,rfl⟩⟩
   ·have hb:((T.length:Int) == 0)=false:=by rw [beq_eq_false_iff_ne];omega
    have s:=C.out (T.length - 1) (by omega);have U:((T.length:Int) - 1).toNat=T.length - 1:=by omega
    have E:Hid (jD (bss T)=(T[T.length - 1].toList == [48])):=by
     unfold Hid jD;have r:(bss T) ≠ []:=by intro h;apply m;have:=congrArg List.length h;simpa [bss] using this
     have H:(bss T).getLast? = some T[T.length - 1].data.toList:=by
      rw [List.getLast?_eq_getElem?];simp [bss];exact ⟨T[T.length - 1],List.getElem?_eq_getElem (by omega),rfl⟩
     rw [H];have I:(bss T).isEmpty=false:=by simpa using r
     rw [I,ByteArray.toList_eq];simp
    obtain ⟨t,g⟩:∃ t,t=T[T.length - 1]:=⟨_,rfl⟩;rw [<- g] at s E;clear g;have P:0 < T.length:=by omega
    go_wp2;exact bodyPost_ret (v:=.tuple #[.agg (DW v (zeros (bss T)) (lits (bss T)) (some ⟨A,0,none⟩) T.length),.bool (jD (bss T))]) (by rw [E.out];simp [results,Tryz.results62,go_sem]) rfl
     ⟨(bR.alloc lr _).alloc (by simp) _,.inl ⟨d.out,rfl⟩⟩
end
end Rd
end Go.Proofs.YtceahffmenbibaaGreatDoor
