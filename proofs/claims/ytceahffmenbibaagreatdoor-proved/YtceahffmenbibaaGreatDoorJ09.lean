/- Slok Scle Sxpl Sxpw. -/
import Derived.Test.YtceahffmenbibaaGreatDoorJ08
set_option linter.unusedVariables false
set_option linter.unusedSimpArgs false
set_option maxHeartbeats 4000000
set_option maxRecDepth 100000
namespace Go.Proofs.YtceahffmenbibaaGreatDoor
namespace So
section
open Go Go.RowKit Go.Deep Rd
section
variable {Z:Nat->Prop} {sb ob hb K n:Nat} {w w':World} {f f' V V':Nat->Value} {X X':Nat->List Value} {gone:Nat->Prop} {Rs Ro:Nat->Prop} {tr ch:List Nat} {lev:Nat->Nat} {dB:Nat->Int} {cs:List Rec}
def WK (n:Nat) (V:Nat->Value) (X:Nat->List Value):Prop:=∀ x,x < 2 * n->(X 9)[x]? = some (V (16 + x))
theorem WK.congr {n:Nat} {V V':Nat->Value} {X X':Nat->List Value} (h:WK n V X) (c:X' 9=X 9) (b:∀ x,V' (16 + x)=V (16 + x)):WK n V' X':=fun x a=>by rw [c,b];exact h x a
structure eY (Z:Nat->Prop) (sb ob hb n:Nat) (w:World) (K:Nat) (f:Nat->Value) (X:Nat->List Value) (gone:Nat->Prop) (E:List Value) (pre:Int) (s:Lk) (f' V':Nat->Value) (X':Nat->List Value) (Rs Ro:Nat->Prop) (wr:World):Prop where
 duo:Duo Z sb ob hb n wr K f' V' X' gone Rs Ro
 x0:X' 0=E
 Dn:F9 n X' pre s.seen s.iR
 only:∀ j,j ≠ 0->j ≠ 7->j ≠ 10->X' j=X j
 ff:∀ j,j ≠ 15->f' j=f j
 fV:dD Z w wr
 wk:WK n V' X'
def wT (Z:Nat->Prop) (sb ob hb n:Nat) (w:World) (K:Nat) (f:Nat->Value) (X:Nat->List Value) (gone:Nat->Prop) (E:List Value) (pre:Int) (lev:Nat->Nat) (d:Nat) (s0:Lk) (lits:List Nat) (s5 s20:Value) (wr:World):Prop:=
 ∃ (i:Nat) (s:Lk) (f' V':Nat->Value) (X':Nat->List Value) (Rs Ro:Nat->Prop),s20=.int .i64 ((i:Nat):Int)/\s5=.int .i64 ((s.opn:Nat):Int)/\i <= lits.length/\Hid (s=(lits.take i).foldl (lU lev d) s0)/\Hid (eY Z sb ob hb n w K f X gone E pre s f' V' X' Rs Ro wr)
def wS (Z:Nat->Prop) (sb ob hb n:Nat) (w:World) (K:Nat) (f:Nat->Value) (X:Nat->List Value) (gone:Nat->Prop) (cs:List Rec) (k kd:Nat) (pre:Int) (lev:Nat->Nat) (d:Nat) (s0:Lk) (lits:List Nat) (e:Ending) (w':World):Prop:=
 ∃ (bs:Int) (f' V':Nat->Value) (X':Nat->List Value) (Rs Ro:Nat->Prop),e=.returned (.int .i64 (((lits.foldl (lU lev d) s0).opn:Nat):Int))/\eY Z sb ob hb n w K f X gone (ints (enc (cs.set k ⟨kd,bs,lits⟩))) pre (lits.foldl (lU lev d) s0) f' V' X' Rs Ro w'
variable {E:List Value} {pre:Int} {s:Lk} {wr wx:World}
theorem eY.later (h:eY Z sb ob hb n w K f X gone E pre s f' V' X' Rs Ro wr) (a:Below wr.heap.size wr wx):eY Z sb ob hb n w K f X gone E pre s f' V' X' Rs Ro wx:=
 { h with duo:=h.duo.later a,fV:=h.fV.trans (dD.of_below a) }
theorem eY.mark (h:eY Z sb ob hb n w K f X gone E pre s f' V' X' Rs Ro wr) {v:Nat} (l:v < n) {g c:Nat} (e:V' 10=.slice (some ⟨g,0,none⟩) n c) (d:zz Rs wr g) (k:Nat):eY Z sb ob hb n w K f X gone E pre ⟨eu s.seen v true,s.iR,k⟩ f' V' (upd X' 10 ((X' 10).set v (.bool true))) (fun b=>zz Rs wr b/\b < (wr.setCell ⟨g,v,none⟩ (.bool true)).heap.size) Ro (wr.setCell ⟨g,v,none⟩ (.bool true)):=by
 obtain ⟨q,p⟩:=h.duo.iL (h.duo.dM.set (k:=10) (by have:=h.duo.dM.hK;omega) e v (.bool true)) ((dD.refl _).setCell d _) rfl;exact ⟨q,by rw [cu _ _ (by decide)];exact h.x0,h.Dn.mark l,fun j o m a=>by rw [cu _ _ a];exact h.only j o m a,h.ff,h.fV.trans p,h.wk.congr (cu _ _ (by decide)) fun _=>rfl⟩
theorem eY.used (h:eY Z sb ob hb n w K f X gone E pre s f' V' X' Rs Ro wr) (a:iI (zz Ro wr) ob hb n wx gone) (b:dD (zz Ro wr) wr wx):eY Z sb ob hb n w K f X gone E pre s f' V' X' Rs (fun g=>zz Ro wr g/\g < wx.heap.size) wx:=by
 obtain ⟨d,c⟩:=h.duo.xw a b;exact ⟨d,h.x0,h.Dn,h.only,h.ff,h.fV.trans c,h.wk⟩
theorem eY.opn (h:eY Z sb ob hb n w K f X gone E pre s f' V' X' Rs Ro wr) (k:Nat):eY Z sb ob hb n w K f X gone E pre ⟨s.seen,s.iR,k⟩ f' V' X' Rs Ro wr:=⟨h.duo,h.x0,h.Dn,h.only,h.ff,h.fV,h.wk⟩
theorem eY.push (h:eY Z sb ob hb n w K f X gone E pre s f' V' X' Rs Ro wr) {obj:Obj} {v':Value} {w6:World} {y:Nat} (A:dz (wr.alloc obj) 0 3 1 (V' 7) (X' 7).length (X' 7) 1 [.int .i64 (y:Nat)] v' w6) (k:Nat):
  eY Z sb ob hb n w K f X gone E pre ⟨s.seen,s.iR ++ [y],k⟩ (upd f' 15 v') (upd V' 7 v') (upd X' 7 (X' 7 ++ [.int .i64 (y:Nat)])) (fun g=>zz Rs wr g/\g < (w6.setCell ⟨sb,15,none⟩ v').heap.size) Ro (w6.setCell ⟨sb,15,none⟩ v'):=by
 have o:=h.duo.dM.hK;obtain ⟨l,e⟩:=h.duo.iL (h.duo.dM.push (k:=7) (m:=1) (news:=[.int .i64 (y:Nat)]) (by omega) rfl A) (h.duo.dM.oV (k:=7) (by omega) A 15 v') (cu _ _ (by decide));exact ⟨l,by rw [cu _ _ (by decide)];exact h.x0,h.Dn.more y,fun j d b c=>by rw [cu _ _ b];exact h.only j d b c,fun j a=>by rw [cu _ _ a];exact h.ff j a,h.fV.trans e,h.wk.congr (cu _ _ (by decide)) fun x=>cu _ _ (by omega)⟩
theorem Ej {k:Nat} {s0:Lk} (D:Duo Z sb ob hb n w K f V X gone Rs Ro) (hn:n <= 50) (h0:X 0=ints (enc cs)) (hk:k < cs.length) (hN:(enc cs).length <= 1099511627776) (hT:ou n X tr ch lev dB) (hL:F9 n X pre s0.seen s0.iR) (ar:s0.opn=0) (q:∀ y ∈ (cs[k]).lits,y < 2 * n) (bd:ch.length <= 1000) (bb:s0.iR.length + (cs[k]).lits.length <= 1000) (hW:WK n V X):
  Calls Tryz.prog 182 #[.pointer (some ⟨sb,0,none⟩),.int .i64 (dU cs k:Nat)] w fun e w'=>wS Z sb ob hb n w K f X gone cs k (cs[k]).kind pre lev ch.length s0 (cs[k]).lits e w':=by
 obtain ⟨i0,hi,aM,aL,aK⟩:=info_parts Tryz.gB;have aZ:=kH hk;have ab:(X 0).length=(enc cs).length:=by rw [h0,mZ]
 have QU:=hide (Pf (dU cs k) (enc cs).length (cs[k]).busy D.dM ab (by omega) (by omega) (BM h0 (E5 hk)));have aH:Hid (∀ wu,Ih (zz Rs w) sb w K f V X (dU cs k) wu->∃ r X1 ai,eY Z sb ob hb n w K f X gone (ints (enc (cs.set k ⟨(cs[k]).kind,r,(cs[k]).lits⟩))) pre s0 f V X1 ai Ro wu):=fun wu ⟨hc,t,hs⟩=>by
  obtain ⟨d1,d2⟩:=D.iL hs hc rfl;refine ⟨t,_,_,d1,?_,hL.congr (cu _ _ (by decide)) (cu _ _ (by decide)),fun j h1 h2 h3=>cu _ _ h1,fun j hj=>rfl,d2,hW.congr (cu _ _ (by decide)) fun _=>rfl⟩;rw [cK,h0,ints_set,EZ hk]
 have HT:=hide hT;clear hW;have Q:Hid (∀ (r:Int) e w' f' V' X' Rs Ro,e=.returned (.int .i64 ((((cs[k]).lits.foldl (lU lev ch.length) s0).opn:Nat):Int))->eY Z sb ob hb n w K f X gone (ints (enc (cs.set k ⟨(cs[k]).kind,r,(cs[k]).lits⟩))) pre ((cs[k]).lits.foldl (lU lev ch.length) s0) f' V' X' Rs Ro w'->wS Z sb ob hb n w K f X gone cs k (cs[k]).kind pre lev ch.length s0 (cs[k]).lits e w'):=fun r e w' f' V' X' Rs Ro h1 h2=>⟨r,f',V',X',Rs,Ro,h1,h2⟩
 generalize wS Z sb ob hb n w K f X gone cs k (cs[k]).kind pre lev ch.length s0 (cs[k]).lits=RR at *
 go_enter Tryz.func182,Tryz.ntmps182
 go_upto_region 2 with (go_at_call 216;refine QU.out.mono ?_;rintro e7 w7 ⟨rfl,ap⟩;obtain ⟨r,X1,ai,aq⟩:=aH.out w7 ap;have S1:=hide aq;clear aq ap;simp only [])
 have ac:k < (cs.set k ⟨(cs[k]).kind,r,(cs[k]).lits⟩).length:=by simpa using hk
 have ag:dU (cs.set k ⟨(cs[k]).kind,r,(cs[k]).lits⟩) k=dU cs k:=nT (c:=⟨(cs[k]).kind,r,(cs[k]).lits⟩) hk rfl k;have aB:(cs.set k ⟨(cs[k]).kind,r,(cs[k]).lits⟩)[k]=⟨(cs[k]).kind,r,(cs[k]).lits⟩:=by simp
 have n1:(enc (cs.set k ⟨(cs[k]).kind,r,(cs[k]).lits⟩)).length=(enc cs).length:=EY (c:=⟨(cs[k]).kind,r,(cs[k]).lits⟩) hk rfl;have aT:=hide (Q.out r);generalize aw:cs.set k ⟨(cs[k]).kind,r,(cs[k]).lits⟩=u at *
 obtain ⟨g,c,e0,q0,ay,lg,ng,zg,r0,-,-,-,-⟩:=mU S1.out.duo.dM S1.out.x0 ac;have p:(u[k]).lits=(cs[k]).lits:=by rw [aB]
 rw [ag,p] at r0;have QL:Hid (∀ Y:World,Y.heap=w7.heap->Calls Tryz.prog 175 #[.pointer (some ⟨sb,2,none⟩),.int .i64 (dU cs k:Nat)] Y fun e w'=>e=.returned (jM g (dU cs k) (cs[k]).lits.length c)/\∃ j,w'=Y.drewN j):=fun Y hY=>ky sb 2 g (enc u).length c (dU cs k) (cs[k]).lits.length Y (by rw [show Y.cell? ⟨sb,2,none⟩=w7.cell? ⟨sb,2,none⟩ from World.cell?_of_block (a:=⟨sb,2,none⟩) (by rw [hY])];exact q0) (by omega) (by unfold maxLen;omega) ay (by rw [show Y.cell? ⟨g,dU cs k,none⟩=w7.cell? ⟨g,dU cs k,none⟩ from World.cell?_of_block (a:=⟨g,dU cs k,none⟩) (by rw [hY])];exact r0)
 have aW:Hid (∀ wr s f' V' X' Rs Ro,eY Z sb ob hb n w K f X gone (ints (enc u)) pre s f' V' X' Rs Ro wr->∀ i (hi:i < (cs[k]).lits.length),wr.cell? ⟨g,dU cs k + 3 + i,none⟩=some (.int .i64 ((cs[k]).lits[i]:Nat))):=fun wr s f' V' X' B C b i hi=>by
  have aS:V' 0=.slice (some ⟨g,0,none⟩) (enc u).length c:=by
   rw [<- b.duo.dM.hdr 0 (by omega),b.ff _ (by decide),<- S1.out.ff _ (by decide),S1.out.duo.dM.hdr 0 (by omega)];exact e0
  have:=mD b.duo.dM b.x0 aS ac (i:=i) (by rw [p];exact hi);rw [ag] at this;rw [this];simp only [p]
 have aC:Hid (∀ wr s f' V' X' Rs Ro,eY Z sb ob hb n w K f X gone (ints (enc u)) pre s f' V' X' Rs Ro wr->ou n X' tr ch lev dB):=fun wr s f' V' X' B C b=>HT.out.congr fun j h1 h2=>b.only j (by omega) (by omega) (by omega)
 rw [n1] at ay;have aV:=hide q;have aE:=hide ar;clear QU aH D h0 hT hL ac Q aB n1 aw q0 r0 ag p e0 ab q ar lg ng zg;generalize dU cs k=a at *
 generalize (cs[k]).lits=lits at *
 generalize enc u=J at *
 have la:Hid (lits.length ≠ 0->jM g a lits.length c=.slice (some ⟨g,a + 3,none⟩) lits.length (c - (a + 3))):=fun h=>by unfold jM;rw [if_neg (by omega)]
 obtain ⟨al,ad⟩:∃ al,jM g a lits.length c=.slice al lits.length (c - (a + 3)):=⟨_,rfl⟩;rw [ad] at QL;have AL:Hid (lits.length ≠ 0->al=some ⟨g,a + 3,none⟩):=fun h=>by
  have:=la.out h;rw [ad] at this;exact (Value.slice.inj this).1
 clear ad la;have a6:lits.length <= 1000:=by omega
 go_upto_region 3 with fail
 go_wp2_with (go_at_call 175;refine (QL.out _ (by rfl)).mono ?_;rintro e8 w8 ⟨rfl,j8,rfl⟩;simp only [])
 obtain ⟨W,hW⟩:∃ W,W=w7.drewN j8:=⟨_,rfl⟩;have S2:=hide (S1.out.later (wx:=W) (by rw [hW];exact Go.below_drewN bR _));rw [<- hW];clear hW S1 QL;go_loopw [5,7,8,20] (fun s5 _ _ S wr=>wT Z sb ob hb n w K f X gone (ints J) pre lev ch.length s0 lits s5 S wr) (fun _ _ _ S _=>lits.length - (intOf S).toNat)
 case atStart=>exact ⟨0,s0,f,V,X1,ai,Ro,rfl,by rw [aE.out];rfl,zl,by rw [List.take_zero];rfl,S2⟩
 case round=>
  clear S2;obtain ⟨i,s,f',V',X',B,C,rfl,rfl,bc,o,b⟩:=hrel;by_cases q:i < lits.length
  ·obtain rfl:=AL.out (by omega);have ax:=aW.out wr s f' V' X' B C b.out i q;have af:=aC.out wr s f' V' X' B C b.out;obtain ⟨y,hy⟩:∃ y,y=lits[i]:=⟨_,rfl⟩;rw [<- hy] at ax;have ba:y < 2 * n:=by rw [hy];exact aV.out _ (List.getElem_mem _)
   have aj:Hid (lU lev ch.length s y=(lits.take (i + 1)).foldl (lU lev ch.length) s0):=by
    unfold Hid;rw [List.take_add_one,List.getElem?_eq_getElem q,Option.toList_some,List.foldl_append,<- o.out,hy];rfl
   have QV:=hide (fun Y=>fB y Y (by omega));have M:y / 2 < n:=by omega
   obtain ⟨v,U⟩:∃ v,v=y / 2:=⟨_,rfl⟩;rw [<- U] at QV M;obtain ⟨aR,bg,a3,aA,ao,H,am,aI,ak,l10,a5⟩:=b.out.duo.dM.elem (k:=10) (j:=v) (by omega) b.out.Dn.n10 M;rw [show cellOf 10=16 from rfl] at ao;rw [b.out.Dn.t10 v M] at am;obtain rfl:=Option.some.inj am;obtain ⟨g4,c4,t4,e4,q4,r4,s4,-⟩:=b.out.duo.dM.elem (k:=4) (j:=v) (by omega) af.n4 M;rw [show cellOf 4=10 from rfl] at q4;rw [af.t4 v M] at s4;obtain rfl:=Option.some.inj s4;have LK:Hid (lU lev ch.length s y=if s.seen v=true\/lev v=0 then s else if lev v=ch.length then ⟨eu s.seen v true,s.iR,s.opn + 1⟩ else ⟨eu s.seen v true,s.iR ++ [y],s.opn⟩):=by unfold Hid lU;rw [<- U]
   have v0:(0:Int) <= (v:Int):=by omega
   have v1:(v:Int) < (n:Int):=by omega
   have a9:(0:Int) <= (i:Int):=by omega
   have a8:(i:Int) < (lits.length:Int):=by omega
   clear hy U e4;by_cases d:s.seen v=true\/lev v=0
   ·
    have R:Hid (∀ G,G=.int .i64 ((i + 1:Nat):Int)->wT Z sb ob hb n w K f X gone (ints J) pre lev ch.length s0 lits (.int .i64 ((s.opn:Nat):Int)) G wr):=fun G I=>⟨i + 1,s,f',V',X',B,C,I,rfl,q,by rw [<- aj.out,LK.out,if_pos d];rfl,b⟩
    rcases d with hs | hs
    ·rw [hs] at H;clear b LK;go_wp2_with (go_at_call 176;refine (QV.out _).mono ?_;rintro e9 w9 ⟨rfl,rfl⟩;simp only [])
     go_roundw
     case rel=>exact R.out _ (by go_num)
     case measure=>simp [intOf];omega
    ·rw [hs] at r4;by_cases aa:s.seen v=true
     ·rw [aa] at H;clear b LK;go_wp2_with (go_at_call 176;refine (QV.out _).mono ?_;rintro e9 w9 ⟨rfl,rfl⟩;simp only [])
      go_roundw
      case rel=>exact R.out _ (by go_num)
      case measure=>simp [intOf];omega
     ·rw [Bool.not_eq_true] at aa;rw [aa] at H;clear b LK;go_wp2_with (go_at_call 176;refine (QV.out _).mono ?_;rintro e9 w9 ⟨rfl,rfl⟩;simp only [])
      go_roundw
      case rel=>exact R.out _ (by go_num)
      case measure=>simp [intOf];omega
   ·
    have av:s.seen v=false:=by
     cases e:s.seen v with
     | false=>rfl
     | true=>exact absurd (.inl e) d
    have ab:lev v ≠ 0:=fun e=>d (.inr e)
    rw [av] at H;have S3:=hide (b.out.mark M aA ak s.opn);have C3:Hid (s.iR.length + 1 <= 1001):=by
     unfold Hid;have hh:∀ (l:List Nat) (t:Lk),(l.foldl (lU lev ch.length) t).iR.length <= t.iR.length + l.length:=by
      intro l
      induction l with
      | nil=>intro t;simp
      | cons z l ih=>
       intro t;have h1:=ih (lU lev ch.length t z);have h2:(lU lev ch.length t z).iR.length <= t.iR.length + 1:=by
        unfold lU;split
        ·omega
        ·split <;> simp
       simp only [List.foldl_cons,List.length_cons];omega
     have:=hh (lits.take i) s0;rw [<- o.out,List.length_take] at this;omega
    have aY:((lev v:Int) == 0)=false:=by simp;omega
    have O:Hid (lU lev ch.length s y=if lev v=ch.length then ⟨eu s.seen v true,s.iR,s.opn + 1⟩ else ⟨eu s.seen v true,s.iR ++ [y],s.opn⟩):=by unfold Hid;rw [LK.out,if_neg d]
    have aJ:Hid (s.opn <= 1000):=by
     unfold Hid;have hh:∀ (l:List Nat) (t:Lk),(l.foldl (lU lev ch.length) t).opn <= t.opn + l.length:=by
      intro l
      induction l with
      | nil=>intro t;simp
      | cons z l ih=>
       intro t;have h1:=ih (lU lev ch.length t z);have h2:(lU lev ch.length t z).opn <= t.opn + 1:=by
        unfold lU;split
        ·omega
        ·split <;> simp
       simp only [List.foldl_cons,List.length_cons];omega
     have:=hh (lits.take i) s0;rw [<- o.out,List.length_take,aE.out] at this;omega
    clear b LK d aA av af;go_upto_region 9 with (go_at_call 176;refine (QV.out _).mono ?_;rintro e9 w9 ⟨rfl,rfl⟩;simp only [])
    generalize aQ:w9.setCell ⟨aR,v,none⟩ (.bool true)=W3 at S3 ⊢;clear aQ ao H aI q4 r4 ax;have QO:=hide (Lr S3.out.duo.ord M hn);have an:=(S3.out.duo.dM.head 12 (by omega)).1;rw [S3.out.duo.f12] at an;have US:=hide (fun wx ho hc=>S3.out.used (wx:=wx) ho hc);clear S3;go_upto_region 10 with (go_at_call 217;refine QO.out.mono ?_;rintro eA wA ⟨rfl,az,au⟩;have S4:=hide (US.out wA au az);clear az au;simp only [])
    have N:=aC.out _ _ _ _ _ _ _ S4.out;obtain ⟨be,bf,t4,e4,q4,r4,s4,-⟩:=S4.out.duo.dM.elem (k:=4) (j:=v) (by omega) N.n4 M;rw [show cellOf 4=10 from rfl] at q4;rw [N.t4 v M] at s4;obtain rfl:=Option.some.inj s4;obtain ⟨a2,c2,e2⟩:=S4.out.duo.dM.fG.shape (k:=2) (by have:=S4.out.duo.dM.hK;omega);have q2:=(S4.out.duo.dM.hd (k:=2) (by omega)).1;rw [show cellOf 2=8 from rfl,e2,N.l2,dh] at q2;have QD:Hid (∀ j,Calls Tryz.prog 99 #[.pointer (some ⟨sb,6,none⟩)] (wA.drewN j) fun e w'=>e=.returned (.int .i64 (ch.length:Nat))/\w'=wA.drewN j):=fun j=>mH sb 6 ch.length c2 (wA.drewN j) a2 q2
    clear e4 e2 N QO US an;go_quiet ((go_at_call 99;exact Calls.quiet_of_same (QD.out _)))
    obtain ⟨P,ae⟩:∃ P,P=wA.drewN nq:=⟨_,rfl⟩;have x:=hide (S4.out.later (wx:=P) (by rw [ae];exact Go.below_drewN bR _));rw [<- ae];clear ae S4 q4 r4 q2 QD;by_cases hd:lev v=ch.length
    ·have R:Hid (∀ so G,so=.int .i64 ((s.opn + 1:Nat):Int)->G=.int .i64 ((i + 1:Nat):Int)->wT Z sb ob hb n w K f X gone (ints J) pre lev ch.length s0 lits so G P):=fun so G aO I=>⟨i + 1,⟨eu s.seen v true,s.iR,s.opn + 1⟩,_,_,_,_,_,I,aO,q,by rw [<- aj.out,O.out,if_pos hd];rfl,x.out.opn _⟩
     have aP:((lev v:Int) == (ch.length:Int))=true:=by simp [hd]
     have a4:(s.opn:Int) + 1 <= 1001:=by have:=aJ.out;omega
     clear x hd O;go_wp2;go_roundw
     case rel=>exact R.out _ _ (by go_num) (by go_num)
     case measure=>simp [intOf];omega
    ·have aP:((lev v:Int) == (ch.length:Int))=false:=by simp;omega
     obtain ⟨a7,c7,e7⟩:=x.out.duo.dM.fG.shape (k:=7) (by have:=x.out.duo.dM.hK;omega);have l7:∀ ah:Nat->List Value,F9 n ah pre (eu s.seen v true) s.iR->(ah 7).length=s.iR.length + 1:=fun ah h=>by rw [h.l7];simp [dh]
     have L:=l7 _ x.out.Dn;have q7:=(x.out.duo.dM.hd (k:=7) (by omega)).1;rw [show cellOf 7=15 from rfl,e7,L] at q7;have O7:=x.out.duo.dM.fG.own 7 (by have:=x.out.duo.dM.hK;omega);rw [e7,L] at O7;have aF:=hide O7;have E7:=hide e7;have L7:=hide L;have aX:=x.out.duo.dM.row.lt;have ns:¬ (sb=P.heap.size):=by omega
     have c3:=C3.out;have aD:=hide (fun obj v' w6 A=>x.out.push (obj:=obj) (v':=v') (w6:=w6) (y:=y) A s.opn);have aG:=hide (fun obj v' w6 A=>x.out.duo.dM.lu (k:=7) (ob:=obj) (v':=v') (w6:=w6) (m:=1) (news:=[.int .i64 (y:Nat)]) (by have:=x.out.duo.dM.hK;omega) A 15 (by omega));have R:Hid (∀ f6 V6 X6 R6 O6 W6,eY Z sb ob hb n w K f X gone (ints J) pre ⟨eu s.seen v true,s.iR ++ [y],s.opn⟩ f6 V6 X6 R6 O6 W6->∀ G,G=.int .i64 ((i + 1:Nat):Int)->wT Z sb ob hb n w K f X gone (ints J) pre lev ch.length s0 lits (.int .i64 ((s.opn:Nat):Int)) G W6):=fun f6 V6 X6 R6 O6 W6 hs G I=>⟨i + 1,⟨eu s.seen v true,s.iR ++ [y],s.opn⟩,f6,V6,X6,R6,O6,I,rfl,q,by rw [<- aj.out,O.out,if_neg hd];rfl,hs⟩
     clear x hd O O7 e7 l7 L;go_wp2_with (at_builtin;refine dF _ rfl _ _ 43 rfl 0 3 i0 (.int .i64 0) 1 8 Tryz.underlying43 hi aM aL aK rfl (by decide) _ _ _ rfl (aF.out.alloc (.cells #[.int .i64 (y:Int)] 3)) (.slice (some ⟨P.heap.size,0,none⟩) 1 1) 1 [.int .i64 (y:Int)] rfl (.inr ⟨⟨P.heap.size,0,none⟩,1,rfl,World.news_of_block (cs:=#[.int .i64 (y:Int)]) (t:=3) (fr:=(0,0)) (heap_alloc_new P _)⟩) rfl (by simp [Value.oneCell']) (by unfold maxLen;omega) (by omega) zl ?_)
     intro v6 w6 A6;have A7:=A6;rw [<- L7.out,<- E7.out] at A7;obtain ⟨k6,z6⟩:=aG.out _ _ _ A7;have S6:=hide (aD.out _ _ _ A7);obtain ⟨a1,a0,aN⟩:=dI A6.own;subst aN;have aU:=hide (R.out _ _ _ _ _ _ S6.out);clear A6 A7 S6 aD aG aF R;go_wp2;go_roundw
     case rel=>exact aU.out _ (by go_num)
     case measure=>simp [intOf];omega
  ·have ei:i=lits.length:=by omega
   have FR:=hide (aT.out (.returned (.int .i64 ((s.opn:Nat):Int))) wr f' V' X' B C (by rw [o.out,ei,List.take_length]) (by have:=b.out;rw [o.out,ei,List.take_length] at this;exact this));clear b o;go_wp2;exact FR.out
end
theorem rR (z:Value) (n:Nat):Builtin.zeroCells #[z] n=(List.replicate n z).toArray:=by
 unfold Builtin.zeroCells;apply Array.ext
 ·simp
 ·intro i b a;simp [Nat.mod_one]
theorem JN {P:Program} {w:World} {ot:TypeId} (t:TypeId) (elem:TypeId) (p:P.underlying t=some (.slice elem)) (i:TypeInfo) (r:P.info? elem=some i) (z:Value) (m:i.zero=some z) (h:z.cells=#[z]) (u:z.oneCell'=true)
  (g n cap:Nat) (a:Array Value) (c:TypeId) (l:w.heap[g]? = some (.cells a c (0,0))) (b:n + 1 <= a.size):
  ∃ w',(Builtin.clear_ #[t] ot #[.slice (some ⟨g,0,none⟩) (n + 1) cap]).run P w=.ok (.tuple #[]) w'/\w'.heap[g]? = some (.cells (splice a.toList 0 (List.replicate (n + 1) z)).toArray c (0,0))/\(∀ k,k ≠ g->w'.heap[k]? = w.heap[k]?)/\Below 0 w w':=by
 have j:=run_storeCells_at P g 0 c (List.replicate (n + 1) z) 0 a w l (by simpa using b) (fun v o=>by rw [List.eq_of_mem_replicate o];exact u);have d:(zeroValue elem).run P w=.ok z w:=by simp [zeroValue,typeInfo,r,m]
 refine ⟨w.setRow g (splice a.toList 0 (List.replicate (n + 1) z)).toArray,?_,setRow_heap w g _ _ c _ l,fun k q=>setRow_other w g k _ (fun e=>q (by first | exact e | exact e.symm)),below_setRow bR zl _⟩;simp only [Builtin.clear_];simp [run_underlying p,d,h,rR,Result.andThen];rw [j];simp [splice,Result.andThen]
theorem DY {P:Program} {w:World} {ot:TypeId} (t:TypeId) (elem:TypeId) (p:P.underlying t=some (.slice elem)) (i:TypeInfo) (r:P.info? elem=some i) (z:Value) (m:i.zero=some z) (h:z.cells=#[z]) (u:z.oneCell'=true)
  (g off n cap:Nat) (a:Array Value) (c:TypeId) (l:w.heap[g]? = some (.cells a c (0,0))) (b:off + (n + 1) <= a.size):
  ∃ w',(Builtin.clear_ #[t] ot #[.slice (some ⟨g,off,none⟩) (n + 1) cap]).run P w=.ok (.tuple #[]) w'/\w'.heap[g]? = some (.cells (splice a.toList off (List.replicate (n + 1) z)).toArray c (0,0))/\(∀ k,k ≠ g->w'.heap[k]? = w.heap[k]?)/\Below 0 w w':=by
 have j:=run_storeCells_at P g off c (List.replicate (n + 1) z) 0 a w l (by simpa using b) (fun v o=>by rw [List.eq_of_mem_replicate o];exact u);have d:(zeroValue elem).run P w=.ok z w:=by simp [zeroValue,typeInfo,r,m]
 refine ⟨w.setRow g (splice a.toList off (List.replicate (n + 1) z)).toArray,?_,setRow_heap w g _ _ c _ l,fun k q=>setRow_other w g k _ (fun e=>q (by first | exact e | exact e.symm)),below_setRow bR zl _⟩;simp only [Builtin.clear_];simp [run_underlying p,d,h,rR,Result.andThen];rw [j];simp [splice,Result.andThen]
section
def iC (cs cs':List Rec):Prop:=cs'.length=cs.length/\∀ k (h:k < cs.length) (h':k < cs'.length),(cs'[k]).kind=(cs[k]).kind/\(cs'[k]).lits=(cs[k]).lits
theorem iC.refl (cs:List Rec):iC cs cs:=⟨rfl,fun _ _ _=>⟨rfl,rfl⟩⟩
theorem iC.trans {a b c:List Rec} (h:iC a b) (e:iC b c):iC a c:=⟨e.1.trans h.1,fun k d o=>by
 have hb:k < b.length:=by rw [h.1];exact d
 obtain ⟨m,l⟩:=h.2 k d hb;obtain ⟨j,g⟩:=e.2 k hb o;exact ⟨j.trans m,g.trans l⟩⟩
theorem iC.set {cs:List Rec} {k:Nat} (a:k < cs.length) (b:Int):iC cs (cs.set k ⟨(cs[k]).kind,b,(cs[k]).lits⟩):=⟨by simp,fun j h c=>by
 by_cases e:k=j
 ·subst e;rw [List.getElem_set_self];exact ⟨rfl,rfl⟩
 ·rw [List.getElem_set_ne e];exact ⟨rfl,rfl⟩⟩
theorem iC.dU {cs cs':List Rec} (h:iC cs cs'):∀ k,k <= cs.length->dU cs' k=dU cs k
 | 0,_=>by rw [uq,uq]
 | k + 1,hk=>by
  have a:k < cs'.length:=by rw [h.1];exact hk
  rw [oZ a,oZ (show k < cs.length from hk),h.dU k (by omega),(h.2 k hk a).2]
theorem iC.len {cs cs':List Rec} (h:iC cs cs'):(enc cs').length=(enc cs).length:=by
 rw [<- lG lr,<- lG (cs:=cs) lr,h.1];exact h.dU _ lr
theorem iC.map {cs cs':List Rec} (h:iC cs cs'):mapOf cs'=mapOf cs:=by
 funext a
 cases j:mapOf cs a with
 | none=>
  cases m:mapOf cs' a with
  | none=>rfl
  | some d=>
   obtain ⟨k,e,g,_⟩:=fD m;have b:k < cs.length:=by rw [<- h.1];exact e
   rw [h.dU k (Nat.le_of_lt b)] at g;rw [g,eP b] at j;cases j
 | some c=>
  obtain ⟨k,e,g,l⟩:=fD j;have b:k < cs'.length:=by rw [h.1];exact e
  have:=eP b;rw [h.dU k (Nat.le_of_lt e),<- g,(h.2 k e b).1,(h.2 k e b).2] at this;rw [this,l]
theorem iC.xW {cs cs':List Rec} (h:iC cs cs'):xW cs'=xW cs:=by
 have:∀ (a b:List Rec),iC a b->So.xW b=So.xW a:=by
  intro a
  induction a with
  | nil=>intro b h;have:b=[]:=List.eq_nil_of_length_eq_zero (by rw [h.1];rfl);subst this;rfl
  | cons c r ih=>
   intro b h
   match b,h with
   | [],h=>have:=h.1;simp at this
   | c' :: r',h=>
    obtain ⟨e,d⟩:=h.2 0 (by simp) (by simp);simp only [List.getElem_cons_zero] at e d;have g:iC r r':=⟨by have:=h.1;simpa using this,fun k l j=>by
     have:=h.2 (k + 1) (by simpa using l) (by simpa using j);simpa using this⟩
    have:=ih r' g;unfold So.xW at this ⊢;simp only [List.filter_cons,e];split
    ·simp only [List.map_cons,d,this]
    ·exact this
 exact this cs cs' h
structure Gd (Z:Nat->Prop) (sb ob hb n:Nat) (w:World) (K:Nat) (f:Nat->Value) (X:Nat->List Value) (gone:Nat->Prop) (cs:List Rec) (tr ch:List Nat) (lev:Nat->Nat) (dB:Nat->Int) (last:Nat) (c0:List Nat) (i:Nat) (s:Lk) (cs':List Rec) (f' V':Nat->Value) (X':Nat->List Value) (Rs Ro:Nat->Prop) (wr:World):Prop where
 ex:wU tr ch lev (iU (mapOf cs) dB) last c0 i s
 look:eY Z sb ob hb n w K f X gone (ints (enc cs')) (-1) s f' V' X' Rs Ro wr
 busy:iC cs cs'
def Iu (Z:Nat->Prop) (sb ob hb n:Nat) (w:World) (K:Nat) (f:Nat->Value) (X:Nat->List Value) (gone:Nat->Prop) (cs:List Rec) (tr ch:List Nat) (lev:Nat->Nat) (dB:Nat->Int) (last:Nat) (c0:List Nat) (s4 s5:Value) (wr:World):Prop:=
 ∃ (i:Nat) (s:Lk) (cs':List Rec) (f' V':Nat->Value) (X':Nat->List Value) (Rs Ro:Nat->Prop),s5=.int .i64 ((i:Nat):Int)/\s4=.int .i64 ((s.opn:Nat):Int)/\Hid (Gd Z sb ob hb n w K f X gone cs tr ch lev dB last c0 (i + 1) s cs' f' V' X' Rs Ro wr)
def vF (Z:Nat->Prop) (sb ob hb n:Nat) (w:World) (K:Nat) (f:Nat->Value) (X:Nat->List Value) (gone:Nat->Prop) (cs:List Rec) (tr ch:List Nat) (lev:Nat->Nat) (dB:Nat->Int) (last:Nat) (c0:List Nat) (e:Ending) (w':World):Prop:=
 e=.returned (.tuple #[])/\∃ (i:Nat) (hi:i < tr.length) (s:Lk) (cs':List Rec) (f' V':Nat->Value) (X':Nat->List Value) (Rs Ro:Nat->Prop),wU tr ch lev (iU (mapOf cs) dB) last c0 (i + 1) s/\s.seen (tr[i] / 2)=true/\s.opn=1/\eY Z sb ob hb n w K f X gone (ints (enc cs')) (op tr[i]:Nat) s f' V' X' Rs Ro w'/\iC cs cs'
variable {Z:Nat->Prop} {sb ob hb K n:Nat} {w wr wx:World} {f f' V' f2 V2:Nat->Value} {X X' X2:Nat->List Value} {gone:Nat->Prop} {Rs Ro Vo Wq:Nat->Prop} {tr ch:List Nat} {lev:Nat->Nat} {dB:Nat->Int} {cs cs':List Rec} {last i:Nat} {c0:List Nat} {s:Lk}
theorem eY.comp {E k:List Value} {pre:Int} {b:Lk} (h:eY Z sb ob hb n w K f X gone E pre s f' V' X' Rs Ro wr) (a:eY Z sb ob hb n wr K f' X' gone k pre b f2 V2 X2 Vo Wq wx):eY Z sb ob hb n w K f X gone k pre b f2 V2 X2 Vo Wq wx:=
 ⟨a.duo,a.x0,a.Dn,fun j g e d=>(a.only j g e d).trans (h.only j g e d),fun j c=>(a.ff j c).trans (h.ff j c),h.fV.trans a.fV,a.wk⟩
theorem Gd.fin (h:Gd Z sb ob hb n w K f X gone cs tr ch lev dB last c0 (i + 1) s cs' f' V' X' Rs Ro wr) (l:i < tr.length) (d:s.seen (tr[i] / 2)=true) (e:s.opn=1) {g m c:Nat} (q:V' 7=.slice (some ⟨g,0,none⟩) m c) (b:zz Rs wr g):
  vF Z sb ob hb n w K f X gone cs tr ch lev dB last c0 (.returned (.tuple #[])) (wr.setCell ⟨g,0,none⟩ (.int .i64 (op tr[i]:Nat))):=by
 have u:=h.look.duo.dM.hK;obtain ⟨t,r⟩:=h.look.duo.iL (h.look.duo.dM.set (k:=7) (by omega) q 0 (.int .i64 (op tr[i]:Nat))) ((dD.refl _).setCell b _) rfl;refine ⟨rfl,i,l,s,cs',f',V',_,_,_,h.ex,d,e,⟨t,by rw [cu _ _ (by decide)];exact h.look.x0,⟨by rw [cu _ _ (by decide)];exact h.look.Dn.n10,by rw [cu _ _ (by decide)];exact h.look.Dn.t10,?_⟩,fun j p a o=>by rw [cu _ _ a];exact h.look.only j p a o,h.look.ff,h.look.fV.trans r,h.look.wk.congr (cu _ _ (by decide)) fun _=>rfl⟩,h.busy⟩;rw [cK,h.look.Dn.l7];rfl
theorem vF.later {e:Ending} (h:vF Z sb ob hb n w K f X gone cs tr ch lev dB last c0 e wr) (a:Below wr.heap.size wr wx):vF Z sb ob hb n w K f X gone cs tr ch lev dB last c0 e wx:=by
 obtain ⟨l,i,b,s,cs',f',V',X',Rs,Ro,k,j,g,d,c⟩:=h;exact ⟨l,i,b,s,cs',f',V',X',Rs,Ro,k,j,g,d.later a,c⟩
theorem ku {n:Nat} {l:List Nat} (h:(l.map (· / 2)).Nodup) (c:∀ x ∈ l,x < 2 * n):l.length <= n:=by
 have:=iP n (l.map (· / 2)) h (fun v b=>by
  obtain ⟨x,a,rfl⟩:=List.mem_map.1 b;have:=c x a;omega)
 simpa using this
theorem K5.len {d:Nat} (h:K5 tr lev d s) (b:jm n tr ch lev):s.iR.length <= n:=
 ku h.nd fun y a=>by
  have:=vP (b.lt _ ((h.iR y).1 a).1)
  rwa [jT] at this
theorem dX.Mt {V:Nat->Value} (h:dX Z sb w K f V X) {k:Nat} (F:k < 13) {a:Option Addr} {B cap c:Nat} (t:V k=.slice a B cap) (v:c <= (X k).length) {obj:Obj} {v':Value} {w6:World} {m:Nat} {news:List Value} (D:news.length=m) (A:dz (w.alloc obj) 0 (ni k) 1 (.slice a c cap) c ((X k).take c) m news v' w6):
  dX Z sb (w6.setCell ⟨sb,cellOf k,none⟩ v') K (upd f (cellOf k) v') (upd V k v') (upd X k ((X k).take c ++ news))/\dD Z w (w6.setCell ⟨sb,cellOf k,none⟩ v')/\∀ j,j < 22->w6.cell? ⟨sb,j,none⟩=some (f j)/\w6.frozen? ⟨sb,j,none⟩=false:=by
 have l:k < K:=by have:=h.hK;omega
 have o:=h.later ((Below.refl _ w).alloc lr obj);have z:∀ g,(Value.slice a c cap).ownBlock=some g->(V k).ownBlock=some g:=fun g b=>by rw [t];cases a <;> exact b
 have p:(Value.slice a c cap).ownBlock=(V k).ownBlock:=by rw [t];cases a <;> rfl
 have C:((X k).take c).length=c:=by rw [List.length_take];omega
 have H:=o.fG.cut l t v;have I:dz (w.alloc obj) 0 (ni k) 1 (upd V k (.slice a c cap) k) (upd X k ((X k).take c) k).length (upd X k ((X k).take c) k) m news v' w6:=by rw [cK,cK,C];exact A
 have y:=H.push l D I;rw [cK,gm,gm] at y;have x:=A.grew;rw [p] at x;have u:=o.row.of_block (x.block sb o.row.lt (fun e=>o.far l sb e.symm rfl));have r:v'.ownBlock=(V k).ownBlock\/v'.ownBlock=some (w.alloc obj).heap.size:=by
  rcases A.at' with d | d
  ·exact .inl (by rw [d,p])
  ·exact .inr d
 refine ⟨h.header F u y rfl (fun i q g b=>?_) (by have:=A.grew.size;simp at this;omega) (fun i q g b=>?_),(((dD.refl w).alloc obj).grown x (fun g b=>h.al k l g b)).setCell h.jA _,fun j G=>⟨u.cell G,u.frozen j⟩⟩
 ·by_cases e:i=k
  ·subst e;rw [cK] at b
   rcases r with d | d
   ·rw [d] at b;exact o.far q g b
   ·rw [d] at b;have:=Option.some.inj b;have:=o.row.lt;omega
  ·rw [cu _ _ e] at b;exact o.far q g b
 ·by_cases e:i=k
  ·subst e;rw [cK] at b
   rcases r with d | d
   ·rw [d] at b;exact h.al i q g b
   ·rw [d] at b;have:=Option.some.inj b;exact h.az g (by simp at this;omega)
  ·rw [cu _ _ e] at b;exact h.al i q g b
end
section
variable {Z:Nat->Prop} {sb ob hb K n:Nat} {w:World} {f V:Nat->Value} {X:Nat->List Value} {gone:Nat->Prop} {Rs Ro:Nat->Prop} {tr ch:List Nat} {lev:Nat->Nat} {dB:Nat->Int} {cs:List Rec}
theorem Tryz.NA:(Tryz.prog.info? 4).map (fun i=>(i.zero,i.size,i.bytes))=some (some (.bool false),1,1):=by kernel_rfl
theorem Ew {t:TypeId} {z:Value} {a b:Nat} (h:(Tryz.prog.info? t).map (fun i=>(i.zero,i.size,i.bytes))=some (some z,a,b)):∃ i,Tryz.prog.info? t=some i/\i.zero=some z:=by
 cases e:Tryz.prog.info? t with
 | none=>rw [e] at h;cases h
 | some i=>rw [e] at h;exact ⟨i,rfl,(Prod.mk.inj (Option.some.inj h)).1⟩
theorem ER {k:Nat} (D:Duo Z sb ob hb n w K f V X gone Rs Ro) (hn:n <= 50) (h0:X 0=ints (enc cs)) (hk:k < cs.length) (hN:(enc cs).length <= 1099511627776) (hT:ou n X tr ch lev dB) (ap:(X 10).length=n) (hW:WK n V X)
  (ht:jm n tr ch lev) (hr:rZ (mapOf cs) tr ch dB) (hc:Dr n (mapOf cs)) (hd:0 < ch.length) (hf:∀ y ∈ (cs[k]).lits,op y ∈ tr) {y0:Nat} (ay:y0 ∈ (cs[k]).lits) (bl:lev (y0 / 2)=ch.length):
  Calls Tryz.prog 141 #[.pointer (some ⟨sb,0,none⟩),.int .i64 (dU cs k:Nat)] w fun e w'=>vF Z sb ob hb n w K f X gone cs tr ch lev dB ch[ch.length - 1] (cs[k]).lits e w':=by
 have au:Hid (wU tr ch lev (iU (mapOf cs) dB) ch[ch.length - 1] (cs[k]).lits tr.length ((cs[k]).lits.foldl (lU lev ch.length) ⟨fun _=>false,[],0⟩)):=wU.start ht hd hf ay bl;have a4:Hid (∀ i s,wU tr ch lev (iU (mapOf cs) dB) ch[ch.length - 1] (cs[k]).lits (i + 1) s->∀ (hi:i < tr.length),s.seen (tr[i] / 2)=true->s.opn ≠ 1->∃ a c r,dB (tr[i] / 2)=(a:Nat)/\mapOf cs a=some c/\c.lits=tr[i] :: r/\∃ more,(c.lits.foldl (lU lev ch.length) ⟨s.seen,s.iR,0⟩).opn=more/\wU tr ch lev (iU (mapOf cs) dB) ch[ch.length - 1] (cs[k]).lits i ⟨(c.lits.foldl (lU lev ch.length) ⟨s.seen,s.iR,0⟩).seen,(c.lits.foldl (lU lev ch.length) ⟨s.seen,s.iR,0⟩).iR,s.opn + more - 1⟩):=fun i s he hi hs ho=>by
  obtain ⟨a,c,r,u,h2,h3,h4,h5,h6⟩:=Bu (hr.why i hi (he.forced ht hd ho));obtain ⟨more,m1,m2⟩:=he.step ht hd hi hs ho h5 h4 h6;exact ⟨a,c,r,u,h2,h4,more,m1,m2⟩
 obtain ⟨last,o⟩:∃ last,last=ch[ch.length - 1]:=⟨_,rfl⟩;rw [<- o] at au a4 ⊢;obtain ⟨i0,hi,bg,bf,be⟩:=info_parts Tryz.gB;obtain ⟨ib,bm,bd⟩:=Ew Tryz.NA;have hK:=D.dM.hK;have tl:=ht.len;have dl:=ht.depth;have bS:1 <= n:=by omega
 obtain ⟨n',al⟩:∃ n',n=n' + 1:=⟨n - 1,by omega⟩;obtain ⟨ae,aO,af,d,-,p,ac⟩:=D.dM.fG.block (k:=10) (by omega) (by omega);have bC:n <= af.size:=by
  have:=D.dM.fG.own 10 (by omega);rw [d] at this
  rcases this.2 with ⟨e,_⟩ | ⟨g',aN,aM,e,_,J,bj,_,aB,_⟩
  ·cases e
  ·cases e
   rw [p] at J;cases J;omega
 have Q:=(D.dM.hd (k:=10) (by omega)).1;rw [show cellOf 10=16 from rfl,d,ap] at Q;rw [ap] at d;have a5:Hid (∀ l,l.heap[ae]? = some (.cells (splice af.toList 0 (List.replicate (n' + 1) (.bool false))).toArray 4 (0,0))->(∀ k,k ≠ ae->l.heap[k]? = w.heap[k]?)->Below 0 w l->∃ z,Duo Z sb ob hb n l K f V (upd X 10 (List.replicate n (.bool false))) gone z Ro/\dD Z w l):=fun l q1 q2 q3=>by
  obtain ⟨G,c1⟩:=D.dM.CE (k:=10) (R:=List.replicate n (.bool false)) (by omega) d (by
   rw [d,List.length_replicate];have ho:=D.dM.fG.own 10 (by omega);rw [d] at ho;refine ⟨by simp,?_⟩
   rcases ho.2 with ⟨e,_⟩ | ⟨g',aN,aM,e,bn,J,bj,hm,aB,bQ⟩
   ·cases e
   ·cases e
    rw [p] at J;cases J
    refine .inr ⟨ae,aO,_,rfl,bn,q1,by omega,hm,?_,?_⟩
    ·simp only [List.size_toArray];rw [length_splice _ _ _ (by simp;omega)];simpa using aB
    ·simp only [Nat.mul_one];unfold splice;rw [<- al];simp) q2 q3
  obtain ⟨d1,d2⟩:=D.iL G c1 rfl;exact ⟨_,d1,d2⟩
 have L:Hid (∀ w2 f2 V2 X2 R2 O2 (s2:Lk) C f3 V3 X3 R3 O3 w3,eY Z sb ob hb n w K f X gone (ints (enc cs)) (-1) ⟨fun _=>false,[],0⟩ f2 V2 X2 R2 O2 w2->eY Z sb ob hb n w2 K f2 X2 gone (ints (enc (cs.set k ⟨(cs[k]).kind,C,(cs[k]).lits⟩))) (-1) ((cs[k]).lits.foldl (lU lev ch.length) ⟨fun _=>false,[],0⟩) f3 V3 X3 R3 O3 w3->Gd Z sb ob hb n w K f X gone cs tr ch lev dB last (cs[k]).lits tr.length ((cs[k]).lits.foldl (lU lev ch.length) ⟨fun _=>false,[],0⟩) (cs.set k ⟨(cs[k]).kind,C,(cs[k]).lits⟩) f3 V3 X3 R3 O3 w3):=fun w2 f2 V2 X2 R2 O2 s2 C f3 V3 X3 R3 O3 w3 u h2=>⟨au.out,u.comp h2,iC.set hk C⟩
 have bk:(cs[k]).lits.length <= n:=ku (hc.vars _ _ (eP hk)) (hc.lt _ _ (eP hk));have ah:∀ y ∈ (cs[k]).lits,y < 2 * n:=hc.lt _ _ (eP hk);have aS:Hid (∀ w2 f2 V2 X2 R2 O2,eY Z sb ob hb n w K f X gone (ints (enc cs)) (-1) ⟨fun _=>false,[],0⟩ f2 V2 X2 R2 O2 w2->Calls Tryz.prog 182 #[.pointer (some ⟨sb,0,none⟩),.int .i64 (dU cs k:Nat)] w2 fun e w'=>wS Z sb ob hb n w2 K f2 X2 gone cs k (cs[k]).kind (-1) lev ch.length ⟨fun _=>false,[],0⟩ (cs[k]).lits e w'):=fun w2 f2 V2 X2 R2 O2 u=>Ej u.duo hn u.x0 hk hN (hT.congr fun j h2 h3=>u.only j (by omega) (by omega) (by omega)) u.Dn rfl ah (by omega) (by simp;omega) u.wk
 have M:Hid (∀ l z,Duo Z sb ob hb n l K f V (upd X 10 (List.replicate n (.bool false))) gone z Ro->dD Z w l->∃ O N m7,l.cell? ⟨sb,15,none⟩=some (.slice O m7 N)/\m7=(X 7).length/\l.ownsRow 0 3 1 (.slice O 0 N) 0 []/\sb < l.heap.size/\∀ ai v' w6,dz (l.alloc ai) 0 3 1 (.slice O 0 N) 0 [] 1 [.int .i64 (-1)] v' w6->(w6.cell? ⟨sb,15,none⟩=some (.slice O m7 N)/\w6.frozen? ⟨sb,15,none⟩=false)/\∃ f2 V2 X2 R2,eY Z sb ob hb n w K f X gone (ints (enc cs)) (-1) ⟨fun _=>false,[],0⟩ f2 V2 X2 R2 Ro (w6.setCell ⟨sb,15,none⟩ v')):=fun l z D1 C1=>by
  obtain ⟨O,N,e7⟩:=D1.dM.fG.shape (k:=7) (by omega);rw [cu _ _ (by decide)] at e7;have q7:=(D1.dM.hd (k:=7) (by omega)).1;rw [show cellOf 7=15 from rfl,e7] at q7;have ow:=(D1.dM.fG.cut (k:=7) (by omega) e7 (m:=0) zl).own 7 (by omega);rw [cK,cK,List.take_zero] at ow;refine ⟨O,N,_,q7,rfl,ow,D1.dM.row.lt,fun ai v' w6 A=>?_⟩;have A':dz (l.alloc ai) 0 (ni 7) 1 (.slice O 0 N) 0 ((upd X 10 (List.replicate n (.bool false)) 7).take 0) 1 [.int .i64 (-1)] v' w6:=by rw [List.take_zero];exact A
  obtain ⟨p1,p2,p3⟩:=D1.dM.Mt (k:=7) (by omega) e7 zl (m:=1) (news:=[.int .i64 (-1)]) rfl A';obtain ⟨d1,d2⟩:=D1.iL p1 p2 (cu _ _ (by decide));have q6:=p3 15 (by omega);have aE:f 15=.slice O (X 7).length N:=by
   have:=D1.dM.hdr 7 (by omega);rw [e7] at this;exact this
  rw [aE] at q6;refine ⟨q6,_,_,_,_,⟨d1,by rw [cu _ _ (by decide),cu _ _ (by decide)];exact h0,⟨by rw [cu _ _ (by decide),cK];simp,fun v hv=>by rw [cu _ _ (by decide),cK,List.getElem?_replicate,if_pos hv],by rw [cK,List.take_zero];rfl⟩,fun j u h2 h3=>by rw [cu _ _ h2,cu _ _ h3],fun j hj=>cu _ _ hj,C1.trans d2,hW.congr (by rw [cu _ _ (by decide),cu _ _ (by decide)]) fun x=>cu _ _ (by omega)⟩⟩
 have aY:=hide p;have aU:=hide (ht.len);have HR:=hide hr;have aV:=hide ht;have aZ:=hide hc;have bt:=hide hT;have bW:=hide al;have ao:n' + 1 <= af.size:=by omega
 rw [al] at Q;generalize aK:vF Z sb ob hb n w K f X gone cs tr ch lev dB last (cs[k]).lits=RR;have aX:=hide aK;have bv:=hide o;clear D ap hW d ac p hr ht hc hT hf ay h0 aK ah au o;obtain ⟨W1,aC,H1,H2,H3⟩:=JN (P:=Tryz.prog) (w:=w) (ot:=0) 26 4 Tryz.underlying26 ib bm (.bool false) bd rfl rfl ae n' aO af 4 aY.out ao;obtain ⟨z,aG,aI⟩:=a5.out W1 H1 H2 H3;obtain ⟨O,N,m7,q7,-,ax,bH,a6⟩:=M.out W1 z aG aI;have aT:=hide ax;have a0:=hide a6;have bJ:¬ (sb=W1.heap.size):=by omega
 clear aG aI H1 H2 H3 a5 M ax a6;go_enter Tryz.func141,Tryz.ntmps141
 go_upto_region 1 with fail
 go_wp2_with (at_builtin;refine dF _ rfl _ _ 43 rfl 0 3 i0 (.int .i64 0) 1 8 Tryz.underlying43 hi bg bf be rfl (by decide) (.slice O 0 N) 0 [] rfl (aT.out.alloc (.cells #[.int .i64 (-1)] 3)) (.slice (some ⟨W1.heap.size,0,none⟩) 1 1) 1 [.int .i64 (-1)] rfl (.inr ⟨⟨W1.heap.size,0,none⟩,1,rfl,World.news_of_block (cs:=#[.int .i64 (-1)]) (t:=3) (fr:=(0,0)) (heap_alloc_new W1 _)⟩) rfl (by simp [Value.oneCell']) (by unfold maxLen;omega) (by omega) zl ?_)
 intro v6 w6 A6;obtain ⟨⟨q6,z6⟩,f2,V2,X2,R2,ad⟩:=a0.out _ _ _ A6;obtain ⟨ba,a9,bh⟩:=dI A6.own;subst bh;have L2:=hide ad;have B:=hide (aS.out _ _ _ _ _ _ ad);have aq:=hide (fun s2 C f3 V3 X3 R3 O3 w3=>L.out _ _ _ _ _ _ s2 C f3 V3 X3 R3 O3 w3 ad);clear A6 ad a0 aT aS L q7 aC;go_upto_region 2 with fail
 generalize bo:w6.setCell ⟨sb,15,none⟩ (.slice ba (0 + 1) a9)=W2 at *
 clear bo q6 z6;generalize aA:(cs[k]).lits.foldl (lU lev ch.length) ⟨fun _=>false,[],0⟩=s0 at aq;have ar:=hide aA;clear aA;go_upto_region 3 with (go_at_call 182;refine B.out.mono ?_;rintro e7 w7 ⟨C,f3,V3,X3,R3,O3,rfl,an⟩;rw [ar.out] at an;rw [ar.out];have E3:=hide (aq.out s0 C f3 V3 X3 R3 O3 w7 an);clear an;simp only [])
 have aP:Hid (∀ wr s cs' i f' V' X' Rs Ro,Gd Z sb ob hb n w K f X gone cs tr ch lev dB last (cs[k]).lits i s cs' f' V' X' Rs Ro wr->ou n X' tr ch lev dB):=fun wr s cs' i f' V' X' aQ aR b=>bt.out.congr fun j u h2=>b.look.only j (by omega) (by omega) (by omega)
 obtain ⟨j0,ab,-⟩:=E3.out.ex.more;have aJ:=aP.out _ _ _ _ _ _ _ _ _ E3.out;obtain ⟨a1,c1,e1⟩:=E3.out.look.duo.dM.fG.shape (k:=1) (by omega);have q1:=(E3.out.look.duo.dM.hd (k:=1) (by omega)).1;rw [show cellOf 1=6 from rfl,e1,aJ.l1,dh,ab] at q1;rw [ab] at E3;have bL:(j0:Int) + 1 <= 50:=by have:=aU.out;omega
 have bX:=hide ab;clear B aq L2 e1 aJ ab tl;go_wp2_with fail
 generalize bD:(cs[k]).lits=c0 at *
 go_loopw [4,5,6,7,8] (fun s4 s5 _ _ _ wr=>Iu Z sb ob hb n w K f X gone cs tr ch lev dB last c0 s4 s5 wr) (fun _ s5 _ _ _ _=>(intOf s5).toNat)
 case atStart=>exact ⟨j0,s0,_,f3,V3,X3,R3,O3,by go_num,rfl,E3⟩
 case round=>
  clear E3 q1 ar;obtain ⟨i,s,cs',f',V',X',aQ,aR,rfl,rfl,b⟩:=hrel;have bB:=b.out.ex.VT;have I:i < tr.length:=by omega
  have h:=aP.out _ _ _ _ _ _ _ _ _ b.out;have l1:(X' 1).length=tr.length:=by rw [h.l1,dh]
  obtain ⟨g1,bV,t1,e1,q1,r1,G,-⟩:=b.out.look.duo.dM.elem (k:=1) (j:=i) (by omega) l1 I;rw [show cellOf 1=6 from rfl] at q1;rw [h.l1,iZ _ _ I] at G;obtain rfl:=Option.some.inj G;obtain ⟨x,hx⟩:∃ x,x=tr[i]:=⟨_,rfl⟩;rw [<- hx] at r1;have bP:x < 2 * n:=by rw [hx];exact aV.out.lt _ (List.getElem_mem _)
  have QV:=hide (fun Y=>fB x Y (by omega));obtain ⟨v,aj⟩:∃ v,v=x / 2:=⟨_,rfl⟩;have hv:v < n:=by omega
  rw [<- aj] at QV;have ag:Hid (tr[i] / 2=v):=by unfold Hid;rw [aj,hx]
  have HX:=hide hx;obtain ⟨bE,bF,bG,d,Q,aw,av,-⟩:=b.out.look.duo.dM.elem (k:=10) (j:=v) (by omega) b.out.look.Dn.n10 hv;rw [show cellOf 10=16 from rfl] at Q;rw [b.out.look.Dn.t10 v hv] at av;obtain rfl:=Option.some.inj av;have bO:(0:Int) <= (i:Int):=by omega
  have bN:(i:Int) < (tr.length:Int):=by omega
  have bM:(i:Int) <= 50:=by have:=aU.out;omega
  have v0:(0:Int) <= (v:Int):=by omega
  have v1:(v:Int) < (n:Int):=by omega
  clear hx aj e1 d l1;by_cases q:s.seen v=true
  ·rw [q] at aw;by_cases U:s.opn=1
   ·
    have l7:(X' 7).length=s.iR.length + 1:=by rw [b.out.look.Dn.l7];simp [dh]
    obtain ⟨g7,bU,t7,e7,q7,r7,s7,z7,a8,bK,n7⟩:=b.out.look.duo.dM.elem (k:=7) (j:=0) (by omega) l7 (by omega);rw [show cellOf 7=15 from rfl] at q7;have a3:=hide (b.out.fin I (by rw [ag.out];exact q) U e7 a8);rw [aX.out,<- HX.out] at a3;have a2:Hid (∀ W,Below (wr.setCell ⟨g7,0,none⟩ (.int .i64 (op x:Nat))).heap.size (wr.setCell ⟨g7,0,none⟩ (.int .i64 (op x:Nat))) W->RR (.returned (.tuple #[])) W):=fun W hW=>by
     have:=a3.out;rw [<- aX.out] at this ⊢;exact this.later hW
    have bq:=hide (fun Y=>ko x Y (by omega));have bx:(0:Int) < (s.iR.length:Int) + 1:=by omega
    rw [U];clear b e7 s7 l7 h;generalize op x=ox at *
    go_upto_region 9 with (go_at_call 176;refine (QV.out _).mono ?_;rintro e9 w9 ⟨rfl,rfl⟩;simp only [])
    go_region_with (go_at_call 139;refine (bq.out _).mono ?_;rintro eA wA ⟨rfl,rfl⟩;simp only [])
    all_goals
     go_wp2
     first | go_end0 | refine bodyPost_ret (results_none rfl _ _ _) rfl ?_
     exact a2.out _ bR.drew
   ·
    have aF:=a4.out i s (by have:=b.out.ex;exact this) I (by rw [ag.out];exact q) U;obtain ⟨a,c,rr,ha,hC,aH,more,aa,g⟩:=aF;rw [<- bv.out] at g;obtain ⟨m,hm,-⟩:=g.more;rw [<- b.out.busy.map] at hC;obtain ⟨k',aD,rfl,rfl⟩:=fD hC;simp only at aH aa g;rw [ag.out] at ha;have aL:(enc cs').length <= 1099511627776:=by rw [b.out.busy.len];exact hN
    have H:∀ y ∈ (cs'[k']).lits,y < 2 * n:=fun y hy=>aZ.out.lt _ _ (by rw [<- b.out.busy.map];exact hC) y hy
    have bT:(cs'[k']).lits.length <= n:=ku (aZ.out.vars _ _ (by rw [<- b.out.busy.map];exact hC)) H;have bA:=b.out.ex.lk.len aV.out;have B:=hide (Ej (k:=k') (s0:=⟨s.seen,s.iR,0⟩) b.out.look.duo hn b.out.look.x0 aD aL h b.out.look.Dn rfl H (by omega) (by simp only;omega) b.out.look.wk);obtain ⟨g5,c5,t5,e5,q5,r5,s5,-⟩:=b.out.look.duo.dM.elem (k:=5) (j:=v) (by omega) h.n5 hv;rw [show cellOf 5=11 from rfl] at q5;rw [h.t5 v hv,ha] at s5;obtain rfl:=Option.some.inj s5;generalize az:(cs'[k']).lits.foldl (lU lev ch.length) ⟨s.seen,s.iR,0⟩=G at B aa g;have aW:=hide az;have NX:Hid (∀ (C:Int) f4 V4 X4 R4 O4 w4,eY Z sb ob hb n wr K f' X' gone (ints (enc (cs'.set k' ⟨(cs'[k']).kind,C,(cs'[k']).lits⟩))) (-1) G f4 V4 X4 R4 O4 w4->∀ so sv,so=.int .i64 ((s.opn + more - 1:Nat):Int)->sv=.int .i64 ((m:Nat):Int)->Iu Z sb ob hb n w K f X gone cs tr ch lev dB last c0 so sv w4):=fun C f4 V4 X4 R4 O4 w4 hL so sv bi ak=>⟨m,⟨G.seen,G.iR,s.opn + more - 1⟩,_,f4,V4,X4,R4,O4,ak,bi,by rw [hm] at g;exact g,(b.out.look.comp hL).opn _,b.out.busy.trans (iC.set aD C)⟩
    have im:(i:Int) - 1=(m:Int):=by omega
    have mi:m < i:=by omega
    have bz:=b.out.ex.pos;have bI:s.opn <= 51:=by
     rw [b.out.ex.cnt];have:lT tr last (i + 1) s.seen <= i + 1:=by
      unfold lT;have:=List.length_filter_le (fun j=>decide (last <= j) && s.seen (vr tr j)) (List.range (i + 1));simpa using this
     omega
    have bw:s.opn + more - 1 <= 51:=by
     have u:=g.cnt;have:lT tr last i G.seen <= i:=by
      unfold lT;have:=List.length_filter_le (fun j=>decide (last <= j) && G.seen (vr tr j)) (List.range i);simpa using this
     simp only at u;omega
    have om:Hid ((s.opn:Int) + ((more:Int) - 1)=((s.opn + more - 1:Nat):Int)):=by unfold Hid;omega
    have o1:((s.opn:Int) == 1)=false:=by simp;omega
    have bc:(0:Int) <= (more:Int):=by omega
    have bb:(more:Int) <= 52:=by omega
    have bu:Hid (G.opn=more):=aa;clear b g hm h hC aH az H aL U ha e5 aa;go_upto_region 11 with (first
     |(go_at_call 176;refine (QV.out _).mono ?_;rintro e9 w9 ⟨rfl,rfl⟩;simp only [])
     |(go_at_call 182;refine B.out.mono ?_;rintro eA wA ⟨bp,f4,V4,X4,R4,O4,rfl,am⟩;rw [aW.out] at am;rw [aW.out,bu.out];have br:=hide (NX.out bp f4 V4 X4 R4 O4 wA am);clear am;simp only []))
    clear B NX;go_wp2;go_roundw
    case rel=>exact br.out _ _ (by rw [<- om.out]) (by go_num)
    case measure=>simp [intOf];omega
  ·rw [Bool.not_eq_true] at q;rw [q] at aw;have S:=b.out.ex.skip (by rw [vH I,ag.out];exact q);obtain ⟨m,hm,-⟩:=S.more;have NX:Hid (∀ sv,sv=.int .i64 ((m:Nat):Int)->Iu Z sb ob hb n w K f X gone cs tr ch lev dB last c0 (.int .i64 ((s.opn:Nat):Int)) sv wr):=fun sv ak=>⟨m,s,cs',f',V',X',aQ,aR,ak,rfl,by rw [hm] at S;exact S,b.out.look,b.out.busy⟩
   have im:(i:Int) - 1=(m:Int):=by omega
   have mi:m < i:=by omega
   clear b S hm h;go_wp2_with (go_at_call 176;refine (QV.out _).mono ?_;rintro e9 w9 ⟨rfl,rfl⟩;simp only [])
   go_roundw
   case rel=>exact NX.out _ (by go_num)
   case measure=>simp [intOf];omega
end
end
end So
end Go.Proofs.YtceahffmenbibaaGreatDoor
