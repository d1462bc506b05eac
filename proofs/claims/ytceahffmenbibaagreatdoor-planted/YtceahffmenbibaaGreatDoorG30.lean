/- Swri. -/
import Derived.Test.YtceahffmenbibaaGreatDoorG29
set_option linter.unusedVariables false
set_option linter.unusedSimpArgs false
set_option maxHeartbeats 4000000
set_option maxRecDepth 100000
namespace Go.Proofs.YtceahffmenbibaaGreatDoor
namespace So
section
open Go Go.RowKit Go.Deep Rd
variable {Z:Nat->Prop} {sb ob hb kb K n:Nat} {w w':World} {f f' V V':Nat->Value} {X X':Nat->List Value} {gone gB:Nat->Prop} {Rs Ro ko vB Rd Rk:Nat->Prop} {l l':List UInt8}
theorem aQ.UY (h:aQ Z sb w K f V X) {u:Value} {xs:List Value} (hF:oU 0 w K iC (upd V 12 u) (upd X 12 xs)) (hu:u.ownBlock=(V 12).ownBlock) {v':Value} {w6:World} {news:List Value} (A:cz w u xs.length xs news v' w6):
  aQ Z sb (w6.setCell ⟨sb,1,none⟩ v') K (upd f 1 v') (upd V 12 v') (upd X 12 (xs ++ news))/\aC Z w (w6.setCell ⟨sb,1,none⟩ v')/\(∀ j,j < 22->w6.cell? ⟨sb,j,none⟩=some (f j)/\w6.frozen? ⟨sb,j,none⟩=false)/\(∀ g,g < w.heap.size->g ≠ sb->(V 12).ownBlock ≠ some g->(w6.setCell ⟨sb,1,none⟩ v').heap[g]? = w.heap[g]? /\ v'.ownBlock ≠ some g):=by
 have wW:12 < K:=by have:=h.hK;omega
 have hlt:=h.row.lt;have hr:=h.row.of_block (A.grew.block sb hlt (fun e=>h.far wW sb (by rw [<- hu];exact e.symm) rfl))
 have A':cz w ((upd V 12 u) 12) ((upd X 12 xs) 12).length ((upd X 12 xs) 12) news v' w6:=by rw [ae,ae];exact A
 have hF2:=oU.longer (B:=0) hF wW A';rw [ae,bE,bE] at hF2;refine ⟨h.header (k:=12) (by decide) hr hF2 rfl (fun i hi g hg=>?_) A.grew.size (fun i hi g hg=>?_),((aC.refl w).grown A.grew (fun g hg=>h.al 12 wW g (by rw [<- hu];exact hg))).setCell h.fZ _,fun j hj=>⟨hr.cell hj,hr.frozen j⟩,fun g h1 h2 h3=>⟨?_,fun e=>?_⟩⟩
 ·by_cases e:i=12
  ·subst e;rw [ae] at hg
   rcases A.at' with h1 | ⟨g2,hg2,h1⟩
   ·rw [h1,hu] at hg;exact h.far hi g hg
   ·rw [h1] at hg;have:=Option.some.inj hg;omega
  ·rw [aa _ _ e] at hg;exact h.far hi g hg
 ·by_cases e:i=12
  ·subst e;rw [ae] at hg
   rcases A.at' with h1 | ⟨g2,hg2,h1⟩
   ·rw [h1,hu] at hg;exact h.al 12 hi g hg
   ·rw [h1] at hg;have:=Option.some.inj hg;exact h.az g (by omega)
  ·rw [aa _ _ e] at hg;exact h.al i hi g hg
 ·rw [Below.heap_setCell _ _ _ _ (by simpa using h2)]
  exact A.grew.block g h1 (fun e=>h3 (by rw [<- hu];exact e.symm))
 ·rcases A.at' with h4 | ⟨g2,hg2,h4⟩
  ·rw [h4,hu] at e;exact h3 e
  ·rw [h4] at e;have:=Option.some.inj e;omega
theorem LB {l:List UInt8} {j:Nat} (h:j < l.length):(aM l)[j]? = some (.int .u8 (l[j]).toNat):=by simp [aM,h]
def bu (st:List UInt8) (c:List Nat) (i:Nat):List UInt8:=st ++ (c.take i).flatMap fun x=>Lib.itoa (wr x) ++ [32]
theorem uA {st:List UInt8} {c:List Nat} {i:Nat} (h:i < c.length):bu st c (i + 1)=bu st c i ++ (Lib.itoa (wr c[i]) ++ [32]):=by
 unfold bu;rw [List.take_add_one,List.getElem?_eq_getElem h,Option.toList_some,List.flatMap_append];simp
theorem jR {n:Nat} (hn:n <= 50) {st:List UInt8} {c:List Nat} (hc:∀ x ∈ c,x < 2 * n) (hst:st.length <= 2):∀ i,i <= c.length->(bu st c i).length <= 4 * i + 2
 | 0,_=>by unfold bu;simp;omega
 | i + 1,h=>by
  rw [uA (by omega),List.length_append,List.length_append]
  have h1:=jR hn hc hst i (by omega)
  have h2:=(sN hn (hc c[i] (List.getElem_mem _))).2.2.2.2.2.2.1;simp only [List.length_cons,List.length_nil];omega
structure uW (Z:Nat->Prop) (sb:Nat) (w:World) (K:Nat) (f V:Nat->Value) (X:Nat->List Value) (c:List Nat) (bs off:Nat) (bytes:List UInt8) (v':Value) (wr:World):Prop where
 aG:aQ Z sb wr K (upd f 1 v') (upd V 12 v') (upd X 12 (aM bytes))
 bD:aC Z w wr
 src:0 < c.length->bs < wr.heap.size/\bs ≠ sb/\v'.ownBlock ≠ some bs/\∀ j (hj:j < c.length),wr.cell? ⟨bs,off + j,none⟩=some (.int .i64 (c[j]:Nat))
def ZV (Z:Nat->Prop) (sb:Nat) (w:World) (K:Nat) (f V:Nat->Value) (X:Nat->List Value) (st:List UInt8) (c:List Nat) (bs off:Nat) (s:Value) (wr:World):Prop:=
 ∃ (i:Nat) (v':Value),s=.int .i64 ((i:Nat):Int)/\i <= c.length/\Hid (uW Z sb w K f V X c bs off (bu st c i) v' wr)
variable {c:List Nat} {bs off:Nat} {bytes:List UInt8} {v':Value} {wr wx:World}
theorem uW.more (h:uW Z sb w K f V X c bs off bytes v' wr) {v2:Value} {w6:World} {news:List UInt8} (A:cz wr v' bytes.length (aM bytes) (aM news) v2 w6):
  uW Z sb w K f V X c bs off (bytes ++ news) v2 (w6.setCell ⟨sb,1,none⟩ v2)/\w6.frozen? ⟨sb,1,none⟩=false/\(∃ u,w6.cell? ⟨sb,1,none⟩=some u):=by
 have hF:oU 0 wr K iC (upd (upd V 12 v') 12 v') (upd (upd X 12 (aM bytes)) 12 (aM bytes)):=by rw [bE,bE];exact h.aG.bC
 have A':cz wr v' (aM bytes).length (aM bytes) (aM news) v2 w6:=by rw [jW];exact A
 obtain ⟨a,b,c',d⟩:=h.aG.UY (u:=v') hF (by rw [ae]) A'
 rw [bE,bE,bE,<- p9] at a;refine ⟨⟨a,h.bD.trans b,fun hp=>?_⟩,(c' 1 (by omega)).2,⟨_,(c' 1 (by omega)).1⟩⟩
 obtain ⟨h1,h2,h3,h4⟩:=h.src hp;obtain ⟨k1,k2⟩:=d bs h1 h2 (by rw [ae];exact h3)
 refine ⟨Nat.lt_of_lt_of_le h1 b.size,h2,k2,fun j hj=>?_⟩
 rw [World.cell?_of_block (w:=wr) (a:=⟨bs,off + j,none⟩) k1];exact h4 j hj
theorem uW.later (h:uW Z sb w K f V X c bs off bytes v' wr) (hb':Below wr.heap.size wr wx):uW Z sb w K f V X c bs off bytes v' wx where
 aG:=h.aG.later hb'
 bD:=h.bD.trans (aC.of_below hb')
 src:=fun hp=>by
  obtain ⟨h1,h2,h3,h4⟩:=h.src hp;refine ⟨Nat.lt_of_lt_of_le h1 hb'.size,h2,h3,fun j hj=>?_⟩
  rw [World.cell?_of_block (w:=wr) (a:=⟨bs,off + j,none⟩) (hb'.block bs h1)];exact h4 j hj
theorem uW.cell1 (h:uW Z sb w K f V X c bs off bytes v' wr):wr.cell? ⟨sb,1,none⟩=some v'/\wr.ownsRow 0 5 1 v' bytes.length (aM bytes)/\∃ a cp,v'=.slice a bytes.length cp:=by
 have h1:=(h.aG.hd (k:=12) (by omega)).1
 rw [ae] at h1;have h2:=h.aG.bC.own 12 (by have:=h.aG.hK;omega)
 rw [ae,ae,jW] at h2;exact ⟨h1,h2,aH h2⟩
theorem Ba (a : Addr) (w : World) : (method 393 105 (.pointer (some a)) "Write").run Tryz.prog w = .ok (273, .pointer (some a)) w := by kernel_rfl
theorem yS (T:oJ Z sb ob hb kb n w K f V X gone l Rs Ro Rd Rk) (hn:n <= 50) (f0:f 0=.iface 105 (.pointer (some ⟨kb,0,none⟩))) (st:ByteArray) (hst:st.size <= 2) (v:Value) (hL:LP sb (V 12) w v c) (hc:c.length <= 50) (hlt:∀ x ∈ c,x < 2 * n) (hlen:l.length <= 70368744177664):
  Calls Tryz.prog 140 #[.pointer (some ⟨sb,0,none⟩),.string st,v] w fun e w'=>e=.returned .nilIface/\aC Z w w'/\∃ v' ko Rd' Fp,oJ Z sb ob hb kb n w' K (upd f 1 v') (upd V 12 v') (upd X 12 (aM (bu st.data.toList c c.length ++ [48,10]))) gone (l ++ (bu st.data.toList c c.length ++ [48,10])) ko Ro Rd' Fp:=by
 obtain ⟨i0,hi,hz0,hz1,hz2⟩:=info_parts Tryz.pE;obtain ⟨a,cp,bs,off,rfl,hna,hL⟩:=hL;have hK:=T.duo.aG.hK;obtain ⟨a12,c12,e12⟩:=T.duo.aG.bC.shape (k:=12) (by omega)
 have q1:=(T.duo.aG.hd (k:=12) (by omega)).1
 rw [show cellOf 12=1 from rfl,e12] at q1
 have hF:=T.duo.aG.bC.cut (k:=12) (by omega) e12 (Nat.zero_le _)
 have O0:Hid (w.ownsRow 0 5 1 (.slice a12 0 c12) 0 []):=by
  have:=hF.own 12 (by omega)
  rw [ae,ae,List.take_zero] at this;exact this
 rw [List.take_zero] at hF;have FST:Hid (∀ v' w6,aB w 0 5 1 (.slice a12 0 c12) 0 [] st.size (Lib.strCells st) v' w6->uW (zz Rs w) sb w K f V X c bs off (bu st.data.toList c 0) v' (w6.setCell ⟨sb,1,none⟩ v')/\w6.frozen? ⟨sb,1,none⟩=false/\∃ u,w6.cell? ⟨sb,1,none⟩=some u):=fun v' w6 A=>by
  have A':cz w (.slice a12 0 c12) ([]:List Value).length [] (Lib.strCells st) v' w6:=cz.of (by rw [Lib.strCells_length]) A
  obtain ⟨x1,x2,x3,x4⟩:=T.duo.aG.UY (u:=.slice a12 0 c12) hF (by rw [e12];cases a12 <;> rfl) A'
  refine ⟨⟨?_,x2,fun hp=>?_⟩,(x3 1 (by omega)).2,_,(x3 1 (by omega)).1⟩
  ·rw [List.nil_append,xH] at x1;unfold bu;rw [List.take_zero,List.flatMap_nil,List.append_nil];exact x1
  ·obtain ⟨h1,h2,h3,h4,h5⟩:=hL hp;obtain ⟨k1,k2⟩:=x4 bs h2 h3 h4;refine ⟨Nat.lt_of_lt_of_le h2 x2.size,h3,k2,fun j hj=>?_⟩
   rw [World.cell?_of_block (w:=w) (a:=⟨bs,off + j,none⟩) k1];exact h5 j hj
 have HA:Hid (0 < c.length->a=some ⟨bs,off,none⟩):=fun hp=>(hL hp).1
 have FIN:Hid (∀ v' wr,uW (zz Rs w) sb w K f V X c bs off (bu st.data.toList c c.length ++ [48,10]) v' wr->∃ lb cb,v'=.slice (some ⟨lb,0,none⟩) (bu st.data.toList c c.length ++ [48,10]).length cb/\wr.cell? ⟨sb,0,none⟩=some (.iface 105 (.pointer (some ⟨kb,0,none⟩)))/\(∀ wx,Below wr.heap.size wr wx->Calls Tryz.prog 273 #[.pointer (some ⟨kb,0,none⟩),.slice (some ⟨lb,0,none⟩) (bu st.data.toList c c.length ++ [48,10]).length cb] wx fun e w'=>∃ nn,e=.returned (.tuple #[.int .i64 nn,.nilIface])/\aC Z w w'/\∃ ko Rd' Fp,oJ Z sb ob hb kb n w' K (upd f 1 v') (upd V 12 v') (upd X 12 (aM (bu st.data.toList c c.length ++ [48,10]))) gone (l ++ (bu st.data.toList c c.length ++ [48,10])) ko Ro Rd' Fp)):=fun v' wr hw=>by
  obtain ⟨t1,t2⟩:=T.dH hw.aG hw.bD (by rw [aa _ _ (by decide)])
  obtain ⟨g1,g2,av,cv,g3⟩:=hw.cell1;have hpos:0 < (bu st.data.toList c c.length ++ [48,10]).length:=by simp
  have hkk:(aM (bu st.data.toList c c.length ++ [48,10])).length=(bu st.data.toList c c.length ++ [48,10]).length:=jW _;obtain ⟨lb,cb,tt,e1,e2,e3,e4,e5,e6,e7,e8⟩:=hw.aG.elem (k:=12) (j:=0) (n:=(bu st.data.toList c c.length ++ [48,10]).length) (by omega) (by rw [ae];exact hkk) hpos
  rw [ae] at e1;refine ⟨lb,cb,e1,?_,fun wx hbx=>?_⟩
  ·have:=(hw.aG.head 0 (by omega)).1
   rw [aa _ _ (by decide),f0] at this;exact this
  ·have t3:=t1.later hbx;have lbk:lb ≠ kb:=fun e=>by
    have h1:(fun g=>zz Rd w g/\g < wr.heap.size) lb:=by
     refine ⟨?_,e7⟩
     rcases e6 with h2 | h2
     ·exact T.duo.zs lb h2
     ·exact .inr h2
    have h2:Rk kb:=by
     rcases T.MU.zk with h3 | h3
     ·exact h3
     ·have:=T.MU.lt;omega
    exact t1.xu lb h1 (e ▸ h2)
   have ll:=jR hn hlt (by rw [Array.length_toList];exact hst) c.length (Nat.le_refl _)
   refine (vK t3.MU lb cb (bu st.data.toList c c.length ++ [48,10]) lbk (fun j hj=>?_) (by simp only [List.length_append,List.length_cons,List.length_nil];omega)).mono ?_
   ·have h1:=(t3.duo.aG.bC.cell (k:=12) (by omega) (by rw [ae];exact e1) (j:=j) (by rw [ae,hkk];exact hj)).1
    rw [h1,ae,LB hj]
   ·rintro e w' ⟨rfl,hc',hs'⟩;obtain ⟨u1,u2⟩:=t3.Yx hs' hc';exact ⟨_,rfl,(t2.trans (aC.of_below hbx)).trans u2,_,_,_,u1⟩
 have UD:=hide hlt;have LEN:Hid (∀ i,i <= c.length->(bu st.data.toList c i).length <= 4 * i + 2):=jR hn hlt (by rw [Array.length_toList];exact hst)
 clear T hF e12 hL hlt;go_enter Tryz.func140,Tryz.ntmps140
 go_wp2_with (at_builtin;refine gU _ rfl _ _ 107 9 rfl 0 5 i0 Tryz.underlying107 Tryz.underlying9 hi hz0 hz1 hz2 _ _ _ rfl O0.out st rfl (by unfold maxLen;omega) (by omega) (Nat.zero_le _) ?_)
 intro v6 w6 A6;obtain ⟨s6,z6,u6,k6⟩:=FST.out v6 w6 A6;obtain ⟨qL,qK,hv6⟩:=aH A6.own;rw [Nat.zero_add] at hv6;subst hv6;have S6:=hide s6;clear A6 s6 q1 O0 FST;go_upto_region 2 with fail
 generalize hW1:w6.setCell ⟨sb,1,none⟩ (.slice qL st.size qK)=W1 at S6 ⊢;clear hW1 k6 z6;go_wp2_with fail
 go_loopw [8,23] (fun _ Yz wr=>ZV (zz Rs w) sb w K f V X st.data.toList c bs off Yz wr) (fun _ Yz _=>c.length - (intOf Yz).toNat)
 case atStart=>exact ⟨0,_,rfl,Nat.zero_le _,S6⟩
 case round=>
  clear S6;obtain ⟨i,v1,rfl,hil,hst'⟩:=hrel;by_cases hlt:i < c.length
  ·have ha:=HA.out (by omega)
   subst ha;have hci:=(hst'.out.src (by omega)).2.2.2 i hlt
   obtain ⟨x,hx⟩:∃ x,x=c[i]:=⟨_,rfl⟩;have Qu:Hid (bu st.data.toList c (i + 1)=bu st.data.toList c i ++ (Lib.itoa (So.wr x) ++ [32])):=by unfold Hid;rw [uA hlt,hx]
   rw [<- hx] at hci;have hxl:x < 2 * n:=by rw [hx];exact UD.out _ (List.getElem_mem _)
   have ll:=LEN.out i (by omega)
   obtain ⟨bytes,hby⟩:∃ b,b=bu st.data.toList c i:=⟨_,rfl⟩;rw [<- hby] at hst' ll Qu;have i0':(0:Int) <= (i:Int):=by omega
   have i1:(i:Int) < (c.length:Int):=by omega
   have i2:(i:Int) <= 50:=by omega
   have QW:=hide (fun Y=>yg x Y (by omega))
   have wb1:-100 < So.wr x:=by unfold So.wr;split <;> omega
   have wb2:So.wr x < 100:=by unfold So.wr;split <;> omega
   generalize So.wr x=z at QW Qu wb1 wb2;obtain ⟨qc1,qo1,av1,cv1,rfl⟩:=hst'.out.cell1;have QA:=hide (fun Y (hY:Below wr.heap.size wr Y)=>yL z wb1 wb2 _ _ _ Y (hst'.out.later hY).cell1.2.1 (by omega))
   have MR:=hide (fun Y (hY:Below wr.heap.size wr Y) v2 w6 (A:cz Y (.slice av1 bytes.length cv1) bytes.length (aM bytes) (aM (Lib.itoa z)) v2 w6)=>(hst'.out.later hY).more A)
   clear hx hby qo1 hst';have lw:wr.heap.size <= wr.heap.size:=Nat.le_refl _;go_upto_region 5 with fail
   go_cut [8,23] from 23 to 46 (fun _ Yz wx=>Yz=.int .i64 ((i:Nat):Int)/\∃ v2,Hid (uW (zz Rs w) sb w K f V X c bs off (bytes ++ Lib.itoa z) v2 wx))
   case first=>
    go_region_with (first | (go_at_call 181;refine (QW.out _).mono ?_;rintro e7 w7 ⟨rfl,rfl⟩;simp only []) | (go_at_call 180;refine (QA.out _ (by first | exact Below.refl _ _ | exact (Below.refl _ _).drew | exact (Below.refl _ _).drew.drew)).mono ?_;rintro e8 w8 ⟨v8,rfl,A8⟩;have M8:=MR.out _ (by first | exact Below.refl _ _ | exact (Below.refl _ _).drew | exact (Below.refl _ _).drew.drew) v8 w8 A8;obtain ⟨m1,m2,m3,m4⟩:=M8;have M1:=hide m1;obtain ⟨XR,XQ,hv8⟩:=aH A8.own;subst hv8;clear A8 m1;simp only []))
    all_goals
     go_wp2_with fail
     go_meet;exact ⟨rfl,_,M1⟩
   case rest=>
    obtain ⟨rfl,v2,sU⟩:=hcut;obtain ⟨qc2,qo2,av2,cv2,rfl⟩:=sU.out.cell1;have QO:=hide qo2;have l2:(bytes ++ Lib.itoa z).length <= 1000:=by
     have:(Lib.itoa z).length <= 10:=by
      unfold Lib.itoa;split
      ·have:=Lib.decDigits_length z.natAbs;rw [List.length_cons,this];have:z.natAbs < 100:=by omega
       by_cases h10:z.natAbs < 10
       ·rw [Lib.nDigits_small h10];omega
       ·rw [Lib.nDigits_big h10,Lib.nDigits_small (by omega)];omega
      ·have:=Lib.decDigits_length z.toNat;rw [this];have:z.toNat < 100:=by omega
       by_cases h10:z.toNat < 10
       ·rw [Lib.nDigits_small h10];omega
       ·rw [Lib.nDigits_big h10,Lib.nDigits_small (by omega)];omega
     rw [List.length_append];omega
    have sblt:¬ (sb=wc.heap.size):=by have:=sU.out.aG.row.lt;omega
    have MR2:=hide (fun v3 w6 (A:cz wc (.slice av2 (bytes ++ Lib.itoa z).length cv2) (bytes ++ Lib.itoa z).length (aM (bytes ++ Lib.itoa z)) (aM [32]) v3 w6)=>sU.out.more A)
    clear qo2 sU QA MR QW;generalize Yb:bytes ++ Lib.itoa z=BB at *
    go_wp2_with (at_builtin;refine aU _ rfl _ _ 107 rfl 0 5 i0 (.int .u8 0) 1 1 Tryz.underlying107 hi hz0 hz1 hz2 rfl (by decide) _ _ _ rfl (QO.out.alloc (Obj.cells #[.int .u8 32] 5)) (.slice (some ⟨wc.heap.size,0,none⟩) 1 1) 1 [.int .u8 32] rfl (.inr ⟨⟨wc.heap.size,0,none⟩,1,rfl,(cell_one_new wc _ _)⟩) rfl (by simp [Value.oneCell']) (by unfold maxLen;omega) (by omega) (Nat.zero_le _) ?_)
    intro v9 w9 A9;have L9:cz wc (.slice av2 BB.length cv2) BB.length (aM BB) (aM [32]) v9 w9:=cz.IJ rfl A9;obtain ⟨m1,m2,m3,m4⟩:=MR2.out v9 w9 L9;obtain ⟨va9,vc9,sS⟩:=aH A9.own;subst sS;have M1:=hide m1;clear A9 L9 m1 QO MR2 qc2;have NX:Hid (bu st.data.toList c (i + 1)=BB ++ [32]):=by unfold Hid;rw [Qu.out,<- List.append_assoc,Yb]
    rw [<- NX.out] at M1;clear NX Qu Yb;go_wp2_with fail
    go_roundw
    case rel=>exact ⟨i + 1,_,by go_num,hlt,M1⟩
    case measure=>simp [intOf];omega
  ·have he:i=c.length:=by omega
   subst he;obtain ⟨qc1,qo1,av1,cv1,rfl⟩:=hst'.out.cell1;have ll:=LEN.out c.length (Nat.le_refl _);have QO:=hide qo1;have MR:=hide (fun v3 w6 (A:cz wr (.slice av1 (bu st.data.toList c c.length).length cv1) (bu st.data.toList c c.length).length (aM (bu st.data.toList c c.length)) (aM [48,10]) v3 w6)=>hst'.out.more A)
   clear qo1 hst';obtain ⟨BB,Yb⟩:∃ BB,BB=bu st.data.toList c c.length:=⟨_,rfl⟩;rw [<- Yb] at QO MR ll qc1 FIN;have HB:=hide Yb;clear Yb;go_wp2_with (at_builtin;refine gU _ rfl _ _ 107 9 rfl 0 5 i0 Tryz.underlying107 Tryz.underlying9 hi hz0 hz1 hz2 _ _ _ rfl QO.out ⟨#[48,10]⟩ rfl (by unfold maxLen;simp [ByteArray.size];omega) (by simp [ByteArray.size];omega) (Nat.zero_le _) ?_)
   intro v9 w9 A9;have L9:cz wr (.slice av1 BB.length cv1) BB.length (aM BB) (aM [48,10]) v9 w9:=cz.of rfl A9;obtain ⟨m1,m2,m3,m4⟩:=MR.out v9 w9 L9;obtain ⟨va9,vc9,sS⟩:=aH A9.own;have hv9':v9=.slice va9 (BB.length + 2) vc9:=sS;clear sS;subst hv9';have M1:=hide m1;clear A9 L9 m1 QO MR qc1;go_upto_region 9 with fail
   generalize hW2:w9.setCell ⟨sb,1,none⟩ (.slice va9 (BB.length + 2) vc9)=W2 at M1 ⊢;clear hW2 m2 m3 m4;obtain ⟨lb,cb,hv2,c0,qw⟩:=FIN.out _ _ M1.out;have c1:=M1.out.cell1.1;rw [hv2] at c1;have QWR:=hide qw;rw [hv2] at QWR;clear M1 qw FIN hv2;have mw:=Ba;generalize (BB ++ [48,10]).length=len at c1 QWR
   go_region_with (go_at_call 273;refine (QWR.out _ (by first | exact Below.refl _ _ | exact (Below.refl _ _).drew)).mono ?_;rintro e7 w7 ⟨nn,rfl,pM,ht7⟩;have C7:=hide pM;have T7:=hide ht7;clear pM ht7;simp only [])
   all_goals
    go_wp2;go_ret
    rw [HB.out] at T7;exact ⟨rfl,C7.out,_,T7.out⟩
end
end So
end Go.Proofs.YtceahffmenbibaaGreatDoor
