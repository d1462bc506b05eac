/- Swri. -/
import Derived.Test.YtceahffmenbibaaGreatDoorJ28
set_option linter.unusedVariables false
set_option linter.unusedSimpArgs false
set_option maxHeartbeats 4000000
set_option maxRecDepth 100000
namespace Go.Proofs.YtceahffmenbibaaGreatDoor
namespace So
section
open Go Go.RowKit Go.Deep Rd
section
variable {Z:Nat->Prop} {sb ob hb kb K n:Nat} {w w':World} {f f' V V':Nat->Value} {X X':Nat->List Value} {gone fu:Nat->Prop} {Rs Ro Jr Sq Rd Rk:Nat->Prop} {l l':List UInt8}
theorem dX.Sd (h:dX Z sb w K f V X) {u:Value} {m:List Value} (z:rQ 0 w K ni (upd V 12 u) (upd X 12 m)) (o:u.ownBlock=(V 12).ownBlock) {v':Value} {w6:World} {news:List Value} (A:fM w u m.length m news v' w6):
  dX Z sb (w6.setCell ⟨sb,1,none⟩ v') K (upd f 1 v') (upd V 12 v') (upd X 12 (m ++ news))/\dD Z w (w6.setCell ⟨sb,1,none⟩ v')/\(∀ j,j < 22->w6.cell? ⟨sb,j,none⟩=some (f j)/\w6.frozen? ⟨sb,j,none⟩=false)/\(∀ g,g < w.heap.size->g ≠ sb->(V 12).ownBlock ≠ some g->(w6.setCell ⟨sb,1,none⟩ v').heap[g]? = w.heap[g]? /\ v'.ownBlock ≠ some g):=by
 have d:12 < K:=by have:=h.hK;omega
 have t:=h.row.lt;have s:=h.row.of_block (A.grew.block sb t (fun e=>h.far d sb (by rw [<- o];exact e.symm) rfl));have D:fM w ((upd V 12 u) 12) ((upd X 12 m) 12).length ((upd X 12 m) 12) news v' w6:=by rw [cK,cK];exact A
 have r:=rQ.longer (B:=0) z d D;rw [cK,gm,gm] at r;refine ⟨h.header (k:=12) (by decide) s r rfl (fun i p g a=>?_) A.grew.size (fun i p g a=>?_),((dD.refl w).grown A.grew (fun g a=>h.al 12 d g (by rw [<- o];exact a))).setCell h.jA _,fun j y=>⟨s.cell y,s.frozen j⟩,fun g b C x=>⟨?_,fun e=>?_⟩⟩
 ·by_cases e:i=12
  ·subst e;rw [cK] at a
   rcases A.at' with b | ⟨g2,q,b⟩
   ·rw [b,o] at a;exact h.far p g a
   ·rw [b] at a;have:=Option.some.inj a;omega
  ·rw [cu _ _ e] at a;exact h.far p g a
 ·by_cases e:i=12
  ·subst e;rw [cK] at a
   rcases A.at' with b | ⟨g2,q,b⟩
   ·rw [b,o] at a;exact h.al 12 p g a
   ·rw [b] at a;have:=Option.some.inj a;exact h.az g (by omega)
  ·rw [cu _ _ e] at a;exact h.al i p g a
 ·rw [Below.heap_setCell _ _ _ _ (by simpa using C)];exact A.grew.block g b (fun e=>x (by rw [<- o];exact e.symm))
 ·rcases A.at' with v | ⟨g2,q,v⟩
  ·rw [v,o] at e;exact x e
  ·rw [v] at e;have:=Option.some.inj e;omega
theorem KT {l:List UInt8} {j:Nat} (h:j < l.length):(dL l)[j]? = some (.int .u8 (l[j]).toNat):=by simp [dL,h]
def eT (st:List UInt8) (c:List Nat) (i:Nat):List UInt8:=st ++ (c.take i).flatMap fun x=>Lib.itoa (wr x) ++ [32]
theorem vS {st:List UInt8} {c:List Nat} {i:Nat} (h:i < c.length):eT st c (i + 1)=eT st c i ++ (Lib.itoa (wr c[i]) ++ [32]):=by
 unfold eT;rw [List.take_add_one,List.getElem?_eq_getElem h,Option.toList_some,List.flatMap_append];simp
theorem pI {n:Nat} (b:n <= 50) {st:List UInt8} {c:List Nat} (d:∀ x ∈ c,x < 2 * n) (a:st.length <= 2):∀ i,i <= c.length->(eT st c i).length <= 4 * i + 2
 | 0,_=>by unfold eT;simp;omega
 | i + 1,h=>by
  rw [vS (by omega),List.length_append,List.length_append];have g:=pI b d a i (by omega);have e:=(mV b (d c[i] (List.getElem_mem _))).2.2.2.2.2.2.1;simp only [List.length_cons,List.length_nil];omega
structure wI (Z:Nat->Prop) (sb:Nat) (w:World) (K:Nat) (f V:Nat->Value) (X:Nat->List Value) (c:List Nat) (bs off:Nat) (bytes:List UInt8) (v':Value) (wr:World):Prop where
 dM:dX Z sb wr K (upd f 1 v') (upd V 12 v') (upd X 12 (dL bytes))
 fV:dD Z w wr
 src:0 < c.length->bs < wr.heap.size/\bs ≠ sb/\v'.ownBlock ≠ some bs/\∀ j (hj:j < c.length),wr.cell? ⟨bs,off + j,none⟩=some (.int .i64 (c[j]:Nat))
def U2 (Z:Nat->Prop) (sb:Nat) (w:World) (K:Nat) (f V:Nat->Value) (X:Nat->List Value) (st:List UInt8) (c:List Nat) (bs off:Nat) (s:Value) (wr:World):Prop:=
 ∃ (i:Nat) (v':Value),s=.int .i64 ((i:Nat):Int)/\i <= c.length/\Hid (wI Z sb w K f V X c bs off (eT st c i) v' wr)
variable {c:List Nat} {bs off:Nat} {bytes:List UInt8} {v':Value} {wr wx:World}
theorem wI.more (h:wI Z sb w K f V X c bs off bytes v' wr) {e:Value} {w6:World} {news:List UInt8} (A:fM wr v' bytes.length (dL bytes) (dL news) e w6):
  wI Z sb w K f V X c bs off (bytes ++ news) e (w6.setCell ⟨sb,1,none⟩ e)/\w6.frozen? ⟨sb,1,none⟩=false/\(∃ u,w6.cell? ⟨sb,1,none⟩=some u):=by
 have r:rQ 0 wr K ni (upd (upd V 12 v') 12 v') (upd (upd X 12 (dL bytes)) 12 (dL bytes)):=by rw [gm,gm];exact h.dM.fG
 have v:fM wr v' (dL bytes).length (dL bytes) (dL news) e w6:=by rw [nu];exact A
 obtain ⟨a,b,k,d⟩:=h.dM.Sd (u:=v') r (by rw [cK]) v;rw [gm,gm,gm,<- rY] at a;refine ⟨⟨a,h.fV.trans b,fun p=>?_⟩,(k 1 (by omega)).2,⟨_,(k 1 (by omega)).1⟩⟩;obtain ⟨i,g,t,s⟩:=h.src p;obtain ⟨o,m⟩:=d bs i g (by rw [cK];exact t);refine ⟨Nat.lt_of_lt_of_le i b.size,g,m,fun j q=>?_⟩;rw [World.cell?_of_block (w:=wr) (a:=⟨bs,off + j,none⟩) o];exact s j q
theorem wI.later (h:wI Z sb w K f V X c bs off bytes v' wr) (b:Below wr.heap.size wr wx):wI Z sb w K f V X c bs off bytes v' wx where
 dM:=h.dM.later b
 fV:=h.fV.trans (dD.of_below b)
 src:=fun e=>by
  obtain ⟨d,m,k,i⟩:=h.src e;refine ⟨Nat.lt_of_lt_of_le d b.size,m,k,fun j g=>?_⟩;rw [World.cell?_of_block (w:=wr) (a:=⟨bs,off + j,none⟩) (b.block bs d)];exact i j g
theorem wI.cell1 (h:wI Z sb w K f V X c bs off bytes v' wr):wr.cell? ⟨sb,1,none⟩=some v'/\wr.ownsRow 0 5 1 v' bytes.length (dL bytes)/\∃ a e,v'=.slice a bytes.length e:=by
 have d:=(h.dM.hd (k:=12) (by omega)).1;rw [cK] at d;have b:=h.dM.fG.own 12 (by have:=h.dM.hK;omega);rw [cK,cK,nu] at b;exact ⟨d,b,dI b⟩
theorem Co (a : Addr) (w : World) : (method 393 105 (.pointer (some a)) "Write").run Tryz.prog w = .ok (273, .pointer (some a)) w := by kernel_rfl
theorem Jy (T:sN Z sb ob hb kb n w K f V X gone l Rs Ro Rd Rk) (hn:n <= 50) (f0:f 0=.iface 105 (.pointer (some ⟨kb,0,none⟩))) (st:ByteArray) (aj:st.size <= 2) (v:Value) (hL:OM sb (V 12) w v c) (hc:c.length <= 50) (h:∀ x ∈ c,x < 2 * n) (aJ:l.length <= 70368744177664):
  Calls Tryz.prog 140 #[.pointer (some ⟨sb,0,none⟩),.string st,v] w fun e w'=>e=.returned .nilIface/\dD Z w w'/\∃ v' Jr aa W,sN Z sb ob hb kb n w' K (upd f 1 v') (upd V 12 v') (upd X 12 (dL (eT st.data.toList c c.length ++ [48,10]))) gone (l ++ (eT st.data.toList c c.length ++ [48,10])) Jr Ro aa W:=by
 obtain ⟨i0,hi,S,R,Q⟩:=info_parts Tryz.rG;obtain ⟨a,cp,bs,off,rfl,aO,hL⟩:=hL;have hK:=T.duo.dM.hK;obtain ⟨t,G,D⟩:=T.duo.dM.fG.shape (k:=12) (by omega);have q1:=(T.duo.dM.hd (k:=12) (by omega)).1;rw [show cellOf 12=1 from rfl,D] at q1;have hF:=T.duo.dM.fG.cut (k:=12) (by omega) D zl;have O0:Hid (w.ownsRow 0 5 1 (.slice t 0 G) 0 []):=by
  have:=hF.own 12 (by omega);rw [cK,cK,List.take_zero] at this;exact this
 rw [List.take_zero] at hF;have aw:Hid (∀ v' m,dz w 0 5 1 (.slice t 0 G) 0 [] st.size (Lib.strCells st) v' m->wI (zz Rs w) sb w K f V X c bs off (eT st.data.toList c 0) v' (m.setCell ⟨sb,1,none⟩ v')/\m.frozen? ⟨sb,1,none⟩=false/\∃ u,m.cell? ⟨sb,1,none⟩=some u):=fun v' m A=>by
  have A':fM w (.slice t 0 G) ([]:List Value).length [] (Lib.strCells st) v' m:=fM.of (by rw [Lib.strCells_length]) A;obtain ⟨x1,x2,x3,x4⟩:=T.duo.dM.Sd (u:=.slice t 0 G) hF (by rw [D];cases t <;> rfl) A';refine ⟨⟨?_,x2,fun hp=>?_⟩,(x3 1 (by omega)).2,_,(x3 1 (by omega)).1⟩
  ·rw [List.nil_append,yQ] at x1;unfold eT;rw [List.take_zero,List.flatMap_nil,List.append_nil];exact x1
  ·obtain ⟨h1,M,h3,h4,h5⟩:=hL hp;obtain ⟨k1,k2⟩:=x4 bs M h3 h4;refine ⟨Nat.lt_of_lt_of_le M x2.size,h3,k2,fun j hj=>?_⟩;rw [World.cell?_of_block (w:=w) (a:=⟨bs,off + j,none⟩) k1];exact h5 j hj
 have HA:Hid (0 < c.length->a=some ⟨bs,off,none⟩):=fun hp=>(hL hp).1
 have ac:Hid (∀ v' wr,wI (zz Rs w) sb w K f V X c bs off (eT st.data.toList c c.length ++ [48,10]) v' wr->∃ y cb,v'=.slice (some ⟨y,0,none⟩) (eT st.data.toList c c.length ++ [48,10]).length cb/\wr.cell? ⟨sb,0,none⟩=some (.iface 105 (.pointer (some ⟨kb,0,none⟩)))/\(∀ wx,Below wr.heap.size wr wx->Calls Tryz.prog 273 #[.pointer (some ⟨kb,0,none⟩),.slice (some ⟨y,0,none⟩) (eT st.data.toList c c.length ++ [48,10]).length cb] wx fun e w'=>∃ nn,e=.returned (.tuple #[.int .i64 nn,.nilIface])/\dD Z w w'/\∃ Jr aa W,sN Z sb ob hb kb n w' K (upd f 1 v') (upd V 12 v') (upd X 12 (dL (eT st.data.toList c c.length ++ [48,10]))) gone (l ++ (eT st.data.toList c c.length ++ [48,10])) Jr Ro aa W)):=fun v' wr hw=>by
  obtain ⟨t1,t2⟩:=T.iL hw.dM hw.fV (by rw [cu _ _ (by decide)]);obtain ⟨g1,g2,av,cv,g3⟩:=hw.cell1;have ak:0 < (eT st.data.toList c c.length ++ [48,10]).length:=by simp
  have al:(dL (eT st.data.toList c c.length ++ [48,10])).length=(eT st.data.toList c c.length ++ [48,10]).length:=nu _;obtain ⟨y,cb,tt,e1,e2,e3,e4,e5,e6,e7,e8⟩:=hw.dM.elem (k:=12) (j:=0) (n:=(eT st.data.toList c c.length ++ [48,10]).length) (by omega) (by rw [cK];exact al) ak;rw [cK] at e1;refine ⟨y,cb,e1,?_,fun wx ao=>?_⟩
  ·have:=(hw.dM.head 0 (by omega)).1;rw [cu _ _ (by decide),f0] at this;exact this
  ·have t3:=t1.later ao;have aA:y ≠ kb:=fun e=>by
    have h1:(fun g=>zz Rd w g/\g < wr.heap.size) y:=by
     refine ⟨?_,e7⟩
     rcases e6 with M | M
     ·exact T.duo.zs y M
     ·exact .inr M
    have M:Rk kb:=by
     rcases T.L6.zk with h3 | h3
     ·exact h3
     ·have:=T.L6.lt;omega
    exact t1.yB y h1 (e ▸ M)
   have ll:=pI hn h (by rw [Array.length_toList];exact aj) c.length lr;refine (xg t3.L6 y cb (eT st.data.toList c c.length ++ [48,10]) aA (fun j hj=>?_) (by simp only [List.length_append,List.length_cons,List.length_nil];omega)).mono ?_
   ·have h1:=(t3.duo.dM.fG.cell (k:=12) (by omega) (by rw [cK];exact e1) (j:=j) (by rw [cK,al];exact hj)).1;rw [h1,cK,KT hj]
   ·rintro e w' ⟨rfl,aE,aC⟩;obtain ⟨u1,u2⟩:=t3.UA aC aE;exact ⟨_,rfl,(t2.trans (dD.of_below ao)).trans u2,_,_,_,u1⟩
 have aH:=hide h;have au:Hid (∀ i,i <= c.length->(eT st.data.toList c i).length <= 4 * i + 2):=pI hn h (by rw [Array.length_toList];exact aj);clear T hF D hL h;go_enter Tryz.func140,Tryz.ntmps140
 go_wp2_with (at_builtin;refine jV _ rfl _ _ 107 9 rfl 0 5 i0 Tryz.underlying107 Tryz.underlying9 hi S R Q _ _ _ rfl O0.out st rfl (by unfold maxLen;omega) (by omega) zl ?_)
 intro v6 m A6;obtain ⟨s6,z6,u6,k6⟩:=aw.out v6 m A6;obtain ⟨ay,ax,ah⟩:=dI A6.own;rw [Nat.zero_add] at ah;subst ah;have S6:=hide s6;clear A6 s6 q1 O0 aw;go_upto_region 2 with fail
 generalize aG:m.setCell ⟨sb,1,none⟩ (.slice ay st.size ax)=W1 at S6 ⊢;clear aG k6 z6;go_wp2_with fail
 go_loopw [8,23] (fun _ r wr=>U2 (zz Rs w) sb w K f V X st.data.toList c bs off r wr) (fun _ r _=>c.length - (intOf r).toNat)
 case atStart=>exact ⟨0,_,rfl,zl,S6⟩
 case round=>
  clear S6;obtain ⟨i,v1,rfl,aP,d⟩:=hrel;by_cases h:i < c.length
  ·have ha:=HA.out (by omega);subst ha;have aD:=(d.out.src (by omega)).2.2.2 i h;obtain ⟨x,hx⟩:∃ x,x=c[i]:=⟨_,rfl⟩;have I:Hid (eT st.data.toList c (i + 1)=eT st.data.toList c i ++ (Lib.itoa (So.wr x) ++ [32])):=by unfold Hid;rw [vS h,hx]
   rw [<- hx] at aD;have aN:x < 2 * n:=by rw [hx];exact aH.out _ (List.getElem_mem _)
   have ll:=au.out i (by omega);obtain ⟨bytes,an⟩:∃ b,b=eT st.data.toList c i:=⟨_,rfl⟩;rw [<- an] at d ll I;have aM:(0:Int) <= (i:Int):=by omega
   have i1:(i:Int) < (c.length:Int):=by omega
   have i2:(i:Int) <= 50:=by omega
   have QW:=hide (fun Y=>zq x Y (by omega));have ae:-100 < So.wr x:=by unfold So.wr;split <;> omega
   have ad:So.wr x < 100:=by unfold So.wr;split <;> omega
   generalize So.wr x=z at QW I ae ad;obtain ⟨P,B,H,E,rfl⟩:=d.out.cell1;have QA:=hide (fun Y (hY:Below wr.heap.size wr Y)=>zM z ae ad _ _ _ Y (d.out.later hY).cell1.2.1 (by omega));have MR:=hide (fun Y (hY:Below wr.heap.size wr Y) v2 m (A:fM Y (.slice H bytes.length E) bytes.length (dL bytes) (dL (Lib.itoa z)) v2 m)=>(d.out.later hY).more A);clear hx an B d;have lw:wr.heap.size <= wr.heap.size:=lr;go_upto_region 5 with fail
   go_cut [8,23] from 23 to 46 (fun _ r wx=>r=.int .i64 ((i:Nat):Int)/\∃ v2,Hid (wI (zz Rs w) sb w K f V X c bs off (bytes ++ Lib.itoa z) v2 wx))
   case first=>
    go_region_with (first | (go_at_call 181;refine (QW.out _).mono ?_;rintro e7 w7 ⟨rfl,rfl⟩;simp only []) | (go_at_call 180;refine (QA.out _ (by first | exact bR | exact bR.drew | exact bR.drew.drew)).mono ?_;rintro e8 w8 ⟨v8,rfl,A8⟩;have M8:=MR.out _ (by first | exact bR | exact bR.drew | exact bR.drew.drew) v8 w8 A8;obtain ⟨L,m2,m3,m4⟩:=M8;have J:=hide L;obtain ⟨aL,aK,aB⟩:=dI A8.own;subst aB;clear A8 L;simp only []))
    all_goals
     go_wp2_with fail
     go_meet;exact ⟨rfl,_,J⟩
   case rest=>
    obtain ⟨rfl,v2,o⟩:=hcut;obtain ⟨az,af,aq,ap,rfl⟩:=o.out.cell1;have QO:=hide af;have l2:(bytes ++ Lib.itoa z).length <= 1000:=by
     have:(Lib.itoa z).length <= 10:=by
      unfold Lib.itoa;split
      ·have:=Lib.decDigits_length z.natAbs;rw [List.length_cons,this];have:z.natAbs < 100:=by omega
       by_cases s:z.natAbs < 10
       ·rw [Lib.nDigits_small s];omega
       ·rw [Lib.nDigits_big s,Lib.nDigits_small (by omega)];omega
      ·have:=Lib.decDigits_length z.toNat;rw [this];have:z.toNat < 100:=by omega
       by_cases s:z.toNat < 10
       ·rw [Lib.nDigits_small s];omega
       ·rw [Lib.nDigits_big s,Lib.nDigits_small (by omega)];omega
     rw [List.length_append];omega
    have aI:¬ (sb=wc.heap.size):=by have:=o.out.dM.row.lt;omega
    have ar:=hide (fun v3 m (A:fM wc (.slice aq (bytes ++ Lib.itoa z).length ap) (bytes ++ Lib.itoa z).length (dL (bytes ++ Lib.itoa z)) (dL [32]) v3 m)=>o.out.more A);clear af o QA MR QW;generalize p:bytes ++ Lib.itoa z=q at *
    go_wp2_with (at_builtin;refine dF _ rfl _ _ 107 rfl 0 5 i0 (.int .u8 0) 1 1 Tryz.underlying107 hi S R Q rfl (by decide) _ _ _ rfl (QO.out.alloc (.cells #[.int .u8 32] 5)) (.slice (some ⟨wc.heap.size,0,none⟩) 1 1) 1 [.int .u8 32] rfl (.inr ⟨⟨wc.heap.size,0,none⟩,1,rfl,(cell_one_new wc _ _)⟩) rfl (by simp [Value.oneCell']) (by unfold maxLen;omega) (by omega) zl ?_)
    intro v9 w9 A9;have L9:fM wc (.slice aq q.length ap) q.length (dL q) (dL [32]) v9 w9:=fM.IU rfl A9;obtain ⟨L,m2,m3,m4⟩:=ar.out v9 w9 L9;obtain ⟨O,N,C⟩:=dI A9.own;subst C;have J:=hide L;clear A9 L9 L QO ar az;have NX:Hid (eT st.data.toList c (i + 1)=q ++ [32]):=by unfold Hid;rw [I.out,<- List.append_assoc,p]
    rw [<- NX.out] at J;clear NX I p;go_wp2_with fail
    go_roundw
    case rel=>exact ⟨i + 1,_,by go_num,h,J⟩
    case measure=>simp [intOf];omega
  ·have he:i=c.length:=by omega
   subst he;obtain ⟨P,B,H,E,rfl⟩:=d.out.cell1;have ll:=au.out c.length lr;have QO:=hide B;have MR:=hide (fun v3 m (A:fM wr (.slice H (eT st.data.toList c c.length).length E) (eT st.data.toList c c.length).length (dL (eT st.data.toList c c.length)) (dL [48,10]) v3 m)=>d.out.more A);clear B d;obtain ⟨q,p⟩:∃ q,q=eT st.data.toList c c.length:=⟨_,rfl⟩;rw [<- p] at QO MR ll P ac;have HB:=hide p;clear p;go_wp2_with (at_builtin;refine jV _ rfl _ _ 107 9 rfl 0 5 i0 Tryz.underlying107 Tryz.underlying9 hi S R Q _ _ _ rfl QO.out ⟨#[48,10]⟩ rfl (by unfold maxLen;simp [ByteArray.size];omega) (by simp [ByteArray.size];omega) zl ?_)
   intro v9 w9 A9;have L9:fM wr (.slice H q.length E) q.length (dL q) (dL [48,10]) v9 w9:=fM.of rfl A9;obtain ⟨L,m2,m3,m4⟩:=MR.out v9 w9 L9;obtain ⟨O,N,C⟩:=dI A9.own;have ag:v9=.slice O (q.length + 2) N:=C;clear C;subst ag;have J:=hide L;clear A9 L9 L QO MR P;go_upto_region 9 with fail
   generalize aF:w9.setCell ⟨sb,1,none⟩ (.slice O (q.length + 2) N)=W2 at J ⊢;clear aF m2 m3 m4;obtain ⟨y,cb,U,c0,qw⟩:=ac.out _ _ J.out;have c1:=J.out.cell1.1;rw [U] at c1;have ab:=hide qw;rw [U] at ab;clear J qw ac U;have mw:=Co;generalize (q ++ [48,10]).length=len at c1 ab
   go_region_with (go_at_call 273;refine (ab.out _ (by first | exact bR | exact bR.drew)).mono ?_;rintro e7 w7 ⟨nn,rfl,am,ai⟩;have C7:=hide am;have T7:=hide ai;clear am ai;simp only [])
   all_goals
    go_wp2;go_ret
    rw [HB.out] at T7;exact ⟨rfl,C7.out,_,T7.out⟩
end
end
end So
end Go.Proofs.YtceahffmenbibaaGreatDoor
