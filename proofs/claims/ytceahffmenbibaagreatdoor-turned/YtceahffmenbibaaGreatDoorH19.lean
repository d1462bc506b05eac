/- Swri. -/
import Derived.Test.YtceahffmenbibaaGreatDoorH18
import Derived.Test.YtceahffmenbibaaGreatDoorH06
set_option linter.unusedVariables false
set_option linter.unusedSimpArgs false
set_option maxHeartbeats 4000000
set_option maxRecDepth 100000
namespace Go.Proofs.YtceahffmenbibaaGreatDoor
namespace So
section
open Go Go.RowKit Go.Deep Rd
section
variable {Z:Nat->Prop} {sb ob hb kb K n:Nat} {w w':World} {f f' V V':Nat->Value} {X X':Nat->List Value} {gone fB:Nat->Prop} {Rs Ro H9 Vg Rd Rk:Nat->Prop} {l l':List UInt8}
theorem dQ.U7 (h:dQ Z sb w K f V X) {u:Value} {m:List Value} (z:rD 0 w K kM (upd V 12 u) (upd X 12 m)) (o:u.ownBlock=(V 12).ownBlock) {v':Value} {w6:World} {news:List Value} (A:fQ w u m.length m news v' w6):
  dQ Z sb (w6.setCell ⟨sb,1,none⟩ v') K (upd f 1 v') (upd V 12 v') (upd X 12 (m ++ news))/\dB Z w (w6.setCell ⟨sb,1,none⟩ v')/\(∀ j,j < 22->w6.cell? ⟨sb,j,none⟩=some (f j)/\w6.frozen? ⟨sb,j,none⟩=false)/\(∀ g,g < w.heap.size->g ≠ sb->(V 12).ownBlock ≠ some g->(w6.setCell ⟨sb,1,none⟩ v').heap[g]? = w.heap[g]? /\ v'.ownBlock ≠ some g):=by
 have d:12 < K:=by have:=h.hK;omega
 have t:=h.row.lt;have s:=h.row.of_block (A.grew.block sb t (fun e=>h.far d sb (by rw [<- o];exact e.symm) rfl));have D:fQ w ((upd V 12 u) 12) ((upd X 12 m) 12).length ((upd X 12 m) 12) news v' w6:=by rw [cz,cz];exact A
 have r:=rD.longer (B:=0) z d D;rw [cz,eP,eP] at r;refine ⟨h.header (k:=12) (by decide) s r rfl (fun i p g a=>?_) A.grew.size (fun i p g a=>?_),((dB.refl w).grown A.grew (fun g a=>h.al 12 d g (by rw [<- o];exact a))).setCell h.jf _,fun j y=>⟨s.cell y,s.frozen j⟩,fun g b C x=>⟨?_,fun e=>?_⟩⟩
 ·by_cases e:i=12
  ·subst e;rw [cz] at a
   rcases A.at' with b | ⟨g2,q,b⟩
   ·rw [b,o] at a;exact h.far p g a
   ·rw [b] at a;have:=Option.some.inj a;omega
  ·rw [cu _ _ e] at a;exact h.far p g a
 ·by_cases e:i=12
  ·subst e;rw [cz] at a
   rcases A.at' with b | ⟨g2,q,b⟩
   ·rw [b,o] at a;exact h.al 12 p g a
   ·rw [b] at a;have:=Option.some.inj a;exact h.az g (by omega)
  ·rw [cu _ _ e] at a;exact h.al i p g a
 ·rw [Below.heap_setCell _ _ _ _ (by simpa using C)];exact A.grew.block g b (fun e=>x (by rw [<- o];exact e.symm))
 ·rcases A.at' with v | ⟨g2,q,v⟩
  ·rw [v,o] at e;exact x e
  ·rw [v] at e;have:=Option.some.inj e;omega
theorem Nh {l:List UInt8} {j:Nat} (h:j < l.length):(dM l)[j]? = some (.int .u8 (l[j]).toNat):=by simp [dM,h]
def eu (st:List UInt8) (c:List Nat) (i:Nat):List UInt8:=st ++ (c.take i).flatMap fun x=>Lib.itoa (wr x) ++ [32]
theorem wE {st:List UInt8} {c:List Nat} {i:Nat} (h:i < c.length):eu st c (i + 1)=eu st c i ++ (Lib.itoa (wr c[i]) ++ [32]):=by
 unfold eu;rw [List.take_add_one,List.getElem?_eq_getElem h,Option.toList_some,List.flatMap_append];simp
theorem nH {n:Nat} (b:n <= 50) {st:List UInt8} {c:List Nat} (d:∀ x ∈ c,x < 2 * n) (a:st.length <= 2):∀ i,i <= c.length->(eu st c i).length <= 4 * i + 2
 | 0,_=>by unfold eu;simp;omega
 | i + 1,h=>by
  rw [wE (by omega),List.length_append,List.length_append];have g:=nH b d a i (by omega);have e:=(mg b (d c[i] (List.getElem_mem _))).2.2.2.2.2.2.1;simp only [List.length_cons,List.length_nil];omega
structure xn (Z:Nat->Prop) (sb:Nat) (w:World) (K:Nat) (f V:Nat->Value) (X:Nat->List Value) (c:List Nat) (bs off:Nat) (bytes:List UInt8) (v':Value) (wr:World):Prop where
 dF:dQ Z sb wr K (upd f 1 v') (upd V 12 v') (upd X 12 (dM bytes))
 eO:dB Z w wr
 src:0 < c.length->bs < wr.heap.size/\bs ≠ sb/\v'.ownBlock ≠ some bs/\∀ j (hj:j < c.length),wr.cell? ⟨bs,off + j,none⟩=some (.int .i64 (c[j]:Nat))
def XL (Z:Nat->Prop) (sb:Nat) (w:World) (K:Nat) (f V:Nat->Value) (X:Nat->List Value) (st:List UInt8) (c:List Nat) (bs off:Nat) (s:Value) (wr:World):Prop:=
 ∃ (i:Nat) (v':Value),s=.int .i64 ((i:Nat):Int)/\i <= c.length/\Hid (xn Z sb w K f V X c bs off (eu st c i) v' wr)
variable {c:List Nat} {bs off:Nat} {bytes:List UInt8} {v':Value} {wr wx:World}
theorem xn.more (h:xn Z sb w K f V X c bs off bytes v' wr) {e:Value} {w6:World} {news:List UInt8} (A:fQ wr v' bytes.length (dM bytes) (dM news) e w6):
  xn Z sb w K f V X c bs off (bytes ++ news) e (w6.setCell ⟨sb,1,none⟩ e)/\w6.frozen? ⟨sb,1,none⟩=false/\(∃ u,w6.cell? ⟨sb,1,none⟩=some u):=by
 have r:rD 0 wr K kM (upd (upd V 12 v') 12 v') (upd (upd X 12 (dM bytes)) 12 (dM bytes)):=by rw [eP,eP];exact h.dF.eH
 have v:fQ wr v' (dM bytes).length (dM bytes) (dM news) e w6:=by rw [nN];exact A
 obtain ⟨a,b,k,d⟩:=h.dF.U7 (u:=v') r (by rw [cz]) v;rw [eP,eP,eP,<- sI] at a;refine ⟨⟨a,h.eO.trans b,fun p=>?_⟩,(k 1 (by omega)).2,⟨_,(k 1 (by omega)).1⟩⟩;obtain ⟨i,g,t,s⟩:=h.src p;obtain ⟨o,m⟩:=d bs i g (by rw [cz];exact t);refine ⟨Nat.lt_of_lt_of_le i b.size,g,m,fun j q=>?_⟩;rw [World.cell?_of_block (w:=wr) (a:=⟨bs,off + j,none⟩) o];exact s j q
theorem xn.later (h:xn Z sb w K f V X c bs off bytes v' wr) (b:Below wr.heap.size wr wx):xn Z sb w K f V X c bs off bytes v' wx where
 dF:=h.dF.later b
 eO:=h.eO.trans (dB.of_below b)
 src:=fun e=>by
  obtain ⟨d,m,k,i⟩:=h.src e;refine ⟨Nat.lt_of_lt_of_le d b.size,m,k,fun j g=>?_⟩;rw [World.cell?_of_block (w:=wr) (a:=⟨bs,off + j,none⟩) (b.block bs d)];exact i j g
theorem xn.cell1 (h:xn Z sb w K f V X c bs off bytes v' wr):wr.cell? ⟨sb,1,none⟩=some v'/\wr.ownsRow 0 5 1 v' bytes.length (dM bytes)/\∃ a e,v'=.slice a bytes.length e:=by
 have d:=(h.dF.hd (k:=12) (by omega)).1;rw [cz] at d;have b:=h.dF.eH.own 12 (by have:=h.dF.hK;omega);rw [cz,cz,nN] at b;exact ⟨d,b,dH b⟩
theorem Dc (a : Addr) (w : World) : (method 393 105 (.pointer (some a)) "Write").run Tryz.prog w = .ok (273, .pointer (some a)) w := by kernel_rfl
theorem Av (T:rq Z sb ob hb kb n w K f V X gone l Rs Ro Rd Rk) (hn:n <= 50) (f0:f 0=.iface 105 (.pointer (some ⟨kb,0,none⟩))) (st:ByteArray) (aj:st.size <= 2) (v:Value) (hL:Nq sb (V 12) w v c) (hc:c.length <= 50) (h:∀ x ∈ c,x < 2 * n) (aJ:l.length <= 70368744177664):
  Calls Tryz.prog 140 #[.pointer (some ⟨sb,0,none⟩),.string st,v] w fun e w'=>e=.returned .nilIface/\dB Z w w'/\∃ v' H9 aa W,rq Z sb ob hb kb n w' K (upd f 1 v') (upd V 12 v') (upd X 12 (dM (eu st.data.toList c c.length ++ [48,10]))) gone (l ++ (eu st.data.toList c c.length ++ [48,10])) H9 Ro aa W:=by
 obtain ⟨i0,hi,S,R,Q⟩:=info_parts Tryz.rT;obtain ⟨a,cp,bs,off,rfl,aO,hL⟩:=hL;have hK:=T.duo.dF.hK;obtain ⟨t,G,D⟩:=T.duo.dF.eH.shape (k:=12) (by omega);have q1:=(T.duo.dF.hd (k:=12) (by omega)).1;rw [show cellOf 12=1 from rfl,D] at q1;have hF:=T.duo.dF.eH.cut (k:=12) (by omega) D zl;have O0:Hid (w.ownsRow 0 5 1 (.slice t 0 G) 0 []):=by
  have:=hF.own 12 (by omega);rw [cz,cz,List.take_zero] at this;exact this
 rw [List.take_zero] at hF;have aw:Hid (∀ v' m,dz w 0 5 1 (.slice t 0 G) 0 [] st.size (Lib.strCells st) v' m->xn (zz Rs w) sb w K f V X c bs off (eu st.data.toList c 0) v' (m.setCell ⟨sb,1,none⟩ v')/\m.frozen? ⟨sb,1,none⟩=false/\∃ u,m.cell? ⟨sb,1,none⟩=some u):=fun v' m A=>by
  have A':fQ w (.slice t 0 G) ([]:List Value).length [] (Lib.strCells st) v' m:=fQ.of (by rw [Lib.strCells_length]) A;obtain ⟨x1,x2,x3,x4⟩:=T.duo.dF.U7 (u:=.slice t 0 G) hF (by rw [D];cases t <;> rfl) A';refine ⟨⟨?_,x2,fun hp=>?_⟩,(x3 1 (by omega)).2,_,(x3 1 (by omega)).1⟩
  ·rw [List.nil_append,zA] at x1;unfold eu;rw [List.take_zero,List.flatMap_nil,List.append_nil];exact x1
  ·obtain ⟨h1,M,h3,h4,h5⟩:=hL hp;obtain ⟨k1,k2⟩:=x4 bs M h3 h4;refine ⟨Nat.lt_of_lt_of_le M x2.size,h3,k2,fun j hj=>?_⟩;rw [World.cell?_of_block (w:=w) (a:=⟨bs,off + j,none⟩) k1];exact h5 j hj
 have HA:Hid (0 < c.length->a=some ⟨bs,off,none⟩):=fun hp=>(hL hp).1
 have ac:Hid (∀ v' wr,xn (zz Rs w) sb w K f V X c bs off (eu st.data.toList c c.length ++ [48,10]) v' wr->∃ y cb,v'=.slice (some ⟨y,0,none⟩) (eu st.data.toList c c.length ++ [48,10]).length cb/\wr.cell? ⟨sb,0,none⟩=some (.iface 105 (.pointer (some ⟨kb,0,none⟩)))/\(∀ wx,Below wr.heap.size wr wx->Calls Tryz.prog 273 #[.pointer (some ⟨kb,0,none⟩),.slice (some ⟨y,0,none⟩) (eu st.data.toList c c.length ++ [48,10]).length cb] wx fun e w'=>∃ nn,e=.returned (.tuple #[.int .i64 nn,.nilIface])/\dB Z w w'/\∃ H9 aa W,rq Z sb ob hb kb n w' K (upd f 1 v') (upd V 12 v') (upd X 12 (dM (eu st.data.toList c c.length ++ [48,10]))) gone (l ++ (eu st.data.toList c c.length ++ [48,10])) H9 Ro aa W)):=fun v' wr hw=>by
  obtain ⟨t1,t2⟩:=T.gK hw.dF hw.eO (by rw [cu _ _ (by decide)]);obtain ⟨g1,g2,av,cv,g3⟩:=hw.cell1;have ak:0 < (eu st.data.toList c c.length ++ [48,10]).length:=by simp
  have al:(dM (eu st.data.toList c c.length ++ [48,10])).length=(eu st.data.toList c c.length ++ [48,10]).length:=nN _;obtain ⟨y,cb,tt,e1,e2,e3,e4,e5,e6,e7,e8⟩:=hw.dF.elem (k:=12) (j:=0) (n:=(eu st.data.toList c c.length ++ [48,10]).length) (by omega) (by rw [cz];exact al) ak;rw [cz] at e1;refine ⟨y,cb,e1,?_,fun wx ao=>?_⟩
  ·have:=(hw.dF.head 0 (by omega)).1;rw [cu _ _ (by decide),f0] at this;exact this
  ·have t3:=t1.later ao;have aA:y ≠ kb:=fun e=>by
    have h1:(fun g=>zz Rd w g/\g < wr.heap.size) y:=by
     refine ⟨?_,e7⟩
     rcases e6 with M | M
     ·exact T.duo.zs y M
     ·exact .inr M
    have M:Rk kb:=by
     rcases T.Og.zk with h3 | h3
     ·exact h3
     ·have:=T.Og.lt;omega
    exact t1.za y h1 (e ▸ M)
   have ll:=nH hn h (by rw [Array.length_toList];exact aj) c.length lr;refine (xN t3.Og y cb (eu st.data.toList c c.length ++ [48,10]) aA (fun j hj=>?_) (by simp only [List.length_append,List.length_cons,List.length_nil];omega)).mono ?_
   ·have h1:=(t3.duo.dF.eH.cell (k:=12) (by omega) (by rw [cz];exact e1) (j:=j) (by rw [cz,al];exact hj)).1;rw [h1,cz,Nh hj]
   ·rintro e w' ⟨rfl,aE,aC⟩;obtain ⟨u1,u2⟩:=t3.Xk aC aE;exact ⟨_,rfl,(t2.trans (dB.of_below ao)).trans u2,_,_,_,u1⟩
 have aH:=hide h;have au:Hid (∀ i,i <= c.length->(eu st.data.toList c i).length <= 4 * i + 2):=nH hn h (by rw [Array.length_toList];exact aj);clear T hF D hL h;go_enter Tryz.func140,Tryz.ntmps140
 go_wp2_with (at_builtin;refine kr _ rfl _ _ 107 9 rfl 0 5 i0 Tryz.underlying107 Tryz.underlying9 hi S R Q _ _ _ rfl O0.out st rfl (by unfold maxLen;omega) (by omega) zl ?_)
 intro v6 m A6;obtain ⟨s6,z6,u6,k6⟩:=aw.out v6 m A6;obtain ⟨ay,ax,ah⟩:=dH A6.own;rw [Nat.zero_add] at ah;subst ah;have S6:=hide s6;clear A6 s6 q1 O0 aw;go_upto_region 2 with fail
 generalize aG:m.setCell ⟨sb,1,none⟩ (.slice ay st.size ax)=W1 at S6 ⊢;clear aG k6 z6;go_wp2_with fail
 go_loopw [8,23] (fun _ r wr=>XL (zz Rs w) sb w K f V X st.data.toList c bs off r wr) (fun _ r _=>c.length - (intOf r).toNat)
 case atStart=>exact ⟨0,_,rfl,zl,S6⟩
 case round=>
  clear S6;obtain ⟨i,v1,rfl,aP,d⟩:=hrel;by_cases h:i < c.length
  ·have ha:=HA.out (by omega);subst ha;have aD:=(d.out.src (by omega)).2.2.2 i h;obtain ⟨x,hx⟩:∃ x,x=c[i]:=⟨_,rfl⟩;have I:Hid (eu st.data.toList c (i + 1)=eu st.data.toList c i ++ (Lib.itoa (So.wr x) ++ [32])):=by unfold Hid;rw [wE h,hx]
   rw [<- hx] at aD;have aN:x < 2 * n:=by rw [hx];exact aH.out _ (List.getElem_mem _)
   have ll:=au.out i (by omega);obtain ⟨bytes,an⟩:∃ b,b=eu st.data.toList c i:=⟨_,rfl⟩;rw [<- an] at d ll I;have aM:(0:Int) <= (i:Int):=by omega
   have i1:(i:Int) < (c.length:Int):=by omega
   have i2:(i:Int) <= 50:=by omega
   have QW:=hide (fun Y=>zW x Y (by omega));have ae:-100 < So.wr x:=by unfold So.wr;split <;> omega
   have ad:So.wr x < 100:=by unfold So.wr;split <;> omega
   generalize So.wr x=z at QW I ae ad;obtain ⟨P,B,H,E,rfl⟩:=d.out.cell1;have QA:=hide (fun Y (hY:Below wr.heap.size wr Y)=>Ao z ae ad _ _ _ Y (d.out.later hY).cell1.2.1 (by omega));have MR:=hide (fun Y (hY:Below wr.heap.size wr Y) v2 m (A:fQ Y (.slice H bytes.length E) bytes.length (dM bytes) (dM (Lib.itoa z)) v2 m)=>(d.out.later hY).more A);clear hx an B d;have lw:wr.heap.size <= wr.heap.size:=lr;go_upto_region 5 with fail
   go_cut [8,23] from 23 to 46 (fun _ r wx=>r=.int .i64 ((i:Nat):Int)/\∃ v2,Hid (xn (zz Rs w) sb w K f V X c bs off (bytes ++ Lib.itoa z) v2 wx))
   case first=>
    go_region_with (first | (go_at_call 181;refine (QW.out _).mono ?_;rintro e7 w7 ⟨rfl,rfl⟩;simp only []) | (go_at_call 180;refine (QA.out _ (by first | exact bR | exact bR.drew | exact bR.drew.drew)).mono ?_;rintro e8 w8 ⟨v8,rfl,A8⟩;have M8:=MR.out _ (by first | exact bR | exact bR.drew | exact bR.drew.drew) v8 w8 A8;obtain ⟨L,m2,m3,m4⟩:=M8;have J:=hide L;obtain ⟨aL,aK,aB⟩:=dH A8.own;subst aB;clear A8 L;simp only []))
    all_goals
     go_wp2_with fail
     go_meet;exact ⟨rfl,_,J⟩
   case rest=>
    obtain ⟨rfl,v2,o⟩:=hcut;obtain ⟨az,af,aq,ap,rfl⟩:=o.out.cell1;have QO:=hide af;have l2:(bytes ++ Lib.itoa z).length <= 1000:=by
     have:(Lib.itoa z).length <= 10:=by
      unfold Lib.itoa;split
      ·have:=Lib.decDigits_length z.natAbs;rw [List.length_cons,this];have:z.natAbs < 100:=by omega
       by_cases s:z.natAbs < 10
       ·rw [Lib.nDigits_small s];omega
       ·rw [Lib.nDigits_big s,Lib.nDigits_small (by omega)];omega
      ·have:=Lib.decDigits_length z.toNat;rw [this];have:z.toNat < 100:=by omega
       by_cases s:z.toNat < 10
       ·rw [Lib.nDigits_small s];omega
       ·rw [Lib.nDigits_big s,Lib.nDigits_small (by omega)];omega
     rw [List.length_append];omega
    have aI:¬ (sb=wc.heap.size):=by have:=o.out.dF.row.lt;omega
    have ar:=hide (fun v3 m (A:fQ wc (.slice aq (bytes ++ Lib.itoa z).length ap) (bytes ++ Lib.itoa z).length (dM (bytes ++ Lib.itoa z)) (dM [32]) v3 m)=>o.out.more A);clear af o QA MR QW;generalize p:bytes ++ Lib.itoa z=q at *
    go_wp2_with (at_builtin;refine dR _ rfl _ _ 107 rfl 0 5 i0 (.int .u8 0) 1 1 Tryz.underlying107 hi S R Q rfl (by decide) _ _ _ rfl (QO.out.alloc (.cells #[.int .u8 32] 5)) (.slice (some ⟨wc.heap.size,0,none⟩) 1 1) 1 [.int .u8 32] rfl (.inr ⟨⟨wc.heap.size,0,none⟩,1,rfl,(cell_one_new wc _ _)⟩) rfl (by simp [Value.oneCell']) (by unfold maxLen;omega) (by omega) zl ?_)
    intro v9 w9 A9;have L9:fQ wc (.slice aq q.length ap) q.length (dM q) (dM [32]) v9 w9:=fQ.J5 rfl A9;obtain ⟨L,m2,m3,m4⟩:=ar.out v9 w9 L9;obtain ⟨O,N,C⟩:=dH A9.own;subst C;have J:=hide L;clear A9 L9 L QO ar az;have NX:Hid (eu st.data.toList c (i + 1)=q ++ [32]):=by unfold Hid;rw [I.out,<- List.append_assoc,p]
    rw [<- NX.out] at J;clear NX I p;go_wp2_with fail
    go_roundw
    case rel=>exact ⟨i + 1,_,by go_num,h,J⟩
    case measure=>simp [intOf];omega
  ·have he:i=c.length:=by omega
   subst he;obtain ⟨P,B,H,E,rfl⟩:=d.out.cell1;have ll:=au.out c.length lr;have QO:=hide B;have MR:=hide (fun v3 m (A:fQ wr (.slice H (eu st.data.toList c c.length).length E) (eu st.data.toList c c.length).length (dM (eu st.data.toList c c.length)) (dM [48,10]) v3 m)=>d.out.more A);clear B d;obtain ⟨q,p⟩:∃ q,q=eu st.data.toList c c.length:=⟨_,rfl⟩;rw [<- p] at QO MR ll P ac;have HB:=hide p;clear p;go_wp2_with (at_builtin;refine kr _ rfl _ _ 107 9 rfl 0 5 i0 Tryz.underlying107 Tryz.underlying9 hi S R Q _ _ _ rfl QO.out ⟨#[48,10]⟩ rfl (by unfold maxLen;simp [ByteArray.size];omega) (by simp [ByteArray.size];omega) zl ?_)
   intro v9 w9 A9;have L9:fQ wr (.slice H q.length E) q.length (dM q) (dM [48,10]) v9 w9:=fQ.of rfl A9;obtain ⟨L,m2,m3,m4⟩:=MR.out v9 w9 L9;obtain ⟨O,N,C⟩:=dH A9.own;have ag:v9=.slice O (q.length + 2) N:=C;clear C;subst ag;have J:=hide L;clear A9 L9 L QO MR P;go_upto_region 9 with fail
   generalize aF:w9.setCell ⟨sb,1,none⟩ (.slice O (q.length + 2) N)=W2 at J ⊢;clear aF m2 m3 m4;obtain ⟨y,cb,U,c0,qw⟩:=ac.out _ _ J.out;have c1:=J.out.cell1.1;rw [U] at c1;have ab:=hide qw;rw [U] at ab;clear J qw ac U;have mw:=Dc;generalize (q ++ [48,10]).length=len at c1 ab
   go_region_with (go_at_call 273;refine (ab.out _ (by first | exact bR | exact bR.drew)).mono ?_;rintro e7 w7 ⟨nn,rfl,am,ai⟩;have C7:=hide am;have T7:=hide ai;clear am ai;simp only [])
   all_goals
    go_wp2;go_ret
    rw [HB.out] at T7;exact ⟨rfl,C7.out,_,T7.out⟩
end
end
end So
end Go.Proofs.YtceahffmenbibaaGreatDoor
