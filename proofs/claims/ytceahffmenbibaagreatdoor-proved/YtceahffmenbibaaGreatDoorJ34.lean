/- Slew Sstp Ttxt Tgiv. -/
import Derived.Test.YtceahffmenbibaaGreatDoorJ33
import Derived.Test.YtceahffmenbibaaGreatDoorJ28
import Derived.Test.YtceahffmenbibaaGreatDoorJ06
import Derived.Lib.SlicesCompact
set_option linter.unusedVariables false
set_option linter.unusedSimpArgs false
set_option maxHeartbeats 4000000
set_option maxRecDepth 100000
namespace Go.Proofs.YtceahffmenbibaaGreatDoor
namespace So
section
open Go Go.RowKit Go.Deep Rd
section
variable {Z:Nat->Prop} {sb ob hb kb n:Nat} {L0:List Cl} {N0:Nat} {w0 w w':World} {s:St}
theorem pU (w:World) (j:Nat):Below w.heap.size w (w.drewN j):=⟨rfl,rfl,rfl,lr,fun _ _=>rfl⟩
def Dh (Z:Nat->Prop) (sb ob hb kb n:Nat) (L0:List Cl) (N0:Nat) (Q:St->Prop):Prop:=
 ∀ w s,Main Z sb ob hb kb n L0 N0 false w s->Ready s->Q s->Calls Tryz.prog 145 #[.pointer (some ⟨sb,0,none⟩)] w fun e w'=>e=.returned .nilIface/\dD Z w w'/\∃ s',Main Z sb ob hb kb n L0 N0 false w' s'/\Ready s'/\s'.k=s.k/\s'.m=s.m/\s'.r=s.r/\(s.lc <= s.mo->s'.mo=s.mo)/\s'.mo <= s.mo + 100/\s'.ch=s.ch
theorem CJ:Dh Z sb ob hb kb n L0 N0 (fun s=>s.lc <= s.mo/\s.mo <= 4611686018427387904):=fun w s h hr ⟨hq,hq2⟩=>by
 have b:=(h.dN.duo.dM.head 3 (by omega)).1;have a:=(h.dN.duo.dM.head 18 (by omega)).1;rw [h.f3] at b;rw [h.f18] at a;have F:Hid (∀ j,Main Z sb ob hb kb n L0 N0 false (w.drewN j) s/\dD Z w (w.drewN j)):=fun j=>⟨h.later (pU w j),dD.of_below (pU w j)⟩
 have c:(s.lc:Int) <= (s.mo:Int):=by omega
 clear h;go_enter Tryz.func145,Tryz.ntmps145
 go_upto_region 1 with fail
 go_quiet (fail)
 go_wp2;go_ret
 exact ⟨rfl,(F.out _).2,s,(F.out _).1,hr,rfl,rfl,rfl,by intros;rfl,by omega,rfl⟩
theorem Kn {Q:St->Prop} (h:Main Z sb ob hb kb n L0 N0 false w s) (S:n <= 50) (hN:(enc s.cs).length <= 1000000000000) (hm:s.m <= 22000000000) (hr:s.r <= 134217727) {k:Nat} (hk:k < s.cs.length) (al:(s.cs[k]).kind ≠ 2) (hd:0 < s.ch.length) (hf:∀ y ∈ (s.cs[k]).lits,op y ∈ s.tr) {y0:Nat} (ah:y0 ∈ (s.cs[k]).lits) (ak:s.lev (y0 / 2)=s.ch.length)
  (FG:Dh Z sb ob hb kb n L0 N0 Q) (hQ:∀ j,j.k=s.k + 1->j.m=s.m + 1->j.r=s.r->j.lc=s.lc + 1->j.mo=s.mo->Q j):
  Calls Tryz.prog 101 #[.pointer (some ⟨sb,0,none⟩),.int .i64 ((dU s.cs k:Nat):Int)] w fun e w'=>e=.returned .nilIface/\dD Z w w'/\∃ j,Main Z sb ob hb kb n L0 N0 false w' j/\Ready j/\j.k=s.k + 1/\j.m=s.m + 1/\j.r=s.r/\(s.lc + 1 <= s.mo->j.mo=s.mo)/\j.mo <= s.mo + 100/\j.ch.length < s.ch.length:=by
 obtain ⟨am,an,ay,az,M1⟩:=h.VR;have ai:Lb.lub s.r s.r <= 134217727:=by
  rcases Nat.eq_zero_or_pos s.r with e | e
  ·rw [e];simp [Lb.lub]
  ·exact Nat.le_trans (GY s.r s.r e (by omega)) (by omega)
 have aq:=h.km;have QE:=hide (fun i Rs Rd (M:Mid Z sb ob hb kb n w s (dW s.ls) i s.cs (upd s.f 21 (.int .i64 (((50 * Lb.lub s.r s.r:Nat):Int) - ((s.k:Nat):Int) - 1))) s.V s.X Rs s.Ro Rd s.Rk)=>VQ h S hN hk hd hf ah ak M);have QS:=hide (fun i (M:Uf Z sb ob hb kb n w s (s.cs[k]).lits hd i)=>VP h S hN M);have QP:=hide (fun i (M:Ue Z sb ob hb kb n w s (s.cs[k]).lits hd i)=>VO h S hk al hf M);have HD:=hide (fun i x z d l (M:De Z sb ob hb kb n w s x z d l i)=>M.head);have QA:=hide (fun i x z d (M:De Z sb ob hb kb n w s x z d (dW s.ls) i) v hv=>VN h S hm M (v:=v) hv);have QB:=hide (fun i x z d (M:De Z sb ob hb kb n w s x z d (dW (s.ls ++ [(false,x :: z)])) i) v hv=>VM h S M (v:=v) hv);have QC:=hide (fun i x z d v (M:OP Z sb ob hb kb n w s x z d v i)=>VK h S hN hm M);have QW:=hide (fun i x q r d v (M:F6 Z sb ob hb kb n w s x (q :: r) d v i)=>VJ h S hN M);have QG:=hide (fun i x z d v (M:F5 Z sb ob hb kb n w s x z d v i)=>VI h S hk al hf M);have ad:=hide (fun i x d v (M:F6 Z sb ob hb kb n w s x [] d v i)=>Qs M);have QO:=hide (fun i j (hm':Main Z sb ob hb kb n L0 N0 false i j) (hr':Ready j)=>UQ hm' hr');have QF:=hide (fun i j (hm':Main Z sb ob hb kb n L0 N0 false i j) (hr':Ready j) a b c d e=>FG i j hm' hr' (hQ j a b c d e));have ar:(s.k:Int) <= 22000000000:=by omega
 have ap:((50 * Lb.lub s.r s.r:Nat):Int) <= 6710886350:=by omega
 have aj:(0:Int) <= ((50 * Lb.lub s.r s.r:Nat):Int):=by omega
 have au:(0:Int) <= (s.k:Int):=by omega
 obtain ⟨left,L⟩:∃ left:Int,left=((50 * Lb.lub s.r s.r:Nat):Int) - ((s.k:Nat):Int):=⟨_,rfl⟩;rw [<- L] at am M1 QE;have ax:left <= 6710886350:=by omega
 have aw:-22000000000 <= left:=by omega
 have ae:=hide M1;clear M1 h hf ah ak L aq ai ar ap aj au FG hQ hN hm;go_enter Tryz.func101,Tryz.ntmps101
 go_upto_region 2 with fail
 generalize av:w.setCell ⟨sb,21,none⟩ (.int .i64 (left - 1))=W1 at ae ⊢;clear av am an;go_upto_region 3 with (go_at_call 141;refine (QE.out _ _ _ ae.out).mono ?_;rintro e2 w2 ⟨rfl,m2⟩;have M2:=hide m2;clear m2;simp only [])
 clear QE ae;go_upto_region 4 with (go_at_call 142;refine (QS.out _ M2.out).mono ?_;rintro e3 w3 ⟨rfl,m3⟩;have M3:=hide m3;clear m3;simp only [])
 clear QS M2;go_upto_region 5 with (go_at_call 143;refine (QP.out _ M3.out).mono ?_;rintro e4 w4 ⟨x,z,d,rfl,m4⟩;have M4:=hide m4;obtain ⟨g7,c7,ag⟩:=HD.out _ _ _ _ _ m4;clear m4;simp only [])
 clear QP M3 HD;go_upto_region 7 with (go_at_call 100;refine (QA.out _ _ _ _ M4.out _ ag).mono ?_;rintro e5 w5 ⟨rfl,m5,q5⟩;have M5:=hide m5;clear m5;simp only [])
 clear QA M4 ag;go_upto_region 10 with (go_at_call 137;refine (QB.out _ _ _ _ M5.out _ q5).mono ?_;rintro e6 w6 ⟨rfl,m6⟩;have M6:=hide m6;clear m6;simp only [])
 clear QB M5 q5;go_upto_region 11 with (go_at_call 132;refine (QC.out _ _ _ _ _ M6.out).mono ?_;rintro e7 w7 ⟨rfl,m7⟩;have M7:=hide m7;clear m7;simp only [])
 clear QC M6;have B:Hid (∀ w8,F5 Z sb ob hb kb n w s x z d (.slice (some ⟨g7,0,none⟩) (z.length + 1) c7) w8->w8.cell? ⟨g7,0,none⟩=some (.int .i64 ((x:Nat):Int))/\∀ i,Below w8.heap.size w8 i->Calls Tryz.prog 136 #[.pointer (some ⟨sb,6,none⟩),.int .i64 ((x:Nat):Int),.int .i64 (((enc s.cs).length:Nat):Int)] i fun e w'=>e=.returned (.tuple #[])/\dD Z w w'/\∃ j,Main Z sb ob hb kb n L0 N0 false w' j/\Ready j/\OO s j):=fun w8 m8=>by
  obtain ⟨⟨g,c,hv,c0⟩,hq⟩:=QG.out _ _ _ _ _ m8;obtain ⟨y1,_,_⟩:=Value.slice.inj hv;obtain rfl:g7=g:=by have:=Option.some.inj y1;exact congrArg Addr.block this
  exact ⟨c0,hq⟩
 clear QG
 cases z with
 | nil=>
  have M8:=hide (ad.out _ _ _ _ M7.out);obtain ⟨c0,C⟩:=B.out _ M8.out;have ac:=hide C;clear QW ad M7 M8 B C;go_upto_region 13 with fail
  go_region_with (go_at_call 136;refine (ac.out _ (by first | exact bR | exact bR.drew)).mono ?_;rintro e9 w9 ⟨rfl,R,s9,u,t,N⟩;have C9:=hide R;have M9:=hide u;have R9:=hide t;have o:=hide N;obtain ⟨ao,qo⟩:=QO.out _ _ u t;have aa:=hide qo;clear R u t N qo;simp only [])
  all_goals
   go_wp2_with (first | (go_at_call 144;refine aa.out.mono ?_;rintro eA wA ⟨rfl,P,sA,K,I,-,ca,ka,Y,T,la,W⟩;have CA:=hide P;have ab:=hide (QF.out wA sA K I (ka.trans o.out.k) (Y.trans o.out.m) (T.trans o.out.r) (la.trans o.out.lc) (W.trans o.out.mo));have KA:=hide ka;have MA:=hide Y;have RA:=hide T;have LA:=hide la;have OA:=hide W;have af:=hide ca;clear P K I ka Y T la W ca;simp only []) | (go_at_call 145;refine ab.out.mono ?_;rintro eB wB ⟨rfl,O,p,J,H,G,mb,rb,E,U,D⟩;have CB:=hide O;have MB:=hide J;have RB:=hide H;have FB:Hid (p.k=s.k + 1/\p.m=s.m + 1/\p.r=s.r/\(s.lc + 1 <= s.mo->p.mo=s.mo)/\p.mo <= s.mo + 100/\p.ch.length < s.ch.length):=⟨G.trans (KA.out.trans o.out.k),mb.trans (MA.out.trans o.out.m),rb.trans (RA.out.trans o.out.r),fun hh=>(E (by rw [LA.out,OA.out,o.out.lc,o.out.mo];exact hh)).trans (OA.out.trans o.out.mo),by have e1:=OA.out;have e2:=o.out.mo;omega,by rw [D,af.out];exact o.out.ch⟩;clear O J H G mb rb E U D;simp only []))
   go_ret
   exact ⟨rfl,(C9.out.trans CA.out).trans CB.out,p,MB.out,RB.out,FB.out⟩
 | cons q r=>
  have rl:(2:Int) <= ((r.length + 1 + 1:Nat):Int):=by omega
  go_upto_region 13 with (go_at_call 133;refine (QW.out _ _ _ _ _ _ M7.out).mono ?_;rintro e8 w8 ⟨rfl,m8⟩;have M8:=hide m8;clear m8;simp only [])
  obtain ⟨c0,C⟩:=B.out _ M8.out;have ac:=hide C;clear QW ad M7 M8 B C
  go_region_with (go_at_call 136;refine (ac.out _ (by first | exact bR | exact bR.drew)).mono ?_;rintro e9 w9 ⟨rfl,R,s9,u,t,N⟩;have C9:=hide R;have M9:=hide u;have R9:=hide t;have o:=hide N;obtain ⟨ao,qo⟩:=QO.out _ _ u t;have aa:=hide qo;clear R u t N qo;simp only [])
  all_goals
   go_wp2_with (first | (go_at_call 144;refine aa.out.mono ?_;rintro eA wA ⟨rfl,P,sA,K,I,-,ca,ka,Y,T,la,W⟩;have CA:=hide P;have ab:=hide (QF.out wA sA K I (ka.trans o.out.k) (Y.trans o.out.m) (T.trans o.out.r) (la.trans o.out.lc) (W.trans o.out.mo));have KA:=hide ka;have MA:=hide Y;have RA:=hide T;have LA:=hide la;have OA:=hide W;have af:=hide ca;clear P K I ka Y T la W ca;simp only []) | (go_at_call 145;refine ab.out.mono ?_;rintro eB wB ⟨rfl,O,p,J,H,G,mb,rb,E,U,D⟩;have CB:=hide O;have MB:=hide J;have RB:=hide H;have FB:Hid (p.k=s.k + 1/\p.m=s.m + 1/\p.r=s.r/\(s.lc + 1 <= s.mo->p.mo=s.mo)/\p.mo <= s.mo + 100/\p.ch.length < s.ch.length):=⟨G.trans (KA.out.trans o.out.k),mb.trans (MA.out.trans o.out.m),rb.trans (RA.out.trans o.out.r),fun hh=>(E (by rw [LA.out,OA.out,o.out.lc,o.out.mo];exact hh)).trans (OA.out.trans o.out.mo),by have e1:=OA.out;have e2:=o.out.mo;omega,by rw [D,af.out];exact o.out.ch⟩;clear O J H G mb rb E U D;simp only []))
   go_ret
   exact ⟨rfl,(C9.out.trans CA.out).trans CB.out,p,MB.out,RB.out,FB.out⟩
end
section
variable {Z:Nat->Prop} {sb ob hb kb n:Nat} {L0:List Cl} {N0:Nat} {brk:Bool} {w0 w w':World} {s:St}
def rP (Z:Nat->Prop) (kb n:Nat) (L0:List Cl) (mx:Nat) (w:World):Prop:=
 ∃ (ls:List (Bool × List Nat)) (L:List Cl),nE Z kb w (dW ls ++ [48,10])/\nW L0 (ls.map fun l=>(l.1,l.2.map wr)) L/\Dq L []/\(∀ l ∈ ls,∀ x ∈ l.2,x < 2 * n)/\(dW ls).length <= 250 * mx
def Going (s s':St):Prop:=
 (s'.k=s.k + 1/\s'.m=s.m + 1/\s'.r=s.r/\(s.lc + 1 <= s.mo->s'.mo=s.mo)/\s'.mo <= s.mo + 100/\s'.ch.length < s.ch.length)\/(s'.r=s.r + 1/\s'.k=0/\s'.m=s.m/\s'.mo=s.mo/\50 * Lb.lub s.r s.r <= s.k)\/(s'.k=s.k/\s'.m=s.m/\s'.r=s.r/\s'.mo=s.mo/\s.tr.length < s'.tr.length/\s.k < 50 * Lb.lub s.r s.r)
structure V7 (s s':St):Prop where
 k:s'.k=s.k
 m:s'.m=s.m
 r:s'.r=s.r
 lc:s'.lc=s.lc
 mo:s'.mo=s.mo
 ch:s'.ch=s.ch
 tr:s.tr.length <= s'.tr.length
theorem Main.UB (h:Main Z sb ob hb kb n L0 N0 brk w s) (a:Ready s):qV (zz s.Rs w) sb w (16 + 2 * n) s.f s.X n s.ch s.cs s.tr s.sp s.cs s.tr s.lev s.dB s.wl s.f s.V s.X w where
 pi:=by have:=h.pi;rw [show s.P=s.sp from a] at this;exact this
 dM:=h.dN.duo.dM
 x0:=h.x0
 iD:=h.iD
 jk:=h.jk
 perm:=iA.refl _
 only:=fun _ _ _ _=>rfl
 ff:=fun _ _ _=>rfl
 f7:=h.f7
 Gg:=h.Gg
 late:=by have:=h.late;rw [show s.P=s.sp from a] at this;exact this
 ext:=⟨[],by simp⟩
 fV:=dD.refl _
def yY (Z:Nat->Prop) (sb ob hb kb n:Nat) (L0:List Cl) (N0:Nat) (brk:Bool) (w:World) (s:St) (res:Int) (w':World) (s':St):Prop:=
 Main Z sb ob hb kb n L0 N0 brk w' s'/\dD Z w w'/\V7 s s'/\((res=-1/\Ready s'/\s'.P=s'.tr.length)\/∃ k,∃ hk:k < s'.cs.length,res=((dU s'.cs k:Nat):Int)/\(s'.cs[k]).kind ≠ 2/\(∀ y ∈ (s'.cs[k]).lits,op y ∈ s'.tr)/\∃ y ∈ (s'.cs[k]).lits,s'.lev (y / 2)=s'.ch.length)
theorem vJ (h:Main Z sb ob hb kb n L0 N0 brk w s) (o:Ready s) (p:n <= 50) (y:(enc s.cs).length <= 1000000000000):
  Calls Tryz.prog 98 #[.pointer (some ⟨sb,0,none⟩)] w fun e w'=>∃ a f,e=.returned (.int .i64 a)/\yY Z sb ob hb kb n L0 N0 brk w s a w' f:=by
 refine (pq (h.UB o) rfl p (by omega)).mono ?_;rintro e w' ⟨a,P,x,t,v,m,i,u,z,D,C,rfl,g⟩;obtain ⟨l,j⟩:=h.spread g;refine ⟨a,_,rfl,l,j,⟨rfl,rfl,rfl,rfl,rfl,rfl,by obtain ⟨B,rfl⟩:=g.ext;simp⟩,?_⟩
 rcases g.res with ⟨d,b,c⟩ | ⟨k,q,d,b,c,r⟩
 ·exact .inl ⟨d,b.trans c.symm,b⟩
 ·exact .inr ⟨k,q,d,b,c,r⟩
theorem xQ (h:Main Z sb ob hb kb n L0 N0 brk w s) (a:n <= 50) (p:s.m <= 22000000000) (f:Dq s.L []):
  Calls Tryz.prog 100 #[.pointer (some ⟨sb,0,none⟩),.slice none 0 0] w fun e w'=>e=.returned .nilIface/\dD Z w w'/\rP Z kb n L0 s.m w':=by
 have o:=h.Vh;refine (uu (c:=[]) h.dN a h.f0 (.slice none 0 0) ⟨none,0,0,0,rfl,fun _=>rfl,fun h=>by simp at h⟩ (by simp) (by simp) (by omega)).mono ?_;rintro e w' ⟨rfl,d,l,q,i,k,j,T⟩;refine ⟨rfl,d,s.ls,s.L,?_,h.lines,f,h.Lf,h.Vh⟩;have:=T.L6.JS (Z':=Z) (fun g _ b=>T.wW T.zk g b) T.az;exact this
theorem Gy (h:Main Z sb ob hb kb n L0 N0 brk w s) (hd:s.ch=[]) {k:Nat} (d:k < s.cs.length) (a:(s.cs[k]).kind ≠ 2) (e:∀ y ∈ (s.cs[k]).lits,op y ∈ s.tr):Dq s.L []:=by
 have b:=h.pi.dN;have c:=h.pi.qg;rw [hd] at b c;exact Ak (xR b c h.Cr.hL (h.Cr.hL _ _ (eP d) a) e)
theorem yT (h:Main Z sb ob hb kb n L0 N0 brk w s) (Q:Ready s) (S:n <= 50) (p:s.r < 134217727):
  Calls Tryz.prog 97 #[.pointer (some ⟨sb,0,none⟩)] w fun e w'=>e=.returned (.tuple #[])/\dD Z w w'/\∃ b,Main Z sb ob hb kb n L0 N0 brk w' b/\Ready b/\b.r=s.r + 1/\b.k=0/\b.m=s.m/\b.mo=s.mo/\b.lc=s.lc:=by
 refine (KZ h.dN.duo S h.iD h.pi.dN h.lam h.f20 p).mono ?_;rintro e w' ⟨rfl,W,w1,c,V1,X1,a,aa,I,t,A,H,D⟩;obtain ⟨N,M⟩:=h.dN.xx D W;have o:∃ (sp:Nat),c 7=.int .i64 ((sp:Nat):Int)/\sp <= (s.tr.take t).length/\PI n (mapOf s.cs) (s.tr.take t) [] s.lev s.dB s.wl sp/\(brk=false->wR (mapOf s.cs) (s.tr.take t) s.lev)/\∀ v,v < n->a v->∃ x ∈ s.tr.take t,x / 2=v:=by
  rcases A.how with ⟨e1,G,E,C⟩ | ⟨hd,G,E,C⟩
  ·subst G E;rw [List.take_length];have l:=h.pi;rw [e1] at l;refine ⟨s.sp,C.trans h.f7,h.Gg,?_,h.Dk,h.sQ⟩;rw [<- show s.P=s.sp from Q];exact l
  ·subst G E;have U:s.ch[0] < s.tr.length:=h.pi.dN.gY.2 _ (List.getElem_mem hd);have L:s.ch.take 0=[]:=List.take_zero;refine ⟨s.ch[0],C,by rw [List.length_take];omega,⟨L ▸ h.pi.dN.back hd,L ▸ h.pi.qg.back h.pi.dN hd,h.pi.oC,h.pi.qj,h.pi.zn.back h.pi.dN hd (h.late _ (List.getElem_mem hd))⟩,fun hb=>(h.Dk hb).back h.pi.dN hd,fun v O K=>?_⟩;obtain ⟨y,d,e⟩:=h.sQ v O K.1;rw [<- List.take_append_drop s.ch[0] s.tr] at d
   rcases List.mem_append.1 d with d | d
   ·exact ⟨y,d,e⟩
   ·exact absurd e (K.2 y d)
 obtain ⟨sp,b1,b2,b3,b4,b5⟩:=o;have J:∀ j,j ≠ 20->j ≠ 21->upd (upd c 20 (.int .i64 ((s.r + 1:Nat):Int))) 21 (.int .i64 ((50 * Lb.lub (s.r + 1) (s.r + 1):Nat):Int)) j=c j:=fun j z u=>(cu _ _ u).trans (cu _ _ z)
 have i:∀ j,j ≠ 20->j ≠ 21->j ≠ 6->j ≠ 7->j ≠ 8->upd (upd c 20 (.int .i64 ((s.r + 1:Nat):Int))) 21 (.int .i64 ((50 * Lb.lub (s.r + 1) (s.r + 1):Nat):Int)) j=s.f j:=fun j z u h3 h4 Y=>(J j z u).trans (A.kf j h3 h4 Y)
 refine ⟨rfl,M,{ s with tr:=s.tr.take t,ch:=[],P:=sp,sp:=sp,f:=upd (upd c 20 (.int .i64 ((s.r + 1:Nat):Int))) 21 (.int .i64 ((50 * Lb.lub (s.r + 1) (s.r + 1):Nat):Int)),V:=V1,X:=X1,gone:=a,k:=0,r:=s.r + 1,Rs:=H,Ro:=I,Rd:=(fun g=>zz s.Rd w g/\g < w'.heap.size) },{
  dN:=N
  pi:=b3
  x0:=(A.kx 0 (by decide) (by decide) (by decide) (by decide)).trans h.x0
  iD:=A.iD
  jk:=h.jk.congr (A.kx 9 (by decide) (by decide) (by decide) (by decide)) (fun x _=>A.kv _ (by omega) (by omega)) fun x _=>A.kx _ (by omega) (by omega) (by omega) (by omega)
  lam:=A.lam
  n10:=(congrArg List.length (A.kx 10 (by decide) (by decide) (by decide) (by decide))).trans h.n10
  p9:=by
   obtain ⟨B,T⟩:=h.p9;exact ⟨B,T.congr (A.kx 11 (by decide) (by decide) (by decide) (by decide))⟩
  f0:=(i 0 (by decide) (by decide) (by decide) (by decide) (by decide)).trans h.f0
  f3:=(i 3 (by decide) (by decide) (by decide) (by decide) (by decide)).trans h.f3
  f4:=(i 4 (by decide) (by decide) (by decide) (by decide) (by decide)).trans h.f4
  f7:=(J 7 (by decide) (by decide)).trans b1
  f14:=(i 14 (by decide) (by decide) (by decide) (by decide) (by decide)).trans h.f14
  f18:=(i 18 (by decide) (by decide) (by decide) (by decide) (by decide)).trans h.f18
  f20:=by
   show upd (upd c 20 (.int .i64 ((s.r + 1:Nat):Int))) 21 (.int .i64 ((50 * Lb.lub (s.r + 1) (s.r + 1):Nat):Int)) 20=Value.int .i64 ((s.r + 1:Nat):Int)
   rw [cu _ _ (by decide),cK]
  f21:=by
   show upd (upd c 20 (.int .i64 ((s.r + 1:Nat):Int))) 21 (.int .i64 ((50 * Lb.lub (s.r + 1) (s.r + 1):Nat):Int)) 21=Value.int .i64 (((50 * Lb.lub (s.r + 1) (s.r + 1):Nat):Int) - ((0:Nat):Int))
   rw [cK];congr 1
  Gg:=b2
  late:=fun q R=>by cases R
  sQ:=b5
  Dk:=b4
  bad:=h.bad
  lines:=h.lines
  Lf:=h.Lf
  Cr:=h.Cr
  Jd:=h.Jd
  num:=h.num
  Le:=h.Le
  cnt:=h.cnt
  Lj:=h.Lj
  ic:=zl
  lcm:=h.lcm
  km:=zl
  n30:=h.n30 },rfl,rfl,rfl,rfl,rfl,rfl⟩
theorem LC (h:Main Z sb ob hb kb n L0 N0 false w s) (K:Ready s) (hP:s.P=s.tr.length) (L:n <= 50):
  Calls Tryz.prog 102 #[.pointer (some ⟨sb,0,none⟩)] w fun e w'=>dD Z w w'/\((e=.returned (.bool false)/\(∀ v,v < n->∃ x ∈ s.tr,x / 2=v)/\∃ a,Main Z sb ob hb kb n L0 N0 false w' a/\a.tr=s.tr/\a.cs=s.cs/\a.lev=s.lev/\a.P=s.P/\a.m=s.m)\/(e=.returned (.bool true)/\∃ a,Main Z sb ob hb kb n L0 N0 false w' a/\Ready a/\a.k=s.k/\a.m=s.m/\a.r=s.r/\a.mo=s.mo/\s.tr.length < a.tr.length)):=by
 refine (Bw h.dN.duo L h.iD h.pi.dN h.lam h.sQ).mono ?_
 rintro e w' ⟨G,⟨rfl,c,fu,i,l,D⟩ | ⟨x,fu,i,l,u,y,rfl,E,t,O,D⟩⟩
 ·obtain ⟨B,z⟩:=h.dN.xx D G
  refine ⟨z,.inl ⟨rfl,c,{ s with gone:=fu,Rs:=i,Ro:=l,Rd:=(fun g=>zz s.Rd w g/\g < w'.heap.size) },{ h with dN:=B,sQ:=fun v J _=>c v J },rfl,rfl,rfl,rfl,rfl⟩⟩
 ·obtain ⟨B,z⟩:=h.dN.xx D G;have H:(s.X 2).length=s.ch.length:=by rw [h.iD.l2,dh]
  have I:(s.X 1).length=s.tr.length:=by rw [h.iD.l1,dh]
  have b:∀ j,j ≠ 8->j ≠ 6->upd (upd s.f 8 u) 6 y j=s.f j:=fun j R Q=>(cu _ _ Q).trans (cu _ _ R)
  have o:∀ j,j ≠ 1->j ≠ 2->j ≠ 3->j ≠ 4->j ≠ 5->fe (upd s.X 2 (s.X 2 ++ [.int .i64 ((s.X 1).length:Nat)])) x (-1) ((s.X 2).length + 1) j=s.X j:=fun j Y W U T S=>(ik _ _ _ _ Y U T S).trans (cu _ _ W)
  refine ⟨z,.inr ⟨rfl,{ s with tr:=s.tr ++ [x],ch:=s.ch ++ [s.tr.length],lev:=eu s.lev (x / 2) (s.ch.length + 1),dB:=eu s.dB (x / 2) (-1),f:=upd (upd s.f 8 u) 6 y,V:=upd (upd s.V 2 u) 1 y,X:=fe (upd s.X 2 (s.X 2 ++ [.int .i64 ((s.X 1).length:Nat)])) x (-1) ((s.X 2).length + 1),gone:=fu,Rs:=i,Ro:=l,Rd:=(fun g=>zz s.Rd w g/\g < w'.heap.size) },{
   dN:=B
   pi:=⟨h.pi.dN.choose E t,h.pi.qg.choose h.pi.dN t,h.pi.oC,h.pi.qj,h.pi.zn.assign (by show s.P <= s.tr.length;omega) t⟩
   x0:=(o 0 (by decide) (by decide) (by decide) (by decide) (by decide)).trans h.x0
   iD:=by
    have:=h.iD.assign (X':=upd s.X 2 (s.X 2 ++ [.int .i64 ((s.X 1).length:Nat)])) (ch':=s.ch ++ [s.tr.length]) E t (-1) (d:=(s.X 2).length + 1) (by rw [cK,h.iD.l2,I,je];rfl) (fun k M=>cu _ _ M);rw [H] at this ⊢;exact this
   jk:=h.jk.congr (o 9 (by decide) (by decide) (by decide) (by decide) (by decide)) (fun x _=>(cu _ _ (by omega)).trans (cu _ _ (by omega))) fun x _=>o _ (by omega) (by omega) (by omega) (by omega) (by omega)
   lam:=h.lam.congr (o 6 (by decide) (by decide) (by decide) (by decide) (by decide))
   n10:=(congrArg List.length (o 10 (by decide) (by decide) (by decide) (by decide) (by decide))).trans h.n10
   p9:=by
    obtain ⟨C,N⟩:=h.p9;exact ⟨C,N.congr (o 11 (by decide) (by decide) (by decide) (by decide) (by decide))⟩
   f0:=(b 0 (by decide) (by decide)).trans h.f0
   f3:=(b 3 (by decide) (by decide)).trans h.f3
   f4:=(b 4 (by decide) (by decide)).trans h.f4
   f7:=(b 7 (by decide) (by decide)).trans h.f7
   f14:=(b 14 (by decide) (by decide)).trans h.f14
   f18:=(b 18 (by decide) (by decide)).trans h.f18
   f20:=(b 20 (by decide) (by decide)).trans h.f20
   f21:=(b 21 (by decide) (by decide)).trans h.f21
   Gg:=by show s.sp <= (s.tr ++ [x]).length;have:=h.Gg;simp;omega
   late:=fun q p=>by
    rcases List.mem_append.1 p with p | p
    ·exact h.late q p
    ·simp at p;show q <= s.P;omega
   sQ:=O
   Dk:=fun _=>(h.Dk rfl).assign t
   bad:=fun e=>by cases e
   lines:=h.lines
   Lf:=h.Lf
   Cr:=h.Cr
   Jd:=h.Jd
   num:=h.num
   Le:=h.Le
   cnt:=h.cnt
   Lj:=h.Lj
   ic:=by
    show 2 * s.k <= ic n (bits (s.tr ++ [x]).length (s.ch ++ [s.tr.length]))
    rw [List.length_append];exact Ea h.pi.dN.gY.2 h.ic
   lcm:=h.lcm
   km:=h.km
   n30:=h.n30 },K,rfl,rfl,rfl,rfl,by show s.tr.length < (s.tr ++ [x]).length;simp⟩⟩
def jv (Z:Nat->Prop) (sb ob hb kb n:Nat) (L0:List Cl) (N0:Nat) (w:World) (s:St) (e:Ending) (w':World):Prop:=
 dD Z w w'/\((e=.returned (.tuple #[.int .i64 2,.nilIface])/\rP Z kb n L0 s.m w')\/(e=.returned (.tuple #[.int .i64 0,.nilIface])/\∃ s',Main Z sb ob hb kb n L0 N0 false w' s'/\Ready s'/\Going s s') \/
  (e=.returned (.tuple #[.int .i64 1,.nilIface])/\∃ s',Main Z sb ob hb kb n L0 N0 false w' s'/\(∀ v,v < n->∃ x ∈ s'.tr,x / 2=v)/\s'.P=s'.tr.length/\s'.m=s.m))
theorem DU (h:Main Z sb ob hb kb n L0 N0 true w s) (l:Ready s) (o:n <= 50) (r:(enc s.cs).length <= 1000000000000) (q:s.m <= 22000000000):
  Calls Tryz.prog 57 #[.pointer (some ⟨sb,0,none⟩)] w fun e w'=>jv Z sb ob hb kb n L0 N0 w s e w':=by
 have u:=hide (vJ h l o r);have i:Hid (∀ a b g,yY Z sb ob hb kb n L0 N0 true w s a b g->b.cell? ⟨sb,14,none⟩=some (.bool true)/\Calls Tryz.prog 100 #[.pointer (some ⟨sb,0,none⟩),.slice none 0 0] b fun e w'=>e=.returned .nilIface/\dD Z w w'/\rP Z kb n L0 s.m w'):=fun a b g ⟨m1,c1,k1,_⟩=>by
  refine ⟨?_,(xQ m1 o (by rw [k1.m];exact q) (m1.bad rfl)).mono ?_⟩
  ·have:=(m1.dN.duo.dM.head 14 (by omega)).1;rw [m1.f14] at this;exact this
  ·rintro e w' ⟨rfl,t,k⟩;rw [k1.m] at k;exact ⟨rfl,c1.trans t,k⟩
 clear h l;go_enter Tryz.func57,Tryz.ntmps57
 go_wp2_with (first | (go_at_call 98;refine u.out.mono ?_;rintro C b ⟨a,g,rfl,c⟩;obtain ⟨p,j⟩:=i.out _ _ _ c;have v:=hide j;clear c j;simp only []) | (go_at_call 100;refine v.out.mono ?_;rintro B z ⟨rfl,f,d⟩;have y:=hide f;have x:=hide d;clear f d;simp only []))
 go_ret2
 exact ⟨y.out,.inl ⟨rfl,x.out⟩⟩
theorem LY {Q:St->Prop} (h:Main Z sb ob hb kb n L0 N0 false w s) (hr:Ready s) (M:n <= 50) (hN:N0 + 33 * s.m <= 1000000000000) (hm:s.m <= 22000000000) (ab:s.r < 134217727) (FG:Dh Z sb ob hb kb n L0 N0 Q) (hQ:∀ x,x.k=s.k + 1->x.m=s.m + 1->x.r=s.r->x.lc=s.lc + 1->x.mo=s.mo->Q x):
  Calls Tryz.prog 57 #[.pointer (some ⟨sb,0,none⟩)] w fun e w'=>jv Z sb ob hb kb n L0 N0 w s e w':=by
 have QS:=hide (vJ h hr M (Nat.le_trans h.num hN));have HE:Hid (∀ f,V7 s f->Main Z sb ob hb kb n L0 N0 false w s->True):=fun _ _ _=>trivial
 have W:Hid (∀ j f,Main Z sb ob hb kb n L0 N0 false j f->j.cell? ⟨sb,14,none⟩=some (.bool false)/\(∃ a c,j.cell? ⟨sb,8,none⟩=some (.slice a f.ch.length c))/\j.cell? ⟨sb,21,none⟩=some (.int .i64 (((50 * Lb.lub f.r f.r:Nat):Int) - ((f.k:Nat):Int)))):=fun j f o=>by
  refine ⟨?_,?_,?_⟩
  ·have:=(o.dN.duo.dM.head 14 (by omega)).1;rw [o.f14] at this;exact this
  ·obtain ⟨y,q,R⟩:=o.dN.duo.dM.fG.shape (k:=2) (by omega);have q2:=(o.dN.duo.dM.hd (k:=2) (by omega)).1;rw [show cellOf 2=8 from rfl,R,o.iD.l2,dh] at q2;exact ⟨y,q,q2⟩
  ·have:=(o.dN.duo.dM.head 21 (by omega)).1;rw [o.f21] at this;exact this
 have ah:Hid (∀ f,V7 s f->f.r=s.r/\f.k=s.k):=fun f g=>⟨g.r,g.k⟩
 have V:Hid (∀ j f,yY Z sb ob hb kb n L0 N0 false w s (-1) j f->Ready f->f.P=f.tr.length->50 * Lb.lub f.r f.r <= f.k->Calls Tryz.prog 97 #[.pointer (some ⟨sb,0,none⟩)] j fun e w'=>e=.returned (.tuple #[])/\jv Z sb ob hb kb n L0 N0 w s (.returned (.tuple #[.int .i64 0,.nilIface])) w'):=fun j f ⟨o,t,g,_⟩ r1 p1 H=>by
  refine (yT o r1 M (by rw [g.r];exact ab)).mono ?_;rintro e w' ⟨rfl,q,C,D,K,z,y,J,E,_⟩;exact ⟨rfl,t.trans q,.inr (.inl ⟨rfl,C,D,K,.inr (.inl ⟨by rw [z,g.r],y,by rw [J,g.m],by rw [E,g.mo],by rw [<- g.r,<- g.k];exact H⟩)⟩)⟩
 have S:Hid (∀ j f,yY Z sb ob hb kb n L0 N0 false w s (-1) j f->Ready f->f.P=f.tr.length->¬ 50 * Lb.lub f.r f.r <= f.k->Calls Tryz.prog 102 #[.pointer (some ⟨sb,0,none⟩)] j fun e w'=>(e=.returned (.bool false)/\jv Z sb ob hb kb n L0 N0 w s (.returned (.tuple #[.int .i64 1,.nilIface])) w')\/(e=.returned (.bool true)/\jv Z sb ob hb kb n L0 N0 w s (.returned (.tuple #[.int .i64 0,.nilIface])) w')):=fun j f ⟨o,t,g,_⟩ r1 p1 hnl=>by
  refine (LC o r1 p1 M).mono ?_
  rintro e w' ⟨q,⟨rfl,O,C,D,z,y,J,E,X⟩ | ⟨rfl,C,D,K,z,y,J,E,X⟩⟩
  ·exact .inl ⟨rfl,t.trans q,.inr (.inr ⟨rfl,C,D,by rw [z];exact O,by rw [E,z];exact p1,by rw [X,g.m]⟩)⟩
  ·exact .inr ⟨rfl,t.trans q,.inr (.inl ⟨rfl,C,D,K,.inr (.inr ⟨by rw [z,g.k],by rw [y,g.m],by rw [J,g.r],by rw [E,g.mo],by have:=g.tr;omega,by rw [g.r,g.k] at hnl;omega⟩)⟩)⟩
 have U:Hid (∀ l j f,yY Z sb ob hb kb n L0 N0 false w s l j f->l ≠ -1->(0 <= l)/\(f.ch=[]->Calls Tryz.prog 100 #[.pointer (some ⟨sb,0,none⟩),.slice none 0 0] j fun e w'=>e=.returned .nilIface/\jv Z sb ob hb kb n L0 N0 w s (.returned (.tuple #[.int .i64 2,.nilIface])) w')/\(f.ch ≠ []->Calls Tryz.prog 101 #[.pointer (some ⟨sb,0,none⟩),.int .i64 l] j fun e w'=>e=.returned .nilIface/\jv Z sb ob hb kb n L0 N0 w s (.returned (.tuple #[.int .i64 0,.nilIface])) w')):=fun l j f ⟨o,t,g,hc⟩ hne=>by
  rcases hc with ⟨e,_⟩ | ⟨k,hk,rfl,N,hf,y0,aa,ac⟩
  ·exact absurd e hne
  ·refine ⟨by omega,fun u=>(xQ o M (by rw [g.m];exact hm) (Gy o u hk N hf)).mono ?_,fun u=>?_⟩
   ·rintro e w' ⟨rfl,q,nv⟩;rw [g.m] at nv;exact ⟨rfl,t.trans q,.inl ⟨rfl,nv⟩⟩
   ·have hd:0 < f.ch.length:=List.length_pos_iff.2 u;have ae:(enc f.cs).length <= 1000000000000:=by
     have:=o.num;rw [g.m] at this;omega
    refine (Kn o M ae (by rw [g.m];exact hm) (by rw [g.r];omega) hk N hd hf aa ac FG (fun x a b c d e=>hQ x (by rw [a,g.k]) (by rw [b,g.m]) (by rw [c,g.r]) (by rw [d,g.lc]) (by rw [e,g.mo]))).mono ?_;rintro e w' ⟨rfl,q,C,D,K,z,y,J,E,X,a6⟩;exact ⟨rfl,t.trans q,.inr (.inl ⟨rfl,C,D,K,.inl ⟨by rw [z,g.k],by rw [y,g.m],by rw [J,g.r],fun hh=>(E (by rw [g.lc,g.mo];exact hh)).trans g.mo,by rw [<- g.mo];exact X,by rw [<- g.ch];exact a6⟩⟩)⟩
 generalize jv Z sb ob hb kb n L0 N0 w s=RR at *
 clear FG hQ;go_enter Tryz.func57,Tryz.ntmps57
 go_upto_region 2 with (go_at_call 98;refine QS.out.mono ?_;rintro e1 j ⟨l,f,rfl,L⟩;have v:=hide L;clear L;simp only [])
 obtain ⟨aj,⟨a8,c8,q8⟩,ai⟩:=W.out _ _ v.out.1;have T:Hid (Calls Tryz.prog 99 #[.pointer (some ⟨sb,6,none⟩)] j fun e w'=>e=.returned (.int .i64 (f.ch.length:Nat))/\w'=j):=mH sb 6 f.ch.length c8 j a8 q8;clear QS W HE ah h q8;by_cases p:l=-1
 ·subst p
  obtain ⟨o,t,g,I | ⟨k,hk,e,_⟩⟩:=v.out
  ·have G:=hide (S.out _ _ v.out I.2.1 I.2.2);by_cases H:50 * Lb.lub f.r f.r <= f.k
   ·have ag:=hide (V.out _ _ v.out I.2.1 I.2.2 H);have ad:((50 * Lb.lub f.r f.r:Nat):Int) - ((f.k:Nat):Int) <= 0:=by omega
    generalize ((50 * Lb.lub f.r f.r:Nat):Int) - ((f.k:Nat):Int)=left at *
    clear v o t g I S G V U T H;go_wp2_with (go_at_call 97;refine ag.out.mono ?_;rintro R Y ⟨rfl,i⟩;have B:=hide i;clear i;simp only [])
    exact B.out
   ·have ad:¬ ((50 * Lb.lub f.r f.r:Nat):Int) - ((f.k:Nat):Int) <= 0:=by omega
    generalize ((50 * Lb.lub f.r f.r:Nat):Int) - ((f.k:Nat):Int)=left at *
    have af:=hide (G.out H);clear v o t g I S V U T G H;go_upto_region 9 with fail
    go_wp2_with (go_at_call 102;refine af.out.mono ?_;rintro R Y (⟨rfl,i⟩ | ⟨rfl,i⟩) <;> (have B:=hide i;clear i;simp only []))
    ·exact B.out
    ·exact B.out
  ·omega
 ·obtain ⟨r0,qn,ql⟩:=U.out _ _ _ v.out p;have al:(l == -1)=false:=by simpa using p
  have ak:(l != -1)=true:=by simpa using p
  by_cases u:f.ch=[]
  ·have QN:=hide (qn u);rw [u] at T;clear v S V U qn ql u
   go_wp2_with (first | (go_at_call 99;refine T.out.mono ?_;rintro e3 w3 ⟨rfl,rfl⟩;simp only []) | (go_at_call 100;refine QN.out.mono ?_;rintro R Y ⟨rfl,i⟩;have B:=hide i;clear i;simp only []))
   exact B.out
  ·have QL:=hide (ql u);have hd:((f.ch.length:Int) == 0)=false:=by simpa using u
   clear v S V U qn ql
   go_wp2_with (first | (go_at_call 99;refine T.out.mono ?_;rintro e3 w3 ⟨rfl,rfl⟩;simp only []) | (go_at_call 101;refine QL.out.mono ?_;rintro R Y ⟨rfl,i⟩;have B:=hide i;clear i;simp only []))
   exact B.out
end
end
section
open Rd
def pW (n:Nat) (x:Int):Prop:=x ≠ 0/\x.natAbs <= n
theorem uW {n:Nat} {x:Int} (h:pW n x):∃ y,y < 2 * n/\wr y=x:=by
 obtain ⟨c,b⟩:=h;by_cases a:0 < x
 ·refine ⟨2 * (x.natAbs - 1),by omega,?_⟩;unfold wr;rw [if_pos (by omega)];omega
 ·refine ⟨2 * (x.natAbs - 1) + 1,by omega,?_⟩;unfold wr;rw [if_neg (by omega)];omega
def Gh (c:Cl):Bs:=c.flatMap (fun x=>Lib.itoa x ++ [32]) ++ [48,10]
def fF (n:Nat) (l:List Cl):Bs:=[112,32,99,110,102,32] ++ Lib.decDigits n ++ [32] ++ Lib.decDigits l.length ++ [10] ++ l.flatMap Gh
def uE (l:List Cl):List Bs:=l.flatMap fun c=>c.map Lib.itoa ++ [[48]]
theorem BA:∀ (tok w:Bs) (g:UInt8) (r:Bs),(∀ x ∈ tok,gap x=false)->gap g=true->w ++ tok ≠ []->gU w (tok ++ g :: r)=(w ++ tok) :: gU [] r
 | [],w,g,r,h,hg,hn=>by
  show gU w (g :: r)=_
  rw [show gU w (g :: r)=if gap g then (if w.isEmpty then gU [] r else w :: gU [] r) else gU (w ++ [g]) r from rfl,hg,if_pos rfl,if_neg (by simpa using hn),List.append_nil]
 | x :: tok,w,g,r,h,hg,hn=>by
  show gU w (x :: (tok ++ g :: r))=_
  rw [show gU w (x :: (tok ++ g :: r))=if gap x then (if w.isEmpty then gU [] (tok ++ g :: r) else w :: gU [] (tok ++ g :: r)) else gU (w ++ [x]) (tok ++ g :: r) from rfl,h x (by simp),if_neg (by simp),BA tok (w ++ [x]) g r (fun y a=>h y (by simp [a])) hg (by simp)];simp
theorem NN {t:Bs} (d:sP 32 t) (c:sP 9 t) (b:sP 10 t):∀ x ∈ t,gap x=false:=fun x a=>by
 unfold gap;rw [d x a,c x a,b x a];rfl
theorem IA {n:Nat} (f:n <= 50) (r:Bs):∀ (c:Cl),(∀ x ∈ c,pW n x)->gU [] (Gh c ++ r)=(c.map Lib.itoa ++ [[48]]) ++ gU [] r
 | [],_=>by
  show gU [] ([48] ++ 10 :: r)=_
  rw [BA [48] [] 10 r (by intro x d;simp at d;subst d;decide) (by decide) (by simp)];rfl
 | x :: c,h=>by
  obtain ⟨y,j,rfl⟩:=uW (h x (by simp));obtain ⟨_,_,a,b,_,k,_,_,g⟩:=mV f j;have e:Gh (wr y :: c) ++ r=Lib.itoa (wr y) ++ 32 :: (Gh c ++ r):=by unfold Gh;simp
  rw [e,BA _ [] 32 _ (NN a k b) (by decide) (by simpa using g),IA f r c (fun z i=>h z (by simp [i]))];rfl
theorem zX {n:Nat} (b:n <= 50):∀ (l:List Cl),(∀ c ∈ l,∀ x ∈ c,pW n x)->toks (l.flatMap Gh)=uE l
 | [],_=>rfl
 | c :: l,h=>by
  have a:=zX b l (fun d hd=>h d (by simp [hd]));unfold toks at a ⊢;rw [List.flatMap_cons,IA b _ c (h c (by simp)),a];unfold uE;rw [List.flatMap_cons]
theorem Fv {n:Nat} (e:n <= 50):∀ (c:Cl) (b:List Cl) (a:Cl),(∀ x ∈ c,pW n x)->(c.map Lib.itoa ++ [[48]]).foldl (fun d t=>if zero t then (d.1 ++ [d.2],[]) else (d.1,d.2 ++ [eQ t])) (b,a)=(b ++ [a ++ c],[])
 | [],b,a,_=>by simp [zero]
 | x :: c,b,a,h=>by
  obtain ⟨y,j,rfl⟩:=uW (h x (by simp));obtain ⟨_,g,_,_,_,_,_,f,_⟩:=mV e j;rw [List.map_cons,List.cons_append,List.foldl_cons];simp only [f,g,Bool.false_eq_true,if_false];rw [Fv e c b (a ++ [wr y]) (fun z i=>h z (by simp [i]))];simp
theorem Og {n:Nat} (g:n <= 50) (l:List Cl) (h:∀ c ∈ l,∀ x ∈ c,pW n x):fw (uE l)=(l,[]):=by
 have f:∀ (l:List Cl) (a:List Cl),(∀ c ∈ l,∀ x ∈ c,pW n x)->(uE l).foldl (fun b t=>if zero t then (b.1 ++ [b.2],[]) else (b.1,b.2 ++ [eQ t])) (a,[])=(a ++ l,[]):=by
  intro l
  induction l with
  | nil=>intro a _;simp [uE]
  | cons c l ih=>
   intro a h;have e:uE (c :: l)=(c.map Lib.itoa ++ [[48]]) ++ uE l:=by unfold uE;rw [List.flatMap_cons]
   rw [e,List.foldl_append,Fv g c a [] (h c (by simp)),ih _ (fun d hd=>h d (by simp [hd]))];simp
 have:=f l [] h;unfold fw;rw [this];simp
theorem P6 {n:Nat} (e:n <= 50) (l:List Cl) (h:∀ c ∈ l,∀ x ∈ c,pW n x):kK (Lib.decDigits n) (uE l)=true:=by
 unfold kK;rw [List.all_eq_true];intro t a;obtain ⟨c,f,a⟩:=List.mem_flatMap.1 a
 rcases List.mem_append.1 a with a | a
 ·obtain ⟨x,d,rfl⟩:=List.mem_map.1 a;obtain ⟨y,b,rfl⟩:=uW (h c f x d);rw [(mV e b).1];simp
 ·simp at a;subst a;rw [show zero [48]=true from rfl];rfl
def x8 (l:List Cl):Nat:=(l.map List.length).sum
theorem I6 {n:Nat} (a:n <= 50):∀ (c:Cl),(∀ x ∈ c,pW n x)->((c.map Lib.itoa ++ [[48]]).filter fun t=>!zero t).length=c.length
 | [],_=>by decide
 | x :: c,h=>by
  obtain ⟨y,d,rfl⟩:=uW (h x (by simp));rw [List.map_cons,List.cons_append,List.filter_cons,(mV a d).2.2.2.2.2.2.2.1];simp only [Bool.not_false,if_true,List.length_cons];rw [I6 a c (fun z b=>h z (by simp [b]))]
theorem AB {n:Nat} (b:n <= 50):∀ (l:List Cl),(∀ c ∈ l,∀ x ∈ c,pW n x)->lits (uE l)=x8 l
 | [],_=>rfl
 | c :: l,h=>by
  have a:=AB b l (fun d hd=>h d (by simp [hd]));have e:uE (c :: l)=(c.map Lib.itoa ++ [[48]]) ++ uE l:=by unfold uE;rw [List.flatMap_cons]
  unfold lits at a ⊢;rw [e,List.filter_append,List.length_append,I6 b c (h c (by simp)),a];simp [x8]
theorem uh:∀ m,m < 1000->gJ (Lib.decDigits m)=true/\(Lib.decDigits m).all (fun b=>!(b == 32) && !(b == 10) && !(b == 45) && !(b == 9))=true/\(Lib.decDigits m).length <= 3:=by decide +kernel
theorem Pe:∀ m,m < 51->above (Lib.decDigits m) [53,48]=false/\fZ (Lib.decDigits m)=(m:Int):=by decide +kernel
theorem Fe {m:Nat} (h:m < 1000):sP 32 (Lib.decDigits m)/\sP 10 (Lib.decDigits m):=by
 have:=List.all_eq_true.1 (uh m h).2.1;constructor
 all_goals
  intro b hb;have:=this b hb;simp at this ⊢;simp [this]
theorem R8 {c:UInt8}:∀ {a:Bs} (r:Bs),sP c a->(a ++ c :: r).takeWhile (fun x=>!(x == c))=a
 | [],r,_=>by simp
 | x :: a,r,h=>by
  rw [List.cons_append,List.takeWhile_cons,h x (by simp)];simp only [Bool.not_false,if_true];rw [R8 (a:=a) r (fun y b=>h y (by simp [b]))]
theorem JU {n:Nat} (f:n <= 50) {l:List Cl} (r:l.length < 1000) (h:∀ c ∈ l,∀ x ∈ c,pW n x) (v:x8 l <= 700) (D:(fF n l).length <= 20000):fJ (fF n l)=((n:Int),l,0):=by
 obtain ⟨i,j⟩:=Fe (m:=n) (by omega);obtain ⟨k,o⟩:=Fe (m:=l.length) r;have a:=(uh n (by omega)).1;have d:=(uh l.length r).1;obtain ⟨u,t⟩:=Pe n (by omega);unfold fJ;rw [if_neg (by omega)];generalize g:([112,32,99,110,102,32] ++ Lib.decDigits n ++ [32] ++ Lib.decDigits l.length:Bs)=H;have e:fF n l=H ++ 10 :: l.flatMap Gh:=by unfold fF;rw [<- g];simp
 have y:sP 10 H:=by
  rw [<- g];intro b hb;simp only [List.mem_append] at hb
  rcases hb with ((hb | hb) | hb) | hb
  ·revert b;decide
  ·exact j b hb
  ·simp at hb;subst hb;decide
  ·exact o b hb
 have q:line (fF n l)=H:=by unfold line;rw [e];exact R8 _ y
 have C:ended (fF n l)=true:=by unfold ended;rw [q,e];simp
 have B:rest (fF n l)=l.flatMap Gh:=by
  unfold rest;rw [q,e,List.drop_append];simp
 have A:comment H=false:=by rw [<- g];unfold comment Lib.hasPrefix;simp [List.isPrefixOf]
 have z:tO H=some (Lib.decDigits n,Lib.decDigits l.length):=by
  unfold tO;have:splitB 32 H=[[112],[99,110,102],Lib.decDigits n,Lib.decDigits l.length]:=by
   rw [kN,<- g];rw [show ([112,32,99,110,102,32] ++ Lib.decDigits n ++ [32] ++ Lib.decDigits l.length:Bs)=[112] ++ 32 :: ([99,110,102] ++ 32 :: (Lib.decDigits n ++ 32 :: Lib.decDigits l.length)) by simp];rw [kM _ (by intro x p;simp at p;subst p;decide),kM _ (by intro x p;revert x;decide),kM _ i,vK k]
  rw [this];simp only [a,d];rfl
 rw [show oP ((fF n l).length + 1) (fF n l)=if ended (fF n l) then (if comment (line (fF n l)) then oP (fF n l).length (rest (fF n l)) else (tO (line (fF n l))).map fun x=>(x.1,x.2,rest (fF n l))) else none from rfl,C,if_pos rfl,q,A,if_neg (by simp),z];simp only [Option.map_some];unfold body;rw [B,zX f l h,P6 f l h,if_pos rfl,Og f l h,AB f l h,u,t];simp only [List.isEmpty_nil,Bool.true_and,beq_self_eq_true,if_true,Bool.false_or];rw [if_neg (by simpa using v)]
theorem Jj {n:Nat} (b:n <= 50):∀ (c:Cl),(∀ x ∈ c,pW n x)->(Gh c).length <= 4 * c.length + 2
 | [],_=>by decide
 | x :: c,h=>by
  obtain ⟨y,e,rfl⟩:=uW (h x (by simp));have f:=(mV b e).2.2.2.2.2.2.1;have a:=Jj b c (fun z d=>h z (by simp [d]));unfold Gh at a ⊢;rw [List.flatMap_cons];simp only [List.length_append,List.length_cons,List.length_nil] at a ⊢;omega
theorem DF {n:Nat} (b:n <= 50) {l:List Cl} (e:l.length < 1000) (h:∀ c ∈ l,∀ x ∈ c,pW n x):(fF n l).length <= 14 + 4 * x8 l + 2 * l.length:=by
 have a:∀ (l:List Cl),(∀ c ∈ l,∀ x ∈ c,pW n x)->(l.flatMap Gh).length <= 4 * x8 l + 2 * l.length:=by
  intro l
  induction l with
  | nil=>intro _;simp
  | cons c l ih=>
   intro h;have g:=Jj b c (h c (by simp));have f:=ih (fun d hd=>h d (by simp [hd]));rw [List.flatMap_cons,List.length_append,List.length_cons];have:x8 (c :: l)=c.length + x8 l:=by simp [x8]
   omega
 have g:=a l h;have f:=(uh n (by omega)).2.2;have i:=(uh l.length e).2.2;unfold fF;simp only [List.length_append,List.length_cons,List.length_nil];omega
theorem yL (d:Array Int) (p:∀ i j,i <= j->j < d.size->d[i]! <= d[j]!):∀ m,m <= d.size->(∀ x,x ∈ Lib.compactUpTo d m↔∃ j,j < m/\d[j]! = x)/\(Lib.compactUpTo d m).Pairwise (· < ·)
 | 0,_=>by
  rw [show Lib.compactUpTo d 0=[] from rfl];exact ⟨fun x=>by simp,List.Pairwise.nil⟩
 | m + 1,h=>by
  obtain ⟨r,u⟩:=yL d p m (by omega);rw [Lib.compactUpTo_succ];by_cases f:Lib.keeps d m=true
  ·rw [if_pos f];have q:∀ x ∈ Lib.compactUpTo d m,x < d[m]! := fun x l=>by
    obtain ⟨j,k,e⟩:=(r x).1 l;have t:0 < m:=by omega
    have a:=p j (m - 1) (by omega) (by omega);have b:=p (m - 1) m (by omega) (by omega);have c:d[m]! ≠ d[m - 1]! := fun e=>by rw [Lib.keeps_neg t e] at f;cases f
    omega
   refine ⟨fun x=>?_,List.pairwise_append.2 ⟨u,by simp,fun a v b hb=>?_⟩⟩
   ·rw [List.mem_append,r];constructor
    ·rintro (⟨j,k,e⟩ | l)
     ·exact ⟨j,by omega,e⟩
     ·simp at l;exact ⟨m,by omega,l.symm⟩
    ·rintro ⟨j,k,e⟩
     rcases Nat.lt_succ_iff_lt_or_eq.1 k with g | g
     ·exact .inl ⟨j,g,e⟩
     ·subst g;exact .inr (by simp [e])
   ·simp at hb;subst hb;exact q a v
  ·rw [if_neg f,List.append_nil];refine ⟨fun x=>?_,u⟩;rw [r];have t:0 < m:=by
    rcases Nat.eq_zero_or_pos m with e | e
    ·subst e;exact absurd (Lib.keeps_lt_one d 0 (by omega)) f
    ·exact e
   have e:d[m]! = d[m - 1]! := by
    rcases Decidable.em (d[m]! = d[m - 1]!) with g | g
    ·exact g
    ·exact absurd (Lib.keeps_pos g) f
   constructor
   ·rintro ⟨j,k,o⟩;exact ⟨j,by omega,o⟩
   ·rintro ⟨j,k,o⟩
    rcases Nat.lt_succ_iff_lt_or_eq.1 k with g | g
    ·exact ⟨j,g,o⟩
    ·subst g;exact ⟨j - 1,by omega,by rw [<- e];exact o⟩
theorem BH (zs:List Int):(∀ x,x ∈ Lib.compact (zs.mergeSort fun x y=>decide (x <= y))↔x ∈ zs)/\(Lib.compact (zs.mergeSort fun x y=>decide (x <= y))).Pairwise (· < ·):=by
 have q:=List.mergeSort_perm zs (fun x y=>decide (x <= y));have p:(zs.mergeSort fun x y=>decide (x <= y)).Pairwise (fun x y=>decide (x <= y)=true):=by
  exact List.pairwise_mergeSort (fun a b c m k=>by simp at m k ⊢;omega) (fun a b=>by simp;omega) zs
 generalize zs.mergeSort (fun x y=>decide (x <= y))=l at *
 have f:∀ i j,i <= j->j < l.toArray.size->l.toArray[i]! <= l.toArray[j]! := fun i j h d=>by
  have g:j < l.length:=by simpa using d
  rw [getElem!_pos l.toArray i (by simp;omega),getElem!_pos l.toArray j d];simp only [List.getElem_toArray]
  rcases Nat.eq_or_lt_of_le h with e | e
  ·subst e;exact Int.le_refl _
  ·have:=List.pairwise_iff_getElem.1 p i j (by omega) g e;simpa using this
 obtain ⟨m,k⟩:=yL l.toArray f l.length (by simp);refine ⟨fun x=>?_,k⟩;rw [<- q.mem_iff];unfold Lib.compact;rw [m];constructor
 ·rintro ⟨j,d,rfl⟩;rw [getElem!_pos l.toArray j (by simpa using d)];simp
 ·intro o;obtain ⟨j,d,e⟩:=List.mem_iff_getElem.1 o;exact ⟨j,d,by rw [getElem!_pos l.toArray j (by simpa using d)];simpa using e⟩
theorem JI (a:List Nat):∃ c:List Nat,Lib.compact ((a.map fun (x:Nat)=>(x:Int)).mergeSort fun x y=>decide (x <= y))=c.map (fun (x:Nat)=>(x:Int))/\(∀ x,x ∈ c↔x ∈ a)/\c.Pairwise (· < ·):=by
 obtain ⟨f,g⟩:=BH (a.map fun (x:Nat)=>(x:Int));generalize Lib.compact ((a.map fun (x:Nat)=>(x:Int)).mergeSort fun x y=>decide (x <= y))=l at *
 have e:l=(l.map Int.toNat).map (fun (x:Nat)=>(x:Int)):=by
  rw [List.map_map]
  conv=>lhs;rw [<- List.map_id l]
  apply List.map_congr_left
  intro z b;obtain ⟨x,_,rfl⟩:=List.mem_map.1 ((f z).1 b);simp
 refine ⟨l.map Int.toNat,e,fun x=>?_,?_⟩
 ·constructor
  ·intro d;obtain ⟨z,b,rfl⟩:=List.mem_map.1 d;obtain ⟨y,i,rfl⟩:=List.mem_map.1 ((f z).1 b);simpa using i
  ·intro d;have:=(f (x:Int)).2 (List.mem_map.2 ⟨x,d,rfl⟩);exact List.mem_map.2 ⟨_,this,by simp⟩
 ·rw [e] at g;have:=List.pairwise_map.1 g;exact this.imp fun h=>by omega
theorem FV {c:List Nat} (d:c.Pairwise (· < ·)) {i j:Nat} (b:i < c.length) (a:j < c.length) (e:c[j]=c[i] + 1):j=i + 1:=by
 have lt:=List.pairwise_iff_getElem.1 d
 rcases Nat.lt_trichotomy j i with h | h | h
 ·have:=lt j i a b h;omega
 ·subst h;omega
 ·rcases Nat.lt_or_ge (i + 1) j with g | g
  ·have k:=lt i (i + 1) b (by omega) (by omega);have f:=lt (i + 1) j (by omega) a g;omega
  ·omega
theorem DI {c:List Nat} (l:c.Pairwise (· < ·)):(∃ j,∃ h:j + 1 < c.length,c[j + 1]=op c[j])↔∃ x ∈ c,op x ∈ c:=by
 constructor
 ·rintro ⟨j,h,e⟩;exact ⟨c[j],List.getElem_mem _,e ▸ List.getElem_mem _⟩
 ·rintro ⟨x,o,m⟩;obtain ⟨i,f,b⟩:=List.mem_iff_getElem.1 o;obtain ⟨j,d,a⟩:=List.mem_iff_getElem.1 m;by_cases k:x % 2=0
  ·have g:op x=x + 1:=by unfold op;rw [if_pos k]
   have:j=i + 1:=FV l f d (by rw [a,g,b]);subst this;exact ⟨i,d,by rw [a,b]⟩
  ·have g:x=op x + 1:=by unfold op;rw [if_neg k];omega
   have:i=j + 1:=FV l d f (by rw [b,a];exact g);subst this;exact ⟨j,f,by rw [b,a,jT]⟩
theorem Gr {c:List Nat} (f:c.Pairwise (· < ·)) (d:¬ ∃ x ∈ c,op x ∈ c):(c.map (· / 2)).Nodup:=by
 refine List.pairwise_map.2 (f.imp_of_mem fun {a b} ha hb hab e=>?_)
 rcases qE e with g | g
 ·omega
 ·exact d ⟨b,hb,g ▸ ha⟩
theorem KM {L:List Cl} {a:List Int} (h:mq L a) (c:Cl):mq (L ++ [c]) a:=fun M f e b=>h M f e fun d hd=>b d (List.mem_append_left _ hd)
theorem jY {L:List Cl} (h:Dq L []) (c:Cl):Dq (L ++ [c]) []:=KM h c
end
end So
end Go.Proofs.YtceahffmenbibaaGreatDoor
