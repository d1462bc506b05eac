/- Sstp Ttxt Tgiv Shelf2. -/
import Derived.Test.YtceahffmenbibaaGreatDoorG35
import Derived.Test.YtceahffmenbibaaGreatDoorG29
import Derived.Test.YtceahffmenbibaaGreatDoorG06
import Derived.Lib.SlicesCompact
import Derived.Shelf.Sort.Plain
import Derived.Shelf.Slices.CompactI
import Derived.Test.YtceahffmenbibaaGreatDoorProg
set_option linter.unusedVariables false
set_option linter.unusedSimpArgs false
set_option maxHeartbeats 4000000
set_option maxRecDepth 100000
namespace Go.Proofs.YtceahffmenbibaaGreatDoor
namespace So
section
open Go Go.RowKit Go.Deep Rd
variable {Z:Nat->Prop} {sb ob hb kb n:Nat} {L0:List Cl} {N0:Nat} {brk:Bool} {w0 w w':World} {s:St}
def pJ (Z:Nat->Prop) (kb n:Nat) (L0:List Cl) (mx:Nat) (w:World):Prop:=
 ∃ (ls:List (Bool × List Nat)) (L:List Cl),ky Z kb w (bJ ls ++ [48,10])/\iD L0 (ls.map fun l=>(l.1,l.2.map wr)) L/\bH L []/\(∀ l ∈ ls,∀ x ∈ l.2,x < 2 * n)/\(bJ ls).length <= 250 * mx
def Going (s s':St):Prop:=
 (s'.k=s.k + 1/\s'.m=s.m + 1/\s'.r=s.r/\(s.lc + 1 <= s.mo->s'.mo=s.mo)/\s'.mo <= s.mo + 100/\s'.ch.length < s.ch.length)\/(s'.r=s.r + 1/\s'.k=0/\s'.m=s.m/\s'.mo=s.mo/\50 * Lb.lub s.r s.r <= s.k)\/(s'.k=s.k/\s'.m=s.m/\s'.r=s.r/\s'.mo=s.mo/\s.tr.length < s'.tr.length/\s.k < 50 * Lb.lub s.r s.r)
structure Kin (s s':St):Prop where
 k:s'.k=s.k
 m:s'.m=s.m
 r:s'.r=s.r
 lc:s'.lc=s.lc
 mo:s'.mo=s.mo
 ch:s'.ch=s.ch
 tr:s.tr.length <= s'.tr.length
theorem Main.Yy (h:Main Z sb ob hb kb n L0 N0 brk w s) (hr:Ready s):oK (zz s.Rs w) sb w (16 + 2 * n) s.f s.X n s.ch s.cs s.tr s.sp s.cs s.tr s.lev s.rea s.wl s.f s.V s.X w where
 pi:=by have:=h.pi;rw [show s.P=s.sp from hr] at this;exact this
 aG:=h.aI.duo.aG
 x0:=h.x0
 dx:=h.dx
 dL:=h.dL
 perm:=eD.refl _
 only:=fun _ _ _ _=>rfl
 ff:=fun _ _ _=>rfl
 f7:=h.f7
 ze:=h.ze
 late:=by have:=h.late;rw [show s.P=s.sp from hr] at this;exact this
 ext:=⟨[],by simp⟩
 bD:=aC.refl _
def xN (Z:Nat->Prop) (sb ob hb kb n:Nat) (L0:List Cl) (N0:Nat) (brk:Bool) (w:World) (s:St) (res:Int) (w':World) (s':St):Prop:=
 Main Z sb ob hb kb n L0 N0 brk w' s'/\aC Z w w'/\Kin s s'/\((res=-1/\Ready s'/\s'.P=s'.tr.length)\/∃ k,∃ hk:k < s'.cs.length,res=((aj s'.cs k:Nat):Int)/\(s'.cs[k]).kind ≠ 2/\(∀ y ∈ (s'.cs[k]).lits,op y ∈ s'.tr)/\∃ y ∈ (s'.cs[k]).lits,s'.lev (y / 2)=s'.ch.length)
theorem uj (h:Main Z sb ob hb kb n L0 N0 brk w s) (hr:Ready s) (hn:n <= 50) (hN:(enc s.cs).length <= 1000000000000):
  Calls Tryz.prog 98 #[.pointer (some ⟨sb,0,none⟩)] w fun e w'=>∃ res s',e=.returned (.int .i64 res)/\xN Z sb ob hb kb n L0 N0 brk w s res w' s':=by
 refine (Gf (h.Yy hr) rfl hn (by omega)).mono ?_
 rintro e w' ⟨res,P,sp,cs',tr,lev,rea,wl,f',V',X',rfl,g⟩;obtain ⟨m1,m2⟩:=h.spread g;refine ⟨res,_,rfl,m1,m2,⟨rfl,rfl,rfl,rfl,rfl,rfl,by obtain ⟨ex,rfl⟩:=g.ext;simp⟩,?_⟩
 rcases g.res with ⟨h1,h2,h3⟩ | ⟨k,hk,h1,h2,h3,h4⟩
 ·exact .inl ⟨h1,h2.trans h3.symm,h2⟩
 ·exact .inr ⟨k,hk,h1,h2,h3,h4⟩
theorem wE (h:Main Z sb ob hb kb n L0 N0 brk w s) (hn:n <= 50) (hm:s.m <= 22000000000) (hR:bH s.L []):
  Calls Tryz.prog 100 #[.pointer (some ⟨sb,0,none⟩),.slice none 0 0] w fun e w'=>e=.returned .nilIface/\aC Z w w'/\pJ Z kb n L0 s.m w':=by
 have hp:=h.prf;refine (vz (c:=[]) h.aI hn h.f0 (.slice none 0 0) ⟨none,0,0,0,rfl,fun _=>rfl,fun h=>by simp at h⟩ (by simp) (by simp) (by omega)).mono ?_
 rintro e w' ⟨rfl,hc,v',X',ko,Rd',Fp,T⟩;refine ⟨rfl,hc,s.ls,s.L,?_,h.lines,hR,h.wK,h.prf⟩;have:=T.MU.JU (Z':=Z) (fun g _ hg=>T.vH T.zk g hg) T.az
 exact this
theorem Gh (h:Main Z sb ob hb kb n L0 N0 brk w s) (hd:s.ch=[]) {k:Nat} (hk:k < s.cs.length) (hkk:(s.cs[k]).kind ≠ 2) (hf:∀ y ∈ (s.cs[k]).lits,op y ∈ s.tr):bH s.L []:=by
 have ht:=h.pi.aI;have hr:=h.pi.lK;rw [hd] at ht hr;exact zq (wF ht hr h.qG.hL (h.qG.hL _ _ (aP hk) hkk) hf)
theorem xJ (h:Main Z sb ob hb kb n L0 N0 brk w s) (hr:Ready s) (hn:n <= 50) (hrr:s.r < 134217727):
  Calls Tryz.prog 97 #[.pointer (some ⟨sb,0,none⟩)] w fun e w'=>e=.returned (.tuple #[])/\aC Z w w'/\∃ s',Main Z sb ob hb kb n L0 N0 brk w' s'/\Ready s'/\s'.r=s.r + 1/\s'.k=0/\s'.m=s.m/\s'.mo=s.mo/\s'.lc=s.lc:=by
 refine (LG h.aI.duo hn h.dx h.pi.aI h.lam h.f20 hrr).mono ?_;rintro e w' ⟨rfl,hc,w1,f1,V1,X1,iT,qb,FN,t,A,Rj,D⟩;obtain ⟨t1,t2⟩:=h.aI.vQ D hc;have base:∃ (sp:Nat),f1 7=.int .i64 ((sp:Nat):Int)/\sp <= (s.tr.take t).length/\PI n (mapOf s.cs) (s.tr.take t) [] s.lev s.rea s.wl sp/\(brk=false->tL (mapOf s.cs) (s.tr.take t) s.lev)/\∀ v,v < n->iT v->∃ x ∈ s.tr.take t,x / 2=v:=by
  rcases A.how with ⟨e1,e2,e3,e4⟩ | ⟨hd,e2,e3,e4⟩
  ·subst e2 e3;rw [List.take_length];have hpi:=h.pi;rw [e1] at hpi;refine ⟨s.sp,e4.trans h.f7,h.ze,?_,h.yf,h.nH⟩;rw [<- show s.P=s.sp from hr];exact hpi
  ·subst e2 e3;have hct:s.ch[0] < s.tr.length:=h.pi.aI.dX.2 _ (List.getElem_mem hd);have h0:s.ch.take 0=[]:=List.take_zero;refine ⟨s.ch[0],e4,by rw [List.length_take];omega,⟨h0 ▸ h.pi.aI.back hd,h0 ▸ h.pi.lK.back h.pi.aI hd,h.pi.jc,h.pi.kT,h.pi.uo.back h.pi.aI hd (h.late _ (List.getElem_mem hd))⟩,fun hb=>(h.yf hb).back h.pi.aI hd,fun v hv hg=>?_⟩
   obtain ⟨y,hy,e⟩:=h.nH v hv hg.1;rw [<- List.take_append_drop s.ch[0] s.tr] at hy
   rcases List.mem_append.1 hy with hy | hy
   ·exact ⟨y,hy,e⟩
   ·exact absurd e (hg.2 y hy)
 obtain ⟨sp,b1,b2,b3,b4,b5⟩:=base;have uf:∀ j,j ≠ 20->j ≠ 21->upd (upd f1 20 (.int .i64 ((s.r + 1:Nat):Int))) 21 (.int .i64 ((50 * Lb.lub (s.r + 1) (s.r + 1):Nat):Int)) j=f1 j:=fun j h1 h2=>(aa _ _ h2).trans (aa _ _ h1)
 have kf:∀ j,j ≠ 20->j ≠ 21->j ≠ 6->j ≠ 7->j ≠ 8->upd (upd f1 20 (.int .i64 ((s.r + 1:Nat):Int))) 21 (.int .i64 ((50 * Lb.lub (s.r + 1) (s.r + 1):Nat):Int)) j=s.f j:=fun j h1 h2 h3 h4 h5=>(uf j h1 h2).trans (A.kf j h3 h4 h5)
 refine ⟨rfl,t2,{ s with tr:=s.tr.take t,ch:=[],P:=sp,sp:=sp,f:=upd (upd f1 20 (.int .i64 ((s.r + 1:Nat):Int))) 21 (.int .i64 ((50 * Lb.lub (s.r + 1) (s.r + 1):Nat):Int)),V:=V1,X:=X1,gone:=iT,k:=0,r:=s.r + 1,Rs:=Rj,Ro:=FN,Rd:=(fun g=>zz s.Rd w g/\g < w'.heap.size) },{
  aI:=t1
  pi:=b3
  x0:=(A.kx 0 (by decide) (by decide) (by decide) (by decide)).trans h.x0
  dx:=A.dx
  dL:=h.dL.congr (A.kx 9 (by decide) (by decide) (by decide) (by decide)) (fun x _=>A.kv _ (by omega) (by omega)) fun x _=>A.kx _ (by omega) (by omega) (by omega) (by omega)
  lam:=A.lam
  n10:=(congrArg List.length (A.kx 10 (by decide) (by decide) (by decide) (by decide))).trans h.n10
  lD:=by
   obtain ⟨fol,hf⟩:=h.lD;exact ⟨fol,hf.congr (A.kx 11 (by decide) (by decide) (by decide) (by decide))⟩
  f0:=(kf 0 (by decide) (by decide) (by decide) (by decide) (by decide)).trans h.f0
  f3:=(kf 3 (by decide) (by decide) (by decide) (by decide) (by decide)).trans h.f3
  f4:=(kf 4 (by decide) (by decide) (by decide) (by decide) (by decide)).trans h.f4
  f7:=(uf 7 (by decide) (by decide)).trans b1
  f14:=(kf 14 (by decide) (by decide) (by decide) (by decide) (by decide)).trans h.f14
  f18:=(kf 18 (by decide) (by decide) (by decide) (by decide) (by decide)).trans h.f18
  f20:=by
   show upd (upd f1 20 (.int .i64 ((s.r + 1:Nat):Int))) 21 (.int .i64 ((50 * Lb.lub (s.r + 1) (s.r + 1):Nat):Int)) 20=Value.int .i64 ((s.r + 1:Nat):Int)
   rw [aa _ _ (by decide),ae]
  f21:=by
   show upd (upd f1 20 (.int .i64 ((s.r + 1:Nat):Int))) 21 (.int .i64 ((50 * Lb.lub (s.r + 1) (s.r + 1):Nat):Int)) 21=Value.int .i64 (((50 * Lb.lub (s.r + 1) (s.r + 1):Nat):Int) - ((0:Nat):Int))
   rw [ae];congr 1
  ze:=b2
  late:=fun q hq=>by cases hq
  nH:=b5
  yf:=b4
  bad:=h.bad
  lines:=h.lines
  wK:=h.wK
  qG:=h.qG
  Cc:=h.Cc
  num:=h.num
  uM:=h.uM
  cnt:=h.cnt
  uJ:=h.uJ
  dI:=Nat.zero_le _
  lcm:=h.lcm
  km:=Nat.zero_le _
  n30:=h.n30 },rfl,rfl,rfl,rfl,rfl,rfl⟩
theorem MG (h:Main Z sb ob hb kb n L0 N0 false w s) (hr:Ready s) (hP:s.P=s.tr.length) (hn:n <= 50):
  Calls Tryz.prog 102 #[.pointer (some ⟨sb,0,none⟩)] w fun e w'=>aC Z w w'/\((e=.returned (.bool false)/\(∀ v,v < n->∃ x ∈ s.tr,x / 2=v)/\∃ s',Main Z sb ob hb kb n L0 N0 false w' s'/\s'.tr=s.tr/\s'.cs=s.cs/\s'.lev=s.lev/\s'.P=s.P/\s'.m=s.m)\/(e=.returned (.bool true)/\∃ s',Main Z sb ob hb kb n L0 N0 false w' s'/\Ready s'/\s'.k=s.k/\s'.m=s.m/\s'.r=s.r/\s'.mo=s.mo/\s.tr.length < s'.tr.length)):=by
 refine (Ad h.aI.duo hn h.dx h.pi.aI h.lam h.nH).mono ?_
 rintro e w' ⟨hc,⟨rfl,hall,gB,ko,vB,D⟩ | ⟨x,gB,ko,vB,v2,v1,rfl,hx,ho,ha,D⟩⟩
 ·obtain ⟨t1,t2⟩:=h.aI.vQ D hc
  refine ⟨t2,.inl ⟨rfl,hall,{ s with gone:=gB,Rs:=ko,Ro:=vB,Rd:=(fun g=>zz s.Rd w g/\g < w'.heap.size) },{ h with aI:=t1,nH:=fun v hv _=>hall v hv },rfl,rfl,rfl,rfl,rfl⟩⟩
 ·obtain ⟨t1,t2⟩:=h.aI.vQ D hc;have l2:(s.X 2).length=s.ch.length:=by rw [h.dx.l2,ag]
  have l1:(s.X 1).length=s.tr.length:=by rw [h.dx.l1,ag]
  have uf:∀ j,j ≠ 8->j ≠ 6->upd (upd s.f 8 v2) 6 v1 j=s.f j:=fun j h1 h2=>(aa _ _ h2).trans (aa _ _ h1)
  have ux:∀ j,j ≠ 1->j ≠ 2->j ≠ 3->j ≠ 4->j ≠ 5->bN (upd s.X 2 (s.X 2 ++ [.int .i64 ((s.X 1).length:Nat)])) x (-1) ((s.X 2).length + 1) j=s.X j:=fun j a1 a2 a3 a4 a5=>(eu _ _ _ _ a1 a3 a4 a5).trans (aa _ _ a2)
  refine ⟨t2,.inr ⟨rfl,{ s with tr:=s.tr ++ [x],ch:=s.ch ++ [s.tr.length],lev:=bB s.lev (x / 2) (s.ch.length + 1),rea:=bB s.rea (x / 2) (-1),f:=upd (upd s.f 8 v2) 6 v1,V:=upd (upd s.V 2 v2) 1 v1,X:=bN (upd s.X 2 (s.X 2 ++ [.int .i64 ((s.X 1).length:Nat)])) x (-1) ((s.X 2).length + 1),gone:=gB,Rs:=ko,Ro:=vB,Rd:=(fun g=>zz s.Rd w g/\g < w'.heap.size) },{
   aI:=t1
   pi:=⟨h.pi.aI.choose hx ho,h.pi.lK.choose h.pi.aI ho,h.pi.jc,h.pi.kT,h.pi.uo.assign (by show s.P <= s.tr.length;omega) ho⟩
   x0:=(ux 0 (by decide) (by decide) (by decide) (by decide) (by decide)).trans h.x0
   dx:=by
    have:=h.dx.assign (X':=upd s.X 2 (s.X 2 ++ [.int .i64 ((s.X 1).length:Nat)])) (ch':=s.ch ++ [s.tr.length]) hx ho (-1) (d:=(s.X 2).length + 1) (by rw [ae,h.dx.l2,l1,fQ];rfl) (fun k hk=>aa _ _ hk)
    rw [l2] at this ⊢;exact this
   dL:=h.dL.congr (ux 9 (by decide) (by decide) (by decide) (by decide) (by decide)) (fun x _=>(aa _ _ (by omega)).trans (aa _ _ (by omega))) fun x _=>ux _ (by omega) (by omega) (by omega) (by omega) (by omega)
   lam:=h.lam.congr (ux 6 (by decide) (by decide) (by decide) (by decide) (by decide))
   n10:=(congrArg List.length (ux 10 (by decide) (by decide) (by decide) (by decide) (by decide))).trans h.n10
   lD:=by
    obtain ⟨fol,hf⟩:=h.lD;exact ⟨fol,hf.congr (ux 11 (by decide) (by decide) (by decide) (by decide) (by decide))⟩
   f0:=(uf 0 (by decide) (by decide)).trans h.f0
   f3:=(uf 3 (by decide) (by decide)).trans h.f3
   f4:=(uf 4 (by decide) (by decide)).trans h.f4
   f7:=(uf 7 (by decide) (by decide)).trans h.f7
   f14:=(uf 14 (by decide) (by decide)).trans h.f14
   f18:=(uf 18 (by decide) (by decide)).trans h.f18
   f20:=(uf 20 (by decide) (by decide)).trans h.f20
   f21:=(uf 21 (by decide) (by decide)).trans h.f21
   ze:=by show s.sp <= (s.tr ++ [x]).length;have:=h.ze;simp;omega
   late:=fun q hq=>by
    rcases List.mem_append.1 hq with hq | hq
    ·exact h.late q hq
    ·simp at hq;show q <= s.P;omega
   nH:=ha
   yf:=fun _=>(h.yf rfl).assign ho
   bad:=fun e=>by cases e
   lines:=h.lines
   wK:=h.wK
   qG:=h.qG
   Cc:=h.Cc
   num:=h.num
   uM:=h.uM
   cnt:=h.cnt
   uJ:=h.uJ
   dI:=by
    show 2 * s.k <= dI n (bits (s.tr ++ [x]).length (s.ch ++ [s.tr.length]))
    rw [List.length_append];exact Da h.pi.aI.dX.2 h.dI
   lcm:=h.lcm
   km:=h.km
   n30:=h.n30 },hr,rfl,rfl,rfl,rfl,by show s.tr.length < (s.tr ++ [x]).length;simp⟩⟩
def jA (Z:Nat->Prop) (sb ob hb kb n:Nat) (L0:List Cl) (N0:Nat) (w:World) (s:St) (e:Ending) (w':World):Prop:=
 aC Z w w'/\((e=.returned (.tuple #[.int .i64 2,.nilIface])/\pJ Z kb n L0 s.m w')\/(e=.returned (.tuple #[.int .i64 0,.nilIface])/\∃ s',Main Z sb ob hb kb n L0 N0 false w' s'/\Ready s'/\Going s s') \/
  (e=.returned (.tuple #[.int .i64 1,.nilIface])/\∃ s',Main Z sb ob hb kb n L0 N0 false w' s'/\(∀ v,v < n->∃ x ∈ s'.tr,x / 2=v)/\s'.P=s'.tr.length/\s'.m=s.m))
theorem Cu (h:Main Z sb ob hb kb n L0 N0 true w s) (hr:Ready s) (hn:n <= 50) (hN:(enc s.cs).length <= 1000000000000) (hm:s.m <= 22000000000):
  Calls Tryz.prog 57 #[.pointer (some ⟨sb,0,none⟩)] w fun e w'=>jA Z sb ob hb kb n L0 N0 w s e w':=by
 have QS:=hide (uj h hr hn hN);have BQ:Hid (∀ res w1 s1,xN Z sb ob hb kb n L0 N0 true w s res w1 s1->w1.cell? ⟨sb,14,none⟩=some (.bool true)/\Calls Tryz.prog 100 #[.pointer (some ⟨sb,0,none⟩),.slice none 0 0] w1 fun e w'=>e=.returned .nilIface/\aC Z w w'/\pJ Z kb n L0 s.m w'):=fun res w1 s1 ⟨m1,c1,k1,_⟩=>by
  refine ⟨?_,(wE m1 hn (by rw [k1.m];exact hm) (m1.bad rfl)).mono ?_⟩
  ·have:=(m1.aI.duo.aG.head 14 (by omega)).1
   rw [m1.f14] at this;exact this
  ·rintro e w' ⟨rfl,c2,nv⟩;rw [k1.m] at nv;exact ⟨rfl,c1.trans c2,nv⟩
 clear h hr;go_enter Tryz.func57,Tryz.ntmps57
 go_wp2_with (first | (go_at_call 98;refine QS.out.mono ?_;rintro e1 w1 ⟨res,s1,rfl,hs1⟩;obtain ⟨q14,qa⟩:=BQ.out _ _ _ hs1;have QA:=hide qa;clear hs1 qa;simp only []) | (go_at_call 100;refine QA.out.mono ?_;rintro e2 w2 ⟨rfl,hc2,hn2⟩;have C2:=hide hc2;have N2:=hide hn2;clear hc2 hn2;simp only []))
 go_ret2
 exact ⟨C2.out,.inl ⟨rfl,N2.out⟩⟩
theorem MP {Q:St->Prop} (h:Main Z sb ob hb kb n L0 N0 false w s) (hr:Ready s) (hn:n <= 50) (hN:N0 + 33 * s.m <= 1000000000000) (hm:s.m <= 22000000000) (hrr:s.r < 134217727) (FG:rV Z sb ob hb kb n L0 N0 Q) (hQ:∀ s',s'.k=s.k + 1->s'.m=s.m + 1->s'.r=s.r->s'.lc=s.lc + 1->s'.mo=s.mo->Q s'):
  Calls Tryz.prog 57 #[.pointer (some ⟨sb,0,none⟩)] w fun e w'=>jA Z sb ob hb kb n L0 N0 w s e w':=by
 have QS:=hide (uj h hr hn (Nat.le_trans h.num hN));have HE:Hid (∀ s1,Kin s s1->Main Z sb ob hb kb n L0 N0 false w s->True):=fun _ _ _=>trivial
 have Yp:Hid (∀ w1 s1,Main Z sb ob hb kb n L0 N0 false w1 s1->w1.cell? ⟨sb,14,none⟩=some (.bool false)/\(∃ a c,w1.cell? ⟨sb,8,none⟩=some (.slice a s1.ch.length c))/\w1.cell? ⟨sb,21,none⟩=some (.int .i64 (((50 * Lb.lub s1.r s1.r:Nat):Int) - ((s1.k:Nat):Int)))):=fun w1 s1 m1=>by
  refine ⟨?_,?_,?_⟩
  ·have:=(m1.aI.duo.aG.head 14 (by omega)).1
   rw [m1.f14] at this;exact this
  ·obtain ⟨a2,c2,e2⟩:=m1.aI.duo.aG.bC.shape (k:=2) (by omega)
   have q2:=(m1.aI.duo.aG.hd (k:=2) (by omega)).1
   rw [show cellOf 2=8 from rfl,e2,m1.dx.l2,ag] at q2
   exact ⟨a2,c2,q2⟩
  ·have:=(m1.aI.duo.aG.head 21 (by omega)).1
   rw [m1.f21] at this;exact this
 have HLE:Hid (∀ s1,Kin s s1->s1.r=s.r/\s1.k=s.k):=fun s1 k1=>⟨k1.r,k1.k⟩
 have QB:Hid (∀ w1 s1,xN Z sb ob hb kb n L0 N0 false w s (-1) w1 s1->Ready s1->s1.P=s1.tr.length->50 * Lb.lub s1.r s1.r <= s1.k->Calls Tryz.prog 97 #[.pointer (some ⟨sb,0,none⟩)] w1 fun e w'=>e=.returned (.tuple #[])/\jA Z sb ob hb kb n L0 N0 w s (.returned (.tuple #[.int .i64 0,.nilIface])) w'):=fun w1 s1 ⟨m1,c1,k1,_⟩ r1 p1 hl=>by
  refine (xJ m1 r1 hn (by rw [k1.r];exact hrr)).mono ?_
  rintro e w' ⟨rfl,c2,s2,m2,r2,a1,a2,a3,a4,_⟩;exact ⟨rfl,c1.trans c2,.inr (.inl ⟨rfl,s2,m2,r2,.inr (.inl ⟨by rw [a1,k1.r],a2,by rw [a3,k1.m],by rw [a4,k1.mo],by rw [<- k1.r,<- k1.k];exact hl⟩)⟩)⟩
 have QT:Hid (∀ w1 s1,xN Z sb ob hb kb n L0 N0 false w s (-1) w1 s1->Ready s1->s1.P=s1.tr.length->¬ 50 * Lb.lub s1.r s1.r <= s1.k->Calls Tryz.prog 102 #[.pointer (some ⟨sb,0,none⟩)] w1 fun e w'=>(e=.returned (.bool false)/\jA Z sb ob hb kb n L0 N0 w s (.returned (.tuple #[.int .i64 1,.nilIface])) w')\/(e=.returned (.bool true)/\jA Z sb ob hb kb n L0 N0 w s (.returned (.tuple #[.int .i64 0,.nilIface])) w')):=fun w1 s1 ⟨m1,c1,k1,_⟩ r1 p1 hnl=>by
  refine (MG m1 r1 p1 hn).mono ?_
  rintro e w' ⟨c2,⟨rfl,hall,s2,m2,a1,a2,a3,a4,a5⟩ | ⟨rfl,s2,m2,r2,a1,a2,a3,a4,a5⟩⟩
  ·exact .inl ⟨rfl,c1.trans c2,.inr (.inr ⟨rfl,s2,m2,by rw [a1];exact hall,by rw [a4,a1];exact p1,by rw [a5,k1.m]⟩)⟩
  ·exact .inr ⟨rfl,c1.trans c2,.inr (.inl ⟨rfl,s2,m2,r2,.inr (.inr ⟨by rw [a1,k1.k],by rw [a2,k1.m],by rw [a3,k1.r],by rw [a4,k1.mo],by have:=k1.tr;omega,by rw [k1.r,k1.k] at hnl;omega⟩)⟩)⟩
 have QC:Hid (∀ res w1 s1,xN Z sb ob hb kb n L0 N0 false w s res w1 s1->res ≠ -1->(0 <= res)/\(s1.ch=[]->Calls Tryz.prog 100 #[.pointer (some ⟨sb,0,none⟩),.slice none 0 0] w1 fun e w'=>e=.returned .nilIface/\jA Z sb ob hb kb n L0 N0 w s (.returned (.tuple #[.int .i64 2,.nilIface])) w')/\(s1.ch ≠ []->Calls Tryz.prog 101 #[.pointer (some ⟨sb,0,none⟩),.int .i64 res] w1 fun e w'=>e=.returned .nilIface/\jA Z sb ob hb kb n L0 N0 w s (.returned (.tuple #[.int .i64 0,.nilIface])) w')):=fun res w1 s1 ⟨m1,c1,k1,hc⟩ hne=>by
  rcases hc with ⟨e,_⟩ | ⟨k,hk,rfl,hkk,hf,y0,hy0,hl0⟩
  ·exact absurd e hne
  ·refine ⟨by omega,fun he=>(wE m1 hn (by rw [k1.m];exact hm) (Gh m1 he hk hkk hf)).mono ?_,fun he=>?_⟩
   ·rintro e w' ⟨rfl,c2,nv⟩;rw [k1.m] at nv;exact ⟨rfl,c1.trans c2,.inl ⟨rfl,nv⟩⟩
   ·have hd:0 < s1.ch.length:=List.length_pos_iff.2 he;have hN1:(enc s1.cs).length <= 1000000000000:=by
     have:=m1.num;rw [k1.m] at this;omega
    refine (Kz m1 hn hN1 (by rw [k1.m];exact hm) (by rw [k1.r];omega) hk hkk hd hf hy0 hl0 FG (fun s' a b c d e=>hQ s' (by rw [a,k1.k]) (by rw [b,k1.m]) (by rw [c,k1.r]) (by rw [d,k1.lc]) (by rw [e,k1.mo]))).mono ?_
    rintro e w' ⟨rfl,c2,s2,m2,r2,a1,a2,a3,a4,a5,a6⟩;exact ⟨rfl,c1.trans c2,.inr (.inl ⟨rfl,s2,m2,r2,.inl ⟨by rw [a1,k1.k],by rw [a2,k1.m],by rw [a3,k1.r],fun hh=>(a4 (by rw [k1.lc,k1.mo];exact hh)).trans k1.mo,by rw [<- k1.mo];exact a5,by rw [<- k1.ch];exact a6⟩⟩)⟩
 generalize jA Z sb ob hb kb n L0 N0 w s=RR at *
 clear FG hQ;go_enter Tryz.func57,Tryz.ntmps57
 go_upto_region 2 with (go_at_call 98;refine QS.out.mono ?_;rintro e1 w1 ⟨res,s1,rfl,hs1⟩;have S1:=hide hs1;clear hs1;simp only [])
 obtain ⟨q14,⟨a8,c8,q8⟩,q21⟩:=Yp.out _ _ S1.out.1;have QD:Hid (Calls Tryz.prog 99 #[.pointer (some ⟨sb,6,none⟩)] w1 fun e w'=>e=.returned (.int .i64 (s1.ch.length:Nat))/\w'=w1):=jH sb 6 s1.ch.length c8 w1 a8 q8
 clear QS Yp HE HLE h q8;by_cases hres:res=-1
 ·subst hres
  obtain ⟨m1,c1,k1,h1 | ⟨k,hk,e,_⟩⟩:=S1.out
  ·have QTT:=hide (QT.out _ _ S1.out h1.2.1 h1.2.2);by_cases hl:50 * Lb.lub s1.r s1.r <= s1.k
   ·have QBB:=hide (QB.out _ _ S1.out h1.2.1 h1.2.2 hl);have hl':((50 * Lb.lub s1.r s1.r:Nat):Int) - ((s1.k:Nat):Int) <= 0:=by omega
    generalize ((50 * Lb.lub s1.r s1.r:Nat):Int) - ((s1.k:Nat):Int)=left at *
    clear S1 m1 c1 k1 h1 QT QTT QB QC QD hl;go_wp2_with (go_at_call 97;refine QBB.out.mono ?_;rintro e2 w2 ⟨rfl,hr2⟩;have R2:=hide hr2;clear hr2;simp only [])
    exact R2.out
   ·have hl':¬ ((50 * Lb.lub s1.r s1.r:Nat):Int) - ((s1.k:Nat):Int) <= 0:=by omega
    generalize ((50 * Lb.lub s1.r s1.r:Nat):Int) - ((s1.k:Nat):Int)=left at *
    have QTU:=hide (QTT.out hl);clear S1 m1 c1 k1 h1 QT QB QC QD QTT hl;go_upto_region 9 with fail
    go_wp2_with (go_at_call 102;refine QTU.out.mono ?_;rintro e2 w2 (⟨rfl,hr2⟩ | ⟨rfl,hr2⟩) <;> (have R2:=hide hr2;clear hr2;simp only []))
    ·exact R2.out
    ·exact R2.out
  ·omega
 ·obtain ⟨r0,qn,ql⟩:=QC.out _ _ _ S1.out hres;have ne1:(res == -1)=false:=by simpa using hres
  have ne2:(res != -1)=true:=by simpa using hres
  by_cases he:s1.ch=[]
  ·have QN:=hide (qn he);rw [he] at QD;clear S1 QT QB QC qn ql he
   go_wp2_with (first | (go_at_call 99;refine QD.out.mono ?_;rintro e3 w3 ⟨rfl,rfl⟩;simp only []) | (go_at_call 100;refine QN.out.mono ?_;rintro e2 w2 ⟨rfl,hr2⟩;have R2:=hide hr2;clear hr2;simp only []))
   exact R2.out
  ·have QL:=hide (ql he);have hd:((s1.ch.length:Int) == 0)=false:=by simpa using he
   clear S1 QT QB QC qn ql
   go_wp2_with (first | (go_at_call 99;refine QD.out.mono ?_;rintro e3 w3 ⟨rfl,rfl⟩;simp only []) | (go_at_call 101;refine QL.out.mono ?_;rintro e2 w2 ⟨rfl,hr2⟩;have R2:=hide hr2;clear hr2;simp only []))
   exact R2.out
end
section
open Rd
def jo (n:Nat) (x:Int):Prop:=x ≠ 0/\x.natAbs <= n
theorem sQ {n:Nat} {x:Int} (h:jo n x):∃ y,y < 2 * n/\wr y=x:=by
 obtain ⟨h0,h1⟩:=h;by_cases hx:0 < x
 ·refine ⟨2 * (x.natAbs - 1),by omega,?_⟩
  unfold wr;rw [if_pos (by omega)];omega
 ·refine ⟨2 * (x.natAbs - 1) + 1,by omega,?_⟩
  unfold wr;rw [if_neg (by omega)];omega
def FM (c:Cl):Bs:=c.flatMap (fun x=>Lib.itoa x ++ [32]) ++ [48,10]
def dG (n:Nat) (l:List Cl):Bs:=[112,32,99,110,102,32] ++ Lib.decDigits n ++ [32] ++ Lib.decDigits l.length ++ [10] ++ l.flatMap FM
def si (l:List Cl):List Bs:=l.flatMap fun c=>c.map Lib.itoa ++ [[48]]
theorem Af:∀ (tok w:Bs) (g:UInt8) (r:Bs),(∀ x ∈ tok,gap x=false)->gap g=true->w ++ tok ≠ []->dU w (tok ++ g :: r)=(w ++ tok) :: dU [] r
 | [],w,g,r,h,hg,hn=>by
  show dU w (g :: r)=_
  rw [show dU w (g :: r)=if gap g then (if w.isEmpty then dU [] r else w :: dU [] r) else dU (w ++ [g]) r from rfl,hg,if_pos rfl,if_neg (by simpa using hn),List.append_nil]
 | x :: tok,w,g,r,h,hg,hn=>by
  show dU w (x :: (tok ++ g :: r))=_
  rw [show dU w (x :: (tok ++ g :: r))=if gap x then (if w.isEmpty then dU [] (tok ++ g :: r) else w :: dU [] (tok ++ g :: r)) else dU (w ++ [x]) (tok ++ g :: r) from rfl,h x (by simp),if_neg (by simp),Af tok (w ++ [x]) g r (fun y hy=>h y (by simp [hy])) hg (by simp)]
  simp
theorem Pd {t:Bs} (h1:tT 32 t) (h2:tT 9 t) (h3:tT 10 t):∀ x ∈ t,gap x=false:=fun x hx=>by
 unfold gap;rw [h1 x hx,h2 x hx,h3 x hx];rfl
theorem Iu {n:Nat} (hn:n <= 50) (r:Bs):∀ (c:Cl),(∀ x ∈ c,jo n x)->dU [] (FM c ++ r)=(c.map Lib.itoa ++ [[48]]) ++ dU [] r
 | [],_=>by
  show dU [] ([48] ++ 10 :: r)=_
  rw [Af [48] [] 10 r (by intro x hx;simp at hx;subst hx;decide) (by decide) (by simp)];rfl
 | x :: c,h=>by
  obtain ⟨y,hy,rfl⟩:=sQ (h x (by simp))
  obtain ⟨_,_,f32,f10,_,f9,_,_,ne⟩:=sN hn hy;have e:FM (wr y :: c) ++ r=Lib.itoa (wr y) ++ 32 :: (FM c ++ r):=by unfold FM;simp
  rw [e,Af _ [] 32 _ (Pd f32 f9 f10) (by decide) (by simpa using ne),Iu hn r c (fun z hz=>h z (by simp [hz]))]
  rfl
theorem yZ {n:Nat} (hn:n <= 50):∀ (l:List Cl),(∀ c ∈ l,∀ x ∈ c,jo n x)->toks (l.flatMap FM)=si l
 | [],_=>rfl
 | c :: l,h=>by
  have ih:=yZ hn l (fun d hd=>h d (by simp [hd]))
  unfold toks at ih ⊢;rw [List.flatMap_cons,Iu hn _ c (h c (by simp)),ih]
  unfold si;rw [List.flatMap_cons]
theorem EP {n:Nat} (hn:n <= 50):∀ (c:Cl) (acc:List Cl) (cur:Cl),(∀ x ∈ c,jo n x)->(c.map Lib.itoa ++ [[48]]).foldl (fun st t=>if zero t then (st.1 ++ [st.2],[]) else (st.1,st.2 ++ [dJ t])) (acc,cur)=(acc ++ [cur ++ c],[])
 | [],acc,cur,_=>by simp [zero]
 | x :: c,acc,cur,h=>by
  obtain ⟨y,hy,rfl⟩:=sQ (h x (by simp))
  obtain ⟨_,lv,_,_,_,_,_,lz,_⟩:=sN hn hy;rw [List.map_cons,List.cons_append,List.foldl_cons];simp only [lz,lv,Bool.false_eq_true,if_false];rw [EP hn c acc (cur ++ [wr y]) (fun z hz=>h z (by simp [hz]))]
  simp
theorem PO {n:Nat} (hn:n <= 50) (l:List Cl) (h:∀ c ∈ l,∀ x ∈ c,jo n x):bQ (si l)=(l,[]):=by
 have key:∀ (l:List Cl) (acc:List Cl),(∀ c ∈ l,∀ x ∈ c,jo n x)->(si l).foldl (fun st t=>if zero t then (st.1 ++ [st.2],[]) else (st.1,st.2 ++ [dJ t])) (acc,[])=(acc ++ l,[]):=by
  intro l
  induction l with
  | nil=>intro acc _;simp [si]
  | cons c l ih=>
   intro acc h;have e:si (c :: l)=(c.map Lib.itoa ++ [[48]]) ++ si l:=by unfold si;rw [List.flatMap_cons]
   rw [e,List.foldl_append,EP hn c acc [] (h c (by simp)),ih _ (fun d hd=>h d (by simp [hd]))]
   simp
 have:=key l [] h;unfold bQ;rw [this];simp
theorem Sy {n:Nat} (hn:n <= 50) (l:List Cl) (h:∀ c ∈ l,∀ x ∈ c,jo n x):iG (Lib.decDigits n) (si l)=true:=by
 unfold iG;rw [List.all_eq_true];intro t ht;obtain ⟨c,hc,ht⟩:=List.mem_flatMap.1 ht
 rcases List.mem_append.1 ht with ht | ht
 ·obtain ⟨x,hx,rfl⟩:=List.mem_map.1 ht;obtain ⟨y,hy,rfl⟩:=sQ (h c hc x hx);rw [(sN hn hy).1];simp
 ·simp at ht;subst ht;rw [show zero [48]=true from rfl];rfl
def wM (l:List Cl):Nat:=(l.map List.length).sum
theorem IW {n:Nat} (hn:n <= 50):∀ (c:Cl),(∀ x ∈ c,jo n x)->((c.map Lib.itoa ++ [[48]]).filter fun t=>!zero t).length=c.length
 | [],_=>by decide
 | x :: c,h=>by
  obtain ⟨y,hy,rfl⟩:=sQ (h x (by simp))
  rw [List.map_cons,List.cons_append,List.filter_cons,(sN hn hy).2.2.2.2.2.2.2.1];simp only [Bool.not_false,if_true,List.length_cons];rw [IW hn c (fun z hz=>h z (by simp [hz]))]
theorem zI {n:Nat} (hn:n <= 50):∀ (l:List Cl),(∀ c ∈ l,∀ x ∈ c,jo n x)->lits (si l)=wM l
 | [],_=>rfl
 | c :: l,h=>by
  have ih:=zI hn l (fun d hd=>h d (by simp [hd]))
  have e:si (c :: l)=(c.map Lib.itoa ++ [[48]]) ++ si l:=by unfold si;rw [List.flatMap_cons]
  unfold lits at ih ⊢;rw [e,List.filter_append,List.length_append,IW hn c (h c (by simp)),ih]
  simp [wM]
theorem rM:∀ m,m < 1000->dN (Lib.decDigits m)=true/\(Lib.decDigits m).all (fun b=>!(b == 32) && !(b == 10) && !(b == 45) && !(b == 9))=true/\(Lib.decDigits m).length <= 3:=by decide +kernel
theorem Ry:∀ m,m < 51->above (Lib.decDigits m) [53,48]=false/\dM (Lib.decDigits m)=(m:Int):=by decide +kernel
theorem ED {m:Nat} (h:m < 1000):tT 32 (Lib.decDigits m)/\tT 10 (Lib.decDigits m):=by
 have:=List.all_eq_true.1 (rM m h).2.1;constructor
 all_goals
  intro b hb;have:=this b hb;simp at this ⊢;simp [this]
theorem UJ {c:UInt8}:∀ {a:Bs} (r:Bs),tT c a->(a ++ c :: r).takeWhile (fun x=>!(x == c))=a
 | [],r,_=>by simp
 | x :: a,r,h=>by
  rw [List.cons_append,List.takeWhile_cons,h x (by simp)]
  simp only [Bool.not_false,if_true];rw [UJ (a:=a) r (fun y hy=>h y (by simp [hy]))]
theorem JV {n:Nat} (hn:n <= 50) {l:List Cl} (hl:l.length < 1000) (h:∀ c ∈ l,∀ x ∈ c,jo n x) (hm:wM l <= 700) (hs:(dG n l).length <= 20000):iQ (dG n l)=((n:Int),l,0):=by
 obtain ⟨n32,n10⟩:=ED (m:=n) (by omega)
 obtain ⟨m32,m10⟩:=ED (m:=l.length) hl;have numN:=(rM n (by omega)).1
 have numM:=(rM l.length hl).1;obtain ⟨va,vv⟩:=Ry n (by omega)
 unfold iQ;rw [if_neg (by omega)]
 generalize hH:([112,32,99,110,102,32] ++ Lib.decDigits n ++ [32] ++ Lib.decDigits l.length:Bs)=H;have e:dG n l=H ++ 10 :: l.flatMap FM:=by unfold dG;rw [<- hH];simp
 have hf:tT 10 H:=by
  rw [<- hH];intro b hb;simp only [List.mem_append] at hb
  rcases hb with ((hb | hb) | hb) | hb
  ·revert b;decide
  ·exact n10 b hb
  ·simp at hb;subst hb;decide
  ·exact m10 b hb
 have e1:line (dG n l)=H:=by unfold line;rw [e];exact UJ _ hf
 have e2:ended (dG n l)=true:=by unfold ended;rw [e1,e];simp
 have e3:rest (dG n l)=l.flatMap FM:=by
  unfold rest;rw [e1,e,List.drop_append];simp
 have e4:comment H=false:=by rw [<- hH];unfold comment Lib.hasPrefix;simp [List.isPrefixOf]
 have e5:qY H=some (Lib.decDigits n,Lib.decDigits l.length):=by
  unfold qY;have:splitB 32 H=[[112],[99,110,102],Lib.decDigits n,Lib.decDigits l.length]:=by
   rw [zb,<- hH];rw [show ([112,32,99,110,102,32] ++ Lib.decDigits n ++ [32] ++ Lib.decDigits l.length:Bs)=[112] ++ 32 :: ([99,110,102] ++ 32 :: (Lib.decDigits n ++ 32 :: Lib.decDigits l.length)) by simp]
   rw [oV _ (by intro x hx;simp at hx;subst hx;decide),oV _ (by intro x hx;revert x;decide),oV _ n32,uk m32]
  rw [this];simp only [numN,numM];rfl
 rw [show lT ((dG n l).length + 1) (dG n l)=if ended (dG n l) then (if comment (line (dG n l)) then lT (dG n l).length (rest (dG n l)) else (qY (line (dG n l))).map fun x=>(x.1,x.2,rest (dG n l))) else none from rfl,e2,if_pos rfl,e1,e4,if_neg (by simp),e5]
 simp only [Option.map_some];unfold body;rw [e3,yZ hn l h,Sy hn l h,if_pos rfl,PO hn l h,zI hn l h,va,vv];simp only [List.isEmpty_nil,Bool.true_and,beq_self_eq_true,if_true,Bool.false_or];rw [if_neg (by simpa using hm)]
theorem Jg {n:Nat} (hn:n <= 50):∀ (c:Cl),(∀ x ∈ c,jo n x)->(FM c).length <= 4 * c.length + 2
 | [],_=>by decide
 | x :: c,h=>by
  obtain ⟨y,hy,rfl⟩:=sQ (h x (by simp))
  have h1:=(sN hn hy).2.2.2.2.2.2.1;have ih:=Jg hn c (fun z hz=>h z (by simp [hz]))
  unfold FM at ih ⊢;rw [List.flatMap_cons];simp only [List.length_append,List.length_cons,List.length_nil] at ih ⊢;omega
theorem Cn {n:Nat} (hn:n <= 50) {l:List Cl} (hl:l.length < 1000) (h:∀ c ∈ l,∀ x ∈ c,jo n x):(dG n l).length <= 14 + 4 * wM l + 2 * l.length:=by
 have key:∀ (l:List Cl),(∀ c ∈ l,∀ x ∈ c,jo n x)->(l.flatMap FM).length <= 4 * wM l + 2 * l.length:=by
  intro l
  induction l with
  | nil=>intro _;simp
  | cons c l ih=>
   intro h;have h1:=Jg hn c (h c (by simp))
   have h2:=ih (fun d hd=>h d (by simp [hd]))
   rw [List.flatMap_cons,List.length_append,List.length_cons];have:wM (c :: l)=c.length + wM l:=by simp [wM]
   omega
 have h1:=key l h;have h2:=(rM n (by omega)).2.2
 have h3:=(rM l.length hl).2.2;unfold dG;simp only [List.length_append,List.length_cons,List.length_nil];omega
end
section
open Rd
theorem xC (d:Array Int) (hs:∀ i j,i <= j->j < d.size->d[i]! <= d[j]!):∀ m,m <= d.size->(∀ x,x ∈ Lib.compactUpTo d m↔∃ j,j < m/\d[j]! = x)/\(Lib.compactUpTo d m).Pairwise (· < ·)
 | 0,_=>by
  rw [show Lib.compactUpTo d 0=[] from rfl]
  exact ⟨fun x=>by simp,List.Pairwise.nil⟩
 | m + 1,h=>by
  obtain ⟨h1,h2⟩:=xC d hs m (by omega)
  rw [Lib.compactUpTo_succ];by_cases hk:Lib.keeps d m=true
  ·rw [if_pos hk];have hlt:∀ x ∈ Lib.compactUpTo d m,x < d[m]! := fun x hx=>by
    obtain ⟨j,hj,e⟩:=(h1 x).1 hx;have hm:0 < m:=by omega
    have a:=hs j (m - 1) (by omega) (by omega)
    have b:=hs (m - 1) m (by omega) (by omega)
    have c:d[m]! ≠ d[m - 1]! := fun e=>by rw [Lib.keeps_neg hm e] at hk;cases hk
    omega
   refine ⟨fun x=>?_,List.pairwise_append.2 ⟨h2,by simp,fun a ha b hb=>?_⟩⟩
   ·rw [List.mem_append,h1];constructor
    ·rintro (⟨j,hj,e⟩ | hx)
     ·exact ⟨j,by omega,e⟩
     ·simp at hx;exact ⟨m,by omega,hx.symm⟩
    ·rintro ⟨j,hj,e⟩
     rcases Nat.lt_succ_iff_lt_or_eq.1 hj with g | g
     ·exact .inl ⟨j,g,e⟩
     ·subst g;exact .inr (by simp [e])
   ·simp at hb;subst hb;exact hlt a ha
  ·rw [if_neg hk,List.append_nil];refine ⟨fun x=>?_,h2⟩
   rw [h1];have hm:0 < m:=by
    rcases Nat.eq_zero_or_pos m with e | e
    ·subst e;exact absurd (Lib.keeps_lt_one d 0 (by omega)) hk
    ·exact e
   have e:d[m]! = d[m - 1]! := by
    rcases Decidable.em (d[m]! = d[m - 1]!) with g | g
    ·exact g
    ·exact absurd (Lib.keeps_pos g) hk
   constructor
   ·rintro ⟨j,hj,e2⟩;exact ⟨j,by omega,e2⟩
   ·rintro ⟨j,hj,e2⟩
    rcases Nat.lt_succ_iff_lt_or_eq.1 hj with g | g
    ·exact ⟨j,g,e2⟩
    ·subst g;exact ⟨j - 1,by omega,by rw [<- e];exact e2⟩
theorem Ai (zs:List Int):(∀ x,x ∈ Lib.compact (zs.mergeSort fun x y=>decide (x <= y))↔x ∈ zs)/\(Lib.compact (zs.mergeSort fun x y=>decide (x <= y))).Pairwise (· < ·):=by
 have hp:=List.mergeSort_perm zs (fun x y=>decide (x <= y))
 have hs:(zs.mergeSort fun x y=>decide (x <= y)).Pairwise (fun x y=>decide (x <= y)=true):=by
  exact List.pairwise_mergeSort (fun a b c h1 h2=>by simp at h1 h2 ⊢;omega) (fun a b=>by simp;omega) zs
 generalize zs.mergeSort (fun x y=>decide (x <= y))=l at *
 have hs':∀ i j,i <= j->j < l.toArray.size->l.toArray[i]! <= l.toArray[j]! := fun i j hij hj=>by
  have hj':j < l.length:=by simpa using hj
  rw [getElem!_pos l.toArray i (by simp;omega),getElem!_pos l.toArray j hj]
  simp only [List.getElem_toArray]
  rcases Nat.eq_or_lt_of_le hij with e | e
  ·subst e;exact Int.le_refl _
  ·have:=List.pairwise_iff_getElem.1 hs i j (by omega) hj' e
   simpa using this
 obtain ⟨h1,h2⟩:=xC l.toArray hs' l.length (by simp)
 refine ⟨fun x=>?_,h2⟩
 rw [<- hp.mem_iff];unfold Lib.compact;rw [h1];constructor
 ·rintro ⟨j,hj,rfl⟩;rw [getElem!_pos l.toArray j (by simpa using hj)]
  simp
 ·intro hx;obtain ⟨j,hj,e⟩:=List.mem_iff_getElem.1 hx;exact ⟨j,hj,by rw [getElem!_pos l.toArray j (by simpa using hj)];simpa using e⟩
theorem JG (ns:List Nat):∃ c:List Nat,Lib.compact ((ns.map fun (x:Nat)=>(x:Int)).mergeSort fun x y=>decide (x <= y))=c.map (fun (x:Nat)=>(x:Int))/\(∀ x,x ∈ c↔x ∈ ns)/\c.Pairwise (· < ·):=by
 obtain ⟨h1,h2⟩:=Ai (ns.map fun (x:Nat)=>(x:Int))
 generalize Lib.compact ((ns.map fun (x:Nat)=>(x:Int)).mergeSort fun x y=>decide (x <= y))=l at *
 have e:l=(l.map Int.toNat).map (fun (x:Nat)=>(x:Int)):=by
  rw [List.map_map]
  conv=>lhs;rw [<- List.map_id l]
  apply List.map_congr_left
  intro z hz;obtain ⟨x,_,rfl⟩:=List.mem_map.1 ((h1 z).1 hz);simp
 refine ⟨l.map Int.toNat,e,fun x=>?_,?_⟩
 ·constructor
  ·intro hx;obtain ⟨z,hz,rfl⟩:=List.mem_map.1 hx;obtain ⟨y,hy,rfl⟩:=List.mem_map.1 ((h1 z).1 hz);simpa using hy
  ·intro hx;have:=(h1 (x:Int)).2 (List.mem_map.2 ⟨x,hx,rfl⟩);exact List.mem_map.2 ⟨_,this,by simp⟩
 ·rw [e] at h2;have:=List.pairwise_map.1 h2;exact this.imp fun h=>by omega
theorem Ff {c:List Nat} (hs:c.Pairwise (· < ·)) {i j:Nat} (hi:i < c.length) (hj:j < c.length) (e:c[j]=c[i] + 1):j=i + 1:=by
 have lt:=List.pairwise_iff_getElem.1 hs
 rcases Nat.lt_trichotomy j i with h | h | h
 ·have:=lt j i hj hi h;omega
 ·subst h;omega
 ·rcases Nat.lt_or_ge (i + 1) j with g | g
  ·have h1:=lt i (i + 1) hi (by omega) (by omega)
   have h2:=lt (i + 1) j (by omega) hj g
   omega
  ·omega
theorem Co {c:List Nat} (hs:c.Pairwise (· < ·)):(∃ j,∃ h:j + 1 < c.length,c[j + 1]=op c[j])↔∃ x ∈ c,op x ∈ c:=by
 constructor
 ·rintro ⟨j,h,e⟩;exact ⟨c[j],List.getElem_mem _,e ▸ List.getElem_mem _⟩
 ·rintro ⟨x,h1,h2⟩;obtain ⟨i,hi,ei⟩:=List.mem_iff_getElem.1 h1;obtain ⟨j,hj,ej⟩:=List.mem_iff_getElem.1 h2;by_cases hx:x % 2=0
  ·have eo:op x=x + 1:=by unfold op;rw [if_pos hx]
   have:j=i + 1:=Ff hs hi hj (by rw [ej,eo,ei])
   subst this;exact ⟨i,hj,by rw [ej,ei]⟩
  ·have eo:x=op x + 1:=by unfold op;rw [if_neg hx];omega
   have:i=j + 1:=Ff hs hj hi (by rw [ei,ej];exact eo)
   subst this;exact ⟨j,hi,by rw [ei,ej,gQ]⟩
theorem F5 {c:List Nat} (hs:c.Pairwise (· < ·)) (ht:¬ ∃ x ∈ c,op x ∈ c):(c.map (· / 2)).Nodup:=by
 refine List.pairwise_map.2 (hs.imp_of_mem fun {a b} ha hb hab e=>?_)
 rcases nT e with g | g
 ·omega
 ·exact ht ⟨b,hb,g ▸ ha⟩
theorem Lp {L:List Cl} {ls:List Int} (h:nJ L ls) (c:Cl):nJ (L ++ [c]) ls:=fun M h1 h2 h3=>h M h1 h2 fun d hd=>h3 d (List.mem_append_left _ hd)
theorem ig {L:List Cl} (h:bH L []) (c:Cl):bH (L ++ [c]) []:=by
 rcases h with h | ⟨l,r,e,_⟩
 ·exact .inl (Lp h c)
 ·cases e
end
end So
end Go.Proofs.YtceahffmenbibaaGreatDoor
namespace Go.Proofs
open Go.Shelf
def Tryz.DI:Go.Shelf.Ren:=⟨fun | 189=>129 | 125=>120 | 257=>174 | 128=>169 | 129=>170 | 294=>204 | 295=>205 | 296=>206 | 297=>207 | 298=>208 | 299=>209 | 216=>210 | 300=>211 | 301=>212 | 328=>231 | 329=>232 | 330=>233 | 331=>234 | 332=>235 | 215=>236 | 343=>245 | n=>n,fun | 28=>43 | 3=>3 | 46=>187 | 0=>0 | 51=>218 | 53=>82 | 4=>4 | 183=>246 | 182=>245 | 131=>177 | 5=>5 | 9=>9 | 218=>257 | 222=>261 | 228=>269 | 229=>96 | n=>n,fun | n=>n⟩
theorem Tryz.Tz:Go.Proofs.Lays.n189 Tryz.prog Tryz.DI:={
 mixed:=by kernel_rfl
 f125:=Tryz.func120.trans (congrArg some (by kernel_rfl))
 f128:=Tryz.func169.trans (congrArg some (by kernel_rfl))
 f129:=Tryz.func170.trans (congrArg some (by kernel_rfl))
 f189:=Tryz.func129.trans (congrArg some (by kernel_rfl))
 f215:=Tryz.func236.trans (congrArg some (by kernel_rfl))
 f216:=Tryz.func210.trans (congrArg some (by kernel_rfl))
 f257:=Tryz.func174.trans (congrArg some (by kernel_rfl))
 f294:=Tryz.func204.trans (congrArg some (by kernel_rfl))
 f295:=Tryz.func205.trans (congrArg some (by kernel_rfl))
 f296:=Tryz.func206.trans (congrArg some (by kernel_rfl))
 f297:=Tryz.func207.trans (congrArg some (by kernel_rfl))
 f298:=Tryz.func208.trans (congrArg some (by kernel_rfl))
 f299:=Tryz.func209.trans (congrArg some (by kernel_rfl))
 f300:=Tryz.func211.trans (congrArg some (by kernel_rfl))
 f301:=Tryz.func212.trans (congrArg some (by kernel_rfl))
 f328:=Tryz.func231.trans (congrArg some (by kernel_rfl))
 f329:=Tryz.func232.trans (congrArg some (by kernel_rfl))
 f330:=Tryz.func233.trans (congrArg some (by kernel_rfl))
 f331:=Tryz.func234.trans (congrArg some (by kernel_rfl))
 f332:=Tryz.func235.trans (congrArg some (by kernel_rfl))
 f343:=Tryz.func245.trans (congrArg some (by kernel_rfl))
 t0:=Tryz.underlying0
 a0:=Tryz.isAgg0
 z0:=Tryz.sizeOf0
 v0:=Tryz.zeroValue0
 t3:=Tryz.underlying3
 a3:=Tryz.isAgg3
 z3:=Tryz.sizeOf3
 v3:=Tryz.zeroValue3
 t4:=Tryz.underlying4
 a4:=Tryz.isAgg4
 z4:=Tryz.sizeOf4
 v4:=Tryz.zeroValue4
 t5:=Tryz.underlying5
 a5:=Tryz.isAgg5
 z5:=Tryz.sizeOf5
 v5:=Tryz.zeroValue5
 t9:=Tryz.underlying9
 a9:=Tryz.isAgg9
 z9:=Tryz.sizeOf9
 v9:=Tryz.zeroValue9
 t28:=Tryz.underlying43
 a28:=Tryz.isAgg43
 z28:=Tryz.sizeOf43
 v28:=Tryz.zeroValue43
 t46:=Tryz.underlying187
 a46:=Tryz.isAgg187
 z46:=Tryz.sizeOf187
 v46:=Tryz.zeroValue187
 t51:=Tryz.underlying218
 a51:=Tryz.isAgg218
 z51:=Tryz.sizeOf218
 v51:=Tryz.zeroValue218
 t53:=Tryz.underlying82
 a53:=Tryz.isAgg82
 z53:=Tryz.sizeOf82
 v53:=Tryz.zeroValue82
 t131:=Tryz.underlying177
 a131:=Tryz.isAgg177
 z131:=Tryz.sizeOf177
 v131:=Tryz.zeroValue177
 t182:=Tryz.underlying245
 a182:=Tryz.isAgg245
 z182:=Tryz.sizeOf245
 v182:=Tryz.zeroValue245
 t183:=Tryz.underlying246
 a183:=Tryz.isAgg246
 z183:=Tryz.sizeOf246
 v183:=Tryz.zeroValue246
 t218:=Tryz.underlying257
 a218:=Tryz.isAgg257
 z218:=Tryz.sizeOf257
 v218:=Tryz.zeroValue257
 t222:=Tryz.underlying261
 a222:=Tryz.isAgg261
 z222:=Tryz.sizeOf261
 v222:=Tryz.zeroValue261
 t228:=Tryz.underlying269
 a228:=Tryz.isAgg269
 z228:=Tryz.sizeOf269
 v228:=Tryz.zeroValue269
 t229:=Tryz.underlying96
 a229:=Tryz.isAgg96
 z229:=Tryz.sizeOf96
 v229:=Tryz.zeroValue96 }
open Go.Sort Go.RowKit in
theorem Tryz.slices_Sort_int (blk off cap:Nat) (zs:List Int) (w:World) (hH:Holds (Value.int .i64) w blk off zs.toArray) (hblk:blk < w.heap.size) (hsz:zs.length < 4611686018427387904):
  Calls Tryz.prog 129 #[.slice (some ⟨blk,off,none⟩) zs.length cap] w fun e w'=>
   e=.returned (.tuple #[])/\∃ n os,w'=grow (putRow (Value.int .i64) (Sort.ahead w n) blk off (zs.mergeSort fun x y=>decide (x <= y)).toArray) os:=Any.slices_Sort_int Tryz.Tz blk off cap zs w hH hblk hsz
def Tryz.yB:Go.Shelf.Ren:=⟨fun | 20=>130 | n=>n,fun | 22=>43 | 3=>3 | 4=>4 | 0=>0 | n=>n,fun | n=>n⟩
theorem Tryz.KF:Go.Proofs.Lays2.n20 Tryz.prog Tryz.yB:={
 mixed:=by kernel_rfl
 f20:=Tryz.func130.trans (congrArg some (by kernel_rfl))
 t0:=Tryz.underlying0
 a0:=Tryz.isAgg0
 z0:=Tryz.sizeOf0
 v0:=Tryz.zeroValue0
 t3:=Tryz.underlying3
 a3:=Tryz.isAgg3
 z3:=Tryz.sizeOf3
 v3:=Tryz.zeroValue3
 t4:=Tryz.underlying4
 a4:=Tryz.isAgg4
 z4:=Tryz.sizeOf4
 v4:=Tryz.zeroValue4
 t22:=Tryz.underlying43
 a22:=Tryz.isAgg43
 z22:=Tryz.sizeOf43
 v22:=Tryz.zeroValue43
 i3:=by kernel_rfl }
open Go.RowKit Go.Lib Go.Sort in
theorem Tryz.slices_Compact_int (blk off cap:Nat) (zs:List Int) (w:World) (hH:Holds (Value.int .i64) w blk off zs.toArray) (hsz:zs.length <= 9223372036854775807) (hcap:zs.length <= cap):
  Calls Tryz.prog 130 #[.slice (some ⟨blk,off,none⟩) zs.length cap] w fun e w'=>e=.returned (.slice (some ⟨blk,off,none⟩) (Lib.compact zs).length cap)/\∃ q,w'=putRow (Value.int .i64) (Sort.ahead w q) blk off (Lib.compact zs ++ List.replicate (zs.length - (Lib.compact zs).length) 0).toArray:=Any.slices_Compact_int Tryz.KF blk off cap zs w hH hsz hcap
end Go.Proofs
