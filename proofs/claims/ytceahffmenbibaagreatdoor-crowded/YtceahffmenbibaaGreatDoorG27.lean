/- Sstp Ttxt Tgiv Shelf2 Sgiv Sgia. -/
import Derived.Test.YtceahffmenbibaaGreatDoorG26
import Derived.Test.YtceahffmenbibaaGreatDoorG08
import Derived.Test.YtceahffmenbibaaGreatDoorG04
import Derived.Lib.SlicesCompact
import Derived.Shelf.Sort.Plain
import Derived.Shelf.Slices.CompactI
import Derived.Test.YtceahffmenbibaaGreatDoorProg
import Derived.Test.YtceahffmenbibaaGreatDoorG21
import Derived.Sort.OwnSortedInts
import Derived.Lib.RowBridge
set_option linter.unusedVariables false
set_option linter.unusedSimpArgs false
set_option maxHeartbeats 4000000
set_option maxRecDepth 100000
open Go.Proofs.Tryz
namespace Go.Proofs.YtceahffmenbibaaGreatDoor
namespace So
section
open Go Go.RowKit Go.Deep Rd
section
variable {Z:Nat->Prop} {sb ob hb kb n:Nat} {L0:List Cl} {N0:Nat} {brk:Bool} {w0 w w':World} {s:St}
def sO (Z:Nat->Prop) (kb n:Nat) (L0:List Cl) (mx:Nat) (w:World):Prop:=
 ∃ (ls:List (Bool × List Nat)) (L:List Cl),nV Z kb w (dS ls ++ [48,10])/\jQ L0 (ls.map fun l=>(l.1,l.2.map wr)) L/\El L []/\(∀ l ∈ ls,∀ x ∈ l.2,x < 2 * n)/\(dS ls).length <= 250 * mx
def Going (s s':St):Prop:=
 (s'.k=s.k + 1/\s'.m=s.m + 1/\s'.r=s.r/\(s.lc + 1 <= s.mo->s'.mo=s.mo)/\s'.mo <= s.mo + 100/\s'.ch.length < s.ch.length)\/(s'.r=s.r + 1/\s'.k=0/\s'.m=s.m/\s'.mo=s.mo/\50 * Lb.lub s.r s.r <= s.k)\/(s'.k=s.k/\s'.m=s.m/\s'.r=s.r/\s'.mo=s.mo/\s.tr.length < s'.tr.length/\s.k < 50 * Lb.lub s.r s.r)
structure Y5 (s s':St):Prop where
 k:s'.k=s.k
 m:s'.m=s.m
 r:s'.r=s.r
 lc:s'.lc=s.lc
 mo:s'.mo=s.mo
 ch:s'.ch=s.ch
 tr:s.tr.length <= s'.tr.length
theorem Main.Xv (h:Main Z sb ob hb kb n L0 N0 brk w s) (a:Ready s):rO (zz s.Rs w) sb w (16 + 2 * n) s.f s.X n s.ch s.cs s.tr s.sp s.cs s.tr s.lev s.rea s.wl s.f s.V s.X w where
 pi:=by have:=h.pi;rw [show s.P=s.sp from a] at this;exact this
 dH:=h.dJ.duo.dH
 x0:=h.x0
 gD:=h.gD
 gT:=h.gT
 perm:=iI.refl _
 only:=fun _ _ _ _=>rfl
 ff:=fun _ _ _=>rfl
 f7:=h.f7
 Bj:=h.Bj
 late:=by have:=h.late;rw [show s.P=s.sp from a] at this;exact this
 ext:=⟨[],by simp⟩
 eP:=dC.refl _
def zV (Z:Nat->Prop) (sb ob hb kb n:Nat) (L0:List Cl) (N0:Nat) (brk:Bool) (w:World) (s:St) (res:Int) (w':World) (s':St):Prop:=
 Main Z sb ob hb kb n L0 N0 brk w' s'/\dC Z w w'/\Y5 s s'/\((res=-1/\Ready s'/\s'.P=s'.tr.length)\/∃ k,∃ hk:k < s'.cs.length,res=((dw s'.cs k:Nat):Int)/\(s'.cs[k]).kind ≠ 2/\(∀ y ∈ (s'.cs[k]).lits,op y ∈ s'.tr)/\∃ y ∈ (s'.cs[k]).lits,s'.lev (y / 2)=s'.ch.length)
theorem wI (h:Main Z sb ob hb kb n L0 N0 brk w s) (q:Ready s) (r:n <= 50) (C:(enc s.cs).length <= 1000000000000):
  Calls Tryz.prog 98 #[.pointer (some ⟨sb,0,none⟩)] w fun e w'=>∃ a j,e=.returned (.int .i64 a)/\zV Z sb ob hb kb n L0 N0 brk w s a w' j:=by
 refine (tL (h.Xv q) rfl r (by omega)).mono ?_
 rintro e w' ⟨a,P,B,v,z,p,l,y,D,H,G,rfl,g⟩;obtain ⟨o,m⟩:=h.spread g;refine ⟨a,_,rfl,o,m,⟨rfl,rfl,rfl,rfl,rfl,rfl,by obtain ⟨E,rfl⟩:=g.ext;simp⟩,?_⟩
 rcases g.res with ⟨i,b,d⟩ | ⟨k,t,i,b,d,u⟩
 ·exact .inl ⟨i,b.trans d.symm,b⟩
 ·exact .inr ⟨k,t,i,b,d,u⟩
theorem yN (h:Main Z sb ob hb kb n L0 N0 brk w s) (a:n <= 50) (q:s.m <= 22000000000) (i:El s.L []):
  Calls Tryz.prog 100 #[.pointer (some ⟨sb,0,none⟩),.slice none 0 0] w fun e w'=>e=.returned .nilIface/\dC Z w w'/\sO Z kb n L0 s.m w':=by
 have p:=h.Yl;refine (xP (c:=[]) h.dJ a h.f0 (.slice none 0 0) ⟨none,0,0,0,rfl,fun _=>rfl,fun h=>by simp at h⟩ (by simp) (by simp) (by omega)).mono ?_
 rintro e w' ⟨rfl,d,o,r,j,l,k,T⟩;refine ⟨rfl,d,s.ls,s.L,?_,h.lines,i,h.yY,h.Yl⟩;have:=T.OE.LU (Z':=Z) (fun g _ b=>T.xW T.zk g b) T.az
 exact this
theorem IP (h:Main Z sb ob hb kb n L0 N0 brk w s) (hd:s.ch=[]) {k:Nat} (e:k < s.cs.length) (a:(s.cs[k]).kind ≠ 2) (i:∀ y ∈ (s.cs[k]).lits,op y ∈ s.tr):El s.L []:=by
 have b:=h.pi.dJ;have d:=h.pi.pz;rw [hd] at b d;exact Br (yO b d h.uk.hL (h.uk.hL _ _ (dP e) a) i)
theorem zQ (h:Main Z sb ob hb kb n L0 N0 brk w s) (R:Ready s) (T:n <= 50) (u:s.r < 134217727):
  Calls Tryz.prog 97 #[.pointer (some ⟨sb,0,none⟩)] w fun e w'=>e=.returned (.tuple #[])/\dC Z w w'/\∃ b,Main Z sb ob hb kb n L0 N0 brk w' b/\Ready b/\b.r=s.r + 1/\b.k=0/\b.m=s.m/\b.mo=s.mo/\b.lc=s.lc:=by
 refine (NH h.dJ.duo T h.gD h.pi.dJ h.lam h.f20 u).mono ?_;rintro e w' ⟨rfl,hc,w1,d,V1,X1,a,aa,J,t,A,I,D⟩;obtain ⟨O,N⟩:=h.dJ.yo D hc;have p:∃ (sp:Nat),d 7=.int .i64 ((sp:Nat):Int)/\sp <= (s.tr.take t).length/\PI n (mapOf s.cs) (s.tr.take t) [] s.lev s.rea s.wl sp/\(brk=false->wm (mapOf s.cs) (s.tr.take t) s.lev)/\∀ v,v < n->a v->∃ x ∈ s.tr.take t,x / 2=v:=by
  rcases A.how with ⟨e1,H,G,E⟩ | ⟨hd,H,G,E⟩
  ·subst H G;rw [List.take_length];have o:=h.pi;rw [e1] at o;refine ⟨s.sp,E.trans h.f7,h.Bj,?_,h.Ag,h.sM⟩;rw [<- show s.P=s.sp from R];exact o
  ·subst H G;have Y:s.ch[0] < s.tr.length:=h.pi.dJ.iC.2 _ (List.getElem_mem hd);have M:s.ch.take 0=[]:=List.take_zero;refine ⟨s.ch[0],E,by rw [List.length_take];omega,⟨M ▸ h.pi.dJ.back hd,M ▸ h.pi.pz.back h.pi.dJ hd,h.pi.mg,h.pi.oM,h.pi.wK.back h.pi.dJ hd (h.late _ (List.getElem_mem hd))⟩,fun hb=>(h.Ag hb).back h.pi.dJ hd,fun v Q L=>?_⟩
   obtain ⟨y,i,e⟩:=h.sM v Q L.1;rw [<- List.take_append_drop s.ch[0] s.tr] at i
   rcases List.mem_append.1 i with i | i
   ·exact ⟨y,i,e⟩
   ·exact absurd e (L.2 y i)
 obtain ⟨sp,b1,b2,b3,b4,b5⟩:=p;have K:∀ j,j ≠ 20->j ≠ 21->upd (upd d 20 (.int .i64 ((s.r + 1:Nat):Int))) 21 (.int .i64 ((50 * Lb.lub (s.r + 1) (s.r + 1):Nat):Int)) j=d j:=fun j B z=>(cz _ _ z).trans (cz _ _ B)
 have l:∀ j,j ≠ 20->j ≠ 21->j ≠ 6->j ≠ 7->j ≠ 8->upd (upd d 20 (.int .i64 ((s.r + 1:Nat):Int))) 21 (.int .i64 ((50 * Lb.lub (s.r + 1) (s.r + 1):Nat):Int)) j=s.f j:=fun j B z h3 h4 h5=>(K j B z).trans (A.kf j h3 h4 h5)
 refine ⟨rfl,N,{ s with tr:=s.tr.take t,ch:=[],P:=sp,sp:=sp,f:=upd (upd d 20 (.int .i64 ((s.r + 1:Nat):Int))) 21 (.int .i64 ((50 * Lb.lub (s.r + 1) (s.r + 1):Nat):Int)),V:=V1,X:=X1,gone:=a,k:=0,r:=s.r + 1,Rs:=I,Ro:=J,Rd:=(fun g=>zz s.Rd w g/\g < w'.heap.size) },{
  dJ:=O
  pi:=b3
  x0:=(A.kx 0 (by decide) (by decide) (by decide) (by decide)).trans h.x0
  gD:=A.gD
  gT:=h.gT.congr (A.kx 9 (by decide) (by decide) (by decide) (by decide)) (fun x _=>A.kv _ (by omega) (by omega)) fun x _=>A.kx _ (by omega) (by omega) (by omega) (by omega)
  lam:=A.lam
  n10:=(congrArg List.length (A.kx 10 (by decide) (by decide) (by decide) (by decide))).trans h.n10
  o7:=by
   obtain ⟨C,U⟩:=h.o7;exact ⟨C,U.congr (A.kx 11 (by decide) (by decide) (by decide) (by decide))⟩
  f0:=(l 0 (by decide) (by decide) (by decide) (by decide) (by decide)).trans h.f0
  f3:=(l 3 (by decide) (by decide) (by decide) (by decide) (by decide)).trans h.f3
  f4:=(l 4 (by decide) (by decide) (by decide) (by decide) (by decide)).trans h.f4
  f7:=(K 7 (by decide) (by decide)).trans b1
  f14:=(l 14 (by decide) (by decide) (by decide) (by decide) (by decide)).trans h.f14
  f18:=(l 18 (by decide) (by decide) (by decide) (by decide) (by decide)).trans h.f18
  f20:=by
   show upd (upd d 20 (.int .i64 ((s.r + 1:Nat):Int))) 21 (.int .i64 ((50 * Lb.lub (s.r + 1) (s.r + 1):Nat):Int)) 20=Value.int .i64 ((s.r + 1:Nat):Int)
   rw [cz _ _ (by decide),cK]
  f21:=by
   show upd (upd d 20 (.int .i64 ((s.r + 1:Nat):Int))) 21 (.int .i64 ((50 * Lb.lub (s.r + 1) (s.r + 1):Nat):Int)) 21=Value.int .i64 (((50 * Lb.lub (s.r + 1) (s.r + 1):Nat):Int) - ((0:Nat):Int))
   rw [cK];congr 1
  Bj:=b2
  late:=fun q S=>by cases S
  sM:=b5
  Ag:=b4
  bad:=h.bad
  lines:=h.lines
  yY:=h.yY
  uk:=h.uk
  Ej:=h.Ej
  num:=h.num
  xq:=h.xq
  cnt:=h.cnt
  xm:=h.xm
  gN:=zl
  lcm:=h.lcm
  km:=zl
  n30:=h.n30 },rfl,rfl,rfl,rfl,rfl,rfl⟩
theorem Ol (h:Main Z sb ob hb kb n L0 N0 false w s) (L:Ready s) (hP:s.P=s.tr.length) (M:n <= 50):
  Calls Tryz.prog 102 #[.pointer (some ⟨sb,0,none⟩)] w fun e w'=>dC Z w w'/\((e=.returned (.bool false)/\(∀ v,v < n->∃ x ∈ s.tr,x / 2=v)/\∃ a,Main Z sb ob hb kb n L0 N0 false w' a/\a.tr=s.tr/\a.cs=s.cs/\a.lev=s.lev/\a.P=s.P/\a.m=s.m)\/(e=.returned (.bool true)/\∃ a,Main Z sb ob hb kb n L0 N0 false w' a/\Ready a/\a.k=s.k/\a.m=s.m/\a.r=s.r/\a.mo=s.mo/\s.tr.length < a.tr.length)):=by
 refine (Cv h.dJ.duo M h.gD h.pi.dJ h.lam h.sM).mono ?_
 rintro e w' ⟨H,⟨rfl,i,fE,l,o,D⟩ | ⟨x,fE,l,o,y,z,rfl,G,u,Q,D⟩⟩
 ·obtain ⟨C,B⟩:=h.dJ.yo D H
  refine ⟨B,.inl ⟨rfl,i,{ s with gone:=fE,Rs:=l,Ro:=o,Rd:=(fun g=>zz s.Rd w g/\g < w'.heap.size) },{ h with dJ:=C,sM:=fun v K _=>i v K },rfl,rfl,rfl,rfl,rfl⟩⟩
 ·obtain ⟨C,B⟩:=h.dJ.yo D H;have I:(s.X 2).length=s.ch.length:=by rw [h.gD.l2,df]
  have J:(s.X 1).length=s.tr.length:=by rw [h.gD.l1,df]
  have b:∀ j,j ≠ 8->j ≠ 6->upd (upd s.f 8 y) 6 z j=s.f j:=fun j S R=>(cz _ _ R).trans (cz _ _ S)
  have p:∀ j,j ≠ 1->j ≠ 2->j ≠ 3->j ≠ 4->j ≠ 5->fw (upd s.X 2 (s.X 2 ++ [.int .i64 ((s.X 1).length:Nat)])) x (-1) ((s.X 2).length + 1) j=s.X j:=fun j a1 a2 Y U T=>(iG _ _ _ _ a1 Y U T).trans (cz _ _ a2)
  refine ⟨B,.inr ⟨rfl,{ s with tr:=s.tr ++ [x],ch:=s.ch ++ [s.tr.length],lev:=eG s.lev (x / 2) (s.ch.length + 1),rea:=eG s.rea (x / 2) (-1),f:=upd (upd s.f 8 y) 6 z,V:=upd (upd s.V 2 y) 1 z,X:=fw (upd s.X 2 (s.X 2 ++ [.int .i64 ((s.X 1).length:Nat)])) x (-1) ((s.X 2).length + 1),gone:=fE,Rs:=l,Ro:=o,Rd:=(fun g=>zz s.Rd w g/\g < w'.heap.size) },{
   dJ:=C
   pi:=⟨h.pi.dJ.choose G u,h.pi.pz.choose h.pi.dJ u,h.pi.mg,h.pi.oM,h.pi.wK.assign (by show s.P <= s.tr.length;omega) u⟩
   x0:=(p 0 (by decide) (by decide) (by decide) (by decide) (by decide)).trans h.x0
   gD:=by
    have:=h.gD.assign (X':=upd s.X 2 (s.X 2 ++ [.int .i64 ((s.X 1).length:Nat)])) (ch':=s.ch ++ [s.tr.length]) G u (-1) (d:=(s.X 2).length + 1) (by rw [cK,h.gD.l2,J,jA];rfl) (fun k N=>cz _ _ N)
    rw [I] at this ⊢;exact this
   gT:=h.gT.congr (p 9 (by decide) (by decide) (by decide) (by decide) (by decide)) (fun x _=>(cz _ _ (by omega)).trans (cz _ _ (by omega))) fun x _=>p _ (by omega) (by omega) (by omega) (by omega) (by omega)
   lam:=h.lam.congr (p 6 (by decide) (by decide) (by decide) (by decide) (by decide))
   n10:=(congrArg List.length (p 10 (by decide) (by decide) (by decide) (by decide) (by decide))).trans h.n10
   o7:=by
    obtain ⟨E,O⟩:=h.o7;exact ⟨E,O.congr (p 11 (by decide) (by decide) (by decide) (by decide) (by decide))⟩
   f0:=(b 0 (by decide) (by decide)).trans h.f0
   f3:=(b 3 (by decide) (by decide)).trans h.f3
   f4:=(b 4 (by decide) (by decide)).trans h.f4
   f7:=(b 7 (by decide) (by decide)).trans h.f7
   f14:=(b 14 (by decide) (by decide)).trans h.f14
   f18:=(b 18 (by decide) (by decide)).trans h.f18
   f20:=(b 20 (by decide) (by decide)).trans h.f20
   f21:=(b 21 (by decide) (by decide)).trans h.f21
   Bj:=by show s.sp <= (s.tr ++ [x]).length;have:=h.Bj;simp;omega
   late:=fun q t=>by
    rcases List.mem_append.1 t with t | t
    ·exact h.late q t
    ·simp at t;show q <= s.P;omega
   sM:=Q
   Ag:=fun _=>(h.Ag rfl).assign u
   bad:=fun e=>by cases e
   lines:=h.lines
   yY:=h.yY
   uk:=h.uk
   Ej:=h.Ej
   num:=h.num
   xq:=h.xq
   cnt:=h.cnt
   xm:=h.xm
   gN:=by
    show 2 * s.k <= gN n (bits (s.tr ++ [x]).length (s.ch ++ [s.tr.length]))
    rw [List.length_append];exact ER h.pi.dJ.iC.2 h.gN
   lcm:=h.lcm
   km:=h.km
   n30:=h.n30 },L,rfl,rfl,rfl,rfl,by show s.tr.length < (s.tr ++ [x]).length;simp⟩⟩
def jT (Z:Nat->Prop) (sb ob hb kb n:Nat) (L0:List Cl) (N0:Nat) (w:World) (s:St) (e:Ending) (w':World):Prop:=
 dC Z w w'/\((e=.returned (.tuple #[.int .i64 2,.nilIface])/\sO Z kb n L0 s.m w')\/(e=.returned (.tuple #[.int .i64 0,.nilIface])/\∃ s',Main Z sb ob hb kb n L0 N0 false w' s'/\Ready s'/\Going s s') \/
  (e=.returned (.tuple #[.int .i64 1,.nilIface])/\∃ s',Main Z sb ob hb kb n L0 N0 false w' s'/\(∀ v,v < n->∃ x ∈ s'.tr,x / 2=v)/\s'.P=s'.tr.length/\s'.m=s.m))
theorem EA (h:Main Z sb ob hb kb n L0 N0 true w s) (q:Ready s) (r:n <= 50) (v:(enc s.cs).length <= 1000000000000) (u:s.m <= 22000000000):
  Calls Tryz.prog 57 #[.pointer (some ⟨sb,0,none⟩)] w fun e w'=>jT Z sb ob hb kb n L0 N0 w s e w':=by
 have z:=hide (wI h q r v);have l:Hid (∀ a b k,zV Z sb ob hb kb n L0 N0 true w s a b k->b.cell? ⟨sb,14,none⟩=some (.bool true)/\Calls Tryz.prog 100 #[.pointer (some ⟨sb,0,none⟩),.slice none 0 0] b fun e w'=>e=.returned .nilIface/\dC Z w w'/\sO Z kb n L0 s.m w'):=fun a b k ⟨m1,c1,k1,_⟩=>by
  refine ⟨?_,(yN m1 r (by rw [k1.m];exact u) (m1.bad rfl)).mono ?_⟩
  ·have:=(m1.dJ.duo.dH.head 14 (by omega)).1
   rw [m1.f14] at this;exact this
  ·rintro e w' ⟨rfl,y,p⟩;rw [k1.m] at p;exact ⟨rfl,c1.trans y,p⟩
 clear h q;go_enter Tryz.func57,Tryz.ntmps57
 go_wp2_with (first | (go_at_call 98;refine z.out.mono ?_;rintro H b ⟨a,k,rfl,d⟩;obtain ⟨t,o⟩:=l.out _ _ _ d;have B:=hide o;clear d o;simp only []) | (go_at_call 100;refine B.out.mono ?_;rintro G E ⟨rfl,j,i⟩;have D:=hide j;have C:=hide i;clear j i;simp only []))
 go_ret2
 exact ⟨D.out,.inl ⟨rfl,C.out⟩⟩
theorem Oz {Q:St->Prop} (h:Main Z sb ob hb kb n L0 N0 false w s) (hr:Ready s) (R:n <= 50) (hN:N0 + 33 * s.m <= 1000000000000) (hm:s.m <= 22000000000) (ac:s.r < 134217727) (FG:u7 Z sb ob hb kb n L0 N0 Q) (hQ:∀ B,B.k=s.k + 1->B.m=s.m + 1->B.r=s.r->B.lc=s.lc + 1->B.mo=s.mo->Q B):
  Calls Tryz.prog 57 #[.pointer (some ⟨sb,0,none⟩)] w fun e w'=>jT Z sb ob hb kb n L0 N0 w s e w':=by
 have QS:=hide (wI h hr R (Nat.le_trans h.num hN));have HE:Hid (∀ i,Y5 s i->Main Z sb ob hb kb n L0 N0 false w s->True):=fun _ _ _=>trivial
 have aa:Hid (∀ o i,Main Z sb ob hb kb n L0 N0 false o i->o.cell? ⟨sb,14,none⟩=some (.bool false)/\(∃ a c,o.cell? ⟨sb,8,none⟩=some (.slice a i.ch.length c))/\o.cell? ⟨sb,21,none⟩=some (.int .i64 (((50 * Lb.lub i.r i.r:Nat):Int) - ((i.k:Nat):Int)))):=fun o i q=>by
  refine ⟨?_,?_,?_⟩
  ·have:=(q.dJ.duo.dH.head 14 (by omega)).1
   rw [q.f14] at this;exact this
  ·obtain ⟨C,u,U⟩:=q.dJ.duo.dH.eO.shape (k:=2) (by omega)
   have q2:=(q.dJ.duo.dH.hd (k:=2) (by omega)).1
   rw [show cellOf 2=8 from rfl,U,q.gD.l2,df] at q2
   exact ⟨C,u,q2⟩
  ·have:=(q.dJ.duo.dH.head 21 (by omega)).1
   rw [q.f21] at this;exact this
 have ai:Hid (∀ i,Y5 s i->i.r=s.r/\i.k=s.k):=fun i j=>⟨j.r,j.k⟩
 have QB:Hid (∀ o i,zV Z sb ob hb kb n L0 N0 false w s (-1) o i->Ready i->i.P=i.tr.length->50 * Lb.lub i.r i.r <= i.k->Calls Tryz.prog 97 #[.pointer (some ⟨sb,0,none⟩)] o fun e w'=>e=.returned (.tuple #[])/\jT Z sb ob hb kb n L0 N0 w s (.returned (.tuple #[.int .i64 0,.nilIface])) w'):=fun o i ⟨q,v,j,_⟩ r1 p1 K=>by
  refine (zQ q r1 R (by rw [j.r];exact ac)).mono ?_
  rintro e w' ⟨rfl,u,G,H,N,D,C,M,I,_⟩;exact ⟨rfl,v.trans u,.inr (.inl ⟨rfl,G,H,N,.inr (.inl ⟨by rw [D,j.r],C,by rw [M,j.m],by rw [I,j.mo],by rw [<- j.r,<- j.k];exact K⟩)⟩)⟩
 have Y:Hid (∀ o i,zV Z sb ob hb kb n L0 N0 false w s (-1) o i->Ready i->i.P=i.tr.length->¬ 50 * Lb.lub i.r i.r <= i.k->Calls Tryz.prog 102 #[.pointer (some ⟨sb,0,none⟩)] o fun e w'=>(e=.returned (.bool false)/\jT Z sb ob hb kb n L0 N0 w s (.returned (.tuple #[.int .i64 1,.nilIface])) w')\/(e=.returned (.bool true)/\jT Z sb ob hb kb n L0 N0 w s (.returned (.tuple #[.int .i64 0,.nilIface])) w')):=fun o i ⟨q,v,j,_⟩ r1 p1 hnl=>by
  refine (Ol q r1 p1 R).mono ?_
  rintro e w' ⟨u,⟨rfl,T,G,H,D,C,M,I,a5⟩ | ⟨rfl,G,H,N,D,C,M,I,a5⟩⟩
  ·exact .inl ⟨rfl,v.trans u,.inr (.inr ⟨rfl,G,H,by rw [D];exact T,by rw [I,D];exact p1,by rw [a5,j.m]⟩)⟩
  ·exact .inr ⟨rfl,v.trans u,.inr (.inl ⟨rfl,G,H,N,.inr (.inr ⟨by rw [D,j.k],by rw [C,j.m],by rw [M,j.r],by rw [I,j.mo],by have:=j.tr;omega,by rw [j.r,j.k] at hnl;omega⟩)⟩)⟩
 have QC:Hid (∀ p o i,zV Z sb ob hb kb n L0 N0 false w s p o i->p ≠ -1->(0 <= p)/\(i.ch=[]->Calls Tryz.prog 100 #[.pointer (some ⟨sb,0,none⟩),.slice none 0 0] o fun e w'=>e=.returned .nilIface/\jT Z sb ob hb kb n L0 N0 w s (.returned (.tuple #[.int .i64 2,.nilIface])) w')/\(i.ch ≠ []->Calls Tryz.prog 101 #[.pointer (some ⟨sb,0,none⟩),.int .i64 p] o fun e w'=>e=.returned .nilIface/\jT Z sb ob hb kb n L0 N0 w s (.returned (.tuple #[.int .i64 0,.nilIface])) w')):=fun p o i ⟨q,v,j,hc⟩ hne=>by
  rcases hc with ⟨e,_⟩ | ⟨k,hk,rfl,S,hf,y0,ab,ad⟩
  ·exact absurd e hne
  ·refine ⟨by omega,fun y=>(yN q R (by rw [j.m];exact hm) (IP q y hk S hf)).mono ?_,fun y=>?_⟩
   ·rintro e w' ⟨rfl,u,nv⟩;rw [j.m] at nv;exact ⟨rfl,v.trans u,.inl ⟨rfl,nv⟩⟩
   ·have hd:0 < i.ch.length:=List.length_pos_iff.2 y;have af:(enc i.cs).length <= 1000000000000:=by
     have:=q.num;rw [j.m] at this;omega
    refine (MP q R af (by rw [j.m];exact hm) (by rw [j.r];omega) hk S hd hf ab ad FG (fun B a b c d e=>hQ B (by rw [a,j.k]) (by rw [b,j.m]) (by rw [c,j.r]) (by rw [d,j.lc]) (by rw [e,j.mo]))).mono ?_
    rintro e w' ⟨rfl,u,G,H,N,D,C,M,I,a5,a6⟩;exact ⟨rfl,v.trans u,.inr (.inl ⟨rfl,G,H,N,.inl ⟨by rw [D,j.k],by rw [C,j.m],by rw [M,j.r],fun hh=>(I (by rw [j.lc,j.mo];exact hh)).trans j.mo,by rw [<- j.mo];exact a5,by rw [<- j.ch];exact a6⟩⟩)⟩
 generalize jT Z sb ob hb kb n L0 N0 w s=RR at *
 clear FG hQ;go_enter Tryz.func57,Tryz.ntmps57
 go_upto_region 2 with (go_at_call 98;refine QS.out.mono ?_;rintro e1 o ⟨p,i,rfl,O⟩;have z:=hide O;clear O;simp only [])
 obtain ⟨ak,⟨a8,c8,q8⟩,aj⟩:=aa.out _ _ z.out.1;have QD:Hid (Calls Tryz.prog 99 #[.pointer (some ⟨sb,6,none⟩)] o fun e w'=>e=.returned (.int .i64 (i.ch.length:Nat))/\w'=o):=ny sb 6 i.ch.length c8 o a8 q8
 clear QS aa HE ai h q8;by_cases t:p=-1
 ·subst t
  obtain ⟨q,v,j,L | ⟨k,hk,e,_⟩⟩:=z.out
  ·have J:=hide (Y.out _ _ z.out L.2.1 L.2.2);by_cases K:50 * Lb.lub i.r i.r <= i.k
   ·have ah:=hide (QB.out _ _ z.out L.2.1 L.2.2 K);have ae:((50 * Lb.lub i.r i.r:Nat):Int) - ((i.k:Nat):Int) <= 0:=by omega
    generalize ((50 * Lb.lub i.r i.r:Nat):Int) - ((i.k:Nat):Int)=left at *
    clear z q v j L Y J QB QC QD K;go_wp2_with (go_at_call 97;refine ah.out.mono ?_;rintro U w2 ⟨rfl,l⟩;have E:=hide l;clear l;simp only [])
    exact E.out
   ·have ae:¬ ((50 * Lb.lub i.r i.r:Nat):Int) - ((i.k:Nat):Int) <= 0:=by omega
    generalize ((50 * Lb.lub i.r i.r:Nat):Int) - ((i.k:Nat):Int)=left at *
    have ag:=hide (J.out K);clear z q v j L Y QB QC QD J K;go_upto_region 9 with fail
    go_wp2_with (go_at_call 102;refine ag.out.mono ?_;rintro U w2 (⟨rfl,l⟩ | ⟨rfl,l⟩) <;> (have E:=hide l;clear l;simp only []))
    ·exact E.out
    ·exact E.out
  ·omega
 ·obtain ⟨r0,qn,ql⟩:=QC.out _ _ _ z.out t;have am:(p == -1)=false:=by simpa using t
  have al:(p != -1)=true:=by simpa using t
  by_cases y:i.ch=[]
  ·have QN:=hide (qn y);rw [y] at QD;clear z Y QB QC qn ql y
   go_wp2_with (first | (go_at_call 99;refine QD.out.mono ?_;rintro e3 w3 ⟨rfl,rfl⟩;simp only []) | (go_at_call 100;refine QN.out.mono ?_;rintro U w2 ⟨rfl,l⟩;have E:=hide l;clear l;simp only []))
   exact E.out
  ·have QL:=hide (ql y);have hd:((i.ch.length:Int) == 0)=false:=by simpa using y
   clear z Y QB QC qn ql
   go_wp2_with (first | (go_at_call 99;refine QD.out.mono ?_;rintro e3 w3 ⟨rfl,rfl⟩;simp only []) | (go_at_call 101;refine QL.out.mono ?_;rintro U w2 ⟨rfl,l⟩;have E:=hide l;clear l;simp only []))
   exact E.out
end
end
section
open Rd
def mQ (n:Nat) (x:Int):Prop:=x ≠ 0/\x.natAbs <= n
theorem vT {n:Nat} {x:Int} (h:mQ n x):∃ y,y < 2 * n/\wr y=x:=by
 obtain ⟨d,b⟩:=h;by_cases a:0 < x
 ·refine ⟨2 * (x.natAbs - 1),by omega,?_⟩
  unfold wr;rw [if_pos (by omega)];omega
 ·refine ⟨2 * (x.natAbs - 1) + 1,by omega,?_⟩
  unfold wr;rw [if_neg (by omega)];omega
def Im (c:Cl):Bs:=c.flatMap (fun x=>Lib.itoa x ++ [32]) ++ [48,10]
def eX (n:Nat) (l:List Cl):Bs:=[112,32,99,110,102,32] ++ Lib.decDigits n ++ [32] ++ Lib.decDigits l.length ++ [10] ++ l.flatMap Im
def vo (l:List Cl):List Bs:=l.flatMap fun c=>c.map Lib.itoa ++ [[48]]
theorem Cx:∀ (tok w:Bs) (g:UInt8) (r:Bs),(∀ x ∈ tok,gap x=false)->gap g=true->w ++ tok ≠ []->iB w (tok ++ g :: r)=(w ++ tok) :: iB [] r
 | [],w,g,r,h,hg,hn=>by
  show iB w (g :: r)=_
  rw [show iB w (g :: r)=if gap g then (if w.isEmpty then iB [] r else w :: iB [] r) else iB (w ++ [g]) r from rfl,hg,if_pos rfl,if_neg (by simpa using hn),List.append_nil]
 | x :: tok,w,g,r,h,hg,hn=>by
  show iB w (x :: (tok ++ g :: r))=_
  rw [show iB w (x :: (tok ++ g :: r))=if gap x then (if w.isEmpty then iB [] (tok ++ g :: r) else w :: iB [] (tok ++ g :: r)) else iB (w ++ [x]) (tok ++ g :: r) from rfl,h x (by simp),if_neg (by simp),Cx tok (w ++ [x]) g r (fun y a=>h y (by simp [a])) hg (by simp)]
  simp
theorem Qu {t:Bs} (e:rT 32 t) (d:rT 9 t) (b:rT 10 t):∀ x ∈ t,gap x=false:=fun x a=>by
 unfold gap;rw [e x a,d x a,b x a];rfl
theorem J8 {n:Nat} (i:n <= 50) (r:Bs):∀ (c:Cl),(∀ x ∈ c,mQ n x)->iB [] (Im c ++ r)=(c.map Lib.itoa ++ [[48]]) ++ iB [] r
 | [],_=>by
  show iB [] ([48] ++ 10 :: r)=_
  rw [Cx [48] [] 10 r (by intro x d;simp at d;subst d;decide) (by decide) (by simp)];rfl
 | x :: c,h=>by
  obtain ⟨y,l,rfl⟩:=vT (h x (by simp))
  obtain ⟨_,_,a,b,_,m,_,_,j⟩:=nK i l;have e:Im (wr y :: c) ++ r=Lib.itoa (wr y) ++ 32 :: (Im c ++ r):=by unfold Im;simp
  rw [e,Cx _ [] 32 _ (Qu a m b) (by decide) (by simpa using j),J8 i r c (fun z k=>h z (by simp [k]))]
  rfl
theorem Bd {n:Nat} (b:n <= 50):∀ (l:List Cl),(∀ c ∈ l,∀ x ∈ c,mQ n x)->toks (l.flatMap Im)=vo l
 | [],_=>rfl
 | c :: l,h=>by
  have a:=Bd b l (fun d hd=>h d (by simp [hd]))
  unfold toks at a ⊢;rw [List.flatMap_cons,J8 b _ c (h c (by simp)),a]
  unfold vo;rw [List.flatMap_cons]
theorem He {n:Nat} (e:n <= 50):∀ (c:Cl) (b:List Cl) (a:Cl),(∀ x ∈ c,mQ n x)->(c.map Lib.itoa ++ [[48]]).foldl (fun d t=>if zero t then (d.1 ++ [d.2],[]) else (d.1,d.2 ++ [fF t])) (b,a)=(b ++ [a ++ c],[])
 | [],b,a,_=>by simp [zero]
 | x :: c,b,a,h=>by
  obtain ⟨y,l,rfl⟩:=vT (h x (by simp))
  obtain ⟨_,j,_,_,_,_,_,i,_⟩:=nK e l;rw [List.map_cons,List.cons_append,List.foldl_cons];simp only [i,j,Bool.false_eq_true,if_false];rw [He e c b (a ++ [wr y]) (fun z k=>h z (by simp [k]))]
  simp
theorem Ri {n:Nat} (j:n <= 50) (l:List Cl) (h:∀ c ∈ l,∀ x ∈ c,mQ n x):fG (vo l)=(l,[]):=by
 have i:∀ (l:List Cl) (a:List Cl),(∀ c ∈ l,∀ x ∈ c,mQ n x)->(vo l).foldl (fun b t=>if zero t then (b.1 ++ [b.2],[]) else (b.1,b.2 ++ [fF t])) (a,[])=(a ++ l,[]):=by
  intro l
  induction l with
  | nil=>intro a _;simp [vo]
  | cons c l ih=>
   intro a h;have e:vo (c :: l)=(c.map Lib.itoa ++ [[48]]) ++ vo l:=by unfold vo;rw [List.flatMap_cons]
   rw [e,List.foldl_append,He j c a [] (h c (by simp)),ih _ (fun d hd=>h d (by simp [hd]))]
   simp
 have:=i l [] h;unfold fG;rw [this];simp
theorem TK {n:Nat} (e:n <= 50) (l:List Cl) (h:∀ c ∈ l,∀ x ∈ c,mQ n x):kU (Lib.decDigits n) (vo l)=true:=by
 unfold kU;rw [List.all_eq_true];intro t a;obtain ⟨c,i,a⟩:=List.mem_flatMap.1 a
 rcases List.mem_append.1 a with a | a
 ·obtain ⟨x,d,rfl⟩:=List.mem_map.1 a;obtain ⟨y,b,rfl⟩:=vT (h c i x d);rw [(nK e b).1];simp
 ·simp at a;subst a;rw [show zero [48]=true from rfl];rfl
def y9 (l:List Cl):Nat:=(l.map List.length).sum
theorem Kw {n:Nat} (a:n <= 50):∀ (c:Cl),(∀ x ∈ c,mQ n x)->((c.map Lib.itoa ++ [[48]]).filter fun t=>!zero t).length=c.length
 | [],_=>by decide
 | x :: c,h=>by
  obtain ⟨y,d,rfl⟩:=vT (h x (by simp))
  rw [List.map_cons,List.cons_append,List.filter_cons,(nK a d).2.2.2.2.2.2.2.1];simp only [Bool.not_false,if_true,List.length_cons];rw [Kw a c (fun z b=>h z (by simp [b]))]
theorem BL {n:Nat} (b:n <= 50):∀ (l:List Cl),(∀ c ∈ l,∀ x ∈ c,mQ n x)->lits (vo l)=y9 l
 | [],_=>rfl
 | c :: l,h=>by
  have a:=BL b l (fun d hd=>h d (by simp [hd]))
  have e:vo (c :: l)=(c.map Lib.itoa ++ [[48]]) ++ vo l:=by unfold vo;rw [List.flatMap_cons]
  unfold lits at a ⊢;rw [e,List.filter_append,List.length_append,Kw b c (h c (by simp)),a]
  simp [y9]
theorem uU:∀ m,m < 1000->gZ (Lib.decDigits m)=true/\(Lib.decDigits m).all (fun b=>!(b == 32) && !(b == 10) && !(b == 45) && !(b == 9))=true/\(Lib.decDigits m).length <= 3:=by decide +kernel
theorem SB:∀ m,m < 51->above (Lib.decDigits m) [53,48]=false/\gV (Lib.decDigits m)=(m:Int):=by decide +kernel
theorem GL {m:Nat} (h:m < 1000):rT 32 (Lib.decDigits m)/\rT 10 (Lib.decDigits m):=by
 have:=List.all_eq_true.1 (uU m h).2.1;constructor
 all_goals
  intro b hb;have:=this b hb;simp at this ⊢;simp [this]
theorem U9 {c:UInt8}:∀ {a:Bs} (r:Bs),rT c a->(a ++ c :: r).takeWhile (fun x=>!(x == c))=a
 | [],r,_=>by simp
 | x :: a,r,h=>by
  rw [List.cons_append,List.takeWhile_cons,h x (by simp)]
  simp only [Bool.not_false,if_true];rw [U9 (a:=a) r (fun y b=>h y (by simp [b]))]
theorem LW {n:Nat} (i:n <= 50) {l:List Cl} (u:l.length < 1000) (h:∀ c ∈ l,∀ x ∈ c,mQ n x) (z:y9 l <= 700) (F:(eX n l).length <= 20000):lT (eX n l)=((n:Int),l,0):=by
 obtain ⟨k,o⟩:=GL (m:=n) (by omega)
 obtain ⟨p,q⟩:=GL (m:=l.length) u;have a:=(uU n (by omega)).1
 have d:=(uU l.length u).1;obtain ⟨y,v⟩:=SB n (by omega)
 unfold lT;rw [if_neg (by omega)]
 generalize j:([112,32,99,110,102,32] ++ Lib.decDigits n ++ [32] ++ Lib.decDigits l.length:Bs)=H;have e:eX n l=H ++ 10 :: l.flatMap Im:=by unfold eX;rw [<- j];simp
 have A:rT 10 H:=by
  rw [<- j];intro b hb;simp only [List.mem_append] at hb
  rcases hb with ((hb | hb) | hb) | hb
  ·revert b;decide
  ·exact o b hb
  ·simp at hb;subst hb;decide
  ·exact q b hb
 have t:line (eX n l)=H:=by unfold line;rw [e];exact U9 _ A
 have E:ended (eX n l)=true:=by unfold ended;rw [t,e];simp
 have D:rest (eX n l)=l.flatMap Im:=by
  unfold rest;rw [t,e,List.drop_append];simp
 have C:comment H=false:=by rw [<- j];unfold comment Lib.hasPrefix;simp [List.isPrefixOf]
 have B:uG H=some (Lib.decDigits n,Lib.decDigits l.length):=by
  unfold uG;have:splitB 32 H=[[112],[99,110,102],Lib.decDigits n,Lib.decDigits l.length]:=by
   rw [rX,<- j];rw [show ([112,32,99,110,102,32] ++ Lib.decDigits n ++ [32] ++ Lib.decDigits l.length:Bs)=[112] ++ 32 :: ([99,110,102] ++ 32 :: (Lib.decDigits n ++ 32 :: Lib.decDigits l.length)) by simp]
   rw [mU _ (by intro x r;simp at r;subst r;decide),mU _ (by intro x r;revert x;decide),mU _ k,wJ p]
  rw [this];simp only [a,d];rfl
 rw [show pK ((eX n l).length + 1) (eX n l)=if ended (eX n l) then (if comment (line (eX n l)) then pK (eX n l).length (rest (eX n l)) else (uG (line (eX n l))).map fun x=>(x.1,x.2,rest (eX n l))) else none from rfl,E,if_pos rfl,t,C,if_neg (by simp),B]
 simp only [Option.map_some];unfold body;rw [D,Bd i l h,TK i l h,if_pos rfl,Ri i l h,BL i l h,y,v];simp only [List.isEmpty_nil,Bool.true_and,beq_self_eq_true,if_true,Bool.false_or];rw [if_neg (by simpa using z)]
theorem KP {n:Nat} (b:n <= 50):∀ (c:Cl),(∀ x ∈ c,mQ n x)->(Im c).length <= 4 * c.length + 2
 | [],_=>by decide
 | x :: c,h=>by
  obtain ⟨y,e,rfl⟩:=vT (h x (by simp))
  have i:=(nK b e).2.2.2.2.2.2.1;have a:=KP b c (fun z d=>h z (by simp [d]))
  unfold Im at a ⊢;rw [List.flatMap_cons];simp only [List.length_append,List.length_cons,List.length_nil] at a ⊢;omega
theorem yj {n:Nat} (b:n <= 50) {l:List Cl} (e:l.length < 1000) (h:∀ c ∈ l,∀ x ∈ c,mQ n x):(eX n l).length <= 14 + 4 * y9 l + 2 * l.length:=by
 have a:∀ (l:List Cl),(∀ c ∈ l,∀ x ∈ c,mQ n x)->(l.flatMap Im).length <= 4 * y9 l + 2 * l.length:=by
  intro l
  induction l with
  | nil=>intro _;simp
  | cons c l ih=>
   intro h;have j:=KP b c (h c (by simp))
   have i:=ih (fun d hd=>h d (by simp [hd]))
   rw [List.flatMap_cons,List.length_append,List.length_cons];have:y9 (c :: l)=c.length + y9 l:=by simp [y9]
   omega
 have j:=a l h;have i:=(uU n (by omega)).2.2
 have k:=(uU l.length e).2.2;unfold eX;simp only [List.length_append,List.length_cons,List.length_nil];omega
theorem zJ (d:Array Int) (q:∀ i j,i <= j->j < d.size->d[i]! <= d[j]!):∀ m,m <= d.size->(∀ x,x ∈ Lib.compactUpTo d m↔∃ j,j < m/\d[j]! = x)/\(Lib.compactUpTo d m).Pairwise (· < ·)
 | 0,_=>by
  rw [show Lib.compactUpTo d 0=[] from rfl]
  exact ⟨fun x=>by simp,List.Pairwise.nil⟩
 | m + 1,h=>by
  obtain ⟨t,v⟩:=zJ d q m (by omega)
  rw [Lib.compactUpTo_succ];by_cases k:Lib.keeps d m=true
  ·rw [if_pos k];have r:∀ x ∈ Lib.compactUpTo d m,x < d[m]! := fun x o=>by
    obtain ⟨j,l,e⟩:=(t x).1 o;have u:0 < m:=by omega
    have a:=q j (m - 1) (by omega) (by omega)
    have b:=q (m - 1) m (by omega) (by omega)
    have c:d[m]! ≠ d[m - 1]! := fun e=>by rw [Lib.keeps_neg u e] at k;cases k
    omega
   refine ⟨fun x=>?_,List.pairwise_append.2 ⟨v,by simp,fun a y b hb=>?_⟩⟩
   ·rw [List.mem_append,t];constructor
    ·rintro (⟨j,l,e⟩ | o)
     ·exact ⟨j,by omega,e⟩
     ·simp at o;exact ⟨m,by omega,o.symm⟩
    ·rintro ⟨j,l,e⟩
     rcases Nat.lt_succ_iff_lt_or_eq.1 l with g | g
     ·exact .inl ⟨j,g,e⟩
     ·subst g;exact .inr (by simp [e])
   ·simp at hb;subst hb;exact r a y
  ·rw [if_neg k,List.append_nil];refine ⟨fun x=>?_,v⟩
   rw [t];have u:0 < m:=by
    rcases Nat.eq_zero_or_pos m with e | e
    ·subst e;exact absurd (Lib.keeps_lt_one d 0 (by omega)) k
    ·exact e
   have e:d[m]! = d[m - 1]! := by
    rcases Decidable.em (d[m]! = d[m - 1]!) with g | g
    ·exact g
    ·exact absurd (Lib.keeps_pos g) k
   constructor
   ·rintro ⟨j,l,p⟩;exact ⟨j,by omega,p⟩
   ·rintro ⟨j,l,p⟩
    rcases Nat.lt_succ_iff_lt_or_eq.1 l with g | g
    ·exact ⟨j,g,p⟩
    ·subst g;exact ⟨j - 1,by omega,by rw [<- e];exact p⟩
theorem CE (zs:List Int):(∀ x,x ∈ Lib.compact (zs.mergeSort fun x y=>decide (x <= y))↔x ∈ zs)/\(Lib.compact (zs.mergeSort fun x y=>decide (x <= y))).Pairwise (· < ·):=by
 have t:=List.mergeSort_perm zs (fun x y=>decide (x <= y))
 have r:(zs.mergeSort fun x y=>decide (x <= y)).Pairwise (fun x y=>decide (x <= y)=true):=by
  exact List.pairwise_mergeSort (fun a b c p o=>by simp at p o ⊢;omega) (fun a b=>by simp;omega) zs
 generalize zs.mergeSort (fun x y=>decide (x <= y))=l at *
 have h:∀ i j,i <= j->j < l.toArray.size->l.toArray[i]! <= l.toArray[j]! := fun i j m d=>by
  have k:j < l.length:=by simpa using d
  rw [getElem!_pos l.toArray i (by simp;omega),getElem!_pos l.toArray j d]
  simp only [List.getElem_toArray]
  rcases Nat.eq_or_lt_of_le m with e | e
  ·subst e;exact Int.le_refl _
  ·have:=List.pairwise_iff_getElem.1 r i j (by omega) k e
   simpa using this
 obtain ⟨p,o⟩:=zJ l.toArray h l.length (by simp)
 refine ⟨fun x=>?_,o⟩
 rw [<- t.mem_iff];unfold Lib.compact;rw [p];constructor
 ·rintro ⟨j,d,rfl⟩;rw [getElem!_pos l.toArray j (by simpa using d)]
  simp
 ·intro q;obtain ⟨j,d,e⟩:=List.mem_iff_getElem.1 q;exact ⟨j,d,by rw [getElem!_pos l.toArray j (by simpa using d)];simpa using e⟩
theorem Lm (a:List Nat):∃ c:List Nat,Lib.compact ((a.map fun (x:Nat)=>(x:Int)).mergeSort fun x y=>decide (x <= y))=c.map (fun (x:Nat)=>(x:Int))/\(∀ x,x ∈ c↔x ∈ a)/\c.Pairwise (· < ·):=by
 obtain ⟨i,j⟩:=CE (a.map fun (x:Nat)=>(x:Int))
 generalize Lib.compact ((a.map fun (x:Nat)=>(x:Int)).mergeSort fun x y=>decide (x <= y))=l at *
 have e:l=(l.map Int.toNat).map (fun (x:Nat)=>(x:Int)):=by
  rw [List.map_map]
  conv=>lhs;rw [<- List.map_id l]
  apply List.map_congr_left
  intro z b;obtain ⟨x,_,rfl⟩:=List.mem_map.1 ((i z).1 b);simp
 refine ⟨l.map Int.toNat,e,fun x=>?_,?_⟩
 ·constructor
  ·intro d;obtain ⟨z,b,rfl⟩:=List.mem_map.1 d;obtain ⟨y,k,rfl⟩:=List.mem_map.1 ((i z).1 b);simpa using k
  ·intro d;have:=(i (x:Int)).2 (List.mem_map.2 ⟨x,d,rfl⟩);exact List.mem_map.2 ⟨_,this,by simp⟩
 ·rw [e] at j;have:=List.pairwise_map.1 j;exact this.imp fun h=>by omega
theorem Hu {c:List Nat} (b:c.Pairwise (· < ·)) {i j:Nat} (hi:i < c.length) (a:j < c.length) (e:c[j]=c[i] + 1):j=i + 1:=by
 have lt:=List.pairwise_iff_getElem.1 b
 rcases Nat.lt_trichotomy j i with h | h | h
 ·have:=lt j i a hi h;omega
 ·subst h;omega
 ·rcases Nat.lt_or_ge (i + 1) j with g | g
  ·have k:=lt i (i + 1) hi (by omega) (by omega)
   have d:=lt (i + 1) j (by omega) a g
   omega
  ·omega
theorem Ev {c:List Nat} (o:c.Pairwise (· < ·)):(∃ j,∃ h:j + 1 < c.length,c[j + 1]=op c[j])↔∃ x ∈ c,op x ∈ c:=by
 constructor
 ·rintro ⟨j,h,e⟩;exact ⟨c[j],List.getElem_mem _,e ▸ List.getElem_mem _⟩
 ·rintro ⟨x,q,p⟩;obtain ⟨i,k,b⟩:=List.mem_iff_getElem.1 q;obtain ⟨j,d,a⟩:=List.mem_iff_getElem.1 p;by_cases m:x % 2=0
  ·have l:op x=x + 1:=by unfold op;rw [if_pos m]
   have:j=i + 1:=Hu o k d (by rw [a,l,b])
   subst this;exact ⟨i,d,by rw [a,b]⟩
  ·have l:x=op x + 1:=by unfold op;rw [if_neg m];omega
   have:i=j + 1:=Hu o d k (by rw [b,a];exact l)
   subst this;exact ⟨j,k,by rw [b,a,kr]⟩
theorem IB {c:List Nat} (h:c.Pairwise (· < ·)) (d:¬ ∃ x ∈ c,op x ∈ c):(c.map (· / 2)).Nodup:=by
 refine List.pairwise_map.2 (h.imp_of_mem fun {a b} ha hb hab e=>?_)
 rcases qQ e with g | g
 ·omega
 ·exact d ⟨b,hb,g ▸ ha⟩
theorem Nv {L:List Cl} {a:List Int} (h:jo L a) (c:Cl):jo (L ++ [c]) a:=fun M i e b=>h M i e fun d hd=>b d (List.mem_append_left _ hd)
theorem kC {L:List Cl} (h:El L []) (c:Cl):El (L ++ [c]) []:=Nv h c
end
end So
end Go.Proofs.YtceahffmenbibaaGreatDoor
namespace Go.Proofs
open Go.Shelf
def Tryz.FM:Go.Shelf.Ren:=⟨fun | 189=>129 | 125=>120 | 257=>174 | 128=>169 | 129=>170 | 294=>204 | 295=>205 | 296=>206 | 297=>207 | 298=>208 | 299=>209 | 216=>210 | 300=>211 | 301=>212 | 328=>231 | 329=>232 | 330=>233 | 331=>234 | 332=>235 | 215=>236 | 343=>245 | n=>n,fun | 28=>43 | 3=>3 | 46=>187 | 0=>0 | 51=>218 | 53=>82 | 4=>4 | 183=>246 | 182=>245 | 131=>177 | 5=>5 | 9=>9 | 218=>257 | 222=>261 | 228=>269 | 229=>96 | n=>n,fun | n=>n⟩
theorem Tryz.Um:Go.Proofs.Lays.n189 Tryz.prog Tryz.FM:={
 mixed:=by kernel_rfl
 f125:=tC func120 (by kernel_rfl)
 f128:=tC func169 (by kernel_rfl)
 f129:=tC func170 (by kernel_rfl)
 f189:=tC func129 (by kernel_rfl)
 f215:=tC func236 (by kernel_rfl)
 f216:=tC func210 (by kernel_rfl)
 f257:=tC func174 (by kernel_rfl)
 f294:=tC func204 (by kernel_rfl)
 f295:=tC func205 (by kernel_rfl)
 f296:=tC func206 (by kernel_rfl)
 f297:=tC func207 (by kernel_rfl)
 f298:=tC func208 (by kernel_rfl)
 f299:=tC func209 (by kernel_rfl)
 f300:=tC func211 (by kernel_rfl)
 f301:=tC func212 (by kernel_rfl)
 f328:=tC func231 (by kernel_rfl)
 f329:=tC func232 (by kernel_rfl)
 f330:=tC func233 (by kernel_rfl)
 f331:=tC func234 (by kernel_rfl)
 f332:=tC func235 (by kernel_rfl)
 f343:=tC func245 (by kernel_rfl)
 t0:=underlying0
 a0:=isAgg0
 z0:=sizeOf0
 v0:=zeroValue0
 t3:=underlying3
 a3:=isAgg3
 z3:=sizeOf3
 v3:=zeroValue3
 t4:=underlying4
 a4:=isAgg4
 z4:=sizeOf4
 v4:=zeroValue4
 t5:=underlying5
 a5:=isAgg5
 z5:=sizeOf5
 v5:=zeroValue5
 t9:=underlying9
 a9:=isAgg9
 z9:=sizeOf9
 v9:=zeroValue9
 t28:=underlying43
 a28:=isAgg43
 z28:=sizeOf43
 v28:=zeroValue43
 t46:=underlying187
 a46:=isAgg187
 z46:=sizeOf187
 v46:=zeroValue187
 t51:=underlying218
 a51:=isAgg218
 z51:=sizeOf218
 v51:=zeroValue218
 t53:=underlying82
 a53:=isAgg82
 z53:=sizeOf82
 v53:=zeroValue82
 t131:=underlying177
 a131:=isAgg177
 z131:=sizeOf177
 v131:=zeroValue177
 t182:=underlying245
 a182:=isAgg245
 z182:=sizeOf245
 v182:=zeroValue245
 t183:=underlying246
 a183:=isAgg246
 z183:=sizeOf246
 v183:=zeroValue246
 t218:=underlying257
 a218:=isAgg257
 z218:=sizeOf257
 v218:=zeroValue257
 t222:=underlying261
 a222:=isAgg261
 z222:=sizeOf261
 v222:=zeroValue261
 t228:=underlying269
 a228:=isAgg269
 z228:=sizeOf269
 v228:=zeroValue269
 t229:=underlying96
 a229:=isAgg96
 z229:=sizeOf96
 v229:=zeroValue96 }
open Go.Sort Go.RowKit in
theorem Tryz.slices_Sort_int (a off cap:Nat) (zs:List Int) (w:World) (i:Holds (Value.int .i64) w a off zs.toArray) (b:a < w.heap.size) (d:zs.length < 4611686018427387904):
  Calls Tryz.prog 129 #[.slice (some ⟨a,off,none⟩) zs.length cap] w fun e w'=>
   e=.returned (.tuple #[])/\∃ n h,w'=grow (putRow (Value.int .i64) (Sort.ahead w n) a off (zs.mergeSort fun x y=>decide (x <= y)).toArray) h:=Any.slices_Sort_int Tryz.Um a off cap zs w i b d
def Tryz.Av:Go.Shelf.Ren:=⟨fun | 20=>130 | n=>n,fun | 22=>43 | 3=>3 | 4=>4 | 0=>0 | n=>n,fun | n=>n⟩
theorem Tryz.MQ:Go.Proofs.Lays2.n20 Tryz.prog Tryz.Av:={
 mixed:=by kernel_rfl
 f20:=tC func130 (by kernel_rfl)
 t0:=underlying0
 a0:=isAgg0
 z0:=sizeOf0
 v0:=zeroValue0
 t3:=underlying3
 a3:=isAgg3
 z3:=sizeOf3
 v3:=zeroValue3
 t4:=underlying4
 a4:=isAgg4
 z4:=sizeOf4
 v4:=zeroValue4
 t22:=underlying43
 a22:=isAgg43
 z22:=sizeOf43
 v22:=zeroValue43
 i3:=by kernel_rfl }
open Go.RowKit Go.Lib Go.Sort in
theorem Tryz.slices_Compact_int (a off cap:Nat) (zs:List Int) (w:World) (h:Holds (Value.int .i64) w a off zs.toArray) (d:zs.length <= 9223372036854775807) (b:zs.length <= cap):
  Calls Tryz.prog 130 #[.slice (some ⟨a,off,none⟩) zs.length cap] w fun e w'=>e=.returned (.slice (some ⟨a,off,none⟩) (Lib.compact zs).length cap)/\∃ q,w'=putRow (Value.int .i64) (Sort.ahead w q) a off (Lib.compact zs ++ List.replicate (zs.length - (Lib.compact zs).length) 0).toArray:=Any.slices_Compact_int Tryz.MQ a off cap zs w h d b
end Go.Proofs
namespace Go.Proofs.YtceahffmenbibaaGreatDoor
namespace So
section
open Go Go.RowKit Go.Deep Rd
section
variable {Z:Nat->Prop} {sb ob hb kb n:Nat} {L0:List Cl} {N0:Nat} {brk:Bool} {w w':World} {s:St}
def Num (w:World) (g:Nat) (zs:List Int):Prop:=∀ j (h:j < zs.length),w.cell? ⟨g,j,none⟩=some (.int .i64 zs[j])/\w.frozen? ⟨g,j,none⟩=false
theorem Num.holds {g:Nat} {zs:List Int} (h:Num w g zs):Sort.Holds (Value.int .i64) w g 0 zs.toArray:=fun j b=>by
 have a:j < zs.length:=by simpa using b
 rw [Nat.zero_add,getElem!_pos zs.toArray j b];simpa using h j a
theorem OC (g cap:Nat) (zs:List Int) (w:World) (a:g < w.heap.size) (h:Num w g zs) (l:zs.length <= 1000000):
  Calls Tryz.prog 129 #[.slice (some ⟨g,0,none⟩) zs.length cap] w fun e w'=>e=.returned (.tuple #[])/\w.grownBy w' (some g)/\Num w' g (zs.mergeSort fun x y=>decide (x <= y)):=by
 refine (Tryz.slices_Sort_int g 0 cap zs w h.holds a (by omega)).mono ?_
 rintro e w' ⟨rfl,q,k,rfl⟩;have i:(zs.mergeSort fun x y=>decide (x <= y)).length=zs.length:=List.length_mergeSort zs
 refine ⟨rfl,grownBy_sortedI _,fun j b=>?_⟩
 have d:=Sort.holds_putRow (Value.int .i64) (Sort.ahead w q) g 0 zs.toArray (zs.mergeSort fun x y=>decide (x <= y)).toArray h.holds (by simp [i]) j (by simpa using b)
 rw [Nat.zero_add,getElem!_pos _ j (by simpa using b)] at d
 rw [Sort.cell?_grow _ _ _ (by simpa using a),Sort.frozen?_grow _ _ _ (by simpa using a)]
 simpa using d
theorem G9 (g cap:Nat) (zs:List Int) (w:World) (l:g < w.heap.size) (h:Num w g zs) (k:zs.length <= 1000000) (i:zs.length <= cap):
  Calls Tryz.prog 130 #[.slice (some ⟨g,0,none⟩) zs.length cap] w fun e w'=>e=.returned (.slice (some ⟨g,0,none⟩) (Lib.compact zs).length cap)/\w.grownBy w' (some g)/\Num w' g (Lib.compact zs):=by
 refine (Tryz.slices_Compact_int g 0 cap zs w h.holds (by omega) i).mono ?_
 rintro e w' ⟨rfl,q,rfl⟩;have b:(Lib.compact zs).length <= zs.length:=Lib.compact_length_le zs;refine ⟨rfl,?_,fun j d=>?_⟩
 ·have:=grownBy_sortedI (w:=w) (g:=g) (n:=q) (os:=#[]) (Lib.compact zs ++ List.replicate (zs.length - (Lib.compact zs).length) 0).toArray
  rwa [Sort.grow_empty] at this
 ·have a:=Sort.holds_putRow (Value.int .i64) (Sort.ahead w q) g 0 zs.toArray (Lib.compact zs ++ List.replicate (zs.length - (Lib.compact zs).length) 0).toArray h.holds (by simp;omega) j (by simp;omega)
  rw [Nat.zero_add,getElem!_pos _ j (by simp;omega)] at a
  simp only [List.getElem_toArray] at a;rw [List.getElem_append_left d] at a;exact a
structure Pre (s:St):Prop where
 P:s.P=0
 sp:s.sp=0
 ch:s.ch=[]
 ls:s.ls=[]
 k:s.k=0
 m:s.m=0
 r:s.r=0
 lc:s.lc=0
 mo:s.mo=100
theorem Main.L (h:Main Z sb ob hb kb n L0 N0 brk w s) (p:Pre s):s.L=L0:=by
 have:=h.lines;rw [p.ls] at this;exact this
theorem Main.Yx (h:Main Z sb ob hb kb n L0 N0 brk w s) (p:Pre s) {zs:Cl} (d:∃ x ∈ zs,-x ∈ zs/\x ≠ 0):∃ b,Main Z sb ob hb kb n (L0 ++ [zs]) (N0 + 3 + zs.length) brk w b/\Pre b:=by
 have hL:=h.L p
 refine ⟨{ s with L:=L0 ++ [zs] },{ h with
  lines:=?_
  bad:=fun e=>kC (hL ▸ h.bad e) zs
  uk:=(hL ▸ h.uk).more zs
  Ej:=fun c a=>?_
  num:=by have:=h.num;show (enc s.cs).length <= _;simp only;omega },⟨p.P,p.sp,p.ch,p.ls,p.k,p.m,p.r,p.lc,p.mo⟩⟩
 ·show jQ (L0 ++ [zs]) (s.ls.map _) (L0 ++ [zs])
  rw [p.ls];rfl
 ·rcases List.mem_append.1 a with a | a
  ·exact h.Ej c a
  ·rw [List.mem_singleton.1 a];exact .inl d
theorem Main.give (h:Main Z sb ob hb kb n L0 N0 brk w s) (p:Pre s) {zs:Cl} {c:List Nat} (i:∀ x:Int,x ∈ zs↔∃ y ∈ c,wr y=x) (K:c.length <= zs.length)
  {z D:Nat->Value} {X':Nat->List Value} {t u:Nat->Prop} {Bc:List Nat} {vP:Nat->Nat} {uF:Nat->Int} {mE:Nat->List Nat} {a:Bool}
  (dJ:rJ Z sb ob hb kb n w' (16 + 2 * n) z D X' s.gone (dS s.ls) t s.Ro u s.Rk) (pi:PI n (kD (mapOf s.cs) (enc s.cs).length ⟨0,c⟩) Bc [] vP uF mE 0) (x0:X' 0=ints (enc (s.cs ++ [⟨0,0,c⟩])))
  (gD:lX n X' Bc [] vP uF) (gT:mJ n D X' mE) (M:X' 6=s.X 6) (B:X' 10=s.X 10) (A:X' 11=s.X 11) (l:∀ j,j ≠ 2->j ≠ 6->j ≠ 14->z j=s.f j) (f14:z 14=.bool a) (mono:∀ x ∈ s.tr,x ∈ Bc)
  (Ag:a=false->wm (kD (mapOf s.cs) (enc s.cs).length ⟨0,c⟩) Bc vP) (bad:a=true->El (L0 ++ [zs]) []):
  ∃ E,Main Z sb ob hb kb n (L0 ++ [zs]) (N0 + 3 + zs.length) a w' E/\Pre E:=by
 have hL:=h.L p;have b:mapOf (s.cs ++ [⟨0,0,c⟩])=kD (mapOf s.cs) (enc s.cs).length ⟨0,c⟩:=p9 _ _;have o:mapOf s.cs (enc s.cs).length=none:=lq _;refine ⟨{ s with cs:=s.cs ++ [⟨0,0,c⟩],tr:=Bc,ch:=[],lev:=vP,rea:=uF,wl:=mE,P:=0,f:=z,V:=D,X:=X',L:=L0 ++ [zs],Rs:=t,Rd:=u },{
  dJ:=dJ
  pi:=by rw [b];exact pi
  x0:=x0
  gD:=gD
  gT:=gT
  lam:=h.lam.congr M
  n10:=(congrArg List.length B).trans h.n10
  o7:=by
   obtain ⟨C,J⟩:=h.o7;exact ⟨C,J.congr A⟩
  f0:=(l 0 (by decide) (by decide) (by decide)).trans h.f0
  f3:=(l 3 (by decide) (by decide) (by decide)).trans h.f3
  f4:=(l 4 (by decide) (by decide) (by decide)).trans h.f4
  f7:=(l 7 (by decide) (by decide) (by decide)).trans h.f7
  f14:=f14
  f18:=(l 18 (by decide) (by decide) (by decide)).trans h.f18
  f20:=(l 20 (by decide) (by decide) (by decide)).trans h.f20
  f21:=(l 21 (by decide) (by decide) (by decide)).trans h.f21
  Bj:=by show s.sp <= _;rw [p.sp];exact zl
  late:=fun q H=>by cases H
  sM:=fun v G I=>by
   obtain ⟨x,F,e⟩:=h.sM v G I;exact ⟨x,mono x F,e⟩
  Ag:=fun e=>by rw [b];exact Ag e
  bad:=bad
  lines:=by show jQ (L0 ++ [zs]) (s.ls.map _) (L0 ++ [zs]);rw [p.ls];rfl
  yY:=h.yY
  uk:=by
   rw [qb _ _ (show (0:Nat) ≠ 2 by decide)]
   exact (hL ▸ h.uk).add c i
  Ej:=by
   rw [b];intro d hd
   rcases List.mem_append.1 hd with hd | hd
   ·exact h.Ej.new o d hd
   ·rw [List.mem_singleton.1 hd];exact .inr ⟨_,_,dV ..,rfl,i⟩
  num:=by
   have:=h.num;show (enc (s.cs ++ [⟨0,0,c⟩])).length <= N0 + 3 + zs.length + 33 * s.m
   rw [gz,List.length_append];simp [enc,fZ];omega
  xq:=by show (dS s.ls).length + 125 * iN (s.cs ++ [⟨0,0,c⟩]) <= _;rw [sF];simpa using h.xq
  cnt:=by show s.lc=iN (s.cs ++ [⟨0,0,c⟩]);rw [sF];simpa using h.cnt
  xm:=by show s.ws=jc (s.cs ++ [⟨0,0,c⟩]);rw [AZ];simpa using h.xm
  gN:=by show 2 * s.k <= _;rw [p.k];exact zl
  lcm:=h.lcm
  km:=h.km
  n30:=h.n30 },⟨rfl,p.sp,rfl,p.ls,p.k,p.m,p.r,p.lc,p.mo⟩⟩
end
section
variable {Z:Nat->Prop} {sb ob hb kb n:Nat} {L0:List Cl} {N0:Nat} {brk:Bool} {w w' W:World} {s:St} {zs:Cl} {c:List Nat} {g:Nat}
abbrev ci (c:List Nat):List Int:=c.map fun (x:Nat)=>(x:Int)
theorem Num.at {c:List Nat} (h:Num w g (ci c)) {j:Nat} (a:j < c.length):w.cell? ⟨g,j,none⟩=some (.int .i64 ((c[j]:Nat):Int)):=by
 have:=(h j (by simpa using a)).1
 simpa using this
structure Vt (n:Nat) (zs:Cl) (c:List Nat):Prop where
 set:∀ x:Int,x ∈ zs↔∃ y ∈ c,wr y=x
 len:c.length <= zs.length
 nd:(c.map (· / 2)).Nodup
 lt:∀ y ∈ c,y < 2 * n
def NN (Z:Nat->Prop) (sb ob hb kb n:Nat) (L0:List Cl) (N0:Nat) (w:World) (zs:Cl) (w':World):Prop:=dC Z w w'/\∃ brk s,Main Z sb ob hb kb n (L0 ++ [zs]) (N0 + 3 + zs.length) brk w' s/\Pre s
structure Zr (Z:Nat->Prop) (sb ob hb kb n:Nat) (w:World) (s:St) (c:List Nat) (g:Nat) (w':World) (f V:Nat->Value) (X:Nat->List Value) (Rs Rd:Nat->Prop):Prop where
 dJ:rJ Z sb ob hb kb n w' (16 + 2 * n) f V X s.gone (dS s.ls) Rs s.Ro Rd s.Rk
 x0:X 0=ints (enc (s.cs ++ [⟨0,0,c⟩]))
 only:∀ k,k ≠ 0->X k=s.X k
 vv:∀ k,k ≠ 0->V k=s.V k
 ff:∀ j,j ≠ 2->f j=s.f j
 num:Num w' g (ci c)
 gl:g < w'.heap.size
 eP:dC Z w w'
def AU (Z:Nat->Prop) (sb ob hb kb n:Nat) (w:World) (s:St) (c:List Nat) (g:Nat) (w':World):Prop:=∃ f V X Rs Rd,Zr Z sb ob hb kb n w s c g w' f V X Rs Rd
theorem AU.later (M:AU Z sb ob hb kb n w s c g W) (b:Below W.heap.size W w'):AU Z sb ob hb kb n w s c g w':=by
 obtain ⟨f,V,X,Rs,Rd,M⟩:=M
 exact ⟨f,V,X,Rs,Rd,{ M with
  dJ:=M.dJ.later b
  num:=fun j d=>by
   rw [World.cell?_of_block (w:=W) (a:=⟨g,j,none⟩) (b.block g M.gl),World.frozen?_of_block (w:=W) (a:=⟨g,j,none⟩) (b.block g M.gl)];exact M.num j d
  gl:=Nat.lt_of_lt_of_le M.gl b.size
  eP:=M.eP.trans (dC.of_below b) }⟩
theorem Nq (cs:List Rec) (c:List Nat):ints (enc cs) ++ dx (c.length :: 0 :: 0 :: c)=ints (enc (cs ++ [⟨0,0,c⟩])):=by
 rw [gz,wV]
 congr 1
 simp [enc,enc1,ints,dx]
theorem Qp (h:Main Z sb ob hb kb n L0 N0 brk w s) (p:Pre s) (G:(enc s.cs).length <= 1000000000000) (B:c.length <= 1000) (o:Below w.heap.size w W) (E:w.heap.size <= g) (i:g < W.heap.size) (b:Num W g (ci c)) (cap:Nat):
  Calls Tryz.prog 132 #[.pointer (some ⟨sb,2,none⟩),.slice (some ⟨g,0,none⟩) c.length cap,.int .i64 0] W fun e w'=>e=.returned (.int .i64 (((enc s.cs).length:Nat):Int))/\AU Z sb ob hb kb n w s c g w':=by
 have T:=h.dJ.later o;have H:=T.duo.dH.hK;have v:=h.dJ.duo.dH.row.lt;have z:NK sb (s.V 0) W (.slice (some ⟨g,0,none⟩) c.length cap) c:=by
  refine ⟨_,cap,g,0,rfl,(fun e=>by cases e),fun D=>⟨rfl,i,by omega,fun e=>?_,fun j m=>?_⟩⟩
  ·have:=((h.dJ.duo.dH.eO.own 0 (by omega)).lt g e).2
   omega
  ·rw [Nat.zero_add];exact b.at m
 refine (Hw c 0 0 _ T.duo.dH z B (by decide) (by rw [h.x0,fV];omega) (by rw [h.f3,p.lc];rfl) (by decide) (by decide)).mono ?_
 rintro e w' ⟨rfl,l,C,y⟩;obtain ⟨t,r⟩:=T.gM y l (by rw [cz _ _ (by decide),cz _ _ (by decide)])
 refine ⟨by rw [h.x0,fV],_,_,_,_,_,{
  dJ:=t
  x0:=by rw [cK,h.x0];exact Nq _ _
  only:=fun k q=>cz _ _ q
  vv:=fun k q=>cz _ _ q
  ff:=fun j m=>by
   by_cases e:j=3
   ·subst e;rw [cK,h.f3,p.lc];rfl
   ·rw [cz _ _ e,cz _ _ m]
  num:=fun j m=>?_
  gl:=Nat.lt_of_lt_of_le i l.size
  eP:=(dC.of_below o).trans r }⟩
 have u:¬ zz s.Rs W g:=fun e=>by
  rcases e with e | e
  ·have:=h.dJ.duo.ls g e;omega
  ·omega
 have d:=l.block g i u;rw [World.cell?_of_block (w:=W) (a:=⟨g,j,none⟩) d,World.frozen?_of_block (w:=W) (a:=⟨g,j,none⟩) d];exact b j m
variable {f V:Nat->Value} {X:Nat->List Value} {Rs Rd:Nat->Prop} {x:Nat}
theorem Main.Oo (h:Main Z sb ob hb kb n L0 N0 brk w s) (p:Pre s):lX n s.X s.tr [] s.lev s.rea:=by have:=h.gD;rw [p.ch] at this;exact this
theorem Main.Xc (h:Main Z sb ob hb kb n L0 N0 brk w s) (p:Pre s):PI n (mapOf s.cs) s.tr [] s.lev s.rea s.wl 0:=by have:=h.pi;rw [p.ch,p.P] at this;exact this
theorem Jm (h:Main Z sb ob hb kb n L0 N0 brk w s) (p:Pre s) (K:n <= 50) (P:(enc s.cs).length <= 1000000000000) {x q:Nat} {r:List Nat} (a:Vt n zs (x :: q :: r)) (M:AU Z sb ob hb kb n w s (x :: q :: r) g W):
  Calls Tryz.prog 133 #[.pointer (some ⟨sb,0,none⟩),.int .i64 (((enc s.cs).length:Nat):Int)] W fun e w'=>e=.returned (.tuple #[])/\NN Z sb ob hb kb n L0 N0 w zs w':=by
 obtain ⟨f,V,X,Rs,Rd,M⟩:=M;have Q:=M.dJ.duo.dH.hK;have b:mapOf s.cs (enc s.cs).length=none:=lq _;have l:(x :: q :: r).length <= n:=jN a.nd a.lt;have C:dw (s.cs ++ [⟨0,0,x :: q :: r⟩]) s.cs.length=(enc s.cs).length:=by
  rw [nT _ lr,iD lr]
 have d:x ≠ q:=fun e=>by have I:=a.nd;subst e;simp at I
 have m:(enc (s.cs ++ [⟨0,0,x :: q :: r⟩])).length <= 1099511627776:=by
  rw [gz,List.length_append];simp [enc,fZ];simp at l;omega
 have u:∀ y,y < 2 * n->(s.wl y).length <= 1099511627776:=fun y G=>by have:=h.pi.oM.len G;omega
 have O:mJ n V X s.wl:=h.gT.congr (M.only 9 (by decide)) (fun x _=>M.vv _ (by omega)) fun x _=>M.only _ (by omega)
 rw [<- C];refine (AY (k:=s.cs.length) (p:=x) (q:=q) (r:=r) M.dJ.duo.dH rfl M.x0 (by simp) (by simp) d (a.lt x (by simp)) (a.lt q (by simp)) K m O u).mono ?_
 rintro e w' ⟨rfl,v,T,S,J,B,i⟩;obtain ⟨E,D⟩:=M.dJ.gM J v rfl;rw [C] at B;refine ⟨rfl,M.eP.trans D,brk,?_⟩;have o:=h.Xc p;refine h.give p a.set a.len E (Bc:=s.tr) (vP:=s.lev) (uF:=s.rea) (mE:=xn s.wl (enc s.cs).length x q 2) ⟨o.dJ,o.pz.new b,o.mg.new a.nd a.lt,o.oM.XG b (show (0:Nat) ≠ 2 by decide) (p:=x) (q:=q) (r:=r) rfl d ?_ ?_ ?_,qI.none _ _ _⟩ ((i 0 (by decide) (by decide)).trans M.x0)
  ((h.Oo p).congr fun j t z=>(i j (by omega) (by omega)).trans (M.only j (by omega))) B ((i 6 (by decide) (by decide)).trans (M.only 6 (by decide))) ((i 10 (by decide) (by decide)).trans (M.only 10 (by decide))) ((i 11 (by decide) (by decide)).trans (M.only 11 (by decide)))
  (fun j t z R=>M.ff j t) ((M.ff 14 (by decide)).trans h.f14) (fun _ H=>H) (fun e=>(h.Ag e).new fun _ N=>by simp at N;omega) (fun e=>kC (h.L p ▸ h.bad e) zs)
 ·unfold xn;simp
 ·unfold xn;simp
 ·intro y t z;unfold xn;simp [t,z]
theorem Qn (h:Main Z sb ob hb kb n L0 N0 brk w s) (p:Pre s) (j:Vt n zs c) (i:∀ y ∈ c,op y ∈ s.tr):El (L0 ++ [zs]) []:=by
 have a:mapOf s.cs (enc s.cs).length=none:=lq _;have b:=h.Xc p;have d:wC (L0 ++ [zs]) (nW (s.cs ++ [⟨0,0,c⟩])):=by
  rw [qb _ _ (show (0:Nat) ≠ 2 by decide)]
  exact (h.L p ▸ h.uk).add c j.set
 have e:oZ (mapOf (s.cs ++ [⟨0,0,c⟩])) s.tr [] s.rea:=by rw [p9];exact b.pz.new a
 exact Br (yO b.dJ e d.hL (d.there (by rw [qb _ _ (show (0:Nat) ≠ 2 by decide)];simp)) i)
theorem wW (h:Main Z sb ob hb kb n L0 N0 brk w s) (p:Pre s) (b:Vt n zs c) (i:c.length < 2) (q:∀ y ∈ c,op y ∈ s.tr) (M:AU Z sb ob hb kb n w s c g W):
  W.frozen? ⟨sb,14,none⟩=false/\(∃ u,W.cell? ⟨sb,14,none⟩=some u)/\NN Z sb ob hb kb n L0 N0 w zs (W.setCell ⟨sb,14,none⟩ (.bool true)):=by
 obtain ⟨f,V,X,Rs,Rd,M⟩:=M;have a:mapOf s.cs (enc s.cs).length=none:=lq _;have d:=h.Xc p;have hd:=M.dJ.duo.dH.head 14 (by omega)
 obtain ⟨m,l⟩:=M.dJ.gM (M.dJ.duo.dH.scalar 14 (.bool true) (by decide +kernel)) ((dC.refl _).setCell M.dJ.duo.dH.jg _) (cz _ _ (by decide))
 refine ⟨hd.2,⟨_,hd.1⟩,M.eP.trans l,true,?_⟩;exact h.give p b.set b.len m (Bc:=s.tr) (vP:=s.lev) (uF:=s.rea) (mE:=s.wl) ⟨d.dJ,d.pz.new a,d.mg.new b.nd b.lt,d.oM.TU a i,qI.none _ _ _⟩ M.x0
  ((h.Oo p).congr fun j k t=>M.only j (by omega)) (h.gT.congr (M.only 9 (by decide)) (fun x _=>M.vv _ (by omega)) fun x _=>M.only _ (by omega)) (M.only 6 (by decide)) (M.only 10 (by decide)) (M.only 11 (by decide))
  (fun j k t r=>(cz _ _ r).trans (M.ff j k)) (cK ..) (fun _ o=>o) (fun e=>by cases e) (fun _=>Qn h p b q)
theorem vV (h:Main Z sb ob hb kb n L0 N0 brk w s) (p:Pre s) (q:Vt n zs [x]) (M:AU Z sb ob hb kb n w s [x] g W):(∀ j,Calls Tryz.prog 134 #[.pointer (some ⟨sb,6,none⟩),.int .i64 ((x:Nat):Int)] (W.drewN j) fun e w'=>e=.returned (.bool (decide (tv s.tr x < 0)))/\w'=W.drewN j)/\(∀ j,Calls Tryz.prog 135 #[.pointer (some ⟨sb,6,none⟩),.int .i64 ((x:Nat):Int)] (W.drewN j) fun e w'=>e=.returned (.bool (tv s.tr x == 0))/\w'=W.drewN j)/\W.cell? ⟨g,0,none⟩=some (.int .i64 ((x:Nat):Int)):=by
 obtain ⟨f,V,X,Rs,Rd,M⟩:=M;have a:x < 2 * n:=q.lt x (by simp)
 have l:lX n X s.tr [] s.lev s.rea:=(h.Oo p).congr fun j u t=>M.only j (by omega)
 obtain ⟨m,o,r,v,b,i,d,-⟩:=M.dJ.duo.dH.elem (k:=3) (j:=x) (by omega) l.n3 a
 rw [show cellOf 3=9 from rfl] at b
 rw [l.t3 x a] at d;obtain rfl:=Option.some.inj d;exact ⟨fun j=>rf sb 6 m (2 * n) o x (tv s.tr x) (W.drewN j) b a i,fun j=>uh sb 6 m (2 * n) o x (tv s.tr x) (W.drewN j) b a i,M.num.at (j:=0) (by simp)⟩
theorem Nj (h:Main Z sb ob hb kb n L0 N0 brk w s) (p:Pre s) (l:Vt n zs [x]) (k:x ∈ s.tr) (M:AU Z sb ob hb kb n w s [x] g W) (d:Below W.heap.size W w'):NN Z sb ob hb kb n L0 N0 w zs w':=by
 obtain ⟨f,V,X,Rs,Rd,M⟩:=M;have a:mapOf s.cs (enc s.cs).length=none:=lq _;have b:=h.Xc p;refine ⟨M.eP.trans (dC.of_below d),brk,?_⟩;refine h.give p l.set l.len (M.dJ.later d) (Bc:=s.tr) (vP:=s.lev) (uF:=s.rea) (mE:=s.wl) ⟨b.dJ,b.pz.new a,b.mg.new l.nd l.lt,b.oM.TU a (by simp),qI.none _ _ _⟩ M.x0
  ((h.Oo p).congr fun j m q=>M.only j (by omega)) (h.gT.congr (M.only 9 (by decide)) (fun x _=>M.vv _ (by omega)) fun x _=>M.only _ (by omega)) (M.only 6 (by decide)) (M.only 10 (by decide)) (M.only 11 (by decide))
  (fun j m q t=>M.ff j m) ((M.ff 14 (by decide)).trans h.f14) (fun _ k=>k) (fun e=>(h.Ag e).new fun _ _=>⟨x,rfl,k,?_⟩) (fun e=>kC (h.L p ▸ h.bad e) zs)
 obtain ⟨i,o,r⟩:=List.mem_iff_getElem.1 k;have:=b.dJ.lev i o;rw [r] at this;rw [this];rfl
theorem Gm (h:Main Z sb ob hb kb n L0 N0 brk w s) (p:Pre s) (J:n <= 50) (o:Vt n zs [x]) (u:tv s.tr x=0) (M:AU Z sb ob hb kb n w s [x] g W) (q:Below W.heap.size W w'):
  Calls Tryz.prog 136 #[.pointer (some ⟨sb,6,none⟩),.int .i64 ((x:Nat):Int),.int .i64 (((enc s.cs).length:Nat):Int)] w' fun e l=>e=.returned (.tuple #[])/\NN Z sb ob hb kb n L0 N0 w zs l:=by
 obtain ⟨f,V,X,Rs,Rd,M⟩:=M;have d:mapOf s.cs (enc s.cs).length=none:=lq _;have k:=h.Xc p;have m:x < 2 * n:=o.lt x (by simp)
 have T:=M.dJ.later q;have i:lX n X s.tr [] s.lev s.rea:=(h.Oo p).congr fun j B z=>M.only j (by omega)
 have O:=k.dJ.len;refine (qA x n 0 (((enc s.cs).length:Nat):Int) m J T.duo.dH (by rw [i.l1,df];omega) (by rw [i.l2,df];rfl) i.n3 i.n4 i.n5).mono ?_
 rintro e l ⟨rfl,v,N,I⟩;obtain ⟨E,D⟩:=T.gM I v (cz _ _ (by decide))
 refine ⟨rfl,(M.eP.trans (dC.of_below q)).trans D,brk,?_⟩;have t:∀ j,j ≠ 0->j ≠ 1->j ≠ 3->j ≠ 4->j ≠ 5->fw X x (((enc s.cs).length:Nat):Int) 0 j=s.X j:=fun j K a b c e=>(iG _ _ _ _ a b c e).trans (M.only j K)
 have C:=k.dJ.assign m u;have G:=(k.pz.new (c:=⟨0,[x]⟩) d).assign k.dJ u (dV ..) (show (0:Nat) ≠ 2 by decide) rfl (r:=[]) (fun y H=>by cases H)
 refine h.give p o.set o.len E (Bc:=s.tr ++ [x]) (vP:=eG s.lev (x / 2) 0) (uF:=eG s.rea (x / 2) (((enc s.cs).length:Nat):Int)) (mE:=s.wl) ⟨C,G,k.mg.new o.nd o.lt,k.oM.TU d (by simp),qI.none _ _ _⟩ ((iG _ _ _ _ (by decide) (by decide) (by decide) (by decide)).trans M.x0)
  (i.assign m u (((enc s.cs).length:Nat):Int) (X':=X) (ch':=[]) i.l2 (fun _ _=>rfl)) (h.gT.congr (t 9 (by decide) (by decide) (by decide) (by decide) (by decide)) (fun x _=>(cz _ _ (by omega)).trans (M.vv _ (by omega))) fun x _=>t _ (by omega) (by omega) (by omega) (by omega) (by omega)) (t 6 (by decide) (by decide) (by decide) (by decide) (by decide)) (t 10 (by decide) (by decide) (by decide) (by decide) (by decide)) (t 11 (by decide) (by decide) (by decide) (by decide) (by decide))
  (fun j B z P=>(cz _ _ z).trans (M.ff j B)) ((cz _ _ (by decide)).trans ((M.ff 14 (by decide)).trans h.f14)) (fun _ m=>List.mem_append_left _ m) (fun e=>((h.Ag e).assign u).new fun _ _=>⟨x,rfl,by simp,dF ..⟩) (fun e=>kC (h.L p ▸ h.bad e) zs)
end
end
end So
end Go.Proofs.YtceahffmenbibaaGreatDoor
