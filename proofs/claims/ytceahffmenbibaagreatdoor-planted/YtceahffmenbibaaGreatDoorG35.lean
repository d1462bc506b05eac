/- Sleb Slew. -/
import Derived.Test.YtceahffmenbibaaGreatDoorG34
set_option linter.unusedVariables false
set_option linter.unusedSimpArgs false
set_option maxHeartbeats 4000000
set_option maxRecDepth 100000
namespace Go.Proofs.YtceahffmenbibaaGreatDoor
namespace So
section
open Go Go.RowKit Go.Deep Rd
variable {Z:Nat->Prop} {sb ob hb kb n:Nat} {L0:List Cl} {N0:Nat} {w0 w w':World} {s:St} {x:Nat} {ks:List Nat} {d:Nat}
theorem Jn.len {tr ch:List Nat} {lev:Nat->Nat} (h:Jn tr ch lev x ks d) (ht:fM n tr ch lev):ks.length + 1 <= n:=fU h.vars (h.lt ht)
theorem lea5 (h:Main Z sb ob hb kb n L0 N0 false w0 s) (hn:n <= 50) (hm:s.m <= 22000000000) (M:BL Z sb ob hb kb n w0 s x ks d (bJ s.ls) w) {v:Value} (hv:w.cell? ⟨sb,15,none⟩=some v):
  Calls Tryz.prog 100 #[.pointer (some ⟨sb,0,none⟩),v] w fun e w'=>e=.returned .nilIface/\BL Z sb ob hb kb n w0 s x ks d (bJ (s.ls ++ [(false,x :: ks)])) w'/\w'.cell? ⟨sb,15,none⟩=some v:=by
 obtain ⟨cs,f,V,X,Rs,Ro,Rd,Rk,M,h7,hL,hR⟩:=M;have hK:=M.aI.duo.aG.hK;have e7:V 7=v:=by
  have:=(M.aI.duo.aG.hd (k:=7) (by omega)).1
  rw [show cellOf 7=15 from rfl,hv] at this
  exact (Option.some.inj this).symm
 have hl:=M.aI.duo.aG.lies (k:=7) (j:=12) (by omega) (by omega) (by decide) h7
 rw [e7] at hl;have hp:=h.prf;refine (vz M.aI hn ((M.ff 0 (by decide) (by decide) (by decide)).trans h.f0) v hl (by have:=hL.len h.pi.aI;simp;omega) (hL.lt h.pi.aI) (by omega)).mono ?_
 rintro e w' ⟨rfl,hc,v',X',ko,Rd',Fp,T⟩;refine ⟨rfl,⟨cs,_,_,_,_,_,_,_,{
  aI:=by rw [kN];exact T
  x0:=(aa _ _ (by decide)).trans M.x0
  busy:=M.busy
  dx:=M.dx.congr fun j h1 h2=>aa _ _ (by omega)
  dL:=M.dL.congr (aa _ _ (by decide)) (fun x _=>aa _ _ (by omega)) fun x _=>aa _ _ (by omega)
  lam:=M.lam.congr (aa _ _ (by decide))
  n10:=by rw [aa _ _ (by decide)];exact M.n10
  lD:=by
   obtain ⟨fol,hf⟩:=M.lD;exact ⟨fol,hf.congr (aa _ _ (by decide))⟩
  ff:=fun j h6 h7 h8=>(aa _ _ h8).trans (M.ff j h6 h7 h8)
  f21:=(aa _ _ (by decide)).trans M.f21
  bD:=M.bD.trans hc },(aa _ _ (by decide)).trans h7,hL,hR⟩,?_⟩
 have:=(T.duo.aG.hd (k:=7) (by omega)).1
 rw [show cellOf 7=15 from rfl,aa _ _ (by decide),e7] at this
 exact this
structure Lea6 (Z:Nat->Prop) (sb ob hb kb n:Nat) (w0:World) (s:St) (x:Nat) (ks:List Nat) (d p:Nat) (v:Value) (w:World) (cs:List Rec) (f V:Nat->Value) (X:Nat->List Value) (gone Rs Ro Rd Rk:Nat->Prop):Prop where
 aI:oJ Z sb ob hb kb n w (16 + 2 * n) f V X gone (bJ (s.ls ++ [(false,x :: ks)])) Rs Ro Rd Rk
 x0:X 0=ints (enc cs)
 busy:bU s.cs cs
 dx:iW n X (s.tr.take p) (s.ch.take d) s.lev s.rea
 dL:jm n V X s.wl
 lam:Fy n X
 n10:(X 10).length=n
 lD:∃ fol,Ii n X fol
 x7:X 7=au (x :: ks)
 v7:V 7=v
 ff:∀ j,j ≠ 15->j ≠ 21->j ≠ 1->j ≠ 6->j ≠ 7->j ≠ 8->f j=s.f j
 f7:f 7=.int .i64 ((p:Nat):Int)
 f21:f 21=.int .i64 (((50 * Lb.lub s.r s.r:Nat):Int) - ((s.k:Nat):Int) - 1)
 nH:∀ u,u < n->gone u->∃ y ∈ s.tr.take p,y / 2=u
 Ca:Jn s.tr s.ch s.lev x ks d
 right:bH s.L ((x :: ks).map wr)
 hp:∃ hd:d < s.ch.length,p=s.ch[d]
 bD:aC Z w0 w
def Qw (Z:Nat->Prop) (sb ob hb kb n:Nat) (w0:World) (s:St) (x:Nat) (ks:List Nat) (d:Nat) (v:Value) (w:World):Prop:=∃ p cs f V X gone Rs Ro Rd Rk,Lea6 Z sb ob hb kb n w0 s x ks d p v w cs f V X gone Rs Ro Rd Rk
theorem lea6 (h:Main Z sb ob hb kb n L0 N0 false w0 s) (hn:n <= 50) (M:BL Z sb ob hb kb n w0 s x ks d (bJ (s.ls ++ [(false,x :: ks)])) w) {v:Value} (hv:w.cell? ⟨sb,15,none⟩=some v):
  Calls Tryz.prog 137 #[.pointer (some ⟨sb,0,none⟩),.int .i64 ((d:Nat):Int)] w fun e w'=>e=.returned (.tuple #[])/\Qw Z sb ob hb kb n w0 s x ks d v w':=by
 obtain ⟨cs,f,V,X,Rs,Ro,Rd,Rk,M,h7,hL,hR⟩:=M;have e7:V 7=v:=by
  have:=(M.aI.duo.aG.hd (k:=7) (by omega)).1
  rw [show cellOf 7=15 from rfl,hv] at this
  exact (Option.some.inj this).symm
 refine (zn M.aI.duo hn M.dx h.pi.aI M.lam hL.dl).mono ?_;rintro e w' ⟨rfl,hc,f',V',X',ko,vB,D,GV,hT,h7',Rb,KU,hvv⟩;obtain ⟨t1,t2⟩:=M.aI.vQ D hc;exact ⟨rfl,_,cs,f',V',X',_,_,_,_,_,{
  aI:=t1
  x0:=(KU 0 (by decide) (by decide) (by decide) (by decide)).trans M.x0
  busy:=M.busy
  dx:=hT
  dL:=M.dL.congr (KU 9 (by decide) (by decide) (by decide) (by decide)) (fun x _=>hvv _ (by omega) (by omega)) fun x _=>KU _ (by omega) (by omega) (by omega) (by omega)
  lam:=GV
  n10:=by rw [KU 10 (by decide) (by decide) (by decide) (by decide)];exact M.n10
  lD:=by
   obtain ⟨fol,hf⟩:=M.lD;exact ⟨fol,hf.congr (KU 11 (by decide) (by decide) (by decide) (by decide))⟩
  x7:=(KU 7 (by decide) (by decide) (by decide) (by decide)).trans h7
  v7:=(hvv 7 (by decide) (by decide)).trans e7
  ff:=fun j a1 a2 a3 a4 a5 a6=>(Rb j a4 a5 a6).trans (M.ff j a1 a2 a3)
  f7:=h7'
  f21:=(Rb 21 (by decide) (by decide) (by decide)).trans M.f21
  nH:=fun u hu hg=>by
   obtain ⟨y,hy,e⟩:=h.nH u hu hg.1;rw [<- List.take_append_drop (s.ch[d]'hL.dl) s.tr] at hy
   rcases List.mem_append.1 hy with hy | hy
   ·exact ⟨y,hy,e⟩
   ·exact absurd e (hg.2 y hy)
  Ca:=hL
  right:=hR
  hp:=⟨hL.dl,rfl⟩
  bD:=M.bD.trans t2 }⟩
structure Lea7 (Z:Nat->Prop) (sb ob hb kb n:Nat) (w0:World) (s:St) (x:Nat) (ks:List Nat) (d p:Nat) (v:Value) (w:World) (cs:List Rec) (wl:Nat->List Nat) (f V:Nat->Value) (X:Nat->List Value) (gone Rs Ro Rd Rk:Nat->Prop):Prop where
 aI:oJ Z sb ob hb kb n w (16 + 2 * n) f V X gone (bJ (s.ls ++ [(false,x :: ks)])) Rs Ro Rd Rk
 x0:X 0=ints (enc (cs ++ [⟨1,0,x :: ks⟩]))
 busy:bU s.cs cs
 dx:iW n X (s.tr.take p) (s.ch.take d) s.lev s.rea
 dL:jm n V X wl
 lam:Fy n X
 n10:(X 10).length=n
 lD:∃ fol,Ii n X fol
 x7:X 7=au (x :: ks)
 v7:V 7=v
 ff:∀ j,j ≠ 15->j ≠ 21->j ≠ 1->j ≠ 6->j ≠ 7->j ≠ 8->j ≠ 2->j ≠ 3->f j=s.f j
 f3:f 3=.int .i64 ((s.lc + 1:Nat):Int)
 f7:f 7=.int .i64 ((p:Nat):Int)
 f21:f 21=.int .i64 (((50 * Lb.lub s.r s.r:Nat):Int) - ((s.k:Nat):Int) - 1)
 nH:∀ u,u < n->gone u->∃ y ∈ s.tr.take p,y / 2=u
 Ca:Jn s.tr s.ch s.lev x ks d
 right:bH s.L ((x :: ks).map wr)
 hp:∃ hd:d < s.ch.length,p=s.ch[d]
 bD:aC Z w0 w
def Fw (Z:Nat->Prop) (sb ob hb kb n:Nat) (w0:World) (s:St) (x:Nat) (ks:List Nat) (d:Nat) (v:Value) (w:World):Prop:=∃ p cs f V X gone Rs Ro Rd Rk,Lea7 Z sb ob hb kb n w0 s x ks d p v w cs s.wl f V X gone Rs Ro Rd Rk
theorem Pw (cs:List Rec) (c:List Nat):ints (enc cs) ++ au (c.length :: 1 :: 0 :: c)=ints (enc (cs ++ [⟨1,0,c⟩])):=by
 rw [dn,uD]
 congr 1
 simp [enc,enc1,ints,au]
theorem lea7 (h:Main Z sb ob hb kb n L0 N0 false w0 s) (hn:n <= 50) (hN:(enc s.cs).length <= 1000000000000) (hm:s.m <= 22000000000) {v:Value} (M:Qw Z sb ob hb kb n w0 s x ks d v w):
  Calls Tryz.prog 132 #[.pointer (some ⟨sb,2,none⟩),v,.int .i64 1] w fun e w'=>e=.returned (.int .i64 (((enc s.cs).length:Nat):Int))/\Fw Z sb ob hb kb n w0 s x ks d v w':=by
 obtain ⟨p,cs,f,V,X,gone,Rs,Ro,Rd,Rk,M⟩:=M;have hK:=M.aI.duo.aG.hK;have hl:=M.aI.duo.aG.lies (k:=7) (j:=0) (by omega) (by omega) (by decide) M.x7
 rw [M.v7] at hl;have e3:=(M.ff 3 (by decide) (by decide) (by decide) (by decide) (by decide) (by decide)).trans h.f3
 have el:=M.busy.len;have el0:(X 0).length=(enc s.cs).length:=by rw [M.x0,cZ,el]
 have hlc:=h.lcm;have hlen:=M.Ca.len h.pi.aI;refine (Fg (x :: ks) 1 ((s.lc:Nat):Int) v M.aI.duo.aG hl (by simp;omega) (by decide) (by omega) e3 (by omega) (by omega)).mono ?_
 rintro e w' ⟨rfl,hc,v',hs⟩;obtain ⟨t1,t2⟩:=M.aI.dH hs hc (by rw [aa _ _ (by decide),aa _ _ (by decide)])
 refine ⟨by rw [el0],p,cs,_,_,_,_,_,_,_,_,{
  aI:=t1
  x0:=by rw [ae,M.x0];exact Pw cs (x :: ks)
  busy:=M.busy
  dx:=M.dx.congr fun j h1 h2=>aa _ _ (by omega)
  dL:=M.dL.congr (aa _ _ (by decide)) (fun x _=>aa _ _ (by omega)) fun x _=>aa _ _ (by omega)
  lam:=M.lam.congr (aa _ _ (by decide))
  n10:=by rw [aa _ _ (by decide)];exact M.n10
  lD:=by
   obtain ⟨fol,hf⟩:=M.lD;exact ⟨fol,hf.congr (aa _ _ (by decide))⟩
  x7:=(aa _ _ (by decide)).trans M.x7
  v7:=(aa _ _ (by decide)).trans M.v7
  ff:=fun j a1 a2 a3 a4 a5 a6 a7 a8=>(aa _ _ a8).trans ((aa _ _ a7).trans (M.ff j a1 a2 a3 a4 a5 a6))
  f3:=by rw [ae];rfl
  f7:=(aa _ _ (by decide)).trans ((aa _ _ (by decide)).trans M.f7)
  f21:=(aa _ _ (by decide)).trans ((aa _ _ (by decide)).trans M.f21)
  nH:=M.nH
  Ca:=M.Ca
  right:=M.right
  hp:=M.hp
  bD:=M.bD.trans t2 }⟩
def Yr (s:St) (x:Nat) (ks:List Nat):Nat->List Nat:=match ks with
 | []=>s.wl
 | q :: _=>uK s.wl (enc s.cs).length x q 2
def Fv (Z:Nat->Prop) (sb ob hb kb n:Nat) (w0:World) (s:St) (x:Nat) (ks:List Nat) (d:Nat) (v:Value) (w:World):Prop:=∃ p cs f V X gone Rs Ro Rd Rk,Lea7 Z sb ob hb kb n w0 s x ks d p v w cs (Yr s x ks) f V X gone Rs Ro Rd Rk
theorem Tx {v:Value} (M:Fw Z sb ob hb kb n w0 s x [] d v w):Fv Z sb ob hb kb n w0 s x [] d v w:=M
theorem lea8 (h:Main Z sb ob hb kb n L0 N0 false w0 s) (hn:n <= 50) (hN:(enc s.cs).length <= 1000000000000) {v:Value} {q:Nat} {r:List Nat} (M:Fw Z sb ob hb kb n w0 s x (q :: r) d v w):
  Calls Tryz.prog 133 #[.pointer (some ⟨sb,0,none⟩),.int .i64 (((enc s.cs).length:Nat):Int)] w fun e w'=>e=.returned (.tuple #[])/\Fv Z sb ob hb kb n w0 s x (q :: r) d v w':=by
 obtain ⟨p,cs,f,V,X,gone,Rs,Ro,Rd,Rk,M⟩:=M;have hK:=M.aI.duo.aG.hK;have el:=M.busy.len;have hv:=M.Ca.vars;have hlt:=M.Ca.lt h.pi.aI;have hlen:=M.Ca.len h.pi.aI;have ea:aj (cs ++ [⟨1,0,x :: q :: r⟩]) cs.length=(enc s.cs).length:=by
  rw [kg _ (Nat.le_refl _),dY (Nat.le_refl _),el]
 have hpq:x ≠ q:=fun e=>by subst e;simp at hv
 have hend:(enc (cs ++ [⟨1,0,x :: q :: r⟩])).length <= 1099511627776:=by
  rw [dn,List.length_append,el];simp [enc,dh];simp at hlen;omega
 have hwl:∀ y,y < 2 * n->(s.wl y).length <= 1099511627776:=fun y hy=>by have:=h.pi.kT.len hy;omega
 rw [<- ea];refine (yU (k:=cs.length) (p:=x) (q:=q) (r:=r) M.aI.duo.aG rfl M.x0 (by simp) (by simp) hpq (hlt x (by simp)) (hlt q (by simp)) hn hend M.dL hwl).mono ?_
 rintro e w' ⟨rfl,hc,V',X',hs,hw,ho⟩;obtain ⟨t1,t2⟩:=M.aI.dH hs hc rfl;have hV7:V' 7=V 7:=by
  have a:=hs.hdr 7 (by omega)
  have b:=M.aI.duo.aG.hdr 7 (by omega)
  rw [<- a,<- b]
 refine ⟨rfl,p,cs,f,V',X',gone,_,_,_,_,{
  aI:=t1
  x0:=(ho 0 (by decide) (by decide)).trans M.x0
  busy:=M.busy
  dx:=M.dx.congr fun j h1 h2=>ho j (by omega) (by omega)
  dL:=by unfold Yr;rw [<- ea];exact hw
  lam:=M.lam.congr (ho 6 (by decide) (by decide))
  n10:=by rw [ho 10 (by decide) (by decide)];exact M.n10
  lD:=by
   obtain ⟨fol,hf⟩:=M.lD;exact ⟨fol,hf.congr (ho 11 (by decide) (by decide))⟩
  x7:=(ho 7 (by decide) (by decide)).trans M.x7
  v7:=hV7.trans M.v7
  ff:=M.ff
  f3:=M.f3
  f7:=M.f7
  f21:=M.f21
  nH:=M.nH
  Ca:=M.Ca
  right:=M.right
  hp:=M.hp
  bD:=M.bD.trans t2 }⟩
structure Qv (s s':St):Prop where
 k:s'.k=s.k + 1
 m:s'.m=s.m + 1
 r:s'.r=s.r
 lc:s'.lc=s.lc + 1
 mo:s'.mo=s.mo
 ch:s'.ch.length < s.ch.length
theorem lea9 (h:Main Z sb ob hb kb n L0 N0 false w0 s) (hn:n <= 50) {k:Nat} (hk:k < s.cs.length) (hkk:(s.cs[k]).kind ≠ 2) (hf:∀ y ∈ (s.cs[k]).lits,op y ∈ s.tr) {v:Value} (M:Fv Z sb ob hb kb n w0 s x ks d v w):
  (∃ g c,v=.slice (some ⟨g,0,none⟩) (ks.length + 1) c/\w.cell? ⟨g,0,none⟩=some (.int .i64 ((x:Nat):Int)))/\∀ wx,Below w.heap.size w wx->
  Calls Tryz.prog 136 #[.pointer (some ⟨sb,6,none⟩),.int .i64 ((x:Nat):Int),.int .i64 (((enc s.cs).length:Nat):Int)] wx fun e w'=>e=.returned (.tuple #[])/\aC Z w0 w'/\∃ s',Main Z sb ob hb kb n L0 N0 false w' s'/\Ready s'/\Qv s s':=by
 obtain ⟨p,cs,f,V,X,gone,Rs,Ro,Rd,Rk,M⟩:=M;have hK:=M.aI.duo.aG.hK;have em:=M.busy.map;have el:=M.busy.len;obtain ⟨hd,rfl⟩:=M.hp;have ho:=M.Ca.open h.pi.aI;have hxl:x < 2 * n:=M.Ca.lt h.pi.aI x (by simp)
 have tl:=h.pi.aI.len;have hcd:s.ch[d] < s.tr.length:=h.pi.aI.dX.2 _ (List.getElem_mem hd);have Xe:(s.ch.take d).length=d:=by rw [List.length_take];omega
 have VF:(s.tr.take s.ch[d]).length=s.ch[d]:=by rw [List.length_take];omega
 refine ⟨?_,fun wx hbx=>?_⟩
 ·obtain ⟨g,cap,t,e,q,r,r2,_⟩:=M.aI.duo.aG.elem (k:=7) (j:=0) (n:=ks.length + 1) (by omega) (by rw [M.x7,ag];rfl) (by omega)
  rw [M.v7] at e;refine ⟨g,cap,e,?_⟩;rw [r,<- r2,M.x7];rfl
 ·have T:=M.aI.later hbx;refine (mW x n d (((enc s.cs).length:Nat):Int) hxl hn T.duo.aG (by rw [M.dx.l1,ag,VF];omega) (by rw [M.dx.l2,ag];exact Xe) M.dx.n3 M.dx.n4 M.dx.n5).mono ?_
  rintro e w' ⟨rfl,hc,v',hs⟩;obtain ⟨t1,t2⟩:=T.dH hs hc (aa _ _ (by decide))
  have ax:∀ j,j ≠ 1->j ≠ 3->j ≠ 4->j ≠ 5->bN X x (((enc s.cs).length:Nat):Int) d j=X j:=fun j a b c e=>eu _ _ _ _ a b c e
  have hmap:mapOf (cs ++ [⟨1,0,x :: ks⟩])=ik (mapOf s.cs) (enc s.cs).length ⟨1,x :: ks⟩:=by rw [mI,em,el]
  have hnew:mapOf s.cs (enc s.cs).length=none:=iK _;have hP:=h.pi.learn M.Ca h.late hnew (Yr s x ks) (fun q r e=>by
   subst e;have hpq:x ≠ q:=fun e=>by have hv:=M.Ca.vars;subst e;simp at hv
   unfold Yr uK;refine ⟨by simp,by simp,fun y h1 h2=>by simp [h1,h2]⟩) (fun e=>by subst e;rfl)
  have hU:=(h.yf rfl).learn (a:=(enc s.cs).length) h.pi.aI M.Ca;have hcl:=PL h.pi.uo (h.yf rfl) h.pi.aI h.pi.jc (aP hk) hkk hf;have OL:=h.late _ (List.getElem_mem hd);have hpr:=CZ (n:=n) (k:=s.k) h.pi.aI.dX hd tl (by omega) h.dI
  have hlen:=M.Ca.len h.pi.aI;have Va:=h.n30;have uf:∀ j,j ≠ 6->upd f 6 v' j=f j:=fun j hj=>aa _ _ hj
  refine ⟨rfl,(M.bD.trans (aC.of_below hbx)).trans t2,{ s with
   cs:=cs ++ [⟨1,0,x :: ks⟩],tr:=s.tr.take s.ch[d] ++ [x],ch:=s.ch.take d,lev:=bB s.lev (x / 2) d,rea:=bB s.rea (x / 2) (((enc s.cs).length:Nat):Int),wl:=Yr s x ks,P:=s.ch[d],sp:=s.ch[d],
   f:=upd f 6 v',V:=upd V 1 v',X:=bN X x (((enc s.cs).length:Nat):Int) d,gone:=gone,ls:=s.ls ++ [(false,x :: ks)],L:=s.L ++ [(x :: ks).map wr],m:=s.m + 1,k:=s.k + 1,lc:=s.lc + 1,
   Rs:=(fun g=>zz Rs wx g/\g < w'.heap.size),Ro:=Ro,Rd:=(fun g=>zz Rd wx g/\g < w'.heap.size),Rk:=Rk },{
   aI:=t1
   pi:=by rw [hmap];exact hP
   x0:=(ax 0 (by decide) (by decide) (by decide) (by decide)).trans M.x0
   dx:=M.dx.assign hxl ho (((enc s.cs).length:Nat):Int) (X':=X) (ch':=s.ch.take d) M.dx.l2 (fun _ _=>rfl)
   dL:=M.dL.congr (ax 9 (by decide) (by decide) (by decide) (by decide)) (fun x _=>aa _ _ (by omega)) fun x _=>ax _ (by omega) (by omega) (by omega) (by omega)
   lam:=M.lam.congr (ax 6 (by decide) (by decide) (by decide) (by decide))
   n10:=(congrArg List.length (ax 10 (by decide) (by decide) (by decide) (by decide))).trans M.n10
   lD:=by
    obtain ⟨fol,hf⟩:=M.lD;exact ⟨fol,hf.congr (ax 11 (by decide) (by decide) (by decide) (by decide))⟩
   f0:=(uf 0 (by decide)).trans ((M.ff 0 (by decide) (by decide) (by decide) (by decide) (by decide) (by decide) (by decide) (by decide)).trans h.f0)
   f3:=(uf 3 (by decide)).trans M.f3
   f4:=(uf 4 (by decide)).trans ((M.ff 4 (by decide) (by decide) (by decide) (by decide) (by decide) (by decide) (by decide) (by decide)).trans h.f4)
   f7:=(uf 7 (by decide)).trans M.f7
   f14:=(uf 14 (by decide)).trans ((M.ff 14 (by decide) (by decide) (by decide) (by decide) (by decide) (by decide) (by decide) (by decide)).trans h.f14)
   f18:=(uf 18 (by decide)).trans ((M.ff 18 (by decide) (by decide) (by decide) (by decide) (by decide) (by decide) (by decide) (by decide)).trans h.f18)
   f20:=(uf 20 (by decide)).trans ((M.ff 20 (by decide) (by decide) (by decide) (by decide) (by decide) (by decide) (by decide) (by decide)).trans h.f20)
   f21:=by
    refine (uf 21 (by decide)).trans (M.f21.trans ?_)
    congr 1
    show (((50 * Lb.lub s.r s.r:Nat):Int) - ((s.k:Nat):Int) - 1:Int)=((50 * Lb.lub s.r s.r:Nat):Int) - ((s.k + 1:Nat):Int)
    omega
   ze:=by show s.ch[d] <= (s.tr.take s.ch[d] ++ [x]).length;rw [List.length_append,VF];omega
   late:=fun q hq=>by
    have:=(zO h.pi.aI.dX hd).2 q hq;exact Nat.le_of_lt this
   nH:=fun u hu hg=>by
    obtain ⟨y,hy,e⟩:=M.nH u hu hg;exact ⟨y,List.mem_append_left _ hy,e⟩
   yf:=fun _=>by rw [hmap];exact hU
   bad:=fun e=>by cases e
   lines:=by
    rw [List.map_append];exact h.lines.add (by simp) M.right
   wK:=fun l hl=>by
    rcases List.mem_append.1 hl with hl | hl
    ·exact h.wK l hl
    ·rw [List.mem_singleton.1 hl];exact M.Ca.lt h.pi.aI
   qG:=by
    rw [mJ _ _ (show (1:Nat) ≠ 2 by decide),M.busy.kz]
    exact h.qG.add (x :: ks) fun z=>by rw [List.mem_map]
   Cc:=by rw [hmap];exact h.Cc.new hnew
   num:=by
    have:=h.num;show (enc (cs ++ [⟨1,0,x :: ks⟩])).length <= N0 + 33 * (s.m + 1)
    rw [dn,List.length_append,el];simp [enc,dh];omega
   uM:=by
    have:=h.uM;show (bJ (s.ls ++ [(false,x :: ks)])).length + 125 * eQ (cs ++ [⟨1,0,x :: ks⟩]) <= 250 * (s.m + 1)
    rw [o8,if_pos (show ((⟨1,0,x :: ks⟩:Rec)).kind=1 from rfl),M.busy.cnt.1,kN,List.length_append,List.length_append]
    have l2:(jS false (x :: ks)).length <= 4 * (ks.length + 1) + 3:=by
     have a:=jR hn (st:=[]) (c:=x :: ks) (M.Ca.lt h.pi.aI) (by simp) (x :: ks).length (Nat.le_refl _)
     have b:jS false (x :: ks)=bu [] (x :: ks) (x :: ks).length ++ [48]:=by
      unfold bu jS;rw [List.take_length];simp
     rw [b,List.length_append];simp at a ⊢;omega
    simp only [List.length_cons,List.length_nil];omega
   cnt:=by show s.lc + 1=eQ (cs ++ [⟨1,0,x :: ks⟩]);rw [o8,M.busy.cnt.1,<- h.cnt];rfl
   uJ:=by show s.ws=fE (cs ++ [⟨1,0,x :: ks⟩]);rw [yV,M.busy.cnt.2,<- h.uJ];rfl
   dI:=by
    show 2 * (s.k + 1) <= dI n (bits (s.tr.take s.ch[d] ++ [x]).length (s.ch.take d))
    rw [List.length_append,VF];exact hpr
   lcm:=by show s.lc + 1 <= s.m + 1;have:=h.lcm;omega
   km:=by show s.k + 1 <= s.m + 1;have:=h.km;omega
   n30:=h.n30 },rfl,⟨rfl,rfl,rfl,rfl,rfl,by show (s.ch.take d).length < s.ch.length;omega⟩⟩
theorem YY {brk:Bool} (h:Main Z sb ob hb kb n L0 N0 brk w s) (hr:Ready s):
  w.cell? ⟨sb,12,none⟩=some (.pointer (some ⟨ob,0,none⟩))/\Calls Tryz.prog 144 #[.pointer (some ⟨ob,0,none⟩)] w fun e w'=>e=.returned (.tuple #[])/\aC Z w w'/\∃ s',Main Z sb ob hb kb n L0 N0 brk w' s'/\Ready s'/\s'.tr=s.tr/\s'.ch=s.ch/\s'.k=s.k/\s'.m=s.m/\s'.r=s.r/\s'.lc=s.lc/\s'.mo=s.mo:=by
 refine ⟨?_,(Ut h.aI.duo.ord).mono ?_⟩
 ·have:=(h.aI.duo.aG.head 12 (by omega)).1
  rw [h.aI.duo.f12] at this;exact this
 ·rintro e w' ⟨rfl,hc,ho⟩;obtain ⟨t1,t2⟩:=h.aI.vP ho hc
  exact ⟨rfl,t2,{ s with Ro:=(fun g=>zz s.Ro w g/\g < w'.heap.size),Rd:=(fun g=>zz s.Rd w g/\g < w'.heap.size) },{ h with aI:=t1 },hr,rfl,rfl,rfl,rfl,rfl,rfl,rfl⟩
end
section
open Go Go.RowKit Go.Deep Rd
variable {Z:Nat->Prop} {sb ob hb kb n:Nat} {L0:List Cl} {N0:Nat} {w0 w w':World} {s:St}
theorem mU (w:World) (j:Nat):Below w.heap.size w (w.drewN j):=⟨rfl,rfl,rfl,Nat.le_refl _,fun _ _=>rfl⟩
def rV (Z:Nat->Prop) (sb ob hb kb n:Nat) (L0:List Cl) (N0:Nat) (Q:St->Prop):Prop:=
 ∀ w s,Main Z sb ob hb kb n L0 N0 false w s->Ready s->Q s->Calls Tryz.prog 145 #[.pointer (some ⟨sb,0,none⟩)] w fun e w'=>e=.returned .nilIface/\aC Z w w'/\∃ s',Main Z sb ob hb kb n L0 N0 false w' s'/\Ready s'/\s'.k=s.k/\s'.m=s.m/\s'.r=s.r/\(s.lc <= s.mo->s'.mo=s.mo)/\s'.mo <= s.mo + 100/\s'.ch=s.ch
theorem Bp:rV Z sb ob hb kb n L0 N0 (fun s=>s.lc <= s.mo/\s.mo <= 4611686018427387904):=fun w s h hr ⟨hq,hq2⟩=>by
 have c3:=(h.aI.duo.aG.head 3 (by omega)).1
 have c18:=(h.aI.duo.aG.head 18 (by omega)).1
 rw [h.f3] at c3;rw [h.f18] at c18;have F:Hid (∀ j,Main Z sb ob hb kb n L0 N0 false (w.drewN j) s/\aC Z w (w.drewN j)):=fun j=>⟨h.later (mU w j),aC.of_below (mU w j)⟩
 have le:(s.lc:Int) <= (s.mo:Int):=by omega
 clear h;go_enter Tryz.func145,Tryz.ntmps145
 go_upto_region 1 with fail
 go_quiet (fail)
 go_wp2;go_ret
 exact ⟨rfl,(F.out _).2,s,(F.out _).1,hr,rfl,rfl,rfl,by intros;rfl,by omega,rfl⟩
theorem Kz {Q:St->Prop} (h:Main Z sb ob hb kb n L0 N0 false w s) (hn:n <= 50) (hN:(enc s.cs).length <= 1000000000000) (hm:s.m <= 22000000000) (hr:s.r <= 134217727) {k:Nat} (hk:k < s.cs.length) (hkk:(s.cs[k]).kind ≠ 2) (hd:0 < s.ch.length) (hf:∀ y ∈ (s.cs[k]).lits,op y ∈ s.tr) {y0:Nat} (hy0:y0 ∈ (s.cs[k]).lits) (hl0:s.lev (y0 / 2)=s.ch.length)
  (FG:rV Z sb ob hb kb n L0 N0 Q) (hQ:∀ s',s'.k=s.k + 1->s'.m=s.m + 1->s'.r=s.r->s'.lc=s.lc + 1->s'.mo=s.mo->Q s'):
  Calls Tryz.prog 101 #[.pointer (some ⟨sb,0,none⟩),.int .i64 ((aj s.cs k:Nat):Int)] w fun e w'=>e=.returned .nilIface/\aC Z w w'/\∃ s',Main Z sb ob hb kb n L0 N0 false w' s'/\Ready s'/\s'.k=s.k + 1/\s'.m=s.m + 1/\s'.r=s.r/\(s.lc + 1 <= s.mo->s'.mo=s.mo)/\s'.mo <= s.mo + 100/\s'.ch.length < s.ch.length:=by
 obtain ⟨c21,z21,qb,Rd1,M1⟩:=h.lea1;have hlub:Lb.lub s.r s.r <= 134217727:=by
  rcases Nat.eq_zero_or_pos s.r with e | e
  ·rw [e];simp [Lb.lub]
  ·exact Nat.le_trans (GD s.r s.r e (by omega)) (by omega)
 have Zq:=h.km;have QE:=hide (fun wx Rs Rd (M:Mid Z sb ob hb kb n w s (bJ s.ls) wx s.cs (upd s.f 21 (.int .i64 (((50 * Lb.lub s.r s.r:Nat):Int) - ((s.k:Nat):Int) - 1))) s.V s.X Rs s.Ro Rd s.Rk)=>lea2 h hn hN hk hd hf hy0 hl0 M)
 have QS:=hide (fun wx (M:XC Z sb ob hb kb n w s (s.cs[k]).lits hd wx)=>lea3 h hn hN M)
 have QP:=hide (fun wx (M:XB Z sb ob hb kb n w s (s.cs[k]).lits hd wx)=>lea4 h hn hk hkk hf M)
 have HD:=hide (fun wx x ks d l (M:BL Z sb ob hb kb n w s x ks d l wx)=>M.head)
 have QA:=hide (fun wx x ks d (M:BL Z sb ob hb kb n w s x ks d (bJ s.ls) wx) v hv=>lea5 h hn hm M (v:=v) hv)
 have QB:=hide (fun wx x ks d (M:BL Z sb ob hb kb n w s x ks d (bJ (s.ls ++ [(false,x :: ks)])) wx) v hv=>lea6 h hn M (v:=v) hv)
 have QC:=hide (fun wx x ks d v (M:Qw Z sb ob hb kb n w s x ks d v wx)=>lea7 h hn hN hm M)
 have QW:=hide (fun wx x q r d v (M:Fw Z sb ob hb kb n w s x (q :: r) d v wx)=>lea8 h hn hN M)
 have QG:=hide (fun wx x ks d v (M:Fv Z sb ob hb kb n w s x ks d v wx)=>lea9 h hn hk hkk hf M)
 have N0':=hide (fun wx x d v (M:Fw Z sb ob hb kb n w s x [] d v wx)=>Tx M)
 have QO:=hide (fun wx s' (hm':Main Z sb ob hb kb n L0 N0 false wx s') (hr':Ready s')=>YY hm' hr')
 have QF:=hide (fun wx s' (hm':Main Z sb ob hb kb n L0 N0 false wx s') (hr':Ready s') a b c d e=>FG wx s' hm' hr' (hQ s' a b c d e))
 have hkb:(s.k:Int) <= 22000000000:=by omega
 have hlb:((50 * Lb.lub s.r s.r:Nat):Int) <= 6710886350:=by omega
 have hl0':(0:Int) <= ((50 * Lb.lub s.r s.r:Nat):Int):=by omega
 have hk0:(0:Int) <= (s.k:Int):=by omega
 obtain ⟨left,hleft⟩:∃ left:Int,left=((50 * Lb.lub s.r s.r:Nat):Int) - ((s.k:Nat):Int):=⟨_,rfl⟩;rw [<- hleft] at c21 M1 QE;have lb1:left <= 6710886350:=by omega
 have lb2:-22000000000 <= left:=by omega
 have BN:=hide M1;clear M1 h hf hy0 hl0 hleft Zq hlub hkb hlb hl0' hk0 FG hQ hN hm;go_enter Tryz.func101,Tryz.ntmps101
 go_upto_region 2 with fail
 generalize hW1:w.setCell ⟨sb,21,none⟩ (.int .i64 (left - 1))=W1 at BN ⊢;clear hW1 c21 z21;go_upto_region 3 with (go_at_call 141;refine (QE.out _ _ _ BN.out).mono ?_;rintro e2 w2 ⟨rfl,m2⟩;have M2:=hide m2;clear m2;simp only [])
 clear QE BN;go_upto_region 4 with (go_at_call 142;refine (QS.out _ M2.out).mono ?_;rintro e3 w3 ⟨rfl,m3⟩;have M3:=hide m3;clear m3;simp only [])
 clear QS M2;go_upto_region 5 with (go_at_call 143;refine (QP.out _ M3.out).mono ?_;rintro e4 w4 ⟨x,ks,d,rfl,m4⟩;have M4:=hide m4;obtain ⟨g7,c7,q15⟩:=HD.out _ _ _ _ _ m4;clear m4;simp only [])
 clear QP M3 HD;go_upto_region 7 with (go_at_call 100;refine (QA.out _ _ _ _ M4.out _ q15).mono ?_;rintro e5 w5 ⟨rfl,m5,q5⟩;have M5:=hide m5;clear m5;simp only [])
 clear QA M4 q15;go_upto_region 10 with (go_at_call 137;refine (QB.out _ _ _ _ M5.out _ q5).mono ?_;rintro e6 w6 ⟨rfl,m6⟩;have M6:=hide m6;clear m6;simp only [])
 clear QB M5 q5;go_upto_region 11 with (go_at_call 132;refine (QC.out _ _ _ _ _ M6.out).mono ?_;rintro e7 w7 ⟨rfl,m7⟩;have M7:=hide m7;clear m7;simp only [])
 clear QC M6;have TAIL:Hid (∀ w8,Fv Z sb ob hb kb n w s x ks d (.slice (some ⟨g7,0,none⟩) (ks.length + 1) c7) w8->w8.cell? ⟨g7,0,none⟩=some (.int .i64 ((x:Nat):Int))/\∀ wx,Below w8.heap.size w8 wx->Calls Tryz.prog 136 #[.pointer (some ⟨sb,6,none⟩),.int .i64 ((x:Nat):Int),.int .i64 (((enc s.cs).length:Nat):Int)] wx fun e w'=>e=.returned (.tuple #[])/\aC Z w w'/\∃ s',Main Z sb ob hb kb n L0 N0 false w' s'/\Ready s'/\Qv s s'):=fun w8 m8=>by
  obtain ⟨⟨g,c,hv,c0⟩,hq⟩:=QG.out _ _ _ _ _ m8;obtain ⟨y1,_,_⟩:=Value.slice.inj hv;obtain rfl:g7=g:=by have:=Option.some.inj y1;exact congrArg Addr.block this
  exact ⟨c0,hq⟩
 clear QG
 cases ks with
 | nil=>
  have M8:=hide (N0'.out _ _ _ _ M7.out);obtain ⟨c0,YH⟩:=TAIL.out _ M8.out;have QAS:=hide YH;clear QW N0' M7 M8 TAIL YH;go_upto_region 13 with fail
  go_region_with (go_at_call 136;refine (QAS.out _ (by first | exact Below.refl _ _ | exact (Below.refl _ _).drew)).mono ?_;rintro e9 w9 ⟨rfl,Zy,s9,WH,WC,Zp⟩;have C9:=hide Zy;have M9:=hide WH;have R9:=hide WC;have L9:=hide Zp;obtain ⟨Q9,qo⟩:=QO.out _ _ WH WC;have QOO:=hide qo;clear Zy WH WC Zp qo;simp only [])
  all_goals
   go_wp2_with (first | (go_at_call 144;refine QOO.out.mono ?_;rintro eA wA ⟨rfl,hcA,sA,Zm,Zi,-,ca,ka,ma,ra,la,oa⟩;have CA:=hide hcA;have QFF:=hide (QF.out wA sA Zm Zi (ka.trans L9.out.k) (ma.trans L9.out.m) (ra.trans L9.out.r) (la.trans L9.out.lc) (oa.trans L9.out.mo));have KA:=hide ka;have MA:=hide ma;have RA:=hide ra;have LA:=hide la;have OA:=hide oa;have CHA:=hide ca;clear hcA Zm Zi ka ma ra la oa ca;simp only []) | (go_at_call 145;refine QFF.out.mono ?_;rintro eB wB ⟨rfl,hcB,sB,Zl,Zh,Y7,mb,rb,XW,oc',YP⟩;have CB:=hide hcB;have MB:=hide Zl;have RB:=hide Zh;have FB:Hid (sB.k=s.k + 1/\sB.m=s.m + 1/\sB.r=s.r/\(s.lc + 1 <= s.mo->sB.mo=s.mo)/\sB.mo <= s.mo + 100/\sB.ch.length < s.ch.length):=⟨Y7.trans (KA.out.trans L9.out.k),mb.trans (MA.out.trans L9.out.m),rb.trans (RA.out.trans L9.out.r),fun hh=>(XW (by rw [LA.out,OA.out,L9.out.lc,L9.out.mo];exact hh)).trans (OA.out.trans L9.out.mo),by have e1:=OA.out;have e2:=L9.out.mo;omega,by rw [YP,CHA.out];exact L9.out.ch⟩;clear hcB Zl Zh Y7 mb rb XW oc' YP;simp only []))
   go_ret
   exact ⟨rfl,(C9.out.trans CA.out).trans CB.out,sB,MB.out,RB.out,FB.out⟩
 | cons q r=>
  have rl:(2:Int) <= ((r.length + 1 + 1:Nat):Int):=by omega
  go_upto_region 13 with (go_at_call 133;refine (QW.out _ _ _ _ _ _ M7.out).mono ?_;rintro e8 w8 ⟨rfl,m8⟩;have M8:=hide m8;clear m8;simp only [])
  obtain ⟨c0,YH⟩:=TAIL.out _ M8.out;have QAS:=hide YH;clear QW N0' M7 M8 TAIL YH
  go_region_with (go_at_call 136;refine (QAS.out _ (by first | exact Below.refl _ _ | exact (Below.refl _ _).drew)).mono ?_;rintro e9 w9 ⟨rfl,Zy,s9,WH,WC,Zp⟩;have C9:=hide Zy;have M9:=hide WH;have R9:=hide WC;have L9:=hide Zp;obtain ⟨Q9,qo⟩:=QO.out _ _ WH WC;have QOO:=hide qo;clear Zy WH WC Zp qo;simp only [])
  all_goals
   go_wp2_with (first | (go_at_call 144;refine QOO.out.mono ?_;rintro eA wA ⟨rfl,hcA,sA,Zm,Zi,-,ca,ka,ma,ra,la,oa⟩;have CA:=hide hcA;have QFF:=hide (QF.out wA sA Zm Zi (ka.trans L9.out.k) (ma.trans L9.out.m) (ra.trans L9.out.r) (la.trans L9.out.lc) (oa.trans L9.out.mo));have KA:=hide ka;have MA:=hide ma;have RA:=hide ra;have LA:=hide la;have OA:=hide oa;have CHA:=hide ca;clear hcA Zm Zi ka ma ra la oa ca;simp only []) | (go_at_call 145;refine QFF.out.mono ?_;rintro eB wB ⟨rfl,hcB,sB,Zl,Zh,Y7,mb,rb,XW,oc',YP⟩;have CB:=hide hcB;have MB:=hide Zl;have RB:=hide Zh;have FB:Hid (sB.k=s.k + 1/\sB.m=s.m + 1/\sB.r=s.r/\(s.lc + 1 <= s.mo->sB.mo=s.mo)/\sB.mo <= s.mo + 100/\sB.ch.length < s.ch.length):=⟨Y7.trans (KA.out.trans L9.out.k),mb.trans (MA.out.trans L9.out.m),rb.trans (RA.out.trans L9.out.r),fun hh=>(XW (by rw [LA.out,OA.out,L9.out.lc,L9.out.mo];exact hh)).trans (OA.out.trans L9.out.mo),by have e1:=OA.out;have e2:=L9.out.mo;omega,by rw [YP,CHA.out];exact L9.out.ch⟩;clear hcB Zl Zh Y7 mb rb XW oc' YP;simp only []))
   go_ret
   exact ⟨rfl,(C9.out.trans CA.out).trans CB.out,sB,MB.out,RB.out,FB.out⟩
end
end So
end Go.Proofs.YtceahffmenbibaaGreatDoor
