/- Sleb Slew. -/
import Derived.Test.YtceahffmenbibaaGreatDoorG34
set_option linter.unusedVariables false
set_option linter.unusedSimpArgs false
namespace Go.Proofs.YtceahffmenbibaaGreatDoor
namespace So
open Go Go.RowKit Go.Deep Rd
variable {Z:Nat→Prop} {sb ob hb kb n:Nat} {L0:List Cl} {N0:Nat} {w0 w w':World} {s:St} {x:Nat} {ks:List Nat} {d:Nat}
theorem LsI.len {tr ch:List Nat} {lev:Nat→Nat} (h:LsI tr ch lev x ks d) (ht:TrI n tr ch lev):ks.length + 1 ≤ n:=lits_len h.vars (h.lt ht)
theorem lea5 (h:Main Z sb ob hb kb n L0 N0 false w0 s) (hn:n ≤ 50) (hm:s.m ≤ 8589934592) (M:Lea4 Z sb ob hb kb n w0 s x ks d (linesT s.ls) w) {v:Value} (hv:w.cell? ⟨sb,15,none⟩=some v):
  Calls Tryz.prog 100 #[.pointer (some ⟨sb,0,none⟩),v] w fun e w'=>e=.returned .nilIface∧Lea4 Z sb ob hb kb n w0 s x ks d (linesT (s.ls ++ [(false,x :: ks)])) w'∧w'.cell? ⟨sb,15,none⟩=some v:=by
 obtain ⟨cs,f,V,X,Rs,Ro,Rd,Rk,M,h7,hL,hR⟩:=M
 have hK:=M.tri.duo.sol.hK
 have e7:V 7=v:=by
  have:=(M.tri.duo.sol.hd (k:=7) (by omega)).1
  rw [show cellOf 7=15 from rfl,hv] at this
  exact (Option.some.inj this).symm
 have hl:=M.tri.duo.sol.lies (k:=7) (j:=12) (by omega) (by omega) (by decide) h7
 rw [e7] at hl
 have hp:=h.prf
 refine (add_any M.tri hn ((M.ff 0 (by decide) (by decide) (by decide)).trans h.f0) v hl (by have:=hL.len h.pi.tri;simp;omega) (hL.lt h.pi.tri) (by omega)).mono ?_
 rintro e w' ⟨rfl,hc,v',X',Rs',Rd',Rk',T⟩
 refine ⟨rfl,⟨cs,_,_,_,_,_,_,_,{
  tri:=by rw [linesT_snoc];exact T
  x0:=(upd_other _ _ (by decide)).trans M.x0
  busy:=M.busy
  trm:=M.trm.congr fun j h1 h2=>upd_other _ _ (by omega)
  wam:=M.wam.congr (upd_other _ _ (by decide)) (fun x _=>upd_other _ _ (by omega)) fun x _=>upd_other _ _ (by omega)
  lam:=M.lam.congr (upd_other _ _ (by decide))
  n10:=by rw [upd_other _ _ (by decide)];exact M.n10
  fom:=by
   obtain ⟨fol,hf⟩:=M.fom
   exact ⟨fol,hf.congr (upd_other _ _ (by decide))⟩
  ff:=fun j h6 h7 h8=>(upd_other _ _ h8).trans (M.ff j h6 h7 h8)
  f21:=(upd_other _ _ (by decide)).trans M.f21
  chg:=M.chg.trans hc },(upd_other _ _ (by decide)).trans h7,hL,hR⟩,?_⟩
 have:=(T.duo.sol.hd (k:=7) (by omega)).1
 rw [show cellOf 7=15 from rfl,upd_other _ _ (by decide),e7] at this
 exact this
structure Lea6 (Z:Nat→Prop) (sb ob hb kb n:Nat) (w0:World) (s:St) (x:Nat) (ks:List Nat) (d p:Nat) (v:Value) (w:World) (cs:List Rec) (f V:Nat→Value) (X:Nat→List Value) (gone Rs Ro Rd Rk:Nat→Prop):Prop where
 tri:Tri Z sb ob hb kb n w (16 + 2 * n) f V X gone (linesT (s.ls ++ [(false,x :: ks)])) Rs Ro Rd Rk
 x0:X 0=ints (enc cs)
 busy:BusyC s.cs cs
 trm:TrM n X (s.tr.take p) (s.ch.take d) s.lev s.rea
 wam:WaM n V X s.wl
 lam:LaM n X
 n10:(X 10).length=n
 fom:∃ fol,FoM n X fol
 x7:X 7=nats (x :: ks)
 v7:V 7=v
 ff:∀ j,j ≠ 15→j ≠ 21→j ≠ 1→j ≠ 6→j ≠ 7→j ≠ 8→f j=s.f j
 f7:f 7=.int .i64 ((p:Nat):Int)
 f21:f 21=.int .i64 (((50 * Lb.lub s.r s.r:Nat):Int) - ((s.k:Nat):Int) - 1)
 asg:∀ u,u < n→gone u→∃ y ∈ s.tr.take p,y / 2=u
 lsi:LsI s.tr s.ch s.lev x ks d
 right:RightP s.L ((x :: ks).map wr)
 hp:∃ hd:d < s.ch.length,p=s.ch[d]
 chg:Chg Z w0 w
def Lea6E (Z:Nat→Prop) (sb ob hb kb n:Nat) (w0:World) (s:St) (x:Nat) (ks:List Nat) (d:Nat) (v:Value) (w:World):Prop:=∃ p cs f V X gone Rs Ro Rd Rk,Lea6 Z sb ob hb kb n w0 s x ks d p v w cs f V X gone Rs Ro Rd Rk
theorem lea6 (h:Main Z sb ob hb kb n L0 N0 false w0 s) (hn:n ≤ 50) (M:Lea4 Z sb ob hb kb n w0 s x ks d (linesT (s.ls ++ [(false,x :: ks)])) w) {v:Value} (hv:w.cell? ⟨sb,15,none⟩=some v):
  Calls Tryz.prog 137 #[.pointer (some ⟨sb,0,none⟩),.int .i64 ((d:Nat):Int)] w fun e w'=>e=.returned (.tuple #[])∧Lea6E Z sb ob hb kb n w0 s x ks d v w':=by
 obtain ⟨cs,f,V,X,Rs,Ro,Rd,Rk,M,h7,hL,hR⟩:=M
 have e7:V 7=v:=by
  have:=(M.tri.duo.sol.hd (k:=7) (by omega)).1
  rw [show cellOf 7=15 from rfl,hv] at this
  exact (Option.some.inj this).symm
 refine (sback_any M.tri.duo hn M.trm h.pi.tri M.lam hL.dl).mono ?_
 rintro e w' ⟨rfl,hc,f',V',X',Rs',Ro',D,hLa,hT,h7',hff,hxx,hvv⟩
 obtain ⟨t1,t2⟩:=M.tri.stepD D hc
 exact ⟨rfl,_,cs,f',V',X',_,_,_,_,_,{
  tri:=t1
  x0:=(hxx 0 (by decide) (by decide) (by decide) (by decide)).trans M.x0
  busy:=M.busy
  trm:=hT
  wam:=M.wam.congr (hxx 9 (by decide) (by decide) (by decide) (by decide)) (fun x _=>hvv _ (by omega) (by omega)) fun x _=>hxx _ (by omega) (by omega) (by omega) (by omega)
  lam:=hLa
  n10:=by rw [hxx 10 (by decide) (by decide) (by decide) (by decide)];exact M.n10
  fom:=by
   obtain ⟨fol,hf⟩:=M.fom
   exact ⟨fol,hf.congr (hxx 11 (by decide) (by decide) (by decide) (by decide))⟩
  x7:=(hxx 7 (by decide) (by decide) (by decide) (by decide)).trans h7
  v7:=(hvv 7 (by decide) (by decide)).trans e7
  ff:=fun j a1 a2 a3 a4 a5 a6=>(hff j a4 a5 a6).trans (M.ff j a1 a2 a3)
  f7:=h7'
  f21:=(hff 21 (by decide) (by decide) (by decide)).trans M.f21
  asg:=fun u hu hg=>by
   obtain ⟨y,hy,e⟩:=h.asg u hu hg.1
   rw [← List.take_append_drop (s.ch[d]'hL.dl) s.tr] at hy
   rcases List.mem_append.1 hy with hy | hy
   ·exact ⟨y,hy,e⟩
   ·exact absurd e (hg.2 y hy)
  lsi:=hL
  right:=hR
  hp:=⟨hL.dl,rfl⟩
  chg:=M.chg.trans t2 }⟩
structure Lea7 (Z:Nat→Prop) (sb ob hb kb n:Nat) (w0:World) (s:St) (x:Nat) (ks:List Nat) (d p:Nat) (v:Value) (w:World) (cs:List Rec) (wl:Nat→List Nat) (f V:Nat→Value) (X:Nat→List Value) (gone Rs Ro Rd Rk:Nat→Prop):Prop where
 tri:Tri Z sb ob hb kb n w (16 + 2 * n) f V X gone (linesT (s.ls ++ [(false,x :: ks)])) Rs Ro Rd Rk
 x0:X 0=ints (enc (cs ++ [⟨1,0,x :: ks⟩]))
 busy:BusyC s.cs cs
 trm:TrM n X (s.tr.take p) (s.ch.take d) s.lev s.rea
 wam:WaM n V X wl
 lam:LaM n X
 n10:(X 10).length=n
 fom:∃ fol,FoM n X fol
 x7:X 7=nats (x :: ks)
 v7:V 7=v
 ff:∀ j,j ≠ 15→j ≠ 21→j ≠ 1→j ≠ 6→j ≠ 7→j ≠ 8→j ≠ 2→j ≠ 3→f j=s.f j
 f3:f 3=.int .i64 ((s.lc + 1:Nat):Int)
 f7:f 7=.int .i64 ((p:Nat):Int)
 f21:f 21=.int .i64 (((50 * Lb.lub s.r s.r:Nat):Int) - ((s.k:Nat):Int) - 1)
 asg:∀ u,u < n→gone u→∃ y ∈ s.tr.take p,y / 2=u
 lsi:LsI s.tr s.ch s.lev x ks d
 right:RightP s.L ((x :: ks).map wr)
 hp:∃ hd:d < s.ch.length,p=s.ch[d]
 chg:Chg Z w0 w
def Lea7E (Z:Nat→Prop) (sb ob hb kb n:Nat) (w0:World) (s:St) (x:Nat) (ks:List Nat) (d:Nat) (v:Value) (w:World):Prop:=∃ p cs f V X gone Rs Ro Rd Rk,Lea7 Z sb ob hb kb n w0 s x ks d p v w cs s.wl f V X gone Rs Ro Rd Rk
theorem enc_snoc (cs:List Rec) (c:List Nat):ints (enc cs) ++ nats (c.length :: 1 :: 0 :: c)=ints (enc (cs ++ [⟨1,0,c⟩])):=by
 rw [enc_append,ints_append]
 congr 1
 simp [enc,enc1,ints,nats]
theorem lea7 (h:Main Z sb ob hb kb n L0 N0 false w0 s) (hn:n ≤ 50) (hN:(enc s.cs).length ≤ 549755813888) (hm:s.m ≤ 8589934592) {v:Value} (M:Lea6E Z sb ob hb kb n w0 s x ks d v w):
  Calls Tryz.prog 132 #[.pointer (some ⟨sb,2,none⟩),v,.int .i64 1] w fun e w'=>e=.returned (.int .i64 (((enc s.cs).length:Nat):Int))∧Lea7E Z sb ob hb kb n w0 s x ks d v w':=by
 obtain ⟨p,cs,f,V,X,gone,Rs,Ro,Rd,Rk,M⟩:=M
 have hK:=M.tri.duo.sol.hK
 have hl:=M.tri.duo.sol.lies (k:=7) (j:=0) (by omega) (by omega) (by decide) M.x7
 rw [M.v7] at hl
 have e3:=(M.ff 3 (by decide) (by decide) (by decide) (by decide) (by decide) (by decide)).trans h.f3
 have el:=M.busy.len
 have el0:(X 0).length=(enc s.cs).length:=by rw [M.x0,ints_len,el]
 have hlc:=h.lcm
 have hlen:=M.lsi.len h.pi.tri
 refine (addC_any (x :: ks) 1 ((s.lc:Nat):Int) v M.tri.duo.sol hl (by simp;omega) (by decide) (by omega) e3 (by omega) (by omega)).mono ?_
 rintro e w' ⟨rfl,hc,v',hs⟩
 obtain ⟨t1,t2⟩:=M.tri.stepS hs hc (by rw [upd_other _ _ (by decide),upd_other _ _ (by decide)])
 refine ⟨by rw [el0],p,cs,_,_,_,_,_,_,_,_,{
  tri:=t1
  x0:=by rw [upd_self,M.x0];exact enc_snoc cs (x :: ks)
  busy:=M.busy
  trm:=M.trm.congr fun j h1 h2=>upd_other _ _ (by omega)
  wam:=M.wam.congr (upd_other _ _ (by decide)) (fun x _=>upd_other _ _ (by omega)) fun x _=>upd_other _ _ (by omega)
  lam:=M.lam.congr (upd_other _ _ (by decide))
  n10:=by rw [upd_other _ _ (by decide)];exact M.n10
  fom:=by
   obtain ⟨fol,hf⟩:=M.fom
   exact ⟨fol,hf.congr (upd_other _ _ (by decide))⟩
  x7:=(upd_other _ _ (by decide)).trans M.x7
  v7:=(upd_other _ _ (by decide)).trans M.v7
  ff:=fun j a1 a2 a3 a4 a5 a6 a7 a8=>(upd_other _ _ a8).trans ((upd_other _ _ a7).trans (M.ff j a1 a2 a3 a4 a5 a6))
  f3:=by rw [upd_self];rfl
  f7:=(upd_other _ _ (by decide)).trans ((upd_other _ _ (by decide)).trans M.f7)
  f21:=(upd_other _ _ (by decide)).trans ((upd_other _ _ (by decide)).trans M.f21)
  asg:=M.asg
  lsi:=M.lsi
  right:=M.right
  hp:=M.hp
  chg:=M.chg.trans t2 }⟩
def wlL (s:St) (x:Nat) (ks:List Nat):Nat→List Nat:=match ks with
 | []=>s.wl
 | q :: _=>wlI s.wl (enc s.cs).length x q 2
def Lea8E (Z:Nat→Prop) (sb ob hb kb n:Nat) (w0:World) (s:St) (x:Nat) (ks:List Nat) (d:Nat) (v:Value) (w:World):Prop:=∃ p cs f V X gone Rs Ro Rd Rk,Lea7 Z sb ob hb kb n w0 s x ks d p v w cs (wlL s x ks) f V X gone Rs Ro Rd Rk
theorem lea8_no {v:Value} (M:Lea7E Z sb ob hb kb n w0 s x [] d v w):Lea8E Z sb ob hb kb n w0 s x [] d v w:=M
theorem lea8 (h:Main Z sb ob hb kb n L0 N0 false w0 s) (hn:n ≤ 50) (hN:(enc s.cs).length ≤ 549755813888) {v:Value} {q:Nat} {r:List Nat} (M:Lea7E Z sb ob hb kb n w0 s x (q :: r) d v w):
  Calls Tryz.prog 133 #[.pointer (some ⟨sb,0,none⟩),.int .i64 (((enc s.cs).length:Nat):Int)] w fun e w'=>e=.returned (.tuple #[])∧Lea8E Z sb ob hb kb n w0 s x (q :: r) d v w':=by
 obtain ⟨p,cs,f,V,X,gone,Rs,Ro,Rd,Rk,M⟩:=M
 have hK:=M.tri.duo.sol.hK
 have el:=M.busy.len
 have hv:=M.lsi.vars
 have hlt:=M.lsi.lt h.pi.tri
 have hlen:=M.lsi.len h.pi.tri
 have ea:adr (cs ++ [⟨1,0,x :: q :: r⟩]) cs.length=(enc s.cs).length:=by
  rw [adr_append _ (Nat.le_refl _),adr_all (Nat.le_refl _),el]
 have hpq:x ≠ q:=fun e=>by subst e;simp at hv
 have hend:(enc (cs ++ [⟨1,0,x :: q :: r⟩])).length ≤ 1099511627776:=by
  rw [enc_append,List.length_append,el]
  simp [enc,enc1_len]
  simp at hlen
  omega
 have hwl:∀ y,y < 2 * n→(s.wl y).length ≤ 1099511627776:=fun y hy=>by have:=h.pi.wai.len hy;omega
 rw [← ea]
 refine (watch_any (k:=cs.length) (p:=x) (q:=q) (r:=r) M.tri.duo.sol rfl M.x0 (by simp) (by simp) hpq (hlt x (by simp)) (hlt q (by simp)) hn hend M.wam hwl).mono ?_
 rintro e w' ⟨rfl,hc,V',X',hs,hw,ho⟩
 obtain ⟨t1,t2⟩:=M.tri.stepS hs hc rfl
 have hV7:V' 7=V 7:=by
  have a:=hs.hdr 7 (by omega)
  have b:=M.tri.duo.sol.hdr 7 (by omega)
  rw [← a,← b]
 refine ⟨rfl,p,cs,f,V',X',gone,_,_,_,_,{
  tri:=t1
  x0:=(ho 0 (by decide) (by decide)).trans M.x0
  busy:=M.busy
  trm:=M.trm.congr fun j h1 h2=>ho j (by omega) (by omega)
  wam:=by unfold wlL;rw [← ea];exact hw
  lam:=M.lam.congr (ho 6 (by decide) (by decide))
  n10:=by rw [ho 10 (by decide) (by decide)];exact M.n10
  fom:=by
   obtain ⟨fol,hf⟩:=M.fom
   exact ⟨fol,hf.congr (ho 11 (by decide) (by decide))⟩
  x7:=(ho 7 (by decide) (by decide)).trans M.x7
  v7:=hV7.trans M.v7
  ff:=M.ff
  f3:=M.f3
  f7:=M.f7
  f21:=M.f21
  asg:=M.asg
  lsi:=M.lsi
  right:=M.right
  hp:=M.hp
  chg:=M.chg.trans t2 }⟩
structure Learnt (s s':St):Prop where
 k:s'.k=s.k + 1
 m:s'.m=s.m + 1
 r:s'.r=s.r
 lc:s'.lc=s.lc + 1
 mo:s'.mo=s.mo
theorem lea9 (h:Main Z sb ob hb kb n L0 N0 false w0 s) (hn:n ≤ 50) {k:Nat} (hk:k < s.cs.length) (hkk:(s.cs[k]).kind ≠ 2) (hf:∀ y ∈ (s.cs[k]).lits,op y ∈ s.tr) {v:Value} (M:Lea8E Z sb ob hb kb n w0 s x ks d v w):
  (∃ g c,v=.slice (some ⟨g,0,none⟩) (ks.length + 1) c∧w.cell? ⟨g,0,none⟩=some (.int .i64 ((x:Nat):Int)))∧∀ wx,Below w.heap.size w wx→
  Calls Tryz.prog 136 #[.pointer (some ⟨sb,6,none⟩),.int .i64 ((x:Nat):Int),.int .i64 (((enc s.cs).length:Nat):Int)] wx fun e w'=>e=.returned (.tuple #[])∧Chg Z w0 w'∧∃ s',Main Z sb ob hb kb n L0 N0 false w' s'∧Ready s'∧Learnt s s':=by
 obtain ⟨p,cs,f,V,X,gone,Rs,Ro,Rd,Rk,M⟩:=M
 have hK:=M.tri.duo.sol.hK
 have em:=M.busy.map
 have el:=M.busy.len
 obtain ⟨hd,rfl⟩:=M.hp
 have ho:=M.lsi.open h.pi.tri
 have hxl:x < 2 * n:=M.lsi.lt h.pi.tri x (by simp)
 have tl:=h.pi.tri.len
 have hcd:s.ch[d] < s.tr.length:=h.pi.tri.incr.2 _ (List.getElem_mem hd)
 have dlen:(s.ch.take d).length=d:=by rw [List.length_take];omega
 have tlen:(s.tr.take s.ch[d]).length=s.ch[d]:=by rw [List.length_take];omega
 refine ⟨?_,fun wx hbx=>?_⟩
 ·obtain ⟨g,cap,t,e,q,r,r2,_⟩:=M.tri.duo.sol.elem (k:=7) (j:=0) (n:=ks.length + 1) (by omega) (by rw [M.x7,nats_len];rfl) (by omega)
  rw [M.v7] at e
  refine ⟨g,cap,e,?_⟩
  rw [r,← r2,M.x7];rfl
 ·have T:=M.tri.later hbx
  refine (assign_any x n d (((enc s.cs).length:Nat):Int) hxl hn T.duo.sol (by rw [M.trm.l1,nats_len,tlen];omega) (by rw [M.trm.l2,nats_len];exact dlen) M.trm.n3 M.trm.n4 M.trm.n5).mono ?_
  rintro e w' ⟨rfl,hc,v',hs⟩
  obtain ⟨t1,t2⟩:=T.stepS hs hc (upd_other _ _ (by decide))
  have ax:∀ j,j ≠ 1→j ≠ 3→j ≠ 4→j ≠ 5→assignX X x (((enc s.cs).length:Nat):Int) d j=X j:=fun j a b c e=>assignX_other _ _ _ _ a b c e
  have hmap:mapOf (cs ++ [⟨1,0,x :: ks⟩])=putC (mapOf s.cs) (enc s.cs).length ⟨1,x :: ks⟩:=by rw [mapOf_append,em,el]
  have hnew:mapOf s.cs (enc s.cs).length=none:=mapOf_new _
  have hP:=h.pi.learn M.lsi h.late hnew (wlL s x ks) (fun q r e=>by
   subst e
   have hpq:x ≠ q:=fun e=>by have hv:=M.lsi.vars;subst e;simp at hv
   unfold wlL wlI
   refine ⟨by simp,by simp,fun y h1 h2=>by simp [h1,h2]⟩) (fun e=>by subst e;rfl)
  have hU:=(h.uni rfl).learn (a:=(enc s.cs).length) h.pi.tri M.lsi
  have hcl:=conf_len h.pi.spi (h.uni rfl) h.pi.tri h.pi.cli (mapOf_at hk) hkk hf
  have hlate:=h.late _ (List.getElem_mem hd)
  have hpr:=prof_learn2 (n:=n) (k:=s.k) h.pi.tri.incr hd tl (by omega) h.prof
  have hlen:=M.lsi.len h.pi.tri
  have uf:∀ j,j ≠ 6→upd f 6 v' j=f j:=fun j hj=>upd_other _ _ hj
  refine ⟨rfl,(M.chg.trans (Chg.of_below hbx)).trans t2,{ s with
   cs:=cs ++ [⟨1,0,x :: ks⟩],tr:=s.tr.take s.ch[d] ++ [x],ch:=s.ch.take d,lev:=updN s.lev (x / 2) d,rea:=updN s.rea (x / 2) (((enc s.cs).length:Nat):Int),wl:=wlL s x ks,P:=s.ch[d],sp:=s.ch[d],
   f:=upd f 6 v',V:=upd V 1 v',X:=assignX X x (((enc s.cs).length:Nat):Int) d,gone:=gone,ls:=s.ls ++ [(false,x :: ks)],L:=s.L ++ [(x :: ks).map wr],m:=s.m + 1,k:=s.k + 1,lc:=s.lc + 1,
   Rs:=(fun g=>zz Rs wx g∧g < w'.heap.size),Ro:=Ro,Rd:=(fun g=>zz Rd wx g∧g < w'.heap.size),Rk:=Rk },{
   tri:=t1
   pi:=by rw [hmap];exact hP
   x0:=(ax 0 (by decide) (by decide) (by decide) (by decide)).trans M.x0
   trm:=M.trm.assign hxl ho (((enc s.cs).length:Nat):Int) (X':=X) (ch':=s.ch.take d) M.trm.l2 (fun _ _=>rfl)
   wam:=M.wam.congr (ax 9 (by decide) (by decide) (by decide) (by decide)) (fun x _=>upd_other _ _ (by omega)) fun x _=>ax _ (by omega) (by omega) (by omega) (by omega)
   lam:=M.lam.congr (ax 6 (by decide) (by decide) (by decide) (by decide))
   n10:=(congrArg List.length (ax 10 (by decide) (by decide) (by decide) (by decide))).trans M.n10
   fom:=by
    obtain ⟨fol,hf⟩:=M.fom
    exact ⟨fol,hf.congr (ax 11 (by decide) (by decide) (by decide) (by decide))⟩
   f0:=(uf 0 (by decide)).trans ((M.ff 0 (by decide) (by decide) (by decide) (by decide) (by decide) (by decide) (by decide) (by decide)).trans h.f0)
   f3:=(uf 3 (by decide)).trans M.f3
   f4:=(uf 4 (by decide)).trans ((M.ff 4 (by decide) (by decide) (by decide) (by decide) (by decide) (by decide) (by decide) (by decide)).trans h.f4)
   f7:=(uf 7 (by decide)).trans M.f7
   f14:=(uf 14 (by decide)).trans ((M.ff 14 (by decide) (by decide) (by decide) (by decide) (by decide) (by decide) (by decide) (by decide)).trans h.f14)
   f18:=(uf 18 (by decide)).trans ((M.ff 18 (by decide) (by decide) (by decide) (by decide) (by decide) (by decide) (by decide) (by decide)).trans h.f18)
   f20:=(uf 20 (by decide)).trans ((M.ff 20 (by decide) (by decide) (by decide) (by decide) (by decide) (by decide) (by decide) (by decide)).trans h.f20)
   f21:=by
    refine (uf 21 (by decide)).trans (M.f21.trans ?_)
    congr 1
    show (((50 * Lb.lub s.r s.r:Nat):Int) - ((s.k:Nat):Int) - 1:Int)=((50 * Lb.lub s.r s.r:Nat):Int) - ((s.k + 1:Nat):Int)
    omega
   spl:=by show s.ch[d] ≤ (s.tr.take s.ch[d] ++ [x]).length;rw [List.length_append,tlen];omega
   late:=fun q hq=>by
    have:=(incr_take h.pi.tri.incr hd).2 q hq
    exact Nat.le_of_lt this
   asg:=fun u hu hg=>by
    obtain ⟨y,hy,e⟩:=M.asg u hu hg
    exact ⟨y,List.mem_append_left _ hy,e⟩
   uni:=fun _=>by rw [hmap];exact hU
   bad:=fun e=>by cases e
   lines:=by
    rw [List.map_append]
    exact h.lines.add (by simp) M.right
   llt:=fun l hl=>by
    rcases List.mem_append.1 hl with hl | hl
    ·exact h.llt l hl
    ·rw [List.mem_singleton.1 hl];exact M.lsi.lt h.pi.tri
   mat:=by
    rw [lvs_append _ _ (show (1:Nat) ≠ 2 by decide),M.busy.lvs]
    exact h.mat.add (x :: ks) fun z=>by rw [List.mem_map]
   giv:=by rw [hmap];exact h.giv.new hnew
   num:=by
    have:=h.num
    show (enc (cs ++ [⟨1,0,x :: ks⟩])).length ≤ N0 + 53 * (s.m + 1)
    rw [enc_append,List.length_append,el]
    simp [enc,enc1_len]
    omega
   prf:=by
    have:=h.prf
    show (linesT (s.ls ++ [(false,x :: ks)])).length ≤ 410 * (s.m + 1)
    rw [linesT_snoc,List.length_append,List.length_append]
    have l2:(lineT false (x :: ks)).length ≤ 4 * (ks.length + 1) + 3:=by
     have a:=lineTo_len hn (st:=[]) (c:=x :: ks) (M.lsi.lt h.pi.tri) (by simp) (x :: ks).length (Nat.le_refl _)
     have b:lineT false (x :: ks)=lineTo [] (x :: ks) (x :: ks).length ++ [48]:=by
      unfold lineTo lineT;rw [List.take_length];simp
     rw [b,List.length_append]
     simp at a ⊢
     omega
    simp only [List.length_cons,List.length_nil]
    omega
   prof:=by
    show 2 * (s.k + 1) ≤ prof n (bits (s.tr.take s.ch[d] ++ [x]).length (s.ch.take d))
    rw [List.length_append,tlen];exact hpr
   lcm:=by show s.lc + 1 ≤ s.m + 1;have:=h.lcm;omega
   km:=by show s.k + 1 ≤ s.m + 1;have:=h.km;omega },rfl,⟨rfl,rfl,rfl,rfl,rfl⟩⟩
theorem lea10 {brk:Bool} (h:Main Z sb ob hb kb n L0 N0 brk w s) (hr:Ready s):
  w.cell? ⟨sb,12,none⟩=some (.pointer (some ⟨ob,0,none⟩))∧Calls Tryz.prog 144 #[.pointer (some ⟨ob,0,none⟩)] w fun e w'=>e=.returned (.tuple #[])∧Chg Z w w'∧∃ s',Main Z sb ob hb kb n L0 N0 brk w' s'∧Ready s'∧s'.tr=s.tr∧s'.ch=s.ch∧s'.k=s.k∧s'.m=s.m∧s'.r=s.r∧s'.lc=s.lc∧s'.mo=s.mo:=by
 refine ⟨?_,(age_any h.tri.duo.ord).mono ?_⟩
 ·have:=(h.tri.duo.sol.head 12 (by omega)).1
  rw [h.tri.duo.f12] at this;exact this
 ·rintro e w' ⟨rfl,hc,ho⟩
  obtain ⟨t1,t2⟩:=h.tri.stepO ho hc
  exact ⟨rfl,t2,{ s with Ro:=(fun g=>zz s.Ro w g∧g < w'.heap.size),Rd:=(fun g=>zz s.Rd w g∧g < w'.heap.size) },{ h with tri:=t1 },hr,rfl,rfl,rfl,rfl,rfl,rfl,rfl⟩
end So
end Go.Proofs.YtceahffmenbibaaGreatDoor
namespace Go.Proofs.YtceahffmenbibaaGreatDoor
namespace So
open Go Go.RowKit Go.Deep Rd
variable {Z:Nat→Prop} {sb ob hb kb n:Nat} {L0:List Cl} {N0:Nat} {w0 w w':World} {s:St}
theorem belowN (w:World) (j:Nat):Below w.heap.size w (w.drewN j):=⟨rfl,rfl,rfl,Nat.le_refl _,fun _ _=>rfl⟩
def Forgets (Z:Nat→Prop) (sb ob hb kb n:Nat) (L0:List Cl) (N0:Nat) (Q:St→Prop):Prop:=
 ∀ w s,Main Z sb ob hb kb n L0 N0 false w s→Ready s→Q s→Calls Tryz.prog 145 #[.pointer (some ⟨sb,0,none⟩)] w fun e w'=>e=.returned .nilIface∧Chg Z w w'∧∃ s',Main Z sb ob hb kb n L0 N0 false w' s'∧Ready s'∧s'.k=s.k∧s'.m=s.m∧s'.r=s.r∧(s.lc ≤ s.mo→s'.mo=s.mo)
set_option maxHeartbeats 2000000 in
set_option maxRecDepth 100000 in
theorem forget_small:Forgets Z sb ob hb kb n L0 N0 (fun s=>s.lc ≤ s.mo∧s.mo ≤ 4611686018427387904):=fun w s h hr ⟨hq,hq2⟩=>by
 have c3:=(h.tri.duo.sol.head 3 (by omega)).1
 have c18:=(h.tri.duo.sol.head 18 (by omega)).1
 rw [h.f3] at c3
 rw [h.f18] at c18
 have F:Hid (∀ j,Main Z sb ob hb kb n L0 N0 false (w.drewN j) s∧Chg Z w (w.drewN j)):=fun j=>⟨h.later (belowN w j),Chg.of_below (belowN w j)⟩
 have le:(s.lc:Int) ≤ (s.mo:Int):=by omega
 clear h
 go_enter Tryz.func145,Tryz.ntmps145
 go_upto_region 1 with fail
 go_quiet (fail)
 go_wp2
 go_ret
 exact ⟨rfl,(unhide F _).2,s,(unhide F _).1,hr,rfl,rfl,rfl,by intros;rfl⟩
set_option maxHeartbeats 4000000 in
set_option maxRecDepth 100000 in
theorem learn_any {Q:St→Prop} (h:Main Z sb ob hb kb n L0 N0 false w s) (hn:n ≤ 50) (hN:(enc s.cs).length ≤ 549755813888) (hm:s.m ≤ 8589934592) (hr:s.r ≤ 134217727) {k:Nat} (hk:k < s.cs.length) (hkk:(s.cs[k]).kind ≠ 2) (hd:0 < s.ch.length) (hf:∀ y ∈ (s.cs[k]).lits,op y ∈ s.tr) {y0:Nat} (hy0:y0 ∈ (s.cs[k]).lits) (hl0:s.lev (y0 / 2)=s.ch.length)
  (FG:Forgets Z sb ob hb kb n L0 N0 Q) (hQ:∀ s',s'.k=s.k + 1→s'.m=s.m + 1→s'.r=s.r→s'.lc=s.lc + 1→s'.mo=s.mo→Q s'):
  Calls Tryz.prog 101 #[.pointer (some ⟨sb,0,none⟩),.int .i64 ((adr s.cs k:Nat):Int)] w fun e w'=>e=.returned .nilIface∧Chg Z w w'∧∃ s',Main Z sb ob hb kb n L0 N0 false w' s'∧Ready s'∧s'.k=s.k + 1∧s'.m=s.m + 1∧s'.r=s.r∧(s.lc + 1 ≤ s.mo→s'.mo=s.mo):=by
 obtain ⟨c21,z21,Rs1,Rd1,M1⟩:=h.lea1
 have hlub:Lb.lub s.r s.r ≤ 134217727:=by
  rcases Nat.eq_zero_or_pos s.r with e | e
  ·rw [e];simp [Lb.lub]
  ·exact Nat.le_trans (lub_le s.r s.r e (by omega)) (by omega)
 have hkm:=h.km
 have QE:=hide (fun wx Rs Rd (M:Mid Z sb ob hb kb n w s (linesT s.ls) wx s.cs (upd s.f 21 (.int .i64 (((50 * Lb.lub s.r s.r:Nat):Int) - ((s.k:Nat):Int) - 1))) s.V s.X Rs s.Ro Rd s.Rk)=>lea2 h hn hN hk hd hf hy0 hl0 M)
 have QS:=hide (fun wx (M:Lea2 Z sb ob hb kb n w s (s.cs[k]).lits hd wx)=>lea3 h hn hN M)
 have QP:=hide (fun wx (M:Lea3 Z sb ob hb kb n w s (s.cs[k]).lits hd wx)=>lea4 h hn hk hkk hf M)
 have HD:=hide (fun wx x ks d l (M:Lea4 Z sb ob hb kb n w s x ks d l wx)=>M.head)
 have QA:=hide (fun wx x ks d (M:Lea4 Z sb ob hb kb n w s x ks d (linesT s.ls) wx) v hv=>lea5 h hn hm M (v:=v) hv)
 have QB:=hide (fun wx x ks d (M:Lea4 Z sb ob hb kb n w s x ks d (linesT (s.ls ++ [(false,x :: ks)])) wx) v hv=>lea6 h hn M (v:=v) hv)
 have QC:=hide (fun wx x ks d v (M:Lea6E Z sb ob hb kb n w s x ks d v wx)=>lea7 h hn hN hm M)
 have QW:=hide (fun wx x q r d v (M:Lea7E Z sb ob hb kb n w s x (q :: r) d v wx)=>lea8 h hn hN M)
 have QG:=hide (fun wx x ks d v (M:Lea8E Z sb ob hb kb n w s x ks d v wx)=>lea9 h hn hk hkk hf M)
 have N0':=hide (fun wx x d v (M:Lea7E Z sb ob hb kb n w s x [] d v wx)=>lea8_no M)
 have QO:=hide (fun wx s' (hm':Main Z sb ob hb kb n L0 N0 false wx s') (hr':Ready s')=>lea10 hm' hr')
 have QF:=hide (fun wx s' (hm':Main Z sb ob hb kb n L0 N0 false wx s') (hr':Ready s') a b c d e=>FG wx s' hm' hr' (hQ s' a b c d e))
 have hkb:(s.k:Int) ≤ 8589934592:=by omega
 have hlb:((50 * Lb.lub s.r s.r:Nat):Int) ≤ 6710886350:=by omega
 have hl0':(0:Int) ≤ ((50 * Lb.lub s.r s.r:Nat):Int):=by omega
 have hk0:(0:Int) ≤ (s.k:Int):=by omega
 obtain ⟨left,hleft⟩:∃ left:Int,left=((50 * Lb.lub s.r s.r:Nat):Int) - ((s.k:Nat):Int):=⟨_,rfl⟩
 rw [← hleft] at c21 M1 QE
 have lb1:left ≤ 6710886350:=by omega
 have lb2:-8589934592 ≤ left:=by omega
 have HM1:=hide M1
 clear M1 h hf hy0 hl0 hleft hkm hlub hkb hlb hl0' hk0 FG hQ hN hm
 go_enter Tryz.func101,Tryz.ntmps101
 go_upto_region 2 with fail
 generalize hW1:w.setCell ⟨sb,21,none⟩ (.int .i64 (left - 1))=W1 at HM1 ⊢
 clear hW1 c21 z21
 go_upto_region 3 with (go_at_call 141;refine (unhide QE _ _ _ (unhide HM1)).mono ?_;rintro e2 w2 ⟨rfl,m2⟩;have M2:=hide m2;clear m2;simp only [])
 clear QE HM1
 go_upto_region 4 with (go_at_call 142;refine (unhide QS _ (unhide M2)).mono ?_;rintro e3 w3 ⟨rfl,m3⟩;have M3:=hide m3;clear m3;simp only [])
 clear QS M2
 go_upto_region 5 with (go_at_call 143;refine (unhide QP _ (unhide M3)).mono ?_;rintro e4 w4 ⟨x,ks,d,rfl,m4⟩;have M4:=hide m4;obtain ⟨g7,c7,q15⟩:=unhide HD _ _ _ _ _ m4;clear m4;simp only [])
 clear QP M3 HD
 go_upto_region 7 with (go_at_call 100;refine (unhide QA _ _ _ _ (unhide M4) _ q15).mono ?_;rintro e5 w5 ⟨rfl,m5,q5⟩;have M5:=hide m5;clear m5;simp only [])
 clear QA M4 q15
 go_upto_region 10 with (go_at_call 137;refine (unhide QB _ _ _ _ (unhide M5) _ q5).mono ?_;rintro e6 w6 ⟨rfl,m6⟩;have M6:=hide m6;clear m6;simp only [])
 clear QB M5 q5
 go_upto_region 11 with (go_at_call 132;refine (unhide QC _ _ _ _ _ (unhide M6)).mono ?_;rintro e7 w7 ⟨rfl,m7⟩;have M7:=hide m7;clear m7;simp only [])
 clear QC M6
 have TAIL:Hid (∀ w8,Lea8E Z sb ob hb kb n w s x ks d (.slice (some ⟨g7,0,none⟩) (ks.length + 1) c7) w8→w8.cell? ⟨g7,0,none⟩=some (.int .i64 ((x:Nat):Int))∧∀ wx,Below w8.heap.size w8 wx→Calls Tryz.prog 136 #[.pointer (some ⟨sb,6,none⟩),.int .i64 ((x:Nat):Int),.int .i64 (((enc s.cs).length:Nat):Int)] wx fun e w'=>e=.returned (.tuple #[])∧Chg Z w w'∧∃ s',Main Z sb ob hb kb n L0 N0 false w' s'∧Ready s'∧Learnt s s'):=fun w8 m8=>by
  obtain ⟨⟨g,c,hv,c0⟩,hq⟩:=unhide QG _ _ _ _ _ m8
  obtain ⟨y1,_,_⟩:=Value.slice.inj hv
  obtain rfl:g7=g:=by have:=Option.some.inj y1;exact congrArg Addr.block this
  exact ⟨c0,hq⟩
 clear QG
 cases ks with
 | nil=>
  have M8:=hide (unhide N0' _ _ _ _ (unhide M7))
  obtain ⟨c0,qas⟩:=unhide TAIL _ (unhide M8)
  have QAS:=hide qas
  clear QW N0' M7 M8 TAIL qas
  go_upto_region 13 with fail
  go_region_with (go_at_call 136;refine (unhide QAS _ (by first | exact Below.refl _ _ | exact (Below.refl _ _).drew)).mono ?_;rintro e9 w9 ⟨rfl,hc9,s9,hm9,hr9,hl9⟩;have C9:=hide hc9;have M9:=hide hm9;have R9:=hide hr9;have L9:=hide hl9;obtain ⟨q12,qo⟩:=unhide QO _ _ hm9 hr9;have QOO:=hide qo;clear hc9 hm9 hr9 hl9 qo;simp only [])
  all_goals
   go_wp2_with (first | (go_at_call 144;refine (unhide QOO).mono ?_;rintro eA wA ⟨rfl,hcA,sA,hmA,hrA,-,-,ka,ma,ra,la,oa⟩;have CA:=hide hcA;have QFF:=hide (unhide QF wA sA hmA hrA (ka.trans (unhide L9).k) (ma.trans (unhide L9).m) (ra.trans (unhide L9).r) (la.trans (unhide L9).lc) (oa.trans (unhide L9).mo));have KA:=hide ka;have MA:=hide ma;have RA:=hide ra;have LA:=hide la;have OA:=hide oa;clear hcA hmA hrA ka ma ra la oa;simp only []) | (go_at_call 145;refine (unhide QFF).mono ?_;rintro eB wB ⟨rfl,hcB,sB,hmB,hrB,kb',mb,rb,ob'⟩;have CB:=hide hcB;have MB:=hide hmB;have RB:=hide hrB;have FB:Hid (sB.k=s.k + 1∧sB.m=s.m + 1∧sB.r=s.r∧(s.lc + 1 ≤ s.mo→sB.mo=s.mo)):=⟨kb'.trans ((unhide KA).trans (unhide L9).k),mb.trans ((unhide MA).trans (unhide L9).m),rb.trans ((unhide RA).trans (unhide L9).r),fun hh=>(ob' (by rw [unhide LA,unhide OA,(unhide L9).lc,(unhide L9).mo];exact hh)).trans ((unhide OA).trans (unhide L9).mo)⟩;clear hcB hmB hrB kb' mb rb ob';simp only []))
   go_ret
   exact ⟨rfl,((unhide C9).trans (unhide CA)).trans (unhide CB),sB,unhide MB,unhide RB,unhide FB⟩
 | cons q r=>
  have rl:(2:Int) ≤ ((r.length + 1 + 1:Nat):Int):=by omega
  go_upto_region 13 with (go_at_call 133;refine (unhide QW _ _ _ _ _ _ (unhide M7)).mono ?_;rintro e8 w8 ⟨rfl,m8⟩;have M8:=hide m8;clear m8;simp only [])
  obtain ⟨c0,qas⟩:=unhide TAIL _ (unhide M8)
  have QAS:=hide qas
  clear QW N0' M7 M8 TAIL qas
  go_region_with (go_at_call 136;refine (unhide QAS _ (by first | exact Below.refl _ _ | exact (Below.refl _ _).drew)).mono ?_;rintro e9 w9 ⟨rfl,hc9,s9,hm9,hr9,hl9⟩;have C9:=hide hc9;have M9:=hide hm9;have R9:=hide hr9;have L9:=hide hl9;obtain ⟨q12,qo⟩:=unhide QO _ _ hm9 hr9;have QOO:=hide qo;clear hc9 hm9 hr9 hl9 qo;simp only [])
  all_goals
   go_wp2_with (first | (go_at_call 144;refine (unhide QOO).mono ?_;rintro eA wA ⟨rfl,hcA,sA,hmA,hrA,-,-,ka,ma,ra,la,oa⟩;have CA:=hide hcA;have QFF:=hide (unhide QF wA sA hmA hrA (ka.trans (unhide L9).k) (ma.trans (unhide L9).m) (ra.trans (unhide L9).r) (la.trans (unhide L9).lc) (oa.trans (unhide L9).mo));have KA:=hide ka;have MA:=hide ma;have RA:=hide ra;have LA:=hide la;have OA:=hide oa;clear hcA hmA hrA ka ma ra la oa;simp only []) | (go_at_call 145;refine (unhide QFF).mono ?_;rintro eB wB ⟨rfl,hcB,sB,hmB,hrB,kb',mb,rb,ob'⟩;have CB:=hide hcB;have MB:=hide hmB;have RB:=hide hrB;have FB:Hid (sB.k=s.k + 1∧sB.m=s.m + 1∧sB.r=s.r∧(s.lc + 1 ≤ s.mo→sB.mo=s.mo)):=⟨kb'.trans ((unhide KA).trans (unhide L9).k),mb.trans ((unhide MA).trans (unhide L9).m),rb.trans ((unhide RA).trans (unhide L9).r),fun hh=>(ob' (by rw [unhide LA,unhide OA,(unhide L9).lc,(unhide L9).mo];exact hh)).trans ((unhide OA).trans (unhide L9).mo)⟩;clear hcB hmB hrB kb' mb rb ob';simp only []))
   go_ret
   exact ⟨rfl,((unhide C9).trans (unhide CA)).trans (unhide CB),sB,unhide MB,unhide RB,unhide FB⟩
end So
end Go.Proofs.YtceahffmenbibaaGreatDoor
