/- Sfgf Sfgw Ssh1 Ssh2. -/
import Derived.Test.YtceahffmenbibaaGreatDoorG45
set_option linter.unusedVariables false
set_option linter.unusedSimpArgs false
set_option maxHeartbeats 4000000
set_option maxRecDepth 100000
namespace Go.Proofs.YtceahffmenbibaaGreatDoor
namespace So
section
open Go Go.RowKit Go.Deep Rd
variable {Z:Nat->Prop} {sb ob hb kb n:Nat} {L0:List Cl} {N0:Nat} {w0 w w':World} {s t:St}
theorem Pp {ids:List Nat} {i k:Nat} (h:Ij Z sb ob hb kb n L0 w0 s ids i w t) (hm:Main Z sb ob hb kb n L0 N0 false w0 s) (hn:n <= 50) (hN:(enc s.cs).length <= 1099511627776) (hsm:s.m <= 137438953472) (hi:i < ids.length)
  (hk:k < s.cs.length) (hk':k < t.cs.length) (e2:ids[i]=aj t.cs k) (hI:qd s.tr s.rea s.cs k) (hl:(t.cs[k]).lits=(s.cs[k]).lits):
  ∃ g c:Nat,(∀ j,Calls Tryz.prog 175 #[.pointer (some ⟨sb,2,none⟩),.int .i64 (ids[i]:Nat)] (w.drewN j) fun e w'=>e=.returned (.slice (some ⟨g,ids[i] + 3,none⟩) (s.cs[k]).lits.length (c - (ids[i] + 3)))/\∃ q,w'=(w.drewN j).drewN q)/\
   ∀ j,Calls Tryz.prog 186 #[.pointer (some ⟨sb,0,none⟩),.slice (some ⟨g,ids[i] + 3,none⟩) (s.cs[k]).lits.length (c - (ids[i] + 3))] (w.drewN j) fun e w'=>e=.returned .nilIface/\Fgl Z sb ob hb kb n w0 s t (s.cs[k]).lits w':=by
 have hlen:=h.del.len;obtain ⟨ln,lt⟩:=h.lits hm hk;obtain ⟨_,_,l2,_⟩:=id hI;have hend:=bA hk';rw [hl] at hend;obtain ⟨g,c,e0,q0,Ef,lg,ng,zg,r0,r1,r2,r3,-⟩:=bV h.aI.duo.aG h.x0 hk';rw [hl] at r0;refine ⟨g,c,fun j=>?_,fun j=>?_⟩
 ·have:=fu sb 2 g (enc t.cs).length c (aj t.cs k) (s.cs[k]).lits.length (w.drewN j) q0 (by omega) (by unfold maxLen;omega) Ef r0
  unfold fV at this;rw [if_neg (by omega)] at this
  rw [e2];exact this
 ·have hK:=h.aI.duo.aG.hK;have hap:(t.V 12).ownBlock ≠ some g:=by
   have h0:(t.V 0).ownBlock=some g:=by rw [e0];rfl
   rcases h.aI.duo.aG.bC.apart 12 0 (by omega) (by omega) (by decide) with a | a
   ·rw [a];simp
   ·rw [h0] at a;exact a
  have f0:t.f 0=.iface 105 (.pointer (some ⟨kb,0,none⟩)):=(h.ff 0 (by decide) (by decide) (by decide) (by decide) (by decide)).trans hm.f0
  have hpot:=h.uM;refine (Nw (h.aI.later (gN w j)) hn f0 _ (c:=(s.cs[k]).lits) ⟨some ⟨g,ids[i] + 3,none⟩,_,g,ids[i] + 3,rfl,(fun e=>by cases e),fun _=>⟨rfl,lg,ng,hap,fun q hq=>?_⟩⟩ (by omega) lt (by omega)).mono ?_
  ·rw [e2];have:=r3 q (by rw [hl];exact hq)
   simp only [hl] at this;exact this
  ·rintro e w' ⟨rfl,c1,v',X',ko,Rd',Fp,T⟩;exact ⟨rfl,h.bD.trans ((aC.of_below (gN w j)).trans c1),v',X',ko,Rd',Fp,T⟩
theorem Dl.busy {tr:List Nat} {rea:Nat->Int} {cs cs' cs2:List Rec} (h:Dl tr rea cs cs') (hb:bU cs' cs2):Dl tr rea cs cs2:=⟨hb.1.trans h.1,fun k h1 h2=>by
 have h3:k < cs'.length:=by rw [h.1];exact h1
 obtain ⟨a1,a2⟩:=hb.2 k h3 h2;obtain ⟨b1,b2⟩:=h.2 k h1 h3;exact ⟨a2.trans b1,by rw [a1];exact b2⟩⟩
theorem Po {ids:List Nat} {i:Nat} (h:Ij Z sb ob hb kb n L0 w0 s ids i w t) (hN:(enc s.cs).length <= 1099511627776):
  Calls Tryz.prog 188 #[.pointer (some ⟨sb,2,none⟩)] w fun e w'=>e=.returned (.tuple #[])/\∃ t',Ij Z sb ob hb kb n L0 w0 s ids i w' t':=by
 refine (Nh h.aI.duo.aG h.x0 (by rw [h.del.len];omega)).mono ?_
 rintro e w' ⟨rfl,hc,cs',hb',hS⟩;obtain ⟨t1,t2⟩:=h.aI.dH hS hc rfl
 exact ⟨rfl,{ t with cs:=cs',X:=upd t.X 0 (ints (enc cs')),Rs:=(fun g=>zz t.Rs w g/\g < w'.heap.size),Rd:=(fun g=>zz t.Rd w g/\g < w'.heap.size) },{
  aI:=t1
  bD:=h.bD.trans t2
  x0:=ae t.X 0 _
  x8:=(aa (k:=0) (j:=8) t.X (ints (enc cs')) (by decide)).trans h.x8
  xs:=fun j a1 a2 a3=>(aa _ _ a1).trans (h.xs j a1 a2 a3)
  vs:=h.vs
  ff:=h.ff
  f3:=h.f3
  f4:=h.f4
  f18:=h.f18
  del:=h.del.busy hb'
  Yc:=fun k a1 a2 a3=>h.Yc k a1 (by rw [<- hb'.1];exact a2) (by
   have:=(hb'.2 k (by rw [<- hb'.1];exact a2) a2).1
   rw [<- this];exact a3)
  lines:=h.lines
  wK:=h.wK
  qG:=by rw [hb'.kz];exact h.qG
  uM:=by show (bJ t.ls).length + 125 * eQ cs' <= _;rw [hb'.cnt.1];exact h.uM
  cnt:=by show t.lc=eQ cs';rw [hb'.cnt.1];exact h.cnt
  uJ:=by show t.ws=fE cs';rw [hb'.cnt.2];exact h.uJ
  XY:=h.XY }⟩
theorem VD {tr:List Nat}:∀ x ∈ tr,0 < tv tr x:=fun x hx=>by unfold tv;rw [if_pos hx];decide
theorem Dn {l:List Nat} {N:Nat} (h:l.Nodup) (hl:∀ x ∈ l,x < N):l.length <= N:=by
 have h2:l ⊆ List.range N:=fun x hx=>List.mem_range.2 (hl x hx)
 have:=h.length_le_of_subset h2;simpa using this
theorem Eu {ids:List Nat} {i:Nat} (h:Ij Z sb ob hb kb n L0 w0 s ids i w t) (hm:Main Z sb ob hb kb n L0 N0 false w0 s) (hr:Ready s) (hn:n <= 50) (hn0:0 < n) (hN:(enc s.cs).length <= 1099511627776):
  Calls Tryz.prog 189 #[.pointer (some ⟨sb,0,none⟩)] w fun e w'=>e=.returned (.tuple #[])/\aC Z w0 w'/\∃ s',Main Z sb ob hb kb n L0 N0 false w' s'/\Ready s'/\s'.k=s.k/\s'.m=s.m/\s'.r=s.r/\s'.mo=s.mo + 100/\s'.ch=s.ch:=by
 have hlen:=h.del.len;have Zv:=h.del.delC;have hW:jm n t.V t.X s.wl:=hm.dL.congr (h.xs 9 (by decide) (by decide) (by decide)) (fun x _=>h.vs _ (by omega) (by omega)) (fun x _=>h.xs _ (by omega) (by omega) (by omega))
 have hmem:∀ x,x < 2 * n->∀ a ∈ s.wl x,∃ k,∃ hk:k < s.cs.length,a=aj s.cs k:=fun x hx a ha=>by
  obtain ⟨c,⟨g1,_⟩,_⟩:=hm.pi.kT.lists x hx a ha;obtain ⟨k,hk,e,_⟩:=aN g1;exact ⟨k,hk,e⟩
 refine (Cj h.aI.duo.aG h.x0 (by omega) hW rfl hn hn0 (fun x hx a ha=>?_) (fun x hx=>?_)).mono ?_
 ·obtain ⟨k,hk,e⟩:=hmem x hx a ha;exact ⟨k,by rw [h.del.1];exact hk,by rw [h.del.aj k (by omega)];exact e⟩
 ·refine Nat.le_trans (Dn (hm.pi.kT.nodup x hx) (N:=(enc s.cs).length) fun a ha=>?_) (by omega)
  obtain ⟨k,hk,rfl⟩:=hmem x hx a ha;have:=bA hk;omega
 ·rintro e w' ⟨rfl,hc,V',X',hS,hW',hO⟩;obtain ⟨t1,t2⟩:=h.aI.dH hS hc rfl;have xx:∀ j,j ≠ 0->j ≠ 8->j ≠ 9->j ≠ 12->j < 16->X' j=s.X j:=fun j a1 a2 a3 a4 a5=>(hO j a3 a5).trans (h.xs j a1 a2 a4)
  have fx:∀ j,j ≠ 1->j ≠ 3->j ≠ 4->j ≠ 18->j ≠ 19->t.f j=s.f j:=h.ff
  refine ⟨rfl,h.bD.trans t2,{ s with cs:=t.cs,wl:=fun x=>Df.nG (jk t.cs) (s.wl x),f:=t.f,V:=V',X:=X',ls:=t.ls,L:=t.L,lc:=t.lc,ws:=t.ws,mo:=s.mo + 100,Rs:=(fun g=>zz t.Rs w g/\g < w'.heap.size),Rd:=(fun g=>zz t.Rd w g/\g < w'.heap.size),Rk:=t.Rk },{
   aI:=t1
   pi:={
    aI:=hm.pi.aI
    lK:=hm.pi.lK.del Zv (h.del.keeps VD)
    jc:=hm.pi.jc.del Zv
    kT:=hm.pi.kT.del Zv (fun x hx=>by
     show Df.nG (jk t.cs) (s.wl x)=_
     unfold Df.nG;refine List.filter_congr fun a ha=>?_
     unfold jk
     cases hq:mapOf t.cs a with
     | none=>simp
     | some d=>by_cases hd:d.kind=2 <;> simp [hd]) hm.pi.jc
    uo:=hm.pi.uo.del Zv }
   x0:=(hO 0 (by decide) (by decide)).trans h.x0
   dx:=hm.dx.congr fun j a1 a2=>xx j (by omega) (by omega) (by omega) (by omega) (by omega)
   dL:=hW'
   lam:=hm.lam.congr (xx 6 (by decide) (by decide) (by decide) (by decide) (by decide))
   n10:=by show (X' 10).length=n;rw [xx 10 (by decide) (by decide) (by decide) (by decide) (by decide)];exact hm.n10
   lD:=by
    obtain ⟨fol,hf⟩:=hm.lD;exact ⟨fol,hf.congr (xx 11 (by decide) (by decide) (by decide) (by decide) (by decide))⟩
   f0:=(fx 0 (by decide) (by decide) (by decide) (by decide) (by decide)).trans hm.f0
   f3:=h.f3
   f4:=h.f4
   f7:=(fx 7 (by decide) (by decide) (by decide) (by decide) (by decide)).trans hm.f7
   f14:=(fx 14 (by decide) (by decide) (by decide) (by decide) (by decide)).trans hm.f14
   f18:=h.f18
   f20:=(fx 20 (by decide) (by decide) (by decide) (by decide) (by decide)).trans hm.f20
   f21:=(fx 21 (by decide) (by decide) (by decide) (by decide) (by decide)).trans hm.f21
   ze:=hm.ze
   late:=hm.late
   nH:=hm.nH
   yf:=fun hb a c a1 a2 a3=>hm.yf hb a c (Zv.back a1 a2) a2 a3
   bad:=fun e=>by cases e
   lines:=h.lines
   wK:=h.wK
   qG:=h.qG
   Cc:=h.del.given hm.Cc
   num:=by show (enc t.cs).length <= _;rw [hlen];exact hm.num
   uM:=h.uM
   cnt:=h.cnt
   uJ:=h.uJ
   dI:=hm.dI
   lcm:=Nat.le_trans h.XY hm.lcm
   km:=hm.km
   n30:=hm.n30 },hr,rfl,rfl,rfl,rfl,rfl⟩
end
section
open Go Go.RowKit Go.Deep Rd
variable {Z:Nat->Prop} {sb ob hb kb n:Nat} {L0:List Cl} {N0:Nat} {w0 w w':World} {s t:St}
def xP (Z:Nat->Prop) (sb ob hb kb n:Nat) (L0:List Cl) (N0:Nat):Prop:=
 ∀ w s,Main Z sb ob hb kb n L0 N0 false w s->Ready s->0 < s.ws->(enc s.cs).length <= 1099511627776->Calls Tryz.prog 190 #[.pointer (some ⟨sb,0,none⟩)] w fun e w'=>e=.returned (.tuple #[])/\aC Z w w'/\∃ s',Main Z sb ob hb kb n L0 N0 false w' s'/\Ready s'/\s'.k=s.k/\s'.m=s.m/\s'.r=s.r/\s'.mo=s.mo/\s'.ch=s.ch
def XJ (Z:Nat->Prop) (sb ob hb kb n:Nat) (L0:List Cl) (N0:Nat) (w:World) (s:St) (w':World):Prop:=
 aC Z w w'/\∃ s',Main Z sb ob hb kb n L0 N0 false w' s'/\Ready s'/\s'.k=s.k/\s'.m=s.m/\s'.r=s.r/\s'.mo=s.mo + 100/\s'.ch=s.ch
def Half (Z:Nat->Prop) (sb ob hb kb n:Nat) (L0:List Cl) (w0:World) (s:St) (ids:List Nat) (v:Value) (i:Nat) (w:World):Prop:=∃ t,Ij Z sb ob hb kb n L0 w0 s ids i w t/\t.f 19=v
theorem Half.later {ids:List Nat} {v:Value} {i:Nat} (h:Half Z sb ob hb kb n L0 w0 s ids v i w) (hb':Below w.heap.size w w'):Half Z sb ob hb kb n L0 w0 s ids v i w':=by
 obtain ⟨t,h,e⟩:=h;exact ⟨t,h.later hb',e⟩
theorem Half.idle {ids:List Nat} {v:Value} {i:Nat} (h:Half Z sb ob hb kb n L0 w0 s ids v i w):w.cell? ⟨sb,19,none⟩=some v/\((v=.slice none 0 0/\ids.length=0)\/∃ g c,v=.slice (some ⟨g,0,none⟩) ids.length c/\ids.length <= c):=by
 obtain ⟨t,h,e⟩:=h;have hK:=h.aI.duo.aG.hK;have hd:=(h.aI.duo.aG.hd (k:=8) (by omega)).1
 have e8:=h.aI.duo.aG.hdr 8 (by omega)
 rw [show cellOf 8=19 from rfl] at hd e8
 rw [<- e8,e] at hd;have o:=h.aI.duo.aG.bC.own 8 (by omega)
 rw [h.x8,ag,<- e8,e] at o;refine ⟨hd,?_⟩
 rcases o.2 with ⟨e,hl0⟩ | ⟨g,c,cur,e,_,hg,h1,h2,h3,h4⟩
 ·exact .inl ⟨e,hl0⟩
 ·exact .inr ⟨g,c,e,h1⟩
theorem Half.at {ids:List Nat} {g c i:Nat} (h:Half Z sb ob hb kb n L0 w0 s ids (.slice (some ⟨g,0,none⟩) ids.length c) i w):∀ j (hj:j < ids.length),w.cell? ⟨g,j,none⟩=some (.int .i64 (ids[j]:Nat)):=fun j hj=>by
 obtain ⟨t,h,e⟩:=h;have hK:=h.aI.duo.aG.hK;have e8:=h.aI.duo.aG.hdr 8 (by omega)
 rw [show cellOf 8=19 from rfl] at e8
 have o:=h.aI.duo.aG.bC.own 8 (by omega)
 rw [h.x8,ag,<- e8,e] at o;have:=o.cells (g:=g) rfl j (.int .i64 (ids[j]:Nat)) (by rw [eH ids j hj])
 simpa [Addr.add_lit] using this
theorem Em (h:Main Z sb ob hb kb n L0 N0 false w s) (hn:n <= 50) (hN:(enc s.cs).length <= 1099511627776):
  Calls Tryz.prog 185 #[.pointer (some ⟨sb,0,none⟩)] (w.setCell ⟨sb,18,none⟩ (.int .i64 ((s.mo + 100:Nat):Int))) fun e w'=>e=.returned (.tuple #[])/\∃ ids v,FH s.tr s.rea s.cs s.cs.length ids/\Half Z sb ob hb kb n L0 w s ids v 0 w':=by
 have S1:=h.aI.duo.aG.scalar 18 (.int .i64 ((s.mo + 100:Nat):Int)) (fun k hk=>by
  match k,hk with
  | 0,_=>decide
  | 1,_=>decide
  | 2,_=>decide
  | 3,_=>decide
  | 4,_=>decide
  | 5,_=>decide
  | 6,_=>decide
  | 7,_=>decide
  | 8,_=>decide
  | 9,_=>decide
  | 10,_=>decide
  | 11,_=>decide
  | 12,_=>decide)
 refine (Bt (n:=n) S1 h.x0 h.dx hn (fun c hc x hx=>?_) (by omega)).mono ?_
 ·obtain ⟨k,hk,rfl⟩:=List.mem_iff_getElem.1 hc;exact h.pi.jc.lt _ _ (aP hk) x hx
 ·rintro e w' ⟨rfl,ids,h1,h2⟩;obtain ⟨t,ht⟩:=Lc h h2;exact ⟨rfl,ids,_,h1,t,ht,rfl⟩
theorem GZ {ids:List Nat} {v:Value} {i:Nat} (hm:Main Z sb ob hb kb n L0 N0 false w0 s) (hn:n <= 50) (hN:(enc s.cs).length <= 1099511627776) (hsm:s.m <= 137438953472) (hI:FH s.tr s.rea s.cs s.cs.length ids) (h:Half Z sb ob hb kb n L0 w0 s ids v i w) (hi:i < ids.length):
  ∃ (u:Value) (P:World->Prop),(∃ a b c,u=.slice a b c)/\(∀ Y,(∃ j,Y=w.drewN j)->Calls Tryz.prog 175 #[.pointer (some ⟨sb,2,none⟩),.int .i64 (ids[i]:Nat)] Y fun e w'=>e=.returned u/\∃ j,w'=w.drewN j)/\
   (∀ Y,(∃ j,Y=w.drewN j)->Calls Tryz.prog 186 #[.pointer (some ⟨sb,0,none⟩),u] Y fun e w'=>e=.returned .nilIface/\P w')/\
   (∀ Y,P Y->∀ j,P (Y.drewN j))/\
   ∀ Y,P Y->Calls Tryz.prog 187 #[.pointer (some ⟨sb,2,none⟩),.int .i64 (ids[i]:Nat)] Y fun e w'=>e=.returned (.tuple #[])/\Half Z sb ob hb kb n L0 w0 s ids v (i + 1) w':=by
 obtain ⟨t,h,e⟩:=h;obtain ⟨k,hk,hk',e1,e2,hc,hkd,hl⟩:=h.next hI hi;obtain ⟨g,c,q1,q2⟩:=Pp h hm hn hN hsm hi hk hk' e2 hc hl;refine ⟨.slice (some ⟨g,ids[i] + 3,none⟩) (s.cs[k]).lits.length (c - (ids[i] + 3)),Fgl Z sb ob hb kb n w0 s t (s.cs[k]).lits,⟨_,_,_,rfl⟩,fun Y ⟨j,hY⟩=>?_,fun Y ⟨j,hY⟩=>?_,fun Y hP j=>?_,fun Y hP=>?_⟩
 ·subst hY;exact (q1 j).mono fun e w' ⟨a,q,b⟩=>⟨a,j + q,by rw [b,World.drewN_drewN]⟩
 ·subst hY;exact q2 j
 ·obtain ⟨c1,v',X',ko,Rd',Fp,T⟩:=hP;exact ⟨c1.trans (aC.of_below (gN Y j)),v',X',ko,Rd',Fp,T.later (gN Y j)⟩
 ·refine (Hd h hm hn hN (by omega) hi hk hk' e1 e2 hc hkd hl hP).mono ?_
  rintro e' w' ⟨rfl,t',ht,e19⟩;exact ⟨rfl,t',ht,e19.trans e⟩
theorem Ab:∀ cs:List Rec,fE cs <= (enc cs).length
 | []=>Nat.le_refl _
 | c :: r=>by
  have ih:=Ab r;have e:(enc (c :: r)).length=(3 + c.lits.length) + (enc r).length:=by simp [enc,dh]
  have e':fE (c :: r)=(if c.kind=2 then 3 + c.lits.length else 0) + fE r:=by unfold fE;rw [List.map_cons,List.sum_cons]
  rw [e,e'];split <;> omega
theorem El (SH:xP Z sb ob hb kb n L0 N0) (h:Main Z sb ob hb kb n L0 N0 false w s) (hr:Ready s) (hn:n <= 50) (hn0:0 < n) (hNm:N0 + 33 * s.m <= 1099511627776) (hsm:s.m <= 137438953472) (hmo:s.mo <= 4611686018427387904) (hlc:s.mo < s.lc):
  Calls Tryz.prog 145 #[.pointer (some ⟨sb,0,none⟩)] w fun e w'=>e=.returned .nilIface/\XJ Z sb ob hb kb n L0 N0 w s w':=by
 have hN:(enc s.cs).length <= 1099511627776:=Nat.le_trans h.num hNm;have c3:=(h.aI.duo.aG.head 3 (by omega)).1
 have c18:=(h.aI.duo.aG.head 18 (by omega)).1
 rw [h.f3] at c3;rw [h.f18] at c18;have HM:=hide h;have HR:=hide hr;have HSH:=hide SH;have le:¬ (s.lc:Int) <= (s.mo:Int):=by omega
 clear h hr SH;go_enter Tryz.func145,Tryz.ntmps145
 go_upto_region 1 with fail
 go_quiet (fail)
 have BN:=hide (HM.out.later (gN w nq));have HW:=hide (gN w nq);have z18:=(BN.out.aI.duo.aG.head 18 (by omega)).2
 have ZT:=(BN.out.aI.duo.aG.head 18 (by omega)).1
 rw [BN.out.f18] at ZT;clear c3 c18 HM;generalize w.drewN nq=w1 at *
 have Q1:=hide (Em BN.out hn hN);obtain ⟨M,hM⟩:∃ M,M=s.mo + 100:=⟨_,rfl⟩;have e100:(s.mo:Int) + 100=(M:Int):=by omega
 rw [<- hM] at Q1;clear hM;go_upto_region 5 with (go_at_call 185;(with_reducible refine Q1.out.mono ?_);rintro e2 w2 ⟨rfl,ids,v,hI,hh⟩;have HI:=hide hI;have HH:=hide hh;clear hI hh Q1;simp only [])
 clear z18 ZT e100;go_cut [35,36,37] from 16 to 37 (fun a b c wx=>∃ (av:Option Addr) (cp:Nat),a=.slice av (ids.length / 2) cp/\b=.int .i64 ((ids.length / 2:Nat):Int)/\c=.int .i64 0/\(0 < ids.length / 2->∃ g c,av=some ⟨g,0,none⟩/\v=.slice (some ⟨g,0,none⟩) ids.length c)/\Half Z sb ob hb kb n L0 w1 s ids v 0 wx)
 case first=>
  obtain ⟨d19,hv⟩:=HH.out.idle;have e2:((ids.length:Nat):Int) / 2=((ids.length / 2:Nat):Int):=by omega
  rcases hv with ⟨rfl,hl0⟩ | ⟨g,c,rfl,hlc⟩
  ·go_quiet (fail)
   have F:=hide (HH.out.later (gN w2 nq));go_wp2;go_meet;exact ⟨none,0,by rw [hl0],by rw [hl0];rfl,rfl,fun hp=>by omega,F.out⟩
  ·obtain ⟨N,I7⟩:∃ N,N=ids.length / 2:=⟨_,rfl⟩;rw [<- I7] at e2;have hle:(N:Int) <= (c:Int):=by omega
   have hil:(ids.length:Int) <= 1099511627776:=by
    have:=HI.out.len (Nat.le_refl _);omega
   have XF:=hide I7;clear I7;go_quiet (fail)
   have F:=hide (HH.out.later (gN w2 nq));go_wp2;go_meet;exact ⟨some ⟨g,0,none⟩,c,by rw [<- XF.out],by rw [<- XF.out],rfl,fun _=>⟨g,c,rfl,rfl⟩,F.out⟩
 case rest=>
  obtain ⟨av,cp,rfl,rfl,rfl,hav,hH0⟩:=hcut;have HAV:=hide hav;have H0:=hide hH0;clear hav hH0 HH;obtain ⟨N,I7⟩:∃ N,N=ids.length / 2:=⟨_,rfl⟩;have hNl:N <= ids.length:=by omega
  have hN1:N <= 1099511627776:=by
   have:=HI.out.len (Nat.le_refl _);omega
  rw [<- I7] at HAV ⊢;have XF:=hide I7;clear I7;go_wp2;go_loopw [37] (fun iv wr=>∃ i:Nat,iv=.int .i64 ((i:Nat):Int)/\i <= N/\Hid (Half Z sb ob hb kb n L0 w1 s ids v i wr)) (fun iv _=>N - (intOf iv).toNat)
  case atStart=>exact ⟨0,rfl,Nat.zero_le _,H0⟩
  case round=>
   clear H0;obtain ⟨i,rfl,hiN,hst⟩:=hrel;by_cases hlt:i < N
   ·have WM:(i:Int) < (N:Int):=by omega
    obtain ⟨g,c,rfl,rfl⟩:=HAV.out (by omega)
    have hil:i < ids.length:=by omega
    have ci:=hst.out.at i hil;obtain ⟨u,P,⟨ua,ub,uc,rfl⟩,q1,q2,q3,q4⟩:=GZ BN.out hn hN hsm HI.out hst.out hil;have QL:=hide q1;have QP:=hide q2;have QW:=hide q3;have QD:=hide q4;clear q1 q2 q3 q4 hst;generalize ids[i]=x at *
    go_upto_region 8 with fail
    go_cut [5,37] from 37 to 58 (fun ev iv wx=>ev=.nilIface/\iv=.int .i64 ((i:Nat):Int)/\P wx)
    case first=>
     go_region_with (first
      |(go_at_call 175;refine (QL.out _ (by first | exact ⟨0,rfl⟩ | exact ⟨1,rfl⟩)).mono ?_;rintro e3 w3 ⟨rfl,j3,rfl⟩;simp only [])
      |(go_at_call 186;refine (QP.out _ ⟨_,rfl⟩).mono ?_;rintro e4 w4 ⟨rfl,hp4⟩;have P4:=hide hp4;clear hp4;simp only []))
     all_goals
      go_wp2_with fail
      go_meet
      exact ⟨rfl,rfl,(by first | exact P4.out | exact QW.out _ P4.out 1)⟩
    case rest=>
     obtain ⟨rfl,rfl,hp⟩:=hcut;have Z9:=hide (QD.out _ hp);clear QD QL QP QW hp;go_wp2_with (go_at_call 187;(with_reducible refine Z9.out.mono ?_);rintro e5 w5 ⟨rfl,h5⟩;have H5:=hide h5;clear h5 Z9;simp only [])
     go_roundw
     case rel=>exact ⟨i + 1,by go_num,by omega,H5⟩
     case measure=>simp [intOf];omega
   ·have WM:¬ (i:Int) < (N:Int):=by omega
    obtain ⟨t,ht,_⟩:=hst.out;have QR:=hide (Po ht hN);clear hst ht HAV XF;go_upto_region 14 with (go_at_call 188;(with_reducible refine QR.out.mono ?_);rintro e6 w6 ⟨rfl,t6,h6⟩;have H6:=hide h6;clear h6 QR;simp only [])
    have QU:=hide (Eu H6.out BN.out HR.out hn hn0 hN);clear H6;go_upto_region 15 with (go_at_call 189;(with_reducible refine QU.out.mono ?_);rintro e7 w7 ⟨rfl,c7,s7,m7,r7,k7⟩;have C7:=hide c7;have M7:=hide m7;have R7:=hide r7;have K7:=hide k7;clear c7 m7 r7 k7 QU;simp only [])
    have d4:=(M7.out.aI.duo.aG.head 4 (by omega)).1
    rw [M7.out.f4] at d4;obtain ⟨a0,c0,e0⟩:=M7.out.aI.duo.aG.bC.shape (k:=0) (by omega)
    have d2:=(M7.out.aI.duo.aG.hd (k:=0) (by omega)).1
    rw [show cellOf 0=2 from rfl,e0,M7.out.x0,cZ] at d2
    have hN7:(enc s7.cs).length <= 1099511627776:=by
     have:=M7.out.num;rw [K7.out.2.1] at this;omega
    have hw7:s7.ws <= 4611686018427387904:=by
     rw [M7.out.uJ];exact Nat.le_trans (Ab _) (by omega)
    clear e0;go_quiet (fail)
    have M8:=hide (M7.out.later (gN w7 nq));have C8:=hide (((aC.of_below HW.out).trans C7.out).trans (aC.of_below (Z:=Z) (gN w7 nq)));clear M7 C7 d4 d2;generalize w7.drewN nq=w8 at *
    have QS:=hide (fun hq=>HSH.out w8 s7 M8.out R7.out hq hN7)
    generalize (enc s7.cs).length=N7 at *
    by_cases hw:(N7:Int) / 2 < (s7.ws:Int)
    ·clear M8;go_wp2_with (go_at_call 190;(with_reducible refine (QS.out (by omega)).mono ?_);rintro e9 w9 ⟨rfl,c9,s9,m9,r9,k9⟩;have C9:=hide c9;have M9:=hide (And.intro m9 (And.intro r9 k9));clear c9 m9 r9 k9 QS;simp only [])
     go_ret
     obtain ⟨a1,a2,a3,a4,a5,a6,a7⟩:=M9.out;obtain ⟨b1,b2,b3,b4,b5⟩:=K7.out;exact ⟨rfl,C8.out.trans C9.out,s9,a1,a2,a3.trans b1,a4.trans b2,a5.trans b3,a6.trans b4,a7.trans b5⟩
    ·clear QS;go_wp2;go_ret;exact ⟨rfl,C8.out,s7,M8.out,R7.out,K7.out⟩
theorem G5 (SH:xP Z sb ob hb kb n L0 N0) (hn:n <= 50) (hn0:0 < n):rV Z sb ob hb kb n L0 N0 (fun s=>N0 + 33 * s.m <= 1099511627776/\s.m <= 137438953472/\s.mo <= 4611686018427387904):=fun w s h hr ⟨q1,q2,q3⟩=>by
 by_cases hl:s.lc <= s.mo
 ·exact Bp w s h hr ⟨hl,q3⟩
 ·refine (El SH h hr hn hn0 q1 q2 q3 (by omega)).mono ?_
  rintro e w' ⟨rfl,hc,s',a1,a2,a3,a4,a5,a6,a7⟩;exact ⟨rfl,hc,s',a1,a2,a3,a4,a5,fun hle=>absurd hle hl,by omega,a7⟩
end
section
open Go Go.RowKit Go.Deep Rd
variable {Z:Nat->Prop} {sb K n:Nat} {w w':World} {f V:Nat->Value} {X:Nat->List Value} {cs gD:List Rec}
theorem aQ.keep {G:Nat} (h:aQ Z sb w K f V X) (hc:aC (fun k=>k=G) w w') (hG:G ≠ sb) (hne:∀ k,k < K->(V k).ownBlock ≠ some G):aQ Z sb w' K f V X:=by
 have keep:∀ k,k < w.heap.size->k ≠ G->w'.heap[k]? = w.heap[k]? := fun k hk e=>hc.block k hk e
 refine ⟨h.row.of_block (keep sb h.row.lt (Ne.symm hG)),⟨fun k hk=>?_,h.bC.apart⟩,h.hdr,h.fZ,h.al,fun k hk=>h.az k (Nat.le_trans hc.size hk),h.hK⟩
 exact ownB (h.bC.own k hk) fun g' hg'=>keep g' ((h.bC.own k hk).lt g' hg').2 fun e=>hne k hk (by rw [hg',e])
theorem aQ.W9 {v':Value} {g:Nat} (h:aQ Z sb w K f V X) (hb:Below w.heap.size w w') (ho:w'.ownsRow 0 (iC 0) 1 v' 0 []) (hg:v'.ownBlock=some g) (hn:w.heap.size <= g):aQ Z sb (w'.setCell ⟨sb,2,none⟩ v') K (upd f 2 v') (upd V 0 v') (upd X 0 []):=by
 have hK:=h.hK;have hl:=h.later hb;have WV:oU 0 w' K iC (upd V 0 v') (upd X 0 []):={
  own:=fun k hk=>by
   by_cases e:k=0
   ·subst e;rw [ae,ae];exact ho
   ·rw [aa _ _ e,aa _ _ e];exact hl.bC.own k hk
  apart:=fun k k' hk hk' hne=>by
   have far:∀ j,j < K->(V j).ownBlock ≠ some g:=fun j hj e=>by
    have:=((h.bC.own j hj).lt g e).2;omega
   by_cases e:k=0
   ·subst e;rw [ae,aa _ _ (Ne.symm hne),hg];exact .inr (Ne.symm (far k' hk'))
   ·rw [aa _ _ e];by_cases e':k'=0
    ·subst e';rw [ae,hg];exact .inr (far k hk)
    ·rw [aa _ _ e'];exact hl.bC.apart k k' hk hk' hne }
 have hsb:=h.row.lt;refine hl.header (k:=0) (by omega) hl.row WV rfl (fun i hi g' hg'=>?_) (Nat.le_refl _) (fun i hi g' hg'=>?_)
 ·by_cases e:i=0
  ·subst e;rw [ae,hg] at hg';have:=Option.some.inj hg';omega
  ·rw [aa _ _ e] at hg';exact hl.far hi g' hg'
 ·by_cases e:i=0
  ·subst e;rw [ae,hg] at hg';rw [<- Option.some.inj hg'];exact h.az g hn
  ·rw [aa _ _ e] at hg';exact h.al i hi g' hg'
def iF (cs:List Rec) (k:Nat):List Rec:=(cs.take k).filter fun c=>!decide (c.kind=2)
theorem Ob:iF cs 0=[]:=rfl
theorem Dv {k:Nat} (hk:k < cs.length) (hd:(cs[k]).kind=2):iF cs (k + 1)=iF cs k:=by
 unfold iF;rw [List.take_succ_eq_append_getElem hk,List.filter_append];simp [hd]
theorem wG {k:Nat} (hk:k < cs.length) (hd:(cs[k]).kind ≠ 2):iF cs (k + 1)=iF cs k ++ [cs[k]]:=by
 unfold iF;rw [List.take_succ_eq_append_getElem hk,List.filter_append];simp [hd]
theorem xm (a:List Rec) (c:Rec):enc (a ++ [c])=enc a ++ enc1 c:=by rw [dn];simp [enc]
theorem Bb:∀ k,k <= cs.length->(enc (iF cs k)).length <= aj cs k
 | 0,_=>by rw [Ob,gK];exact Nat.le_refl _
 | k + 1,hk=>by
  have ih:=Bb k (by omega)
  have h1:k < cs.length:=by omega
  rw [dz h1];by_cases hd:(cs[k]).kind=2
  ·rw [Dv h1 hd];omega
  ·rw [wG h1 hd,xm,List.length_append,dh];omega
structure xQ (Z:Nat->Prop) (sb:Nat) (w:World) (K:Nat) (f V:Nat->Value) (X:Nat->List Value) (cs:List Rec) (G C OB:Nat) (k:Nat) (gD:List Rec) (v0:Value) (wr:World):Prop where
 aG:aQ Z sb wr K (upd (upd f 2 v0) 4 (.int .i64 0)) (upd V 0 v0) (upd X 0 (ints (enc (iF cs k))))
 bD:aC Z w wr
 PV:bU cs gD
 Xd:∀ i (h:i < gD.length) (h':i < cs.length),i < k->(cs[i]).kind ≠ 2->(gD[i]).busy=(((enc (iF cs i)).length:Nat):Int)
 not:∀ i (h:i < gD.length) (h':i < cs.length),k <= i->(gD[i]).busy=(cs[i]).busy
 box:wr.cell? ⟨OB,0,none⟩=some (.slice (some ⟨G,0,none⟩) (enc cs).length C)
 old:wr.ownsRow 0 3 1 (.slice (some ⟨G,0,none⟩) (enc cs).length C) (enc cs).length (ints (enc gD))
 gs:G ≠ sb
 os:OB ≠ sb
 go:OB ≠ G
 zg:Z G
 ng:∀ j,j < K->(upd V 0 v0 j).ownBlock ≠ some G
 no:∀ j,j < K->(upd V 0 v0 j).ownBlock ≠ some OB
end
section
open Go Go.RowKit Go.Deep Rd
variable {Z:Nat->Prop} {sb K n:Nat} {w w' wr:World} {f V:Nat->Value} {X:Nat->List Value} {cs gD:List Rec} {G C OB k:Nat} {v0:Value}
theorem Mt {α:Type} (f:Nat->α) {i j:Nat} (h:i ≠ j) (a b:α):upd (upd f i a) j b=upd (upd f j b) i a:=by
 funext x
 unfold upd;by_cases e1:x=i
 ·subst e1;simp [h]
 ·by_cases e2:x=j
  ·subst e2;simp [e1]
  ·simp [e1,e2]
theorem xQ.later (h:xQ Z sb w K f V X cs G C OB k gD v0 wr) (hb:Below wr.heap.size wr w'):xQ Z sb w K f V X cs G C OB k gD v0 w':={ h with
 aG:=h.aG.later hb
 bD:=h.bD.trans (aC.of_below hb)
 box:=by rw [hb.cell (p:=⟨OB,0,none⟩) (block_lt_of_cell h.box)];exact h.box
 old:=ownB h.old fun g hg=>hb.block g (h.old.lt g hg).2 }
theorem xQ.dead (h:xQ Z sb w K f V X cs G C OB k gD v0 wr) (hk:k < cs.length) (hd:(cs[k]).kind=2):xQ Z sb w K f V X cs G C OB (k + 1) gD v0 wr:={ h with
 aG:=by rw [Dv hk hd];exact h.aG
 Xd:=fun i a1 a2 a3 a4=>by
  by_cases e:i=k
  ·subst e;exact absurd hd a4
  ·exact h.Xd i a1 a2 (by omega) a4
 not:=fun i a1 a2 a3=>h.not i a1 a2 (by omega) }
theorem xQ.same (h:xQ Z sb w K f V X cs G C OB k gD v0 wr) (hk:k < cs.length):∃ hk':k < gD.length,gD[k]=cs[k]/\aj gD k=aj cs k:=by
 have hk':k < gD.length:=by rw [h.PV.1];exact hk
 refine ⟨hk',?_,h.PV.aj k (by omega)⟩
 obtain ⟨a1,a2⟩:=h.PV.2 k hk hk';have a3:=h.not k hk' hk (Nat.le_refl _)
 cases ho:gD[k] with
 | mk a b c=>
  cases hc:cs[k] with
  | mk a' b' c'=>
   rw [ho,hc] at a1 a2 a3;simp only at a1 a2 a3;rw [a1,a2,a3]
theorem xQ.at (h:xQ Z sb w K f V X cs G C OB k gD v0 wr) (hk:k < cs.length):∀ j,j < 3 + (cs[k]).lits.length->wr.cell? ⟨G,aj cs k + j,none⟩=(ints (enc1 cs[k]))[j]? := fun j hj=>by
 obtain ⟨hk',e1,e2⟩:=h.same hk;have hend:=bA hk;have c:=h.old.cellAt (aj cs k + j) (by omega)
 rw [c,iR,iR,<- e2,mQ hk' j (by rw [e1];exact hj),e1]
theorem xQ.live {v6:Value} {w6 W:World} (h:xQ Z sb w K f V X cs G C OB k gD v0 wr) (hk:k < cs.length) (hd:(cs[k]).kind ≠ 2)
  (A:aB wr 0 3 1 v0 (enc (iF cs k)).length (ints (enc (iF cs k))) (3 + (cs[k]).lits.length) (ints (enc1 cs[k])) v6 w6) (hW:Below (w6.setCell ⟨sb,2,none⟩ v6).heap.size (w6.setCell ⟨sb,2,none⟩ v6) W):
  xQ Z sb w K f V X cs G C OB (k + 1) (gD.set k ⟨(cs[k]).kind,(((enc (iF cs k)).length:Nat):Int),(cs[k]).lits⟩) v6 (W.setCell ⟨G,aj cs k + 2,none⟩ (.int .i64 (((enc (iF cs k)).length:Nat):Int))):=by
 have hK:=h.aG.hK;obtain ⟨hk',e1,e2⟩:=h.same hk;have hend:=bA hk;have hGl:G < wr.heap.size:=(h.old.lt G rfl).2;have hOl:OB < wr.heap.size:=block_lt_of_cell h.box;have OG:v0.ownBlock ≠ some G:=by have:=h.ng 0 (by omega);rw [ae] at this;exact this
 have TY:v0.ownBlock ≠ some OB:=by have:=h.no 0 (by omega);rw [ae] at this;exact this
 have A':aB wr 0 (iC 0) 1 ((upd V 0 v0) 0) ((upd X 0 (ints (enc (iF cs k)))) 0).length ((upd X 0 (ints (enc (iF cs k)))) 0) (3 + (cs[k]).lits.length) (ints (enc1 cs[k])) v6 w6:=by
  rw [ae,ae,cZ];exact A
 obtain ⟨s1,c1,_⟩:=h.aG.UK (k:=0) (by omega) (by rw [cZ,dh]) A'
 rw [show cellOf 0=2 from rfl,Mt _ (by decide),bE,bE,bE,ae,show ints (enc (iF cs k)) ++ ints (enc1 cs[k])=ints (enc (iF cs (k + 1))) by rw [wG hk hd,xm];simp [ints]] at s1
 have hsz:wr.heap.size <= w6.heap.size:=A.grew.size;have hsz2:w6.heap.size <= W.heap.size:=by have:=hW.size;simp [World.setCell] at this;omega
 have v6G:v6.ownBlock ≠ some G:=fun e=>by
  rcases A.at' with a | a
  ·rw [a] at e;exact OG e
  ·rw [a] at e;have:=Option.some.inj e;omega
 have v6O:v6.ownBlock ≠ some OB:=fun e=>by
  rcases A.at' with a | a
  ·rw [a] at e;exact TY e
  ·rw [a] at e;have:=Option.some.inj e;omega
 have ng':∀ j,j < K->(upd V 0 v6 j).ownBlock ≠ some G:=fun j hj=>by
  by_cases e:j=0
  ·subst e;rw [ae];exact v6G
  ·have:=h.ng j hj;rw [aa _ _ e] at this ⊢;exact this
 have no':∀ j,j < K->(upd V 0 v6 j).ownBlock ≠ some OB:=fun j hj=>by
  by_cases e:j=0
  ·subst e;rw [ae];exact v6O
  ·have:=h.no j hj;rw [aa _ _ e] at this ⊢;exact this
 have blk:∀ g,g < wr.heap.size->g ≠ sb->v0.ownBlock ≠ some g->W.heap[g]? = wr.heap[g]? := fun g hg h1 h2=>by
  rw [hW.block g (by simp [World.setCell];omega),Below.heap_setCell _ _ _ _ (by simpa using h1),A.grew.block g hg (fun e=>h2 e.symm)]
 exact {
  aG:=(s1.later hW).keep (aC.setCell (Z:=fun k=>k=G) (aC.refl W) (show (fun k=>k=G) G from rfl) _) h.gs ng'
  bD:=((h.bD.trans c1).trans (aC.of_below hW)).setCell h.zg _
  PV:=by
   have:=h.PV.trans (bU.set hk' (((enc (iF cs k)).length:Nat):Int));rw [e1] at this;exact this
  Xd:=fun i a1 a2 a3 a4=>by
   by_cases e:k=i
   ·subst e;rw [List.getElem_set_self]
   ·rw [List.getElem_set_ne e];exact h.Xd i (by simpa using a1) a2 (by omega) a4
  not:=fun i a1 a2 a3=>by
   rw [List.getElem_set_ne (by omega)]
   exact h.not i (by simpa using a1) a2 (by omega)
  box:=by
   have hne:OB ≠ G:=h.go;have b1:W.cell? ⟨OB,0,none⟩=wr.cell? ⟨OB,0,none⟩:=by
    unfold World.cell?;simp only [blk OB hOl h.os TY]
   have b2:(W.setCell ⟨G,aj cs k + 2,none⟩ (.int .i64 (((enc (iF cs k)).length:Nat):Int))).cell? ⟨OB,0,none⟩=W.cell? ⟨OB,0,none⟩:=by
    unfold World.cell?;simp only [Below.heap_setCell _ _ _ _ (show OB ≠ (⟨G,aj cs k + 2,none⟩:Addr).block from hne)]
   rw [b2,b1];exact h.box
  old:=by
   have o1:W.ownsRow 0 3 1 (.slice (some ⟨G,0,none⟩) (enc cs).length C) (enc cs).length (ints (enc gD)):=ownB h.old fun g hg=>by
    have e:g=G:=(Option.some.inj hg).symm;subst e;exact blk _ hGl h.gs OG
   have o2:=(o1.stored (aj cs k + 2) (.int .i64 (((enc (iF cs k)).length:Nat):Int))).1;rw [ints_set,<- e2] at o2;have e3:=oC hk' (((enc (iF cs k)).length:Nat):Int);rw [<- e3,e1,e2] at o2;exact o2
  gs:=h.gs
  os:=h.os
  go:=h.go
  zg:=h.zg
  ng:=ng'
  no:=no' }
theorem xQ.Wt (h:xQ Z sb w K f V X cs G C OB k gD v0 wr) {i:Nat} (hi:i < cs.length):wr.cell? ⟨G,aj cs i,none⟩=some (.int .i64 (((cs[i]).lits.length:Nat):Int)):=by
 have hi':i < gD.length:=by rw [h.PV.1];exact hi
 have e2:=h.PV.aj i (by omega)
 obtain ⟨_,a2⟩:=h.PV.2 i hi hi';have hend:=bA hi;have c:=h.old.cellAt (aj cs i) (by omega)
 have e3:=mQ hi' 0 (by omega)
 rw [Nat.add_zero,e2] at e3;rw [c,iR,e3];show some _=_
 rw [a2]
theorem xQ.mid {v6:Value} {w6:World} {m:Nat} {news:List Value} (h:xQ Z sb w K f V X cs G C OB k gD v0 wr) (hk:k < cs.length)
  (A:aB wr 0 3 1 v0 (enc (iF cs k)).length (ints (enc (iF cs k))) m news v6 w6):
  (w6.setCell ⟨sb,2,none⟩ v6).cell? ⟨OB,0,none⟩=some (.slice (some ⟨G,0,none⟩) (enc cs).length C)/\(∃ u,(w6.setCell ⟨sb,2,none⟩ v6).cell? ⟨G,aj cs k + 2,none⟩=some u)/\(w6.setCell ⟨sb,2,none⟩ v6).frozen? ⟨G,aj cs k + 2,none⟩=false/\w6.frozen? ⟨sb,2,none⟩=false/\w6.cell? ⟨sb,2,none⟩=some v0:=by
 have hK:=h.aG.hK;have hend:=bA hk;have hGl:G < wr.heap.size:=(h.old.lt G rfl).2;have hOl:OB < wr.heap.size:=block_lt_of_cell h.box;have OG:v0.ownBlock ≠ some G:=by have:=h.ng 0 (by omega);rw [ae] at this;exact this
 have TY:v0.ownBlock ≠ some OB:=by have:=h.no 0 (by omega);rw [ae] at this;exact this
 have hv0s:v0.ownBlock ≠ some sb:=fun e=>by have:=h.aG.far (k:=0) (by omega) sb (by rw [ae];exact e);exact this rfl
 have blk:∀ g,g < wr.heap.size->g ≠ sb->v0.ownBlock ≠ some g->(w6.setCell ⟨sb,2,none⟩ v6).heap[g]? = wr.heap[g]? := fun g hg h1 h2=>by
  rw [Below.heap_setCell _ _ _ _ (by simpa using h1),A.grew.block g hg (fun e=>h2 e.symm)]
 have bs:w6.heap[sb]? = wr.heap[sb]? := A.grew.block sb h.aG.row.lt (fun e=>hv0s e.symm)
 have hh:=h.aG.head 2 (by omega)
 rw [aa _ _ (by decide),ae] at hh
 refine ⟨?_,?_,?_,?_,?_⟩
 ·rw [World.cell?_of_block (a:=⟨OB,0,none⟩) (blk OB hOl h.os TY)];exact h.box
 ·rw [World.cell?_of_block (a:=⟨G,aj cs k + 2,none⟩) (blk G hGl h.gs OG),h.at hk 2 (by omega)]
  exact ⟨_,rfl⟩
 ·rw [World.frozen?_of_block (a:=⟨G,aj cs k + 2,none⟩) (blk G hGl h.gs OG)];exact h.old.frozenAt _
 ·rw [World.frozen?_of_block (a:=⟨sb,2,none⟩) bs];exact hh.2
 ·rw [World.cell?_of_block (a:=⟨sb,2,none⟩) bs];exact hh.1
end
end So
end Go.Proofs.YtceahffmenbibaaGreatDoor
