/- Sgiv Sgia Sgiw. -/
import Derived.Test.YtceahffmenbibaaGreatDoorG36
import Derived.Test.YtceahffmenbibaaGreatDoorG28
import Derived.Sort.OwnSortedInts
import Derived.Lib.RowBridge
import Derived.Test.YtceahffmenbibaaGreatDoorG11
set_option linter.unusedVariables false
set_option linter.unusedSimpArgs false
set_option maxHeartbeats 4000000
set_option maxRecDepth 100000
namespace Go.Proofs.YtceahffmenbibaaGreatDoor
namespace So
section
open Go Go.RowKit Go.Deep Rd
variable {Z:Nat->Prop} {sb ob hb kb n:Nat} {L0:List Cl} {N0:Nat} {brk:Bool} {w w':World} {s:St}
def Num (w:World) (g:Nat) (zs:List Int):Prop:=∀ j (h:j < zs.length),w.cell? ⟨g,j,none⟩=some (.int .i64 zs[j])/\w.frozen? ⟨g,j,none⟩=false
theorem Num.holds {g:Nat} {zs:List Int} (h:Num w g zs):Sort.Holds (Value.int .i64) w g 0 zs.toArray:=fun j hj=>by
 have hj':j < zs.length:=by simpa using hj
 rw [Nat.zero_add,getElem!_pos zs.toArray j hj];simpa using h j hj'
theorem MQ (g cap:Nat) (zs:List Int) (w:World) (hg:g < w.heap.size) (h:Num w g zs) (hz:zs.length <= 1000000):
  Calls Tryz.prog 129 #[.slice (some ⟨g,0,none⟩) zs.length cap] w fun e w'=>e=.returned (.tuple #[])/\w.grownBy w' (some g)/\Num w' g (zs.mergeSort fun x y=>decide (x <= y)):=by
 refine (Tryz.slices_Sort_int g 0 cap zs w h.holds hg (by omega)).mono ?_
 rintro e w' ⟨rfl,q,os,rfl⟩;have hl:(zs.mergeSort fun x y=>decide (x <= y)).length=zs.length:=List.length_mergeSort zs
 refine ⟨rfl,grownBy_sortedI _,fun j hj=>?_⟩
 have hh:=Sort.holds_putRow (Value.int .i64) (Sort.ahead w q) g 0 zs.toArray (zs.mergeSort fun x y=>decide (x <= y)).toArray h.holds (by simp [hl]) j (by simpa using hj)
 rw [Nat.zero_add,getElem!_pos _ j (by simpa using hj)] at hh
 rw [Sort.cell?_grow _ _ _ (by simpa using hg),Sort.frozen?_grow _ _ _ (by simpa using hg)]
 simpa using hh
theorem EL (g cap:Nat) (zs:List Int) (w:World) (hg:g < w.heap.size) (h:Num w g zs) (hz:zs.length <= 1000000) (hc:zs.length <= cap):
  Calls Tryz.prog 130 #[.slice (some ⟨g,0,none⟩) zs.length cap] w fun e w'=>e=.returned (.slice (some ⟨g,0,none⟩) (Lib.compact zs).length cap)/\w.grownBy w' (some g)/\Num w' g (Lib.compact zs):=by
 refine (Tryz.slices_Compact_int g 0 cap zs w h.holds (by omega) hc).mono ?_
 rintro e w' ⟨rfl,q,rfl⟩;have hle:(Lib.compact zs).length <= zs.length:=Lib.compact_length_le zs;refine ⟨rfl,?_,fun j hj=>?_⟩
 ·have:=grownBy_sortedI (w:=w) (g:=g) (n:=q) (os:=#[]) (Lib.compact zs ++ List.replicate (zs.length - (Lib.compact zs).length) 0).toArray
  rwa [Sort.grow_empty] at this
 ·have hh:=Sort.holds_putRow (Value.int .i64) (Sort.ahead w q) g 0 zs.toArray (Lib.compact zs ++ List.replicate (zs.length - (Lib.compact zs).length) 0).toArray h.holds (by simp;omega) j (by simp;omega)
  rw [Nat.zero_add,getElem!_pos _ j (by simp;omega)] at hh
  simp only [List.getElem_toArray] at hh;rw [List.getElem_append_left hj] at hh;exact hh
structure Pre (s:St):Prop where
 P:s.P=0
 sp:s.sp=0
 ch:s.ch=[]
 ls:s.ls=[]
 k:s.k=0
 m:s.m=0
 r:s.r=0
 lc:s.lc=0
 mo:s.mo=100
theorem Main.L (h:Main Z sb ob hb kb n L0 N0 brk w s) (p:Pre s):s.L=L0:=by
 have:=h.lines;rw [p.ls] at this;exact this
theorem Main.taut (h:Main Z sb ob hb kb n L0 N0 brk w s) (p:Pre s) {zs:Cl} (ht:∃ x ∈ zs,-x ∈ zs/\x ≠ 0):∃ s',Main Z sb ob hb kb n (L0 ++ [zs]) (N0 + 3 + zs.length) brk w s'/\Pre s':=by
 have hL:=h.L p
 refine ⟨{ s with L:=L0 ++ [zs] },{ h with
  lines:=?_
  bad:=fun e=>ig (hL ▸ h.bad e) zs
  qG:=(hL ▸ h.qG).more zs
  Cc:=fun c hc=>?_
  num:=by have:=h.num;show (enc s.cs).length <= _;simp only;omega },⟨p.P,p.sp,p.ch,p.ls,p.k,p.m,p.r,p.lc,p.mo⟩⟩
 ·show iD (L0 ++ [zs]) (s.ls.map _) (L0 ++ [zs])
  rw [p.ls];rfl
 ·rcases List.mem_append.1 hc with hc | hc
  ·exact h.Cc c hc
  ·rw [List.mem_singleton.1 hc];exact .inl ht
theorem Main.give (h:Main Z sb ob hb kb n L0 N0 brk w s) (p:Pre s) {zs:Cl} {c:List Nat} (hset:∀ x:Int,x ∈ zs↔∃ y ∈ c,wr y=x) (hcl:c.length <= zs.length)
  {f' V':Nat->Value} {X':Nat->List Value} {ko Rd':Nat->Prop} {lq:List Nat} {nE:Nat->Nat} {mD:Nat->Int} {iO:Nat->List Nat} {brk':Bool}
  (aI:oJ Z sb ob hb kb n w' (16 + 2 * n) f' V' X' s.gone (bJ s.ls) ko s.Ro Rd' s.Rk) (pi:PI n (ik (mapOf s.cs) (enc s.cs).length ⟨0,c⟩) lq [] nE mD iO 0) (x0:X' 0=ints (enc (s.cs ++ [⟨0,0,c⟩])))
  (dx:iW n X' lq [] nE mD) (dL:jm n V' X' iO) (h6:X' 6=s.X 6) (h10:X' 10=s.X 10) (h11:X' 11=s.X 11) (ff:∀ j,j ≠ 2->j ≠ 6->j ≠ 14->f' j=s.f j) (f14:f' 14=.bool brk') (mono:∀ x ∈ s.tr,x ∈ lq)
  (yf:brk'=false->tL (ik (mapOf s.cs) (enc s.cs).length ⟨0,c⟩) lq nE) (bad:brk'=true->bH (L0 ++ [zs]) []):
  ∃ s',Main Z sb ob hb kb n (L0 ++ [zs]) (N0 + 3 + zs.length) brk' w' s'/\Pre s':=by
 have hL:=h.L p;have hmap:mapOf (s.cs ++ [⟨0,0,c⟩])=ik (mapOf s.cs) (enc s.cs).length ⟨0,c⟩:=mI _ _;have hnew:mapOf s.cs (enc s.cs).length=none:=iK _;refine ⟨{ s with cs:=s.cs ++ [⟨0,0,c⟩],tr:=lq,ch:=[],lev:=nE,rea:=mD,wl:=iO,P:=0,f:=f',V:=V',X:=X',L:=L0 ++ [zs],Rs:=ko,Rd:=Rd' },{
  aI:=aI
  pi:=by rw [hmap];exact pi
  x0:=x0
  dx:=dx
  dL:=dL
  lam:=h.lam.congr h6
  n10:=(congrArg List.length h10).trans h.n10
  lD:=by
   obtain ⟨fol,hf⟩:=h.lD;exact ⟨fol,hf.congr h11⟩
  f0:=(ff 0 (by decide) (by decide) (by decide)).trans h.f0
  f3:=(ff 3 (by decide) (by decide) (by decide)).trans h.f3
  f4:=(ff 4 (by decide) (by decide) (by decide)).trans h.f4
  f7:=(ff 7 (by decide) (by decide) (by decide)).trans h.f7
  f14:=f14
  f18:=(ff 18 (by decide) (by decide) (by decide)).trans h.f18
  f20:=(ff 20 (by decide) (by decide) (by decide)).trans h.f20
  f21:=(ff 21 (by decide) (by decide) (by decide)).trans h.f21
  ze:=by show s.sp <= _;rw [p.sp];exact Nat.zero_le _
  late:=fun q hq=>by cases hq
  nH:=fun v hv hg=>by
   obtain ⟨x,hx,e⟩:=h.nH v hv hg;exact ⟨x,mono x hx,e⟩
  yf:=fun e=>by rw [hmap];exact yf e
  bad:=bad
  lines:=by show iD (L0 ++ [zs]) (s.ls.map _) (L0 ++ [zs]);rw [p.ls];rfl
  wK:=h.wK
  qG:=by
   rw [mJ _ _ (show (0:Nat) ≠ 2 by decide)]
   exact (hL ▸ h.qG).add c hset
  Cc:=by
   rw [hmap];intro d hd
   rcases List.mem_append.1 hd with hd | hd
   ·exact h.Cc.new hnew d hd
   ·rw [List.mem_singleton.1 hd];exact .inr ⟨_,_,aZ ..,rfl,hset⟩
  num:=by
   have:=h.num;show (enc (s.cs ++ [⟨0,0,c⟩])).length <= N0 + 3 + zs.length + 33 * s.m
   rw [dn,List.length_append];simp [enc,dh];omega
  uM:=by show (bJ s.ls).length + 125 * eQ (s.cs ++ [⟨0,0,c⟩]) <= _;rw [o8];simpa using h.uM
  cnt:=by show s.lc=eQ (s.cs ++ [⟨0,0,c⟩]);rw [o8];simpa using h.cnt
  uJ:=by show s.ws=fE (s.cs ++ [⟨0,0,c⟩]);rw [yV];simpa using h.uJ
  dI:=by show 2 * s.k <= _;rw [p.k];exact Nat.zero_le _
  lcm:=h.lcm
  km:=h.km
  n30:=h.n30 },⟨rfl,p.sp,rfl,p.ls,p.k,p.m,p.r,p.lc,p.mo⟩⟩
end
section
open Go Go.RowKit Go.Deep Rd
variable {Z:Nat->Prop} {sb ob hb kb n:Nat} {L0:List Cl} {N0:Nat} {brk:Bool} {w w' W:World} {s:St} {zs:Cl} {c:List Nat} {g:Nat}
abbrev ci (c:List Nat):List Int:=c.map fun (x:Nat)=>(x:Int)
theorem Num.at {c:List Nat} (h:Num w g (ci c)) {j:Nat} (hj:j < c.length):w.cell? ⟨g,j,none⟩=some (.int .i64 ((c[j]:Nat):Int)):=by
 have:=(h j (by simpa using hj)).1
 simpa using this
structure Vs (n:Nat) (zs:Cl) (c:List Nat):Prop where
 set:∀ x:Int,x ∈ zs↔∃ y ∈ c,wr y=x
 len:c.length <= zs.length
 nd:(c.map (· / 2)).Nodup
 lt:∀ y ∈ c,y < 2 * n
def LW (Z:Nat->Prop) (sb ob hb kb n:Nat) (L0:List Cl) (N0:Nat) (w:World) (zs:Cl) (w':World):Prop:=aC Z w w'/\∃ brk s,Main Z sb ob hb kb n (L0 ++ [zs]) (N0 + 3 + zs.length) brk w' s/\Pre s
structure Gad (Z:Nat->Prop) (sb ob hb kb n:Nat) (w:World) (s:St) (c:List Nat) (g:Nat) (w':World) (f V:Nat->Value) (X:Nat->List Value) (Rs Rd:Nat->Prop):Prop where
 aI:oJ Z sb ob hb kb n w' (16 + 2 * n) f V X s.gone (bJ s.ls) Rs s.Ro Rd s.Rk
 x0:X 0=ints (enc (s.cs ++ [⟨0,0,c⟩]))
 only:∀ k,k ≠ 0->X k=s.X k
 vv:∀ k,k ≠ 0->V k=s.V k
 ff:∀ j,j ≠ 2->f j=s.f j
 num:Num w' g (ci c)
 gl:g < w'.heap.size
 bD:aC Z w w'
def yQ (Z:Nat->Prop) (sb ob hb kb n:Nat) (w:World) (s:St) (c:List Nat) (g:Nat) (w':World):Prop:=∃ f V X Rs Rd,Gad Z sb ob hb kb n w s c g w' f V X Rs Rd
theorem yQ.later (M:yQ Z sb ob hb kb n w s c g W) (hb':Below W.heap.size W w'):yQ Z sb ob hb kb n w s c g w':=by
 obtain ⟨f,V,X,Rs,Rd,M⟩:=M
 exact ⟨f,V,X,Rs,Rd,{ M with
  aI:=M.aI.later hb'
  num:=fun j hj=>by
   rw [World.cell?_of_block (w:=W) (a:=⟨g,j,none⟩) (hb'.block g M.gl),World.frozen?_of_block (w:=W) (a:=⟨g,j,none⟩) (hb'.block g M.gl)];exact M.num j hj
  gl:=Nat.lt_of_lt_of_le M.gl hb'.size
  bD:=M.bD.trans (aC.of_below hb') }⟩
theorem Lg (cs:List Rec) (c:List Nat):ints (enc cs) ++ au (c.length :: 0 :: 0 :: c)=ints (enc (cs ++ [⟨0,0,c⟩])):=by
 rw [dn,uD]
 congr 1
 simp [enc,enc1,ints,au]
theorem OZ (h:Main Z sb ob hb kb n L0 N0 brk w s) (p:Pre s) (hN:(enc s.cs).length <= 1000000000000) (hc:c.length <= 1000) (hb':Below w.heap.size w W) (hg:w.heap.size <= g) (hgl:g < W.heap.size) (OI:Num W g (ci c)) (cap:Nat):
  Calls Tryz.prog 132 #[.pointer (some ⟨sb,2,none⟩),.slice (some ⟨g,0,none⟩) c.length cap,.int .i64 0] W fun e w'=>e=.returned (.int .i64 (((enc s.cs).length:Nat):Int))/\yQ Z sb ob hb kb n w s c g w':=by
 have T:=h.aI.later hb';have hK:=T.duo.aG.hK;have hsb:=h.aI.duo.aG.row.lt;have hl:LP sb (s.V 0) W (.slice (some ⟨g,0,none⟩) c.length cap) c:=by
  refine ⟨_,cap,g,0,rfl,(fun e=>by cases e),fun hp=>⟨rfl,hgl,by omega,fun e=>?_,fun j hj=>?_⟩⟩
  ·have:=((h.aI.duo.aG.bC.own 0 (by omega)).lt g e).2
   omega
  ·rw [Nat.zero_add];exact OI.at hj
 refine (Fg c 0 0 _ T.duo.aG hl hc (by decide) (by rw [h.x0,cZ];omega) (by rw [h.f3,p.lc];rfl) (by decide) (by decide)).mono ?_
 rintro e w' ⟨rfl,hch,v',hs⟩;obtain ⟨t1,t2⟩:=T.dH hs hch (by rw [aa _ _ (by decide),aa _ _ (by decide)])
 refine ⟨by rw [h.x0,cZ],_,_,_,_,_,{
  aI:=t1
  x0:=by rw [ae,h.x0];exact Lg _ _
  only:=fun k hk=>aa _ _ hk
  vv:=fun k hk=>aa _ _ hk
  ff:=fun j hj=>by
   by_cases e:j=3
   ·subst e;rw [ae,h.f3,p.lc];rfl
   ·rw [aa _ _ e,aa _ _ hj]
  num:=fun j hj=>?_
  gl:=Nat.lt_of_lt_of_le hgl hch.size
  bD:=(aC.of_below hb').trans t2 }⟩
 have hz:¬ zz s.Rs W g:=fun e=>by
  rcases e with e | e
  ·have:=h.aI.duo.ls g e;omega
  ·omega
 have hblk:=hch.block g hgl hz;rw [World.cell?_of_block (w:=W) (a:=⟨g,j,none⟩) hblk,World.frozen?_of_block (w:=W) (a:=⟨g,j,none⟩) hblk];exact OI j hj
variable {f V:Nat->Value} {X:Nat->List Value} {Rs Rd:Nat->Prop} {x:Nat}
theorem Main.MH (h:Main Z sb ob hb kb n L0 N0 brk w s) (p:Pre s):iW n s.X s.tr [] s.lev s.rea:=by have:=h.dx;rw [p.ch] at this;exact this
theorem Main.XU (h:Main Z sb ob hb kb n L0 N0 brk w s) (p:Pre s):PI n (mapOf s.cs) s.tr [] s.lev s.rea s.wl 0:=by have:=h.pi;rw [p.ch,p.P] at this;exact this
theorem GY (h:Main Z sb ob hb kb n L0 N0 brk w s) (p:Pre s) (hn:n <= 50) (hN:(enc s.cs).length <= 1000000000000) {x q:Nat} {r:List Nat} (hc:Vs n zs (x :: q :: r)) (M:yQ Z sb ob hb kb n w s (x :: q :: r) g W):
  Calls Tryz.prog 133 #[.pointer (some ⟨sb,0,none⟩),.int .i64 (((enc s.cs).length:Nat):Int)] W fun e w'=>e=.returned (.tuple #[])/\LW Z sb ob hb kb n L0 N0 w zs w':=by
 obtain ⟨f,V,X,Rs,Rd,M⟩:=M;have hK:=M.aI.duo.aG.hK;have hnew:mapOf s.cs (enc s.cs).length=none:=iK _;have hlen:(x :: q :: r).length <= n:=fU hc.nd hc.lt;have ea:aj (s.cs ++ [⟨0,0,x :: q :: r⟩]) s.cs.length=(enc s.cs).length:=by
  rw [kg _ (Nat.le_refl _),dY (Nat.le_refl _)]
 have hpq:x ≠ q:=fun e=>by have hv:=hc.nd;subst e;simp at hv
 have hend:(enc (s.cs ++ [⟨0,0,x :: q :: r⟩])).length <= 1099511627776:=by
  rw [dn,List.length_append];simp [enc,dh];simp at hlen;omega
 have hwl:∀ y,y < 2 * n->(s.wl y).length <= 1099511627776:=fun y hy=>by have:=h.pi.kT.len hy;omega
 have hW:jm n V X s.wl:=h.dL.congr (M.only 9 (by decide)) (fun x _=>M.vv _ (by omega)) fun x _=>M.only _ (by omega)
 rw [<- ea];refine (yU (k:=s.cs.length) (p:=x) (q:=q) (r:=r) M.aI.duo.aG rfl M.x0 (by simp) (by simp) hpq (hc.lt x (by simp)) (hc.lt q (by simp)) hn hend hW hwl).mono ?_
 rintro e w' ⟨rfl,hch,V',X',hs,hw,ho⟩;obtain ⟨t1,t2⟩:=M.aI.dH hs hch rfl;rw [ea] at hw;refine ⟨rfl,M.bD.trans t2,brk,?_⟩;have pi:=h.XU p;refine h.give p hc.set hc.len t1 (lq:=s.tr) (nE:=s.lev) (mD:=s.rea) (iO:=uK s.wl (enc s.cs).length x q 2) ⟨pi.aI,pi.lK.new hnew,pi.jc.new hc.nd hc.lt,pi.kT.YU hnew (show (0:Nat) ≠ 2 by decide) (p:=x) (q:=q) (r:=r) rfl hpq ?_ ?_ ?_,nI.none _ _ _⟩ ((ho 0 (by decide) (by decide)).trans M.x0)
  ((h.MH p).congr fun j h1 h2=>(ho j (by omega) (by omega)).trans (M.only j (by omega))) hw ((ho 6 (by decide) (by decide)).trans (M.only 6 (by decide))) ((ho 10 (by decide) (by decide)).trans (M.only 10 (by decide))) ((ho 11 (by decide) (by decide)).trans (M.only 11 (by decide)))
  (fun j h1 h2 h3=>M.ff j h1) ((M.ff 14 (by decide)).trans h.f14) (fun _ hx=>hx) (fun e=>(h.yf e).new fun _ hl=>by simp at hl;omega) (fun e=>ig (h.L p ▸ h.bad e) zs)
 ·unfold uK;simp
 ·unfold uK;simp
 ·intro y h1 h2;unfold uK;simp [h1,h2]
theorem OX (h:Main Z sb ob hb kb n L0 N0 brk w s) (p:Pre s) (hc:Vs n zs c) (hf:∀ y ∈ c,op y ∈ s.tr):bH (L0 ++ [zs]) []:=by
 have hnew:mapOf s.cs (enc s.cs).length=none:=iK _;have pi:=h.XU p;have hm:tQ (L0 ++ [zs]) (kz (s.cs ++ [⟨0,0,c⟩])):=by
  rw [mJ _ _ (show (0:Nat) ≠ 2 by decide)]
  exact (h.L p ▸ h.qG).add c hc.set
 have hr:lh (mapOf (s.cs ++ [⟨0,0,c⟩])) s.tr [] s.rea:=by rw [mI];exact pi.lK.new hnew
 exact zq (wF pi.aI hr hm.hL (hm.there (by rw [mJ _ _ (show (0:Nat) ≠ 2 by decide)];simp)) hf)
theorem uE (h:Main Z sb ob hb kb n L0 N0 brk w s) (p:Pre s) (hc:Vs n zs c) (hc1:c.length < 2) (hf:∀ y ∈ c,op y ∈ s.tr) (M:yQ Z sb ob hb kb n w s c g W):
  W.frozen? ⟨sb,14,none⟩=false/\(∃ u,W.cell? ⟨sb,14,none⟩=some u)/\LW Z sb ob hb kb n L0 N0 w zs (W.setCell ⟨sb,14,none⟩ (.bool true)):=by
 obtain ⟨f,V,X,Rs,Rd,M⟩:=M;have hnew:mapOf s.cs (enc s.cs).length=none:=iK _;have pi:=h.XU p;have hd:=M.aI.duo.aG.head 14 (by omega)
 obtain ⟨t1,t2⟩:=M.aI.dH (M.aI.duo.aG.scalar 14 (.bool true) (by decide +kernel)) ((aC.refl _).setCell M.aI.duo.aG.fZ _) (aa _ _ (by decide))
 refine ⟨hd.2,⟨_,hd.1⟩,M.bD.trans t2,true,?_⟩;exact h.give p hc.set hc.len t1 (lq:=s.tr) (nE:=s.lev) (mD:=s.rea) (iO:=s.wl) ⟨pi.aI,pi.lK.new hnew,pi.jc.new hc.nd hc.lt,pi.kT.Tc hnew hc1,nI.none _ _ _⟩ M.x0
  ((h.MH p).congr fun j h1 h2=>M.only j (by omega)) (h.dL.congr (M.only 9 (by decide)) (fun x _=>M.vv _ (by omega)) fun x _=>M.only _ (by omega)) (M.only 6 (by decide)) (M.only 10 (by decide)) (M.only 11 (by decide))
  (fun j h1 h2 h3=>(aa _ _ h3).trans (M.ff j h1)) (ae ..) (fun _ hx=>hx) (fun e=>by cases e) (fun _=>OX h p hc hf)
theorem sV (h:Main Z sb ob hb kb n L0 N0 brk w s) (p:Pre s) (hc:Vs n zs [x]) (M:yQ Z sb ob hb kb n w s [x] g W):(∀ j,Calls Tryz.prog 134 #[.pointer (some ⟨sb,6,none⟩),.int .i64 ((x:Nat):Int)] (W.drewN j) fun e w'=>e=.returned (.bool (decide (tv s.tr x < 0)))/\w'=W.drewN j)/\(∀ j,Calls Tryz.prog 135 #[.pointer (some ⟨sb,6,none⟩),.int .i64 ((x:Nat):Int)] (W.drewN j) fun e w'=>e=.returned (.bool (tv s.tr x == 0))/\w'=W.drewN j)/\W.cell? ⟨g,0,none⟩=some (.int .i64 ((x:Nat):Int)):=by
 obtain ⟨f,V,X,Rs,Rd,M⟩:=M;have hx:x < 2 * n:=hc.lt x (by simp)
 have hT:iW n X s.tr [] s.lev s.rea:=(h.MH p).congr fun j h1 h2=>M.only j (by omega)
 obtain ⟨g3,c3,t3,e3,q3,r3,s3,-⟩:=M.aI.duo.aG.elem (k:=3) (j:=x) (by omega) hT.n3 hx
 rw [show cellOf 3=9 from rfl] at q3
 rw [hT.t3 x hx] at s3;obtain rfl:=Option.some.inj s3;exact ⟨fun j=>oq sb 6 g3 (2 * n) c3 x (tv s.tr x) (W.drewN j) q3 hx r3,fun j=>qE sb 6 g3 (2 * n) c3 x (tv s.tr x) (W.drewN j) q3 hx r3,M.num.at (j:=0) (by simp)⟩
theorem K4 (h:Main Z sb ob hb kb n L0 N0 brk w s) (p:Pre s) (hc:Vs n zs [x]) (hx:x ∈ s.tr) (M:yQ Z sb ob hb kb n w s [x] g W) (hb':Below W.heap.size W w'):LW Z sb ob hb kb n L0 N0 w zs w':=by
 obtain ⟨f,V,X,Rs,Rd,M⟩:=M;have hnew:mapOf s.cs (enc s.cs).length=none:=iK _;have pi:=h.XU p;refine ⟨M.bD.trans (aC.of_below hb'),brk,?_⟩;refine h.give p hc.set hc.len (M.aI.later hb') (lq:=s.tr) (nE:=s.lev) (mD:=s.rea) (iO:=s.wl) ⟨pi.aI,pi.lK.new hnew,pi.jc.new hc.nd hc.lt,pi.kT.Tc hnew (by simp),nI.none _ _ _⟩ M.x0
  ((h.MH p).congr fun j h1 h2=>M.only j (by omega)) (h.dL.congr (M.only 9 (by decide)) (fun x _=>M.vv _ (by omega)) fun x _=>M.only _ (by omega)) (M.only 6 (by decide)) (M.only 10 (by decide)) (M.only 11 (by decide))
  (fun j h1 h2 h3=>M.ff j h1) ((M.ff 14 (by decide)).trans h.f14) (fun _ hx=>hx) (fun e=>(h.yf e).new fun _ _=>⟨x,rfl,hx,?_⟩) (fun e=>ig (h.L p ▸ h.bad e) zs)
 obtain ⟨i,hi,ei⟩:=List.mem_iff_getElem.1 hx;have:=pi.aI.lev i hi;rw [ei] at this;rw [this];rfl
theorem Eh (h:Main Z sb ob hb kb n L0 N0 brk w s) (p:Pre s) (hn:n <= 50) (hc:Vs n zs [x]) (ho:tv s.tr x=0) (M:yQ Z sb ob hb kb n w s [x] g W) (hb':Below W.heap.size W w'):
  Calls Tryz.prog 136 #[.pointer (some ⟨sb,6,none⟩),.int .i64 ((x:Nat):Int),.int .i64 (((enc s.cs).length:Nat):Int)] w' fun e w''=>e=.returned (.tuple #[])/\LW Z sb ob hb kb n L0 N0 w zs w'':=by
 obtain ⟨f,V,X,Rs,Rd,M⟩:=M;have hnew:mapOf s.cs (enc s.cs).length=none:=iK _;have pi:=h.XU p;have hx:x < 2 * n:=hc.lt x (by simp)
 have T:=M.aI.later hb';have hT:iW n X s.tr [] s.lev s.rea:=(h.MH p).congr fun j h1 h2=>M.only j (by omega)
 have tl:=pi.aI.len;refine (mW x n 0 (((enc s.cs).length:Nat):Int) hx hn T.duo.aG (by rw [hT.l1,ag];omega) (by rw [hT.l2,ag];rfl) hT.n3 hT.n4 hT.n5).mono ?_
 rintro e w'' ⟨rfl,hch,v',hs⟩;obtain ⟨t1,t2⟩:=T.dH hs hch (aa _ _ (by decide))
 refine ⟨rfl,(M.bD.trans (aC.of_below hb')).trans t2,brk,?_⟩;have ax:∀ j,j ≠ 0->j ≠ 1->j ≠ 3->j ≠ 4->j ≠ 5->bN X x (((enc s.cs).length:Nat):Int) 0 j=s.X j:=fun j a0 a b c e=>(eu _ _ _ _ a b c e).trans (M.only j a0)
 have ta:=pi.aI.assign hx ho;have ra:=(pi.lK.new (c:=⟨0,[x]⟩) hnew).assign pi.aI ho (aZ ..) (show (0:Nat) ≠ 2 by decide) rfl (r:=[]) (fun y hy=>by cases hy)
 refine h.give p hc.set hc.len t1 (lq:=s.tr ++ [x]) (nE:=bB s.lev (x / 2) 0) (mD:=bB s.rea (x / 2) (((enc s.cs).length:Nat):Int)) (iO:=s.wl) ⟨ta,ra,pi.jc.new hc.nd hc.lt,pi.kT.Tc hnew (by simp),nI.none _ _ _⟩ ((eu _ _ _ _ (by decide) (by decide) (by decide) (by decide)).trans M.x0)
  (hT.assign hx ho (((enc s.cs).length:Nat):Int) (X':=X) (ch':=[]) hT.l2 (fun _ _=>rfl)) (h.dL.congr (ax 9 (by decide) (by decide) (by decide) (by decide) (by decide)) (fun x _=>(aa _ _ (by omega)).trans (M.vv _ (by omega))) fun x _=>ax _ (by omega) (by omega) (by omega) (by omega) (by omega)) (ax 6 (by decide) (by decide) (by decide) (by decide) (by decide)) (ax 10 (by decide) (by decide) (by decide) (by decide) (by decide)) (ax 11 (by decide) (by decide) (by decide) (by decide) (by decide))
  (fun j h1 h2 h3=>(aa _ _ h2).trans (M.ff j h1)) ((aa _ _ (by decide)).trans ((M.ff 14 (by decide)).trans h.f14)) (fun _ hx=>List.mem_append_left _ hx) (fun e=>((h.yf e).assign ho).new fun _ _=>⟨x,rfl,by simp,aD ..⟩) (fun e=>ig (h.L p ▸ h.bad e) zs)
end
section
open Go Go.RowKit Go.Deep Rd
variable {Z:Nat->Prop} {sb ob hb kb n:Nat} {L0:List Cl} {N0:Nat} {brk:Bool} {w w' W:World} {s:St} {zs:Cl}
def FJ (w:World) (zs:Cl) (i:Nat) (wr:World):Prop:=Below w.heap.size w wr/\wr.rowIs w.heap.size 3 zs.length (fun j=>.int .i64 (if j < i then ((lit (zs.getD j 0):Nat):Int) else 0))
def GvRel (w:World) (zs:Cl) (sv:Value) (wr:World):Prop:=∃ i:Nat,sv=.int .i64 ((i:Nat):Int)/\i <= zs.length/\Hid (FJ w zs i wr)
theorem FJ.step {i:Nat} {wr:World} (h:FJ w zs i wr) (hi:i < zs.length):FJ w zs (i + 1) (wr.setCell ⟨w.heap.size,i,none⟩ (.int .i64 ((lit zs[i]:Nat):Int))):=by
 refine ⟨h.1.setCell (Nat.le_refl _) _,(h.2.set i _).congr fun j hj=>?_⟩
 by_cases e:j=i
 ·subst e;rw [if_pos rfl,if_pos (by omega),List.getD_eq_getElem?_getD,List.getElem?_eq_getElem hi];rfl
 ·rw [if_neg e];by_cases e2:j < i
  ·rw [if_pos e2,if_pos (by omega)]
  ·rw [if_neg e2,if_neg (by omega)]
theorem FJ.num {wr:World} (h:FJ w zs zs.length wr):Num wr w.heap.size (ci (zs.map lit)):=fun j hj=>by
 have hj':j < zs.length:=by simpa using hj
 refine ⟨?_,h.2.frozen j⟩;rw [h.2.cell hj',if_pos hj',List.getD_eq_getElem?_getD,List.getElem?_eq_getElem hj'];simp [ci]
theorem below_grown {g:Nat} {a b:World} (h:Below w.heap.size w a) (hg:a.grownBy b (some g)) (hl:w.heap.size <= g):Below w.heap.size w b:=h.grown hg h.size (fun k e=>by cases e;exact hl)
theorem mK {z:Int} (h:jo n z):lit z < 2 * n:=by
 obtain ⟨h0,h1⟩:=h;unfold lit;split <;> omega
theorem Xi (hz:∀ z ∈ zs,jo n z):∃ c:List Nat,Lib.compact ((ci (zs.map lit)).mergeSort fun x y=>decide (x <= y))=ci c/\c.length <= zs.length/\(∀ y ∈ c,y < 2 * n)/\((∃ j,∃ h:j + 1 < c.length,c[j + 1]=op c[j])->∃ x ∈ zs,-x ∈ zs/\x ≠ 0)/\((¬ ∃ j,∃ h:j + 1 < c.length,c[j + 1]=op c[j])->Vs n zs c):=by
 obtain ⟨c,h1,h2,h3⟩:=JG (zs.map lit);have hm:∀ y,y ∈ c↔∃ z ∈ zs,lit z=y:=fun y=>by rw [h2,List.mem_map]
 have hlt:∀ y ∈ c,y < 2 * n:=fun y hy=>by
  obtain ⟨z,hz',rfl⟩:=(hm y).1 hy;exact mK (hz z hz')
 have hlen:c.length <= zs.length:=by
  have a:=Lib.compact_length_le ((ci (zs.map lit)).mergeSort fun x y=>decide (x <= y))
  rw [h1,List.length_mergeSort] at a;simpa using a
 refine ⟨c,h1,hlen,hlt,fun ht=>?_,fun ht=>?_⟩
 ·obtain ⟨x,a,b⟩:=(Co h3).1 ht;obtain ⟨z,hz',rfl⟩:=(hm x).1 a;obtain ⟨y,hy,e⟩:=(hm _).1 b;refine ⟨z,hz',?_,(hz z hz').1⟩;have:y=-z:=by
   have e2:=congrArg wr e;rw [Cf,zZ (hz y hy).1,zZ (hz z hz').1] at e2;exact e2
  rw [<- this];exact hy
 ·refine ⟨fun x=>⟨fun hx=>⟨lit x,(hm _).2 ⟨x,hx,rfl⟩,zZ (hz x hx).1⟩,?_⟩,hlen,F5 h3 (fun h=>ht ((Co h3).2 h)),hlt⟩
  rintro ⟨y,hy,rfl⟩;obtain ⟨z,hz',rfl⟩:=(hm y).1 hy;rw [zZ (hz z hz').1];exact hz'
theorem OY (h:Main Z sb ob hb kb n L0 N0 brk w s) (p:Pre s) (hn:n <= 50) (hN:(enc s.cs).length <= 1000000000000) (al:Option Addr) (lb lo cp:Nat) (hal:0 < zs.length->al=some ⟨lb,lo,none⟩) (hlb:lb < w.heap.size) (hcell:∀ j (hj:j < zs.length),w.cell? ⟨lb,lo + j,none⟩=some (.int .i64 zs[j])) (hz:∀ z ∈ zs,jo n z) (hzl:zs.length <= 20001):
  Calls Tryz.prog 96 #[.pointer (some ⟨sb,0,none⟩),.slice al zs.length cp] w fun e w'=>e=.returned (.tuple #[])/\LW Z sb ob hb kb n L0 N0 w zs w':=by
 have NY:=run_make_row' (P:=Tryz.prog) 43 3 (.int .i64 0) 8 Tryz.underlying43 Tryz.cu rfl .i64 .i64 zs.length (by omega) (by omega)
 obtain ⟨c,hc1,hc2,hc3,hc4,hc5⟩:=Xi hz;have M0:Hid (FJ w zs 0 (w.alloc (.cells (madeCells #[.int .i64 0] zs.length) 3))):=
  ⟨(Below.refl _ _).alloc (Nat.le_refl _) _,(World.rowIs_made w (.int .i64 0) zs.length 3).congr fun i hi=>by simp⟩
 have QS:Hid (∀ wr,FJ w zs zs.length wr->Calls Tryz.prog 129 #[.slice (some ⟨w.heap.size,0,none⟩) zs.length zs.length] wr fun e w'=>e=.returned (.tuple #[])/\Below w.heap.size w w'/\w.heap.size < w'.heap.size/\Num w' w.heap.size ((ci (zs.map lit)).mergeSort fun x y=>decide (x <= y))):=fun wr hg=>by
  have hl:(ci (zs.map lit)).length=zs.length:=by simp
  have:=MQ w.heap.size zs.length (ci (zs.map lit)) wr hg.2.lt hg.num (by rw [hl];omega)
  rw [hl] at this;refine this.mono ?_;rintro e w' ⟨rfl,hgr,hnm⟩;exact ⟨rfl,below_grown hg.1 hgr (Nat.le_refl _),Nat.lt_of_lt_of_le hg.2.lt hgr.size,hnm⟩
 have QC:Hid (∀ wr,Below w.heap.size w wr->w.heap.size < wr.heap.size->Num wr w.heap.size ((ci (zs.map lit)).mergeSort fun x y=>decide (x <= y))->Calls Tryz.prog 130 #[.slice (some ⟨w.heap.size,0,none⟩) zs.length zs.length] wr fun e w'=>e=.returned (.slice (some ⟨w.heap.size,0,none⟩) c.length zs.length)/\Below w.heap.size w w'/\w.heap.size < w'.heap.size/\Num w' w.heap.size (ci c)):=fun wr hb' hg hnm=>by
  have hl:((ci (zs.map lit)).mergeSort fun x y=>decide (x <= y)).length=zs.length:=by rw [List.length_mergeSort];simp
  have:=EL w.heap.size zs.length _ wr hg hnm (by rw [hl];omega) (by rw [hl];omega)
  rw [hl,hc1] at this;refine this.mono ?_;rintro e w' ⟨rfl,hgr,hnm'⟩;exact ⟨by simp,below_grown hb' hgr (Nat.le_refl _),Nat.lt_of_lt_of_le hg hgr.size,hnm'⟩
 have QM:Hid (∀ wr,Num wr w.heap.size (ci c)->Calls Tryz.prog 131 #[.slice (some ⟨w.heap.size,0,none⟩) c.length zs.length] wr fun e w'=>Jq wr c e w'):=fun wr hnm=>uQ c _ w.heap.size 0 zs.length wr (fun _=>rfl) (fun j hj=>by rw [Nat.zero_add];exact hnm.at hj) (fun x hx=>by have:=hc3 x hx;omega) (by omega)
 have ZY:Hid (∀ wr j,Below w.heap.size w wr->(∃ j,∃ h:j + 1 < c.length,c[j + 1]=op c[j])->LW Z sb ob hb kb n L0 N0 w zs (wr.drewN j)):=fun wr j hb' ht=>by
  have hb2:Below w.heap.size w (wr.drewN j):=hb'.trans ⟨rfl,rfl,rfl,Nat.le_refl _,fun _ _=>rfl⟩
  obtain ⟨s',m',p'⟩:=(h.later hb2).taut p (hc4 ht);exact ⟨aC.of_below hb2,brk,s',m',p'⟩
 have QA:Hid (∀ wr j,Below w.heap.size w wr->w.heap.size < wr.heap.size->Num wr w.heap.size (ci c)->Vs n zs c->Calls Tryz.prog 132 #[.pointer (some ⟨sb,2,none⟩),.slice (some ⟨w.heap.size,0,none⟩) c.length zs.length,.int .i64 0] (wr.drewN j) fun e w'=>e=.returned (.int .i64 (((enc s.cs).length:Nat):Int))/\yQ Z sb ob hb kb n w s c w.heap.size w'):=fun wr j hb' hg hnm hcl=>OZ (W:=wr.drewN j) h p hN (by have:=fU hcl.nd hcl.lt;omega) (hb'.trans ⟨rfl,rfl,rfl,Nat.le_refl _,fun _ _=>rfl⟩) (Nat.le_refl _) hg hnm _
 have H:=hide h;have HZ:=hide hz;have HCE:=hide hcell;have XI:=hide hal;have CLA:=hide hc5;clear h hz hcell hal hc1 hc4 hc5;go_enter Tryz.func96,Tryz.ntmps96
 go_wp2_with fail
 go_loopw [5,6,13] (fun _ _ s13 wr=>GvRel w zs s13 wr) (fun _ _ s13 _=>zs.length - (intOf s13).toNat)
 case atStart=>exact ⟨0,rfl,Nat.zero_le _,M0⟩
 case round=>
  clear M0;obtain ⟨i,rfl,hil,hst⟩:=hrel;by_cases hlt:i < zs.length
  ·obtain rfl:=XI.out (by omega)
   have hci:wr.cell? ⟨lb,lo + i,none⟩=some (.int .i64 zs[i]):=by
    rw [World.cell?_of_block (w:=w) (a:=⟨lb,lo + i,none⟩) (hst.out.1.block lb hlb)];exact HCE.out i hlt
   have r0:=hst.out.2.cell hlt;have z0:=hst.out.2.frozen i;have hIn:=HZ.out zs[i] (List.getElem_mem _);have NX:=hide (hst.out.step hlt);generalize zs[i]=z at *
   have hzb:z ≠ 0:=hIn.1;have zb1:-64 <= z:=by have:=hIn.2;omega
   have zb2:z <= 64:=by have:=hIn.2;omega
   have QL:=hide (fun Y=>kY z Y hzb zb1 zb2)
   have i0:(0:Int) <= (i:Int):=by omega
   have i1:(i:Int) < (zs.length:Int):=by omega
   have i2:(i:Int) <= 20001:=by omega
   have hsz:w.heap.size < wr.heap.size:=hst.out.2.lt;clear hst hIn;generalize w.heap.size=hs at *
   go_wp2_with (go_at_call 95;refine (QL.out _).mono ?_;rintro e7 w7 ⟨rfl,rfl⟩;simp only [])
   go_roundw
   case rel=>exact ⟨i + 1,by go_num,hlt,NX⟩
   case measure=>simp [intOf];omega
  ·have ei:i=zs.length:=by omega
   subst ei;have QSS:=hide (QS.out wr hst.out);clear hst QS
   go_upto_region 8 with (first | (go_at_call 129;refine QSS.out.mono ?_;rintro e7 w7 ⟨rfl,ku,KY,hn7⟩;have QCC:=hide (QC.out _ ku KY hn7);clear ku KY hn7;simp only []) | (go_at_call 130;refine QCC.out.mono ?_;rintro e8 w8 ⟨rfl,p8,hg8,hn8⟩;have B8:=hide p8;have G8:=hide hg8;have N8:=hide hn8;clear p8 hg8 hn8;simp only []))
   have Yg:=hide (QM.out _ N8.out);clear QSS QCC QC QM;go_upto_region 9 with (go_at_call 131;refine Yg.out.mono ?_;rintro e9 w9 ⟨⟨j9,rfl⟩,b,rfl,L6⟩;have HB9:=hide L6;clear L6;cases b <;> simp only [])
   ·have CL:=CLA.out (fun hh=>by have:=HB9.out.2 hh;cases this)
    have QAA:=hide (QA.out _ j9 B8.out G8.out N8.out CL);clear Yg QA ZY B8 G8 N8 HB9 CLA HCE HZ;go_upto_region 10 with (go_at_call 132;refine QAA.out.mono ?_;rintro eA wA ⟨rfl,hgA⟩;have GA:=hide hgA;clear hgA;simp only [])
    clear QAA NY;have hnn:n <= 50:=hn
    match c,CL,GA with
    | x :: q :: r,CL,GA=>
     have QW:=hide (GY H.out p hn hN CL GA.out);have rl:(2:Int) <= ((r.length + 1 + 1:Nat):Int):=by omega
     clear GA CL H;go_wp2_with (go_at_call 133;refine QW.out.mono ?_;rintro eB wB ⟨rfl,hgB⟩;have GB:=hide hgB;clear hgB;simp only [])
     go_end0
     exact ⟨rfl,GB.out⟩
    | [],CL,GA=>
     have BR:=hide (fun j=>uE (W:=wA.drewN j) H.out p CL (by simp) (by simp) (GA.out.later (mU wA j)))
     clear GA CL H;have e00:((0:Int) == 0)=true:=rfl;go_upto_region 12 with fail
     go_quiet (fail)
     obtain ⟨z14,⟨u14,q14⟩,ge⟩:=BR.out nq;have GE:=hide ge;clear BR ge;go_wp2;go_end0;exact ⟨rfl,GE.out⟩
    | [x],CL,GA=>
     obtain ⟨qf,qo,q0⟩:=sV H.out p CL GA.out;have QF:=hide qf;clear qf qo;have e10:((1:Int) == 0)=false:=rfl;by_cases hneg:tv s.tr x < 0
     ·have BR:=hide (fun j=>uE (W:=wA.drewN j) H.out p CL (by simp) (fun y hy=>by
       simp at hy;subst hy;refine H.out.pi.aI.lJ.1 ?_;unfold tv at hneg ⊢;split at hneg
       ·omega
       ·split at hneg
        ·rename_i h1 h2;rw [if_neg h1,if_pos h2]
        ·omega) (GA.out.later (mU wA j)))
      rw [show decide (tv s.tr x < 0)=true by simpa using hneg] at QF
      clear GA CL H;go_upto_region 12 with fail
      go_quiet ((go_at_call 134;exact Calls.quiet_of_same (QF.out _)))
      obtain ⟨z14,⟨u14,q14⟩,ge⟩:=BR.out nq;have GE:=hide ge;clear BR ge;go_wp2;go_end0;exact ⟨rfl,GE.out⟩
     ·rw [show decide (tv s.tr x < 0)=false by simpa using hneg] at QF
      go_upto_region 12 with fail
      go_quiet ((go_at_call 134;exact Calls.quiet_of_same (QF.out _)))
      have Yo:=hide (GA.out.later (mU wA nq));generalize wA.drewN nq=W1 at Yo ⊢;obtain ⟨-,qo,q1⟩:=sV H.out p CL Yo.out;have QO:=hide qo;clear qo QF GA q0;by_cases hop:tv s.tr x=0
      ·rw [show (tv s.tr x == 0)=true by simpa using hop] at QO
       go_upto_region 14 with fail
       go_quiet ((go_at_call 135;exact Calls.quiet_of_same (QO.out _)))
       have GA2:=hide (Yo.out.later (mU W1 nq));generalize W1.drewN nq=W2 at GA2 ⊢;have q2:=(sV H.out p CL GA2.out).2.2;have QAS:=hide (fun wx (hb:Below W2.heap.size W2 wx)=>Eh H.out p hn CL hop GA2.out hb)
       clear Yo GA2 QO q1 H CL;go_upto_region 15 with fail
       go_region_with (go_at_call 136;refine (QAS.out _ (by first | exact Below.refl _ _ | exact (Below.refl _ _).drew)).mono ?_;rintro eB wB ⟨rfl,hgB⟩;have GB:=hide hgB;clear hgB;simp only [])
       all_goals
        go_wp2;go_end0
        exact ⟨rfl,GB.out⟩
      ·rw [show (tv s.tr x == 0)=false by simpa using hop] at QO
       have hin:x ∈ s.tr:=by
        unfold tv at hop hneg;split at hop
        ·assumption
        ·split at hop
         ·rename_i h1 h2;rw [if_neg h1,if_pos h2] at hneg;omega
         ·exact absurd rfl hop
       have FT:=hide (fun j=>K4 H.out p CL hin Yo.out (mU W1 j))
       clear Yo H CL;go_upto_region 14 with fail
       go_quiet ((go_at_call 135;exact Calls.quiet_of_same (QO.out _)))
       have F:=hide (FT.out nq);go_wp2;go_end0;exact ⟨rfl,F.out⟩
   ·have F:=hide (ZY.out w8 j9 B8.out (HB9.out.1 (by first | trivial | rfl)))
    go_wp2
    first | go_end0 | refine bodyPost_ret (v:=.tuple #[]) (by simp [results,Tryz.results96,go_sem]) rfl ?_
    exact ⟨rfl,F.out⟩
end
end So
end Go.Proofs.YtceahffmenbibaaGreatDoor
