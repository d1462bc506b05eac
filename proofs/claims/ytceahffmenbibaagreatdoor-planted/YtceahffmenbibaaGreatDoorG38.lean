/- Snsa. -/
import Derived.Test.YtceahffmenbibaaGreatDoorG28
import Derived.Test.YtceahffmenbibaaGreatDoorG37
set_option linter.unusedVariables false
set_option linter.unusedSimpArgs false
set_option maxHeartbeats 4000000
namespace Go.Proofs.YtceahffmenbibaaGreatDoor
namespace So
section
open Go Go.RowKit Go.Deep Rd
theorem Tryz.KP:(Tryz.prog.info? 43).map (fun i=>(i.zero,i.size,i.bytes))=some (some (.slice none 0 0),1,24):=by kernel_rfl
def Later (a b:World):Prop:=Below a.heap.size a b
theorem Later.refl (a:World):Later a a:=Below.refl _ _
theorem Later.trans' {a b c:World} (h:Later a b) (k:Later b c):Later a c:=h.trans (k.mono h.size)
theorem Later.alloc {a b:World} (h:Later a b) (o:Obj):Later a (b.alloc o):=Below.alloc h h.size o
theorem Later.drew {a b:World} (h:Later a b):Later a b.drew:=Below.drew h
def We (iv:Value) (n ob gW g1 g2 g3 gL gS gF:Nat) (j:Nat):Value:=#[iv,.slice none 0 0,.slice none 0 0,.int .i64 0,.int .i64 0,.slice (some ⟨gW,0,none⟩) (2 * n) (2 * n),.slice none 0 0,.int .i64 0,.slice none 0 0,.slice (some ⟨g1,0,none⟩) (2 * n) (2 * n),.slice (some ⟨g2,0,none⟩) n n,.slice (some ⟨g3,0,none⟩) n n,.pointer (some ⟨ob,0,none⟩),.slice (some ⟨gL,0,none⟩) n n,.bool false,.slice none 0 0,.slice (some ⟨gS,0,none⟩) n n,.slice (some ⟨gF,0,none⟩) n n,.int .i64 100,.slice none 0 0,.int .i64 0,.int .i64 0].getD j .nilIface
structure Xy (w:World) (n:Nat) (iv:Value) (sb ob hb gW g1 g2 g3 gL gS gF lo hi:Nat) (wx:World):Prop where
 row:wx.rowIs sb 167 22 (We iv n ob gW g1 g2 g3 gL gS gF)
 rW:wx.rowIs gW 43 (2 * n) (fun _=>.slice none 0 0)
 r1:wx.rowIs g1 3 (2 * n) (fun _=>.int .i64 0)
 r2:wx.rowIs g2 3 n (fun _=>.int .i64 0)
 r3:wx.rowIs g3 3 n (fun _=>.int .i64 0)
 rL:wx.rowIs gL 3 n (fun _=>.int .i64 0)
 rS:wx.rowIs gS 4 n (fun _=>.bool false)
 rF:wx.rowIs gF 4 n (fun _=>.bool false)
 n12:g1 ≠ g2
 n13:g1 ≠ g3
 n23:g2 ≠ g3
 nL1:gL ≠ g1
 nL2:gL ≠ g2
 nL3:gL ≠ g3
 nSF:gS ≠ gF
 ord:eU (zz (fun g=>lo <= g/\g < hi) wx) ob hb n wx (fun v=>n <= v)
 hlo:w.heap.size <= lo
 hhi:hi <= wx.heap.size
 out:∀ g,g=sb\/g=gW\/g=g1\/g=g2\/g=g3\/g=gL\/g=gS\/g=gF->w.heap.size <= g/\(g < lo\/hi <= g)
 jK:Below w.heap.size w wx
theorem ic {w:World} {a b t u m k:Nat} {f h:Nat->Value} (h1:w.rowIs a t m f) (h2:w.rowIs b u k h) (hne:t ≠ u):a ≠ b:=fun e=>by
 obtain ⟨c,x1,_⟩:=h1;obtain ⟨c',x2,_⟩:=h2;rw [e,x2] at x1;exact hne (Obj.cells.inj (Option.some.inj x1)).2.1.symm
def IK (iv:Value) (n ob gW g1 g2 g3 gL gS gF:Nat) (k:Nat):Value:=if k < 13 then We iv n ob gW g1 g2 g3 gL gS gF (cellOf k) else .slice none 0 0
def nZ (i v:Nat):Value:=.int .i64 (if v < i then ((2 * v + 1:Nat):Int) else 0)
def iJ (n i:Nat) (k:Nat):List Value:=
 if k=3 then List.replicate (2 * n) (.int .i64 0) else if k=4\/k=5 then List.replicate n (.int .i64 0) else if k=6 then (List.range n).map (nZ i) else if k=9 then List.replicate (2 * n) (.slice none 0 0) else if k=10\/k=11 then List.replicate n (.bool false) else []
def YR (gW g1 g2 g3 gL gS gF:Nat) (k:Nat):Option Nat:=if k=3 then some g1 else if k=4 then some g2 else if k=5 then some g3 else if k=6 then some gL else if k=9 then some gW else if k=10 then some gS else if k=11 then some gF else none
theorem few (k:Nat):k=0\/k=1\/k=2\/k=3\/k=4\/k=5\/k=6\/k=7\/k=8\/k=9\/k=10\/k=11\/k=12\/13 <= k:=by omega
theorem sJ (iv:Value) (n ob gW g1 g2 g3 gL gS gF:Nat) (k:Nat):(IK iv n ob gW g1 g2 g3 gL gS gF k).ownBlock=YR gW g1 g2 g3 gL gS gF k:=by
 unfold IK YR
 rcases few k with rfl | rfl | rfl | rfl | rfl | rfl | rfl | rfl | rfl | rfl | rfl | rfl | rfl | h
 all_goals first | rfl | skip
 rw [if_neg (by omega),if_neg (by omega),if_neg (by omega),if_neg (by omega),if_neg (by omega),if_neg (by omega),if_neg (by omega),if_neg (by omega)];rfl
variable {Z:Nat->Prop} {w wx:World} {n sb ob hb kb gW g1 g2 g3 gL gS gF lo hi:Nat} {iv:Value}
theorem Xy.bC (h:Xy w n iv sb ob hb gW g1 g2 g3 gL gS gF lo hi wx) (hn:n <= 50) (K:Nat):oU 0 wx K iC (IK iv n ob gW g1 g2 g3 gL gS gF) (iJ n 0) where
 own:=fun k _=>by
  have o1:=jq h.r1 (by unfold maxLen;omega)
  have o2:=jq h.r2 (by unfold maxLen;omega)
  have o3:=jq h.r3 (by unfold maxLen;omega)
  have oL:=jq h.rL (by unfold maxLen;omega)
  have oW:=jq h.rW (by unfold maxLen;omega)
  have oS:=jq h.rS (by unfold maxLen;omega)
  have oF:=jq h.rF (by unfold maxLen;omega)
  rw [Ar] at o1 o2 o3 oW oS oF;have nil:∀ e,wx.ownsRow 0 e 1 (.slice none 0 0) ([]:List Value).length []:=fun e=>⟨rfl,.inl ⟨rfl,rfl⟩⟩
  rcases few k with rfl | rfl | rfl | rfl | rfl | rfl | rfl | rfl | rfl | rfl | rfl | rfl | rfl | hk
  ·exact nil _
  ·exact nil _
  ·exact nil _
  ·rw [show (iJ n 0 3).length=2 * n by simp [iJ]];exact o1
  ·rw [show (iJ n 0 4).length=n by simp [iJ]];exact o2
  ·rw [show (iJ n 0 5).length=n by simp [iJ]];exact o3
  ·have e:(List.range n).map (fun _=>Value.int .i64 0)=(List.range n).map (nZ 0):=by
    apply List.map_congr_left;intro v _;simp [nZ]
   rw [e] at oL;rw [show (iJ n 0 6).length=n by simp [iJ]];exact oL
  ·exact nil _
  ·exact nil _
  ·rw [show (iJ n 0 9).length=2 * n by simp [iJ]];exact oW
  ·rw [show (iJ n 0 10).length=n by simp [iJ]];exact oS
  ·rw [show (iJ n 0 11).length=n by simp [iJ]];exact oF
  ·exact nil _
  ·have e1:IK iv n ob gW g1 g2 g3 gL gS gF k=.slice none 0 0:=by unfold IK;rw [if_neg (by omega)]
   have e2:iJ n 0 k=[]:=by unfold iJ;rw [if_neg (by omega),if_neg (by omega),if_neg (by omega),if_neg (by omega),if_neg (by omega)]
   rw [e1,e2];exact nil _
 apart:=fun k k' _ _ hne=>by
  rw [sJ,sJ];have a1:=h.n12;have a2:=h.n13;have a3:=h.n23;have a4:=h.nL1;have a5:=h.nL2;have a6:=h.nL3;have a7:=h.nSF;have b1:gW ≠ g1:=ic h.rW h.r1 (by decide)
  have b2:gW ≠ g2:=ic h.rW h.r2 (by decide)
  have b3:gW ≠ g3:=ic h.rW h.r3 (by decide)
  have b4:gW ≠ gL:=ic h.rW h.rL (by decide)
  have b5:gW ≠ gS:=ic h.rW h.rS (by decide)
  have b6:gW ≠ gF:=ic h.rW h.rF (by decide)
  have c1:gS ≠ g1:=ic h.rS h.r1 (by decide)
  have c2:gS ≠ g2:=ic h.rS h.r2 (by decide)
  have c3:gS ≠ g3:=ic h.rS h.r3 (by decide)
  have c4:gS ≠ gL:=ic h.rS h.rL (by decide)
  have d1:gF ≠ g1:=ic h.rF h.r1 (by decide)
  have d2:gF ≠ g2:=ic h.rF h.r2 (by decide)
  have d3:gF ≠ g3:=ic h.rF h.r3 (by decide)
  have d4:gF ≠ gL:=ic h.rF h.rL (by decide)
  have big:∀ j,13 <= j->YR gW g1 g2 g3 gL gS gF j=none:=fun j hj=>by
   unfold YR;rw [if_neg (by omega),if_neg (by omega),if_neg (by omega),if_neg (by omega),if_neg (by omega),if_neg (by omega),if_neg (by omega)]
  rcases few k with rfl | rfl | rfl | rfl | rfl | rfl | rfl | rfl | rfl | rfl | rfl | rfl | rfl | hk
  all_goals first | exact .inl rfl | exact .inl (big _ hk) | skip
  all_goals
   right
   rcases few k' with rfl | rfl | rfl | rfl | rfl | rfl | rfl | rfl | rfl | rfl | rfl | rfl | rfl | hk'
   all_goals first | exact absurd rfl hne | (intro e;injection e with e;omega) | (intro e;injection e) | (rw [big _ hk'];intro e;injection e)
def nsS (iv:Value) (n ob gW g1 g2 g3 gL gS gF:Nat) (i:Nat) (Rs Ro Rd Rk:Nat->Prop):St where
 cs:=[]
 tr:=[]
 ch:=[]
 lev:=fun _=>0
 rea:=fun _=>0
 wl:=fun _=>[]
 P:=0
 sp:=0
 f:=We iv n ob gW g1 g2 g3 gL gS gF
 V:=IK iv n ob gW g1 g2 g3 gL gS gF
 X:=iJ n i
 gone:=fun v=>n <= v
 ls:=[]
 L:=[]
 m:=0
 k:=0
 r:=0
 lc:=0
 ws:=0
 mo:=100
 Rs:=Rs
 Ro:=Ro
 Rd:=Rd
 Rk:=Rk
theorem Xy.aI (h:Xy w n iv sb ob hb gW g1 g2 g3 gL gS gF lo hi wx) (hn:n <= 50) (hk:ky Z kb w []):oJ Z sb ob hb kb n wx (16 + 2 * n) (We iv n ob gW g1 g2 g3 gL gS gF) (IK iv n ob gW g1 g2 g3 gL gS gF) (iJ n 0) (fun v=>n <= v) [] (fun g=>w.heap.size <= g/\g < wx.heap.size/\¬ (lo <= g/\g < hi)) (fun g=>lo <= g/\g < hi) (fun g=>w.heap.size <= g/\g < wx.heap.size) (fun g=>Z g/\g < w.heap.size):=by
 have Za:∀ g,(g=sb\/g=gW\/g=g1\/g=g2\/g=g3\/g=gL\/g=gS\/g=gF)->g < wx.heap.size->(w.heap.size <= g/\g < wx.heap.size/\¬ (lo <= g/\g < hi)):=fun g hg hl=>by
  have:=h.out g hg;exact ⟨this.1,hl,by omega⟩
 have hal:∀ k,k < 16 + 2 * n->∀ g,(IK iv n ob gW g1 g2 g3 gL gS gF k).ownBlock=some g->(w.heap.size <= g/\g < wx.heap.size/\¬ (lo <= g/\g < hi)):=fun k hk g hg=>by
  have hl:=((h.bC hn (16 + 2 * n)).own k hk).lt g hg;refine Za g ?_ hl.2;rw [sJ] at hg;unfold YR at hg
  repeat' split at hg
  all_goals first | (cases hg;simp) | cases hg
 have hsz:=h.jK.size;have hlo:=h.hlo;have hhi:=h.hhi;refine {
  duo:={
   aG:=⟨h.row,h.bC hn _,fun k hk=>by unfold IK;rw [if_pos hk],.inl (Za sb (.inl rfl) h.row.lt),fun k hk g hg=>.inl (hal k hk g hg),fun g hg=>.inr hg,by omega⟩
   ord:=h.ord
   f12:=rfl
   xu:=fun g h1 h2=>h1.2.2 h2
   ls:=fun g h1=>h1.2.1
   lo:=fun g h1=>Nat.lt_of_lt_of_le h1.2 hhi
   zs:=fun g h1=>.inl ⟨h1.1,h1.2.1⟩
   zo:=fun g h1=>.inl ⟨Nat.le_trans hlo h1.1,Nat.lt_of_lt_of_le h1.2 hhi⟩
   az:=fun g hg=>.inr hg }
  MU:=?_
  xu:=fun g h1 h2=>by omega
  ld:=fun g h1=>h1.2
  lk:=fun g h1=>Nat.lt_of_lt_of_le h1.2 hsz
  zd:=fun g h1=>hk.az g h1.1
  zk:=fun g h1=>h1.1
  az:=fun g hg=>hk.az g (Nat.le_trans hsz hg) }
 have h1:ky (zz (fun g=>Z g/\g < w.heap.size) w) kb w []:=hk.JU (fun g hg hz=>.inl ⟨hz,hg⟩) (fun g hg=>.inr hg)
 exact h1.jT (Z':=fun _=>False) (aC.of_below h.jK) fun _ _ _ h=>h
theorem GL (n i:Nat) (hi:i < n):((List.range n).map (nZ i)).set i (.int .i64 ((2 * i + 1:Nat):Int))=(List.range n).map (nZ (i + 1)):=by
 apply List.ext_getElem
 ·simp
 ·intro j h1 h2;have hj:j < n:=by simpa using h2
  by_cases e:i=j
  ·subst e;rw [List.getElem_set_self];simp [nZ]
  ·rw [List.getElem_set_ne e];simp only [List.getElem_map,List.getElem_range,nZ];by_cases h3:j < i
   ·rw [if_pos h3,if_pos (by omega)]
   ·rw [if_neg h3,if_neg (by omega)]
theorem SL (n i:Nat) (hi:i < n):upd (iJ n i) 6 ((iJ n i 6).set i (.int .i64 ((2 * i + 1:Nat):Int)))=iJ n (i + 1):=by
 funext k
 by_cases e:k=6
 ·subst e;rw [ae];exact GL n i hi
 ·rw [aa _ _ e];unfold iJ;split
  ·rfl
  ·split
   ·rfl
   ·simp [e]
theorem o7 (a:Nat):mapOf [] a=none:=by unfold mapOf;simp
theorem SK (hn:n <= 50) (Va:n <= 30) {wr:World} {Rs Ro Rd Rk:Nat->Prop} (T:oJ Z sb ob hb kb n wr (16 + 2 * n) (We (.iface 105 (.pointer (some ⟨kb,0,none⟩))) n ob gW g1 g2 g3 gL gS gF) (IK (.iface 105 (.pointer (some ⟨kb,0,none⟩))) n ob gW g1 g2 g3 gL gS gF) (iJ n n) (fun v=>n <= v) [] Rs Ro Rd Rk):
  ∃ s,Main Z sb ob hb kb n [] 0 false wr s/\Pre s:=by
 refine ⟨nsS (.iface 105 (.pointer (some ⟨kb,0,none⟩))) n ob gW g1 g2 g3 gL gS gF n Rs Ro Rd Rk,{
  aI:=T
  pi:={
   aI:={ lt:=fun x hx=>(by cases hx),nodup:=List.nodup_nil,dX:=⟨List.Pairwise.nil,fun p hp=>(by cases hp)⟩,lev:=fun i hi=>absurd hi (Nat.not_lt_zero i) }
   lK:={ Jh:=fun i hi=>absurd hi (Nat.not_lt_zero i),why:=fun i hi=>absurd hi (Nat.not_lt_zero i) }
   jc:={ vars:=fun a c hc=>(by have:=o7 a;rw [show mapOf [] a=some c from hc] at this;cases this),lt:=fun a c hc=>(by have:=o7 a;rw [show mapOf [] a=some c from hc] at this;cases this) }
   kT:={ lists:=fun x hx a ha=>(by cases ha),two:=fun a c hc=>(by have:=o7 a;rw [show mapOf [] a=some c from hc.1] at this;cases this),nodup:=fun x hx=>List.nodup_nil }
   uo:=nI.none _ _ _ }
  x0:=rfl
  dx:=⟨rfl,rfl,by show (iJ n n 3).length=_;simp [iJ],fun x hx=>by show (iJ n n 3)[x]? = _;simp [iJ,hx,nsS,VE],by show (iJ n n 4).length=_;simp [iJ],fun v hv=>by show (iJ n n 4)[v]? = _;simp [iJ,hv,nsS],by show (iJ n n 5).length=_;simp [iJ],fun v hv=>by show (iJ n n 5)[v]? = _;simp [iJ,hv,nsS]⟩
  dL:=⟨by show (iJ n n 9).length=_;simp [iJ],fun x hx=>by
   show (iJ n n 9)[x]? = some (IK _ n ob gW g1 g2 g3 gL gS gF (16 + x))
   unfold IK;rw [if_neg (by omega)]
   simp [iJ,hx],fun x hx=>by
   show iJ n n (16 + x)=au []
   unfold iJ;rw [if_neg (by omega),if_neg (by omega),if_neg (by omega),if_neg (by omega),if_neg (by omega)];rfl⟩
  lam:=⟨by show (iJ n n 6).length=_;simp [iJ],fun v hv=>⟨2 * v + 1,by show (iJ n n 6)[v]? = _;simp [iJ,nZ,hv],by omega⟩⟩
  n10:=by show (iJ n n 10).length=_;simp [iJ]
  lD:=⟨fun _=>false,by show (iJ n n 11).length=_;simp [iJ],fun v hv=>by show (iJ n n 11)[v]? = _;simp [iJ,hv]⟩
  f0:=rfl
  f3:=rfl
  f4:=rfl
  f7:=rfl
  f14:=rfl
  f18:=rfl
  f20:=rfl
  f21:=rfl
  ze:=Nat.le_refl _
  late:=fun q hq=>by cases hq
  nH:=fun v hv hg=>by have:n <= v:=hg;omega
  yf:=fun _ a c hc=>(by have:=o7 a;rw [show mapOf [] a=some c from hc] at this;cases this)
  bad:=fun e=>by cases e
  lines:=rfl
  wK:=fun l hl=>by cases hl
  qG:=fun e=>Nat.le_refl _
  Cc:=fun c hc=>by cases hc
  num:=Nat.le_refl _
  uM:=Nat.le_refl _
  cnt:=rfl
  uJ:=rfl
  dI:=Nat.zero_le _
  lcm:=Nat.le_refl _
  km:=Nat.le_refl _
  n30:=Va },⟨rfl,rfl,rfl,rfl,rfl,rfl,rfl,rfl,rfl⟩⟩
theorem SA {aT aO aS aW aL w7 w8 w9 wz:World} (hn:n <= 50)
  (T7:Made aT g1 3 (2 * n) w7/\Made aT g2 3 n w7/\Made aT g3 3 n w7/\g1 ≠ g2/\g1 ≠ g3/\g2 ≠ g3/\Below aT.heap.size aT w7)
  (T8:eU (fun g=>aO.heap.size <= g) ob hb n w8 (fun v=>n <= v)/\Below aO.heap.size aO w8)
  (T9:aS.heap.size <= gS/\aS.heap.size <= gF/\gS ≠ gF/\Below aS.heap.size aS w9/\w9.rowIs gS 4 n (fun _=>.bool false)/\w9.rowIs gF 4 n (fun _=>.bool false))
  (fT:Later w7 wz) (fO:Later w8 wz) (fS:Later w9 wz) (fW:Later (aW.alloc (.cells (madeCells #[.slice none 0 0] (2 * n)) 43)) wz) (fL:Later (aL.alloc (.cells (madeCells #[.int .i64 0] n) 3)) wz)
  (oT:Later w aT) (oO:Later w aO) (oS:Later w aS) (oW:Later w aW) (oL:Later w aL) (TO:Later w7 aO) (OS:Later w8 aS)
  (WO:Later (aW.alloc (.cells (madeCells #[.slice none 0 0] (2 * n)) 43)) aO\/Later w8 aW) (LO:Later (aL.alloc (.cells (madeCells #[.int .i64 0] n) 3)) aO\/Later w8 aL) (LT:Later (aL.alloc (.cells (madeCells #[.int .i64 0] n) 3)) aT\/Later w7 aL):
  ∃ lo hi,Xy w n iv wz.heap.size ob hb aW.heap.size g1 g2 g3 aL.heap.size gS gF lo hi (wz.alloc (.cells #[iv,.slice none 0 0,.slice none 0 0,.int .i64 0,.int .i64 0,.slice (some ⟨aW.heap.size,0,none⟩) (2 * n) (2 * n),.slice none 0 0,.int .i64 0,.slice none 0 0,.slice (some ⟨g1,0,none⟩) (2 * n) (2 * n),.slice (some ⟨g2,0,none⟩) n n,.slice (some ⟨g3,0,none⟩) n n,.pointer (some ⟨ob,0,none⟩),.slice (some ⟨aL.heap.size,0,none⟩) n n,.bool false,.slice none 0 0,.slice (some ⟨gS,0,none⟩) n n,.slice (some ⟨gF,0,none⟩) n n,.int .i64 100,.slice none 0 0,.int .i64 0,.int .i64 0] 167)):=by
 obtain ⟨⟨m1,r1⟩,⟨m2,r2⟩,⟨m3,r3⟩,n12,n13,n23,bT⟩:=T7;obtain ⟨ho,bO⟩:=T8;obtain ⟨mS,mF,nSF,bS,rS,rF⟩:=T9;have k:∀ {x:World} {g t m:Nat} {f:Nat->Value} {o:Obj},Later x wz->x.rowIs g t m f->(wz.alloc o).rowIs g t m f:=fun hl hr=>(hr.of_block (hl.block _ hr.lt)).alloc _
 have z0:w.heap.size <= wz.heap.size:=by have:=oT.size;have:=bT.size;have:=fT.size;omega
 have s1:=oT.size;have s2:=oO.size;have s3:=oS.size;have s4:=oW.size;have s5:=oL.size;have s6:=bT.size;have s7:=bO.size;have s8:=bS.size;have f1:=fT.size;have f2:=fO.size;have f3:=fS.size;have f4:=fW.size;have f5:=fL.size;simp only [World.size_alloc] at f4 f5;have t1:=TO.size;have t2:=OS.size;have l1:=r1.lt;have l2:=r2.lt;have l3:=r3.lt;have lS:=rS.lt;have lF:=rF.lt;have wo:aW.heap.size + 1 <= aO.heap.size\/w8.heap.size <= aW.heap.size:=by
  rcases WO with h | h
  ·left;have:=h.size;simpa using this
  ·exact .inr h.size
 have lo':aL.heap.size + 1 <= aO.heap.size\/w8.heap.size <= aL.heap.size:=by
  rcases LO with h | h
  ·left;have:=h.size;simpa using this
  ·exact .inr h.size
 have lt':aL.heap.size + 1 <= aT.heap.size\/w7.heap.size <= aL.heap.size:=by
  rcases LT with h | h
  ·left;have:=h.size;simpa using this
  ·exact .inr h.size
 refine ⟨aO.heap.size,w8.heap.size,{
  row:=World.rowIs_alloc wz _ _ _ fun i hi=>?_
  rW:=k fW (World.rowIs_made aW _ _ _)
  r1:=k fT r1
  r2:=k fT r2
  r3:=k fT r3
  rL:=k fL (World.rowIs_made aL _ _ _)
  rS:=k fS rS
  rF:=k fS rF
  n12:=n12
  n13:=n13
  n23:=n23
  nL1:=by omega
  nL2:=by omega
  nL3:=by omega
  nSF:=nSF
  ord:=?_
  hlo:=s2
  hhi:=by rw [World.size_alloc];omega
  out:=fun g hg=>?_
  jK:=?_ }⟩
 ·have hi:i < 22:=hi;unfold We;rw [Array.getD_eq_getD_getElem?,Array.getElem?_eq_getElem hi];rfl
 ·have h1:eU (zz (fun g=>aO.heap.size <= g/\g < w8.heap.size) w8) ob hb n w8 (fun v=>n <= v):=ho.JU (fun g h1 h2=>.inl ⟨h2,h1⟩) (fun g hg=>.inr hg)
  exact h1.jT (Z':=fun _=>False) (aC.of_below (fO.alloc _)) fun _ _ _ h=>h
 ·rcases hg with rfl | rfl | rfl | rfl | rfl | rfl | rfl | rfl <;> omega
 ·have:=(oT.trans' bT).trans' fT;exact this.alloc _
end
end So
end Go.Proofs.YtceahffmenbibaaGreatDoor
