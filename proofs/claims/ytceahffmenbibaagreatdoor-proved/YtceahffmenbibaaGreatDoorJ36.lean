/- Snsa. -/
import Derived.Test.YtceahffmenbibaaGreatDoorJ27
import Derived.Test.YtceahffmenbibaaGreatDoorJ35
set_option linter.unusedVariables false
set_option linter.unusedSimpArgs false
set_option maxHeartbeats 4000000
namespace Go.Proofs.YtceahffmenbibaaGreatDoor
namespace So
section
open Go Go.RowKit Go.Deep Rd
section
theorem Tryz.Ky:(Tryz.prog.info? 43).map (fun i=>(i.zero,i.size,i.bytes))=some (some (.slice none 0 0),1,24):=by kernel_rfl
def Later (a b:World):Prop:=Below a.heap.size a b
theorem Later.refl (a:World):Later a a:=bR
theorem Later.trans' {a b c:World} (h:Later a b) (k:Later b c):Later a c:=h.trans (k.mono h.size)
theorem Later.alloc {a b:World} (h:Later a b) (o:Obj):Later a (b.alloc o):=Below.alloc h h.size o
theorem Later.drew {a b:World} (h:Later a b):Later a b.drew:=Below.drew h
def Tu (iv:Value) (n ob gW g1 g2 g3 gL gS gF:Nat) (j:Nat):Value:=#[iv,.slice none 0 0,.slice none 0 0,.int .i64 0,.int .i64 0,.slice (some ⟨gW,0,none⟩) (2 * n) (2 * n),.slice none 0 0,.int .i64 0,.slice none 0 0,.slice (some ⟨g1,0,none⟩) (2 * n) (2 * n),.slice (some ⟨g2,0,none⟩) n n,.slice (some ⟨g3,0,none⟩) n n,.pointer (some ⟨ob,0,none⟩),.slice (some ⟨gL,0,none⟩) n n,.bool false,.slice none 0 0,.slice (some ⟨gS,0,none⟩) n n,.slice (some ⟨gF,0,none⟩) n n,.int .i64 100,.slice none 0 0,.int .i64 0,.int .i64 0].getD j .nilIface
structure Ub (w:World) (n:Nat) (iv:Value) (sb ob hb gW g1 g2 g3 gL gS gF lo hi:Nat) (wx:World):Prop where
 row:wx.rowIs sb 167 22 (Tu iv n ob gW g1 g2 g3 gL gS gF)
 rW:wx.rowIs gW 43 (2 * n) (fun _=>.slice none 0 0)
 r1:wx.rowIs g1 3 (2 * n) (fun _=>.int .i64 0)
 r2:wx.rowIs g2 3 n (fun _=>.int .i64 0)
 r3:wx.rowIs g3 3 n (fun _=>.int .i64 0)
 rL:wx.rowIs gL 3 n (fun _=>.int .i64 0)
 rS:wx.rowIs gS 4 n (fun _=>.bool false)
 rF:wx.rowIs gF 4 n (fun _=>.bool false)
 n12:g1 ≠ g2
 n13:g1 ≠ g3
 n23:g2 ≠ g3
 Wj:gL ≠ g1
 Wi:gL ≠ g2
 Wh:gL ≠ g3
 Vl:gS ≠ gF
 ord:iI (zz (fun g=>lo <= g/\g < hi) wx) ob hb n wx (fun v=>n <= v)
 hlo:w.heap.size <= lo
 hhi:hi <= wx.heap.size
 out:∀ g,g=sb\/g=gW\/g=g1\/g=g2\/g=g3\/g=gL\/g=gS\/g=gF->w.heap.size <= g/\(g < lo\/hi <= g)
 ny:Below w.heap.size w wx
theorem jX {w:World} {a b t u m k:Nat} {f h:Nat->Value} (l:w.rowIs a t m f) (j:w.rowIs b u k h) (d:t ≠ u):a ≠ b:=fun e=>by
 obtain ⟨c,g,_⟩:=l;obtain ⟨o,i,_⟩:=j;rw [e,i] at g;exact d (Obj.cells.inj (Option.some.inj g)).2.1.symm
def IV (iv:Value) (n ob gW g1 g2 g3 gL gS gF:Nat) (k:Nat):Value:=if k < 13 then Tu iv n ob gW g1 g2 g3 gL gS gF (cellOf k) else .slice none 0 0
def qK (i v:Nat):Value:=.int .i64 (if v < i then ((2 * v + 1:Nat):Int) else 0)
def kT (n i:Nat) (k:Nat):List Value:=
 if k=3 then List.replicate (2 * n) (.int .i64 0) else if k=4\/k=5 then List.replicate n (.int .i64 0) else if k=6 then (List.range n).map (qK i) else if k=9 then List.replicate (2 * n) (.slice none 0 0) else if k=10\/k=11 then List.replicate n (.bool false) else []
def UK (gW g1 g2 g3 gL gS gF:Nat) (k:Nat):Option Nat:=if k=3 then some g1 else if k=4 then some g2 else if k=5 then some g3 else if k=6 then some gL else if k=9 then some gW else if k=10 then some gS else if k=11 then some gF else none
theorem few (k:Nat):k=0\/k=1\/k=2\/k=3\/k=4\/k=5\/k=6\/k=7\/k=8\/k=9\/k=10\/k=11\/k=12\/13 <= k:=by omega
theorem uO (iv:Value) (n ob gW g1 g2 g3 gL gS gF:Nat) (k:Nat):(IV iv n ob gW g1 g2 g3 gL gS gF k).ownBlock=UK gW g1 g2 g3 gL gS gF k:=by
 unfold IV UK
 rcases few k with rfl | rfl | rfl | rfl | rfl | rfl | rfl | rfl | rfl | rfl | rfl | rfl | rfl | h
 all_goals first | rfl | skip
 rw [if_neg (by omega),if_neg (by omega),if_neg (by omega),if_neg (by omega),if_neg (by omega),if_neg (by omega),if_neg (by omega),if_neg (by omega)];rfl
variable {Z:Nat->Prop} {w wx:World} {n sb ob hb kb gW g1 g2 g3 gL gS gF lo hi:Nat} {iv:Value}
theorem Ub.fG (h:Ub w n iv sb ob hb gW g1 g2 g3 gL gS gF lo hi wx) (u:n <= 50) (K:Nat):rQ 0 wx K ni (IV iv n ob gW g1 g2 g3 gL gS gF) (kT n 0) where
 own:=fun k _=>by
  have p:=lY h.r1 (by unfold maxLen;omega);have o:=lY h.r2 (by unfold maxLen;omega);have m:=lY h.r3 (by unfold maxLen;omega);have i:=lY h.rL (by unfold maxLen;omega);have f:=lY h.rW (by unfold maxLen;omega);have g:=lY h.rS (by unfold maxLen;omega);have l:=lY h.rF (by unfold maxLen;omega);rw [BO] at p o m f g l;have a:∀ e,wx.ownsRow 0 e 1 (.slice none 0 0) ([]:List Value).length []:=fun e=>⟨rfl,.inl ⟨rfl,rfl⟩⟩
  rcases few k with rfl | rfl | rfl | rfl | rfl | rfl | rfl | rfl | rfl | rfl | rfl | rfl | rfl | q
  ·exact a _
  ·exact a _
  ·exact a _
  ·rw [show (kT n 0 3).length=2 * n by simp [kT]];exact p
  ·rw [show (kT n 0 4).length=n by simp [kT]];exact o
  ·rw [show (kT n 0 5).length=n by simp [kT]];exact m
  ·have e:(List.range n).map (fun _=>Value.int .i64 0)=(List.range n).map (qK 0):=by
    apply List.map_congr_left;intro v _;simp [qK]
   rw [e] at i;rw [show (kT n 0 6).length=n by simp [kT]];exact i
  ·exact a _
  ·exact a _
  ·rw [show (kT n 0 9).length=2 * n by simp [kT]];exact f
  ·rw [show (kT n 0 10).length=n by simp [kT]];exact g
  ·rw [show (kT n 0 11).length=n by simp [kT]];exact l
  ·exact a _
  ·have t:IV iv n ob gW g1 g2 g3 gL gS gF k=.slice none 0 0:=by unfold IV;rw [if_neg (by omega)]
   have s:kT n 0 k=[]:=by unfold kT;rw [if_neg (by omega),if_neg (by omega),if_neg (by omega),if_neg (by omega),if_neg (by omega)]
   rw [t,s];exact a _
 apart:=fun k r _ _ c=>by
  rw [uO,uO];have T:=h.n12;have S:=h.n13;have R:=h.n23;have Q:=h.Wj;have P:=h.Wi;have O:=h.Wh;have N:=h.Vl;have M:gW ≠ g1:=jX h.rW h.r1 (by decide);have L:gW ≠ g2:=jX h.rW h.r2 (by decide);have J:gW ≠ g3:=jX h.rW h.r3 (by decide);have I:gW ≠ gL:=jX h.rW h.rL (by decide);have H:gW ≠ gS:=jX h.rW h.rS (by decide);have G:gW ≠ gF:=jX h.rW h.rF (by decide);have F:gS ≠ g1:=jX h.rS h.r1 (by decide);have E:gS ≠ g2:=jX h.rS h.r2 (by decide);have D:gS ≠ g3:=jX h.rS h.r3 (by decide);have C:gS ≠ gL:=jX h.rS h.rL (by decide);have B:gF ≠ g1:=jX h.rF h.r1 (by decide);have A:gF ≠ g2:=jX h.rF h.r2 (by decide);have z:gF ≠ g3:=jX h.rF h.r3 (by decide);have y:gF ≠ gL:=jX h.rF h.rL (by decide);have b:∀ j,13 <= j->UK gW g1 g2 g3 gL gS gF j=none:=fun j x=>by
   unfold UK;rw [if_neg (by omega),if_neg (by omega),if_neg (by omega),if_neg (by omega),if_neg (by omega),if_neg (by omega),if_neg (by omega)]
  rcases few k with rfl | rfl | rfl | rfl | rfl | rfl | rfl | rfl | rfl | rfl | rfl | rfl | rfl | q
  all_goals first | exact .inl rfl | exact .inl (b _ q) | skip
  all_goals
   right
   rcases few r with rfl | rfl | rfl | rfl | rfl | rfl | rfl | rfl | rfl | rfl | rfl | rfl | rfl | d
   all_goals first | exact absurd rfl c | (intro e;injection e with e;omega) | (intro e;injection e) | (rw [b _ d];intro e;injection e)
def Vk (iv:Value) (n ob gW g1 g2 g3 gL gS gF:Nat) (i:Nat) (Rs Ro Rd Rk:Nat->Prop):St where
 cs:=[]
 tr:=[]
 ch:=[]
 lev:=fun _=>0
 dB:=fun _=>0
 wl:=fun _=>[]
 P:=0
 sp:=0
 f:=Tu iv n ob gW g1 g2 g3 gL gS gF
 V:=IV iv n ob gW g1 g2 g3 gL gS gF
 X:=kT n i
 gone:=fun v=>n <= v
 ls:=[]
 L:=[]
 m:=0
 k:=0
 r:=0
 lc:=0
 ws:=0
 mo:=100
 Rs:=Rs
 Ro:=Ro
 Rd:=Rd
 Rk:=Rk
theorem Ub.dN (h:Ub w n iv sb ob hb gW g1 g2 g3 gL gS gF lo hi wx) (m:n <= 50) (c:nE Z kb w []):sN Z sb ob hb kb n wx (16 + 2 * n) (Tu iv n ob gW g1 g2 g3 gL gS gF) (IV iv n ob gW g1 g2 g3 gL gS gF) (kT n 0) (fun v=>n <= v) [] (fun g=>w.heap.size <= g/\g < wx.heap.size/\¬ (lo <= g/\g < hi)) (fun g=>lo <= g/\g < hi) (fun g=>w.heap.size <= g/\g < wx.heap.size) (fun g=>Z g/\g < w.heap.size):=by
 have d:∀ g,(g=sb\/g=gW\/g=g1\/g=g2\/g=g3\/g=gL\/g=gS\/g=gF)->g < wx.heap.size->(w.heap.size <= g/\g < wx.heap.size/\¬ (lo <= g/\g < hi)):=fun g b j=>by
  have:=h.out g b;exact ⟨this.1,j,by omega⟩
 have l:∀ k,k < 16 + 2 * n->∀ g,(IV iv n ob gW g1 g2 g3 gL gS gF k).ownBlock=some g->(w.heap.size <= g/\g < wx.heap.size/\¬ (lo <= g/\g < hi)):=fun k c g b=>by
  have j:=((h.fG m (16 + 2 * n)).own k c).lt g b;refine d g ?_ j.2;rw [uO] at b;unfold UK at b
  repeat' split at b
  all_goals first | (cases b;simp) | cases b
 have e:=h.ny.size;have i:=h.hlo;have f:=h.hhi;refine {
  duo:={
   dM:=⟨h.row,h.fG m _,fun k c=>by unfold IV;rw [if_pos c],.inl (d sb (.inl rfl) h.row.lt),fun k c g b=>.inl (l k c g b),fun g b=>.inr b,by omega⟩
   ord:=h.ord
   f12:=rfl
   yB:=fun g a o=>a.2.2 o
   ls:=fun g a=>a.2.1
   lo:=fun g a=>Nat.lt_of_lt_of_le a.2 f
   zs:=fun g a=>.inl ⟨a.1,a.2.1⟩
   zo:=fun g a=>.inl ⟨Nat.le_trans i a.1,Nat.lt_of_lt_of_le a.2 f⟩
   az:=fun g b=>.inr b }
  L6:=?_
  yB:=fun g a o=>by omega
  ld:=fun g a=>a.2
  lk:=fun g a=>Nat.lt_of_lt_of_le a.2 e
  zd:=fun g a=>c.az g a.1
  zk:=fun g a=>a.1
  az:=fun g b=>c.az g (Nat.le_trans e b) }
 have a:nE (zz (fun g=>Z g/\g < w.heap.size) w) kb w []:=c.JS (fun g b p=>.inl ⟨p,b⟩) (fun g b=>.inr b);exact a.mX (Z':=fun _=>False) (dD.of_below h.ny) fun _ _ _ h=>h
theorem Ha (n i:Nat) (hi:i < n):((List.range n).map (qK i)).set i (.int .i64 ((2 * i + 1:Nat):Int))=(List.range n).map (qK (i + 1)):=by
 apply List.ext_getElem
 ·simp
 ·intro j d b;have c:j < n:=by simpa using b
  by_cases e:i=j
  ·subst e;rw [List.getElem_set_self];simp [qK]
  ·rw [List.getElem_set_ne e];simp only [List.getElem_map,List.getElem_range,qK];by_cases a:j < i
   ·rw [if_pos a,if_pos (by omega)]
   ·rw [if_neg a,if_neg (by omega)]
theorem Qd (n i:Nat) (hi:i < n):upd (kT n i) 6 ((kT n i 6).set i (.int .i64 ((2 * i + 1:Nat):Int)))=kT n (i + 1):=by
 funext k
 by_cases e:k=6
 ·subst e;rw [cK];exact Ha n i hi
 ·rw [cu _ _ e];unfold kT;split
  ·rfl
  ·split
   ·rfl
   ·simp [e]
theorem rA (a:Nat):mapOf [] a=none:=by unfold mapOf;simp
theorem Qc (z:n <= 50) (g:n <= 30) {wr:World} {h j m k:Nat->Prop} (T:sN Z sb ob hb kb n wr (16 + 2 * n) (Tu (.iface 105 (.pointer (some ⟨kb,0,none⟩))) n ob gW g1 g2 g3 gL gS gF) (IV (.iface 105 (.pointer (some ⟨kb,0,none⟩))) n ob gW g1 g2 g3 gL gS gF) (kT n n) (fun v=>n <= v) [] h j m k):
  ∃ s,Main Z sb ob hb kb n [] 0 false wr s/\Pre s:=by
 refine ⟨Vk (.iface 105 (.pointer (some ⟨kb,0,none⟩))) n ob gW g1 g2 g3 gL gS gF n h j m k,{
  dN:=T
  pi:={
   dN:={ lt:=fun x d=>(by cases d),nodup:=List.nodup_nil,gY:=⟨List.Pairwise.nil,fun p r=>(by cases r)⟩,lev:=fun i hi=>absurd hi (Nat.not_lt_zero i) }
   qg:={ Oi:=fun i hi=>absurd hi (Nat.not_lt_zero i),why:=fun i hi=>absurd hi (Nat.not_lt_zero i) }
   oC:={ vars:=fun a c b=>(by have:=rA a;rw [show mapOf [] a=some c from b] at this;cases this),lt:=fun a c b=>(by have:=rA a;rw [show mapOf [] a=some c from b] at this;cases this) }
   qj:={ lists:=fun x d a y=>(by cases y),two:=fun a c b=>(by have:=rA a;rw [show mapOf [] a=some c from b.1] at this;cases this),nodup:=fun x d=>List.nodup_nil }
   zn:=sO.none _ _ _ }
  x0:=rfl
  iD:=⟨rfl,rfl,by show (kT n n 3).length=_;simp [kT],fun x d=>by show (kT n n 3)[x]? = _;simp [kT,d,Vk,Ta],by show (kT n n 4).length=_;simp [kT],fun v f=>by show (kT n n 4)[v]? = _;simp [kT,f,Vk],by show (kT n n 5).length=_;simp [kT],fun v f=>by show (kT n n 5)[v]? = _;simp [kT,f,Vk]⟩
  jk:=⟨by show (kT n n 9).length=_;simp [kT],fun x d=>by
   show (kT n n 9)[x]? = some (IV _ n ob gW g1 g2 g3 gL gS gF (16 + x))
   unfold IV;rw [if_neg (by omega)];simp [kT,d],fun x d=>by
   show kT n n (16 + x)=dC []
   unfold kT;rw [if_neg (by omega),if_neg (by omega),if_neg (by omega),if_neg (by omega),if_neg (by omega)];rfl⟩
  lam:=⟨by show (kT n n 6).length=_;simp [kT],fun v f=>⟨2 * v + 1,by show (kT n n 6)[v]? = _;simp [kT,qK,f],by omega⟩⟩
  n10:=by show (kT n n 10).length=_;simp [kT]
  p9:=⟨fun _=>false,by show (kT n n 11).length=_;simp [kT],fun v f=>by show (kT n n 11)[v]? = _;simp [kT,f]⟩
  f0:=rfl
  f3:=rfl
  f4:=rfl
  f7:=rfl
  f14:=rfl
  f18:=rfl
  f20:=rfl
  f21:=rfl
  Gg:=lr
  late:=fun q o=>by cases o
  sQ:=fun v f u=>by have:n <= v:=u;omega
  Dk:=fun _ a c b=>(by have:=rA a;rw [show mapOf [] a=some c from b] at this;cases this)
  bad:=fun e=>by cases e
  lines:=rfl
  Lf:=fun l t=>by cases t
  Cr:=fun e=>lr
  Jd:=fun c b=>by cases b
  num:=lr
  Le:=lr
  cnt:=rfl
  Lj:=rfl
  ic:=zl
  lcm:=lr
  km:=lr
  n30:=g },⟨rfl,rfl,rfl,rfl,rfl,rfl,rfl,rfl,rfl⟩⟩
theorem Qb {j c p d aL e a q b:World} (hn:n <= 50)
  (V:Made j g1 3 (2 * n) e/\Made j g2 3 n e/\Made j g3 3 n e/\g1 ≠ g2/\g1 ≠ g3/\g2 ≠ g3/\Below j.heap.size j e)
  (U:iI (fun g=>c.heap.size <= g) ob hb n a (fun v=>n <= v)/\Below c.heap.size c a)
  (S:p.heap.size <= gS/\p.heap.size <= gF/\gS ≠ gF/\Below p.heap.size p q/\q.rowIs gS 4 n (fun _=>.bool false)/\q.rowIs gF 4 n (fun _=>.bool false))
  (l:Later e b) (B:Later a b) (y:Later q b) (fW:Later (d.alloc (.cells (madeCells #[.slice none 0 0] (2 * n)) 43)) b) (fL:Later (aL.alloc (.cells (madeCells #[.int .i64 0] n) 3)) b)
  (r:Later w j) (F:Later w c) (E:Later w p) (D:Later w d) (G:Later w aL) (R:Later e c) (W:Later a p)
  (Q:Later (d.alloc (.cells (madeCells #[.slice none 0 0] (2 * n)) 43)) c\/Later a d) (X:Later (aL.alloc (.cells (madeCells #[.int .i64 0] n) 3)) c\/Later a aL) (LT:Later (aL.alloc (.cells (madeCells #[.int .i64 0] n) 3)) j\/Later e aL):
  ∃ lo hi,Ub w n iv b.heap.size ob hb d.heap.size g1 g2 g3 aL.heap.size gS gF lo hi (b.alloc (.cells #[iv,.slice none 0 0,.slice none 0 0,.int .i64 0,.int .i64 0,.slice (some ⟨d.heap.size,0,none⟩) (2 * n) (2 * n),.slice none 0 0,.int .i64 0,.slice none 0 0,.slice (some ⟨g1,0,none⟩) (2 * n) (2 * n),.slice (some ⟨g2,0,none⟩) n n,.slice (some ⟨g3,0,none⟩) n n,.pointer (some ⟨ob,0,none⟩),.slice (some ⟨aL.heap.size,0,none⟩) n n,.bool false,.slice none 0 0,.slice (some ⟨gS,0,none⟩) n n,.slice (some ⟨gF,0,none⟩) n n,.int .i64 100,.slice none 0 0,.int .i64 0,.int .i64 0] 167)):=by
 obtain ⟨⟨m1,r1⟩,⟨m2,r2⟩,⟨m3,r3⟩,n12,n13,n23,z⟩:=V;obtain ⟨J,P⟩:=U;obtain ⟨mS,mF,Vl,O,rS,rF⟩:=S;have k:∀ {x:World} {g t m:Nat} {f:Nat->Value} {o:Obj},Later x b->x.rowIs g t m f->(b.alloc o).rowIs g t m f:=fun K A=>(A.of_block (K.block _ A.lt)).alloc _
 have Y:w.heap.size <= b.heap.size:=by have:=r.size;have:=z.size;have:=l.size;omega
 have s1:=r.size;have C:=F.size;have s3:=E.size;have s4:=D.size;have s5:=G.size;have s6:=z.size;have s7:=P.size;have s8:=O.size;have f1:=l.size;have f2:=B.size;have f3:=y.size;have N:=fW.size;have M:=fL.size;simp only [World.size_alloc] at N M;have t1:=R.size;have t2:=W.size;have l1:=r1.lt;have l2:=r2.lt;have l3:=r3.lt;have lS:=rS.lt;have lF:=rF.lt;have wo:d.heap.size + 1 <= c.heap.size\/a.heap.size <= d.heap.size:=by
  rcases Q with h | h
  ·left;have:=h.size;simpa using this
  ·exact .inr h.size
 have I:aL.heap.size + 1 <= c.heap.size\/a.heap.size <= aL.heap.size:=by
  rcases X with h | h
  ·left;have:=h.size;simpa using this
  ·exact .inr h.size
 have H:aL.heap.size + 1 <= j.heap.size\/e.heap.size <= aL.heap.size:=by
  rcases LT with h | h
  ·left;have:=h.size;simpa using this
  ·exact .inr h.size
 refine ⟨c.heap.size,a.heap.size,{
  row:=World.rowIs_alloc b _ _ _ fun i hi=>?_
  rW:=k fW (World.rowIs_made d _ _ _)
  r1:=k l r1
  r2:=k l r2
  r3:=k l r3
  rL:=k fL (World.rowIs_made aL _ _ _)
  rS:=k y rS
  rF:=k y rF
  n12:=n12
  n13:=n13
  n23:=n23
  Wj:=by omega
  Wi:=by omega
  Wh:=by omega
  Vl:=Vl
  ord:=?_
  hlo:=C
  hhi:=by rw [World.size_alloc];omega
  out:=fun g s=>?_
  ny:=?_ }⟩
 ·have hi:i < 22:=hi;unfold Tu;rw [Array.getD_eq_getD_getElem?,Array.getElem?_eq_getElem hi];rfl
 ·have u:iI (zz (fun g=>c.heap.size <= g/\g < a.heap.size) a) ob hb n a (fun v=>n <= v):=J.JS (fun g u L=>.inl ⟨L,u⟩) (fun g s=>.inr s);exact u.mX (Z':=fun _=>False) (dD.of_below (B.alloc _)) fun _ _ _ h=>h
 ·rcases s with rfl | rfl | rfl | rfl | rfl | rfl | rfl | rfl <;> omega
 ·have:=(r.trans' z).trans' l;exact this.alloc _
end
end
end So
end Go.Proofs.YtceahffmenbibaaGreatDoor
