/- Ssh2 Ssh3 Ssh4 Ssh5 Ssh6 Ssh7. -/
import Derived.Test.YtceahffmenbibaaGreatDoorG37
set_option linter.unusedVariables false
set_option linter.unusedSimpArgs false
set_option maxHeartbeats 4000000
set_option maxRecDepth 100000
namespace Go.Proofs.YtceahffmenbibaaGreatDoor
namespace So
section
open Go Go.RowKit Go.Deep Rd
section
variable {Z:Nat->Prop} {sb K n:Nat} {w w' wr:World} {f V:Nat->Value} {X:Nat->List Value} {cs jI:List Rec} {G C OB k:Nat} {v0:Value}
theorem Od {α:Type} (f:Nat->α) {i j:Nat} (h:i ≠ j) (a b:α):upd (upd f i a) j b=upd (upd f j b) i a:=by
 funext x
 unfold upd;by_cases c:x=i
 ·subst c;simp [h]
 ·by_cases d:x=j
  ·subst d;simp [c]
  ·simp [c,d]
theorem zY.later (h:zY Z sb w K f V X cs G C OB k jI v0 wr) (hb:Below wr.heap.size wr w'):zY Z sb w K f V X cs G C OB k jI v0 w':={ h with
 dH:=h.dH.later hb
 eP:=h.eP.trans (dC.of_below hb)
 box:=by rw [hb.cell (p:=⟨OB,0,none⟩) (block_lt_of_cell h.box)];exact h.box
 old:=ownB h.old fun g a=>hb.block g (h.old.lt g a).2 }
theorem zY.dead (h:zY Z sb w K f V X cs G C OB k jI v0 wr) (d:k < cs.length) (hd:(cs[k]).kind=2):zY Z sb w K f V X cs G C OB (k + 1) jI v0 wr:={ h with
 dH:=by rw [Fu d hd];exact h.dH
 Wp:=fun i b a g c=>by
  by_cases e:i=k
  ·subst e;exact absurd hd c
  ·exact h.Wp i b a (by omega) c
 not:=fun i b a g=>h.not i b a (by omega) }
theorem zY.same (h:zY Z sb w K f V X cs G C OB k jI v0 wr) (e:k < cs.length):∃ d:k < jI.length,jI[k]=cs[k]/\dw jI k=dw cs k:=by
 have d:k < jI.length:=by rw [h.Rq.1];exact e
 refine ⟨d,?_,h.Rq.dw k (by omega)⟩
 obtain ⟨j,i⟩:=h.Rq.2 k e d;have g:=h.not k d e lr
 cases l:jI[k] with
 | mk a b c=>
  cases m:cs[k] with
  | mk a' b' c'=>
   rw [l,m] at j i g;simp only at j i g;rw [j,i,g]
theorem zY.at (h:zY Z sb w K f V X cs G C OB k jI v0 wr) (b:k < cs.length):∀ j,j < 3 + (cs[k]).lits.length->wr.cell? ⟨G,dw cs k + j,none⟩=(ints (enc1 cs[k]))[j]? := fun j g=>by
 obtain ⟨a,e,i⟩:=h.same b;have d:=eF b;have c:=h.old.cellAt (dw cs k + j) (by omega)
 rw [c,lU,lU,<- i,qi a j (by rw [e];exact g),e]
theorem zY.live {b:Value} {w6 W:World} (h:zY Z sb w K f V X cs G C OB k jI v0 wr) (x:k < cs.length) (hd:(cs[k]).kind ≠ 2)
  (A:dB wr 0 3 1 v0 (enc (kS cs k)).length (ints (enc (kS cs k))) (3 + (cs[k]).lits.length) (ints (enc1 cs[k])) b w6) (p:Below (w6.setCell ⟨sb,2,none⟩ b).heap.size (w6.setCell ⟨sb,2,none⟩ b) W):
  zY Z sb w K f V X cs G C OB (k + 1) (jI.set k ⟨(cs[k]).kind,(((enc (kS cs k)).length:Nat):Int),(cs[k]).lits⟩) b (W.setCell ⟨G,dw cs k + 2,none⟩ (.int .i64 (((enc (kS cs k)).length:Nat):Int))):=by
 have hK:=h.dH.hK;obtain ⟨m,M,L⟩:=h.same x;have J:=eF x;have D:G < wr.heap.size:=(h.old.lt G rfl).2;have B:OB < wr.heap.size:=block_lt_of_cell h.box;have d:v0.ownBlock ≠ some G:=by have:=h.ng 0 (by omega);rw [cK] at this;exact this
 have c:v0.ownBlock ≠ some OB:=by have:=h.no 0 (by omega);rw [cK] at this;exact this
 have A':dB wr 0 (kP 0) 1 ((upd V 0 v0) 0) ((upd X 0 (ints (enc (kS cs k)))) 0).length ((upd X 0 (ints (enc (kS cs k)))) 0) (3 + (cs[k]).lits.length) (ints (enc1 cs[k])) b w6:=by
  rw [cK,cK,fV];exact A
 obtain ⟨H,U,_⟩:=h.dH.Va (k:=0) (by omega) (by rw [fV,fZ]) A'
 rw [show cellOf 0=2 from rfl,Od _ (by decide),eQ,eQ,eQ,cK,show ints (enc (kS cs k)) ++ ints (enc1 cs[k])=ints (enc (kS cs (k + 1))) by rw [yT x hd,zu];simp [ints]] at H
 have P:wr.heap.size <= w6.heap.size:=A.grew.size;have I:w6.heap.size <= W.heap.size:=by have:=p.size;simp [World.setCell] at this;omega
 have r:b.ownBlock ≠ some G:=fun e=>by
  rcases A.at' with a | a
  ·rw [a] at e;exact d e
  ·rw [a] at e;have:=Option.some.inj e;omega
 have q:b.ownBlock ≠ some OB:=fun e=>by
  rcases A.at' with a | a
  ·rw [a] at e;exact c e
  ·rw [a] at e;have:=Option.some.inj e;omega
 have l:∀ j,j < K->(upd V 0 b j).ownBlock ≠ some G:=fun j y=>by
  by_cases e:j=0
  ·subst e;rw [cK];exact r
  ·have:=h.ng j y;rw [cz _ _ e] at this ⊢;exact this
 have u:∀ j,j < K->(upd V 0 b j).ownBlock ≠ some OB:=fun j y=>by
  by_cases e:j=0
  ·subst e;rw [cK];exact q
  ·have:=h.no j y;rw [cz _ _ e] at this ⊢;exact this
 have o:∀ g,g < wr.heap.size->g ≠ sb->v0.ownBlock ≠ some g->W.heap[g]? = wr.heap[g]? := fun g z R Q=>by
  rw [p.block g (by simp [World.setCell];omega),Below.heap_setCell _ _ _ _ (by simpa using R),A.grew.block g z (fun e=>Q e.symm)]
 exact {
  dH:=(H.later p).keep (dC.setCell (Z:=fun k=>k=G) (dC.refl W) (show (fun k=>k=G) G from rfl) _) h.gs l
  eP:=((h.eP.trans U).trans (dC.of_below p)).setCell h.zg _
  Rq:=by
   have:=h.Rq.trans (fH.set m (((enc (kS cs k)).length:Nat):Int));rw [M] at this;exact this
  Wp:=fun i F E a3 a4=>by
   by_cases e:k=i
   ·subst e;rw [List.getElem_set_self]
   ·rw [List.getElem_set_ne e];exact h.Wp i (by simpa using F) E (by omega) a4
  not:=fun i F E a3=>by
   rw [List.getElem_set_ne (by omega)]
   exact h.not i (by simpa using F) E (by omega)
  box:=by
   have v:OB ≠ G:=h.go;have b1:W.cell? ⟨OB,0,none⟩=wr.cell? ⟨OB,0,none⟩:=by
    unfold World.cell?;simp only [o OB B h.os c]
   have Y:(W.setCell ⟨G,dw cs k + 2,none⟩ (.int .i64 (((enc (kS cs k)).length:Nat):Int))).cell? ⟨OB,0,none⟩=W.cell? ⟨OB,0,none⟩:=by
    unfold World.cell?;simp only [Below.heap_setCell _ _ _ _ (show OB ≠ (⟨G,dw cs k + 2,none⟩:Addr).block from v)]
   rw [Y,b1];exact h.box
  old:=by
   have O:W.ownsRow 0 3 1 (.slice (some ⟨G,0,none⟩) (enc cs).length C) (enc cs).length (ints (enc jI)):=ownB h.old fun g z=>by
    have e:g=G:=(Option.some.inj z).symm;subst e;exact o _ D h.gs d
   have t:=(O.stored (dw cs k + 2) (.int .i64 (((enc (kS cs k)).length:Nat):Int))).1;rw [ints_set,<- L] at t;have S:=ry m (((enc (kS cs k)).length:Nat):Int);rw [<- S,M,L] at t;exact t
  gs:=h.gs
  os:=h.os
  go:=h.go
  zg:=h.zg
  ng:=l
  no:=u }
theorem zY.We (h:zY Z sb w K f V X cs G C OB k jI v0 wr) {i:Nat} (hi:i < cs.length):wr.cell? ⟨G,dw cs i,none⟩=some (.int .i64 (((cs[i]).lits.length:Nat):Int)):=by
 have a:i < jI.length:=by rw [h.Rq.1];exact hi
 have e:=h.Rq.dw i (by omega)
 obtain ⟨_,g⟩:=h.Rq.2 i hi a;have b:=eF hi;have c:=h.old.cellAt (dw cs i) (by omega)
 have d:=qi a 0 (by omega)
 rw [Nat.add_zero,e] at d;rw [c,lU,d];show some _=_
 rw [g]
theorem zY.mid {d:Value} {w6:World} {m:Nat} {news:List Value} (h:zY Z sb w K f V X cs G C OB k jI v0 wr) (q:k < cs.length)
  (A:dB wr 0 3 1 v0 (enc (kS cs k)).length (ints (enc (kS cs k))) m news d w6):
  (w6.setCell ⟨sb,2,none⟩ d).cell? ⟨OB,0,none⟩=some (.slice (some ⟨G,0,none⟩) (enc cs).length C)/\(∃ u,(w6.setCell ⟨sb,2,none⟩ d).cell? ⟨G,dw cs k + 2,none⟩=some u)/\(w6.setCell ⟨sb,2,none⟩ d).frozen? ⟨G,dw cs k + 2,none⟩=false/\w6.frozen? ⟨sb,2,none⟩=false/\w6.cell? ⟨sb,2,none⟩=some v0:=by
 have z:=h.dH.hK;have r:=eF q;have l:G < wr.heap.size:=(h.old.lt G rfl).2;have p:OB < wr.heap.size:=block_lt_of_cell h.box;have b:v0.ownBlock ≠ some G:=by have:=h.ng 0 (by omega);rw [cK] at this;exact this
 have j:v0.ownBlock ≠ some OB:=by have:=h.no 0 (by omega);rw [cK] at this;exact this
 have i:v0.ownBlock ≠ some sb:=fun e=>by have:=h.dH.far (k:=0) (by omega) sb (by rw [cK];exact e);exact this rfl
 have c:∀ g,g < wr.heap.size->g ≠ sb->v0.ownBlock ≠ some g->(w6.setCell ⟨sb,2,none⟩ d).heap[g]? = wr.heap[g]? := fun g v y x=>by
  rw [Below.heap_setCell _ _ _ _ (by simpa using y),A.grew.block g v (fun e=>x e.symm)]
 have t:w6.heap[sb]? = wr.heap[sb]? := A.grew.block sb h.dH.row.lt (fun e=>i e.symm)
 have o:=h.dH.head 2 (by omega)
 rw [cz _ _ (by decide),cK] at o
 refine ⟨?_,?_,?_,?_,?_⟩
 ·rw [World.cell?_of_block (a:=⟨OB,0,none⟩) (c OB p h.os j)];exact h.box
 ·rw [World.cell?_of_block (a:=⟨G,dw cs k + 2,none⟩) (c G l h.gs b),h.at q 2 (by omega)]
  exact ⟨_,rfl⟩
 ·rw [World.frozen?_of_block (a:=⟨G,dw cs k + 2,none⟩) (c G l h.gs b)];exact h.old.frozenAt _
 ·rw [World.frozen?_of_block (a:=⟨sb,2,none⟩) t];exact o.2
 ·rw [World.cell?_of_block (a:=⟨sb,2,none⟩) t];exact o.1
end
section
variable {Z:Nat->Prop} {sb K n:Nat} {w w' wr:World} {f V:Nat->Value} {X:Nat->List Value} {cs jI:List Rec} {G C OB k:Nat} {v0:Value}
theorem ME (cap:Nat) (h:cap <= 1099511627776) (w:World):(Instr.makeSlice 43 (.int .i64 0) (.int .i64 (cap:Int))).run Tryz.prog w=.ok (.slice (some ⟨w.heap.size,0,none⟩) 0 cap) (w.alloc (.cells (madeCells #[.int .i64 0] cap) 3)):=by
 obtain ⟨e,g,c,b,a⟩:=info_parts Tryz.fP;have d:=run_make (P:=Tryz.prog) w 43 3 e (.int .i64 0) Tryz.underlying43 g c .i64 .i64 0 (cap:Int) (by omega) (by omega) (by rw [a];omega) (by omega)
 simp only [Int.toNat_natCast,b,Nat.mul_one] at d;exact d
theorem VC {w:World} {x y z:Value} {t:TypeId}:(w.alloc (.cells #[x,y,z] t)).cell? ⟨w.heap.size,0,none⟩=some x/\(w.alloc (.cells #[x,y,z] t)).cell? ⟨w.heap.size,1,none⟩=some y/\Below w.heap.size w (w.alloc (.cells #[x,y,z] t)):=by
 have r:(w.alloc (.cells #[x,y,z] t)).rowIs w.heap.size t 3 (fun i=>if i=0 then x else if i=1 then y else z):=World.rowIs_alloc w _ _ _ fun i a=>match i,a with
  | 0,_=>rfl
  | 1,_=>rfl
  | 2,_=>rfl
 exact ⟨r.cell (i:=0) (by omega),r.cell (i:=1) (by omega),bR.alloc lr _⟩
theorem Ls (h:dQ Z sb w K f V X) (J:X 0=ints (enc cs)) {G C cap:Nat} {lv ws:Value} (v:V 0=.slice (some ⟨G,0,none⟩) (enc cs).length C) (Q:cap <= 1099511627776) (zg:Z G) (ng:G ≠ sb) (E:G < w.heap.size):
  zY Z sb w K f V X cs G C w.heap.size 0 cs (.slice (some ⟨w.heap.size + 1,0,none⟩) 0 cap) ((((w.alloc (.cells #[.slice (some ⟨G,0,none⟩) (enc cs).length C,lv,ws] 165)).alloc (.cells (madeCells #[.int .i64 0] cap) 3)).setCell ⟨sb,2,none⟩ (.slice (some ⟨w.heap.size + 1,0,none⟩) 0 cap)).setCell ⟨sb,4,none⟩ (.int .i64 0)):=by
 have R:=h.hK;have F:=h.row.lt;obtain ⟨L,S,M⟩:=VC (w:=w) (x:=.slice (some ⟨G,0,none⟩) (enc cs).length C) (y:=lv) (z:=ws) (t:=165);generalize r:w.alloc (.cells #[.slice (some ⟨G,0,none⟩) (enc cs).length C,lv,ws] 165)=b at *
 have B:b.heap.size=w.heap.size + 1:=by rw [<- r];simp
 have A:Below b.heap.size b (b.alloc (.cells (madeCells #[.int .i64 0] cap) 3)):=bR.alloc lr _;have D:(b.alloc (.cells (madeCells #[.int .i64 0] cap) 3)).ownsRow 0 (kP 0) 1 (.slice (some ⟨w.heap.size + 1,0,none⟩) 0 cap) 0 []:=by
  have:=World.ownsRow_made (base:=0) (e:=kP 0) (size:=1) b (madeCells #[.int .i64 0] cap) cap zl (by unfold maxLen;omega) (by rw [size_madeCells];simp)
  rw [B] at this;exact this
 generalize I:b.alloc (.cells (madeCells #[.int .i64 0] cap) 3)=q at *
 have u:Below w.heap.size w q:=M.trans (A.mono (by omega))
 have P:=h.Wn (g:=w.heap.size + 1) u D rfl (by omega)
 have O:=P.scalar 4 (.int .i64 0) (fun k H=>by
  match k,H with
  | 0,_=>decide
  | 1,_=>decide
  | 2,_=>decide
  | 3,_=>decide
  | 4,_=>decide
  | 5,_=>decide
  | 6,_=>decide
  | 7,_=>decide
  | 8,_=>decide
  | 9,_=>decide
  | 10,_=>decide
  | 11,_=>decide
  | 12,_=>decide)
 have m:∀ g,g ≠ sb->((q.setCell ⟨sb,2,none⟩ (.slice (some ⟨w.heap.size + 1,0,none⟩) 0 cap)).setCell ⟨sb,4,none⟩ (.int .i64 0)).heap[g]? = q.heap[g]? := fun g c=>by
  rw [Below.heap_setCell _ _ _ _ (by simpa using c),Below.heap_setCell _ _ _ _ (by simpa using c)]
 have far:∀ j,j < K->∀ g,(V j).ownBlock=some g->g < w.heap.size:=fun j l g c=>((h.eO.own j l).lt g c).2
 exact {
  dH:=O
  eP:=(((dC.of_below u).setCell h.jg _).setCell h.jg _)
  Rq:=fH.refl _
  Wp:=fun i _ _ a _=>absurd a (Nat.not_lt_zero _)
  not:=fun i _ _ _=>rfl
  box:=by
   have e:((q.setCell ⟨sb,2,none⟩ (.slice (some ⟨w.heap.size + 1,0,none⟩) 0 cap)).setCell ⟨sb,4,none⟩ (.int .i64 0)).cell? ⟨w.heap.size,0,none⟩=q.cell? ⟨w.heap.size,0,none⟩:=by
    unfold World.cell?;simp only [m w.heap.size (by omega)]
   rw [e,A.cell (p:=⟨w.heap.size,0,none⟩) (by simp;omega)]
   exact L
  old:=by
   have o:=h.eO.own 0 (by omega)
   rw [v,J,fV] at o;refine ownB o fun g c=>?_
   have e:g=G:=(Option.some.inj c).symm;subst e;rw [m _ ng];exact u.block _ E
  gs:=ng
  os:=by omega
  go:=by omega
  zg:=zg
  ng:=fun j l e=>by
   by_cases d:j=0
   ·subst d;rw [cK] at e;have:=Option.some.inj e;simp only at this;omega
   ·rw [cz _ _ d] at e
    rcases h.eO.apart j 0 l (by omega) d with a | a
    ·rw [a] at e;cases e
    ·rw [e,v] at a;exact a rfl
  no:=fun j l e=>by
   by_cases d:j=0
   ·subst d;rw [cK] at e;have:=Option.some.inj e;simp only at this;omega
   ·rw [cz _ _ d] at e;have:=far j l _ e;omega }
def RS (Z:Nat->Prop) (sb:Nat) (w:World) (K:Nat) (f V:Nat->Value) (X:Nat->List Value) (cs:List Rec) (e:Ending) (w':World):Prop:=
 ∃ G C OB jI v0,e=.returned (.func (.func 243) #[] #[.pointer (some ⟨OB,0,none⟩)])/\zY Z sb w K f V X cs G C OB cs.length jI v0 w'
theorem CQ (h:dQ Z sb w K f V X) (h0:X 0=ints (enc cs)) (hN:(enc cs).length <= 1099511627776) (hp:0 < cs.length) (Q ws:Nat) (f3:f 3=.int .i64 ((Q:Nat):Int)) (f4:f 4=.int .i64 ((ws:Nat):Int)) (an:ws <= (enc cs).length):
  Calls Tryz.prog 225 #[.pointer (some ⟨sb,2,none⟩)] w fun e w'=>RS Z sb w K f V X cs e w':=by
 have hK:=h.hK;obtain ⟨i0,hi,W,U,S⟩:=info_parts Tryz.fP;obtain ⟨G,C,e0,q0,ar,lg,ng,zg,B,-,-,-,-⟩:=fJ h h0 hp;have z2:=(h.head 2 (by omega)).2
 have c3:=(h.head 3 (by omega)).1
 have c4:=(h.head 4 (by omega)).1
 have z4:=(h.head 4 (by omega)).2
 rw [f3] at c3;rw [f4] at c4;have ao:=h.row.lt;have ns:¬ (sb=w.heap.size):=by omega
 have al:¬ (sb=w.heap.size + 1):=by omega
 obtain ⟨g,D⟩:∃ g,g=(enc cs).length - ws:=⟨_,rfl⟩;have I:((enc cs).length:Int) - (ws:Int)=(g:Int):=by omega
 have q:g <= 1099511627776:=by omega
 have S0:=hide (Ls (lv:=.int .i64 ((Q:Nat):Int)) (ws:=.int .i64 ((ws:Nat):Int)) h h0 e0 q zg ng lg);have mk:=ME g q;rw [World.setCell_alloc_past _ _ _ _ (by simp;omega),World.setCell_alloc_past _ _ _ _ (by simp [World.setCell];omega),World.setCell_alloc_past _ _ _ _ (by omega),World.setCell_alloc_past _ _ _ _ (by simp [World.setCell];omega)] at S0
 clear h D e0 B;go_enter Tryz.func225,Tryz.ntmps225
 go_upto_region 4 with fail
 clear mk z2 z4 c3 c4 q0 I q;generalize (((w.setCell ⟨sb,2,none⟩ (.slice (some ⟨w.heap.size + 1,0,none⟩) 0 g)).setCell ⟨sb,4,none⟩ (.int .i64 0)).alloc (.cells #[.slice (some ⟨G,0,none⟩) (enc cs).length C,.int .i64 ((Q:Nat):Int),.int .i64 ((ws:Nat):Int)] 165)).alloc (.cells (madeCells #[.int .i64 0] g) 3)=w1 at *
 generalize w.heap.size=OB at *
 go_wp2;go_loopw [4] (fun R wr=>∃ (k:Nat) (jI:List Rec) (v0:Value),R=.int .i64 ((dw cs k:Nat):Int)/\k <= cs.length/\Hid (zY Z sb w K f V X cs G C OB k jI v0 wr)) (fun R _=>(enc cs).length - (intOf R).toNat)
 case atStart=>exact ⟨0,cs,_,by rw [jP];rfl,zl,S0⟩
 case round=>
  clear S0;obtain ⟨k,jI,v0,rfl,ac,b⟩:=hrel;have bx:=b.out.box;by_cases c:k < cs.length
  ·have ah:=eF c;have B:=b.out.at c 0 (by omega)
   have r1:=b.out.at c 1 (by omega)
   rw [Nat.add_zero,show (ints (enc1 cs[k]))[0]? = some (.int .i64 (((cs[k]).lits.length:Nat):Int)) from rfl] at B
   rw [show (ints (enc1 cs[k]))[1]? = some (.int .i64 (((cs[k]).kind:Nat):Int)) from rfl] at r1
   have QK:=hide (zb OB 0 G (enc cs).length C (dw cs k) (cs[k]).kind wr bx (by omega) (by unfold maxLen;omega) r1)
   have p:Hid (dw cs k < dw cs (k + 1)/\dw cs (k + 1) <= (enc cs).length):=by
    unfold Hid;rw [gG c];omega
   have M:Hid (∀ Y:World,Y.cell? ⟨OB,0,none⟩=some (.slice (some ⟨G,0,none⟩) (enc cs).length C)->Y.cell? ⟨G,dw cs k,none⟩=some (.int .i64 (((cs[k]).lits.length:Nat):Int))->Calls Tryz.prog 213 #[.pointer (some ⟨OB,0,none⟩),.int .i64 (dw cs k:Nat)] Y fun e w'=>e=.returned (.int .i64 ((dw cs (k + 1):Nat):Int))/\w'=Y):=fun Y h1 h2=>by
    have:=qz OB 0 G (enc cs).length C (dw cs k) (cs[k]).lits.length Y h1 (by omega) (by unfold maxLen;omega) h2
    rw [show dw cs k + 3 + (cs[k]).lits.length=dw cs (k + 1) by rw [gG c];omega] at this
    exact this
   have a3:(dw cs k:Int) < ((enc cs).length:Int):=by omega
   by_cases hd:(cs[k]).kind=2
   ·have ad:(((cs[k]).kind:Int) == 2)=true:=by simp;omega
    have ag:=hide (M.out wr bx B);have F:=hide (b.out.dead c hd);clear b M;generalize (cs[k]).kind=kd at *
    go_wp2_with (first
     |(go_at_call 219;(with_reducible refine QK.out.mono ?_);rintro e7 w7 ⟨rfl,rfl⟩;simp only [])
     |(go_at_call 213;(with_reducible refine ag.out.mono ?_);rintro e8 w8 ⟨rfl,rfl⟩;simp only []))
    go_roundw
    case rel=>exact ⟨k + 1,jI,v0,rfl,by omega,F⟩
    case measure=>have:=p.out;simp [intOf];omega
   ·have ad:(((cs[k]).kind:Int) == 2)=false:=by simp;omega
    have ai:=b.out.dH.hK;have P:=b.out.dH.eO.own 0 (by omega)
    rw [cK,cK,fV] at P;obtain ⟨z,x,aa⟩:=dG P;subst aa;have q2:=(b.out.dH.head 2 (by omega)).1
    rw [cz _ _ (by decide),cK] at q2
    have av:(enc (kS cs k)).length <= dw cs k:=Dv k ac;have SD:=hide (b.out.later bR.drew);have OD:Hid (wr.drew.ownsRow 0 3 1 (.slice z (enc (kS cs k)).length x) (enc (kS cs k)).length (ints (enc (kS cs k)))):=P;have SR:Hid (Src wr.drew (.slice (some ⟨G,dw cs k,none⟩) (3 + (cs[k]).lits.length) (C - dw cs k)) (3 + (cs[k]).lits.length) (ints (enc1 cs[k]))):=.inr ⟨_,_,rfl,fun j u v=>by
     have hj:j < 3 + (cs[k]).lits.length:=by
      rcases Nat.lt_or_ge j (3 + (cs[k]).lits.length) with h | h
      ·exact h
      ·rw [List.getElem?_eq_none (by rw [fV,fZ];exact h)] at v;cases v
     rw [show (Addr.add ⟨G,dw cs k,none⟩ j:Addr)=⟨G,dw cs k + j,none⟩ by simp [Addr.add],<- v,<- SD.out.at c j hj]⟩
    have ML:Hid (∀ d i,dB wr.drew 0 3 1 (.slice z (enc (kS cs k)).length x) (enc (kS cs k)).length (ints (enc (kS cs k))) (3 + (cs[k]).lits.length) (ints (enc1 cs[k])) d i->_):=fun d i A=>SD.out.mid c A
    have LV:Hid (∀ d i,dB wr.drew 0 3 1 (.slice z (enc (kS cs k)).length x) (enc (kS cs k)).length (ints (enc (kS cs k))) (3 + (cs[k]).lits.length) (ints (enc1 cs[k])) d i->_):=fun d i A=>SD.out.live c hd A bR
    have LN:Hid (∀ O l d,zY Z sb w K f V X cs G C OB (k + 1) l d O->O.cell? ⟨OB,0,none⟩=some (.slice (some ⟨G,0,none⟩) (enc cs).length C)/\O.cell? ⟨G,dw cs k,none⟩=some (.int .i64 (((cs[k]).lits.length:Nat):Int))):=fun O l d H=>⟨H.box,H.We c⟩
    have el:(ints (enc1 cs[k])).length=(3 + (cs[k]).lits.length) * 1:=by rw [fV,fZ];omega
    have one:∀ u ∈ ints (enc1 cs[k]),u.oneCell'=true:=fun u v=>by
     unfold ints at v;obtain ⟨y,_,rfl⟩:=List.mem_map.1 v;rfl
    have r:dw cs (k + 1)=dw cs k + 3 + (cs[k]).lits.length:=by rw [gG c];omega
    rw [r] at M;have MD:=hide (show ¬ (cs[k]).kind=2 from hd)
    have s1:(0:Int) <= (dw cs k:Int) + 3 + ((cs[k]).lits.length:Int):=by omega
    have s2:(dw cs k:Int) + 3 + ((cs[k]).lits.length:Int) <= (C:Int):=by omega
    have s3:((dw cs k:Int) + 3 + ((cs[k]).lits.length:Int)).toNat=dw cs k + (3 + (cs[k]).lits.length):=by omega
    have s4:dw cs k + (3 + (cs[k]).lits.length) - dw cs k=3 + (cs[k]).lits.length:=by omega
    have s5:¬ (C=dw cs k):=by omega
    have s6:dw cs k <= dw cs k + (3 + (cs[k]).lits.length):=by omega
    have t0:(0:Int) <= (dw cs k:Int) + 2:=by omega
    have t1:(dw cs k:Int) + 2 < ((enc cs).length:Int):=by omega
    have t2:((dw cs k:Int) + 2).toNat=dw cs k + 2:=by omega
    have J:=hide r;have ae:=hide (M.out wr.drew bx B);clear b P r;generalize aq:(cs[k]).lits.length=m at *
    generalize ap:ints (enc1 cs[k])=o at *
    generalize (cs[k]).kind=kd at *
    generalize aw:(enc (kS cs k)).length=L at *
    generalize am:ints (enc (kS cs k))=xs at *
    generalize au:dw cs k=a at *
    go_upto_region 9 with (go_at_call 219;(with_reducible refine QK.out.mono ?_);rintro e7 w7 ⟨rfl,h7⟩;(have h8:=h7.symm);subst h8;clear h7;simp only [])
    go_cut [] from 22 to 56 (fun wx=>∃ d i,Hid (dB wr.drew 0 3 1 (.slice z L x) L xs (3 + m) o d i)/\wx=i.setCell ⟨sb,2,none⟩ d)
    case first=>
     go_region_law (first
      |(refine iq _ (by rfl) _ _ 43 (by rfl) 0 3 i0 (.int .i64 0) 1 8 Tryz.underlying43 hi W U S (by rfl) (by decide) (.slice z L x) L xs (by rfl) OD.out (.slice (some ⟨G,a,none⟩) (3 + m) (C - a)) (3 + m) o (by rfl) SR.out el one (by unfold maxLen;omega) (by omega) zl ?_;intro d i t;obtain ⟨b1,⟨u,b2⟩,b3,b4,b5⟩:=ML.out d i t;have A7:=hide t;obtain ⟨ak,aj,ab⟩:=dG t.own;subst ab;clear t)
      |(go_simp;go_at_call 213;(with_reducible refine ae.out.mono ?_);rintro e7 w7 ⟨rfl,rfl⟩))
     all_goals
      go_wp2_with fail
      go_meet;exact ⟨_,_,A7,rfl⟩
    case rest=>
     obtain ⟨d,i,t,rfl⟩:=hcut;obtain ⟨b1,⟨u,b2⟩,b3,_⟩:=ML.out d i t.out;have L7:=hide (LV.out d i t.out);obtain ⟨l1,l2⟩:=LN.out _ _ _ L7.out;have af:=hide (M.out _ l1 l2);go_wp2_with (go_at_call 213;(with_reducible refine af.out.mono ?_);rintro e8 w8 ⟨rfl,rfl⟩;simp only [])
     go_roundw
     case rel=>exact ⟨k + 1,_,_,by rw [J.out],by omega,L7⟩
     case measure=>have:=p.out;have:=J.out;simp [intOf];omega
  ·have ek:k=cs.length:=by omega
   subst ek;have E:dw cs cs.length=(enc cs).length:=iD lr;rw [E];have F:Hid (RS Z sb w K f V X cs (.returned (.func (.func 243) #[] #[.pointer (some ⟨OB,0,none⟩)])) wr):=⟨G,C,OB,jI,v0,rfl,b.out⟩;clear b E;generalize (enc cs).length=N at *
   go_wp2;go_ret
   exact F.out
end
section
variable {cs jI:List Rec} {n:Nat} {tr ch:List Nat} {lev:Nat->Nat} {rea:Nat->Int}
def xM (cs:List Rec):List Rec:=kS cs cs.length
theorem qV:xM cs=cs.filter fun c=>!decide (c.kind=2):=by unfold xM kS;rw [List.take_length]
theorem MJ {k:Nat} (a:k < cs.length) (hd:(cs[k]).kind ≠ 2):xM cs=kS cs k ++ cs[k] :: (cs.drop (k + 1)).filter fun c=>!decide (c.kind=2):=by
 rw [qV];have e:cs=cs.take k ++ cs[k] :: cs.drop (k + 1):=by rw [<- List.drop_eq_getElem_cons a,List.take_append_drop]
 conv=>lhs;rw [e]
 rw [List.filter_append,List.filter_cons_of_pos (by simpa using hd)]
 rfl
theorem PT {k:Nat} (a:k < cs.length) (hd:(cs[k]).kind ≠ 2):∃ h:(kS cs k).length < (xM cs).length,(xM cs)[(kS cs k).length]=cs[k]/\dw (xM cs) (kS cs k).length=(enc (kS cs k)).length:=by
 have e:=MJ a hd;refine ⟨by rw [e];simp,?_,?_⟩
 ·have:(xM cs)[(kS cs k).length]? = some cs[k]:=by rw [e,List.getElem?_append_right lr];simp
  exact (List.getElem?_eq_some_iff.1 this).2
 ·unfold dw;rw [e,List.take_left' rfl]
theorem yZ:∀ (cs:List Rec) (j:Nat) (hj:j < (xM cs).length),∃ k,∃ e:k < cs.length,(cs[k]).kind ≠ 2/\(kS cs k).length=j
 | [],j,hj=>by simp [qV] at hj
 | c :: r,j,hj=>by
  rw [qV] at hj;by_cases a:c.kind=2
  ·rw [List.filter_cons_of_neg (by simpa using a)] at hj
   obtain ⟨k,e,d,b⟩:=yZ r j (by rw [qV];exact hj)
   refine ⟨k + 1,by simp;omega,by simpa using d,?_⟩
   unfold kS at b ⊢;rw [List.take_succ_cons,List.filter_cons_of_neg (by simpa using a)]
   exact b
  ·rw [List.filter_cons_of_pos (by simpa using a)] at hj
   match j,hj with
   | 0,_=>exact ⟨0,by simp,by simpa using a,rfl⟩
   | j + 1,hj=>
    obtain ⟨k,e,d,b⟩:=yZ r j (by rw [qV];simpa using hj)
    refine ⟨k + 1,by simp;omega,by simpa using d,?_⟩
    unfold kS at b ⊢;rw [List.take_succ_cons,List.filter_cons_of_pos (by simpa using a),List.length_cons,b]
theorem PO {j k:Nat} (h:j <= k):(enc (kS cs j)).length <= (enc (kS cs k)).length:=by
 have e:cs.take k=cs.take j ++ (cs.take k).drop j:=by
  conv=>lhs;rw [<- List.take_append_drop j (cs.take k)]
  rw [List.take_take,Nat.min_eq_left h]
 unfold kS;rw [e,List.filter_append,gz,List.length_append];omega
theorem Fs {j k:Nat} (h:j < k) (a:j < cs.length) (hd:(cs[j]).kind ≠ 2):(enc (kS cs j)).length < (enc (kS cs k)).length:=by
 have:=PO (cs:=cs) (show j + 1 <= k from h)
 rw [yT a hd,zu,List.length_append,fZ] at this;omega
def vG (jI:List Rec) (a:Nat):Nat:=(((enc jI)[a + 2]?).getD 0).toNat
theorem uE (hb:fH cs jI) (hd:∀ i (h:i < jI.length) (h':i < cs.length),(cs[i]).kind ≠ 2->(jI[i]).busy=(((enc (kS cs i)).length:Nat):Int)) {k:Nat} (b:k < cs.length) (c:(cs[k]).kind ≠ 2):vG jI (dw cs k)=(enc (kS cs k)).length/\(enc jI)[dw cs k + 2]? = some ((vG jI (dw cs k):Nat):Int):=by
 have a:k < jI.length:=by rw [hb.1];exact b
 have e:=zw a;rw [hb.dw k (by omega),hd k a b c] at e
 have r:vG jI (dw cs k)=(enc (kS cs k)).length:=by unfold vG;rw [e];simp
 exact ⟨r,by rw [e,r]⟩
theorem TV (hb:fH cs jI) (hd:∀ i (h:i < jI.length) (h':i < cs.length),(cs[i]).kind ≠ 2->(jI[i]).busy=(((enc (kS cs i)).length:Nat):Int)):Ia (mapOf cs) (mapOf (xM cs)) (vG jI) where
 Yi:=fun a c m l=>by
  obtain ⟨k,g,rfl,rfl⟩:=dO m;obtain ⟨g1,g2,p⟩:=PT g l;rw [(uE hb hd g l).1,<- p,dP g1,g2]
 from':=fun b c m=>by
  obtain ⟨j,o,rfl,rfl⟩:=dO m;obtain ⟨k,g,l,rfl⟩:=yZ cs j o;obtain ⟨g1,g2,p⟩:=PT g l;refine ⟨dw cs k,?_,?_,?_⟩
  ·rw [dP g,g2]
  ·rw [g2];exact l
  ·rw [(uE hb hd g l).1,p]
 inj:=fun a b c d m l r q e=>by
  obtain ⟨j,o,rfl,rfl⟩:=dO m;obtain ⟨k,g,rfl,rfl⟩:=dO r;rw [(uE hb hd o l).1,(uE hb hd g q).1] at e
  rcases Nat.lt_trichotomy j k with h | h | h
  ·have:=Fs h o l;omega
  ·rw [h]
  ·have:=Fs h g q;omega
theorem Ue:nW (xM cs)=nW cs:=by
 unfold nW;rw [qV,List.filter_filter]
 congr 2
 funext c
 by_cases h:c.kind=2 <;> simp [h]
theorem Fz:iN (xM cs)=iN cs:=by
 unfold iN;rw [qV,List.countP_filter]
 congr 1
 funext c
 by_cases h:c.kind=1
 ·simp [h]
 ·simp [h]
theorem PS:jc (xM cs)=0:=by
 rw [qV]
 induction cs with
 | nil=>rfl
 | cons c r ih=>
  by_cases h:c.kind=2
  ·rw [List.filter_cons_of_neg (by simpa using h)];exact ih
  ·rw [List.filter_cons_of_pos (by simpa using h)]
   unfold jc at ih ⊢;rw [List.map_cons,List.sum_cons,ih,if_neg h]
theorem Uf:(enc (xM cs)).length <= (enc cs).length:=by
 have:=Dv (cs:=cs) cs.length lr;rw [iD lr] at this;exact this
def EM (ro:Nat->Nat) (tr:List Nat) (rea:Nat->Int) (i:Nat) (v:Nat):Int:=if v ∈ (tr.take i).map (· / 2)/\rea v ≠ -1 then ((ro (rea v).toNat:Nat):Int) else rea v
theorem OX (ro:Nat->Nat) (tr:List Nat) (rea:Nat->Int):EM ro tr rea 0=rea:=by
 funext v;unfold EM;simp
theorem jm.XF (c:jm n tr ch lev) {i:Nat} (hi:i < tr.length):tr[i] / 2 ∉ (tr.take i).map (· / 2):=fun d=>by
 obtain ⟨y,b,e⟩:=List.mem_map.1 d;obtain ⟨j,g,a⟩:=List.mem_iff_getElem.1 b;rw [List.length_take] at g;rw [List.getElem_take] at a;have:=c.pY (show j < tr.length by omega) hi (by rw [a];exact e)
 omega
theorem VI (a:jm n tr ch lev) (ro:Nat->Nat) {i:Nat} (hi:i < tr.length):EM ro tr rea i (tr[i] / 2)=rea (tr[i] / 2):=by
 unfold EM;rw [if_neg (fun h=>a.XF hi h.1)]
theorem vB {i:Nat} (hi:i < tr.length) (v:Nat):v ∈ (tr.take (i + 1)).map (· / 2)↔v ∈ (tr.take i).map (· / 2)\/v=tr[i] / 2:=by
 rw [List.take_succ_eq_append_getElem hi,List.map_append,List.mem_append,List.map_cons,List.map_nil,List.mem_singleton]
theorem TA (ro:Nat->Nat) {i:Nat} (hi:i < tr.length) (c:rea (tr[i] / 2) ≠ -1):EM ro tr rea (i + 1)=eG (EM ro tr rea i) (tr[i] / 2) ((ro (rea (tr[i] / 2)).toNat:Nat):Int):=by
 funext v
 by_cases e:v=tr[i] / 2
 ·rw [e,dF];unfold EM;rw [if_pos ⟨(vB hi _).2 (.inr rfl),c⟩]
 ·rw [dh _ _ e];unfold EM;have:(v ∈ (tr.take (i + 1)).map (· / 2)/\rea v ≠ -1)↔(v ∈ (tr.take i).map (· / 2)/\rea v ≠ -1):=by
   rw [vB hi];constructor
   ·rintro ⟨a | a,b⟩
    ·exact ⟨a,b⟩
    ·exact absurd a e
   ·rintro ⟨a,b⟩;exact ⟨.inl a,b⟩
  simp only [this]
theorem OY (ro:Nat->Nat) {i:Nat} (hi:i < tr.length) (c:rea (tr[i] / 2)=-1):EM ro tr rea (i + 1)=EM ro tr rea i:=by
 funext v
 unfold EM;have:(v ∈ (tr.take (i + 1)).map (· / 2)/\rea v ≠ -1)↔(v ∈ (tr.take i).map (· / 2)/\rea v ≠ -1):=by
  rw [vB hi];constructor
  ·rintro ⟨a | a,b⟩
   ·exact ⟨a,b⟩
   ·exact absurd (a ▸ c) b
  ·rintro ⟨a,b⟩;exact ⟨.inl a,b⟩
 simp only [this]
theorem oZ.VY {C b:iR} {ro:Nat->Nat} (h:oZ C tr ch rea) (d:Ia C b ro):oZ b tr ch (EM ro tr rea tr.length):=by
 refine h.PL d fun x c=>⟨fun e=>?_,fun a e=>?_⟩
 ·unfold EM;rw [if_neg (fun h=>h.2 e)];exact e
 ·unfold EM;rw [if_pos ⟨by rw [List.take_length];exact List.mem_map.2 ⟨x,c,rfl⟩,by omega⟩,e]
  simp
theorem oZ.live {C:iR} (h:oZ C tr ch rea) {i:Nat} (hi:i < tr.length) (d:rea (tr[i] / 2) ≠ -1):∃ (a:Nat) (c:xJ),rea (tr[i] / 2)=(a:Int)/\C a=some c/\c.kind ≠ 2:=by
 by_cases b:i ∈ ch
 ·exact absurd (h.KQ i hi b) d
 ·obtain ⟨a,c,r,j,g,e,_⟩:=h.why i hi b;exact ⟨a,c,j,g,e⟩
def Ef (ro:Nat->Nat) (wl:Nat->List Nat) (i j:Nat) (x:Nat):List Nat:=if x < i then (wl x).map ro else if x=i then ((wl x).take j).map ro ++ (wl x).drop j else wl x
theorem NW (ro:Nat->Nat) (wl:Nat->List Nat):Ef ro wl 0 0=wl:=by
 funext x;unfold Ef
 rw [if_neg (by omega)]
 split
 ·simp
 ·rfl
theorem NZ (ro:Nat->Nat) (wl:Nat->List Nat) (i:Nat):Ef ro wl i (wl i).length=Ef ro wl (i + 1) 0:=by
 funext x;unfold Ef
 by_cases c:x < i
 ·rw [if_pos c,if_pos (by omega)]
 ·rw [if_neg c];by_cases b:x=i
  ·subst b;rw [if_pos rfl,if_pos (by omega)];simp
  ·rw [if_neg b,if_neg (by omega)]
   by_cases a:x=i + 1
   ·rw [if_pos a];simp
   ·rw [if_neg a]
theorem J7 (ro:Nat->Nat) (wl:Nat->List Nat) (i j x:Nat):(Ef ro wl i j x).length=(wl x).length:=by
 unfold Ef;split
 ·simp
 ·split
  ·simp;omega
  ·rfl
theorem Vv (ro:Nat->Nat) (wl:Nat->List Nat) {i j:Nat} (a:j < (wl i).length):(Ef ro wl i j i)[j]? = some ((wl i)[j]):=by
 unfold Ef;have e:j - (((wl i).take j).map ro).length=0:=by simp;omega
 rw [if_neg (by omega),if_pos rfl,List.getElem?_append_right (by simp;omega),e,List.getElem?_drop,Nat.add_zero,List.getElem?_eq_getElem a]
theorem NY (ro:Nat->Nat) (wl:Nat->List Nat) {i j:Nat} (c:j < (wl i).length):Ef ro wl i (j + 1)=fun x=>if x=i then (Ef ro wl i j i).set j (ro (wl i)[j]) else Ef ro wl i j x:=by
 funext x
 by_cases a:x=i
 ·subst a;rw [if_pos rfl];unfold Ef;rw [if_neg (by omega),if_pos rfl,if_neg (by omega),if_pos rfl]
  rw [List.set_append_right _ _ (by simp;omega)]
  have e:j - (((wl x).take j).map ro).length=0:=by simp;omega
  rw [e,List.drop_eq_getElem_cons c,List.set_cons_zero,List.take_succ_eq_append_getElem c,List.map_append,List.append_assoc];rfl
 ·rw [if_neg a];unfold Ef;by_cases b:x < i
  ·rw [if_pos b,if_pos b]
  ·rw [if_neg b,if_neg a,if_neg b,if_neg a]
theorem Sz (ro:Nat->Nat) (wl:Nat->List Nat) {m x:Nat} (a:x < m):Ef ro wl m 0 x=(wl x).map ro:=by unfold Ef;rw [if_pos a]
end
section
variable {Z:Nat->Prop} {sb K n:Nat} {w w' wr:World} {f V:Nat->Value} {X:Nat->List Value} {cs jI:List Rec} {G C OB N k:Nat} {v0:Value} {ro:Nat->Nat} {Lv:Nat->Prop} {tr ch:List Nat} {lev:Nat->Nat} {rea:Nat->Int} {wl:Nat->List Nat}
structure Sq (K:Nat) (V:Nat->Value) (G C OB N:Nat) (ro:Nat->Nat) (Lv:Nat->Prop) (w:World):Prop where
 box:w.cell? ⟨OB,0,none⟩=some (.slice (some ⟨G,0,none⟩) N C)
 at':∀ a,Lv a->a + 2 < N/\w.cell? ⟨G,a + 2,none⟩=some (.int .i64 ((ro a:Nat):Int))
 ng:∀ j,j < K->(V j).ownBlock ≠ some G
 no:∀ j,j < K->(V j).ownBlock ≠ some OB
theorem Sq.later (h:Sq K V G C OB N ro Lv w) (hb:Below w.heap.size w w'):Sq K V G C OB N ro Lv w':={ h with
 box:=by rw [hb.cell (p:=⟨OB,0,none⟩) (block_lt_of_cell h.box)];exact h.box
 at':=fun a b=>⟨(h.at' a b).1,by rw [hb.cell (p:=⟨G,a + 2,none⟩) (block_lt_of_cell (h.at' a b).2)];exact (h.at' a b).2⟩ }
theorem Sq.set (h:Sq K V G C OB N ro Lv w) {g m c:Nat} (d:k < K) (b:V k=.slice (some ⟨g,0,none⟩) m c) (j:Nat) (u:Value):Sq K V G C OB N ro Lv (w.setCell ⟨g,j,none⟩ u):=by
 have g1:g ≠ G:=fun e=>h.ng k d (by rw [b,e];rfl)
 have g2:g ≠ OB:=fun e=>h.no k d (by rw [b,e];rfl)
 exact { h with
  box:=by rw [World.cell?_setCell_far _ _ _ _ (by simpa using g2)];exact h.box
  at':=fun a i=>⟨(h.at' a i).1,by rw [World.cell?_setCell_far _ _ _ _ (by simpa using g1)];exact (h.at' a i).2⟩ }
theorem Ko (h:Sq K V G C OB N ro Lv w) (i:N <= 1099511627776) {a:Nat} (b:Lv a):
  Calls Tryz.prog 243 #[.int .i64 ((a:Nat):Int),.pointer (some ⟨OB,0,none⟩)] w fun e w'=>e=.returned (.int .i64 ((ro a:Nat):Int))/\w'=w:=by
 have m:=h.box;obtain ⟨l,j⟩:=h.at' a b;have g:(0:Int) <= (a:Int) + 2:=by omega
 have d:(a:Int) + 2 < (N:Int):=by omega
 have c:((a:Int) + 2).toNat=a + 2:=by omega
 generalize ro a=z at *
 clear h b;go_enter Tryz.func243,Tryz.ntmps243
 go_wp2;go_ret
 exact ⟨rfl,rfl⟩
theorem zY.KO (h:zY Z sb w K f V X cs G C OB cs.length jI v0 wr):Sq K (upd V 0 v0) G C OB (enc cs).length (vG jI) (fun a=>∃ k,∃ b:k < cs.length,a=dw cs k/\(cs[k]).kind ≠ 2) wr where
 box:=h.box
 at':=fun a ⟨k,b,e,hd⟩=>by
  subst e;have c:=eF b;refine ⟨by omega,?_⟩
  rw [h.old.cellAt (dw cs k + 2) (by omega),lU,(uE h.Rq (fun i j d g=>h.Wp i j d d g) b hd).2]
  rfl
 ng:=h.ng
 no:=h.no
theorem mJ.one (h:mJ n V X wl) {x j u:Nat} (b:x < 2 * n):mJ n V (upd X (16 + x) ((X (16 + x)).set j (.int .i64 (u:Nat)))) (fun y=>if y=x then (wl x).set j u else wl y) where
 n9:=by rw [cz _ _ (by omega)];exact h.n9
 hd:=fun y a=>by rw [cz _ _ (by omega)];exact h.hd y a
 row:=fun y a=>by
  by_cases e:y=x
  ·subst e;rw [cK,if_pos rfl,h.row y a,nJ]
  ·rw [cz _ _ (by omega),if_neg e];exact h.row y a
theorem lX.YC (h:lX n X tr ch lev rea) {v:Nat} (b:v < n) (u:Int):lX n (upd X 5 ((X 5).set v (.int .i64 u))) tr ch lev (eG rea v u) where
 l1:=by rw [cz _ _ (by decide)];exact h.l1
 l2:=by rw [cz _ _ (by decide)];exact h.l2
 n3:=by rw [cz _ _ (by decide)];exact h.n3
 t3:=by rw [cz _ _ (by decide)];exact h.t3
 n4:=by rw [cz _ _ (by decide)];exact h.n4
 t4:=by rw [cz _ _ (by decide)];exact h.t4
 n5:=by rw [cK,List.length_set];exact h.n5
 t5:=fun y a=>by
  rw [cK,tQ h.n5 h.t5 b _ y a];by_cases e:y=v
  ·subst e;rw [dF,dF]
  ·rw [dh _ _ e,dh _ _ e]
structure WB (Z:Nat->Prop) (sb:Nat) (w:World) (K n:Nat) (f V:Nat->Value) (X:Nat->List Value) (wl:Nat->List Nat) (G C OB N:Nat) (ro:Nat->Nat) (Lv:Nat->Prop) (i j:Nat) (wr:World) (X':Nat->List Value):Prop where
 dH:dQ Z sb wr K f V X'
 gT:mJ n V X' (Ef ro wl i j)
 only:∀ k,k < 16->X' k=X k
 eP:dC Z w wr
 KO:Sq K V G C OB N ro Lv wr
theorem WB.step {i j:Nat} {X':Nat->List Value} {g m c:Nat} (h:WB Z sb w K n f V X wl G C OB N ro Lv i j wr X') (e:K=16 + 2 * n) (hi:i < 2 * n) (d:j < (wl i).length) (a:V (16 + i)=.slice (some ⟨g,0,none⟩) m c):
  WB Z sb w K n f V X wl G C OB N ro Lv i (j + 1) (wr.setCell ⟨g,j,none⟩ (.int .i64 ((ro (wl i)[j]:Nat):Int))) (upd X' (16 + i) ((X' (16 + i)).set j (.int .i64 ((ro (wl i)[j]:Nat):Int)))) where
 dH:=h.dH.set (by omega) a j _
 gT:=by rw [NY ro wl d];exact h.gT.one hi
 only:=fun k b=>by rw [cz _ _ (by omega)];exact h.only k b
 eP:=h.eP.setCell (h.dH.al (16 + i) (by omega) g (by rw [a];rfl)) _
 KO:=h.KO.set (k:=16 + i) (by omega) a j _
structure ShT (Z:Nat->Prop) (sb:Nat) (w:World) (K n:Nat) (f V:Nat->Value) (X:Nat->List Value) (wl:Nat->List Nat) (tr ch:List Nat) (lev:Nat->Nat) (rea:Nat->Int) (G C OB N:Nat) (ro:Nat->Nat) (Lv:Nat->Prop) (i:Nat) (wr:World) (X':Nat->List Value):Prop where
 dH:dQ Z sb wr K f V X'
 gT:mJ n V X' (Ef ro wl (2 * n) 0)
 gD:lX n X' tr ch lev (EM ro tr rea i)
 only:∀ k,k < 16->k ≠ 5->X' k=X k
 eP:dC Z w wr
 KO:Sq K V G C OB N ro Lv wr
theorem ShT.later {i:Nat} {X':Nat->List Value} (h:ShT Z sb w K n f V X wl tr ch lev rea G C OB N ro Lv i wr X') (hb:Below wr.heap.size wr w'):ShT Z sb w K n f V X wl tr ch lev rea G C OB N ro Lv i w' X':={ h with
 dH:=h.dH.later hb
 eP:=h.eP.trans (dC.of_below hb)
 KO:=h.KO.later hb }
theorem ShT.skip {i:Nat} {X':Nat->List Value} (h:ShT Z sb w K n f V X wl tr ch lev rea G C OB N ro Lv i wr X') (hi:i < tr.length) (a:rea (tr[i] / 2)=-1):ShT Z sb w K n f V X wl tr ch lev rea G C OB N ro Lv (i + 1) wr X':={ h with
 gD:=by rw [OY ro hi a];exact h.gD }
theorem ShT.step {i:Nat} {X':Nat->List Value} {g m c:Nat} (h:ShT Z sb w K n f V X wl tr ch lev rea G C OB N ro Lv i wr X') (hi:i < tr.length) (d:tr[i] / 2 < n) (e:rea (tr[i] / 2) ≠ -1) (a:V 5=.slice (some ⟨g,0,none⟩) m c):
  ShT Z sb w K n f V X wl tr ch lev rea G C OB N ro Lv (i + 1) (wr.setCell ⟨g,tr[i] / 2,none⟩ (.int .i64 ((ro (rea (tr[i] / 2)).toNat:Nat):Int))) (upd X' 5 ((X' 5).set (tr[i] / 2) (.int .i64 ((ro (rea (tr[i] / 2)).toNat:Nat):Int)))) where
 dH:=h.dH.set (k:=5) (by have:=h.dH.hK;omega) a _ _
 gT:=by
  refine h.gT.congr (cz _ _ (by decide)) (fun x b=>rfl) fun x b=>cz _ _ (by omega)
 gD:=by rw [TA ro hi e];exact h.gD.YC d _
 only:=fun k j a=>by rw [cz _ _ a];exact h.only k j a
 eP:=h.eP.setCell (h.dH.al 5 (by have:=h.dH.hK;omega) g (by rw [a];rfl)) _
 KO:=h.KO.set (k:=5) (by have:=h.dH.hK;omega) a _ _
end
section
variable {Z:Nat->Prop} {sb K n:Nat} {w w' wr:World} {f V:Nat->Value} {X:Nat->List Value} {cs jI:List Rec} {tr ch:List Nat} {lev:Nat->Nat} {rea:Nat->Int} {wl:Nat->List Nat}
def Sm (cs:List Rec) (a:Nat):Prop:=∃ k,∃ hk:k < cs.length,a=dw cs k/\(cs[k]).kind ≠ 2
def Vl (Z:Nat->Prop) (sb:Nat) (w:World) (K n:Nat) (f V:Nat->Value) (X:Nat->List Value) (cs:List Rec) (wl:Nat->List Nat) (tr ch:List Nat) (lev:Nat->Nat) (rea:Nat->Int) (w':World):Prop:=
 dC Z w w'/\∃ (jI:List Rec) (v0:Value) (X':Nat->List Value),fH cs jI/\(∀ i (h:i < jI.length) (h':i < cs.length),(cs[i]).kind ≠ 2->(jI[i]).busy=(((enc (kS cs i)).length:Nat):Int))/\dQ Z sb w' K (upd (upd f 2 v0) 4 (.int .i64 0)) (upd V 0 v0) X'/\X' 0=ints (enc (xM cs))/\lX n X' tr ch lev (EM (vG jI) tr rea tr.length)/\mJ n (upd V 0 v0) X' (fun x=>(wl x).map (vG jI))/\∀ k,k < 16->k ≠ 0->k ≠ 5->X' k=X k
theorem CO (h:dQ Z sb w K f V X) (h0:X 0=ints (enc cs)) (hN:(enc cs).length <= 1099511627776) (hp:0 < cs.length) (lc ws:Nat) (f3:f 3=.int .i64 ((lc:Nat):Int)) (f4:f 4=.int .i64 ((ws:Nat):Int)) (aa:ws <= (enc cs).length)
  (hT:lX n X tr ch lev rea) (ht:jm n tr ch lev) (hW:mJ n V X wl) (p:K=16 + 2 * n) (hn:n <= 50) (aq:0 < n) (af:∀ x,x < 2 * n->∀ a ∈ wl x,Sm cs a) (J:∀ x,x < 2 * n->(wl x).length <= 1099511627776) (ac:∀ i (hi:i < tr.length),rea (tr[i] / 2) ≠ -1->∃ a:Nat,rea (tr[i] / 2)=(a:Int)/\Sm cs a):
  Calls Tryz.prog 190 #[.pointer (some ⟨sb,0,none⟩)] w fun e w'=>e=.returned (.tuple #[])/\Vl Z sb w K n f V X cs wl tr ch lev rea w':=by
 have QC:=hide (CQ h h0 hN hp lc ws f3 f4 aa);have HT:=hide hT;have HW:=hide hW;have R:=hide ht;have ab:tr.length <= n:=ht.len;clear h hT hW ht;go_enter Tryz.func190,Tryz.ntmps190
 go_upto_region 1 with (go_at_call 225;(with_reducible refine QC.out.mono ?_);rintro e2 w2 ⟨G,C,OB,jI,v0,rfl,E⟩;have B:=hide E;clear E QC;simp only [])
 have CL:=hide B.out.KO;have L0:Hid (WB Z sb w K n (upd (upd f 2 v0) 4 (.int .i64 0)) (upd V 0 v0) (upd X 0 (ints (enc (xM cs)))) wl G C OB (enc cs).length (vG jI) (Sm cs) 0 0 w2 (upd X 0 (ints (enc (xM cs))))):={
  dH:=B.out.dH
  gT:=by
   rw [NW];exact HW.out.congr (cz _ _ (by decide)) (fun x T=>cz _ _ (by omega)) (fun x T=>cz _ _ (by omega))
  only:=fun _ _=>rfl
  eP:=B.out.eP
  KO:=CL.out }
 have S:Hid (∀ wr l,ShT Z sb w K n (upd (upd f 2 v0) 4 (.int .i64 0)) (upd V 0 v0) (upd X 0 (ints (enc (xM cs)))) wl tr ch lev rea G C OB (enc cs).length (vG jI) (Sm cs) tr.length wr l->Vl Z sb w K n f V X cs wl tr ch lev rea wr):=fun wr l H=>by
  refine ⟨H.eP,jI,v0,l,B.out.Rq,fun i a1 a2 a3=>B.out.Wp i a1 a2 a2 a3,H.dH,?_,H.gD,⟨H.gT.n9,H.gT.hd,fun x T=>?_⟩,fun k M h2 h3=>?_⟩
  ·rw [H.only 0 (by decide) (by decide),cK]
  ·rw [H.gT.row x T,Sz _ _ T]
  ·rw [H.only k M h3,cz _ _ h2]
 have T1:Hid (lX n (upd X 0 (ints (enc (xM cs)))) tr ch lev rea):=HT.out.congr fun k M h2=>cz _ _ (by omega)
 clear B CL HT HW h0 f3 f4;generalize upd (upd f 2 v0) 4 (.int .i64 0)=O at *
 generalize upd V 0 v0=P at *
 generalize upd X 0 (ints (enc (xM cs)))=u at *
 generalize vG jI=ro at *
 generalize (enc cs).length=N at *
 obtain ⟨g9,c9,_,_,e9,-,q9,-⟩:=L0.out.gT.at' L0.out.dH p (x:=0) (by omega)
 go_upto_region 2 with fail
 clear q9;go_loopw [19] (fun r wr=>∃ (i:Nat) (l:Nat->List Value),r=.int .i64 ((i:Nat):Int)/\i <= 2 * n/\Hid (WB Z sb w K n O P u wl G C OB N ro (Sm cs) i 0 wr l)) (fun r _=>2 * n - (intOf r).toNat)
 case atStart=>exact ⟨0,u,rfl,zl,L0⟩
 case round=>
  clear L0;obtain ⟨i,l,rfl,ax,b⟩:=hrel;by_cases d:i < 2 * n
  ·have ay:(0:Int) <= (i:Int):=by omega
   have ah:(i:Int) < 2 * (n:Int):=by omega
   obtain ⟨ai,aB,wa,wc,t,ex,-,r9,-,-,-,-,own⟩:=b.out.gT.at' b.out.dH p d;rw [J7] at ex r9 own;rw [e9] at t;obtain ⟨y1,_,y3⟩:=Value.slice.inj t;obtain rfl:g9=ai:=by have:=Option.some.inj y1;simpa using this
   clear t y1 y3;obtain ⟨g,L⟩:∃ g,0 < (wl i).length->wa=some ⟨g,0,none⟩:=by
    rcases own.2 with ⟨e',hz⟩ | ⟨g',al,ak,e',_⟩
    ·exact ⟨0,fun h=>by omega⟩
    ·exact ⟨g',fun _=>(Value.slice.inj e').1⟩
   have au:=J i d;clear own;have EX:=hide ex;have aj:=hide L;clear ex L;go_upto_region 5 with fail
   clear r9;go_loopw [25] (fun W wr=>∃ (j:Nat) (l:Nat->List Value),W=.int .i64 ((j:Nat):Int)/\j <= (wl i).length/\Hid (WB Z sb w K n O P u wl G C OB N ro (Sm cs) i j wr l)) (fun W _=>(wl i).length - (intOf W).toNat)
   case atStart=>exact ⟨0,l,rfl,zl,b⟩
   case round=>
    clear b;obtain ⟨j,X2,rfl,av,b⟩:=hrel;by_cases o:j < (wl i).length
    ·obtain rfl:=aj.out (by omega)
     have aw:(0:Int) <= (j:Int):=by omega
     have ag:(j:Int) < ((wl i).length:Int):=by omega
     obtain ⟨D,r2⟩:=b.out.dH.eO.cell (k:=16 + i) (by omega) EX.out (j:=j) (by rw [b.out.gT.row i d,df,J7];exact o)
     rw [b.out.gT.row i d] at D;have r3:wr.cell? ⟨g,j,none⟩=some (.int .i64 (((wl i)[j]:Nat):Int)):=by
      rw [D];unfold dx;rw [List.getElem?_map,Vv ro wl o];rfl
     have QN:=hide (Ko b.out.KO hN (af i d _ (List.getElem_mem o)));have q:=hide (b.out.step p d o EX.out);clear D b;generalize ro (wl i)[j]=z at *
     generalize (wl i)[j]=y at *
     go_wp2_with (go_at_call 243;(with_reducible refine QN.out.mono ?_);rintro e3 w3 ⟨rfl,rfl⟩;simp only [])
     go_roundw
     case rel=>exact ⟨j + 1,_,by go_num,o,q⟩
     case measure=>simp [intOf];omega
    ·have ej:j=(wl i).length:=by omega
     have q:Hid (WB Z sb w K n O P u wl G C OB N ro (Sm cs) (i + 1) 0 wr X2):=by
      have h:=b.out;exact { h with gT:=by rw [<- NZ,<- ej];exact h.gT }
     have ag:¬ (j:Int) < ((wl i).length:Int):=by omega
     clear b;go_wp2;go_roundw
     case rel=>exact ⟨i + 1,X2,by go_num,d,q⟩
     case measure=>simp [intOf];omega
  ·have ei:i=2 * n:=by omega
   have ah:¬ (i:Int) < 2 * (n:Int):=by omega
   have Q:Hid (ShT Z sb w K n O P u wl tr ch lev rea G C OB N ro (Sm cs) 0 wr l):={
    dH:=b.out.dH
    gT:=by rw [<- ei];exact b.out.gT
    gD:=by rw [OX];exact T1.out.congr fun k M h2=>b.out.only k (by omega)
    only:=fun k M _=>b.out.only k M
    eP:=b.out.eP
    KO:=b.out.KO }
   have hK:=b.out.dH.hK;obtain ⟨a1,c1,U⟩:=Q.out.dH.eO.shape (k:=1) (by omega)
   have q1:=(Q.out.dH.hd (k:=1) (by omega)).1
   rw [Q.out.gD.l1,df] at U;rw [show cellOf 1=6 from rfl,U] at q1
   have E1:=hide U;clear b T1 U ei;go_upto_region 11 with fail
   clear q1;go_loopw [44] (fun r wr=>∃ (m:Nat) (l:Nat->List Value),r=.int .i64 ((m:Nat):Int)/\m <= tr.length/\Hid (ShT Z sb w K n O P u wl tr ch lev rea G C OB N ro (Sm cs) m wr l)) (fun r _=>tr.length - (intOf r).toNat)
   case atStart=>exact ⟨0,l,rfl,zl,Q⟩
   case round=>
    clear Q;obtain ⟨m,X2,rfl,ad,b⟩:=hrel;by_cases c:m < tr.length
    ·have ar:(0:Int) <= (m:Int):=by omega
     have ae:(m:Int) < (tr.length:Int):=by omega
     obtain ⟨g1,aA,az,eb,-,-,-⟩:=b.out.dH.eO.block (k:=1) (by omega) (by rw [b.out.gD.l1,df];omega)
     rw [E1.out] at eb;obtain rfl:=(Value.slice.inj eb).1;clear eb;obtain ⟨D,-⟩:=b.out.dH.eO.cell (k:=1) (by omega) E1.out (j:=m) (by rw [b.out.gD.l1,df];exact c)
     rw [b.out.gD.l1,iK tr m c] at D;have ao:tr[m] < 2 * n:=R.out.lt _ (List.getElem_mem c);have hv:tr[m] / 2 < n:=by omega
     obtain ⟨g5,c5,t5,e5,q5,r5,s5,z5,-⟩:=b.out.dH.elem (k:=5) (j:=tr[m] / 2) (by omega) b.out.gD.n5 hv
     rw [show cellOf 5=11 from rfl] at q5
     rw [b.out.gD.t5 _ hv,VI R.out ro c] at s5;obtain rfl:=Option.some.inj s5;have QV:=hide (fun Y=>eT (tr[m]) Y (by omega))
     have an:(0:Int) <= ((tr[m] / 2:Nat):Int):=by omega
     have am:((tr[m] / 2:Nat):Int) < (n:Int):=by omega
     by_cases I:rea (tr[m] / 2)=-1
     ·have q:=hide (b.out.skip c I);rw [I] at r5;clear b;generalize tr[m] / 2=v at *
      generalize tr[m]=y at *
      go_wp2_with (go_at_call 176;(with_reducible refine (QV.out _).mono ?_);rintro e3 w3 ⟨rfl,rfl⟩;simp only [])
      go_roundw
      case rel=>exact ⟨m + 1,_,by go_num,c,q⟩
      case measure=>simp [intOf];omega
     ·obtain ⟨a,ea,la⟩:=ac m c I;have SD:=b.out.later bR.drew;have QN:=hide (Ko SD.KO hN la);have q:=hide (SD.step c hv I e5);rw [ea,Int.toNat_natCast] at q;rw [ea] at r5;have ap:(((a:Nat):Int) == -1)=false:=by simp
      clear b SD I e5;generalize ro a=z at *
      generalize tr[m] / 2=v at *
      generalize tr[m]=y at *
      go_upto_region 15 with (go_at_call 176;(with_reducible refine (QV.out _).mono ?_);rintro e3 w3 ⟨rfl,h7⟩;(have h8:=h7.symm);subst h8;clear h7;simp only [])
      go_region_law (go_simp;go_at_call 243;(with_reducible refine QN.out.mono ?_);rintro e7 w7 ⟨rfl,rfl⟩)
      all_goals
       go_wp2;go_roundw
       case rel=>exact ⟨m + 1,_,by go_num,c,q⟩
       case measure=>simp [intOf];omega
    ·have em:m=tr.length:=by omega
     have ae:¬ (m:Int) < (tr.length:Int):=by omega
     subst em;have FR:=hide (S.out _ _ b.out);clear b S ad c ab E1 p;go_wp2;go_end0;exact ⟨rfl,FR.out⟩
end
section
variable {Z:Nat->Prop} {sb ob hb kb n:Nat} {L0:List Cl} {N0:Nat} {w w':World} {s:St}
theorem K3.PL {C e:iR} {ro:Nat->Nat} (h:K3 L0 C) (g:Ia C e ro):K3 L0 e:=fun c i=>by
 rcases h c i with b | ⟨a,d,b,l,j⟩
 ·exact .inl b
 ·exact .inr ⟨ro a,d,g.Yi a d b (by omega),l,j⟩
theorem CK (H:n <= 50) (t:0 < n):zX Z sb ob hb kb n L0 N0:=fun w s h E z R=>by
 have r:0 < s.cs.length:=by
  rcases Nat.eq_zero_or_pos s.cs.length with e | e
  ·have S:s.cs=[]:=List.eq_nil_of_length_eq_zero e;rw [h.xm,S] at z;exact absurd z (by decide)
  ·exact e
 have d:∀ x,x < 2 * n->∀ a ∈ s.wl x,Sm s.cs a:=fun x o a u=>by
  obtain ⟨c,⟨g1,g2,_⟩,_⟩:=h.pi.oM.lists x o a u;obtain ⟨k,p,e,rfl⟩:=dO g1;exact ⟨k,p,e,g2⟩
 refine (CO (n:=n) (wl:=s.wl) (tr:=s.tr) (ch:=s.ch) (lev:=s.lev) (rea:=s.rea) h.dJ.duo.dH h.x0 R r s.lc s.ws h.f3 h.f4 (by rw [h.xm];exact Ct _) h.gD h.pi.dJ h.gT rfl H t d (fun x o=>?_) (fun i I F=>?_)).mono ?_
 ·refine Nat.le_trans (Fg (h.pi.oM.nodup x o) (N:=(enc s.cs).length) fun a u=>?_) (by omega)
  obtain ⟨k,p,rfl,_⟩:=d x o a u;have:=eF p;omega
 ·obtain ⟨a,c,e,g1,g2⟩:=h.pi.pz.live I F;obtain ⟨k,p,T,rfl⟩:=dO g1;exact ⟨a,e,k,p,T,g2⟩
 ·rintro e w' ⟨rfl,M,jI,v0,A,hb,hd,Q,q,P,O,v⟩;have m:=TV hb hd;have l:∀ j,j ≠ 2->j ≠ 4->(upd (upd s.f 2 v0) 4 (.int .i64 0)) j=s.f j:=fun j a b=>by rw [cz _ _ b,cz _ _ a]
  obtain ⟨D,B⟩:=h.dJ.gM Q M (l 12 (by decide) (by decide))
  refine ⟨rfl,B,{ s with cs:=xM s.cs,rea:=EM (vG jI) s.tr s.rea s.tr.length,wl:=fun x=>(s.wl x).map (vG jI),f:=upd (upd s.f 2 v0) 4 (.int .i64 0),V:=upd s.V 0 v0,X:=A,ws:=0,Rs:=(fun g=>zz s.Rs w g/\g < w'.heap.size),Rd:=(fun g=>zz s.Rd w g/\g < w'.heap.size) },{
   dJ:=D
   pi:={
    dJ:=h.pi.dJ
    pz:=h.pi.pz.VY m
    mg:=h.pi.mg.PL m
    oM:=h.pi.oM.PL m h.pi.mg (fun x o=>rfl)
    wK:=h.pi.wK.PL m }
   x0:=q
   gD:=P
   gT:=O
   lam:=h.lam.congr (v 6 (by decide) (by decide) (by decide))
   n10:=by show (A 10).length=n;rw [v 10 (by decide) (by decide) (by decide)];exact h.n10
   o7:=by
    obtain ⟨y,J⟩:=h.o7;exact ⟨y,J.congr (v 11 (by decide) (by decide) (by decide))⟩
   f0:=(l 0 (by decide) (by decide)).trans h.f0
   f3:=(l 3 (by decide) (by decide)).trans h.f3
   f4:=by show (upd (upd s.f 2 v0) 4 (.int .i64 0)) 4=.int .i64 ((0:Nat):Int);rw [cK];rfl
   f7:=(l 7 (by decide) (by decide)).trans h.f7
   f14:=(l 14 (by decide) (by decide)).trans h.f14
   f18:=(l 18 (by decide) (by decide)).trans h.f18
   f20:=(l 20 (by decide) (by decide)).trans h.f20
   f21:=(l 21 (by decide) (by decide)).trans h.f21
   Bj:=h.Bj
   late:=h.late
   sM:=h.sM
   Ag:=fun hb=>(h.Ag hb).PL m
   bad:=h.bad
   lines:=h.lines
   yY:=h.yY
   uk:=by show wC s.L (nW (xM s.cs));rw [Ue];exact h.uk
   Ej:=h.Ej.PL m
   num:=by
    show (enc (xM s.cs)).length <= _
    exact Nat.le_trans Uf h.num
   xq:=by show (dS s.ls).length + 125 * iN (xM s.cs) <= _;rw [Fz];exact h.xq
   cnt:=by show s.lc=iN (xM s.cs);rw [Fz];exact h.cnt
   xm:=PS.symm
   gN:=h.gN
   lcm:=h.lcm
   km:=h.km
   n30:=h.n30 },E,rfl,rfl,rfl,rfl,rfl⟩
theorem Gq (b:n <= 50) (a:0 < n):u7 Z sb ob hb kb n L0 N0 (fun s=>N0 + 33 * s.m <= 1099511627776/\s.m <= 137438953472/\s.mo <= 4611686018427387904):=Jo (CK b a) b a
end
end
end So
end Go.Proofs.YtceahffmenbibaaGreatDoor
