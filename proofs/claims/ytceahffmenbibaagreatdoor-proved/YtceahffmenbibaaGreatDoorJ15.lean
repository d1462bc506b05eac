/- Pwat. -/
import Derived.Test.YtceahffmenbibaaGreatDoorJ13
import Derived.Deep.DrawnRows
import Derived.Deep.Cut
import Derived.Outline
set_option linter.unusedVariables false
set_option linter.unusedSimpArgs false
set_option maxHeartbeats 4000000
set_option maxRecDepth 100000
namespace Go.Proofs.YtceahffmenbibaaGreatDoor
namespace Rd
section
open Go Go.RowKit Go.Deep
section
attribute [local go_sem ↓] Go.wp_at_zero Go.wp_at_succ
def jJ (B:Nat) (w:World):Prop:=TabAt 5 Lib.deBruijn64tab w/\5 < B
theorem jJ.later {B:Nat} {w w':World} (h:jJ B w) (b:Below B w w'):jJ B w':=
 ⟨fun j a=>by rw [b.cell (p:=⟨_,j,none⟩) h.2];exact h.1 j a,h.2⟩
theorem xk {B sb U:Nat} {cv:Value} {r:Int} {u:Key} {H:Nat->Value} {f:List dH} {wl:Nat->List Nat} (i:Nat) (l:Int) (w:World) (hl:dV l) (hi:i < f.length) (hk:(f[i]).watched.ok) (ap:f.length <= 1600000000000) (O:(wl (place l)).length <= 1700000000000)
  (V:eG B sb w cv U r u H f wl) (hT:jJ B w):
  Calls Tryz.prog 159 #[.pointer (some ⟨sb,0,none⟩),.int .i64 i,dn (single l)] w fun e n=>e=.returned (.tuple #[])/\Below B w n/\di w n/\iB cv cv w n/\
   ∃ N,(∀ k,k ≠ place l->N k=H k)/\eG B sb n cv U r u N (eO f i ((f[i]).watched.un (single l))) (fun k=>if k=place l then wl (place l) ++ [i] else wl k):=by
 obtain ⟨b,m,ai,z,q,aq,ar,a⟩:=V.uZ i hi;obtain ⟨i0,ah,ac,ab,aa⟩:=info_parts Tryz.Ex;have h0:=(V.head 0 (by omega)).1;subst ai;have Y:=(a 2 (by omega)).1;have X:=(a 3 (by omega)).1;have f2:=(a 2 (by omega)).2;have f3:=(a 3 (by omega)).2;unfold iH at h0;simp only [kV,List.getElem?_cons_succ,List.getElem?_cons_zero] at Y X;have HS:=hide V;have HT:=hide hT;have lit:=fE hl;have K:=fun W=>gN (f[i]).watched (single l) W hk lit
 unfold dn at K ⊢;generalize ag:(f[i]).watched.un (single l)=S at K ⊢;generalize af:(f[i]).watched=wk at Y X K;have g:=gz hl;have QP:Hid (∀ W,jJ B W->Calls Tryz.prog 199 #[dn (single l)] W fun e n=>e=.returned (.int .i64 (place l:Nat))/\Below W.heap.size W n):=fun W h=>Ap l W hl h.1
 unfold dn at QP;generalize single l=J at K QP ⊢;generalize place l=c at QP O g ⊢;clear a V hT ag af lit;go_enter Tryz.func159,Tryz.ntmps159
 go_wp2;obtain ⟨W,L⟩:∃ W,W=w.alloc (.cells #[.int .u64 (J.1:Int),.int .u64 (J.2:Int)] 84):=⟨_,rfl⟩
 have d:Below w.heap.size w W:=by rw [L];exact bR.alloc lr _
 have sW:W.heap.size=w.heap.size + 1:=by rw [L];simp
 have x0:W.cell? ⟨w.heap.size,0,none⟩=some (.int .u64 (J.1:Int)):=by rw [L];simp
 have x1:W.cell? ⟨w.heap.size,1,none⟩=some (.int .u64 (J.2:Int)):=by rw [L];simp
 have ae:sb < w.heap.size:=HS.out.row.lt;have y0:W.cell? ⟨sb,0,none⟩=some (.slice (some ⟨b,0,none⟩) f.length m):=by rw [d.cell (p:=⟨sb,0,none⟩) ae];exact h0
 have y2:=(d.cell (p:=⟨b,i * 5 + 2,none⟩) q).trans Y;have y3:=(d.cell (p:=⟨b,i * 5 + 3,none⟩) q).trans X;have z2:=(d.frozen (p:=⟨b,i * 5 + 2,none⟩) q).trans f2;have z3:=(d.frozen (p:=⟨b,i * 5 + 3,none⟩) q).trans f3;rw [<- L];have D:=hide (HS.out.later d);have KW:=hide (di.of_below d);have EW:=hide (iB.of_below (cv:=.slice (some ⟨b,0,none⟩) f.length m) d);have E:Hid (Below B w W):=d.mono HS.out.bsize;have ak:Hid (jJ B W):=HT.out.later E.out;clear L d h0 Y X f2 f3 HS;have az:(0:Int) <= (i:Int):=by omega
 have ay:(i:Int) < (f.length:Int):=by omega
 have KS:Hid (∀ n,Below W.heap.size W n->(n.cell? ⟨sb,0,none⟩=some (.slice (some ⟨b,0,none⟩) f.length m)/\n.cell? ⟨w.heap.size,0,none⟩=some (.int .u64 (J.1:Int))/\n.cell? ⟨w.heap.size,1,none⟩=some (.int .u64 (J.2:Int)))/\
   n.cell? ⟨b,i * 5 + 2,none⟩=some (.int .u64 (wk.1:Int))/\n.cell? ⟨b,i * 5 + 3,none⟩=some (.int .u64 (wk.2:Int))/\n.frozen? ⟨b,i * 5 + 2,none⟩=false/\n.frozen? ⟨b,i * 5 + 3,none⟩=false):=fun n h=>
  ⟨⟨(h.cell (p:=⟨sb,0,none⟩) (by simp;omega)).trans y0,(h.cell (p:=⟨w.heap.size,0,none⟩) (by simp;omega)).trans x0,(h.cell (p:=⟨w.heap.size,1,none⟩) (by simp;omega)).trans x1⟩,
   (h.cell (p:=⟨b,i * 5 + 2,none⟩) (by simp;omega)).trans y2,(h.cell (p:=⟨b,i * 5 + 3,none⟩) (by simp;omega)).trans y3,(h.frozen (p:=⟨b,i * 5 + 2,none⟩) (by simp;omega)).trans z2,(h.frozen (p:=⟨b,i * 5 + 3,none⟩) (by simp;omega)).trans z3⟩
 go_cut [] from 7 (fun wx=>∃ I,Hid (Below W.heap.size W I)/\wx=(I.setCell ⟨b,i * 5 + 2,none⟩ (.int .u64 (S.1:Int))).setCell ⟨b,i * 5 + 2 + 1,none⟩ (.int .u64 (S.2:Int)))
 case first=>
  go_region_with (go_at_call 75;refine (K _).mono ?_;rintro e7 I ⟨rfl,P⟩;have x:Hid (Below W.heap.size W I):=bR.drew.trans P;obtain ⟨⟨k0,_⟩,k2,k3,k4,k5⟩:=KS.out I x.out;clear P)
  all_goals
   go_wp2_with fail
   go_meet;exact ⟨_,x,rfl⟩
 case rest=>
  obtain ⟨I,x,s⟩:=hcut;have Z:=D.out.later x.out;have SC:=Z.setW hi S;have KC:Hid (di w wc):=by unfold Hid;rw [s];exact (KW.out.trans (di.of_below x.out)).trans (Z.uU _ _ _ _)
  have EC:Hid (iB (.slice (some ⟨b,0,none⟩) f.length m) (.slice (some ⟨b,0,none⟩) f.length m) w wc):=by unfold Hid;rw [s];exact (EW.out.trans (iB.of_below x.out)).trans (Z.Ku _ _ _ _)
  have BC:Below B w wc:=by rw [s];exact ((E.out.trans (x.out.mono D.out.bsize)).setCell z _).setCell z _
  rw [<- s] at SC;have xc:∀ j,j < 2->wc.cell? ⟨w.heap.size,j,none⟩=W.cell? ⟨w.heap.size,j,none⟩:=fun j hj=>by
   rw [s,World.cell?_setCell_far _ _ _ _ (by simp;omega),World.cell?_setCell_far _ _ _ _ (by simp;omega)];exact x.out.cell (p:=⟨w.heap.size,j,none⟩) (by simp;omega)
  have v0:=(xc 0 (by omega)).trans x0;have v1:=(xc 1 (by omega)).trans x1;have Q:=hide SC;have an:=hide BC;have al:Hid (jJ B wc):=HT.out.later BC;have qp:=QP.out wc al.out;clear s Z SC BC xc KS y0 y2 y3 z2 z3 x0 x1 x D E ak K;go_wp2_with fail
  with_reducible refine qp.mono ?_
  rintro e8 v ⟨rfl,t⟩;have M:=Q.out.later t;have K8:Hid (di w v.drew):=(KC.out.trans (di.of_below t)).trans (di.of_below bR.drew);have E8:Hid (iB (.slice (some ⟨b,0,none⟩) f.length m) (.slice (some ⟨b,0,none⟩) f.length m) w v.drew):=(EC.out.trans (iB.of_below t)).trans (iB.of_below bR.drew);have B8:Hid (Below B w v):=an.out.trans (t.mono Q.out.bsize);obtain ⟨wa,y,o⟩:=dI (M.mr c g);have hd:=M.head (5 + c) (by omega);rw [show iH (.slice (some ⟨b,0,none⟩) f.length m) U r u H (5 + c)=H c by rw [Nat.add_comm];rfl,o] at hd;obtain ⟨aB,aA⟩:=hd;have am:=hide M;have aw:=M.bsize;have ao:=M.row.lt;clear qp t M;have C:Hid (eG B sb v.drew (.slice (some ⟨b,0,none⟩) f.length m) U r u H (eO f i S) wl):=am.out.later bR.drew;have OD:Hid (v.drew.ownsRow B 3 1 (.slice wa (wl c).length y) (wl c).length (fq (wl c))):=by have:=C.out.mr c g;rw [o] at this;exact this
  have BD:Hid (Below B w v.drew):=B8.out.drew;have aj:=hide o;have nl:(wl c).length <= 1700000000000:=O;have Um:(0:Int) <= (c:Int):=by omega
  have ax:(c:Int) < 128:=by omega
  clear o;go_wp2;go_region_law
   (refine iQ _ (by rfl) _ _ 43 (by rfl) B 3 i0 (.int .i64 0) 1 8 Tryz.underlying43 ah ac ab aa (by rfl) (by decide) (.slice wa (wl c).length y) (wl c).length (fq (wl c)) (by rfl) (OD.out.alloc (.cells #[.int .i64 (i:Int)] 3)) (.slice (some ⟨v.heap.size,0,none⟩) 1 1) 1 [.int .i64 (i:Int)] (by rfl) (.inr ⟨⟨v.heap.size,0,none⟩,1,rfl,(cell_one_new v.drew _ _)⟩) (by rfl) (by simp [Value.oneCell']) (by unfold maxLen;omega) (by omega) (by simp;omega) ?_;intro R w6 A6;have G:dz (v.drew.alloc (.cells #[.int .i64 (i:Int)] 3)) B 3 1 (H c) (wl c).length (fq (wl c)) 1 [.int .i64 (i:Int)] R w6:=(by rw [aj.out];exact A6);have S6:=hide (C.out.IJ g G);have B6:=hide (C.out.oV g G BD.out R (5 + c));have KE:=hide (K8.out.trans (C.out.Kt g G R (5 + c)));have EE:=hide (E8.out.trans (C.out.Kv g G R (5 + c)));have K6:=(C.out.lu g G (5 + c) (by omega)).1;have K7:=(C.out.lu g G (5 + c) (by omega)).2;obtain ⟨av,au,ad⟩:=dI A6.own;subst ad;clear A6 G)
  all_goals
   go_wp2;go_end0
   exact ⟨rfl,B6.out,KE.out,EE.out,_,fun k hk=>if_neg hk,S6.out⟩
theorem Gq {B sb j:Nat} {cv:Value} {b:Int} {u:Key} {h:Nat->Value} {c:List dH} {wl:Nat->List Nat} (i:Nat) (l:Int) (w:World) (m:dV l) (o:i < c.length) (n:(c[i]).watched.ok) (d:c.length <= 1600000000000) (g:(wl (place l)).length <= 1700000000000)
  (q:eG B sb w cv j b u h c wl) (p:jJ B w):
  Calls Tryz.prog 159 #[.pointer (some ⟨sb,0,none⟩),.int .i64 i,dn (single l)] w fun e f=>e=.returned (.tuple #[])/\Below B w f/\di w f/\
   ∃ a,(∀ k,k ≠ place l->a k=h k)/\eG B sb f cv j b u a (eO c i ((c[i]).watched.un (single l))) (fun k=>if k=place l then wl (place l) ++ [i] else wl k):=by
 with_reducible refine (xk i l w m o n d g q p).mono ?_
 rintro e f ⟨x,v,t,_,a,r,s⟩;exact ⟨x,v,t,a,r,s⟩
theorem xh {B sb h:Nat} {cv:Value} {a:Int} {u:Key} {j:Nat->Value} {c:List dH} {wl:Nat->List Nat} (i:Nat) (l:Int) (w:World) (m:dV l) (o:i < c.length) (n:(c[i]).watched.ok) (f:c.length <= 1600000000000) (g:(wl (place l)).length <= 1700000000000)
  (q:eG B sb w cv h a u j c wl) (p:jJ B w):
  Calls Tryz.prog 159 #[.pointer (some ⟨sb,0,none⟩),.int .i64 i,dn (single l)] w fun e d=>e=.returned (.tuple #[])/\Below B w d/\di w d/\iB cv cv w d/\
   ∃ b,eG B sb d cv h a u b (eO c i ((c[i]).watched.un (single l))) (fun k=>if k=place l then wl (place l) ++ [i] else wl k):=by
 with_reducible refine (xk i l w m o n f g q p).mono ?_
 rintro e d ⟨x,v,t,r,b,_,s⟩;exact ⟨x,v,t,r,b,s⟩
end
end
end Rd
end Go.Proofs.YtceahffmenbibaaGreatDoor
