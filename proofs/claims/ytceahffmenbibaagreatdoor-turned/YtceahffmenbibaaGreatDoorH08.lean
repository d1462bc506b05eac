/- Pwat. -/
import Derived.Test.YtceahffmenbibaaGreatDoorH07
set_option linter.unusedVariables false
set_option linter.unusedSimpArgs false
set_option maxHeartbeats 4000000
set_option maxRecDepth 100000
namespace Go.Proofs.YtceahffmenbibaaGreatDoor
namespace Rd
section
open Go Go.RowKit Go.Deep
section
attribute [local go_sem ↓] Go.wp_at_zero Go.wp_at_succ
def nT (B:Nat) (w:World):Prop:=TabAt 5 Lib.deBruijn64tab w/\5 < B
theorem nT.later {B:Nat} {w w':World} (h:nT B w) (b:Below B w w'):nT B w':=
 ⟨fun j a=>by rw [b.cell (p:=⟨_,j,none⟩) h.2];exact h.1 j a,h.2⟩
theorem xP {B sb U:Nat} {cv:Value} {r:Int} {u:Key} {H:Nat->Value} {f:List dN} {wl:Nat->List Nat} (i:Nat) (l:Int) (w:World) (hl:dY l) (hi:i < f.length) (hk:(f[i]).watched.ok) (ap:f.length <= 1600000000000) (O:(wl (place l)).length <= 1700000000000)
  (V:fu B sb w cv U r u H f wl) (hT:nT B w):
  Calls Tryz.prog 159 #[.pointer (some ⟨sb,0,none⟩),.int .i64 i,dC (single l)] w fun e n=>e=.returned (.tuple #[])/\Below B w n/\dm w n/\iJ cv cv w n/\
   ∃ N,(∀ k,k ≠ place l->N k=H k)/\fu B sb n cv U r u N (eZ f i ((f[i]).watched.un (single l))) (fun k=>if k=place l then wl (place l) ++ [i] else wl k):=by
 obtain ⟨b,m,ai,z,q,aq,ar,a⟩:=V.wY i hi;obtain ⟨i0,ah,ac,ab,aa⟩:=info_parts Tryz.yT;have h0:=(V.head 0 (by omega)).1;subst ai;have Y:=(a 2 (by omega)).1;have X:=(a 3 (by omega)).1;have f2:=(a 2 (by omega)).2;have f3:=(a 3 (by omega)).2;unfold iU at h0;simp only [lQ,List.getElem?_cons_succ,List.getElem?_cons_zero] at Y X;have HS:=hide V;have HT:=hide hT;have lit:=fP hl;have K:=fun W=>ig (f[i]).watched (single l) W hk lit
 unfold dC at K ⊢;generalize ag:(f[i]).watched.un (single l)=S at K ⊢;generalize af:(f[i]).watched=wk at Y X K;have g:=gN hl;have QP:Hid (∀ W,nT B W->Calls Tryz.prog 199 #[dC (single l)] W fun e n=>e=.returned (.int .i64 (place l:Nat))/\Below W.heap.size W n):=fun W h=>Bf l W hl h.1
 unfold dC at QP;generalize single l=J at K QP ⊢;generalize place l=c at QP O g ⊢;clear a V hT ag af lit;go_enter Tryz.func159,Tryz.ntmps159
 go_wp2;obtain ⟨W,L⟩:∃ W,W=w.alloc (.cells #[.int .u64 (J.1:Int),.int .u64 (J.2:Int)] 84):=⟨_,rfl⟩
 have d:Below w.heap.size w W:=by rw [L];exact bR.alloc lr _
 have sW:W.heap.size=w.heap.size + 1:=by rw [L];simp
 have x0:W.cell? ⟨w.heap.size,0,none⟩=some (.int .u64 (J.1:Int)):=by rw [L];simp
 have x1:W.cell? ⟨w.heap.size,1,none⟩=some (.int .u64 (J.2:Int)):=by rw [L];simp
 have ae:sb < w.heap.size:=HS.out.row.lt;have y0:W.cell? ⟨sb,0,none⟩=some (.slice (some ⟨b,0,none⟩) f.length m):=by rw [d.cell (p:=⟨sb,0,none⟩) ae];exact h0
 have y2:=(d.cell (p:=⟨b,i * 5 + 2,none⟩) q).trans Y;have y3:=(d.cell (p:=⟨b,i * 5 + 3,none⟩) q).trans X;have z2:=(d.frozen (p:=⟨b,i * 5 + 2,none⟩) q).trans f2;have z3:=(d.frozen (p:=⟨b,i * 5 + 3,none⟩) q).trans f3;rw [<- L];have D:=hide (HS.out.later d);have KW:=hide (dm.of_below d);have EW:=hide (iJ.of_below (cv:=.slice (some ⟨b,0,none⟩) f.length m) d);have E:Hid (Below B w W):=d.mono HS.out.bsize;have ak:Hid (nT B W):=HT.out.later E.out;clear L d h0 Y X f2 f3 HS;have az:(0:Int) <= (i:Int):=by omega
 have ay:(i:Int) < (f.length:Int):=by omega
 have KS:Hid (∀ n,Below W.heap.size W n->(n.cell? ⟨sb,0,none⟩=some (.slice (some ⟨b,0,none⟩) f.length m)/\n.cell? ⟨w.heap.size,0,none⟩=some (.int .u64 (J.1:Int))/\n.cell? ⟨w.heap.size,1,none⟩=some (.int .u64 (J.2:Int)))/\
   n.cell? ⟨b,i * 5 + 2,none⟩=some (.int .u64 (wk.1:Int))/\n.cell? ⟨b,i * 5 + 3,none⟩=some (.int .u64 (wk.2:Int))/\n.frozen? ⟨b,i * 5 + 2,none⟩=false/\n.frozen? ⟨b,i * 5 + 3,none⟩=false):=fun n h=>
  ⟨⟨(h.cell (p:=⟨sb,0,none⟩) (by simp;omega)).trans y0,(h.cell (p:=⟨w.heap.size,0,none⟩) (by simp;omega)).trans x0,(h.cell (p:=⟨w.heap.size,1,none⟩) (by simp;omega)).trans x1⟩,
   (h.cell (p:=⟨b,i * 5 + 2,none⟩) (by simp;omega)).trans y2,(h.cell (p:=⟨b,i * 5 + 3,none⟩) (by simp;omega)).trans y3,(h.frozen (p:=⟨b,i * 5 + 2,none⟩) (by simp;omega)).trans z2,(h.frozen (p:=⟨b,i * 5 + 3,none⟩) (by simp;omega)).trans z3⟩
 go_cut [] from 7 (fun wx=>∃ I,Hid (Below W.heap.size W I)/\wx=(I.setCell ⟨b,i * 5 + 2,none⟩ (.int .u64 (S.1:Int))).setCell ⟨b,i * 5 + 2 + 1,none⟩ (.int .u64 (S.2:Int)))
 case first=>
  go_region_with (go_at_call 75;refine (K _).mono ?_;rintro e7 I ⟨rfl,P⟩;have x:Hid (Below W.heap.size W I):=bR.drew.trans P;obtain ⟨⟨k0,_⟩,k2,k3,k4,k5⟩:=KS.out I x.out;clear P)
  all_goals
   go_wp2_with fail
   go_meet;exact ⟨_,x,rfl⟩
 case rest=>
  obtain ⟨I,x,s⟩:=hcut;have Z:=D.out.later x.out;have SC:=Z.setW hi S;have KC:Hid (dm w wc):=by unfold Hid;rw [s];exact (KW.out.trans (dm.of_below x.out)).trans (Z.vD _ _ _ _)
  have EC:Hid (iJ (.slice (some ⟨b,0,none⟩) f.length m) (.slice (some ⟨b,0,none⟩) f.length m) w wc):=by unfold Hid;rw [s];exact (EW.out.trans (iJ.of_below x.out)).trans (Z.MF _ _ _ _)
  have BC:Below B w wc:=by rw [s];exact ((E.out.trans (x.out.mono D.out.bsize)).setCell z _).setCell z _
  rw [<- s] at SC;have xc:∀ j,j < 2->wc.cell? ⟨w.heap.size,j,none⟩=W.cell? ⟨w.heap.size,j,none⟩:=fun j hj=>by
   rw [s,World.cell?_setCell_far _ _ _ _ (by simp;omega),World.cell?_setCell_far _ _ _ _ (by simp;omega)];exact x.out.cell (p:=⟨w.heap.size,j,none⟩) (by simp;omega)
  have v0:=(xc 0 (by omega)).trans x0;have v1:=(xc 1 (by omega)).trans x1;have Q:=hide SC;have an:=hide BC;have al:Hid (nT B wc):=HT.out.later BC;have qp:=QP.out wc al.out;clear s Z SC BC xc KS y0 y2 y3 z2 z3 x0 x1 x D E ak K;go_wp2_with fail
  with_reducible refine qp.mono ?_
  rintro e8 v ⟨rfl,t⟩;have M:=Q.out.later t;have K8:Hid (dm w v.drew):=(KC.out.trans (dm.of_below t)).trans (dm.of_below bR.drew);have E8:Hid (iJ (.slice (some ⟨b,0,none⟩) f.length m) (.slice (some ⟨b,0,none⟩) f.length m) w v.drew):=(EC.out.trans (iJ.of_below t)).trans (iJ.of_below bR.drew);have B8:Hid (Below B w v):=an.out.trans (t.mono Q.out.bsize);obtain ⟨wa,y,o⟩:=dH (M.mP c g);have hd:=M.head (5 + c) (by omega);rw [show iU (.slice (some ⟨b,0,none⟩) f.length m) U r u H (5 + c)=H c by rw [Nat.add_comm];rfl,o] at hd;obtain ⟨aB,aA⟩:=hd;have am:=hide M;have aw:=M.bsize;have ao:=M.row.lt;clear qp t M;have C:Hid (fu B sb v.drew (.slice (some ⟨b,0,none⟩) f.length m) U r u H (eZ f i S) wl):=am.out.later bR.drew;have OD:Hid (v.drew.ownsRow B 3 1 (.slice wa (wl c).length y) (wl c).length (fA (wl c))):=by have:=C.out.mP c g;rw [o] at this;exact this
  have BD:Hid (Below B w v.drew):=B8.out.drew;have aj:=hide o;have nl:(wl c).length <= 1700000000000:=O;have VI:(0:Int) <= (c:Int):=by omega
  have ax:(c:Int) < 128:=by omega
  clear o;go_wp2;go_region_law
   (refine ik _ (by rfl) _ _ 43 (by rfl) B 3 i0 (.int .i64 0) 1 8 Tryz.underlying43 ah ac ab aa (by rfl) (by decide) (.slice wa (wl c).length y) (wl c).length (fA (wl c)) (by rfl) (OD.out.alloc (.cells #[.int .i64 (i:Int)] 3)) (.slice (some ⟨v.heap.size,0,none⟩) 1 1) 1 [.int .i64 (i:Int)] (by rfl) (.inr ⟨⟨v.heap.size,0,none⟩,1,rfl,(cell_one_new v.drew _ _)⟩) (by rfl) (by simp [Value.oneCell']) (by unfold maxLen;omega) (by omega) (by simp;omega) ?_;intro R w6 A6;have G:dz (v.drew.alloc (.cells #[.int .i64 (i:Int)] 3)) B 3 1 (H c) (wl c).length (fA (wl c)) 1 [.int .i64 (i:Int)] R w6:=(by rw [aj.out];exact A6);have S6:=hide (C.out.JW g G);have B6:=hide (C.out.nO g G BD.out R (5 + c));have KE:=hide (K8.out.trans (C.out.ME g G R (5 + c)));have EE:=hide (E8.out.trans (C.out.MG g G R (5 + c)));have K6:=(C.out.jQ g G (5 + c) (by omega)).1;have K7:=(C.out.jQ g G (5 + c) (by omega)).2;obtain ⟨av,au,ad⟩:=dH A6.own;subst ad;clear A6 G)
  all_goals
   go_wp2;go_end0
   exact ⟨rfl,B6.out,KE.out,EE.out,_,fun k hk=>if_neg hk,S6.out⟩
theorem Ii {B sb j:Nat} {cv:Value} {b:Int} {u:Key} {h:Nat->Value} {c:List dN} {wl:Nat->List Nat} (i:Nat) (l:Int) (w:World) (m:dY l) (hi:i < c.length) (n:(c[i]).watched.ok) (d:c.length <= 1600000000000) (g:(wl (place l)).length <= 1700000000000)
  (p:fu B sb w cv j b u h c wl) (o:nT B w):
  Calls Tryz.prog 159 #[.pointer (some ⟨sb,0,none⟩),.int .i64 i,dC (single l)] w fun e f=>e=.returned (.tuple #[])/\Below B w f/\dm w f/\
   ∃ a,(∀ k,k ≠ place l->a k=h k)/\fu B sb f cv j b u a (eZ c i ((c[i]).watched.un (single l))) (fun k=>if k=place l then wl (place l) ++ [i] else wl k):=by
 with_reducible refine (xP i l w m hi n d g p o).mono ?_
 rintro e f ⟨v,t,s,_,a,q,r⟩;exact ⟨v,t,s,a,q,r⟩
theorem xO {B sb h:Nat} {cv:Value} {a:Int} {u:Key} {j:Nat->Value} {c:List dN} {wl:Nat->List Nat} (i:Nat) (l:Int) (w:World) (m:dY l) (hi:i < c.length) (n:(c[i]).watched.ok) (f:c.length <= 1600000000000) (g:(wl (place l)).length <= 1700000000000)
  (p:fu B sb w cv h a u j c wl) (o:nT B w):
  Calls Tryz.prog 159 #[.pointer (some ⟨sb,0,none⟩),.int .i64 i,dC (single l)] w fun e d=>e=.returned (.tuple #[])/\Below B w d/\dm w d/\iJ cv cv w d/\
   ∃ b,fu B sb d cv h a u b (eZ c i ((c[i]).watched.un (single l))) (fun k=>if k=place l then wl (place l) ++ [i] else wl k):=by
 with_reducible refine (xP i l w m hi n f g p o).mono ?_
 rintro e d ⟨v,t,s,q,b,_,r⟩;exact ⟨v,t,s,q,b,r⟩
end
end
end Rd
end Go.Proofs.YtceahffmenbibaaGreatDoor
