/- Pfwk. -/
import Derived.Test.YtceahffmenbibaaGreatDoorH09
set_option linter.unusedVariables false
set_option linter.unusedSimpArgs false
set_option maxHeartbeats 4000000
set_option maxRecDepth 100000
namespace Go.Proofs.YtceahffmenbibaaGreatDoor
namespace Rd
section
open Go Go.RowKit Go.Deep
section
attribute [local go_sem ↓] Go.wp_at_zero Go.wp_at_succ
theorem fJ.UY {c:List dN} {wl:Nat->List Nat} (h:fJ c wl) {j:Nat} (f:j < c.length):(c[j]).watched.ok:=by
 by_cases d:2 <= (c[j]).set.size
 ·obtain ⟨a,b,_,i,g,_,_,e,_⟩:=h.two j f d;rw [e];exact qB (fP i) (fP g)
 ·rw [h.one j f d];exact kN
theorem dV.start {B sb f:Nat} {cv:Value} {a:Int} {u:Key} {d:Nat->Value} {g:List dN} {wl:Nat->List Nat} {w:World} (L D:Key) (c:fu B sb w cv f a u d g wl) (j:nT B w):
  dV B sb w L D (0,0) cv f a u d g wl (((w.alloc (.cells #[.int .u64 (L.1:Int),.int .u64 (L.2:Int)] 84)).alloc (.cells #[.int .u64 (D.1:Int),.int .u64 (D.2:Int)] 84)).alloc (.cells #[.int .u64 0,.int .u64 0] 84)):=by
 have b:Below w.heap.size w (((w.alloc (.cells #[.int .u64 (L.1:Int),.int .u64 (L.2:Int)] 84)).alloc (.cells #[.int .u64 (D.1:Int),.int .u64 (D.2:Int)] 84)).alloc (.cells #[.int .u64 0,.int .u64 0] 84)):=Jy bR lr _ _ _;have i:=fZ w (Value.int IntKind.u64 (L.1:Int)) (Value.int IntKind.u64 (L.2:Int)) 84;have h:=pO w (.cells #[.int .u64 (L.1:Int),.int .u64 (L.2:Int)] 84) (Value.int IntKind.u64 (D.1:Int)) (Value.int IntKind.u64 (D.2:Int)) 84;have e:=pO (w.alloc (.cells #[.int .u64 (L.1:Int),.int .u64 (L.2:Int)] 84)) (.cells #[.int .u64 (D.1:Int),.int .u64 (D.2:Int)] 84) (Value.int IntKind.u64 0) (Value.int IntKind.u64 0) 84;exact {
  kR:=(i.alloc _).alloc _
  p9:=h.alloc _
  mM:=by
   have:(w.alloc (.cells #[.int .u64 (L.1:Int),.int .u64 (L.2:Int)] 84)).heap.size + 1=w.heap.size + 2:=by simp
   rw [this] at e;exact e
  fK:=c.later b
  below:=b.mono c.bsize
  keeps:=dm.of_below b
  hs:=by simp
  tab:=j.later (b.mono c.bsize)
  bw:=c.bsize }
theorem uy {X w6:World} (a:Below ((X.alloc (.cells #[.int .u64 0,.int .u64 0] 84)).drew).heap.size ((X.alloc (.cells #[.int .u64 0,.int .u64 0] 84)).drew) w6):Hid (w6.rowIs X.heap.size 84 2 (gJ (0,0))):=by
 have r:=(fZ X (.int .u64 0) (.int .u64 0) 84).drew;exact r.of_block (a.block _ r.lt)
theorem uw {X w6:World} (a:Below (X.alloc (.cells #[.int .u64 0,.int .u64 0] 84)).heap.size (X.alloc (.cells #[.int .u64 0,.int .u64 0] 84)) w6):Hid (w6.rowIs X.heap.size 84 2 (gJ (0,0))):=by
 have r:=fZ X (.int .u64 0) (.int .u64 0) 84;exact r.of_block (a.block _ r.lt)
theorem J4 {X a:World} {c:Nat} (b:Below X.drew.heap.size X.drew a) (h:Hid (X.rowIs c 84 2 (gJ (0,0)))):Hid (a.rowIs c 84 2 (gJ (0,0))):=h.out.of_block (b.block _ h.out.lt)
theorem EO {X a:World} {c:Nat} (b:Below X.heap.size X a) (h:Hid (X.rowIs c 84 2 (gJ (0,0)))):Hid (a.rowIs c 84 2 (gJ (0,0))):=h.out.of_block (b.block _ h.out.lt)
theorem di {a:World} {c:Nat} {s:Key} (h:Hid (a.rowIs c 84 2 (gJ s))):a.cell? ⟨c,0,none⟩=some (.int .u64 (s.1:Int))/\a.cell? ⟨c,1,none⟩=some (.int .u64 (s.2:Int))/\a.frozen? ⟨c,0,none⟩=false/\a.frozen? ⟨c,1,none⟩=false:=
 ⟨h.out.cell (i:=0) (by omega),h.out.cell (i:=1) (by omega),h.out.frozen 0,h.out.frozen 1⟩
def JF (wr:World) (i:Nat) (free:Key) (p i25:Value) (wx:World):Prop:=
 ∃ b:Nat,p=.pointer (some ⟨b,0,none⟩)/\i25=.int .i64 i/\Hid (Below wr.heap.size wr wx/\wx.rowIs b 84 2 (gJ free)/\wr.heap.size <= b)
def WR (wr:World) (i fb:Nat) (c:Bool) (p i25 v:Value) (wx:World):Prop:=p=.pointer (some ⟨fb,0,none⟩)/\i25=.int .i64 i/\v=.bool c/\Hid (Below wr.heap.size wr wx)
def XT (w3:World) (i fb cb o:Nat) (k:Key) (p i25:Value) (wx:World):Prop:=p=.pointer (some ⟨fb,0,none⟩)/\i25=.int .i64 i/\∃ w7,Hid (Below w3.heap.size w3 w7)/\wx=(w7.setCell ⟨cb,o,none⟩ (.int .u64 (k.1:Int))).setCell ⟨cb,o + 1,none⟩ (.int .u64 (k.2:Int))
theorem Qe {wr b:World} {i:Nat} {a:Key} (c:Below wr.heap.size wr b):JF wr i a (.pointer (some ⟨b.heap.size,0,none⟩)) (.int .i64 i) (b.alloc (.cells #[.int .u64 (a.1:Int),.int .u64 (a.2:Int)] 84)):=
 ⟨_,rfl,rfl,c.alloc c.size _,fZ _ _ _ _,c.size⟩
theorem Gb {wr c:World} {i b:Nat} {a:Key} (e:Below wr.heap.size wr c) (d:wr.heap.size <= b) (R:Hid (c.rowIs b 84 2 (gJ (0,0)))):JF wr i a (.pointer (some ⟨b,0,none⟩)) (.int .i64 i) ((c.setCell ⟨b,0,none⟩ (.int .u64 (a.1:Int))).setCell ⟨b,1,none⟩ (.int .u64 (a.2:Int))):=
 ⟨b,rfl,rfl,(e.setCell d _).setCell d _,nI R.out,d⟩
theorem qR {B sb Y:Nat} {cv:Value} {C:Int} {u:Key} {wv:Nat->Value} {es:List dN} {wl:Nat->List Nat} (lit:Int) (d:Key) (w:World) (il:dY lit) (hd:d.ok) (bn:d.has (-lit)=true) (aZ:es.length <= 1600000000000)
  (hS:fu B sb w cv Y C u wv es wl) (hT:nT B w) (hW:fJ es wl):
  Calls Tryz.prog 167 #[.pointer (some ⟨sb,0,none⟩),dC (single lit),dC d] w fun e I=>oU B sb w lit d cv Y C u es e I:=by
 have M0:=hide (dV.start (single lit) d hS hT);have HW:=hide hW;have ac:=gN il;obtain ⟨wa,q,ah⟩:=dH (hS.mP (place lit) ac);have aW:=hW.len ac;have QP:Hid (∀ W,nT B W->Calls Tryz.prog 199 #[dC (single lit)] W fun e I=>e=.returned (.int .i64 (place lit:Nat))/\Below W.heap.size W I):=fun W h=>Bf lit W il h.1
 unfold dC at QP ⊢;clear hS hT hW;go_enter Tryz.func167,Tryz.ntmps167
 go_upto_region 1 with fail
 obtain ⟨W,ba⟩:∃ W,W=((w.alloc (.cells #[.int .u64 ((single lit).1:Int),.int .u64 ((single lit).2:Int)] 84)).alloc (.cells #[.int .u64 (d.1:Int),.int .u64 (d.2:Int)] 84)).alloc (.cells #[.int .u64 0,.int .u64 0] 84):=⟨_,rfl⟩;rw [<- ba] at M0 ⊢;clear ba;have x0:=M0.out.kR.cell (i:=0) (by omega);have x1:=M0.out.kR.cell (i:=1) (by omega);unfold gJ vZ at x0 x1;simp only [if_true,show ¬ (1=0) by decide,if_false] at x0 x1;have qp:=QP.out W M0.out.tab;go_wp2_with fail
 with_reducible refine qp.mono ?_
 rintro e8 w8 ⟨rfl,a7⟩;simp only [];have M8:=hide (M0.out.later a7);have hh:=(M8.out.fK.head (5 + place lit) (by omega)).1;rw [show iU cv Y C u wv (5 + place lit)=wv (place lit) by rw [Nat.add_comm];rfl,ah] at hh;have p0:(0:Int) <= (place lit:Nat):=by omega
 have p1:((place lit:Nat):Int) < 128:=by omega
 go_wp2;have S0:Hid (eU B sb w lit d cv Y C u es (wl (place lit)) (wv (place lit)) 0 [] (0,0) wv es wl w8):=eU.start M8.out HW.out
 rw [ah] at S0;have aT:=hide aZ;have M:(wa=none/\(wl (place lit)).length=0/\q=0)\/∃ S,wa=some ⟨S,0,none⟩/\(wl (place lit)).length <= q:=by
  have hw:=M8.out.fK.mP (place lit) ac;rw [ah] at hw
  rcases hw.2 with ⟨e,h0⟩ | ⟨g,be,ap,e,_,_,hn,_⟩
  ·obtain ⟨e1,e2,e3⟩:=Value.slice.inj e;exact .inl ⟨e1,e2,e3⟩
  ·obtain ⟨e1,e2,e3⟩:=Value.slice.inj e;exact .inr ⟨g,e1,by rw [e3];exact hn⟩
 clear hh qp x0 x1 a7 M8 M0 ah HW QP;generalize wl (place lit)=a at S0 aW M ⊢;go_loopw [10,25] (fun k i wr=>JJ B sb w lit d cv Y C u es a (.slice wa a.length q) k i wr) (fun k i _=>a.length - (intOf i).toNat)
 case atStart=>exact ⟨0,[],(0,0),_,_,_,rfl,rfl,S0⟩
 case round=>
  clear S0;obtain ⟨i,z,F,K,f,H,rfl,rfl,r⟩:=hrel;have bS:=r.out.pX.vH;have aw:=r.out.pX.o8;have bO:=r.out.mem.hs;by_cases ae:i < a.length
  ·obtain ⟨S,rfl,bx⟩:∃ S,wa=some ⟨S,0,none⟩/\a.length <= q:=by
    rcases M with ⟨_,h0,_⟩ | h
    ·omega
    ·exact h
   clear M;obtain ⟨hj,b,bm,a5,ib,aY,aE,aX,_⟩:=r.out.pX.pair il ae;obtain ⟨L,aa,bo,aG,P,bw,bp,G⟩:=r.out.mem.fK.wY _ hj;have ad:=r.out.mem.fK.mP (place lit) ac;simp only [if_true] at ad;rw [r.out.hv,fT (by omega)] at ad;have a9:=ad.cellAt i (by omega);have a8:wr.cell? ⟨S,i,none⟩=some (.int .i64 (a[i]:Nat)):=by
    rw [a9];unfold fA;rw [List.getElem?_map,List.getElem?_eq_getElem (by rw [fT (by omega)];exact ae),IU aw ae];rfl
   have bT:=ad.frozenAt z.length;have ax:f.length=es.length:=o6 r.out.pX.same;have ar:Hid (∀ F' ws,dV B sb w (single lit) (d.un F') F' cv Y C u K f (fun k=>if k=place lit then mix z a else H k) ws->jY es lit d a (i + 1) f H (z ++ [a[i]]) F'->eU B sb w lit d cv Y C u es a (.slice (some ⟨S,0,none⟩) a.length q) (i + 1) (z ++ [a[i]]) F' K f H (ws.setCell ⟨S,z.length,none⟩ (.int .i64 (a[i]:Nat)))):=fun F' ws hM hF=>eU.keep hM r.out.hv il ae aw hF
   have aq:Hid (((f[a[i]]).times=0\/sH (f[a[i]]).set (d.un F)=true)->jY es lit d a (i + 1) f H (z ++ [a[i]]) F):=fun h=>r.out.pX.skip ae fun hj ht=>by
    rcases h with h | h
    ·omega
    ·exact (Bp _ _).1 h
   have af:Hid (0 < (f[a[i]]).times->sH (f[a[i]]).set (d.un F)=false->∀ l,dY l->(f[a[i]]).set.wo (d.un F).op=single l->jY es lit d a (i + 1) f H (z ++ [a[i]]) (F.un (single l))):=fun h1 h2 l h3 h4=>r.out.pX.unit ae hj h1 h3 h4 (fun h=>by rw [(Bp _ _).2 h] at h2;cases h2)
   have ag:Hid (0 < (f[a[i]]).times->(f[a[i]]).set.wo (d.un F).op=(0,0)->iE es f lit d F true):=fun h1 h2=>r.out.pX.zq ae hj h1 h2
   have ab:Hid (∀ c,dY c->(f[a[i]]).set.has c=true->c ≠ lit->(f[a[i]]).watched.has c=false->(d.un F).has (-c)=false->jY es lit d a (i + 1) (eZ f a[i] (((f[a[i]]).watched.wo (single lit)).un (single c))) (fun k=>if k=place c then H k ++ [a[i]] else H k) z F):=fun c h1 h2 h3 h4 h5=>r.out.pX.move ae il h1 hj h2 h3 h4 h5
   have aI:(f[a[i]]).set.ok:=r.out.pX.gT.ok _ (List.getElem_mem _);have UY:(f[a[i]]).watched.ok:=r.out.pX.gT.UY hj;have aR:(d.un F).ok:=qB hd r.out.pX.Gl;have c0:=(G 0 (by omega)).1;have c1:=(G 1 (by omega)).1;have c2:=(G 2 (by omega)).1;have c3:=(G 3 (by omega)).1;have c4:=(G 4 (by omega)).1;have f2:=(G 2 (by omega)).2;have f3:=(G 3 (by omega)).2;simp only [lQ,List.getElem?_cons_succ,List.getElem?_cons_zero] at c0 c1 c2 c3 c4;have d0:=r.out.mem.p9.cell (i:=0) (by omega);have d1:=r.out.mem.p9.cell (i:=1) (by omega);unfold gJ vZ at d0 d1;simp only [if_true,show ¬ (1=0) by decide,if_false] at d0 d1;have y0:wr.cell? ⟨sb,0,none⟩=some cv:=(r.out.mem.fK.head 0 (by omega)).1;subst bo;have bZ:=hide aY;have b0:=hide aE;have bg:=hide aX;have HJ:=hide hj;have ji:(a[i]:Nat) < f.length:=hj;clear aY aE aX G ad a9 bm;generalize (f[a[i]]).set=s at *
   generalize (f[a[i]]).watched=wk at *
   generalize (f[a[i]]).times=t at *
   generalize hD:d.un F=D at *
   obtain ⟨j,aN⟩:∃ j:Nat,a[i]=j:=⟨_,rfl⟩;simp only [aN] at a8 c0 c1 c2 c3 c4 f2 f3 ar aq af ag ab ji;have b1:=hide aN;clear aN;have c0:wr.cell? ⟨L,j * 5,none⟩=some (.int .u64 (s.1:Int)):=c0;have bL:(0:Int) <= (j:Int):=by omega
   have bK:(j:Int) < (f.length:Int):=by omega
   have bN:(0:Int) <= (i:Int):=by omega
   have bM:(i:Int) < (a.length:Int):=by omega
   have QO:Hid (∀ W,Calls Tryz.prog 118 #[dC D] W fun e I=>e=.returned (dC D.op)/\Below W.heap.size W I):=fun W=>oK D W
   have QF:Hid (∀ W,Calls Tryz.prog 114 #[dC s,dC D.op] W fun e I=>e=.returned (dC (s.wo D.op))/\Below W.heap.size W I):=fun W=>jm s D.op W aI (OY aR)
   have V:(s.wo D.op).ok:=sD aI _;unfold dC at QO QF;have bu:Hid (s.wo D.op=s.wo D.op):=rfl;generalize a1:s.wo D.op=o at QF V af ag;have HF:=hide a1;generalize D.op=op at QO QF;clear a1 bu;go_upto_region 8 with fail
   go_cut [14,25] from 25 to 112 (fun p al wx=>JF wr i o p al wx)
   case first=>
    have KS:Hid (∀ I,Below wr.heap.size wr I->I.cell? ⟨L,j * 5,none⟩=some (.int .u64 (s.1:Int))/\I.cell? ⟨L,j * 5 + 1,none⟩=some (.int .u64 (s.2:Int))):=fun I h=>
     ⟨(h.cell (p:=⟨L,j * 5,none⟩) P).trans c0,(h.cell (p:=⟨L,j * 5 + 1,none⟩) P).trans c1⟩
    have bI:w.heap.size + 1 < wr.heap.size:=by omega
    have bF:¬ (w.heap.size + 1=wr.heap.size):=by omega
    have bE:¬ (wr.heap.size=w.heap.size + 1):=by omega
    have bD:¬ (L=wr.heap.size):=by omega
    have bC:¬ (wr.heap.size=L):=by omega
    go_region_with (first
     |(go_at_call 118;refine (QO.out _).mono ?_;rintro e6 w6 ⟨rfl,J⟩;have X:Hid (Below wr.heap.size wr w6):=(by first | exact bR.drew.trans J | exact (bR.drew.alloc lr _).drew.trans (J.mono (by simp)) | exact (bR.alloc lr _).drew.trans (J.mono (by simp)));obtain ⟨k0,U⟩:=KS.out w6 X.out;have l6:L < w6.heap.size:=(by have:=X.out.size;omega);(first | (have N6:=(by with_reducible exact uy J)) | (have N6:True:=trivial));clear J;simp only [])
     |(go_at_call 114;refine (QF.out _).mono ?_;rintro e7 w7 ⟨rfl,Z⟩;have B7:Hid (Below wr.heap.size wr w7):=(by first | exact X.out.trans (Z.mono X.out.size) | exact (X.out.alloc X.out.size _).trans (Z.mono (by have:=X.out.size;simp;omega)) | exact X.out.drew.trans (Z.mono X.out.size) | exact (X.out.alloc X.out.size _).drew.trans (Z.mono (by have:=X.out.size;simp;omega)));(first | (have R7:=(by with_reducible exact uw Z);obtain ⟨m0,m1,m2,m3⟩:=di R7) | (have R7:=(by with_reducible exact EO Z N6);obtain ⟨m0,m1,m2,m3⟩:=di R7) | (have R7:=(by with_reducible exact uy Z);obtain ⟨m0,m1,m2,m3⟩:=di R7) | (have R7:=(by with_reducible exact J4 Z N6);obtain ⟨m0,m1,m2,m3⟩:=di R7) | skip);clear Z;simp only []))
    all_goals
     go_wp2_with fail
     go_meet
     first
      | exact Qe B7.out
      | exact Gb B7.out lr R7
      | exact Gb B7.out X.out.size R7
   case rest=>
    obtain ⟨fb,rfl,rfl,Q⟩:=hcut;have M1:Hid (dV B sb w (single lit) D F (.slice (some ⟨L,0,none⟩) f.length aa) Y C u K f (fun k=>if k=place lit then mix z a else H k) wc):=by
     have:=r.out.mem.later Q.out.1;rw [hD] at this;exact this
    have QM:Hid (∀ W,Calls Tryz.prog 168 #[dC s,dC D] W fun e I=>e=.returned (.bool (sH s D))/\Below W.heap.size W I):=fun W=>vk s D W aI aR
    unfold dC at QM;have e0:=(Q.out.1.cell (p:=⟨L,j * 5,none⟩) P).trans c0;have e1:=(Q.out.1.cell (p:=⟨L,j * 5 + 1,none⟩) P).trans c1;have e4:=(Q.out.1.cell (p:=⟨L,j * 5 + 4,none⟩) P).trans c4;have bX:=(Q.out.1.cell (p:=⟨w.heap.size + 1,0,none⟩) (by simp;omega)).trans d0;have bW:=(Q.out.1.cell (p:=⟨w.heap.size + 1,1,none⟩) (by simp;omega)).trans d1;have mm:∃ m,sH s D=m:=⟨_,rfl⟩;obtain ⟨m,hm⟩:=mm;rw [hm] at QM;have HM:=hide hm;clear hm;go_upto_region 9 with fail
    go_cut [14,25,56] from 25 to 112 (fun p al v wx=>WR wc i fb (decide (0 < t) && !m) p al v wx)
    case first=>
     by_cases ht:t=0
     ·subst ht;go_quiet (fail)
      go_wp2;go_meet
      exact ⟨rfl,rfl,rfl,dX bR _⟩
     ·obtain ⟨t',rfl⟩:∃ t',t=t' + 1:=⟨t - 1,by omega⟩;have E:Hid ((decide (0 < t' + 1) && !m)=!m):=by unfold Hid;rw [decide_eq_true (by omega)];rfl
      go_region_with (go_at_call 168;refine (QM.out _).mono ?_;rintro e6 w6 ⟨rfl,J⟩;have X:Hid (Below wc.heap.size wc w6):=(by first | exact bR.drew.trans J | exact J);clear J;simp only [])
      all_goals
       go_wp2_with fail
       go_meet;exact ⟨rfl,rfl,by rw [E.out],X.out⟩
    case rest=>
     obtain ⟨rfl,rfl,rfl,B2⟩:=hcut;have M2:=hide (M1.out.later B2.out);have gw:=M2.out.fK.mP (place lit) ac;simp only [if_true] at gw;rw [r.out.hv,fT (by omega)] at gw;have av:z.length < a.length:=by omega
     have g1:=gw.cellAt z.length (by omega);rw [List.getElem?_eq_getElem (by rw [iw,fT (by omega)];exact av)] at g1;have g2:=gw.frozenAt z.length;obtain ⟨gx,am⟩:∃ x,(fA (mix z a))[z.length]'(by rw [iw,fT (by omega)];exact av)=x:=⟨_,rfl⟩;rw [am] at g1;have k0:(0:Int) <= (z.length:Int):=by omega
     have U:(z.length:Int) < (a.length:Int):=by omega
     clear gw am;by_cases hc:(decide (0 < t) && !m)=false
     ·have SK:Hid (t=0\/sH s D=true):=by
       unfold Hid;rw [HM.out]
       cases m with
       | true=>exact .inr rfl
       | false=>left;simpa using hc
      have NX:Hid (eU B sb w lit d (.slice (some ⟨L,0,none⟩) f.length aa) Y C u es a (.slice (some ⟨S,0,none⟩) a.length q) (i + 1) (z ++ [j]) F K f H (wc.setCell ⟨S,z.length,none⟩ (.int .i64 (j:Int)))):=by
       have M3:=M2.out;rw [<- hD] at M3;exact ar.out F _ M3 (aq.out SK.out)
      rw [hc];clear SK M2 M1;go_wp2;go_roundw
      case rel=>exact ⟨i + 1,z ++ [j],F,K,f,H,by simp,lL (by omega),NX⟩
      case measure=>simp [intOf];omega
     ·have ct:(decide (0 < t) && !m)=true:=by cases h:(decide (0 < t) && !m) <;> simp_all
      have tp:0 < t:=by
       have:=ct;simp only [Bool.and_eq_true,decide_eq_true_eq] at this;exact this.1
      have mf:m=false:=by
       have:=ct;simp only [Bool.and_eq_true,Bool.not_eq_true'] at this;exact this.2
      rw [mf] at HM;rw [ct];clear hc ct;have FR:Hid (wc.rowIs fb 84 2 (gJ o)):=Q.out.2.1.of_block (B2.out.block _ Q.out.2.1.lt);have bV:=Q.out.2.2;obtain ⟨r0,r1,_,_⟩:=di FR;have QS:Hid (∀ W,Calls Tryz.prog 110 #[dC o] W fun e I=>e=.returned (.int .i64 (o.size:Nat))/\Below W.heap.size W I):=fun W=>jq o W V
      unfold dC at QS;obtain ⟨n,hn⟩:∃ n:Nat,o.size=n:=⟨_,rfl⟩;rw [hn] at QS;have HN:=hide hn;clear hn;go_upto_region 10 with fail
      go_wp2_with fail
      with_reducible refine (QS.out _).mono ?_
      rintro e3 w3 ⟨rfl,ay⟩;simp only [];have M3:=hide (M2.out.later ay);have ai:Hid (w3.rowIs fb 84 2 (gJ o)):=FR.out.of_block (ay.block _ FR.out.lt);have B3:=hide ay;clear ay r0 r1;by_cases n0:n=0
      ·subst n0;have a2:=uW V HN.out;have FP:=hide (ag.out tp a2);have WI:=hide r.out.pX.gT;clear a2;obtain ⟨ap,hg,br,-,-⟩:=M3.out.fK.Xc ac r.out.hv;have gw:=M3.out.fK.mP (place lit) ac;simp only [if_true] at gw;rw [r.out.hv,fT (by omega)] at gw;obtain ⟨N,hN⟩:∃ N,N=a.length - i:=⟨_,rfl⟩;obtain ⟨cs,an⟩:∃ cs,cs=fA (a.drop i):=⟨_,rfl⟩;have hl:cs.length=N:=by rw [an,hN,iw];simp
       have aD:Hid (∀ j v,cs[j]? = some v->w3.cell? (Addr.add ⟨S,i,none⟩ j)=some v):=by rw [an];exact zm gw aw
       have a3:a.length <= ap.size:=Qv gw hg;have bh:=hide an;have HG:=hide hg;have bb:Hid (∀ v ∈ cs,v.oneCell'=true):=by rw [an];exact yB _
       have aA:=hide hN;have CP:Hid (∀ I,I.heap[S]? = some (.cells (splice ap.toList z.length cs).toArray 3 (0,0))->(∀ k,k ≠ S->I.heap[k]? = w3.heap[k]?)->Below B w3 I->dV B sb w (single lit) D F (.slice (some ⟨L,0,none⟩) f.length aa) Y C u K f (fun k=>if k=place lit then z ++ a.drop i ++ a.drop (z.length + N) else H k) I):=fun I q1 q2 q3=>by
        rw [bh.out] at q1;rw [aA.out];exact M3.out.copied r.out.hv il aw (by omega) HG.out q1 q2 q3
       have i1:(i:Int) < (q:Int):=by omega
       have i2:(i:Int) <= (q:Int):=by omega
       have i3:(i:Int) <= (a.length:Int):=by omega
       have k2:(z.length:Int) < (q:Int):=by omega
       have k3:(z.length:Int) <= (a.length:Int):=by omega
       have k4:(z.length:Int) <= (q:Int):=by omega
       have bA:¬ (q=i):=by omega
       have bz:¬ (q=z.length):=by omega
       have n1:i < q:=by omega
       have n2:z.length < q:=by omega
       have aM:N=Nat.min (a.length - i) (a.length - z.length):=by rw [hN];exact (Nat.min_eq_left (by omega)).symm
       have a0:z.length + N <= ap.size:=by omega
       have b9:z.length + N <= 1700000000000:=by have:=aT.out;omega
       clear gw an hg hN;go_upto_region 14 with fail
       go_cut [10] from 25 to 112 (fun k wx=>k=.int .i64 ((z.length + N:Nat):Int)/\Hid (dV B sb w (single lit) D F (.slice (some ⟨L,0,none⟩) f.length aa) Y C u K f (fun k=>if k=place lit then z ++ a.drop i ++ a.drop (z.length + N) else H k) wx))
       case first=>
        go_region_law (refine jJ (by rfl) _ _ 43 43 (by rfl) 3 Tryz.underlying43 (by rfl) S z.length ⟨S,i,none⟩ (a.length - z.length) (q - z.length) (a.length - i) (q - i) (by simp [Act.eval,Act.put]) (by simp [Act.eval,Act.put]) ap 3 HG.out cs (by rw [hl];exact aM) aD.out (by rw [hl];exact a0) bb.out B br ?_;intro w9 H1 H2 H3;rw [hl])
        all_goals
         go_wp2_with fail
         go_meet;refine ⟨?_,CP.out w9 H1.out H2.out ((Below.refl B w3).drew.trans H3.out)⟩
         rw [<- aM,xK _ (by omega) (by omega),Int.natCast_add]
       case rest=>
        obtain ⟨rfl,M9⟩:=hcut;have hh:=M9.out.fK.head (5 + place lit) (by omega);rw [show iU (.slice (some ⟨L,0,none⟩) f.length aa) Y C u K (5 + place lit)=K (place lit) by rw [Nat.add_comm];rfl,r.out.hv] at hh;obtain ⟨z1,z2⟩:=hh;have q1:(0:Int) <= ((z.length + N:Nat):Int):=by omega
        have q2:((z.length + N:Nat):Int) <= (q:Int):=by have:=aA.out;omega
        have O:Hid (dV B sb w (single lit) (d.un F) F (.slice (some ⟨L,0,none⟩) f.length aa) Y C u (fun k=>if k=place lit then .slice (some ⟨S,0,none⟩) (z.length + N) q else K k) f (fun k=>if k=place lit then z ++ a.drop i else H k) (wc.setCell ⟨sb,5 + place lit,none⟩ (.slice (some ⟨S,0,none⟩) (z.length + N) q))):=by
         have bf:=M9.out;rw [<- hD,aA.out] at bf;rw [aA.out];exact (bf.zq r.out.hv il WI.out FP.out).2
        clear a3 aM a0 aD bb CP bh HG;go_upto_region 15 with fail
        go_cut [7] from 25 to 112 (fun v wx=>wx=(wc.setCell ⟨sb,5 + place lit,none⟩ (.slice (some ⟨S,0,none⟩) (z.length + N) q)).drew)
        case first=>
         go_region
         all_goals
          go_wp2_with fail
          go_meet;rfl
        case rest=>
         have OD:=hide (O.out.later bR.drew);rw [<- hcut] at OD;clear hcut;obtain ⟨x0,x1,x2,x3⟩:=di (hide OD.out.mM);have O9:=hide (OD.out.OG F);go_wp2;refine @bodyPost_ret _ _ _ _ _ (.tuple #[.agg #[.int .u64 (F.1:Int),.int .u64 (F.2:Int)],.bool true]) ?_ ?_ ?_
         ·simp [results,Tryz.results167,go_sem,x0,x1]
         ·rfl
         ·exact ⟨F,true,_,f,_,rfl,O9.out.below,O9.out.keeps,O9.out.fK,FP.out,WI.out⟩
      ·by_cases n1:n=1
       ·subst n1;obtain ⟨l,ll,aO⟩:=uh V HN.out;have NF:=hide (af.out tp HM.out l ll aO);obtain ⟨r0,r1,_,_⟩:=di ai;obtain ⟨f0,f1,f4,f5⟩:=di (hide M3.out.mM);have QU:Hid (∀ W,Calls Tryz.prog 75 #[dC F,dC o] W fun e I=>e=.returned (dC (F.un o))/\Below W.heap.size W I):=fun W=>ig F o W r.out.pX.Gl V
        have QV:Hid (∀ W,Calls Tryz.prog 75 #[dC D,dC o] W fun e I=>e=.returned (dC (D.un o))/\Below W.heap.size W I):=fun W=>ig D o W aR V
        rw [<- aO] at NF;clear aO;have aH:Hid (d.un (F.un o)=D.un o):=by
         unfold Hid;rw [<- hD];exact kH fun x=>by simp only [dL,Bool.or_assoc]
        unfold dC at QU QV;generalize bP:F.un o=nf at QU NF aH;generalize bQ:D.un o=nd at QV aH;go_upto_region 18 with fail
        go_wp2_with fail
        with_reducible refine (QU.out _).mono ?_
        rintro e4 w4 ⟨rfl,aP⟩;simp only [];have aS:=hide (M3.out.later aP);obtain ⟨x0,x1,x2,x3⟩:=di (hide aS.out.mM);have M5:=hide (aS.out.OG nf);have bi:Hid (w4.rowIs fb 84 2 (gJ o)):=ai.out.of_block (aP.block _ ai.out.lt);have bj:fb ≠ w.heap.size + 2:=by omega
        have aV:=hide (bi.out.of_block (dZ (wr:=w4) (x:=.int .u64 (nf.1:Int)) (y:=.int .u64 (nf.2:Int)) fb bj));clear f0 f1 f4 f5 r0 r1 aP;go_upto_region 19 with fail
        generalize bl:(w4.setCell ⟨w.heap.size + 1 + 1,0,none⟩ (.int .u64 (nf.1:Int))).setCell ⟨w.heap.size + 1 + 1,1,none⟩ (.int .u64 (nf.2:Int))=w5 at M5 aV ⊢;clear bl x0 x1 x2 x3;obtain ⟨r0,r1,_,_⟩:=di aV;obtain ⟨f0,f1,f4,f5⟩:=di (hide M5.out.p9);go_wp2_with fail
        with_reducible refine (QV.out _).mono ?_
        rintro e6 w6 ⟨rfl,J⟩;simp only [];have M6:=hide (M5.out.later J);obtain ⟨x0,x1,x2,x3⟩:=di (hide M6.out.p9);have M7:=hide (M6.out.Tn nd);clear f0 f1 f4 f5 r0 r1 J;go_upto_region 20 with fail
        generalize bk:(w6.setCell ⟨w.heap.size + 1,0,none⟩ (.int .u64 (nd.1:Int))).setCell ⟨w.heap.size + 1,1,none⟩ (.int .u64 (nd.2:Int))=w7 at M7 ⊢;clear bk x0 x1 x2 x3 g1 g2;have gw:=M7.out.fK.mP (place lit) ac;simp only [if_true] at gw;rw [r.out.hv,fT (by omega)] at gw;have g1:=gw.cellAt z.length (by omega);rw [List.getElem?_eq_getElem (by rw [iw,fT (by omega)];exact av)] at g1;have g2:=gw.frozenAt z.length;obtain ⟨bU,am⟩:∃ x,(fA (mix z a))[z.length]'(by rw [iw,fT (by omega)];exact av)=x:=⟨_,rfl⟩;rw [am] at g1;clear gw am;have NX:Hid (eU B sb w lit d (.slice (some ⟨L,0,none⟩) f.length aa) Y C u es a (.slice (some ⟨S,0,none⟩) a.length q) (i + 1) (z ++ [j]) nf K f H (w7.setCell ⟨S,z.length,none⟩ (.int .i64 (j:Int)))):=by
         have M8:=M7.out;rw [<- aH.out] at M8;exact ar.out nf _ M8 NF.out
        clear M7 M6 M5 aS M3 M2 M1 FR ai bi aV;go_wp2;go_roundw
        case rel=>exact ⟨i + 1,z ++ [j],nf,K,f,H,by simp,lL (by omega),NX⟩
        case measure=>simp [intOf];omega
       ·have n2:2 <= o.size:=by rw [HN.out];omega
        have bt:=hide n2;have bH:((n:Int) == 0)=false:=by simp;omega
        have bG:((n:Int) == 1)=false:=by simp;omega
        obtain ⟨l0,l1,_,_⟩:=di (hide M3.out.kR);have au:Hid (Below wr.heap.size wr w3):=(Q.out.1.trans (B2.out.mono Q.out.1.size)).trans (B3.out.mono (Nat.le_trans Q.out.1.size B2.out.size));have v2:=(au.out.cell (p:=⟨L,j * 5 + 2,none⟩) P).trans c2;have v3:=(au.out.cell (p:=⟨L,j * 5 + 3,none⟩) P).trans c3;have v4:=(au.out.frozen (p:=⟨L,j * 5 + 2,none⟩) P).trans f2;have v5:=(au.out.frozen (p:=⟨L,j * 5 + 3,none⟩) P).trans f3;have az:L < w3.heap.size:=by have:=au.out.size;omega
        have QW:Hid (∀ W,Calls Tryz.prog 114 #[dC wk,dC (single lit)] W fun e I=>e=.returned (dC (wk.wo (single lit)))/\Below W.heap.size W I):=fun W=>jm wk (single lit) W UY (fP il)
        have aK:Hid (wk.wo (single lit)=single b):=by
         unfold Hid;rw [bg.out];exact kH fun x=>by
          rw [kK,dL,dh (dD il),dh (dD ib)];by_cases e1:x=lit
          ·have e2:¬ x=b:=fun e=>a5 (by rw [<- e,e1])
           simp [e1];exact fun e=>a5 e.symm
          ·simp [e1]
        have ak:(wk.wo (single lit)).ok:=sD UY _;unfold dC at QW;have NM:=hide ab.out;generalize wk.wo (single lit)=U at QW aK ak NM ab;clear ab;go_upto_region 11 with fail
        go_cut [14,25] from 25 to 112 (fun p al wx=>XT w3 i fb L (j * 5 + 2) U p al wx)
        case first=>
         have KS:Hid (∀ I,Below w3.heap.size w3 I->I.cell? ⟨L,j * 5 + 2,none⟩=some (.int .u64 (wk.1:Int))/\I.cell? ⟨L,j * 5 + 3,none⟩=some (.int .u64 (wk.2:Int))/\I.frozen? ⟨L,j * 5 + 2,none⟩=false/\I.frozen? ⟨L,j * 5 + 3,none⟩=false):=fun I h=>
          ⟨(h.cell (p:=⟨L,j * 5 + 2,none⟩) az).trans v2,(h.cell (p:=⟨L,j * 5 + 3,none⟩) az).trans v3,(h.frozen (p:=⟨L,j * 5 + 2,none⟩) az).trans v4,(h.frozen (p:=⟨L,j * 5 + 3,none⟩) az).trans v5⟩
         go_region_with (go_at_call 114;refine (QW.out _).mono ?_;rintro e6 w6 ⟨rfl,J⟩;have X:Hid (Below w3.heap.size w3 w6):=(by first | exact bR.drew.trans J | exact J);obtain ⟨y2,y3,y4,y5⟩:=KS.out w6 X.out;clear J;simp only [])
         all_goals
          go_wp2_with fail
          go_meet;exact ⟨rfl,rfl,_,X,rfl⟩
        case rest=>
         obtain ⟨rfl,rfl,w7,B7,aL⟩:=hcut;have M7:=M3.out.later B7.out;have M8:Hid (dV B sb w (single lit) D F (.slice (some ⟨L,0,none⟩) f.length aa) Y C u K (eZ f j U) (fun k=>if k=place lit then mix z a else H k) wc):=by
          unfold Hid;rw [aL];exact M7.step (M7.fK.setW ji U) (M7.fK.vD _ _ _ _) ((bR.setCell aG _).setCell aG _)
         have aU:w7.rowIs fb 84 2 (gJ o):=ai.out.of_block (B7.out.block _ ai.out.lt);have bv:Hid (wc.rowIs fb 84 2 (gJ o)):=by
          unfold Hid;rw [aL];exact aU.of_block (M7.fK.vD _ _ _ _ _ (gI aU))
         clear aL M7 aU;have j8:j < (eZ f j U).length:=by rw [ic];exact ji
         obtain ⟨bd,be,aF,_,bY,_,_,R⟩:=M8.out.fK.wY j j8;obtain ⟨bc,_,_⟩:=Value.slice.inj aF;have bs:bd=L:=by have:=Option.some.inj bc;exact (congrArg Addr.block this).symm
         subst bs;have u2:=(R 2 (by omega)).1;have u3:=(R 3 (by omega)).1;rw [jT f j U j8 ji] at u2 u3;simp only [lQ,List.getElem?_cons_succ,List.getElem?_cons_zero] at u2 u3;obtain ⟨q0,q1,_,_⟩:=di bv;have aQ:o.wo U ≠ (0,0):=by rw [aK.out];exact qG V bt.out (dD ib)
         obtain ⟨p1,p2,p3⟩:=mW (sD V U) aQ;have QA:Hid (∀ W,Calls Tryz.prog 114 #[dC o,dC U] W fun e I=>e=.returned (dC (o.wo U))/\Below W.heap.size W I):=fun W=>jm o U W V ak
         have QB:Hid (∀ W,Calls Tryz.prog 158 #[dC (o.wo U)] W fun e I=>e=.returned (dC (o.wo U).one)/\Below W.heap.size W I):=fun W=>xy _ W (sD V U) aQ
         rw [p1] at QB;generalize (o.wo U).gV=c at p2 p3 QB;rw [kK,Bool.and_eq_true,Bool.not_eq_true'] at p2;have pf:=p2.1;rw [<- HF.out,yV,Bool.and_eq_true,Bool.not_eq_true'] at pf;have bq:D.has (-lit)=true:=by rw [<- hD,dL,bn];rfl
         have ao:c ≠ lit:=fun e=>by rw [e,bq] at pf;exact absurd pf.2 (by simp)
         have a4:c ≠ b:=fun e=>by
          have:=p2.2;rw [aK.out,dh (dD ib),e] at this;simp at this
         have aC:wk.has c=false:=by
          rw [bg.out,dL,dh (dD il),dh (dD ib)];simp [ao,a4]
         have NF:=hide (NM.out c p3 pf.1 ao aC pf.2);have aJ:place c ≠ place lit:=fun e=>ao (kg p3 il e)
         have aB:(if place c=place lit then mix z a else H (place c)).length <= 1700000000000:=by
          have h9:=r.out.pX.gT.len (gN p3);simp only [aJ,if_false] at h9 ⊢;have:=aT.out;omega
         have QC:Hid (∀ W,Below wc.heap.size wc W->Calls Tryz.prog 159 #[.pointer (some ⟨sb,0,none⟩),.int .i64 j,dC (single c)] W fun e I=>e=.returned (.tuple #[])/\Hid (∃ aj,eU B sb w lit d (.slice (some ⟨bd,0,none⟩) f.length aa) Y C u es a (.slice (some ⟨S,0,none⟩) a.length q) (i + 1) z F aj (eZ f j (U.un (single c))) (fun k=>if k=place c then H k ++ [j] else H k) I)):=fun W hW=>by
          have MW:=M8.out.later hW;have kk:((eZ f j U)[j]'j8).watched=U:=by rw [jT f j U j8 ji]
          with_reducible refine (Ii j c W p3 j8 (by rw [kk];exact ak) (by rw [ic,ax];exact aT.out) aB MW.fK MW.tab).mono ?_
          rintro e I ⟨h1,h2,h3,aj,h4,h5⟩;refine ⟨h1,aj,?_⟩;rw [kk] at h5;have MX:=MW.step h5 h3 h2;rw [<- hD] at MX;exact eU.over MX ((h4 _ (fun e=>aJ e.symm)).trans r.out.hv) il p3 ao NF.out
         unfold dC at QA QB QC;generalize o.wo U=fk at QA QB;generalize single c=sc at QB QC NF;clear p1 p2 pf ao a4 aC aJ aB NF aQ R aF bc;go_upto_region 12 with fail
         go_region_with (first
          |(go_at_call 114;refine (QA.out _).mono ?_;rintro e6 w6 ⟨rfl,J⟩;have X:Hid (Below wc.heap.size wc w6):=(by first | exact bR.drew.trans J | exact J);clear J;simp only [])
          |(go_at_call 158;refine (QB.out _).mono ?_;rintro e9 w9 ⟨rfl,a6⟩;have B9:Hid (Below wc.heap.size wc w9):=X.out.trans (a6.mono X.out.size);clear a6;simp only [])
          |(go_at_call 159;refine (QC.out _ B9.out).mono ?_;rintro ea bB ⟨rfl,HA⟩;simp only []))
         all_goals
          go_wp2;go_roundw
          case rel=>
           obtain ⟨aj,h⟩:=HA.out;exact ⟨i + 1,z,F,aj,_,_,rfl,lL (by omega),h⟩
          case measure=>simp [intOf];omega
  ·have ei:i=a.length:=by omega
   subst ei;have O:=hide (r.out.out il).2;have FD:=hide (r.out.pX.done il);have bJ:z.length <= q:=by
    rcases M with ⟨_,h0,h1⟩ | ⟨_,_,h⟩ <;> omega
   have hh:=r.out.mem.fK.head (5 + place lit) (by omega);rw [show iU cv Y C u K (5 + place lit)=K (place lit) by rw [Nat.add_comm];rfl,r.out.hv] at hh;obtain ⟨h1,h2⟩:=hh;have k0:(0:Int) <= (z.length:Int):=by omega
   have U:(z.length:Int) <= (q:Int):=by omega
   rcases M with ⟨rfl,hz,rfl⟩ | ⟨S,rfl,_⟩
   ·obtain rfl:z=[]:=List.eq_nil_of_length_eq_zero (by omega);go_upto_region 23 with fail
    go_cut [7] from 113 (fun v wx=>wx=(wr.setCell ⟨sb,5 + place lit,none⟩ (.slice none 0 0)).drew)
    case first=>
     go_region
     all_goals
      go_wp2_with fail
      go_meet;rfl
    case rest=>
     have OD:=hide (O.out.later bR.drew);have OD:Hid (dV B sb w (single lit) (d.un F) F cv Y C u (fun k=>if k=place lit then .slice none 0 0 else K k) f (fun k=>if k=place lit then [] else H k) wc):=by rw [hcut];exact OD
     clear hcut;obtain ⟨x0,x1,x2,x3⟩:=di (hide OD.out.mM);have O9:=hide (OD.out.OG F);go_wp2;refine @bodyPost_ret _ _ _ _ _ (.tuple #[.agg #[.int .u64 (F.1:Int),.int .u64 (F.2:Int)],.bool false]) ?_ ?_ ?_
     ·simp [results,Tryz.results167,go_sem,x0,x1]
     ·rfl
     ·exact ⟨F,false,_,f,_,rfl,O9.out.below,O9.out.keeps,O9.out.fK,FD.out.1,FD.out.2⟩
   ·go_upto_region 23 with fail
    go_cut [7] from 113 (fun v wx=>wx=(wr.setCell ⟨sb,5 + place lit,none⟩ (.slice (some ⟨S,0,none⟩) z.length q)).drew)
    case first=>
     go_region
     all_goals
      go_wp2_with fail
      go_meet;rfl
    case rest=>
     have OD:=hide (O.out.later bR.drew);have OD:Hid (dV B sb w (single lit) (d.un F) F cv Y C u (fun k=>if k=place lit then .slice (some ⟨S,0,none⟩) z.length q else K k) f (fun k=>if k=place lit then z else H k) wc):=by rw [hcut];exact OD
     clear hcut;obtain ⟨x0,x1,x2,x3⟩:=di (hide OD.out.mM);have O9:=hide (OD.out.OG F);go_wp2;refine @bodyPost_ret _ _ _ _ _ (.tuple #[.agg #[.int .u64 (F.1:Int),.int .u64 (F.2:Int)],.bool false]) ?_ ?_ ?_
     ·simp [results,Tryz.results167,go_sem,x0,x1]
     ·rfl
     ·exact ⟨F,false,_,f,_,rfl,O9.out.below,O9.out.keeps,O9.out.fK,FD.out.1,FD.out.2⟩
end
end
end Rd
end Go.Proofs.YtceahffmenbibaaGreatDoor
