/- Shw5 Sduo Suse Slok Scle. -/
import Derived.Test.YtceahffmenbibaaGreatDoorG08
import Derived.Test.YtceahffmenbibaaGreatDoorG01
set_option linter.unusedVariables false
set_option linter.unusedSimpArgs false
set_option maxHeartbeats 4000000
set_option maxRecDepth 100000
namespace Go.Proofs.YtceahffmenbibaaGreatDoor
namespace So
section
open Go Go.RowKit Go.Deep Rd
variable {Z:Nat->Prop} {ob hb:Nat} {w w':World} {wt:Int} {V:Nat->Value} {X:Nat->List Value} {n g:Nat} {items:List Nat} {pl bz:Nat->Int} {gone:Nat->Prop}
theorem eU.congr {gB:Nat->Prop} (h:eU Z ob hb n w gone) (hg:∀ v,gone v↔gB v):eU Z ob hb n w gB:=by
 obtain ⟨wt,V,X,items,pl,bz,h1,h2,h3,h4⟩:=h.ex;exact ⟨⟨wt,V,X,items,pl,bz,h1,h2,h3,fun v=>(h4 v).trans (hg v)⟩,(hg n).1 h.last⟩
theorem wm (h:eU Z ob hb n w gone) (hn:n <= 50):
  Calls Tryz.prog 146 #[.pointer (some ⟨ob,0,none⟩)] w fun e w'=>xU Z ob hb n w gone e w':=by
 have QP:=hide (Sl h hn);obtain ⟨wt,V,X,items,pl,bz,hO,-⟩:=h.ex;have q:=hO.cells.1;clear h hO;go_enter Tryz.func146,Tryz.ntmps146
 go_upto_region 1 with fail
 go_wp2_with (go_at_call 191;refine QP.out.mono ?_;rintro e7 w7 hpr;have HF:=hide hpr;rcases hpr.2 with ⟨rfl,h1⟩ | ⟨v,rfl,h1⟩ <;> (clear hpr h1;simp only []))
 all_goals (go_wp2;go_ret2;exact HF.out)
theorem kR.place (hM:kR n n X items pl bz) (h:Ord Z ob hb w wt V X) {v:Nat} (hv:v < n):∃ g0 c0,w.cell? ⟨ob,1,none⟩=some (.slice (some ⟨g0,0,none⟩) n c0)/\w.cell? ⟨g0,v,none⟩=some (.int .i64 (pl v)):=by
 obtain ⟨g0,c0,t,e,r,s,_⟩:=h.elem (k:=0) (j:=v) (by omega) hM.n0 hv
 rw [hM.t0 v hv (by omega)] at s
 obtain rfl:=Option.some.inj s;have:=h.cells.2.1;rw [e] at this;exact ⟨g0,c0,this,r⟩
theorem Mr (h:eU Z ob hb n w gone) {v:Nat} (hv:v < n) (hn:n <= 50):
  Calls Tryz.prog 178 #[.pointer (some ⟨ob,0,none⟩),.int .i64 (v:Nat)] w fun e w'=>e=.returned (.tuple #[])/\aC Z w w'/\eU Z ob hb n w' (fun x=>gone x/\x ≠ v):=by
 obtain ⟨wt,V,X,items,pl,bz,hO,hM,hp,hgo⟩:=h.ex;obtain ⟨g0,c0,q1,r1⟩:=hM.place hO hv;have q0:=hO.cells.1;have v0:(0:Int) <= (v:Int):=by omega
 have v1:(v:Int) < (n:Int):=by omega
 by_cases hpl:pl v=-1
 ·have QP:Hid (Calls Tryz.prog 128 #[.pointer (some ⟨hb,0,none⟩),.int .i64 (v:Nat)] w fun e w'=>e=.returned (.tuple #[])/\aC Z w w'/\eU Z ob hb n w' (fun x=>gone x/\x ≠ v)):=(Np hO hM hp hv hpl ((hgo n).2 h.last) hn).mono fun e w' ⟨h1,h2,h3⟩=>⟨h1,h2,h3.congr fun x=>by rw [hgo x]⟩
  rw [hpl] at r1;clear h hO hM hp hgo hpl;go_enter Tryz.func178,Tryz.ntmps178
  go_wp2_with (go_at_call 128;refine QP.out.mono ?_;rintro e7 w7 ⟨rfl,pM,WE⟩;have HR:=hide WE;have HC:=hide pM;clear WE pM;simp only [])
  go_end0
  exact ⟨rfl,HC.out,HR.out⟩
 ·have F:Hid (eU Z ob hb n w (fun x=>gone x/\x ≠ v)):=h.congr fun x=>⟨fun hx=>⟨hx,fun e=>hpl ((hgo v).2 (e ▸ hx))⟩,fun hx=>hx.1⟩
  have hne:(pl v == -1)=false:=by simpa using hpl
  generalize pl v=t at *
  clear h hO hM hp hgo hpl;go_enter Tryz.func178,Tryz.ntmps178
  go_wp2;go_end0
  exact ⟨rfl,aC.refl _,F.out⟩
theorem Ut (h:eU Z ob hb n w gone):
  Calls Tryz.prog 144 #[.pointer (some ⟨ob,0,none⟩)] w fun e w'=>e=.returned (.tuple #[])/\aC Z w w'/\eU Z ob hb n w' gone:=by
 obtain ⟨wt,V,X,items,pl,bz,hO,hM,hp,hgo⟩:=h.ex;have q3:=hO.cells.2.2.2.1;have z3:=hO.cells.2.2.2.2.2.2.2.2;have F:Hid (∀ t,aC Z w (w.setCell ⟨ob,3,none⟩ (.int .i64 t)).drew/\eU Z ob hb n (w.setCell ⟨ob,3,none⟩ (.int .i64 t)).drew gone):=fun t=>by
  obtain ⟨a,b⟩:=hO.weight t;exact ⟨b.drew,⟨t,V,X,items,pl,bz,a.later (Below.refl _ _).drew,hM,hp,hgo⟩,h.last⟩
 clear h hO hM hp hgo;go_enter Tryz.func144,Tryz.ntmps144
 go_region_with fail
 all_goals
  go_wp2;go_end0
  exact ⟨rfl,F.out _⟩
theorem kR.PU (h:kR n g X items pl bz) {v:Nat} (t:Int):kR n g (upd X 1 ((X 1).set v (.int .i64 t))) items pl (bB bz v t) where
 n0:=by rw [aa _ _ (by decide)];exact h.n0
 t0:=by rw [aa _ _ (by decide)];exact h.t0
 i0:=by rw [aa _ _ (by decide)];exact h.i0
 n1:=by rw [ae,List.length_set];exact h.n1
 t1:=fun x hx=>by
  rw [ae];by_cases e:x=v
  ·subst e;rw [List.getElem?_set_self (by rw [h.n1];exact hx),aD]
  ·rw [List.getElem?_set_ne (fun e2=>e e2.symm),ah _ _ e];exact h.t1 x hx
 t2:=by rw [aa _ _ (by decide)];exact h.t2
def Fj (Z:Nat->Prop) (ob hb n:Nat) (w:World) (V:Nat->Value) (items:List Nat) (pl:Nat->Int) (wt:Int) (s:Value) (wr:World):Prop:=
 ∃ (i:Nat) (X:Nat->List Value) (bz:Nat->Int),s=.int .i64 ((i:Nat):Int)/\i <= n/\Hid (Ord Z ob hb wr wt V X/\kR n n X items pl bz/\aC Z w wr)
def oN (Z:Nat->Prop) (ob hb n:Nat) (w:World) (V:Nat->Value) (items:List Nat) (pl:Nat->Int) (w':World):Prop:=aC Z w w'/\∃ wt' X' bz',Ord Z ob hb w' wt' V X'/\kR n n X' items pl bz'
theorem JN (h:Ord Z ob hb w wt V X) (hM:kR n n X items pl bz) (hn:n <= 50):
  Calls Tryz.prog 238 #[.pointer (some ⟨ob,0,none⟩)] w fun e w'=>e=.returned (.tuple #[])/\oN Z ob hb n w V items pl w':=by
 have S0:Hid (Ord Z ob hb w wt V X/\kR n n X items pl bz/\aC Z w w):=⟨h,hM,aC.refl _⟩;obtain ⟨a1,c1,e1⟩:=h.bC.shape (k:=1) (by omega)
 have q2:=h.cells.2.2.1;rw [e1,hM.n1] at q2;clear h hM e1;go_enter Tryz.func238,Tryz.ntmps238
 go_wp2_with fail
 go_loopw [2,8] (fun _ s wr=>Fj Z ob hb n w V items pl wt s wr) (fun _ s _=>n - (intOf s).toNat)
 case atStart=>exact ⟨0,X,bz,rfl,Nat.zero_le _,S0⟩
 case round=>
  clear S0 q2;obtain ⟨i,X',bz',rfl,hil,hst⟩:=hrel;by_cases hlt:i < n
  ·obtain ⟨g1,c1',t1,e1,r1,s1,z1,-⟩:=hst.out.1.elem (k:=1) (j:=i) (by omega) hst.out.2.1.n1 hlt
   have q2:=hst.out.1.cells.2.2.1;rw [e1] at q2;rw [hst.out.2.1.t1 i hlt] at s1;obtain rfl:=Option.some.inj s1;have i0:(0:Int) <= (i:Int):=by omega
   have i1:(i:Int) < (n:Int):=by omega
   have NX:Hid (∀ t v,v=.int .i64 ((i + 1:Nat):Int)->Fj Z ob hb n w V items pl wt v (wr.setCell ⟨g1,i,none⟩ (.int .i64 t))):=fun t v hv=>by
    obtain ⟨a,b⟩:=hst.out.1.set (k:=1) (by omega) e1 i (.int .i64 t)
    exact ⟨i + 1,_,_,hv,hlt,a,hst.out.2.1.PU t,hst.out.2.2.trans b⟩
   clear hst e1;generalize bz' i=tt at *
   go_wp2;go_roundw
   case rel=>exact NX.out _ _ (by go_num)
   case measure=>simp [intOf];omega
  ·have q3:=hst.out.1.cells.2.2.2.1;have z3:=hst.out.1.cells.2.2.2.2.2.2.2.2;have F:Hid (∀ t,oN Z ob hb n w V items pl (wr.setCell ⟨ob,3,none⟩ (.int .i64 t))):=fun t=>by
    obtain ⟨a,b⟩:=hst.out.1.weight t;exact ⟨hst.out.2.2.trans b,t,X',bz',a,hst.out.2.1⟩
   have i1:¬ ((i:Int) < (n:Int)):=by omega
   clear hst;go_wp2;go_end0;exact ⟨rfl,F.out _⟩
theorem Sg (h:Ord Z ob hb w wt V X) (hM:kR n n X items pl bz) (hp:BM n items pl) (hgo:∀ v,pl v=-1↔gone v) (hl:gone n) (hn:n <= 50) {v:Nat} (hv:v < n) {p:Int} (hpv:pl v=p) (hpl:p ≠ -1):
  Calls Tryz.prog 173 #[.pointer (some ⟨hb,0,none⟩),.int .i64 p] w fun e w'=>e=.returned (.tuple #[])/\aC Z w w'/\eU Z ob hb n w' gone:=by
 rcases hp.at' v hv with h1 | ⟨i,h1,h2⟩
 ·exact absurd (hpv.symm.trans h1) hpl
 ·obtain ⟨hi,ei⟩:=List.getElem?_eq_some_iff.1 h2;have ho:=hp.open hi;rw [ei] at ho;have ll:=hp.len;have e:p=(i:Nat):=hpv.symm.trans h1;subst e;refine (CJ h hM ho h2 ((hgo n).2 hl) (by omega) (by omega)).mono ?_
  rintro e w' ⟨h3,h4⟩;obtain ⟨X',items',pK,r1,r2,r3,r4,r5,r6⟩:=h4.ex;refine ⟨h3,r6,⟨wt,V,X',items',pK,bz,r1,r2,r3,fun x=>?_⟩,hl⟩
  rw [r5 x,hgo x];refine ⟨fun hx=>hx.1,fun hx=>⟨hx,fun e=>?_⟩⟩
  subst e;have:=(hgo x).2 hx;omega
theorem Ms (h:eU Z ob hb n w gone) {v:Nat} (hv:v < n) (hn:n <= 50):
  Calls Tryz.prog 217 #[.pointer (some ⟨ob,0,none⟩),.int .i64 (v:Nat)] w fun e w'=>e=.returned (.tuple #[])/\aC Z w w'/\eU Z ob hb n w' gone:=by
 obtain ⟨wt,V,X,items,pl,bz,hO,hM,hp,hgo⟩:=h.ex;have hl:=h.last;obtain ⟨g1,c1,t1,e1,r1,s1,z1,zz1,l1,no,nh⟩:=hO.elem (k:=1) (j:=v) (by omega) hM.n1 hv
 have q2:=hO.cells.2.2.1;rw [e1] at q2;have q3:=hO.cells.2.2.2.1;rw [hM.t1 v hv] at s1;obtain rfl:=Option.some.inj s1;have v0:(0:Int) <= (v:Int):=by omega
 have v1:(v:Int) < (n:Int):=by omega
 have F1:Hid (∀ t,Ord Z ob hb (w.setCell ⟨g1,v,none⟩ (.int .i64 t)).drew wt V (upd X 1 ((X 1).set v (.int .i64 t)))/\kR n n (upd X 1 ((X 1).set v (.int .i64 t))) items pl (bB bz v t)/\aC Z w (w.setCell ⟨g1,v,none⟩ (.int .i64 t)).drew):=fun t=>by
  obtain ⟨a,b⟩:=hO.set (k:=1) (by omega) e1 v (.int .i64 t)
  exact ⟨a.later (Below.refl _ _).drew,hM.PU t,b.drew⟩
 have HP:=hide hp;have HGO:=hide hgo;clear h hO hM hp hgo e1;generalize bz v=tt at *
 go_enter Tryz.func217,Tryz.ntmps217
 go_upto_region 0 with fail
 go_cut [] from 4 (fun wx=>∃ t,Hid (Ord Z ob hb wx wt V (upd X 1 ((X 1).set v (.int .i64 t)))/\kR n n (upd X 1 ((X 1).set v (.int .i64 t))) items pl (bB bz v t)/\aC Z w wx))
 case first=>
  go_region_with fail
  all_goals
   go_wp2_with fail
   go_meet;exact ⟨_,F1.out _⟩
 case rest=>
  obtain ⟨t,hc⟩:=hcut;clear F1 q2 q3 r1 z1;obtain ⟨g1',c1',t1',FL,r1',s1',-⟩:=hc.out.1.elem (k:=1) (j:=v) (by omega) hc.out.2.1.n1 hv
  have q2:=hc.out.1.cells.2.2.1;rw [FL] at q2;rw [hc.out.2.1.t1 v hv] at s1';obtain rfl:=Option.some.inj s1';have QS:=hide (JN hc.out.1 hc.out.2.1 hn);have H1:Hid (oN Z ob hb n w V items pl wc):=⟨hc.out.2.2,wt,_,_,hc.out.1,hc.out.2.1⟩;have C1:=hide hc.out.2.2;clear hc FL;generalize bB bz v t v=t2 at *
  go_upto_if 24 with fail
  go_cut [] from 4 (fun wx=>Hid (oN Z ob hb n w V items pl wx))
  case first=>
   go_wp2_with (go_at_call 238;refine QS.out.mono ?_;rintro e7 w7 ⟨rfl,hs7⟩;have S7:Hid (oN Z ob hb n w V items pl w7):=⟨C1.out.trans hs7.1,hs7.2⟩;clear hs7;simp only [])
   ·go_meet;exact S7
   ·go_meet;exact H1
  case rest=>
   rename_i wy _;obtain ⟨hc2,wt2,X2,bz2,hO2,hM2⟩:=hcut.out;clear hcut H1 QS C1 q2 r1';obtain ⟨g0,c0,q1,r1⟩:=hM2.place hO2 hv;have q0:=hO2.cells.1;have HC2:=hide hc2;by_cases hpl:pl v=-1
   ·have F:Hid (eU Z ob hb n wc gone):=⟨⟨wt2,V,X2,items,pl,bz2,hO2,hM2,HP.out,HGO.out⟩,hl⟩;rw [hpl] at r1;clear hO2 hM2 hc2 hpl;go_wp2;go_end0;exact ⟨rfl,HC2.out,F.out⟩
   ·obtain ⟨p,hpv⟩:∃ p,pl v=p:=⟨_,rfl⟩;have QR:Hid (Calls Tryz.prog 173 #[.pointer (some ⟨hb,0,none⟩),.int .i64 p] wc.drew fun e w'=>e=.returned (.tuple #[])/\aC Z wc.drew w'/\eU Z ob hb n w' gone):=Sg (hO2.later (Below.refl _ _).drew) hM2 HP.out HGO.out hl hn hv hpv (fun e=>hpl (hpv.trans e))
    have hne:(p != -1)=true:=by simpa using fun e=>hpl (hpv.trans e)
    rw [hpv] at r1;clear hO2 hM2 hc2 hpl hpv;have CD:Hid (aC Z w wc.drew):=HC2.out.drew;go_upto_region 4 with fail
    go_region_with (go_at_call 173;refine QR.out.mono ?_;rintro e7 w7 ⟨rfl,pM,wU⟩;have C7:=hide (CD.out.trans pM);have O7:=hide wU;clear pM wU;simp only [])
    all_goals
     go_wp2;go_end0
     exact ⟨rfl,C7.out,O7.out⟩
end
section
open Go Go.RowKit Go.Deep Rd
variable {Z:Nat->Prop} {sb ob hb K n:Nat} {w w':World} {f f' V V':Nat->Value} {X X':Nat->List Value} {gone gB:Nat->Prop}
def zz (R:Nat->Prop) (w:World) (g:Nat):Prop:=R g\/w.heap.size <= g
theorem aQ.JU {Z':Nat->Prop} (h:aQ Z sb w K f V X) (h1:∀ g,g < w.heap.size->Z g->Z' g) (h2:∀ g,w.heap.size <= g->Z' g):aQ Z' sb w K f V X:=
 ⟨h.row,h.bC,h.hdr,h1 sb h.row.lt h.fZ,fun k hk g hg=>h1 g ((h.bC.own k hk).lt g hg).2 (h.al k hk g hg),h2,h.hK⟩
theorem aQ.kept (h:aQ Z sb w K f V X) {Z':Nat->Prop} (hc:aC Z' w w') (hd:∀ g,g < w.heap.size->Z g->¬ Z' g):aQ Z sb w' K f V X:=
 ⟨h.row.of_block (hc.block _ h.row.lt (hd sb h.row.lt h.fZ)),h.bC.kept fun k g hk hg=>hc.block g ((h.bC.own k hk).lt g hg).2 (hd g ((h.bC.own k hk).lt g hg).2 (h.al k hk g hg)),h.hdr,h.fZ,h.al,fun g hg=>h.az g (Nat.le_trans hc.size hg),h.hK⟩
theorem Ord.JU {wt:Int} {Z':Nat->Prop} (h:Ord Z ob hb w wt V X) (h1:∀ g,g < w.heap.size->Z g->Z' g) (h2:∀ g,w.heap.size <= g->Z' g):Ord Z' ob hb w wt V X:=
 ⟨h.gH,h.hrow,h.bC,h1 ob h.gH.lt h.zo,h1 hb h.hrow.lt h.zh,fun k hk g hg=>h1 g ((h.bC.own k hk).lt g hg).2 (h.al k hk g hg),h2⟩
theorem eU.JU {Z':Nat->Prop} (h:eU Z ob hb n w gone) (h1:∀ g,g < w.heap.size->Z g->Z' g) (h2:∀ g,w.heap.size <= g->Z' g):eU Z' ob hb n w gone:=by
 obtain ⟨wt,V,X,items,pl,bz,hO,hr⟩:=h.ex;exact ⟨⟨wt,V,X,items,pl,bz,hO.JU h1 h2,hr⟩,h.last⟩
theorem eY {R:Nat->Prop} {g:Nat} (hg:g < w.heap.size) (h:zz R w g):R g:=by
 rcases h with h | h
 ·exact h
 ·omega
theorem eU.jT {R:Nat->Prop} (h:eU (zz R w) ob hb n w gone) {Z':Nat->Prop} (hc:aC Z' w w') (hd:∀ g,g < w.heap.size->R g->¬ Z' g):eU (zz R w') ob hb n w' gone:=by
 have hr:eU (fun g=>R g\/w.heap.size <= g) ob hb n w gone:=h
 obtain ⟨wt,V,X,items,pl,bz,hO,hx⟩:=h.ex;have hk:=hO.kept hc (hd ob hO.gH.lt (eY hO.gH.lt hO.zo)) (hd hb hO.hrow.lt (eY hO.hrow.lt hO.zh)) fun k hk g hg=>hd g ((hO.bC.own k hk).lt g hg).2 (eY ((hO.bC.own k hk).lt g hg).2 (hO.al k hk g hg))
 exact ⟨⟨wt,V,X,items,pl,bz,⟨hk.gH,hk.hrow,hk.bC,.inl (eY hO.gH.lt hO.zo),.inl (eY hO.hrow.lt hO.zh),fun k hk' g hg=>.inl (eY ((hO.bC.own k hk').lt g hg).2 (hO.al k hk' g hg)),fun g hg=>.inr hg⟩,hx⟩,h.last⟩
theorem aQ.jT {R:Nat->Prop} (h:aQ (zz R w) sb w K f V X) {Z':Nat->Prop} (hc:aC Z' w w') (hd:∀ g,g < w.heap.size->R g->¬ Z' g):aQ (zz R w') sb w' K f V X:=by
 have hk:=h.kept hc fun g hg h1=>hd g hg (eY hg h1)
 exact ⟨hk.row,hk.bC,hk.hdr,.inl (eY h.row.lt h.fZ),fun k hk' g hg=>.inl (eY ((h.bC.own k hk').lt g hg).2 (h.al k hk' g hg)),fun g hg=>.inr hg,h.hK⟩
structure Duo (Z:Nat->Prop) (sb ob hb n:Nat) (w:World) (K:Nat) (f V:Nat->Value) (X:Nat->List Value) (gone:Nat->Prop) (Rs Ro:Nat->Prop):Prop where
 aG:aQ (zz Rs w) sb w K f V X
 ord:eU (zz Ro w) ob hb n w gone
 f12:f 12=.pointer (some ⟨ob,0,none⟩)
 xu:∀ g,Rs g->¬ Ro g
 ls:∀ g,Rs g->g < w.heap.size
 lo:∀ g,Ro g->g < w.heap.size
 zs:∀ g,Rs g->Z g
 zo:∀ g,Ro g->Z g
 az:∀ g,w.heap.size <= g->Z g
variable {Rs Ro:Nat->Prop}
theorem Duo.vH (h:Duo Z sb ob hb n w K f V X gone Rs Ro) {R:Nat->Prop} (hR:∀ g,R g->Z g):∀ g,zz R w g->Z g:=fun g hg=>by
 rcases hg with h1 | h1
 ·exact hR g h1
 ·exact h.az g h1
theorem Duo.dH (h:Duo Z sb ob hb n w K f V X gone Rs Ro) (hs:aQ (zz Rs w) sb w' K f' V' X') (hc:aC (zz Rs w) w w') (hf:f' 12=f 12):Duo Z sb ob hb n w' K f' V' X' gone (fun g=>zz Rs w g/\g < w'.heap.size) Ro/\aC Z w w':=by
 refine ⟨{
  aG:=hs.JU (fun g h1 h2=>.inl ⟨h2,h1⟩) (fun g hg=>.inr hg)
  ord:=h.ord.jT hc fun g hg h1 h2=>h.xu g (eY hg h2) h1
  f12:=hf.trans h.f12
  xu:=fun g h1 h2=>by
   have:=h.lo g h2;exact h.xu g (eY this h1.1) h2
  ls:=fun g h1=>h1.2
  lo:=fun g h1=>Nat.lt_of_lt_of_le (h.lo g h1) hc.size
  zs:=fun g h1=>h.vH h.zs g h1.1
  zo:=h.zo
  az:=fun g hg=>h.az g (Nat.le_trans hc.size hg) },hc.mono fun g _ h1=>h.vH h.zs g h1⟩
theorem Duo.vP (h:Duo Z sb ob hb n w K f V X gone Rs Ro) (ho:eU (zz Ro w) ob hb n w' gB) (hc:aC (zz Ro w) w w'):Duo Z sb ob hb n w' K f V X gB Rs (fun g=>zz Ro w g/\g < w'.heap.size)/\aC Z w w':=by
 refine ⟨{
  aG:=h.aG.jT hc fun g hg h1 h2=>h.xu g h1 (eY hg h2)
  ord:=ho.JU (fun g h1 h2=>.inl ⟨h2,h1⟩) (fun g hg=>.inr hg)
  f12:=h.f12
  xu:=fun g h1 h2=>by
   have:=h.ls g h1;exact h.xu g h1 (eY this h2.1)
  ls:=fun g h1=>Nat.lt_of_lt_of_le (h.ls g h1) hc.size
  lo:=fun g h1=>h1.2
  zs:=h.zs
  zo:=fun g h1=>h.vH h.zo g h1.1
  az:=fun g hg=>h.az g (Nat.le_trans hc.size hg) },hc.mono fun g _ h1=>h.vH h.zo g h1⟩
theorem Duo.later (h:Duo Z sb ob hb n w K f V X gone Rs Ro) (hb':Below w.heap.size w w'):Duo Z sb ob hb n w' K f V X gone Rs Ro where
 aG:=h.aG.jT (Z':=fun _=>False) (aC.of_below hb') fun _ _ _ h=>h
 ord:=h.ord.jT (Z':=fun _=>False) (aC.of_below hb') fun _ _ _ h=>h
 f12:=h.f12
 xu:=h.xu
 ls:=fun g h1=>Nat.lt_of_lt_of_le (h.ls g h1) hb'.size
 lo:=fun g h1=>Nat.lt_of_lt_of_le (h.lo g h1) hb'.size
 zs:=h.zs
 zo:=h.zo
 az:=fun g hg=>h.az g (Nat.le_trans hb'.size hg)
structure Fx (n:Nat) (X:Nat->List Value) (pre:Int) (seen:Nat->Bool) (bn:List Nat):Prop where
 n10:(X 10).length=n
 t10:∀ v,v < n->(X 10)[v]? = some (.bool (seen v))
 l7:X 7=.int .i64 pre :: au bn
theorem Fx.mark {pre:Int} {seen:Nat->Bool} {bn:List Nat} (h:Fx n X pre seen bn) {v:Nat} (hv:v < n):Fx n (upd X 10 ((X 10).set v (.bool true))) pre (bB seen v true) bn where
 n10:=by rw [ae,List.length_set];exact h.n10
 t10:=fun x hx=>by
  rw [ae];by_cases e:x=v
  ·subst e;rw [List.getElem?_set_self (by rw [h.n10];exact hx),aD]
  ·rw [List.getElem?_set_ne (fun e2=>e e2.symm),ah _ _ e];exact h.t10 x hx
 l7:=by rw [aa _ _ (by decide)];exact h.l7
theorem Fx.more {pre:Int} {seen:Nat->Bool} {bn:List Nat} (h:Fx n X pre seen bn) (y:Nat):Fx n (upd X 7 (X 7 ++ [.int .i64 (y:Nat)])) pre seen (bn ++ [y]) where
 n10:=by rw [aa _ _ (by decide)];exact h.n10
 t10:=by rw [aa _ _ (by decide)];exact h.t10
 l7:=by rw [ae,h.l7,fQ];rfl
theorem Fx.congr {pre:Int} {seen:Nat->Bool} {bn:List Nat} (h:Fx n X pre seen bn) (h7:X' 7=X 7) (h10:X' 10=X 10):Fx n X' pre seen bn:=⟨by rw [h10];exact h.n10,by rw [h10];exact h.t10,by rw [h7];exact h.l7⟩
end
section
open Go Go.RowKit Go.Deep Rd
variable {Z:Nat->Prop} {sb K:Nat} {w w':World} {f V:Nat->Value} {X:Nat->List Value}
def Ia (Z:Nat->Prop) (sb:Nat) (w:World) (K:Nat) (f V:Nat->Value) (X:Nat->List Value) (x:Nat) (w':World):Prop:=aC Z w w'/\∃ t:Int,aQ Z sb w' K f V (upd X 0 ((X 0).set (x + 2) (.int .i64 t)))
theorem Rz (x n:Nat) (t:Int) (h:aQ Z sb w K f V X) (hn:(X 0).length=n) (hx:x + 2 < n) (hb:n <= 17592186044416) (ht:(X 0)[x + 2]? = some (.int .i64 t)):
  Calls Tryz.prog 216 #[.pointer (some ⟨sb,2,none⟩),.int .i64 x] w fun e w'=>e=.returned (.tuple #[])/\Ia Z sb w K f V X x w':=by
 obtain ⟨g,cap,t',e1,q1,r1,r2,z1,b1,l1,n1⟩:=h.elem (k:=0) (j:=x + 2) (by omega) hn hx
 rw [show cellOf 0=2 from rfl] at q1
 rw [ht] at r2;obtain rfl:=Option.some.inj r2;have F:Hid (∀ u:Int,Ia Z sb w K f V X x (w.setCell ⟨g,x + 2,none⟩ (.int .i64 u))):=fun u=>⟨(aC.refl _).setCell b1 _,u,h.set (k:=0) (by have:=h.hK;omega) e1 (x + 2) (.int .i64 u)⟩
 have x0:(0:Int) <= (x:Int) + 2:=by omega
 have x1:(x:Int) + 2 < (n:Int):=by omega
 have x2:((x:Int) + 2).toNat=x + 2:=by omega
 clear h e1 ht r2;go_enter Tryz.func216,Tryz.ntmps216
 go_wp2;go_end0
 exact ⟨rfl,F.out _⟩
end
section
open Go Go.RowKit Go.Deep Rd
variable {Z:Nat->Prop} {sb ob hb K n:Nat} {w w':World} {f f' V V':Nat->Value} {X X':Nat->List Value} {gone:Nat->Prop} {Rs Ro:Nat->Prop} {tr ch:List Nat} {lev:Nat->Nat} {rea:Nat->Int} {cs:List Rec}
def WK (n:Nat) (V:Nat->Value) (X:Nat->List Value):Prop:=∀ x,x < 2 * n->(X 9)[x]? = some (V (16 + x))
theorem WK.congr {n:Nat} {V V':Nat->Value} {X X':Nat->List Value} (h:WK n V X) (h9:X' 9=X 9) (hV:∀ x,V' (16 + x)=V (16 + x)):WK n V' X':=fun x hx=>by rw [h9,hV];exact h x hx
structure bK (Z:Nat->Prop) (sb ob hb n:Nat) (w:World) (K:Nat) (f:Nat->Value) (X:Nat->List Value) (gone:Nat->Prop) (E:List Value) (pre:Int) (s:Lk) (f' V':Nat->Value) (X':Nat->List Value) (Rs Ro:Nat->Prop) (wr:World):Prop where
 duo:Duo Z sb ob hb n wr K f' V' X' gone Rs Ro
 x0:X' 0=E
 Cb:Fx n X' pre s.seen s.bn
 only:∀ j,j ≠ 0->j ≠ 7->j ≠ 10->X' j=X j
 ff:∀ j,j ≠ 15->f' j=f j
 bD:aC Z w wr
 wk:WK n V' X'
def vE (Z:Nat->Prop) (sb ob hb n:Nat) (w:World) (K:Nat) (f:Nat->Value) (X:Nat->List Value) (gone:Nat->Prop) (E:List Value) (pre:Int) (lev:Nat->Nat) (d:Nat) (s0:Lk) (lits:List Nat) (s5 s20:Value) (wr:World):Prop:=
 ∃ (i:Nat) (s:Lk) (f' V':Nat->Value) (X':Nat->List Value) (Rs Ro:Nat->Prop),s20=.int .i64 ((i:Nat):Int)/\s5=.int .i64 ((s.opn:Nat):Int)/\i <= lits.length/\Hid (s=(lits.take i).foldl (iZ lev d) s0)/\Hid (bK Z sb ob hb n w K f X gone E pre s f' V' X' Rs Ro wr)
def vD (Z:Nat->Prop) (sb ob hb n:Nat) (w:World) (K:Nat) (f:Nat->Value) (X:Nat->List Value) (gone:Nat->Prop) (cs:List Rec) (k kd:Nat) (pre:Int) (lev:Nat->Nat) (d:Nat) (s0:Lk) (lits:List Nat) (e:Ending) (w':World):Prop:=
 ∃ (bs:Int) (f' V':Nat->Value) (X':Nat->List Value) (Rs Ro:Nat->Prop),e=.returned (.int .i64 (((lits.foldl (iZ lev d) s0).opn:Nat):Int))/\bK Z sb ob hb n w K f X gone (ints (enc (cs.set k ⟨kd,bs,lits⟩))) pre (lits.foldl (iZ lev d) s0) f' V' X' Rs Ro w'
variable {E:List Value} {pre:Int} {s:Lk} {wr wx:World}
theorem bK.later (h:bK Z sb ob hb n w K f X gone E pre s f' V' X' Rs Ro wr) (hb':Below wr.heap.size wr wx):bK Z sb ob hb n w K f X gone E pre s f' V' X' Rs Ro wx:=
 { h with duo:=h.duo.later hb',bD:=h.bD.trans (aC.of_below hb') }
theorem bK.mark (h:bK Z sb ob hb n w K f X gone E pre s f' V' X' Rs Ro wr) {v:Nat} (hv:v < n) {g c:Nat} (e:V' 10=.slice (some ⟨g,0,none⟩) n c) (hz:zz Rs wr g) (k:Nat):bK Z sb ob hb n w K f X gone E pre ⟨bB s.seen v true,s.bn,k⟩ f' V' (upd X' 10 ((X' 10).set v (.bool true))) (fun g'=>zz Rs wr g'/\g' < (wr.setCell ⟨g,v,none⟩ (.bool true)).heap.size) Ro (wr.setCell ⟨g,v,none⟩ (.bool true)):=by
 obtain ⟨d1,d2⟩:=h.duo.dH (h.duo.aG.set (k:=10) (by have:=h.duo.aG.hK;omega) e v (.bool true)) ((aC.refl _).setCell hz _) rfl
 exact ⟨d1,by rw [aa _ _ (by decide)];exact h.x0,h.Cb.mark hv,fun j h1 h2 h3=>by rw [aa _ _ h3];exact h.only j h1 h2 h3,h.ff,h.bD.trans d2,h.wk.congr (aa _ _ (by decide)) fun _=>rfl⟩
theorem bK.used (h:bK Z sb ob hb n w K f X gone E pre s f' V' X' Rs Ro wr) (ho:eU (zz Ro wr) ob hb n wx gone) (hc:aC (zz Ro wr) wr wx):bK Z sb ob hb n w K f X gone E pre s f' V' X' Rs (fun g=>zz Ro wr g/\g < wx.heap.size) wx:=by
 obtain ⟨d1,d2⟩:=h.duo.vP ho hc;exact ⟨d1,h.x0,h.Cb,h.only,h.ff,h.bD.trans d2,h.wk⟩
theorem bK.opn (h:bK Z sb ob hb n w K f X gone E pre s f' V' X' Rs Ro wr) (k:Nat):bK Z sb ob hb n w K f X gone E pre ⟨s.seen,s.bn,k⟩ f' V' X' Rs Ro wr:=⟨h.duo,h.x0,h.Cb,h.only,h.ff,h.bD,h.wk⟩
theorem bK.push (h:bK Z sb ob hb n w K f X gone E pre s f' V' X' Rs Ro wr) {obj:Obj} {v':Value} {w6:World} {y:Nat} (A:aB (wr.alloc obj) 0 3 1 (V' 7) (X' 7).length (X' 7) 1 [.int .i64 (y:Nat)] v' w6) (k:Nat):
  bK Z sb ob hb n w K f X gone E pre ⟨s.seen,s.bn ++ [y],k⟩ (upd f' 15 v') (upd V' 7 v') (upd X' 7 (X' 7 ++ [.int .i64 (y:Nat)])) (fun g=>zz Rs wr g/\g < (w6.setCell ⟨sb,15,none⟩ v').heap.size) Ro (w6.setCell ⟨sb,15,none⟩ v'):=by
 have hK:=h.duo.aG.hK;obtain ⟨d1,d2⟩:=h.duo.dH (h.duo.aG.push (k:=7) (m:=1) (news:=[.int .i64 (y:Nat)]) (by omega) rfl A) (h.duo.aG.jY (k:=7) (by omega) A 15 v') (aa _ _ (by decide))
 exact ⟨d1,by rw [aa _ _ (by decide)];exact h.x0,h.Cb.more y,fun j h1 h2 h3=>by rw [aa _ _ h2];exact h.only j h1 h2 h3,fun j hj=>by rw [aa _ _ hj];exact h.ff j hj,h.bD.trans d2,h.wk.congr (aa _ _ (by decide)) fun x=>aa _ _ (by omega)⟩
theorem Dz {k:Nat} {s0:Lk} (D:Duo Z sb ob hb n w K f V X gone Rs Ro) (hn:n <= 50) (h0:X 0=ints (enc cs)) (hk:k < cs.length) (hN:(enc cs).length <= 1099511627776) (hT:iW n X tr ch lev rea) (hL:Fx n X pre s0.seen s0.bn) (hop:s0.opn=0) (hlt:∀ y ∈ (cs[k]).lits,y < 2 * n) (hch:ch.length <= 1000) (hll:s0.bn.length + (cs[k]).lits.length <= 1000) (hW:WK n V X):
  Calls Tryz.prog 182 #[.pointer (some ⟨sb,0,none⟩),.int .i64 (aj cs k:Nat)] w fun e w'=>vD Z sb ob hb n w K f X gone cs k (cs[k]).kind pre lev ch.length s0 (cs[k]).lits e w':=by
 obtain ⟨i0,hi,hz0,hz1,hz2⟩:=info_parts Tryz.cu;have hend:=bA hk;have hl0:(X 0).length=(enc cs).length:=by rw [h0,cZ]
 have QU:=hide (Rz (aj cs k) (enc cs).length (cs[k]).busy D.aG hl0 (by omega) (by omega) (Aq h0 (xq hk)))
 have BQ:Hid (∀ wu,Ia (zz Rs w) sb w K f V X (aj cs k) wu->∃ bs X1 qb,bK Z sb ob hb n w K f X gone (ints (enc (cs.set k ⟨(cs[k]).kind,bs,(cs[k]).lits⟩))) pre s0 f V X1 qb Ro wu):=fun wu ⟨hc,t,hs⟩=>by
  obtain ⟨d1,d2⟩:=D.dH hs hc rfl;refine ⟨t,_,_,d1,?_,hL.congr (aa _ _ (by decide)) (aa _ _ (by decide)),fun j h1 h2 h3=>aa _ _ h1,fun j hj=>rfl,d2,hW.congr (aa _ _ (by decide)) fun _=>rfl⟩
  rw [ae,h0,ints_set,oC hk]
 have HT:=hide hT;clear hW;have Z5:Hid (∀ (bs:Int) e w' f' V' X' Rs Ro,e=.returned (.int .i64 ((((cs[k]).lits.foldl (iZ lev ch.length) s0).opn:Nat):Int))->bK Z sb ob hb n w K f X gone (ints (enc (cs.set k ⟨(cs[k]).kind,bs,(cs[k]).lits⟩))) pre ((cs[k]).lits.foldl (iZ lev ch.length) s0) f' V' X' Rs Ro w'->vD Z sb ob hb n w K f X gone cs k (cs[k]).kind pre lev ch.length s0 (cs[k]).lits e w'):=fun bs e w' f' V' X' Rs Ro h1 h2=>⟨bs,f',V',X',Rs,Ro,h1,h2⟩
 generalize vD Z sb ob hb n w K f X gone cs k (cs[k]).kind pre lev ch.length s0 (cs[k]).lits=RR at *
 go_enter Tryz.func182,Tryz.ntmps182
 go_upto_region 2 with (go_at_call 216;refine QU.out.mono ?_;rintro e7 w7 ⟨rfl,hu7⟩;obtain ⟨bs,X1,qb,hs1⟩:=BQ.out w7 hu7;have S1:=hide hs1;clear hs1 hu7;simp only [])
 have hk1:k < (cs.set k ⟨(cs[k]).kind,bs,(cs[k]).lits⟩).length:=by simpa using hk
 have Xm:aj (cs.set k ⟨(cs[k]).kind,bs,(cs[k]).lits⟩) k=aj cs k:=kQ (c:=⟨(cs[k]).kind,bs,(cs[k]).lits⟩) hk rfl k;have c1k:(cs.set k ⟨(cs[k]).kind,bs,(cs[k]).lits⟩)[k]=⟨(cs[k]).kind,bs,(cs[k]).lits⟩:=by simp
 have n1:(enc (cs.set k ⟨(cs[k]).kind,bs,(cs[k]).lits⟩)).length=(enc cs).length:=EA (c:=⟨(cs[k]).kind,bs,(cs[k]).lits⟩) hk rfl;have RET:=hide (Z5.out bs);generalize hcs1:cs.set k ⟨(cs[k]).kind,bs,(cs[k]).lits⟩=cs1 at *
 obtain ⟨g,c,e0,q0,Ef,lg,ng,zg,r0,-,-,-,-⟩:=bV S1.out.duo.aG S1.out.x0 hk1;have wV:(cs1[k]).lits=(cs[k]).lits:=by rw [c1k]
 rw [Xm,wV] at r0;have QL:Hid (∀ Y:World,Y.heap=w7.heap->Calls Tryz.prog 175 #[.pointer (some ⟨sb,2,none⟩),.int .i64 (aj cs k:Nat)] Y fun e w'=>e=.returned (fV g (aj cs k) (cs[k]).lits.length c)/\∃ j,w'=Y.drewN j):=fun Y hY=>fu sb 2 g (enc cs1).length c (aj cs k) (cs[k]).lits.length Y (by rw [show Y.cell? ⟨sb,2,none⟩=w7.cell? ⟨sb,2,none⟩ from World.cell?_of_block (a:=⟨sb,2,none⟩) (by rw [hY])];exact q0) (by omega) (by unfold maxLen;omega) Ef (by rw [show Y.cell? ⟨g,aj cs k,none⟩=w7.cell? ⟨g,aj cs k,none⟩ from World.cell?_of_block (a:=⟨g,aj cs k,none⟩) (by rw [hY])];exact r0)
 have CLS:Hid (∀ wr s f' V' X' Rs Ro,bK Z sb ob hb n w K f X gone (ints (enc cs1)) pre s f' V' X' Rs Ro wr->∀ i (hi:i < (cs[k]).lits.length),wr.cell? ⟨g,aj cs k + 3 + i,none⟩=some (.int .i64 ((cs[k]).lits[i]:Nat))):=fun wr s f' V' X' ko vB hst i hi=>by
  have Xc:V' 0=.slice (some ⟨g,0,none⟩) (enc cs1).length c:=by
   rw [<- hst.duo.aG.hdr 0 (by omega),hst.ff _ (by decide),<- S1.out.ff _ (by decide),S1.out.duo.aG.hdr 0 (by omega)];exact e0
  have:=jD hst.duo.aG hst.x0 Xc hk1 (i:=i) (by rw [wV];exact hi)
  rw [Xm] at this;rw [this];simp only [wV]
 have Ri:Hid (∀ wr s f' V' X' Rs Ro,bK Z sb ob hb n w K f X gone (ints (enc cs1)) pre s f' V' X' Rs Ro wr->iW n X' tr ch lev rea):=fun wr s f' V' X' ko vB hst=>HT.out.congr fun j h1 h2=>hst.only j (by omega) (by omega) (by omega)
 rw [n1] at Ef;have UD:=hide hlt;have HOP:=hide hop;clear QU BQ D h0 hT hL hk1 Z5 c1k n1 hcs1 q0 r0 Xm wV e0 hl0 hlt hop lg ng zg;generalize aj cs k=a at *
 generalize (cs[k]).lits=lits at *
 generalize enc cs1=I9 at *
 have la:Hid (lits.length ≠ 0->fV g a lits.length c=.slice (some ⟨g,a + 3,none⟩) lits.length (c - (a + 3))):=fun h=>by unfold fV;rw [if_neg (by omega)]
 obtain ⟨al,hal⟩:∃ al,fV g a lits.length c=.slice al lits.length (c - (a + 3)):=⟨_,rfl⟩;rw [hal] at QL;have AL:Hid (lits.length ≠ 0->al=some ⟨g,a + 3,none⟩):=fun h=>by
  have:=la.out h;rw [hal] at this;exact (Value.slice.inj this).1
 clear hal la;have ll1:lits.length <= 1000:=by omega
 go_upto_region 3 with fail
 go_wp2_with (go_at_call 175;refine (QL.out _ (by rfl)).mono ?_;rintro e8 w8 ⟨rfl,j8,rfl⟩;simp only [])
 obtain ⟨W,hW⟩:∃ W,W=w7.drewN j8:=⟨_,rfl⟩;have S2:=hide (S1.out.later (wx:=W) (by rw [hW];exact below_drewN (Below.refl _ _) _))
 rw [<- hW];clear hW S1 QL;go_loopw [5,7,8,20] (fun s5 _ _ s20 wr=>vE Z sb ob hb n w K f X gone (ints I9) pre lev ch.length s0 lits s5 s20 wr) (fun _ _ _ s20 _=>lits.length - (intOf s20).toNat)
 case atStart=>exact ⟨0,s0,f,V,X1,qb,Ro,rfl,by rw [HOP.out];rfl,Nat.zero_le _,by rw [List.take_zero];rfl,S2⟩
 case round=>
  clear S2;obtain ⟨i,s,f',V',X',ko,vB,rfl,rfl,hil,hseq,hst⟩:=hrel;by_cases hlt:i < lits.length
  ·obtain rfl:=AL.out (by omega)
   have hci:=CLS.out wr s f' V' X' ko vB hst.out i hlt;have hT':=Ri.out wr s f' V' X' ko vB hst.out;obtain ⟨y,hy⟩:∃ y,y=lits[i]:=⟨_,rfl⟩;rw [<- hy] at hci;have hyl:y < 2 * n:=by rw [hy];exact UD.out _ (List.getElem_mem _)
   have Qu:Hid (iZ lev ch.length s y=(lits.take (i + 1)).foldl (iZ lev ch.length) s0):=by
    unfold Hid;rw [List.take_add_one,List.getElem?_eq_getElem hlt,Option.toList_some,List.foldl_append,<- hseq.out,hy];rfl
   have QV:=hide (fun Y=>bF y Y (by omega))
   have hv:y / 2 < n:=by omega
   obtain ⟨v,hvd⟩:∃ v,v=y / 2:=⟨_,rfl⟩;rw [<- hvd] at QV hv;obtain ⟨g10,c10,t10,e10,Sj,Nn,s10,z10,zz10,l10,n10⟩:=hst.out.duo.aG.elem (k:=10) (j:=v) (by omega) hst.out.Cb.n10 hv
   rw [show cellOf 10=16 from rfl] at Sj
   rw [hst.out.Cb.t10 v hv] at s10;obtain rfl:=Option.some.inj s10;obtain ⟨g4,c4,t4,e4,q4,r4,s4,-⟩:=hst.out.duo.aG.elem (k:=4) (j:=v) (by omega) hT'.n4 hv
   rw [show cellOf 4=10 from rfl] at q4
   rw [hT'.t4 v hv] at s4;obtain rfl:=Option.some.inj s4;have LK:Hid (iZ lev ch.length s y=if s.seen v=true\/lev v=0 then s else if lev v=ch.length then ⟨bB s.seen v true,s.bn,s.opn + 1⟩ else ⟨bB s.seen v true,s.bn ++ [y],s.opn⟩):=by unfold Hid iZ;rw [<- hvd]
   have v0:(0:Int) <= (v:Int):=by omega
   have v1:(v:Int) < (n:Int):=by omega
   have X9:(0:Int) <= (i:Int):=by omega
   have i11:(i:Int) < (lits.length:Int):=by omega
   clear hy hvd e4;by_cases zP:s.seen v=true\/lev v=0
   ·
    have NX:Hid (∀ sv,sv=.int .i64 ((i + 1:Nat):Int)->vE Z sb ob hb n w K f X gone (ints I9) pre lev ch.length s0 lits (.int .i64 ((s.opn:Nat):Int)) sv wr):=fun sv hsv=>⟨i + 1,s,f',V',X',ko,vB,hsv,rfl,hlt,by rw [<- Qu.out,LK.out,if_pos zP];rfl,hst⟩
    rcases zP with hs | hs
    ·rw [hs] at Nn;clear hst LK;go_wp2_with (go_at_call 176;refine (QV.out _).mono ?_;rintro e9 w9 ⟨rfl,rfl⟩;simp only [])
     go_roundw
     case rel=>exact NX.out _ (by go_num)
     case measure=>simp [intOf];omega
    ·rw [hs] at r4;by_cases hs2:s.seen v=true
     ·rw [hs2] at Nn;clear hst LK;go_wp2_with (go_at_call 176;refine (QV.out _).mono ?_;rintro e9 w9 ⟨rfl,rfl⟩;simp only [])
      go_roundw
      case rel=>exact NX.out _ (by go_num)
      case measure=>simp [intOf];omega
     ·rw [Bool.not_eq_true] at hs2;rw [hs2] at Nn;clear hst LK;go_wp2_with (go_at_call 176;refine (QV.out _).mono ?_;rintro e9 w9 ⟨rfl,rfl⟩;simp only [])
      go_roundw
      case rel=>exact NX.out _ (by go_num)
      case measure=>simp [intOf];omega
   ·
    have hns:s.seen v=false:=by
     cases e:s.seen v with
     | false=>rfl
     | true=>exact absurd (.inl e) zP
    have hl0:lev v ≠ 0:=fun e=>zP (.inr e)
    rw [hns] at Nn;have S3:=hide (hst.out.mark hv e10 zz10 s.opn);have C3:Hid (s.bn.length + 1 <= 1001):=by
     unfold Hid;have hh:∀ (l:List Nat) (t:Lk),(l.foldl (iZ lev ch.length) t).bn.length <= t.bn.length + l.length:=by
      intro l
      induction l with
      | nil=>intro t;simp
      | cons z l ih=>
       intro t;have h1:=ih (iZ lev ch.length t z);have h2:(iZ lev ch.length t z).bn.length <= t.bn.length + 1:=by
        unfold iZ;split
        ·omega
        ·split <;> simp
       simp only [List.foldl_cons,List.length_cons];omega
     have:=hh (lits.take i) s0;rw [<- hseq.out,List.length_take] at this;omega
    have hle0:((lev v:Int) == 0)=false:=by simp;omega
    have LK2:Hid (iZ lev ch.length s y=if lev v=ch.length then ⟨bB s.seen v true,s.bn,s.opn + 1⟩ else ⟨bB s.seen v true,s.bn ++ [y],s.opn⟩):=by unfold Hid;rw [LK.out,if_neg zP]
    have opb:Hid (s.opn <= 1000):=by
     unfold Hid;have hh:∀ (l:List Nat) (t:Lk),(l.foldl (iZ lev ch.length) t).opn <= t.opn + l.length:=by
      intro l
      induction l with
      | nil=>intro t;simp
      | cons z l ih=>
       intro t;have h1:=ih (iZ lev ch.length t z);have h2:(iZ lev ch.length t z).opn <= t.opn + 1:=by
        unfold iZ;split
        ·omega
        ·split <;> simp
       simp only [List.foldl_cons,List.length_cons];omega
     have:=hh (lits.take i) s0;rw [<- hseq.out,List.length_take,HOP.out] at this;omega
    clear hst LK zP e10 hns hT';go_upto_region 9 with (go_at_call 176;refine (QV.out _).mono ?_;rintro e9 w9 ⟨rfl,rfl⟩;simp only [])
    generalize hW3:w9.setCell ⟨g10,v,none⟩ (.bool true)=W3 at S3 ⊢;clear hW3 Sj Nn z10 q4 r4 hci;have QO:=hide (Ms S3.out.duo.ord hv hn);have Q9:=(S3.out.duo.aG.head 12 (by omega)).1
    rw [S3.out.duo.f12] at Q9;have US:=hide (fun wx ho hc=>S3.out.used (wx:=wx) ho hc)
    clear S3;go_upto_region 10 with (go_at_call 217;refine QO.out.mono ?_;rintro eA wA ⟨rfl,hcA,Zj⟩;have S4:=hide (US.out wA Zj hcA);clear hcA Zj;simp only [])
    have hT4:=Ri.out _ _ _ _ _ _ _ S4.out;obtain ⟨g4',c4',t4,e4,q4,r4,s4,-⟩:=S4.out.duo.aG.elem (k:=4) (j:=v) (by omega) hT4.n4 hv
    rw [show cellOf 4=10 from rfl] at q4
    rw [hT4.t4 v hv] at s4;obtain rfl:=Option.some.inj s4;obtain ⟨a2,c2,e2⟩:=S4.out.duo.aG.bC.shape (k:=2) (by have:=S4.out.duo.aG.hK;omega)
    have q2:=(S4.out.duo.aG.hd (k:=2) (by omega)).1
    rw [show cellOf 2=8 from rfl,e2,hT4.l2,ag] at q2
    have QD:Hid (∀ j,Calls Tryz.prog 99 #[.pointer (some ⟨sb,6,none⟩)] (wA.drewN j) fun e w'=>e=.returned (.int .i64 (ch.length:Nat))/\w'=wA.drewN j):=fun j=>jH sb 6 ch.length c2 (wA.drewN j) a2 q2
    clear e4 e2 hT4 QO US Q9;go_quiet ((go_at_call 99;exact Calls.quiet_of_same (QD.out _)))
    obtain ⟨W5,hW5⟩:∃ W5,W5=wA.drewN nq:=⟨_,rfl⟩;have S5:=hide (S4.out.later (wx:=W5) (by rw [hW5];exact below_drewN (Below.refl _ _) _))
    rw [<- hW5];clear hW5 S4 q4 r4 q2 QD;by_cases hd:lev v=ch.length
    ·have NX:Hid (∀ so sv,so=.int .i64 ((s.opn + 1:Nat):Int)->sv=.int .i64 ((i + 1:Nat):Int)->vE Z sb ob hb n w K f X gone (ints I9) pre lev ch.length s0 lits so sv W5):=fun so sv hso hsv=>⟨i + 1,⟨bB s.seen v true,s.bn,s.opn + 1⟩,_,_,_,_,_,hsv,hso,hlt,by rw [<- Qu.out,LK2.out,if_pos hd];rfl,S5.out.opn _⟩
     have hdt:((lev v:Int) == (ch.length:Int))=true:=by simp [hd]
     have ob1:(s.opn:Int) + 1 <= 1001:=by have:=opb.out;omega
     clear S5 hd LK2;go_wp2;go_roundw
     case rel=>exact NX.out _ _ (by go_num) (by go_num)
     case measure=>simp [intOf];omega
    ·have hdt:((lev v:Int) == (ch.length:Int))=false:=by simp;omega
     obtain ⟨a7,c7,e7⟩:=S5.out.duo.aG.bC.shape (k:=7) (by have:=S5.out.duo.aG.hK;omega)
     have l7:∀ qH:Nat->List Value,Fx n qH pre (bB s.seen v true) s.bn->(qH 7).length=s.bn.length + 1:=fun qH h=>by rw [h.l7];simp [ag]
     have Y3:=l7 _ S5.out.Cb;have q7:=(S5.out.duo.aG.hd (k:=7) (by omega)).1
     rw [show cellOf 7=15 from rfl,e7,Y3] at q7
     have O7:=S5.out.duo.aG.bC.own 7 (by have:=S5.out.duo.aG.hK;omega)
     rw [e7,Y3] at O7;have HO7:=hide O7;have E7:=hide e7;have L7:=hide Y3;have hsb5:=S5.out.duo.aG.row.lt;have ns:¬ (sb=W5.heap.size):=by omega
     have c3:=C3.out;have HPS:=hide (fun obj v' w6 A=>S5.out.push (obj:=obj) (v':=v') (w6:=w6) (y:=y) A s.opn)
     have HHA:=hide (fun obj v' w6 A=>S5.out.duo.aG.gM (k:=7) (ob:=obj) (v':=v') (w6:=w6) (m:=1) (news:=[.int .i64 (y:Nat)]) (by have:=S5.out.duo.aG.hK;omega) A 15 (by omega))
     have NX:Hid (∀ f6 V6 X6 R6 O6 W6,bK Z sb ob hb n w K f X gone (ints I9) pre ⟨bB s.seen v true,s.bn ++ [y],s.opn⟩ f6 V6 X6 R6 O6 W6->∀ sv,sv=.int .i64 ((i + 1:Nat):Int)->vE Z sb ob hb n w K f X gone (ints I9) pre lev ch.length s0 lits (.int .i64 ((s.opn:Nat):Int)) sv W6):=fun f6 V6 X6 R6 O6 W6 hs sv hsv=>⟨i + 1,⟨bB s.seen v true,s.bn ++ [y],s.opn⟩,f6,V6,X6,R6,O6,hsv,rfl,hlt,by rw [<- Qu.out,LK2.out,if_neg hd];rfl,hs⟩
     clear S5 hd LK2 O7 e7 l7 Y3;go_wp2_with (at_builtin;refine aU _ rfl _ _ 43 rfl 0 3 i0 (.int .i64 0) 1 8 Tryz.underlying43 hi hz0 hz1 hz2 rfl (by decide) _ _ _ rfl (HO7.out.alloc (Obj.cells #[.int .i64 (y:Int)] 3)) (.slice (some ⟨W5.heap.size,0,none⟩) 1 1) 1 [.int .i64 (y:Int)] rfl (.inr ⟨⟨W5.heap.size,0,none⟩,1,rfl,World.news_of_block (cs:=#[.int .i64 (y:Int)]) (t:=3) (fr:=(0,0)) (heap_alloc_new W5 _)⟩) rfl (by simp [Value.oneCell']) (by unfold maxLen;omega) (by omega) (Nat.zero_le _) ?_)
     intro v6 w6 A6;have A7:=A6;rw [<- L7.out,<- E7.out] at A7;obtain ⟨k6,z6⟩:=HHA.out _ _ _ A7;have S6:=hide (HPS.out _ _ _ A7);obtain ⟨qL,qK,hv6⟩:=aH A6.own;subst hv6;have NX6:=hide (NX.out _ _ _ _ _ _ S6.out);clear A6 A7 S6 HPS HHA HO7 NX;go_wp2;go_roundw
     case rel=>exact NX6.out _ (by go_num)
     case measure=>simp [intOf];omega
  ·have ei:i=lits.length:=by omega
   have FR:=hide (RET.out (.returned (.int .i64 ((s.opn:Nat):Int))) wr f' V' X' ko vB (by rw [hseq.out,ei,List.take_length]) (by have:=hst.out;rw [hseq.out,ei,List.take_length] at this;exact this))
   clear hst hseq;go_wp2;exact FR.out
end
section
open Go Go.RowKit Go.Deep Rd
theorem pO (z:Value) (n:Nat):Builtin.zeroCells #[z] n=(List.replicate n z).toArray:=by
 unfold Builtin.zeroCells;apply Array.ext
 ·simp
 ·intro i h1 h2;simp [Nat.mod_one]
theorem JP {P:Program} {w:World} {ot:TypeId} (t:TypeId) (elem:TypeId) (hu:P.underlying t=some (.slice elem)) (i:TypeInfo) (hi:P.info? elem=some i) (z:Value) (hz:i.zero=some z) (hzc:z.cells=#[z]) (h1:z.oneCell'=true)
  (g n cap:Nat) (cur:Array Value) (ty:TypeId) (hg:w.heap[g]? = some (.cells cur ty (0,0))) (hfit:n + 1 <= cur.size):
  ∃ w',(Builtin.clear_ #[t] ot #[.slice (some ⟨g,0,none⟩) (n + 1) cap]).run P w=.ok (.tuple #[]) w'/\w'.heap[g]? = some (.cells (splice cur.toList 0 (List.replicate (n + 1) z)).toArray ty (0,0))/\(∀ k,k ≠ g->w'.heap[k]? = w.heap[k]?)/\Below 0 w w':=by
 have hst:=run_storeCells_at P g 0 ty (List.replicate (n + 1) z) 0 cur w hg (by simpa using hfit) (fun v hv=>by rw [List.eq_of_mem_replicate hv];exact h1)
 have hzr:(zeroValue elem).run P w=.ok z w:=by simp [zeroValue,typeInfo,hi,hz]
 refine ⟨w.setRow g (splice cur.toList 0 (List.replicate (n + 1) z)).toArray,?_,setRow_heap w g _ _ ty _ hg,fun k hk=>setRow_other w g k _ (fun e=>hk (by first | exact e | exact e.symm)),below_setRow (Below.refl _ _) (Nat.zero_le _) _⟩
 simp only [Builtin.clear_];simp [run_underlying hu,hzr,hzc,pO,Result.andThen];rw [hst];simp [splice,Result.andThen]
theorem CG {P:Program} {w:World} {ot:TypeId} (t:TypeId) (elem:TypeId) (hu:P.underlying t=some (.slice elem)) (i:TypeInfo) (hi:P.info? elem=some i) (z:Value) (hz:i.zero=some z) (hzc:z.cells=#[z]) (h1:z.oneCell'=true)
  (g off n cap:Nat) (cur:Array Value) (ty:TypeId) (hg:w.heap[g]? = some (.cells cur ty (0,0))) (hfit:off + (n + 1) <= cur.size):
  ∃ w',(Builtin.clear_ #[t] ot #[.slice (some ⟨g,off,none⟩) (n + 1) cap]).run P w=.ok (.tuple #[]) w'/\w'.heap[g]? = some (.cells (splice cur.toList off (List.replicate (n + 1) z)).toArray ty (0,0))/\(∀ k,k ≠ g->w'.heap[k]? = w.heap[k]?)/\Below 0 w w':=by
 have hst:=run_storeCells_at P g off ty (List.replicate (n + 1) z) 0 cur w hg (by simpa using hfit) (fun v hv=>by rw [List.eq_of_mem_replicate hv];exact h1)
 have hzr:(zeroValue elem).run P w=.ok z w:=by simp [zeroValue,typeInfo,hi,hz]
 refine ⟨w.setRow g (splice cur.toList off (List.replicate (n + 1) z)).toArray,?_,setRow_heap w g _ _ ty _ hg,fun k hk=>setRow_other w g k _ (fun e=>hk (by first | exact e | exact e.symm)),below_setRow (Below.refl _ _) (Nat.zero_le _) _⟩
 simp only [Builtin.clear_];simp [run_underlying hu,hzr,hzc,pO,Result.andThen];rw [hst];simp [splice,Result.andThen]
end
end So
end Go.Proofs.YtceahffmenbibaaGreatDoor
