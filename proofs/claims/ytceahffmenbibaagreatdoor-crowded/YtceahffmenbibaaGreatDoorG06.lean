/- Shw5 Sduo Suse Slok Scle Sxpl Sxpw. -/
import Derived.Test.YtceahffmenbibaaGreatDoorG05
import Derived.Test.YtceahffmenbibaaGreatDoorG01
set_option linter.unusedVariables false
set_option linter.unusedSimpArgs false
set_option maxHeartbeats 4000000
set_option maxRecDepth 100000
namespace Go.Proofs.YtceahffmenbibaaGreatDoor
namespace So
section
open Go Go.RowKit Go.Deep Rd
section
variable {Z:Nat->Prop} {ob hb:Nat} {w w':World} {wt:Int} {V:Nat->Value} {X:Nat->List Value} {n g:Nat} {items:List Nat} {pl bz:Nat->Int} {gone:Nat->Prop}
theorem iQ.congr {fE:Nat->Prop} (h:iQ Z ob hb n w gone) (a:∀ v,gone v↔fE v):iQ Z ob hb n w fE:=by
 obtain ⟨wt,V,X,items,pl,bz,e,d,c,b⟩:=h.ex;exact ⟨⟨wt,V,X,items,pl,bz,e,d,c,fun v=>(b v).trans (a v)⟩,(a n).1 h.last⟩
theorem yK (h:iQ Z ob hb n w gone) (d:n <= 50):
  Calls Tryz.prog 146 #[.pointer (some ⟨ob,0,none⟩)] w fun e w'=>Aa Z ob hb n w gone e w':=by
 have j:=hide (TD h d);obtain ⟨wt,V,X,items,pl,bz,b,-⟩:=h.ex;have q:=b.cells.1;clear h b;go_enter Tryz.func146,Tryz.ntmps146
 go_upto_region 1 with fail
 go_wp2_with (go_at_call 191;refine j.out.mono ?_;rintro m l a;have k:=hide a;rcases a.2 with ⟨rfl,c⟩ | ⟨v,rfl,c⟩ <;> (clear a c;simp only []))
 all_goals (go_wp2;go_ret2;exact k.out)
theorem oK.place (c:oK n n X items pl bz) (h:Ord Z ob hb w wt V X) {v:Nat} (b:v < n):∃ a c0,w.cell? ⟨ob,1,none⟩=some (.slice (some ⟨a,0,none⟩) n c0)/\w.cell? ⟨a,v,none⟩=some (.int .i64 (pl v)):=by
 obtain ⟨a,c0,t,e,r,s,_⟩:=h.elem (k:=0) (j:=v) (by omega) c.n0 b
 rw [c.t0 v b (by omega)] at s
 obtain rfl:=Option.some.inj s;have:=h.cells.2.1;rw [e] at this;exact ⟨a,c0,this,r⟩
theorem Ob (h:iQ Z ob hb n w gone) {v:Nat} (o:v < n) (r:n <= 50):
  Calls Tryz.prog 178 #[.pointer (some ⟨ob,0,none⟩),.int .i64 (v:Nat)] w fun e w'=>e=.returned (.tuple #[])/\dC Z w w'/\iQ Z ob hb n w' (fun x=>gone x/\x ≠ v):=by
 obtain ⟨wt,V,X,items,pl,bz,j,l,m,b⟩:=h.ex;obtain ⟨I,c0,G,p⟩:=l.place j o;have H:=j.cells.1;have D:(0:Int) <= (v:Int):=by omega
 have C:(v:Int) < (n:Int):=by omega
 by_cases a:pl v=-1
 ·have u:Hid (Calls Tryz.prog 128 #[.pointer (some ⟨hb,0,none⟩),.int .i64 (v:Nat)] w fun e w'=>e=.returned (.tuple #[])/\dC Z w w'/\iQ Z ob hb n w' (fun x=>gone x/\x ≠ v)):=(O5 j l m o a ((b n).2 h.last) r).mono fun e w' ⟨h1,h2,h3⟩=>⟨h1,h2,h3.congr fun x=>by rw [b x]⟩
  rw [a] at p;clear h j l m b a;go_enter Tryz.func178,Tryz.ntmps178
  go_wp2_with (go_at_call 128;refine u.out.mono ?_;rintro J B ⟨rfl,d,c⟩;have y:=hide c;have z:=hide d;clear c d;simp only [])
  go_end0
  exact ⟨rfl,z.out,y.out⟩
 ·have F:Hid (iQ Z ob hb n w (fun x=>gone x/\x ≠ v)):=h.congr fun x=>⟨fun k=>⟨k,fun e=>a ((b v).2 (e ▸ k))⟩,fun k=>k.1⟩
  have q:(pl v == -1)=false:=by simpa using a
  generalize pl v=t at *
  clear h j l m b a;go_enter Tryz.func178,Tryz.ntmps178
  go_wp2;go_end0
  exact ⟨rfl,dC.refl _,F.out⟩
theorem UQ (h:iQ Z ob hb n w gone):
  Calls Tryz.prog 144 #[.pointer (some ⟨ob,0,none⟩)] w fun e w'=>e=.returned (.tuple #[])/\dC Z w w'/\iQ Z ob hb n w' gone:=by
 obtain ⟨wt,V,X,items,pl,bz,d,k,j,c⟩:=h.ex;have m:=d.cells.2.2.2.1;have l:=d.cells.2.2.2.2.2.2.2.2;have F:Hid (∀ t,dC Z w (w.setCell ⟨ob,3,none⟩ (.int .i64 t)).drew/\iQ Z ob hb n (w.setCell ⟨ob,3,none⟩ (.int .i64 t)).drew gone):=fun t=>by
  obtain ⟨a,b⟩:=d.weight t;exact ⟨b.drew,⟨t,V,X,items,pl,bz,a.later bR.drew,k,j,c⟩,h.last⟩
 clear h d k j c;go_enter Tryz.func144,Tryz.ntmps144
 go_region_with fail
 all_goals
  go_wp2;go_end0
  exact ⟨rfl,F.out _⟩
theorem oK.Rp (h:oK n g X items pl bz) {v:Nat} (t:Int):oK n g (upd X 1 ((X 1).set v (.int .i64 t))) items pl (eG bz v t) where
 n0:=by rw [cz _ _ (by decide)];exact h.n0
 t0:=by rw [cz _ _ (by decide)];exact h.t0
 i0:=by rw [cz _ _ (by decide)];exact h.i0
 n1:=by rw [cK,List.length_set];exact h.n1
 t1:=fun x a=>by
  rw [cK];by_cases e:x=v
  ·subst e;rw [List.getElem?_set_self (by rw [h.n1];exact a),dF]
  ·rw [List.getElem?_set_ne (fun b=>e b.symm),dh _ _ e];exact h.t1 x a
 t2:=by rw [cz _ _ (by decide)];exact h.t2
def H8 (Z:Nat->Prop) (ob hb n:Nat) (w:World) (V:Nat->Value) (items:List Nat) (pl:Nat->Int) (wt:Int) (s:Value) (wr:World):Prop:=
 ∃ (i:Nat) (X:Nat->List Value) (bz:Nat->Int),s=.int .i64 ((i:Nat):Int)/\i <= n/\Hid (Ord Z ob hb wr wt V X/\oK n n X items pl bz/\dC Z w wr)
def rQ (Z:Nat->Prop) (ob hb n:Nat) (w:World) (V:Nat->Value) (items:List Nat) (pl:Nat->Int) (w':World):Prop:=dC Z w w'/\∃ Zh X' Zp,Ord Z ob hb w' Zh V X'/\oK n n X' items pl Zp
theorem Lx (h:Ord Z ob hb w wt V X) (p:oK n n X items pl bz) (M:n <= 50):
  Calls Tryz.prog 238 #[.pointer (some ⟨ob,0,none⟩)] w fun e w'=>e=.returned (.tuple #[])/\rQ Z ob hb n w V items pl w':=by
 have r:Hid (Ord Z ob hb w wt V X/\oK n n X items pl bz/\dC Z w w):=⟨h,p,dC.refl _⟩;obtain ⟨O,N,l⟩:=h.eO.shape (k:=1) (by omega)
 have o:=h.cells.2.2.1;rw [l,p.n1] at o;clear h p l;go_enter Tryz.func238,Tryz.ntmps238
 go_wp2_with fail
 go_loopw [2,8] (fun _ s wr=>H8 Z ob hb n w V items pl wt s wr) (fun _ s _=>n - (intOf s).toNat)
 case atStart=>exact ⟨0,X,bz,rfl,zl,r⟩
 case round=>
  clear r o;obtain ⟨i,X',m,rfl,y,c⟩:=hrel;by_cases d:i < n
  ·obtain ⟨g1,z,H,l,I,q,D,-⟩:=c.out.1.elem (k:=1) (j:=i) (by omega) c.out.2.1.n1 d
   have o:=c.out.1.cells.2.2.1;rw [l] at o;rw [c.out.2.1.t1 i d] at q;obtain rfl:=Option.some.inj q;have L:(0:Int) <= (i:Int):=by omega
   have u:(i:Int) < (n:Int):=by omega
   have B:Hid (∀ t v,v=.int .i64 ((i + 1:Nat):Int)->H8 Z ob hb n w V items pl wt v (wr.setCell ⟨g1,i,none⟩ (.int .i64 t))):=fun t v x=>by
    obtain ⟨a,b⟩:=c.out.1.set (k:=1) (by omega) l i (.int .i64 t)
    exact ⟨i + 1,_,_,x,d,a,c.out.2.1.Rp t,c.out.2.2.trans b⟩
   clear c l;generalize m i=G at *
   go_wp2;go_roundw
   case rel=>exact B.out _ _ (by go_num)
   case measure=>simp [intOf];omega
  ·have J:=c.out.1.cells.2.2.2.1;have C:=c.out.1.cells.2.2.2.2.2.2.2.2;have F:Hid (∀ t,rQ Z ob hb n w V items pl (wr.setCell ⟨ob,3,none⟩ (.int .i64 t))):=fun t=>by
    obtain ⟨a,b⟩:=c.out.1.weight t;exact ⟨c.out.2.2.trans b,t,X',m,a,c.out.2.1⟩
   have u:¬ ((i:Int) < (n:Int)):=by omega
   clear c;go_wp2;go_end0;exact ⟨rfl,F.out _⟩
theorem Tx (h:Ord Z ob hb w wt V X) (G:oK n n X items pl bz) (l:Ec n items pl) (b:∀ v,pl v=-1↔gone v) (q:gone n) (N:n <= 50) {v:Nat} (C:v < n) {p:Int} (c:pl v=p) (k:p ≠ -1):
  Calls Tryz.prog 173 #[.pointer (some ⟨hb,0,none⟩),.int .i64 p] w fun e w'=>e=.returned (.tuple #[])/\dC Z w w'/\iQ Z ob hb n w' gone:=by
 rcases l.at' v C with m | ⟨i,m,r⟩
 ·exact absurd (c.symm.trans m) k
 ·obtain ⟨D,J⟩:=List.getElem?_eq_some_iff.1 r;have o:=l.open D;rw [J] at o;have M:=l.len;have e:p=(i:Nat):=c.symm.trans m;subst e;refine (EI h G o r ((b n).2 q) (by omega) (by omega)).mono ?_
  rintro e w' ⟨I,H⟩;obtain ⟨X',a,j,B,z,y,L,u,t⟩:=H.ex;refine ⟨I,t,⟨wt,V,X',a,j,bz,B,z,y,fun x=>?_⟩,q⟩
  rw [u x,b x];refine ⟨fun d=>d.1,fun d=>⟨d,fun e=>?_⟩⟩
  subst e;have:=(b x).2 d;omega
theorem Oc (h:iQ Z ob hb n w gone) {v:Nat} (u:v < n) (T:n <= 50):
  Calls Tryz.prog 217 #[.pointer (some ⟨ob,0,none⟩),.int .i64 (v:Nat)] w fun e w'=>e=.returned (.tuple #[])/\dC Z w w'/\iQ Z ob hb n w' gone:=by
 obtain ⟨wt,V,X,items,pl,bz,D,L,S,B⟩:=h.ex;have U:=h.last;obtain ⟨g1,c1,t1,O,J,R,z1,aa,l1,no,nh⟩:=D.elem (k:=1) (j:=v) (by omega) L.n1 u
 have y:=D.cells.2.2.1;rw [O] at y;have q3:=D.cells.2.2.2.1;rw [L.t1 v u] at R;obtain rfl:=Option.some.inj R;have v0:(0:Int) <= (v:Int):=by omega
 have v1:(v:Int) < (n:Int):=by omega
 have F1:Hid (∀ t,Ord Z ob hb (w.setCell ⟨g1,v,none⟩ (.int .i64 t)).drew wt V (upd X 1 ((X 1).set v (.int .i64 t)))/\oK n n (upd X 1 ((X 1).set v (.int .i64 t))) items pl (eG bz v t)/\dC Z w (w.setCell ⟨g1,v,none⟩ (.int .i64 t)).drew):=fun t=>by
  obtain ⟨a,b⟩:=D.set (k:=1) (by omega) O v (.int .i64 t)
  exact ⟨a.later bR.drew,L.Rp t,b.drew⟩
 have Y:=hide S;have H:=hide B;clear h D L S B O;generalize bz v=tt at *
 go_enter Tryz.func217,Tryz.ntmps217
 go_upto_region 0 with fail
 go_cut [] from 4 (fun wx=>∃ t,Hid (Ord Z ob hb wx wt V (upd X 1 ((X 1).set v (.int .i64 t)))/\oK n n (upd X 1 ((X 1).set v (.int .i64 t))) items pl (eG bz v t)/\dC Z w wx))
 case first=>
  go_region_with fail
  all_goals
   go_wp2_with fail
   go_meet;exact ⟨_,F1.out _⟩
 case rest=>
  obtain ⟨t,m⟩:=hcut;clear F1 y q3 J z1;obtain ⟨ad,ae,ab,G,N,x,-⟩:=m.out.1.elem (k:=1) (j:=v) (by omega) m.out.2.1.n1 u
  have y:=m.out.1.cells.2.2.1;rw [G] at y;rw [m.out.2.1.t1 v u] at x;obtain rfl:=Option.some.inj x;have W:=hide (Lx m.out.1 m.out.2.1 T);have H1:Hid (rQ Z ob hb n w V items pl wc):=⟨m.out.2.2,wt,_,_,m.out.1,m.out.2.1⟩;have C1:=hide m.out.2.2;clear m G;generalize eG bz v t v=t2 at *
  go_upto_if 24 with fail
  go_cut [] from 4 (fun wx=>Hid (rQ Z ob hb n w V items pl wx))
  case first=>
   go_wp2_with (go_at_call 238;refine W.out.mono ?_;rintro e7 Q ⟨rfl,q⟩;have S7:Hid (rQ Z ob hb n w V items pl Q):=⟨C1.out.trans q.1,q.2⟩;clear q;simp only [])
   ·go_meet;exact S7
   ·go_meet;exact H1
  case rest=>
   rename_i wy _;obtain ⟨r,M,X2,P,c,o⟩:=hcut.out;clear hcut H1 W C1 y N;obtain ⟨g0,c0,q1,J⟩:=o.place c u;have q0:=c.cells.1;have I:=hide r;by_cases l:pl v=-1
   ·have F:Hid (iQ Z ob hb n wc gone):=⟨⟨M,V,X2,items,pl,P,c,o,Y.out,H.out⟩,U⟩;rw [l] at J;clear c o r l;go_wp2;go_end0;exact ⟨rfl,I.out,F.out⟩
   ·obtain ⟨p,d⟩:∃ p,pl v=p:=⟨_,rfl⟩;have QR:Hid (Calls Tryz.prog 173 #[.pointer (some ⟨hb,0,none⟩),.int .i64 p] wc.drew fun e w'=>e=.returned (.tuple #[])/\dC Z wc.drew w'/\iQ Z ob hb n w' gone):=Tx (c.later bR.drew) o Y.out H.out U T u d (fun e=>l (d.trans e))
    have ac:(p != -1)=true:=by simpa using fun e=>l (d.trans e)
    rw [d] at J;clear c o r l d;have CD:Hid (dC Z w wc.drew):=I.out.drew;go_upto_region 4 with fail
    go_region_with (go_at_call 173;refine QR.out.mono ?_;rintro e7 Q ⟨rfl,C,z⟩;have C7:=hide (CD.out.trans C);have O7:=hide z;clear C z;simp only [])
    all_goals
     go_wp2;go_end0
     exact ⟨rfl,C7.out,O7.out⟩
end
section
variable {Z:Nat->Prop} {sb ob hb K n:Nat} {w w':World} {f f' V V':Nat->Value} {X X':Nat->List Value} {gone fE:Nat->Prop}
def zz (R:Nat->Prop) (w:World) (g:Nat):Prop:=R g\/w.heap.size <= g
theorem dQ.LU {Z':Nat->Prop} (h:dQ Z sb w K f V X) (c:∀ g,g < w.heap.size->Z g->Z' g) (d:∀ g,w.heap.size <= g->Z' g):dQ Z' sb w K f V X:=
 ⟨h.row,h.eO,h.hdr,c sb h.row.lt h.jg,fun k a g b=>c g ((h.eO.own k a).lt g b).2 (h.al k a g b),d,h.hK⟩
theorem dQ.kept (h:dQ Z sb w K f V X) {Z':Nat->Prop} (c:dC Z' w w') (hd:∀ g,g < w.heap.size->Z g->¬ Z' g):dQ Z sb w' K f V X:=
 ⟨h.row.of_block (c.block _ h.row.lt (hd sb h.row.lt h.jg)),h.eO.kept fun k g b a=>c.block g ((h.eO.own k b).lt g a).2 (hd g ((h.eO.own k b).lt g a).2 (h.al k b g a)),h.hdr,h.jg,h.al,fun g a=>h.az g (Nat.le_trans c.size a),h.hK⟩
theorem Ord.LU {wt:Int} {Z':Nat->Prop} (h:Ord Z ob hb w wt V X) (a:∀ g,g < w.heap.size->Z g->Z' g) (d:∀ g,w.heap.size <= g->Z' g):Ord Z' ob hb w wt V X:=
 ⟨h.jM,h.hrow,h.eO,a ob h.jM.lt h.zo,a hb h.hrow.lt h.zh,fun k b g c=>a g ((h.eO.own k b).lt g c).2 (h.al k b g c),d⟩
theorem iQ.LU {Z':Nat->Prop} (h:iQ Z ob hb n w gone) (d:∀ g,g < w.heap.size->Z g->Z' g) (c:∀ g,w.heap.size <= g->Z' g):iQ Z' ob hb n w gone:=by
 obtain ⟨wt,V,X,items,pl,bz,b,a⟩:=h.ex;exact ⟨⟨wt,V,X,items,pl,bz,b.LU d c,a⟩,h.last⟩
theorem iT {R:Nat->Prop} {g:Nat} (a:g < w.heap.size) (h:zz R w g):R g:=by
 rcases h with h | h
 ·exact h
 ·omega
theorem iQ.nN {R:Nat->Prop} (h:iQ (zz R w) ob hb n w gone) {Z':Nat->Prop} (j:dC Z' w w') (hd:∀ g,g < w.heap.size->R g->¬ Z' g):iQ (zz R w') ob hb n w' gone:=by
 have l:iQ (fun g=>R g\/w.heap.size <= g) ob hb n w gone:=h
 obtain ⟨wt,V,X,items,pl,bz,a,e⟩:=h.ex;have c:=a.kept j (hd ob a.jM.lt (iT a.jM.lt a.zo)) (hd hb a.hrow.lt (iT a.hrow.lt a.zh)) fun k c g b=>hd g ((a.eO.own k c).lt g b).2 (iT ((a.eO.own k c).lt g b).2 (a.al k c g b))
 exact ⟨⟨wt,V,X,items,pl,bz,⟨c.jM,c.hrow,c.eO,.inl (iT a.jM.lt a.zo),.inl (iT a.hrow.lt a.zh),fun k d g b=>.inl (iT ((a.eO.own k d).lt g b).2 (a.al k d g b)),fun g b=>.inr b⟩,e⟩,h.last⟩
theorem dQ.nN {R:Nat->Prop} (h:dQ (zz R w) sb w K f V X) {Z':Nat->Prop} (d:dC Z' w w') (hd:∀ g,g < w.heap.size->R g->¬ Z' g):dQ (zz R w') sb w' K f V X:=by
 have c:=h.kept d fun g a e=>hd g a (iT a e)
 exact ⟨c.row,c.eO,c.hdr,.inl (iT h.row.lt h.jg),fun k b g a=>.inl (iT ((h.eO.own k b).lt g a).2 (h.al k b g a)),fun g a=>.inr a,h.hK⟩
structure Duo (Z:Nat->Prop) (sb ob hb n:Nat) (w:World) (K:Nat) (f V:Nat->Value) (X:Nat->List Value) (gone:Nat->Prop) (Rs Ro:Nat->Prop):Prop where
 dH:dQ (zz Rs w) sb w K f V X
 ord:iQ (zz Ro w) ob hb n w gone
 f12:f 12=.pointer (some ⟨ob,0,none⟩)
 zy:∀ g,Rs g->¬ Ro g
 ls:∀ g,Rs g->g < w.heap.size
 lo:∀ g,Ro g->g < w.heap.size
 zs:∀ g,Rs g->Z g
 zo:∀ g,Ro g->Z g
 az:∀ g,w.heap.size <= g->Z g
variable {Rs Ro:Nat->Prop}
theorem Duo.xW (h:Duo Z sb ob hb n w K f V X gone Rs Ro) {R:Nat->Prop} (c:∀ g,R g->Z g):∀ g,zz R w g->Z g:=fun g b=>by
 rcases b with a | a
 ·exact c g a
 ·exact h.az g a
theorem Duo.gM (h:Duo Z sb ob hb n w K f V X gone Rs Ro) (e:dQ (zz Rs w) sb w' K f' V' X') (d:dC (zz Rs w) w w') (j:f' 12=f 12):Duo Z sb ob hb n w' K f' V' X' gone (fun g=>zz Rs w g/\g < w'.heap.size) Ro/\dC Z w w':=by
 refine ⟨{
  dH:=e.LU (fun g a b=>.inl ⟨b,a⟩) (fun g c=>.inr c)
  ord:=h.ord.nN d fun g c a b=>h.zy g (iT c b) a
  f12:=j.trans h.f12
  zy:=fun g a b=>by
   have:=h.lo g b;exact h.zy g (iT this a.1) b
  ls:=fun g a=>a.2
  lo:=fun g a=>Nat.lt_of_lt_of_le (h.lo g a) d.size
  zs:=fun g a=>h.xW h.zs g a.1
  zo:=h.zo
  az:=fun g c=>h.az g (Nat.le_trans d.size c) },d.mono fun g _ a=>h.xW h.zs g a⟩
theorem Duo.yn (h:Duo Z sb ob hb n w K f V X gone Rs Ro) (e:iQ (zz Ro w) ob hb n w' fE) (d:dC (zz Ro w) w w'):Duo Z sb ob hb n w' K f V X fE Rs (fun g=>zz Ro w g/\g < w'.heap.size)/\dC Z w w':=by
 refine ⟨{
  dH:=h.dH.nN d fun g b a c=>h.zy g a (iT b c)
  ord:=e.LU (fun g a c=>.inl ⟨c,a⟩) (fun g b=>.inr b)
  f12:=h.f12
  zy:=fun g a c=>by
   have:=h.ls g a;exact h.zy g a (iT this c.1)
  ls:=fun g a=>Nat.lt_of_lt_of_le (h.ls g a) d.size
  lo:=fun g a=>a.2
  zs:=h.zs
  zo:=fun g a=>h.xW h.zo g a.1
  az:=fun g b=>h.az g (Nat.le_trans d.size b) },d.mono fun g _ a=>h.xW h.zo g a⟩
theorem Duo.later (h:Duo Z sb ob hb n w K f V X gone Rs Ro) (a:Below w.heap.size w w'):Duo Z sb ob hb n w' K f V X gone Rs Ro where
 dH:=h.dH.nN (Z':=fun _=>False) (dC.of_below a) fun _ _ _ h=>h
 ord:=h.ord.nN (Z':=fun _=>False) (dC.of_below a) fun _ _ _ h=>h
 f12:=h.f12
 zy:=h.zy
 ls:=fun g b=>Nat.lt_of_lt_of_le (h.ls g b) a.size
 lo:=fun g b=>Nat.lt_of_lt_of_le (h.lo g b) a.size
 zs:=h.zs
 zo:=h.zo
 az:=fun g c=>h.az g (Nat.le_trans a.size c)
structure Ig (n:Nat) (X:Nat->List Value) (pre:Int) (seen:Nat->Bool) (je:List Nat):Prop where
 n10:(X 10).length=n
 t10:∀ v,v < n->(X 10)[v]? = some (.bool (seen v))
 l7:X 7=.int .i64 pre :: dx je
theorem Ig.mark {pre:Int} {seen:Nat->Bool} {a:List Nat} (h:Ig n X pre seen a) {v:Nat} (d:v < n):Ig n (upd X 10 ((X 10).set v (.bool true))) pre (eG seen v true) a where
 n10:=by rw [cK,List.length_set];exact h.n10
 t10:=fun x b=>by
  rw [cK];by_cases e:x=v
  ·subst e;rw [List.getElem?_set_self (by rw [h.n10];exact b),dF]
  ·rw [List.getElem?_set_ne (fun c=>e c.symm),dh _ _ e];exact h.t10 x b
 l7:=by rw [cz _ _ (by decide)];exact h.l7
theorem Ig.more {pre:Int} {seen:Nat->Bool} {a:List Nat} (h:Ig n X pre seen a) (y:Nat):Ig n (upd X 7 (X 7 ++ [.int .i64 (y:Nat)])) pre seen (a ++ [y]) where
 n10:=by rw [cz _ _ (by decide)];exact h.n10
 t10:=by rw [cz _ _ (by decide)];exact h.t10
 l7:=by rw [cK,h.l7,jA];rfl
theorem Ig.congr {pre:Int} {seen:Nat->Bool} {a:List Nat} (h:Ig n X pre seen a) (c:X' 7=X 7) (b:X' 10=X 10):Ig n X' pre seen a:=⟨by rw [b];exact h.n10,by rw [b];exact h.t10,by rw [c];exact h.l7⟩
end
section
variable {Z:Nat->Prop} {sb K:Nat} {w w':World} {f V:Nat->Value} {X:Nat->List Value}
def JO (Z:Nat->Prop) (sb:Nat) (w:World) (K:Nat) (f V:Nat->Value) (X:Nat->List Value) (x:Nat) (w':World):Prop:=dC Z w w'/\∃ t:Int,dQ Z sb w' K f V (upd X 0 ((X 0).set (x + 2) (.int .i64 t)))
theorem SF (x n:Nat) (t:Int) (h:dQ Z sb w K f V X) (m:(X 0).length=n) (l:x + 2 < n) (hb:n <= 17592186044416) (b:(X 0)[x + 2]? = some (.int .i64 t)):
  Calls Tryz.prog 216 #[.pointer (some ⟨sb,2,none⟩),.int .i64 x] w fun e w'=>e=.returned (.tuple #[])/\JO Z sb w K f V X x w':=by
 obtain ⟨g,o,z,c,d,B,a,q,p,D,C⟩:=h.elem (k:=0) (j:=x + 2) (by omega) m l
 rw [show cellOf 0=2 from rfl] at d
 rw [b] at a;obtain rfl:=Option.some.inj a;have F:Hid (∀ u:Int,JO Z sb w K f V X x (w.setCell ⟨g,x + 2,none⟩ (.int .i64 u))):=fun u=>⟨(dC.refl _).setCell p _,u,h.set (k:=0) (by have:=h.hK;omega) c (x + 2) (.int .i64 u)⟩
 have y:(0:Int) <= (x:Int) + 2:=by omega
 have v:(x:Int) + 2 < (n:Int):=by omega
 have r:((x:Int) + 2).toNat=x + 2:=by omega
 clear h c b a;go_enter Tryz.func216,Tryz.ntmps216
 go_wp2;go_end0
 exact ⟨rfl,F.out _⟩
end
section
variable {Z:Nat->Prop} {sb ob hb K n:Nat} {w w':World} {f f' V V':Nat->Value} {X X':Nat->List Value} {gone:Nat->Prop} {Rs Ro:Nat->Prop} {tr ch:List Nat} {lev:Nat->Nat} {rea:Nat->Int} {cs:List Rec}
def WK (n:Nat) (V:Nat->Value) (X:Nat->List Value):Prop:=∀ x,x < 2 * n->(X 9)[x]? = some (V (16 + x))
theorem WK.congr {n:Nat} {V V':Nat->Value} {X X':Nat->List Value} (h:WK n V X) (c:X' 9=X 9) (b:∀ x,V' (16 + x)=V (16 + x)):WK n V' X':=fun x a=>by rw [c,b];exact h x a
structure fq (Z:Nat->Prop) (sb ob hb n:Nat) (w:World) (K:Nat) (f:Nat->Value) (X:Nat->List Value) (gone:Nat->Prop) (E:List Value) (pre:Int) (s:Lk) (f' V':Nat->Value) (X':Nat->List Value) (Rs Ro:Nat->Prop) (wr:World):Prop where
 duo:Duo Z sb ob hb n wr K f' V' X' gone Rs Ro
 x0:X' 0=E
 Ei:Ig n X' pre s.seen s.je
 only:∀ j,j ≠ 0->j ≠ 7->j ≠ 10->X' j=X j
 ff:∀ j,j ≠ 15->f' j=f j
 eP:dC Z w wr
 wk:WK n V' X'
def xS (Z:Nat->Prop) (sb ob hb n:Nat) (w:World) (K:Nat) (f:Nat->Value) (X:Nat->List Value) (gone:Nat->Prop) (E:List Value) (pre:Int) (lev:Nat->Nat) (d:Nat) (s0:Lk) (lits:List Nat) (s5 s20:Value) (wr:World):Prop:=
 ∃ (i:Nat) (s:Lk) (f' V':Nat->Value) (X':Nat->List Value) (Rs Ro:Nat->Prop),s20=.int .i64 ((i:Nat):Int)/\s5=.int .i64 ((s.opn:Nat):Int)/\i <= lits.length/\Hid (s=(lits.take i).foldl (ma lev d) s0)/\Hid (fq Z sb ob hb n w K f X gone E pre s f' V' X' Rs Ro wr)
def xR (Z:Nat->Prop) (sb ob hb n:Nat) (w:World) (K:Nat) (f:Nat->Value) (X:Nat->List Value) (gone:Nat->Prop) (cs:List Rec) (k kd:Nat) (pre:Int) (lev:Nat->Nat) (d:Nat) (s0:Lk) (lits:List Nat) (e:Ending) (w':World):Prop:=
 ∃ (bs:Int) (f' V':Nat->Value) (X':Nat->List Value) (Rs Ro:Nat->Prop),e=.returned (.int .i64 (((lits.foldl (ma lev d) s0).opn:Nat):Int))/\fq Z sb ob hb n w K f X gone (ints (enc (cs.set k ⟨kd,bs,lits⟩))) pre (lits.foldl (ma lev d) s0) f' V' X' Rs Ro w'
variable {E:List Value} {pre:Int} {s:Lk} {wr wx:World}
theorem fq.later (h:fq Z sb ob hb n w K f X gone E pre s f' V' X' Rs Ro wr) (a:Below wr.heap.size wr wx):fq Z sb ob hb n w K f X gone E pre s f' V' X' Rs Ro wx:=
 { h with duo:=h.duo.later a,eP:=h.eP.trans (dC.of_below a) }
theorem fq.mark (h:fq Z sb ob hb n w K f X gone E pre s f' V' X' Rs Ro wr) {v:Nat} (l:v < n) {g c:Nat} (e:V' 10=.slice (some ⟨g,0,none⟩) n c) (d:zz Rs wr g) (k:Nat):fq Z sb ob hb n w K f X gone E pre ⟨eG s.seen v true,s.je,k⟩ f' V' (upd X' 10 ((X' 10).set v (.bool true))) (fun b=>zz Rs wr b/\b < (wr.setCell ⟨g,v,none⟩ (.bool true)).heap.size) Ro (wr.setCell ⟨g,v,none⟩ (.bool true)):=by
 obtain ⟨q,p⟩:=h.duo.gM (h.duo.dH.set (k:=10) (by have:=h.duo.dH.hK;omega) e v (.bool true)) ((dC.refl _).setCell d _) rfl
 exact ⟨q,by rw [cz _ _ (by decide)];exact h.x0,h.Ei.mark l,fun j o m a=>by rw [cz _ _ a];exact h.only j o m a,h.ff,h.eP.trans p,h.wk.congr (cz _ _ (by decide)) fun _=>rfl⟩
theorem fq.used (h:fq Z sb ob hb n w K f X gone E pre s f' V' X' Rs Ro wr) (a:iQ (zz Ro wr) ob hb n wx gone) (b:dC (zz Ro wr) wr wx):fq Z sb ob hb n w K f X gone E pre s f' V' X' Rs (fun g=>zz Ro wr g/\g < wx.heap.size) wx:=by
 obtain ⟨d,c⟩:=h.duo.yn a b;exact ⟨d,h.x0,h.Ei,h.only,h.ff,h.eP.trans c,h.wk⟩
theorem fq.opn (h:fq Z sb ob hb n w K f X gone E pre s f' V' X' Rs Ro wr) (k:Nat):fq Z sb ob hb n w K f X gone E pre ⟨s.seen,s.je,k⟩ f' V' X' Rs Ro wr:=⟨h.duo,h.x0,h.Ei,h.only,h.ff,h.eP,h.wk⟩
theorem fq.push (h:fq Z sb ob hb n w K f X gone E pre s f' V' X' Rs Ro wr) {obj:Obj} {v':Value} {w6:World} {y:Nat} (A:dB (wr.alloc obj) 0 3 1 (V' 7) (X' 7).length (X' 7) 1 [.int .i64 (y:Nat)] v' w6) (k:Nat):
  fq Z sb ob hb n w K f X gone E pre ⟨s.seen,s.je ++ [y],k⟩ (upd f' 15 v') (upd V' 7 v') (upd X' 7 (X' 7 ++ [.int .i64 (y:Nat)])) (fun g=>zz Rs wr g/\g < (w6.setCell ⟨sb,15,none⟩ v').heap.size) Ro (w6.setCell ⟨sb,15,none⟩ v'):=by
 have o:=h.duo.dH.hK;obtain ⟨l,e⟩:=h.duo.gM (h.duo.dH.push (k:=7) (m:=1) (news:=[.int .i64 (y:Nat)]) (by omega) rfl A) (h.duo.dH.nS (k:=7) (by omega) A 15 v') (cz _ _ (by decide))
 exact ⟨l,by rw [cz _ _ (by decide)];exact h.x0,h.Ei.more y,fun j d b c=>by rw [cz _ _ b];exact h.only j d b c,fun j a=>by rw [cz _ _ a];exact h.ff j a,h.eP.trans e,h.wk.congr (cz _ _ (by decide)) fun x=>cz _ _ (by omega)⟩
theorem Fy {k:Nat} {s0:Lk} (D:Duo Z sb ob hb n w K f V X gone Rs Ro) (hn:n <= 50) (h0:X 0=ints (enc cs)) (hk:k < cs.length) (hN:(enc cs).length <= 1099511627776) (hT:lX n X tr ch lev rea) (hL:Ig n X pre s0.seen s0.je) (ar:s0.opn=0) (q:∀ y ∈ (cs[k]).lits,y < 2 * n) (bd:ch.length <= 1000) (bb:s0.je.length + (cs[k]).lits.length <= 1000) (hW:WK n V X):
  Calls Tryz.prog 182 #[.pointer (some ⟨sb,0,none⟩),.int .i64 (dw cs k:Nat)] w fun e w'=>xR Z sb ob hb n w K f X gone cs k (cs[k]).kind pre lev ch.length s0 (cs[k]).lits e w':=by
 obtain ⟨i0,hi,aM,aL,aK⟩:=info_parts Tryz.fP;have aZ:=eF hk;have ab:(X 0).length=(enc cs).length:=by rw [h0,fV]
 have QU:=hide (SF (dw cs k) (enc cs).length (cs[k]).busy D.dH ab (by omega) (by omega) (CV h0 (zw hk)))
 have aH:Hid (∀ wu,JO (zz Rs w) sb w K f V X (dw cs k) wu->∃ r X1 ai,fq Z sb ob hb n w K f X gone (ints (enc (cs.set k ⟨(cs[k]).kind,r,(cs[k]).lits⟩))) pre s0 f V X1 ai Ro wu):=fun wu ⟨hc,t,hs⟩=>by
  obtain ⟨d1,d2⟩:=D.gM hs hc rfl;refine ⟨t,_,_,d1,?_,hL.congr (cz _ _ (by decide)) (cz _ _ (by decide)),fun j h1 h2 h3=>cz _ _ h1,fun j hj=>rfl,d2,hW.congr (cz _ _ (by decide)) fun _=>rfl⟩
  rw [cK,h0,ints_set,ry hk]
 have HT:=hide hT;clear hW;have Q:Hid (∀ (r:Int) e w' f' V' X' Rs Ro,e=.returned (.int .i64 ((((cs[k]).lits.foldl (ma lev ch.length) s0).opn:Nat):Int))->fq Z sb ob hb n w K f X gone (ints (enc (cs.set k ⟨(cs[k]).kind,r,(cs[k]).lits⟩))) pre ((cs[k]).lits.foldl (ma lev ch.length) s0) f' V' X' Rs Ro w'->xR Z sb ob hb n w K f X gone cs k (cs[k]).kind pre lev ch.length s0 (cs[k]).lits e w'):=fun r e w' f' V' X' Rs Ro h1 h2=>⟨r,f',V',X',Rs,Ro,h1,h2⟩
 generalize xR Z sb ob hb n w K f X gone cs k (cs[k]).kind pre lev ch.length s0 (cs[k]).lits=RR at *
 go_enter Tryz.func182,Tryz.ntmps182
 go_upto_region 2 with (go_at_call 216;refine QU.out.mono ?_;rintro e7 w7 ⟨rfl,ap⟩;obtain ⟨r,X1,ai,aq⟩:=aH.out w7 ap;have S1:=hide aq;clear aq ap;simp only [])
 have ac:k < (cs.set k ⟨(cs[k]).kind,r,(cs[k]).lits⟩).length:=by simpa using hk
 have ag:dw (cs.set k ⟨(cs[k]).kind,r,(cs[k]).lits⟩) k=dw cs k:=oJ (c:=⟨(cs[k]).kind,r,(cs[k]).lits⟩) hk rfl k;have aB:(cs.set k ⟨(cs[k]).kind,r,(cs[k]).lits⟩)[k]=⟨(cs[k]).kind,r,(cs[k]).lits⟩:=by simp
 have n1:(enc (cs.set k ⟨(cs[k]).kind,r,(cs[k]).lits⟩)).length=(enc cs).length:=GJ (c:=⟨(cs[k]).kind,r,(cs[k]).lits⟩) hk rfl;have aT:=hide (Q.out r);generalize aw:cs.set k ⟨(cs[k]).kind,r,(cs[k]).lits⟩=u at *
 obtain ⟨g,c,e0,q0,ay,lg,ng,zg,r0,-,-,-,-⟩:=fJ S1.out.duo.dH S1.out.x0 ac;have p:(u[k]).lits=(cs[k]).lits:=by rw [aB]
 rw [ag,p] at r0;have QL:Hid (∀ Y:World,Y.heap=w7.heap->Calls Tryz.prog 175 #[.pointer (some ⟨sb,2,none⟩),.int .i64 (dw cs k:Nat)] Y fun e w'=>e=.returned (jB g (dw cs k) (cs[k]).lits.length c)/\∃ j,w'=Y.drewN j):=fun Y hY=>iY sb 2 g (enc u).length c (dw cs k) (cs[k]).lits.length Y (by rw [show Y.cell? ⟨sb,2,none⟩=w7.cell? ⟨sb,2,none⟩ from World.cell?_of_block (a:=⟨sb,2,none⟩) (by rw [hY])];exact q0) (by omega) (by unfold maxLen;omega) ay (by rw [show Y.cell? ⟨g,dw cs k,none⟩=w7.cell? ⟨g,dw cs k,none⟩ from World.cell?_of_block (a:=⟨g,dw cs k,none⟩) (by rw [hY])];exact r0)
 have aW:Hid (∀ wr s f' V' X' Rs Ro,fq Z sb ob hb n w K f X gone (ints (enc u)) pre s f' V' X' Rs Ro wr->∀ i (hi:i < (cs[k]).lits.length),wr.cell? ⟨g,dw cs k + 3 + i,none⟩=some (.int .i64 ((cs[k]).lits[i]:Nat))):=fun wr s f' V' X' B C b i hi=>by
  have aS:V' 0=.slice (some ⟨g,0,none⟩) (enc u).length c:=by
   rw [<- b.duo.dH.hdr 0 (by omega),b.ff _ (by decide),<- S1.out.ff _ (by decide),S1.out.duo.dH.hdr 0 (by omega)];exact e0
  have:=mX b.duo.dH b.x0 aS ac (i:=i) (by rw [p];exact hi)
  rw [ag] at this;rw [this];simp only [p]
 have aC:Hid (∀ wr s f' V' X' Rs Ro,fq Z sb ob hb n w K f X gone (ints (enc u)) pre s f' V' X' Rs Ro wr->lX n X' tr ch lev rea):=fun wr s f' V' X' B C b=>HT.out.congr fun j h1 h2=>b.only j (by omega) (by omega) (by omega)
 rw [n1] at ay;have aV:=hide q;have aE:=hide ar;clear QU aH D h0 hT hL ac Q aB n1 aw q0 r0 ag p e0 ab q ar lg ng zg;generalize dw cs k=a at *
 generalize (cs[k]).lits=lits at *
 generalize enc u=J at *
 have la:Hid (lits.length ≠ 0->jB g a lits.length c=.slice (some ⟨g,a + 3,none⟩) lits.length (c - (a + 3))):=fun h=>by unfold jB;rw [if_neg (by omega)]
 obtain ⟨al,ad⟩:∃ al,jB g a lits.length c=.slice al lits.length (c - (a + 3)):=⟨_,rfl⟩;rw [ad] at QL;have AL:Hid (lits.length ≠ 0->al=some ⟨g,a + 3,none⟩):=fun h=>by
  have:=la.out h;rw [ad] at this;exact (Value.slice.inj this).1
 clear ad la;have a6:lits.length <= 1000:=by omega
 go_upto_region 3 with fail
 go_wp2_with (go_at_call 175;refine (QL.out _ (by rfl)).mono ?_;rintro e8 w8 ⟨rfl,j8,rfl⟩;simp only [])
 obtain ⟨W,hW⟩:∃ W,W=w7.drewN j8:=⟨_,rfl⟩;have S2:=hide (S1.out.later (wx:=W) (by rw [hW];exact Go.below_drewN bR _))
 rw [<- hW];clear hW S1 QL;go_loopw [5,7,8,20] (fun s5 _ _ S wr=>xS Z sb ob hb n w K f X gone (ints J) pre lev ch.length s0 lits s5 S wr) (fun _ _ _ S _=>lits.length - (intOf S).toNat)
 case atStart=>exact ⟨0,s0,f,V,X1,ai,Ro,rfl,by rw [aE.out];rfl,zl,by rw [List.take_zero];rfl,S2⟩
 case round=>
  clear S2;obtain ⟨i,s,f',V',X',B,C,rfl,rfl,bc,o,b⟩:=hrel;by_cases q:i < lits.length
  ·obtain rfl:=AL.out (by omega)
   have ax:=aW.out wr s f' V' X' B C b.out i q;have af:=aC.out wr s f' V' X' B C b.out;obtain ⟨y,hy⟩:∃ y,y=lits[i]:=⟨_,rfl⟩;rw [<- hy] at ax;have ba:y < 2 * n:=by rw [hy];exact aV.out _ (List.getElem_mem _)
   have aj:Hid (ma lev ch.length s y=(lits.take (i + 1)).foldl (ma lev ch.length) s0):=by
    unfold Hid;rw [List.take_add_one,List.getElem?_eq_getElem q,Option.toList_some,List.foldl_append,<- o.out,hy];rfl
   have QV:=hide (fun Y=>eT y Y (by omega))
   have M:y / 2 < n:=by omega
   obtain ⟨v,U⟩:∃ v,v=y / 2:=⟨_,rfl⟩;rw [<- U] at QV M;obtain ⟨aR,bg,a3,aA,ao,H,am,aI,ak,l10,a5⟩:=b.out.duo.dH.elem (k:=10) (j:=v) (by omega) b.out.Ei.n10 M
   rw [show cellOf 10=16 from rfl] at ao
   rw [b.out.Ei.t10 v M] at am;obtain rfl:=Option.some.inj am;obtain ⟨g4,c4,t4,e4,q4,r4,s4,-⟩:=b.out.duo.dH.elem (k:=4) (j:=v) (by omega) af.n4 M
   rw [show cellOf 4=10 from rfl] at q4
   rw [af.t4 v M] at s4;obtain rfl:=Option.some.inj s4;have LK:Hid (ma lev ch.length s y=if s.seen v=true\/lev v=0 then s else if lev v=ch.length then ⟨eG s.seen v true,s.je,s.opn + 1⟩ else ⟨eG s.seen v true,s.je ++ [y],s.opn⟩):=by unfold Hid ma;rw [<- U]
   have v0:(0:Int) <= (v:Int):=by omega
   have v1:(v:Int) < (n:Int):=by omega
   have a9:(0:Int) <= (i:Int):=by omega
   have a8:(i:Int) < (lits.length:Int):=by omega
   clear hy U e4;by_cases d:s.seen v=true\/lev v=0
   ·
    have R:Hid (∀ G,G=.int .i64 ((i + 1:Nat):Int)->xS Z sb ob hb n w K f X gone (ints J) pre lev ch.length s0 lits (.int .i64 ((s.opn:Nat):Int)) G wr):=fun G I=>⟨i + 1,s,f',V',X',B,C,I,rfl,q,by rw [<- aj.out,LK.out,if_pos d];rfl,b⟩
    rcases d with hs | hs
    ·rw [hs] at H;clear b LK;go_wp2_with (go_at_call 176;refine (QV.out _).mono ?_;rintro e9 w9 ⟨rfl,rfl⟩;simp only [])
     go_roundw
     case rel=>exact R.out _ (by go_num)
     case measure=>simp [intOf];omega
    ·rw [hs] at r4;by_cases aa:s.seen v=true
     ·rw [aa] at H;clear b LK;go_wp2_with (go_at_call 176;refine (QV.out _).mono ?_;rintro e9 w9 ⟨rfl,rfl⟩;simp only [])
      go_roundw
      case rel=>exact R.out _ (by go_num)
      case measure=>simp [intOf];omega
     ·rw [Bool.not_eq_true] at aa;rw [aa] at H;clear b LK;go_wp2_with (go_at_call 176;refine (QV.out _).mono ?_;rintro e9 w9 ⟨rfl,rfl⟩;simp only [])
      go_roundw
      case rel=>exact R.out _ (by go_num)
      case measure=>simp [intOf];omega
   ·
    have av:s.seen v=false:=by
     cases e:s.seen v with
     | false=>rfl
     | true=>exact absurd (.inl e) d
    have ab:lev v ≠ 0:=fun e=>d (.inr e)
    rw [av] at H;have S3:=hide (b.out.mark M aA ak s.opn);have C3:Hid (s.je.length + 1 <= 1001):=by
     unfold Hid;have hh:∀ (l:List Nat) (t:Lk),(l.foldl (ma lev ch.length) t).je.length <= t.je.length + l.length:=by
      intro l
      induction l with
      | nil=>intro t;simp
      | cons z l ih=>
       intro t;have h1:=ih (ma lev ch.length t z);have h2:(ma lev ch.length t z).je.length <= t.je.length + 1:=by
        unfold ma;split
        ·omega
        ·split <;> simp
       simp only [List.foldl_cons,List.length_cons];omega
     have:=hh (lits.take i) s0;rw [<- o.out,List.length_take] at this;omega
    have aY:((lev v:Int) == 0)=false:=by simp;omega
    have O:Hid (ma lev ch.length s y=if lev v=ch.length then ⟨eG s.seen v true,s.je,s.opn + 1⟩ else ⟨eG s.seen v true,s.je ++ [y],s.opn⟩):=by unfold Hid;rw [LK.out,if_neg d]
    have aJ:Hid (s.opn <= 1000):=by
     unfold Hid;have hh:∀ (l:List Nat) (t:Lk),(l.foldl (ma lev ch.length) t).opn <= t.opn + l.length:=by
      intro l
      induction l with
      | nil=>intro t;simp
      | cons z l ih=>
       intro t;have h1:=ih (ma lev ch.length t z);have h2:(ma lev ch.length t z).opn <= t.opn + 1:=by
        unfold ma;split
        ·omega
        ·split <;> simp
       simp only [List.foldl_cons,List.length_cons];omega
     have:=hh (lits.take i) s0;rw [<- o.out,List.length_take,aE.out] at this;omega
    clear b LK d aA av af;go_upto_region 9 with (go_at_call 176;refine (QV.out _).mono ?_;rintro e9 w9 ⟨rfl,rfl⟩;simp only [])
    generalize aQ:w9.setCell ⟨aR,v,none⟩ (.bool true)=W3 at S3 ⊢;clear aQ ao H aI q4 r4 ax;have QO:=hide (Oc S3.out.duo.ord M hn);have an:=(S3.out.duo.dH.head 12 (by omega)).1
    rw [S3.out.duo.f12] at an;have US:=hide (fun wx ho hc=>S3.out.used (wx:=wx) ho hc)
    clear S3;go_upto_region 10 with (go_at_call 217;refine QO.out.mono ?_;rintro eA wA ⟨rfl,az,au⟩;have S4:=hide (US.out wA au az);clear az au;simp only [])
    have N:=aC.out _ _ _ _ _ _ _ S4.out;obtain ⟨be,bf,t4,e4,q4,r4,s4,-⟩:=S4.out.duo.dH.elem (k:=4) (j:=v) (by omega) N.n4 M
    rw [show cellOf 4=10 from rfl] at q4
    rw [N.t4 v M] at s4;obtain rfl:=Option.some.inj s4;obtain ⟨a2,c2,e2⟩:=S4.out.duo.dH.eO.shape (k:=2) (by have:=S4.out.duo.dH.hK;omega)
    have q2:=(S4.out.duo.dH.hd (k:=2) (by omega)).1
    rw [show cellOf 2=8 from rfl,e2,N.l2,df] at q2
    have QD:Hid (∀ j,Calls Tryz.prog 99 #[.pointer (some ⟨sb,6,none⟩)] (wA.drewN j) fun e w'=>e=.returned (.int .i64 (ch.length:Nat))/\w'=wA.drewN j):=fun j=>ny sb 6 ch.length c2 (wA.drewN j) a2 q2
    clear e4 e2 N QO US an;go_quiet ((go_at_call 99;exact Calls.quiet_of_same (QD.out _)))
    obtain ⟨P,ae⟩:∃ P,P=wA.drewN nq:=⟨_,rfl⟩;have x:=hide (S4.out.later (wx:=P) (by rw [ae];exact Go.below_drewN bR _))
    rw [<- ae];clear ae S4 q4 r4 q2 QD;by_cases hd:lev v=ch.length
    ·have R:Hid (∀ so G,so=.int .i64 ((s.opn + 1:Nat):Int)->G=.int .i64 ((i + 1:Nat):Int)->xS Z sb ob hb n w K f X gone (ints J) pre lev ch.length s0 lits so G P):=fun so G aO I=>⟨i + 1,⟨eG s.seen v true,s.je,s.opn + 1⟩,_,_,_,_,_,I,aO,q,by rw [<- aj.out,O.out,if_pos hd];rfl,x.out.opn _⟩
     have aP:((lev v:Int) == (ch.length:Int))=true:=by simp [hd]
     have a4:(s.opn:Int) + 1 <= 1001:=by have:=aJ.out;omega
     clear x hd O;go_wp2;go_roundw
     case rel=>exact R.out _ _ (by go_num) (by go_num)
     case measure=>simp [intOf];omega
    ·have aP:((lev v:Int) == (ch.length:Int))=false:=by simp;omega
     obtain ⟨a7,c7,e7⟩:=x.out.duo.dH.eO.shape (k:=7) (by have:=x.out.duo.dH.hK;omega)
     have l7:∀ ah:Nat->List Value,Ig n ah pre (eG s.seen v true) s.je->(ah 7).length=s.je.length + 1:=fun ah h=>by rw [h.l7];simp [df]
     have L:=l7 _ x.out.Ei;have q7:=(x.out.duo.dH.hd (k:=7) (by omega)).1
     rw [show cellOf 7=15 from rfl,e7,L] at q7
     have O7:=x.out.duo.dH.eO.own 7 (by have:=x.out.duo.dH.hK;omega)
     rw [e7,L] at O7;have aF:=hide O7;have E7:=hide e7;have L7:=hide L;have aX:=x.out.duo.dH.row.lt;have ns:¬ (sb=P.heap.size):=by omega
     have c3:=C3.out;have aD:=hide (fun obj v' w6 A=>x.out.push (obj:=obj) (v':=v') (w6:=w6) (y:=y) A s.opn)
     have aG:=hide (fun obj v' w6 A=>x.out.duo.dH.jR (k:=7) (ob:=obj) (v':=v') (w6:=w6) (m:=1) (news:=[.int .i64 (y:Nat)]) (by have:=x.out.duo.dH.hK;omega) A 15 (by omega))
     have R:Hid (∀ f6 V6 X6 R6 O6 W6,fq Z sb ob hb n w K f X gone (ints J) pre ⟨eG s.seen v true,s.je ++ [y],s.opn⟩ f6 V6 X6 R6 O6 W6->∀ G,G=.int .i64 ((i + 1:Nat):Int)->xS Z sb ob hb n w K f X gone (ints J) pre lev ch.length s0 lits (.int .i64 ((s.opn:Nat):Int)) G W6):=fun f6 V6 X6 R6 O6 W6 hs G I=>⟨i + 1,⟨eG s.seen v true,s.je ++ [y],s.opn⟩,f6,V6,X6,R6,O6,I,rfl,q,by rw [<- aj.out,O.out,if_neg hd];rfl,hs⟩
     clear x hd O O7 e7 l7 L;go_wp2_with (at_builtin;refine dR _ rfl _ _ 43 rfl 0 3 i0 (.int .i64 0) 1 8 Tryz.underlying43 hi aM aL aK rfl (by decide) _ _ _ rfl (aF.out.alloc (.cells #[.int .i64 (y:Int)] 3)) (.slice (some ⟨P.heap.size,0,none⟩) 1 1) 1 [.int .i64 (y:Int)] rfl (.inr ⟨⟨P.heap.size,0,none⟩,1,rfl,World.news_of_block (cs:=#[.int .i64 (y:Int)]) (t:=3) (fr:=(0,0)) (heap_alloc_new P _)⟩) rfl (by simp [Value.oneCell']) (by unfold maxLen;omega) (by omega) zl ?_)
     intro v6 w6 A6;have A7:=A6;rw [<- L7.out,<- E7.out] at A7;obtain ⟨k6,z6⟩:=aG.out _ _ _ A7;have S6:=hide (aD.out _ _ _ A7);obtain ⟨a1,a0,aN⟩:=dG A6.own;subst aN;have aU:=hide (R.out _ _ _ _ _ _ S6.out);clear A6 A7 S6 aD aG aF R;go_wp2;go_roundw
     case rel=>exact aU.out _ (by go_num)
     case measure=>simp [intOf];omega
  ·have ei:i=lits.length:=by omega
   have FR:=hide (aT.out (.returned (.int .i64 ((s.opn:Nat):Int))) wr f' V' X' B C (by rw [o.out,ei,List.take_length]) (by have:=b.out;rw [o.out,ei,List.take_length] at this;exact this))
   clear b o;go_wp2;exact FR.out
end
theorem sS (z:Value) (n:Nat):Builtin.zeroCells #[z] n=(List.replicate n z).toArray:=by
 unfold Builtin.zeroCells;apply Array.ext
 ·simp
 ·intro i b a;simp [Nat.mod_one]
theorem LD {P:Program} {w:World} {ot:TypeId} (t:TypeId) (elem:TypeId) (p:P.underlying t=some (.slice elem)) (i:TypeInfo) (hi:P.info? elem=some i) (z:Value) (m:i.zero=some z) (h:z.cells=#[z]) (r:z.oneCell'=true)
  (g n cap:Nat) (a:Array Value) (c:TypeId) (l:w.heap[g]? = some (.cells a c (0,0))) (b:n + 1 <= a.size):
  ∃ w',(Builtin.clear_ #[t] ot #[.slice (some ⟨g,0,none⟩) (n + 1) cap]).run P w=.ok (.tuple #[]) w'/\w'.heap[g]? = some (.cells (splice a.toList 0 (List.replicate (n + 1) z)).toArray c (0,0))/\(∀ k,k ≠ g->w'.heap[k]? = w.heap[k]?)/\Below 0 w w':=by
 have j:=run_storeCells_at P g 0 c (List.replicate (n + 1) z) 0 a w l (by simpa using b) (fun v o=>by rw [List.eq_of_mem_replicate o];exact r)
 have d:(zeroValue elem).run P w=.ok z w:=by simp [zeroValue,typeInfo,hi,m]
 refine ⟨w.setRow g (splice a.toList 0 (List.replicate (n + 1) z)).toArray,?_,setRow_heap w g _ _ c _ l,fun k q=>setRow_other w g k _ (fun e=>q (by first | exact e | exact e.symm)),below_setRow bR zl _⟩
 simp only [Builtin.clear_];simp [run_underlying p,d,h,sS,Result.andThen];rw [j];simp [splice,Result.andThen]
theorem EH {P:Program} {w:World} {ot:TypeId} (t:TypeId) (elem:TypeId) (p:P.underlying t=some (.slice elem)) (i:TypeInfo) (hi:P.info? elem=some i) (z:Value) (m:i.zero=some z) (h:z.cells=#[z]) (r:z.oneCell'=true)
  (g off n cap:Nat) (a:Array Value) (c:TypeId) (l:w.heap[g]? = some (.cells a c (0,0))) (b:off + (n + 1) <= a.size):
  ∃ w',(Builtin.clear_ #[t] ot #[.slice (some ⟨g,off,none⟩) (n + 1) cap]).run P w=.ok (.tuple #[]) w'/\w'.heap[g]? = some (.cells (splice a.toList off (List.replicate (n + 1) z)).toArray c (0,0))/\(∀ k,k ≠ g->w'.heap[k]? = w.heap[k]?)/\Below 0 w w':=by
 have j:=run_storeCells_at P g off c (List.replicate (n + 1) z) 0 a w l (by simpa using b) (fun v o=>by rw [List.eq_of_mem_replicate o];exact r)
 have d:(zeroValue elem).run P w=.ok z w:=by simp [zeroValue,typeInfo,hi,m]
 refine ⟨w.setRow g (splice a.toList off (List.replicate (n + 1) z)).toArray,?_,setRow_heap w g _ _ c _ l,fun k q=>setRow_other w g k _ (fun e=>q (by first | exact e | exact e.symm)),below_setRow bR zl _⟩
 simp only [Builtin.clear_];simp [run_underlying p,d,h,sS,Result.andThen];rw [j];simp [splice,Result.andThen]
section
def fH (cs cs':List Rec):Prop:=cs'.length=cs.length/\∀ k (h:k < cs.length) (h':k < cs'.length),(cs'[k]).kind=(cs[k]).kind/\(cs'[k]).lits=(cs[k]).lits
theorem fH.refl (cs:List Rec):fH cs cs:=⟨rfl,fun _ _ _=>⟨rfl,rfl⟩⟩
theorem fH.trans {a b c:List Rec} (h:fH a b) (e:fH b c):fH a c:=⟨e.1.trans h.1,fun k d p=>by
 have hb:k < b.length:=by rw [h.1];exact d
 obtain ⟨o,m⟩:=h.2 k d hb;obtain ⟨l,j⟩:=e.2 k hb p;exact ⟨l.trans o,j.trans m⟩⟩
theorem fH.set {cs:List Rec} {k:Nat} (a:k < cs.length) (b:Int):fH cs (cs.set k ⟨(cs[k]).kind,b,(cs[k]).lits⟩):=⟨by simp,fun j h c=>by
 by_cases e:k=j
 ·subst e;rw [List.getElem_set_self];exact ⟨rfl,rfl⟩
 ·rw [List.getElem_set_ne e];exact ⟨rfl,rfl⟩⟩
theorem fH.dw {cs cs':List Rec} (h:fH cs cs'):∀ k,k <= cs.length->dw cs' k=dw cs k
 | 0,_=>by rw [jP,jP]
 | k + 1,hk=>by
  have a:k < cs'.length:=by rw [h.1];exact hk
  rw [gG a,gG (show k < cs.length from hk),h.dw k (by omega),(h.2 k hk a).2]
theorem fH.len {cs cs':List Rec} (h:fH cs cs'):(enc cs').length=(enc cs).length:=by
 rw [<- iD lr,<- iD (cs:=cs) lr,h.1];exact h.dw _ lr
theorem fH.map {cs cs':List Rec} (h:fH cs cs'):mapOf cs'=mapOf cs:=by
 funext a
 cases l:mapOf cs a with
 | none=>
  cases o:mapOf cs' a with
  | none=>rfl
  | some d=>
   obtain ⟨k,e,j,_⟩:=dO o;have b:k < cs.length:=by rw [<- h.1];exact e
   rw [h.dw k (Nat.le_of_lt b)] at j;rw [j,dP b] at l;cases l
 | some c=>
  obtain ⟨k,e,j,m⟩:=dO l;have b:k < cs'.length:=by rw [h.1];exact e
  have:=dP b;rw [h.dw k (Nat.le_of_lt e),<- j,(h.2 k e b).1,(h.2 k e b).2] at this;rw [this,m]
theorem fH.nW {cs cs':List Rec} (h:fH cs cs'):nW cs'=nW cs:=by
 have:∀ (a b:List Rec),fH a b->So.nW b=So.nW a:=by
  intro a
  induction a with
  | nil=>intro b h;have:b=[]:=List.eq_nil_of_length_eq_zero (by rw [h.1];rfl);subst this;rfl
  | cons c r ih=>
   intro b h
   match b,h with
   | [],h=>have:=h.1;simp at this
   | c' :: r',h=>
    obtain ⟨e,d⟩:=h.2 0 (by simp) (by simp)
    simp only [List.getElem_cons_zero] at e d;have j:fH r r':=⟨by have:=h.1;simpa using this,fun k m l=>by
     have:=h.2 (k + 1) (by simpa using m) (by simpa using l)
     simpa using this⟩
    have:=ih r' j;unfold So.nW at this ⊢;simp only [List.filter_cons,e];split
    ·simp only [List.map_cons,d,this]
    ·exact this
 exact this cs cs' h
structure Il (Z:Nat->Prop) (sb ob hb n:Nat) (w:World) (K:Nat) (f:Nat->Value) (X:Nat->List Value) (gone:Nat->Prop) (cs:List Rec) (tr ch:List Nat) (lev:Nat->Nat) (rea:Nat->Int) (last:Nat) (c0:List Nat) (i:Nat) (s:Lk) (cs':List Rec) (f' V':Nat->Value) (X':Nat->List Value) (Rs Ro:Nat->Prop) (wr:World):Prop where
 ex:xU tr ch lev (jf (mapOf cs) rea) last c0 i s
 look:fq Z sb ob hb n w K f X gone (ints (enc cs')) (-1) s f' V' X' Rs Ro wr
 busy:fH cs cs'
def JZ (Z:Nat->Prop) (sb ob hb n:Nat) (w:World) (K:Nat) (f:Nat->Value) (X:Nat->List Value) (gone:Nat->Prop) (cs:List Rec) (tr ch:List Nat) (lev:Nat->Nat) (rea:Nat->Int) (last:Nat) (c0:List Nat) (s4 s5:Value) (wr:World):Prop:=
 ∃ (i:Nat) (s:Lk) (cs':List Rec) (f' V':Nat->Value) (X':Nat->List Value) (Rs Ro:Nat->Prop),s5=.int .i64 ((i:Nat):Int)/\s4=.int .i64 ((s.opn:Nat):Int)/\Hid (Il Z sb ob hb n w K f X gone cs tr ch lev rea last c0 (i + 1) s cs' f' V' X' Rs Ro wr)
def wD (Z:Nat->Prop) (sb ob hb n:Nat) (w:World) (K:Nat) (f:Nat->Value) (X:Nat->List Value) (gone:Nat->Prop) (cs:List Rec) (tr ch:List Nat) (lev:Nat->Nat) (rea:Nat->Int) (last:Nat) (c0:List Nat) (e:Ending) (w':World):Prop:=
 e=.returned (.tuple #[])/\∃ (i:Nat) (hi:i < tr.length) (s:Lk) (cs':List Rec) (f' V':Nat->Value) (X':Nat->List Value) (Rs Ro:Nat->Prop),xU tr ch lev (jf (mapOf cs) rea) last c0 (i + 1) s/\s.seen (tr[i] / 2)=true/\s.opn=1/\fq Z sb ob hb n w K f X gone (ints (enc cs')) (op tr[i]:Nat) s f' V' X' Rs Ro w'/\fH cs cs'
variable {Z:Nat->Prop} {sb ob hb K n:Nat} {w wr wx:World} {f f' V' f2 V2:Nat->Value} {X X' X2:Nat->List Value} {gone:Nat->Prop} {Rs Ro Yr Zg:Nat->Prop} {tr ch:List Nat} {lev:Nat->Nat} {rea:Nat->Int} {cs cs':List Rec} {last i:Nat} {c0:List Nat} {s:Lk}
theorem fq.comp {E l:List Value} {pre:Int} {b:Lk} (h:fq Z sb ob hb n w K f X gone E pre s f' V' X' Rs Ro wr) (a:fq Z sb ob hb n wr K f' X' gone l pre b f2 V2 X2 Yr Zg wx):fq Z sb ob hb n w K f X gone l pre b f2 V2 X2 Yr Zg wx:=
 ⟨a.duo,a.x0,a.Ei,fun j k e d=>(a.only j k e d).trans (h.only j k e d),fun j c=>(a.ff j c).trans (h.ff j c),h.eP.trans a.eP,a.wk⟩
theorem Il.fin (h:Il Z sb ob hb n w K f X gone cs tr ch lev rea last c0 (i + 1) s cs' f' V' X' Rs Ro wr) (hi:i < tr.length) (d:s.seen (tr[i] / 2)=true) (e:s.opn=1) {g m c:Nat} (p:V' 7=.slice (some ⟨g,0,none⟩) m c) (b:zz Rs wr g):
  wD Z sb ob hb n w K f X gone cs tr ch lev rea last c0 (.returned (.tuple #[])) (wr.setCell ⟨g,0,none⟩ (.int .i64 (op tr[i]:Nat))):=by
 have t:=h.look.duo.dH.hK;obtain ⟨r,q⟩:=h.look.duo.gM (h.look.duo.dH.set (k:=7) (by omega) p 0 (.int .i64 (op tr[i]:Nat))) ((dC.refl _).setCell b _) rfl
 refine ⟨rfl,i,hi,s,cs',f',V',_,_,_,h.ex,d,e,⟨r,by rw [cz _ _ (by decide)];exact h.look.x0,⟨by rw [cz _ _ (by decide)];exact h.look.Ei.n10,by rw [cz _ _ (by decide)];exact h.look.Ei.t10,?_⟩,fun j o a l=>by rw [cz _ _ a];exact h.look.only j o a l,h.look.ff,h.look.eP.trans q,h.look.wk.congr (cz _ _ (by decide)) fun _=>rfl⟩,h.busy⟩
 rw [cK,h.look.Ei.l7];rfl
theorem wD.later {e:Ending} (h:wD Z sb ob hb n w K f X gone cs tr ch lev rea last c0 e wr) (a:Below wr.heap.size wr wx):wD Z sb ob hb n w K f X gone cs tr ch lev rea last c0 e wx:=by
 obtain ⟨m,i,b,s,cs',f',V',X',Rs,Ro,l,k,j,d,c⟩:=h;exact ⟨m,i,b,s,cs',f',V',X',Rs,Ro,l,k,j,d.later a,c⟩
theorem jN {n:Nat} {l:List Nat} (h:(l.map (· / 2)).Nodup) (c:∀ x ∈ l,x < 2 * n):l.length <= n:=by
 have:=iZ n (l.map (· / 2)) h (fun v b=>by
  obtain ⟨x,a,rfl⟩:=List.mem_map.1 b;have:=c x a;omega)
 simpa using this
theorem NJ.len {d:Nat} (h:NJ tr lev d s) (b:jm n tr ch lev):s.je.length <= n:=
 jN h.nd fun y a=>by
  have:=wO (b.lt _ ((h.je y).1 a).1)
  rwa [kr] at this
theorem dQ.Pb {V:Nat->Value} (h:dQ Z sb w K f V X) {k:Nat} (F:k < 13) {a:Option Addr} {B cap c:Nat} (t:V k=.slice a B cap) (v:c <= (X k).length) {obj:Obj} {v':Value} {w6:World} {m:Nat} {news:List Value} (D:news.length=m) (A:dB (w.alloc obj) 0 (kP k) 1 (.slice a c cap) c ((X k).take c) m news v' w6):
  dQ Z sb (w6.setCell ⟨sb,cellOf k,none⟩ v') K (upd f (cellOf k) v') (upd V k v') (upd X k ((X k).take c ++ news))/\dC Z w (w6.setCell ⟨sb,cellOf k,none⟩ v')/\∀ j,j < 22->w6.cell? ⟨sb,j,none⟩=some (f j)/\w6.frozen? ⟨sb,j,none⟩=false:=by
 have l:k < K:=by have:=h.hK;omega
 have o:=h.later ((Below.refl _ w).alloc lr obj);have z:∀ g,(Value.slice a c cap).ownBlock=some g->(V k).ownBlock=some g:=fun g b=>by rw [t];cases a <;> exact b
 have p:(Value.slice a c cap).ownBlock=(V k).ownBlock:=by rw [t];cases a <;> rfl
 have C:((X k).take c).length=c:=by rw [List.length_take];omega
 have H:=o.eO.cut l t v;have I:dB (w.alloc obj) 0 (kP k) 1 (upd V k (.slice a c cap) k) (upd X k ((X k).take c) k).length (upd X k ((X k).take c) k) m news v' w6:=by rw [cK,cK,C];exact A
 have y:=H.push l D I;rw [cK,eQ,eQ] at y;have x:=A.grew;rw [p] at x;have u:=o.row.of_block (x.block sb o.row.lt (fun e=>o.far l sb e.symm rfl))
 have r:v'.ownBlock=(V k).ownBlock\/v'.ownBlock=some (w.alloc obj).heap.size:=by
  rcases A.at' with d | d
  ·exact .inl (by rw [d,p])
  ·exact .inr d
 refine ⟨h.header F u y rfl (fun i q g b=>?_) (by have:=A.grew.size;simp at this;omega) (fun i q g b=>?_),(((dC.refl w).alloc obj).grown x (fun g b=>h.al k l g b)).setCell h.jg _,fun j G=>⟨u.cell G,u.frozen j⟩⟩
 ·by_cases e:i=k
  ·subst e;rw [cK] at b
   rcases r with d | d
   ·rw [d] at b;exact o.far q g b
   ·rw [d] at b;have:=Option.some.inj b;have:=o.row.lt;omega
  ·rw [cz _ _ e] at b;exact o.far q g b
 ·by_cases e:i=k
  ·subst e;rw [cK] at b
   rcases r with d | d
   ·rw [d] at b;exact h.al i q g b
   ·rw [d] at b;have:=Option.some.inj b;exact h.az g (by simp at this;omega)
  ·rw [cz _ _ e] at b;exact h.al i q g b
end
section
variable {Z:Nat->Prop} {sb ob hb K n:Nat} {w:World} {f V:Nat->Value} {X:Nat->List Value} {gone:Nat->Prop} {Rs Ro:Nat->Prop} {tr ch:List Nat} {lev:Nat->Nat} {rea:Nat->Int} {cs:List Rec}
theorem Tryz.Qj:(Tryz.prog.info? 4).map (fun i=>(i.zero,i.size,i.bytes))=some (some (.bool false),1,1):=by kernel_rfl
theorem Gd {t:TypeId} {z:Value} {a b:Nat} (h:(Tryz.prog.info? t).map (fun i=>(i.zero,i.size,i.bytes))=some (some z,a,b)):∃ i,Tryz.prog.info? t=some i/\i.zero=some z:=by
 cases e:Tryz.prog.info? t with
 | none=>rw [e] at h;cases h
 | some i=>rw [e] at h;exact ⟨i,rfl,(Prod.mk.inj (Option.some.inj h)).1⟩
theorem GD {k:Nat} (D:Duo Z sb ob hb n w K f V X gone Rs Ro) (hn:n <= 50) (h0:X 0=ints (enc cs)) (hk:k < cs.length) (hN:(enc cs).length <= 1099511627776) (hT:lX n X tr ch lev rea) (aq:(X 10).length=n) (hW:WK n V X)
  (ht:jm n tr ch lev) (hr:oZ (mapOf cs) tr ch rea) (hc:xk n (mapOf cs)) (hd:0 < ch.length) (hf:∀ y ∈ (cs[k]).lits,op y ∈ tr) {y0:Nat} (az:y0 ∈ (cs[k]).lits) (bm:lev (y0 / 2)=ch.length):
  Calls Tryz.prog 141 #[.pointer (some ⟨sb,0,none⟩),.int .i64 (dw cs k:Nat)] w fun e w'=>wD Z sb ob hb n w K f X gone cs tr ch lev rea ch[ch.length - 1] (cs[k]).lits e w':=by
 have av:Hid (xU tr ch lev (jf (mapOf cs) rea) ch[ch.length - 1] (cs[k]).lits tr.length ((cs[k]).lits.foldl (ma lev ch.length) ⟨fun _=>false,[],0⟩)):=xU.start ht hd hf az bm
 have a5:Hid (∀ i s,xU tr ch lev (jf (mapOf cs) rea) ch[ch.length - 1] (cs[k]).lits (i + 1) s->∀ (hi:i < tr.length),s.seen (tr[i] / 2)=true->s.opn ≠ 1->∃ a c r,rea (tr[i] / 2)=(a:Nat)/\mapOf cs a=some c/\c.lits=tr[i] :: r/\∃ more,(c.lits.foldl (ma lev ch.length) ⟨s.seen,s.je,0⟩).opn=more/\xU tr ch lev (jf (mapOf cs) rea) ch[ch.length - 1] (cs[k]).lits i ⟨(c.lits.foldl (ma lev ch.length) ⟨s.seen,s.je,0⟩).seen,(c.lits.foldl (ma lev ch.length) ⟨s.seen,s.je,0⟩).je,s.opn + more - 1⟩):=fun i s he hi hs ho=>by
  obtain ⟨a,c,r,z,h2,h3,h4,h5,h6⟩:=Cs (hr.why i hi (he.forced ht hd ho));obtain ⟨more,m1,m2⟩:=he.step ht hd hi hs ho h5 h4 h6;exact ⟨a,c,r,z,h2,h4,more,m1,m2⟩
 obtain ⟨last,p⟩:∃ last,last=ch[ch.length - 1]:=⟨_,rfl⟩;rw [<- p] at av a5 ⊢;obtain ⟨i0,hi,bh,bg,bf⟩:=info_parts Tryz.fP;obtain ⟨ib,bn,be⟩:=Gd Tryz.Qj;have hK:=D.dH.hK;have tl:=ht.len;have dl:=ht.depth;have bU:1 <= n:=by omega
 obtain ⟨n',am⟩:∃ n',n=n' + 1:=⟨n - 1,by omega⟩
 obtain ⟨af,aP,ag,d,-,q,ad⟩:=D.dH.eO.block (k:=10) (by omega) (by omega)
 have bE:n <= ag.size:=by
  have:=D.dH.eO.own 10 (by omega)
  rw [d] at this
  rcases this.2 with ⟨e,_⟩ | ⟨g',aO,aN,e,_,L,bk,_,aC,_⟩
  ·cases e
  ·cases e
   rw [q] at L;cases L;omega
 have S:=(D.dH.hd (k:=10) (by omega)).1
 rw [show cellOf 10=16 from rfl,d,aq] at S
 rw [aq] at d;have a6:Hid (∀ o,o.heap[af]? = some (.cells (splice ag.toList 0 (List.replicate (n' + 1) (.bool false))).toArray 4 (0,0))->(∀ k,k ≠ af->o.heap[k]? = w.heap[k]?)->Below 0 w o->∃ B,Duo Z sb ob hb n o K f V (upd X 10 (List.replicate n (.bool false))) gone B Ro/\dC Z w o):=fun o q1 q2 q3=>by
  obtain ⟨H,c1⟩:=D.dH.xN (k:=10) (R:=List.replicate n (.bool false)) (by omega) d (by
   rw [d,List.length_replicate];have ho:=D.dH.eO.own 10 (by omega)
   rw [d] at ho;refine ⟨by simp,?_⟩
   rcases ho.2 with ⟨e,_⟩ | ⟨g',aO,aN,e,bo,L,bk,hm,aC,bT⟩
   ·cases e
   ·cases e
    rw [q] at L;cases L
    refine .inr ⟨af,aP,_,rfl,bo,q1,by omega,hm,?_,?_⟩
    ·simp only [List.size_toArray];rw [length_splice _ _ _ (by simp;omega)]
     simpa using aC
    ·simp only [Nat.mul_one];unfold splice;rw [<- am];simp) q2 q3
  obtain ⟨d1,d2⟩:=D.gM H c1 rfl;exact ⟨_,d1,d2⟩
 have M:Hid (∀ w2 f2 V2 X2 R2 O2 (s2:Lk) G f3 V3 X3 R3 O3 w3,fq Z sb ob hb n w K f X gone (ints (enc cs)) (-1) ⟨fun _=>false,[],0⟩ f2 V2 X2 R2 O2 w2->fq Z sb ob hb n w2 K f2 X2 gone (ints (enc (cs.set k ⟨(cs[k]).kind,G,(cs[k]).lits⟩))) (-1) ((cs[k]).lits.foldl (ma lev ch.length) ⟨fun _=>false,[],0⟩) f3 V3 X3 R3 O3 w3->Il Z sb ob hb n w K f X gone cs tr ch lev rea last (cs[k]).lits tr.length ((cs[k]).lits.foldl (ma lev ch.length) ⟨fun _=>false,[],0⟩) (cs.set k ⟨(cs[k]).kind,G,(cs[k]).lits⟩) f3 V3 X3 R3 O3 w3):=fun w2 f2 V2 X2 R2 O2 s2 G f3 V3 X3 R3 O3 w3 z h2=>⟨av.out,z.comp h2,fH.set hk G⟩
 have bl:(cs[k]).lits.length <= n:=jN (hc.vars _ _ (dP hk)) (hc.lt _ _ (dP hk));have ai:∀ y ∈ (cs[k]).lits,y < 2 * n:=hc.lt _ _ (dP hk);have aT:Hid (∀ w2 f2 V2 X2 R2 O2,fq Z sb ob hb n w K f X gone (ints (enc cs)) (-1) ⟨fun _=>false,[],0⟩ f2 V2 X2 R2 O2 w2->Calls Tryz.prog 182 #[.pointer (some ⟨sb,0,none⟩),.int .i64 (dw cs k:Nat)] w2 fun e w'=>xR Z sb ob hb n w2 K f2 X2 gone cs k (cs[k]).kind (-1) lev ch.length ⟨fun _=>false,[],0⟩ (cs[k]).lits e w'):=fun w2 f2 V2 X2 R2 O2 z=>Fy z.duo hn z.x0 hk hN (hT.congr fun j h2 h3=>z.only j (by omega) (by omega) (by omega)) z.Ei rfl ai (by omega) (by simp;omega) z.wk
 have N:Hid (∀ o B,Duo Z sb ob hb n o K f V (upd X 10 (List.replicate n (.bool false))) gone B Ro->dC Z w o->∃ Q O m7,o.cell? ⟨sb,15,none⟩=some (.slice Q m7 O)/\m7=(X 7).length/\o.ownsRow 0 3 1 (.slice Q 0 O) 0 []/\sb < o.heap.size/\∀ aj v' w6,dB (o.alloc aj) 0 3 1 (.slice Q 0 O) 0 [] 1 [.int .i64 (-1)] v' w6->(w6.cell? ⟨sb,15,none⟩=some (.slice Q m7 O)/\w6.frozen? ⟨sb,15,none⟩=false)/\∃ f2 V2 X2 R2,fq Z sb ob hb n w K f X gone (ints (enc cs)) (-1) ⟨fun _=>false,[],0⟩ f2 V2 X2 R2 Ro (w6.setCell ⟨sb,15,none⟩ v')):=fun o B D1 C1=>by
  obtain ⟨Q,O,e7⟩:=D1.dH.eO.shape (k:=7) (by omega)
  rw [cz _ _ (by decide)] at e7
  have q7:=(D1.dH.hd (k:=7) (by omega)).1
  rw [show cellOf 7=15 from rfl,e7] at q7
  have ow:=(D1.dH.eO.cut (k:=7) (by omega) e7 (m:=0) zl).own 7 (by omega)
  rw [cK,cK,List.take_zero] at ow;refine ⟨Q,O,_,q7,rfl,ow,D1.dH.row.lt,fun aj v' w6 A=>?_⟩
  have A':dB (o.alloc aj) 0 (kP 7) 1 (.slice Q 0 O) 0 ((upd X 10 (List.replicate n (.bool false)) 7).take 0) 1 [.int .i64 (-1)] v' w6:=by rw [List.take_zero];exact A
  obtain ⟨p1,p2,p3⟩:=D1.dH.Pb (k:=7) (by omega) e7 zl (m:=1) (news:=[.int .i64 (-1)]) rfl A'
  obtain ⟨d1,d2⟩:=D1.gM p1 p2 (cz _ _ (by decide))
  have q6:=p3 15 (by omega)
  have aF:f 15=.slice Q (X 7).length O:=by
   have:=D1.dH.hdr 7 (by omega)
   rw [e7] at this;exact this
  rw [aF] at q6;refine ⟨q6,_,_,_,_,⟨d1,by rw [cz _ _ (by decide),cz _ _ (by decide)];exact h0,⟨by rw [cz _ _ (by decide),cK];simp,fun v hv=>by rw [cz _ _ (by decide),cK,List.getElem?_replicate,if_pos hv],by rw [cK,List.take_zero];rfl⟩,fun j z h2 h3=>by rw [cz _ _ h2,cz _ _ h3],fun j hj=>cz _ _ hj,C1.trans d2,hW.congr (by rw [cz _ _ (by decide),cz _ _ (by decide)]) fun x=>cz _ _ (by omega)⟩⟩
 have aZ:=hide q;have aV:=hide (ht.len);have HR:=hide hr;have aW:=hide ht;have a0:=hide hc;have bu:=hide hT;have bY:=hide am;have ap:n' + 1 <= ag.size:=by omega
 rw [am] at S;generalize aL:wD Z sb ob hb n w K f X gone cs tr ch lev rea last (cs[k]).lits=RR;have aY:=hide aL;have bw:=hide p;clear D aq hW d ad q hr ht hc hT hf az h0 aL ai av p;obtain ⟨W1,aD,H1,H2,H3⟩:=LD (P:=Tryz.prog) (w:=w) (ot:=0) 26 4 Tryz.underlying26 ib bn (.bool false) be rfl rfl af n' aP ag 4 aZ.out ap;obtain ⟨B,aH,aJ⟩:=a6.out W1 H1 H2 H3;obtain ⟨Q,O,m7,q7,-,ay,bJ,a8⟩:=N.out W1 B aH aJ;have aU:=hide ay;have a2:=hide a8;have bL:¬ (sb=W1.heap.size):=by omega
 clear aH aJ H1 H2 H3 a6 N ay a8;go_enter Tryz.func141,Tryz.ntmps141
 go_upto_region 1 with fail
 go_wp2_with (at_builtin;refine dR _ rfl _ _ 43 rfl 0 3 i0 (.int .i64 0) 1 8 Tryz.underlying43 hi bh bg bf rfl (by decide) (.slice Q 0 O) 0 [] rfl (aU.out.alloc (.cells #[.int .i64 (-1)] 3)) (.slice (some ⟨W1.heap.size,0,none⟩) 1 1) 1 [.int .i64 (-1)] rfl (.inr ⟨⟨W1.heap.size,0,none⟩,1,rfl,World.news_of_block (cs:=#[.int .i64 (-1)]) (t:=3) (fr:=(0,0)) (heap_alloc_new W1 _)⟩) rfl (by simp [Value.oneCell']) (by unfold maxLen;omega) (by omega) zl ?_)
 intro v6 w6 A6;obtain ⟨⟨q6,z6⟩,f2,V2,X2,R2,ae⟩:=a2.out _ _ _ A6;obtain ⟨bb,ba,bi⟩:=dG A6.own;subst bi;have L2:=hide ae;have C:=hide (aT.out _ _ _ _ _ _ ae);have ar:=hide (fun s2 G f3 V3 X3 R3 O3 w3=>M.out _ _ _ _ _ _ s2 G f3 V3 X3 R3 O3 w3 ae)
 clear A6 ae a2 aU aT M q7 aD;go_upto_region 2 with fail
 generalize bp:w6.setCell ⟨sb,15,none⟩ (.slice bb (0 + 1) ba)=W2 at *
 clear bp q6 z6;generalize aB:(cs[k]).lits.foldl (ma lev ch.length) ⟨fun _=>false,[],0⟩=s0 at ar
 have au:=hide aB;clear aB;go_upto_region 3 with (go_at_call 182;refine C.out.mono ?_;rintro e7 w7 ⟨G,f3,V3,X3,R3,O3,rfl,ao⟩;rw [au.out] at ao;rw [au.out];have E3:=hide (ar.out s0 G f3 V3 X3 R3 O3 w7 ao);clear ao;simp only [])
 have aQ:Hid (∀ wr s cs' i f' V' X' Rs Ro,Il Z sb ob hb n w K f X gone cs tr ch lev rea last (cs[k]).lits i s cs' f' V' X' Rs Ro wr->lX n X' tr ch lev rea):=fun wr s cs' i f' V' X' aR aS b=>bu.out.congr fun j z h2=>b.look.only j (by omega) (by omega) (by omega)
 obtain ⟨j0,ac,-⟩:=E3.out.ex.more;have aK:=aQ.out _ _ _ _ _ _ _ _ _ E3.out;obtain ⟨a1,c1,e1⟩:=E3.out.look.duo.dH.eO.shape (k:=1) (by omega)
 have q1:=(E3.out.look.duo.dH.hd (k:=1) (by omega)).1
 rw [show cellOf 1=6 from rfl,e1,aK.l1,df,ac] at q1
 rw [ac] at E3;have bN:(j0:Int) + 1 <= 50:=by have:=aV.out;omega
 have bZ:=hide ac;clear C ar L2 e1 aK ac tl;go_wp2_with fail
 generalize bF:(cs[k]).lits=c0 at *
 go_loopw [4,5,6,7,8] (fun s4 s5 _ _ _ wr=>JZ Z sb ob hb n w K f X gone cs tr ch lev rea last c0 s4 s5 wr) (fun _ s5 _ _ _ _=>(intOf s5).toNat)
 case atStart=>exact ⟨j0,s0,_,f3,V3,X3,R3,O3,by go_num,rfl,E3⟩
 case round=>
  clear E3 q1 au;obtain ⟨i,s,cs',f',V',X',aR,aS,rfl,rfl,b⟩:=hrel;have bD:=b.out.ex.YV;have J:i < tr.length:=by omega
  have l:=aQ.out _ _ _ _ _ _ _ _ _ b.out;have l1:(X' 1).length=tr.length:=by rw [l.l1,df]
  obtain ⟨g1,bX,t1,e1,q1,r1,H,-⟩:=b.out.look.duo.dH.elem (k:=1) (j:=i) (by omega) l1 J
  rw [show cellOf 1=6 from rfl] at q1
  rw [l.l1,iK _ _ J] at H;obtain rfl:=Option.some.inj H;obtain ⟨x,hx⟩:∃ x,x=tr[i]:=⟨_,rfl⟩;rw [<- hx] at r1;have bS:x < 2 * n:=by rw [hx];exact aW.out.lt _ (List.getElem_mem _)
  have QV:=hide (fun Y=>eT x Y (by omega))
  obtain ⟨v,ak⟩:∃ v,v=x / 2:=⟨_,rfl⟩;have hv:v < n:=by omega
  rw [<- ak] at QV;have ah:Hid (tr[i] / 2=v):=by unfold Hid;rw [ak,hx]
  have HX:=hide hx;obtain ⟨bG,bH,bI,d,S,ax,aw,-⟩:=b.out.look.duo.dH.elem (k:=10) (j:=v) (by omega) b.out.look.Ei.n10 hv
  rw [show cellOf 10=16 from rfl] at S
  rw [b.out.look.Ei.t10 v hv] at aw;obtain rfl:=Option.some.inj aw;have bQ:(0:Int) <= (i:Int):=by omega
  have bP:(i:Int) < (tr.length:Int):=by omega
  have bO:(i:Int) <= 50:=by have:=aV.out;omega
  have v0:(0:Int) <= (v:Int):=by omega
  have v1:(v:Int) < (n:Int):=by omega
  clear hx ak e1 d l1;by_cases u:s.seen v=true
  ·rw [u] at ax;by_cases aa:s.opn=1
   ·
    have l7:(X' 7).length=s.je.length + 1:=by rw [b.out.look.Ei.l7];simp [df]
    obtain ⟨g7,bW,t7,e7,q7,r7,s7,z7,a9,bM,n7⟩:=b.out.look.duo.dH.elem (k:=7) (j:=0) (by omega) l7 (by omega)
    rw [show cellOf 7=15 from rfl] at q7
    have a4:=hide (b.out.fin J (by rw [ah.out];exact u) aa e7 a9)
    rw [aY.out,<- HX.out] at a4;have a3:Hid (∀ W,Below (wr.setCell ⟨g7,0,none⟩ (.int .i64 (op x:Nat))).heap.size (wr.setCell ⟨g7,0,none⟩ (.int .i64 (op x:Nat))) W->RR (.returned (.tuple #[])) W):=fun W hW=>by
     have:=a4.out;rw [<- aY.out] at this ⊢;exact this.later hW
    have br:=hide (fun Y=>kG x Y (by omega))
    have bA:(0:Int) < (s.je.length:Int) + 1:=by omega
    rw [aa];clear b e7 s7 l7 l;generalize op x=ox at *
    go_upto_region 9 with (go_at_call 176;refine (QV.out _).mono ?_;rintro e9 w9 ⟨rfl,rfl⟩;simp only [])
    go_region_with (go_at_call 139;refine (br.out _).mono ?_;rintro eA wA ⟨rfl,rfl⟩;simp only [])
    all_goals
     go_wp2
     first | go_end0 | refine bodyPost_ret (results_none rfl _ _ _) rfl ?_
     exact a3.out _ bR.drew
   ·
    have aG:=a5.out i s (by have:=b.out.ex;exact this) J (by rw [ah.out];exact u) aa
    obtain ⟨a,c,rr,ha,hC,aI,more,ab,h⟩:=aG;rw [<- bw.out] at h;obtain ⟨m,hm,-⟩:=h.more;rw [<- b.out.busy.map] at hC;obtain ⟨k',aE,rfl,rfl⟩:=dO hC;simp only at aI ab h;rw [ah.out] at ha;have aM:(enc cs').length <= 1099511627776:=by rw [b.out.busy.len];exact hN
    have I:∀ y ∈ (cs'[k']).lits,y < 2 * n:=fun y hy=>a0.out.lt _ _ (by rw [<- b.out.busy.map];exact hC) y hy
    have bV:(cs'[k']).lits.length <= n:=jN (a0.out.vars _ _ (by rw [<- b.out.busy.map];exact hC)) I
    have bC:=b.out.ex.lk.len aW.out;have C:=hide (Fy (k:=k') (s0:=⟨s.seen,s.je,0⟩) b.out.look.duo hn b.out.look.x0 aE aM l b.out.look.Ei rfl I (by omega) (by simp only;omega) b.out.look.wk)
    obtain ⟨g5,c5,t5,e5,q5,r5,s5,-⟩:=b.out.look.duo.dH.elem (k:=5) (j:=v) (by omega) l.n5 hv
    rw [show cellOf 5=11 from rfl] at q5
    rw [l.t5 v hv,ha] at s5;obtain rfl:=Option.some.inj s5;generalize aA:(cs'[k']).lits.foldl (ma lev ch.length) ⟨s.seen,s.je,0⟩=H at C ab h;have aX:=hide aA;have NX:Hid (∀ (G:Int) f4 V4 X4 R4 O4 w4,fq Z sb ob hb n wr K f' X' gone (ints (enc (cs'.set k' ⟨(cs'[k']).kind,G,(cs'[k']).lits⟩))) (-1) H f4 V4 X4 R4 O4 w4->∀ so sv,so=.int .i64 ((s.opn + more - 1:Nat):Int)->sv=.int .i64 ((m:Nat):Int)->JZ Z sb ob hb n w K f X gone cs tr ch lev rea last c0 so sv w4):=fun G f4 V4 X4 R4 O4 w4 hL so sv bj al=>⟨m,⟨H.seen,H.je,s.opn + more - 1⟩,_,f4,V4,X4,R4,O4,al,bj,by rw [hm] at h;exact h,(b.out.look.comp hL).opn _,b.out.busy.trans (fH.set aE G)⟩
    have im:(i:Int) - 1=(m:Int):=by omega
    have mi:m < i:=by omega
    have bB:=b.out.ex.pos;have bK:s.opn <= 51:=by
     rw [b.out.ex.cnt];have:lW tr last (i + 1) s.seen <= i + 1:=by
      unfold lW;have:=List.length_filter_le (fun j=>decide (last <= j) && s.seen (vr tr j)) (List.range (i + 1))
      simpa using this
     omega
    have bx:s.opn + more - 1 <= 51:=by
     have z:=h.cnt;have:lW tr last i H.seen <= i:=by
      unfold lW;have:=List.length_filter_le (fun j=>decide (last <= j) && H.seen (vr tr j)) (List.range i)
      simpa using this
     simp only at z;omega
    have om:Hid ((s.opn:Int) + ((more:Int) - 1)=((s.opn + more - 1:Nat):Int)):=by unfold Hid;omega
    have o1:((s.opn:Int) == 1)=false:=by simp;omega
    have bd:(0:Int) <= (more:Int):=by omega
    have bc:(more:Int) <= 52:=by omega
    have bv:Hid (H.opn=more):=ab;clear b h hm l hC aI aA I aM aa ha e5 ab;go_upto_region 11 with (first
     |(go_at_call 176;refine (QV.out _).mono ?_;rintro e9 w9 ⟨rfl,rfl⟩;simp only [])
     |(go_at_call 182;refine C.out.mono ?_;rintro eA wA ⟨bq,f4,V4,X4,R4,O4,rfl,an⟩;rw [aX.out] at an;rw [aX.out,bv.out];have bt:=hide (NX.out bq f4 V4 X4 R4 O4 wA an);clear an;simp only []))
    clear C NX;go_wp2;go_roundw
    case rel=>exact bt.out _ _ (by rw [<- om.out]) (by go_num)
    case measure=>simp [intOf];omega
  ·rw [Bool.not_eq_true] at u;rw [u] at ax;have U:=b.out.ex.skip (by rw [wG J,ah.out];exact u)
   obtain ⟨m,hm,-⟩:=U.more;have NX:Hid (∀ sv,sv=.int .i64 ((m:Nat):Int)->JZ Z sb ob hb n w K f X gone cs tr ch lev rea last c0 (.int .i64 ((s.opn:Nat):Int)) sv wr):=fun sv al=>⟨m,s,cs',f',V',X',aR,aS,al,rfl,by rw [hm] at U;exact U,b.out.look,b.out.busy⟩
   have im:(i:Int) - 1=(m:Int):=by omega
   have mi:m < i:=by omega
   clear b U hm l;go_wp2_with (go_at_call 176;refine (QV.out _).mono ?_;rintro e9 w9 ⟨rfl,rfl⟩;simp only [])
   go_roundw
   case rel=>exact NX.out _ (by go_num)
   case measure=>simp [intOf];omega
end
end
end So
end Go.Proofs.YtceahffmenbibaaGreatDoor
