/- Shw5 Sduo Suse Slok Scle. -/
import Derived.Test.YtceahffmenbibaaGreatDoorG08
import Derived.Test.YtceahffmenbibaaGreatDoorG01
import Derived.Test.YtceahffmenbibaaGreatDoorG02
set_option linter.unusedVariables false
set_option linter.unusedSimpArgs false
namespace Go.Proofs.YtceahffmenbibaaGreatDoor
namespace So
open Go Go.RowKit Go.Deep Rd
variable {Z:Nat→Prop} {ob hb:Nat} {w w':World} {wt:Int} {V:Nat→Value} {X:Nat→List Value} {n g:Nat} {items:List Nat} {pl bz:Nat→Int} {gone:Nat→Prop}
theorem OrdI.congr {gone':Nat→Prop} (h:OrdI Z ob hb n w gone) (hg:∀ v,gone v↔gone' v):OrdI Z ob hb n w gone':=by
 obtain ⟨wt,V,X,items,pl,bz,h1,h2,h3,h4⟩:=h.ex
 exact ⟨⟨wt,V,X,items,pl,bz,h1,h2,h3,fun v=>(h4 v).trans (hg v)⟩,(hg n).1 h.last⟩
set_option maxHeartbeats 2000000 in
theorem next_any (h:OrdI Z ob hb n w gone) (hn:n ≤ 50):
  Calls Tryz.prog 146 #[.pointer (some ⟨ob,0,none⟩)] w fun e w'=>PopRet Z ob hb n w gone e w':=by
 have QP:=hide (pop_any h hn)
 obtain ⟨wt,V,X,items,pl,bz,hO,-⟩:=h.ex
 have q:=hO.cells.1
 clear h hO
 go_enter Tryz.func146,Tryz.ntmps146
 go_upto_region 1 with fail
 go_wp2_with (go_at_call 191;refine (unhide QP).mono ?_;rintro e7 w7 hpr;have HF:=hide hpr;rcases hpr.2 with ⟨rfl,h1⟩ | ⟨v,rfl,h1⟩ <;> (clear hpr h1;simp only []))
 all_goals (go_wp2;go_ret2;exact unhide HF)
theorem OrM.place (hM:OrM n n X items pl bz) (h:Ord Z ob hb w wt V X) {v:Nat} (hv:v < n):∃ g0 c0,w.cell? ⟨ob,1,none⟩=some (.slice (some ⟨g0,0,none⟩) n c0)∧w.cell? ⟨g0,v,none⟩=some (.int .i64 (pl v)):=by
 obtain ⟨g0,c0,t,e,r,s,_⟩:=h.elem (k:=0) (j:=v) (by omega) hM.n0 hv
 rw [hM.t0 v hv (by omega)] at s
 obtain rfl:=Option.some.inj s
 have:=h.cells.2.1
 rw [e] at this
 exact ⟨g0,c0,this,r⟩
set_option maxHeartbeats 2000000 in
theorem wait_any (h:OrdI Z ob hb n w gone) {v:Nat} (hv:v < n) (hn:n ≤ 50):
  Calls Tryz.prog 178 #[.pointer (some ⟨ob,0,none⟩),.int .i64 (v:Nat)] w fun e w'=>e=.returned (.tuple #[])∧Chg Z w w'∧OrdI Z ob hb n w' (fun x=>gone x∧x ≠ v):=by
 obtain ⟨wt,V,X,items,pl,bz,hO,hM,hp,hgo⟩:=h.ex
 obtain ⟨g0,c0,q1,r1⟩:=hM.place hO hv
 have q0:=hO.cells.1
 have v0:(0:Int) ≤ (v:Int):=by omega
 have v1:(v:Int) < (n:Int):=by omega
 by_cases hpl:pl v=-1
 ·have QP:Hid (Calls Tryz.prog 128 #[.pointer (some ⟨hb,0,none⟩),.int .i64 (v:Nat)] w fun e w'=>e=.returned (.tuple #[])∧Chg Z w w'∧OrdI Z ob hb n w' (fun x=>gone x∧x ≠ v)):=(push_any hO hM hp hv hpl ((hgo n).2 h.last) hn).mono fun e w' ⟨h1,h2,h3⟩=>⟨h1,h2,h3.congr fun x=>by rw [hgo x]⟩
  rw [hpl] at r1
  clear h hO hM hp hgo hpl
  go_enter Tryz.func178,Tryz.ntmps178
  go_wp2_with (go_at_call 128;refine (unhide QP).mono ?_;rintro e7 w7 ⟨rfl,hc7,hr7⟩;have HR:=hide hr7;have HC:=hide hc7;clear hr7 hc7;simp only [])
  go_end0
  exact ⟨rfl,unhide HC,unhide HR⟩
 ·have F:Hid (OrdI Z ob hb n w (fun x=>gone x∧x ≠ v)):=h.congr fun x=>⟨fun hx=>⟨hx,fun e=>hpl ((hgo v).2 (e ▸ hx))⟩,fun hx=>hx.1⟩
  have hne:(pl v == -1)=false:=by simpa using hpl
  generalize pl v=t at *
  clear h hO hM hp hgo hpl
  go_enter Tryz.func178,Tryz.ntmps178
  go_wp2
  go_end0
  exact ⟨rfl,Chg.refl _,unhide F⟩
set_option maxHeartbeats 2000000 in
theorem age_any (h:OrdI Z ob hb n w gone):
  Calls Tryz.prog 144 #[.pointer (some ⟨ob,0,none⟩)] w fun e w'=>e=.returned (.tuple #[])∧Chg Z w w'∧OrdI Z ob hb n w' gone:=by
 obtain ⟨wt,V,X,items,pl,bz,hO,hM,hp,hgo⟩:=h.ex
 have q3:=hO.cells.2.2.2.1
 have z3:=hO.cells.2.2.2.2.2.2.2.2
 have F:Hid (∀ t,Chg Z w (w.setCell ⟨ob,3,none⟩ (.int .i64 t)).drew∧OrdI Z ob hb n (w.setCell ⟨ob,3,none⟩ (.int .i64 t)).drew gone):=fun t=>by
  obtain ⟨a,b⟩:=hO.weight t
  exact ⟨b.drew,⟨t,V,X,items,pl,bz,a.later (Below.refl _ _).drew,hM,hp,hgo⟩,h.last⟩
 clear h hO hM hp hgo
 go_enter Tryz.func144,Tryz.ntmps144
 go_region_with fail
 all_goals
  go_wp2
  go_end0
  exact ⟨rfl,unhide F _⟩
theorem OrM.busyAt (h:OrM n g X items pl bz) {v:Nat} (t:Int):OrM n g (upd X 1 ((X 1).set v (.int .i64 t))) items pl (updN bz v t) where
 n0:=by rw [upd_other _ _ (by decide)];exact h.n0
 t0:=by rw [upd_other _ _ (by decide)];exact h.t0
 i0:=by rw [upd_other _ _ (by decide)];exact h.i0
 n1:=by rw [upd_self,List.length_set];exact h.n1
 t1:=fun x hx=>by
  rw [upd_self]
  by_cases e:x=v
  ·subst e;rw [List.getElem?_set_self (by rw [h.n1];exact hx),updN_self]
  ·rw [List.getElem?_set_ne (fun e2=>e e2.symm),updN_other _ _ e];exact h.t1 x hx
 t2:=by rw [upd_other _ _ (by decide)];exact h.t2
def ScaleRel (Z:Nat→Prop) (ob hb n:Nat) (w:World) (V:Nat→Value) (items:List Nat) (pl:Nat→Int) (wt:Int) (s:Value) (wr:World):Prop:=
 ∃ (i:Nat) (X:Nat→List Value) (bz:Nat→Int),s=.int .i64 ((i:Nat):Int)∧i ≤ n∧Hid (Ord Z ob hb wr wt V X∧OrM n n X items pl bz∧Chg Z w wr)
def ScaleOut (Z:Nat→Prop) (ob hb n:Nat) (w:World) (V:Nat→Value) (items:List Nat) (pl:Nat→Int) (w':World):Prop:=Chg Z w w'∧∃ wt' X' bz',Ord Z ob hb w' wt' V X'∧OrM n n X' items pl bz'
set_option maxHeartbeats 2000000 in
set_option maxRecDepth 100000 in
theorem scale_any (h:Ord Z ob hb w wt V X) (hM:OrM n n X items pl bz) (hn:n ≤ 50):
  Calls Tryz.prog 238 #[.pointer (some ⟨ob,0,none⟩)] w fun e w'=>e=.returned (.tuple #[])∧ScaleOut Z ob hb n w V items pl w':=by
 have S0:Hid (Ord Z ob hb w wt V X∧OrM n n X items pl bz∧Chg Z w w):=⟨h,hM,Chg.refl _⟩
 obtain ⟨a1,c1,e1⟩:=h.fam.shape (k:=1) (by omega)
 have q2:=h.cells.2.2.1
 rw [e1,hM.n1] at q2
 clear h hM e1
 go_enter Tryz.func238,Tryz.ntmps238
 go_wp2_with fail
 go_loopw [2,8] (fun _ s wr=>ScaleRel Z ob hb n w V items pl wt s wr) (fun _ s _=>n - (intOf s).toNat)
 case atStart=>exact ⟨0,X,bz,rfl,Nat.zero_le _,S0⟩
 case round=>
  clear S0 q2
  obtain ⟨i,X',bz',rfl,hil,hst⟩:=hrel
  by_cases hlt:i < n
  ·obtain ⟨g1,c1',t1,e1,r1,s1,z1,-⟩:=(unhide hst).1.elem (k:=1) (j:=i) (by omega) (unhide hst).2.1.n1 hlt
   have q2:=(unhide hst).1.cells.2.2.1
   rw [e1] at q2
   rw [(unhide hst).2.1.t1 i hlt] at s1
   obtain rfl:=Option.some.inj s1
   have i0:(0:Int) ≤ (i:Int):=by omega
   have i1:(i:Int) < (n:Int):=by omega
   have NX:Hid (∀ t v,v=.int .i64 ((i + 1:Nat):Int)→ScaleRel Z ob hb n w V items pl wt v (wr.setCell ⟨g1,i,none⟩ (.int .i64 t))):=fun t v hv=>by
    obtain ⟨a,b⟩:=(unhide hst).1.set (k:=1) (by omega) e1 i (.int .i64 t)
    exact ⟨i + 1,_,_,hv,hlt,a,(unhide hst).2.1.busyAt t,(unhide hst).2.2.trans b⟩
   clear hst e1
   generalize bz' i=tt at *
   go_wp2
   go_roundw
   case rel=>exact unhide NX _ _ (by go_num)
   case measure=>simp [intOf];omega
  ·have q3:=(unhide hst).1.cells.2.2.2.1
   have z3:=(unhide hst).1.cells.2.2.2.2.2.2.2.2
   have F:Hid (∀ t,ScaleOut Z ob hb n w V items pl (wr.setCell ⟨ob,3,none⟩ (.int .i64 t))):=fun t=>by
    obtain ⟨a,b⟩:=(unhide hst).1.weight t
    exact ⟨(unhide hst).2.2.trans b,t,X',bz',a,(unhide hst).2.1⟩
   have i1:¬ ((i:Int) < (n:Int)):=by omega
   clear hst
   go_wp2
   go_end0
   exact ⟨rfl,unhide F _⟩
theorem rise_at (h:Ord Z ob hb w wt V X) (hM:OrM n n X items pl bz) (hp:HpI n items pl) (hgo:∀ v,pl v=-1↔gone v) (hl:gone n) (hn:n ≤ 50) {v:Nat} (hv:v < n) {p:Int} (hpv:pl v=p) (hpl:p ≠ -1):
  Calls Tryz.prog 173 #[.pointer (some ⟨hb,0,none⟩),.int .i64 p] w fun e w'=>e=.returned (.tuple #[])∧Chg Z w w'∧OrdI Z ob hb n w' gone:=by
 rcases hp.at' v hv with h1 | ⟨i,h1,h2⟩
 ·exact absurd (hpv.symm.trans h1) hpl
 ·obtain ⟨hi,ei⟩:=List.getElem?_eq_some_iff.1 h2
  have ho:=hp.open hi
  rw [ei] at ho
  have ll:=hp.len
  have e:p=(i:Nat):=hpv.symm.trans h1
  subst e
  refine (rise_any h hM ho h2 ((hgo n).2 hl) (by omega) (by omega)).mono ?_
  rintro e w' ⟨h3,h4⟩
  obtain ⟨X',items',pl',r1,r2,r3,r4,r5,r6⟩:=h4.ex
  refine ⟨h3,r6,⟨wt,V,X',items',pl',bz,r1,r2,r3,fun x=>?_⟩,hl⟩
  rw [r5 x,hgo x]
  refine ⟨fun hx=>hx.1,fun hx=>⟨hx,fun e=>?_⟩⟩
  subst e
  have:=(hgo x).2 hx
  omega
set_option maxHeartbeats 2000000 in
set_option maxRecDepth 100000 in
theorem useO_any (h:OrdI Z ob hb n w gone) {v:Nat} (hv:v < n) (hn:n ≤ 50):
  Calls Tryz.prog 217 #[.pointer (some ⟨ob,0,none⟩),.int .i64 (v:Nat)] w fun e w'=>e=.returned (.tuple #[])∧Chg Z w w'∧OrdI Z ob hb n w' gone:=by
 obtain ⟨wt,V,X,items,pl,bz,hO,hM,hp,hgo⟩:=h.ex
 have hl:=h.last
 obtain ⟨g1,c1,t1,e1,r1,s1,z1,zz1,l1,no,nh⟩:=hO.elem (k:=1) (j:=v) (by omega) hM.n1 hv
 have q2:=hO.cells.2.2.1
 rw [e1] at q2
 have q3:=hO.cells.2.2.2.1
 rw [hM.t1 v hv] at s1
 obtain rfl:=Option.some.inj s1
 have v0:(0:Int) ≤ (v:Int):=by omega
 have v1:(v:Int) < (n:Int):=by omega
 have F1:Hid (∀ t,Ord Z ob hb (w.setCell ⟨g1,v,none⟩ (.int .i64 t)).drew wt V (upd X 1 ((X 1).set v (.int .i64 t)))∧OrM n n (upd X 1 ((X 1).set v (.int .i64 t))) items pl (updN bz v t)∧Chg Z w (w.setCell ⟨g1,v,none⟩ (.int .i64 t)).drew):=fun t=>by
  obtain ⟨a,b⟩:=hO.set (k:=1) (by omega) e1 v (.int .i64 t)
  exact ⟨a.later (Below.refl _ _).drew,hM.busyAt t,b.drew⟩
 have HP:=hide hp
 have HGO:=hide hgo
 clear h hO hM hp hgo e1
 generalize bz v=tt at *
 go_enter Tryz.func217,Tryz.ntmps217
 go_upto_region 0 with fail
 go_cut [] from 4 (fun wx=>∃ t,Hid (Ord Z ob hb wx wt V (upd X 1 ((X 1).set v (.int .i64 t)))∧OrM n n (upd X 1 ((X 1).set v (.int .i64 t))) items pl (updN bz v t)∧Chg Z w wx))
 case first=>
  go_region_with fail
  all_goals
   go_wp2_with fail
   go_meet
   exact ⟨_,unhide F1 _⟩
 case rest=>
  obtain ⟨t,hc⟩:=hcut
  clear F1 q2 q3 r1 z1
  obtain ⟨g1',c1',t1',e1',r1',s1',-⟩:=(unhide hc).1.elem (k:=1) (j:=v) (by omega) (unhide hc).2.1.n1 hv
  have q2:=(unhide hc).1.cells.2.2.1
  rw [e1'] at q2
  rw [(unhide hc).2.1.t1 v hv] at s1'
  obtain rfl:=Option.some.inj s1'
  have QS:=hide (scale_any (unhide hc).1 (unhide hc).2.1 hn)
  have H1:Hid (ScaleOut Z ob hb n w V items pl wc):=⟨(unhide hc).2.2,wt,_,_,(unhide hc).1,(unhide hc).2.1⟩
  have C1:=hide (unhide hc).2.2
  clear hc e1'
  generalize updN bz v t v=t2 at *
  go_upto_if 24 with fail
  go_cut [] from 4 (fun wx=>Hid (ScaleOut Z ob hb n w V items pl wx))
  case first=>
   go_wp2_with (go_at_call 238;refine (unhide QS).mono ?_;rintro e7 w7 ⟨rfl,hs7⟩;have S7:Hid (ScaleOut Z ob hb n w V items pl w7):=⟨(unhide C1).trans hs7.1,hs7.2⟩;clear hs7;simp only [])
   ·go_meet
    exact S7
   ·go_meet
    exact H1
  case rest=>
   rename_i wy _
   obtain ⟨hc2,wt2,X2,bz2,hO2,hM2⟩:=unhide hcut
   clear hcut H1 QS C1 q2 r1'
   obtain ⟨g0,c0,q1,r1⟩:=hM2.place hO2 hv
   have q0:=hO2.cells.1
   have HC2:=hide hc2
   by_cases hpl:pl v=-1
   ·have F:Hid (OrdI Z ob hb n wc gone):=⟨⟨wt2,V,X2,items,pl,bz2,hO2,hM2,unhide HP,unhide HGO⟩,hl⟩
    rw [hpl] at r1
    clear hO2 hM2 hc2 hpl
    go_wp2
    go_end0
    exact ⟨rfl,unhide HC2,unhide F⟩
   ·obtain ⟨p,hpv⟩:∃ p,pl v=p:=⟨_,rfl⟩
    have QR:Hid (Calls Tryz.prog 173 #[.pointer (some ⟨hb,0,none⟩),.int .i64 p] wc.drew fun e w'=>e=.returned (.tuple #[])∧Chg Z wc.drew w'∧OrdI Z ob hb n w' gone):=rise_at (hO2.later (Below.refl _ _).drew) hM2 (unhide HP) (unhide HGO) hl hn hv hpv (fun e=>hpl (hpv.trans e))
    have hne:(p != -1)=true:=by simpa using fun e=>hpl (hpv.trans e)
    rw [hpv] at r1
    clear hO2 hM2 hc2 hpl hpv
    have CD:Hid (Chg Z w wc.drew):=(unhide HC2).drew
    go_upto_region 4 with fail
    go_region_with (go_at_call 173;refine (unhide QR).mono ?_;rintro e7 w7 ⟨rfl,hc7,ho7⟩;have C7:=hide ((unhide CD).trans hc7);have O7:=hide ho7;clear hc7 ho7;simp only [])
    all_goals
     go_wp2
     go_end0
     exact ⟨rfl,unhide C7,unhide O7⟩
end So
end Go.Proofs.YtceahffmenbibaaGreatDoor
namespace Go.Proofs.YtceahffmenbibaaGreatDoor
namespace So
open Go Go.RowKit Go.Deep Rd
variable {Z:Nat→Prop} {sb ob hb K n:Nat} {w w':World} {f f' V V':Nat→Value} {X X':Nat→List Value} {gone gone':Nat→Prop}
def zz (R:Nat→Prop) (w:World) (g:Nat):Prop:=R g∨w.heap.size ≤ g
theorem Sol.rez {Z':Nat→Prop} (h:Sol Z sb w K f V X) (h1:∀ g,g < w.heap.size→Z g→Z' g) (h2:∀ g,w.heap.size ≤ g→Z' g):Sol Z' sb w K f V X:=
 ⟨h.row,h.fam,h.hdr,h1 sb h.row.lt h.bsb,fun k hk g hg=>h1 g ((h.fam.own k hk).lt g hg).2 (h.al k hk g hg),h2,h.hK⟩
theorem Sol.kept (h:Sol Z sb w K f V X) {Z':Nat→Prop} (hc:Chg Z' w w') (hd:∀ g,g < w.heap.size→Z g→¬ Z' g):Sol Z sb w' K f V X:=
 ⟨h.row.of_block (hc.block _ h.row.lt (hd sb h.row.lt h.bsb)),h.fam.kept fun k g hk hg=>hc.block g ((h.fam.own k hk).lt g hg).2 (hd g ((h.fam.own k hk).lt g hg).2 (h.al k hk g hg)),h.hdr,h.bsb,h.al,fun g hg=>h.az g (Nat.le_trans hc.size hg),h.hK⟩
theorem Ord.rez {wt:Int} {Z':Nat→Prop} (h:Ord Z ob hb w wt V X) (h1:∀ g,g < w.heap.size→Z g→Z' g) (h2:∀ g,w.heap.size ≤ g→Z' g):Ord Z' ob hb w wt V X:=
 ⟨h.orow,h.hrow,h.fam,h1 ob h.orow.lt h.zo,h1 hb h.hrow.lt h.zh,fun k hk g hg=>h1 g ((h.fam.own k hk).lt g hg).2 (h.al k hk g hg),h2⟩
theorem OrdI.rez {Z':Nat→Prop} (h:OrdI Z ob hb n w gone) (h1:∀ g,g < w.heap.size→Z g→Z' g) (h2:∀ g,w.heap.size ≤ g→Z' g):OrdI Z' ob hb n w gone:=by
 obtain ⟨wt,V,X,items,pl,bz,hO,hr⟩:=h.ex
 exact ⟨⟨wt,V,X,items,pl,bz,hO.rez h1 h2,hr⟩,h.last⟩
theorem zz_lt {R:Nat→Prop} {g:Nat} (hg:g < w.heap.size) (h:zz R w g):R g:=by
 rcases h with h | h
 ·exact h
 ·omega
theorem OrdI.kept2 {R:Nat→Prop} (h:OrdI (zz R w) ob hb n w gone) {Z':Nat→Prop} (hc:Chg Z' w w') (hd:∀ g,g < w.heap.size→R g→¬ Z' g):OrdI (zz R w') ob hb n w' gone:=by
 have hr:OrdI (fun g=>R g∨w.heap.size ≤ g) ob hb n w gone:=h
 obtain ⟨wt,V,X,items,pl,bz,hO,hx⟩:=h.ex
 have hk:=hO.kept hc (hd ob hO.orow.lt (zz_lt hO.orow.lt hO.zo)) (hd hb hO.hrow.lt (zz_lt hO.hrow.lt hO.zh)) fun k hk g hg=>hd g ((hO.fam.own k hk).lt g hg).2 (zz_lt ((hO.fam.own k hk).lt g hg).2 (hO.al k hk g hg))
 exact ⟨⟨wt,V,X,items,pl,bz,⟨hk.orow,hk.hrow,hk.fam,.inl (zz_lt hO.orow.lt hO.zo),.inl (zz_lt hO.hrow.lt hO.zh),fun k hk' g hg=>.inl (zz_lt ((hO.fam.own k hk').lt g hg).2 (hO.al k hk' g hg)),fun g hg=>.inr hg⟩,hx⟩,h.last⟩
theorem Sol.kept2 {R:Nat→Prop} (h:Sol (zz R w) sb w K f V X) {Z':Nat→Prop} (hc:Chg Z' w w') (hd:∀ g,g < w.heap.size→R g→¬ Z' g):Sol (zz R w') sb w' K f V X:=by
 have hk:=h.kept hc fun g hg h1=>hd g hg (zz_lt hg h1)
 exact ⟨hk.row,hk.fam,hk.hdr,.inl (zz_lt h.row.lt h.bsb),fun k hk' g hg=>.inl (zz_lt ((h.fam.own k hk').lt g hg).2 (h.al k hk' g hg)),fun g hg=>.inr hg,h.hK⟩
structure Duo (Z:Nat→Prop) (sb ob hb n:Nat) (w:World) (K:Nat) (f V:Nat→Value) (X:Nat→List Value) (gone:Nat→Prop) (Rs Ro:Nat→Prop):Prop where
 sol:Sol (zz Rs w) sb w K f V X
 ord:OrdI (zz Ro w) ob hb n w gone
 f12:f 12=.pointer (some ⟨ob,0,none⟩)
 dis:∀ g,Rs g→¬ Ro g
 ls:∀ g,Rs g→g < w.heap.size
 lo:∀ g,Ro g→g < w.heap.size
 zs:∀ g,Rs g→Z g
 zo:∀ g,Ro g→Z g
 az:∀ g,w.heap.size ≤ g→Z g
variable {Rs Ro:Nat→Prop}
theorem Duo.zall (h:Duo Z sb ob hb n w K f V X gone Rs Ro) {R:Nat→Prop} (hR:∀ g,R g→Z g):∀ g,zz R w g→Z g:=fun g hg=>by
 rcases hg with h1 | h1
 ·exact hR g h1
 ·exact h.az g h1
theorem Duo.stepS (h:Duo Z sb ob hb n w K f V X gone Rs Ro) (hs:Sol (zz Rs w) sb w' K f' V' X') (hc:Chg (zz Rs w) w w') (hf:f' 12=f 12):Duo Z sb ob hb n w' K f' V' X' gone (fun g=>zz Rs w g∧g < w'.heap.size) Ro∧Chg Z w w':=by
 refine ⟨{
  sol:=hs.rez (fun g h1 h2=>.inl ⟨h2,h1⟩) (fun g hg=>.inr hg)
  ord:=h.ord.kept2 hc fun g hg h1 h2=>h.dis g (zz_lt hg h2) h1
  f12:=hf.trans h.f12
  dis:=fun g h1 h2=>by
   have:=h.lo g h2
   exact h.dis g (zz_lt this h1.1) h2
  ls:=fun g h1=>h1.2
  lo:=fun g h1=>Nat.lt_of_lt_of_le (h.lo g h1) hc.size
  zs:=fun g h1=>h.zall h.zs g h1.1
  zo:=h.zo
  az:=fun g hg=>h.az g (Nat.le_trans hc.size hg) },hc.mono fun g _ h1=>h.zall h.zs g h1⟩
theorem Duo.stepO (h:Duo Z sb ob hb n w K f V X gone Rs Ro) (ho:OrdI (zz Ro w) ob hb n w' gone') (hc:Chg (zz Ro w) w w'):Duo Z sb ob hb n w' K f V X gone' Rs (fun g=>zz Ro w g∧g < w'.heap.size)∧Chg Z w w':=by
 refine ⟨{
  sol:=h.sol.kept2 hc fun g hg h1 h2=>h.dis g h1 (zz_lt hg h2)
  ord:=ho.rez (fun g h1 h2=>.inl ⟨h2,h1⟩) (fun g hg=>.inr hg)
  f12:=h.f12
  dis:=fun g h1 h2=>by
   have:=h.ls g h1
   exact h.dis g h1 (zz_lt this h2.1)
  ls:=fun g h1=>Nat.lt_of_lt_of_le (h.ls g h1) hc.size
  lo:=fun g h1=>h1.2
  zs:=h.zs
  zo:=fun g h1=>h.zall h.zo g h1.1
  az:=fun g hg=>h.az g (Nat.le_trans hc.size hg) },hc.mono fun g _ h1=>h.zall h.zo g h1⟩
theorem Duo.later (h:Duo Z sb ob hb n w K f V X gone Rs Ro) (hb':Below w.heap.size w w'):Duo Z sb ob hb n w' K f V X gone Rs Ro where
 sol:=h.sol.kept2 (Z':=fun _=>False) (Chg.of_below hb') fun _ _ _ h=>h
 ord:=h.ord.kept2 (Z':=fun _=>False) (Chg.of_below hb') fun _ _ _ h=>h
 f12:=h.f12
 dis:=h.dis
 ls:=fun g h1=>Nat.lt_of_lt_of_le (h.ls g h1) hb'.size
 lo:=fun g h1=>Nat.lt_of_lt_of_le (h.lo g h1) hb'.size
 zs:=h.zs
 zo:=h.zo
 az:=fun g hg=>h.az g (Nat.le_trans hb'.size hg)
structure LeM (n:Nat) (X:Nat→List Value) (pre:Int) (seen:Nat→Bool) (les:List Nat):Prop where
 n10:(X 10).length=n
 t10:∀ v,v < n→(X 10)[v]? = some (.bool (seen v))
 l7:X 7=.int .i64 pre :: nats les
theorem LeM.mark {pre:Int} {seen:Nat→Bool} {les:List Nat} (h:LeM n X pre seen les) {v:Nat} (hv:v < n):LeM n (upd X 10 ((X 10).set v (.bool true))) pre (updN seen v true) les where
 n10:=by rw [upd_self,List.length_set];exact h.n10
 t10:=fun x hx=>by
  rw [upd_self]
  by_cases e:x=v
  ·subst e;rw [List.getElem?_set_self (by rw [h.n10];exact hx),updN_self]
  ·rw [List.getElem?_set_ne (fun e2=>e e2.symm),updN_other _ _ e];exact h.t10 x hx
 l7:=by rw [upd_other _ _ (by decide)];exact h.l7
theorem LeM.more {pre:Int} {seen:Nat→Bool} {les:List Nat} (h:LeM n X pre seen les) (y:Nat):LeM n (upd X 7 (X 7 ++ [.int .i64 (y:Nat)])) pre seen (les ++ [y]) where
 n10:=by rw [upd_other _ _ (by decide)];exact h.n10
 t10:=by rw [upd_other _ _ (by decide)];exact h.t10
 l7:=by rw [upd_self,h.l7,nats_append];rfl
theorem LeM.congr {pre:Int} {seen:Nat→Bool} {les:List Nat} (h:LeM n X pre seen les) (h7:X' 7=X 7) (h10:X' 10=X 10):LeM n X' pre seen les:=⟨by rw [h10];exact h.n10,by rw [h10];exact h.t10,by rw [h7];exact h.l7⟩
end So
end Go.Proofs.YtceahffmenbibaaGreatDoor
namespace Go.Proofs.YtceahffmenbibaaGreatDoor
namespace So
open Go Go.RowKit Go.Deep Rd
variable {Z:Nat→Prop} {sb K:Nat} {w w':World} {f V:Nat→Value} {X:Nat→List Value}
def UseOut (Z:Nat→Prop) (sb:Nat) (w:World) (K:Nat) (f V:Nat→Value) (X:Nat→List Value) (x:Nat) (w':World):Prop:=Chg Z w w'∧∃ t:Int,Sol Z sb w' K f V (upd X 0 ((X 0).set (x + 2) (.int .i64 t)))
set_option maxHeartbeats 1000000 in
theorem use_any (x n:Nat) (t:Int) (h:Sol Z sb w K f V X) (hn:(X 0).length=n) (hx:x + 2 < n) (hb:n ≤ 17592186044416) (ht:(X 0)[x + 2]? = some (.int .i64 t)):
  Calls Tryz.prog 216 #[.pointer (some ⟨sb,2,none⟩),.int .i64 x] w fun e w'=>e=.returned (.tuple #[])∧UseOut Z sb w K f V X x w':=by
 obtain ⟨g,cap,t',e1,q1,r1,r2,z1,b1,l1,n1⟩:=h.elem (k:=0) (j:=x + 2) (by omega) hn hx
 rw [show cellOf 0=2 from rfl] at q1
 rw [ht] at r2
 obtain rfl:=Option.some.inj r2
 have F:Hid (∀ u:Int,UseOut Z sb w K f V X x (w.setCell ⟨g,x + 2,none⟩ (.int .i64 u))):=fun u=>⟨(Chg.refl _).setCell b1 _,u,h.set (k:=0) (by have:=h.hK;omega) e1 (x + 2) (.int .i64 u)⟩
 have x0:(0:Int) ≤ (x:Int) + 2:=by omega
 have x1:(x:Int) + 2 < (n:Int):=by omega
 have x2:((x:Int) + 2).toNat=x + 2:=by omega
 clear h e1 ht r2
 go_enter Tryz.func216,Tryz.ntmps216
 go_wp2
 go_end0
 exact ⟨rfl,unhide F _⟩
end So
end Go.Proofs.YtceahffmenbibaaGreatDoor
namespace Go.Proofs.YtceahffmenbibaaGreatDoor
namespace So
open Go Go.RowKit Go.Deep Rd
variable {Z:Nat→Prop} {sb ob hb K n:Nat} {w w':World} {f f' V V':Nat→Value} {X X':Nat→List Value} {gone:Nat→Prop} {Rs Ro:Nat→Prop} {tr ch:List Nat} {lev:Nat→Nat} {rea:Nat→Int} {cs:List Rec}
def WK (n:Nat) (V:Nat→Value) (X:Nat→List Value):Prop:=∀ x,x < 2 * n→(X 9)[x]? = some (V (16 + x))
theorem WK.congr {n:Nat} {V V':Nat→Value} {X X':Nat→List Value} (h:WK n V X) (h9:X' 9=X 9) (hV:∀ x,V' (16 + x)=V (16 + x)):WK n V' X':=fun x hx=>by rw [h9,hV];exact h x hx
structure LookSt (Z:Nat→Prop) (sb ob hb n:Nat) (w:World) (K:Nat) (f:Nat→Value) (X:Nat→List Value) (gone:Nat→Prop) (E:List Value) (pre:Int) (s:Lk) (f' V':Nat→Value) (X':Nat→List Value) (Rs Ro:Nat→Prop) (wr:World):Prop where
 duo:Duo Z sb ob hb n wr K f' V' X' gone Rs Ro
 x0:X' 0=E
 lem:LeM n X' pre s.seen s.les
 only:∀ j,j ≠ 0→j ≠ 7→j ≠ 10→X' j=X j
 ff:∀ j,j ≠ 15→f' j=f j
 chg:Chg Z w wr
 wk:WK n V' X'
def LookRel (Z:Nat→Prop) (sb ob hb n:Nat) (w:World) (K:Nat) (f:Nat→Value) (X:Nat→List Value) (gone:Nat→Prop) (E:List Value) (pre:Int) (lev:Nat→Nat) (d:Nat) (s0:Lk) (lits:List Nat) (s5 s20:Value) (wr:World):Prop:=
 ∃ (i:Nat) (s:Lk) (f' V':Nat→Value) (X':Nat→List Value) (Rs Ro:Nat→Prop),s20=.int .i64 ((i:Nat):Int)∧s5=.int .i64 ((s.opn:Nat):Int)∧i ≤ lits.length∧Hid (s=(lits.take i).foldl (lk1 lev d) s0)∧Hid (LookSt Z sb ob hb n w K f X gone E pre s f' V' X' Rs Ro wr)
def LookRet (Z:Nat→Prop) (sb ob hb n:Nat) (w:World) (K:Nat) (f:Nat→Value) (X:Nat→List Value) (gone:Nat→Prop) (cs:List Rec) (k kd:Nat) (pre:Int) (lev:Nat→Nat) (d:Nat) (s0:Lk) (lits:List Nat) (e:Ending) (w':World):Prop:=
 ∃ (bs:Int) (f' V':Nat→Value) (X':Nat→List Value) (Rs Ro:Nat→Prop),e=.returned (.int .i64 (((lits.foldl (lk1 lev d) s0).opn:Nat):Int))∧LookSt Z sb ob hb n w K f X gone (ints (enc (cs.set k ⟨kd,bs,lits⟩))) pre (lits.foldl (lk1 lev d) s0) f' V' X' Rs Ro w'
variable {E:List Value} {pre:Int} {s:Lk} {wr wx:World}
theorem LookSt.later (h:LookSt Z sb ob hb n w K f X gone E pre s f' V' X' Rs Ro wr) (hb':Below wr.heap.size wr wx):LookSt Z sb ob hb n w K f X gone E pre s f' V' X' Rs Ro wx:=
 { h with duo:=h.duo.later hb',chg:=h.chg.trans (Chg.of_below hb') }
theorem LookSt.mark (h:LookSt Z sb ob hb n w K f X gone E pre s f' V' X' Rs Ro wr) {v:Nat} (hv:v < n) {g c:Nat} (e:V' 10=.slice (some ⟨g,0,none⟩) n c) (hz:zz Rs wr g) (k:Nat):LookSt Z sb ob hb n w K f X gone E pre ⟨updN s.seen v true,s.les,k⟩ f' V' (upd X' 10 ((X' 10).set v (.bool true))) (fun g'=>zz Rs wr g'∧g' < (wr.setCell ⟨g,v,none⟩ (.bool true)).heap.size) Ro (wr.setCell ⟨g,v,none⟩ (.bool true)):=by
 obtain ⟨d1,d2⟩:=h.duo.stepS (h.duo.sol.set (k:=10) (by have:=h.duo.sol.hK;omega) e v (.bool true)) ((Chg.refl _).setCell hz _) rfl
 exact ⟨d1,by rw [upd_other _ _ (by decide)];exact h.x0,h.lem.mark hv,fun j h1 h2 h3=>by rw [upd_other _ _ h3];exact h.only j h1 h2 h3,h.ff,h.chg.trans d2,h.wk.congr (upd_other _ _ (by decide)) fun _=>rfl⟩
theorem LookSt.used (h:LookSt Z sb ob hb n w K f X gone E pre s f' V' X' Rs Ro wr) (ho:OrdI (zz Ro wr) ob hb n wx gone) (hc:Chg (zz Ro wr) wr wx):LookSt Z sb ob hb n w K f X gone E pre s f' V' X' Rs (fun g=>zz Ro wr g∧g < wx.heap.size) wx:=by
 obtain ⟨d1,d2⟩:=h.duo.stepO ho hc
 exact ⟨d1,h.x0,h.lem,h.only,h.ff,h.chg.trans d2,h.wk⟩
theorem LookSt.opn (h:LookSt Z sb ob hb n w K f X gone E pre s f' V' X' Rs Ro wr) (k:Nat):LookSt Z sb ob hb n w K f X gone E pre ⟨s.seen,s.les,k⟩ f' V' X' Rs Ro wr:=⟨h.duo,h.x0,h.lem,h.only,h.ff,h.chg,h.wk⟩
theorem LookSt.push (h:LookSt Z sb ob hb n w K f X gone E pre s f' V' X' Rs Ro wr) {obj:Obj} {v':Value} {w6:World} {y:Nat} (A:Appended (wr.alloc obj) 0 3 1 (V' 7) (X' 7).length (X' 7) 1 [.int .i64 (y:Nat)] v' w6) (k:Nat):
  LookSt Z sb ob hb n w K f X gone E pre ⟨s.seen,s.les ++ [y],k⟩ (upd f' 15 v') (upd V' 7 v') (upd X' 7 (X' 7 ++ [.int .i64 (y:Nat)])) (fun g=>zz Rs wr g∧g < (w6.setCell ⟨sb,15,none⟩ v').heap.size) Ro (w6.setCell ⟨sb,15,none⟩ v'):=by
 have hK:=h.duo.sol.hK
 obtain ⟨d1,d2⟩:=h.duo.stepS (h.duo.sol.push (k:=7) (m:=1) (news:=[.int .i64 (y:Nat)]) (by omega) rfl A) (h.duo.sol.belowApp (k:=7) (by omega) A 15 v') (upd_other _ _ (by decide))
 exact ⟨d1,by rw [upd_other _ _ (by decide)];exact h.x0,h.lem.more y,fun j h1 h2 h3=>by rw [upd_other _ _ h2];exact h.only j h1 h2 h3,fun j hj=>by rw [upd_other _ _ hj];exact h.ff j hj,h.chg.trans d2,h.wk.congr (upd_other _ _ (by decide)) fun x=>upd_other _ _ (by omega)⟩
set_option maxHeartbeats 4000000 in
set_option maxRecDepth 100000 in
theorem look_any {k:Nat} {s0:Lk} (D:Duo Z sb ob hb n w K f V X gone Rs Ro) (hn:n ≤ 50) (h0:X 0=ints (enc cs)) (hk:k < cs.length) (hN:(enc cs).length ≤ 1099511627776) (hT:TrM n X tr ch lev rea) (hL:LeM n X pre s0.seen s0.les) (hop:s0.opn=0) (hlt:∀ y ∈ (cs[k]).lits,y < 2 * n) (hch:ch.length ≤ 1000) (hll:s0.les.length + (cs[k]).lits.length ≤ 1000) (hW:WK n V X):
  Calls Tryz.prog 182 #[.pointer (some ⟨sb,0,none⟩),.int .i64 (adr cs k:Nat)] w fun e w'=>LookRet Z sb ob hb n w K f X gone cs k (cs[k]).kind pre lev ch.length s0 (cs[k]).lits e w':=by
 obtain ⟨i0,hi,hz0,hz1,hz2⟩:=info_parts Tryz.infoInt9
 have hend:=adr_end hk
 have hl0:(X 0).length=(enc cs).length:=by rw [h0,ints_len]
 have QU:=hide (use_any (adr cs k) (enc cs).length (cs[k]).busy D.sol hl0 (by omega) (by omega) (row0_at h0 (enc_busy hk)))
 have AFT:Hid (∀ wu,UseOut (zz Rs w) sb w K f V X (adr cs k) wu→∃ bs X1 Rs1,LookSt Z sb ob hb n w K f X gone (ints (enc (cs.set k ⟨(cs[k]).kind,bs,(cs[k]).lits⟩))) pre s0 f V X1 Rs1 Ro wu):=fun wu ⟨hc,t,hs⟩=>by
  obtain ⟨d1,d2⟩:=D.stepS hs hc rfl
  refine ⟨t,_,_,d1,?_,hL.congr (upd_other _ _ (by decide)) (upd_other _ _ (by decide)),fun j h1 h2 h3=>upd_other _ _ h1,fun j hj=>rfl,d2,hW.congr (upd_other _ _ (by decide)) fun _=>rfl⟩
  rw [upd_self,h0,ints_set,enc_setBusy hk]
 have HT:=hide hT
 clear hW
 have RET0:Hid (∀ (bs:Int) e w' f' V' X' Rs Ro,e=.returned (.int .i64 ((((cs[k]).lits.foldl (lk1 lev ch.length) s0).opn:Nat):Int))→LookSt Z sb ob hb n w K f X gone (ints (enc (cs.set k ⟨(cs[k]).kind,bs,(cs[k]).lits⟩))) pre ((cs[k]).lits.foldl (lk1 lev ch.length) s0) f' V' X' Rs Ro w'→LookRet Z sb ob hb n w K f X gone cs k (cs[k]).kind pre lev ch.length s0 (cs[k]).lits e w'):=fun bs e w' f' V' X' Rs Ro h1 h2=>⟨bs,f',V',X',Rs,Ro,h1,h2⟩
 generalize LookRet Z sb ob hb n w K f X gone cs k (cs[k]).kind pre lev ch.length s0 (cs[k]).lits=RR at *
 go_enter Tryz.func182,Tryz.ntmps182
 go_upto_region 2 with (go_at_call 216;refine (unhide QU).mono ?_;rintro e7 w7 ⟨rfl,hu7⟩;obtain ⟨bs,X1,Rs1,hs1⟩:=unhide AFT w7 hu7;have S1:=hide hs1;clear hs1 hu7;simp only [])
 have hk1:k < (cs.set k ⟨(cs[k]).kind,bs,(cs[k]).lits⟩).length:=by simpa using hk
 have ad1:adr (cs.set k ⟨(cs[k]).kind,bs,(cs[k]).lits⟩) k=adr cs k:=adr_set (c:=⟨(cs[k]).kind,bs,(cs[k]).lits⟩) hk rfl k
 have c1k:(cs.set k ⟨(cs[k]).kind,bs,(cs[k]).lits⟩)[k]=⟨(cs[k]).kind,bs,(cs[k]).lits⟩:=by simp
 have n1:(enc (cs.set k ⟨(cs[k]).kind,bs,(cs[k]).lits⟩)).length=(enc cs).length:=enc_set_len (c:=⟨(cs[k]).kind,bs,(cs[k]).lits⟩) hk rfl
 have RET:=hide (unhide RET0 bs)
 generalize hcs1:cs.set k ⟨(cs[k]).kind,bs,(cs[k]).lits⟩=cs1 at *
 obtain ⟨g,c,e0,q0,hcN,lg,ng,zg,r0,-,-,-,-⟩:=lits_cells (unhide S1).duo.sol (unhide S1).x0 hk1
 have hlits:(cs1[k]).lits=(cs[k]).lits:=by rw [c1k]
 rw [ad1,hlits] at r0
 have QL:Hid (∀ Y:World,Y.heap=w7.heap→Calls Tryz.prog 175 #[.pointer (some ⟨sb,2,none⟩),.int .i64 (adr cs k:Nat)] Y fun e w'=>e=.returned (litsAt g (adr cs k) (cs[k]).lits.length c)∧∃ j,w'=Y.drewN j):=fun Y hY=>literals_any sb 2 g (enc cs1).length c (adr cs k) (cs[k]).lits.length Y (by rw [show Y.cell? ⟨sb,2,none⟩=w7.cell? ⟨sb,2,none⟩ from World.cell?_of_block (a:=⟨sb,2,none⟩) (by rw [hY])];exact q0) (by omega) (by unfold maxLen;omega) hcN (by rw [show Y.cell? ⟨g,adr cs k,none⟩=w7.cell? ⟨g,adr cs k,none⟩ from World.cell?_of_block (a:=⟨g,adr cs k,none⟩) (by rw [hY])];exact r0)
 have CLS:Hid (∀ wr s f' V' X' Rs Ro,LookSt Z sb ob hb n w K f X gone (ints (enc cs1)) pre s f' V' X' Rs Ro wr→∀ i (hi:i < (cs[k]).lits.length),wr.cell? ⟨g,adr cs k + 3 + i,none⟩=some (.int .i64 ((cs[k]).lits[i]:Nat))):=fun wr s f' V' X' Rs' Ro' hst i hi=>by
  have e0':V' 0=.slice (some ⟨g,0,none⟩) (enc cs1).length c:=by
   rw [← hst.duo.sol.hdr 0 (by omega),hst.ff _ (by decide),← (unhide S1).ff _ (by decide),(unhide S1).duo.sol.hdr 0 (by omega)];exact e0
  have:=row0_cell hst.duo.sol hst.x0 e0' hk1 (i:=i) (by rw [hlits];exact hi)
  rw [ad1] at this
  rw [this]
  simp only [hlits]
 have TRM:Hid (∀ wr s f' V' X' Rs Ro,LookSt Z sb ob hb n w K f X gone (ints (enc cs1)) pre s f' V' X' Rs Ro wr→TrM n X' tr ch lev rea):=fun wr s f' V' X' Rs' Ro' hst=>(unhide HT).congr fun j h1 h2=>hst.only j (by omega) (by omega) (by omega)
 rw [n1] at hcN
 have HLT:=hide hlt
 have HOP:=hide hop
 clear QU AFT D h0 hT hL hk1 RET0 c1k n1 hcs1 q0 r0 ad1 hlits e0 hl0 hlt hop lg ng zg
 generalize adr cs k=a at *
 generalize (cs[k]).lits=lits at *
 generalize enc cs1=ec1 at *
 have la:Hid (lits.length ≠ 0→litsAt g a lits.length c=.slice (some ⟨g,a + 3,none⟩) lits.length (c - (a + 3))):=fun h=>by unfold litsAt;rw [if_neg (by omega)]
 obtain ⟨al,hal⟩:∃ al,litsAt g a lits.length c=.slice al lits.length (c - (a + 3)):=⟨_,rfl⟩
 rw [hal] at QL
 have AL:Hid (lits.length ≠ 0→al=some ⟨g,a + 3,none⟩):=fun h=>by
  have:=unhide la h
  rw [hal] at this
  exact (Value.slice.inj this).1
 clear hal la
 have ll1:lits.length ≤ 1000:=by omega
 go_upto_region 3 with fail
 go_wp2_with (go_at_call 175;refine (unhide QL _ (by rfl)).mono ?_;rintro e8 w8 ⟨rfl,j8,rfl⟩;simp only [])
 obtain ⟨W,hW⟩:∃ W,W=w7.drewN j8:=⟨_,rfl⟩
 have S2:=hide ((unhide S1).later (wx:=W) (by rw [hW];exact below_drewN (Below.refl _ _) _))
 rw [← hW]
 clear hW S1 QL
 go_loopw [5,7,8,20] (fun s5 _ _ s20 wr=>LookRel Z sb ob hb n w K f X gone (ints ec1) pre lev ch.length s0 lits s5 s20 wr) (fun _ _ _ s20 _=>lits.length - (intOf s20).toNat)
 case atStart=>exact ⟨0,s0,f,V,X1,Rs1,Ro,rfl,by rw [unhide HOP];rfl,Nat.zero_le _,by rw [List.take_zero];rfl,S2⟩
 case round=>
  clear S2
  obtain ⟨i,s,f',V',X',Rs',Ro',rfl,rfl,hil,hseq,hst⟩:=hrel
  by_cases hlt:i < lits.length
  ·obtain rfl:=unhide AL (by omega)
   have hci:=unhide CLS wr s f' V' X' Rs' Ro' (unhide hst) i hlt
   have hT':=unhide TRM wr s f' V' X' Rs' Ro' (unhide hst)
   obtain ⟨y,hy⟩:∃ y,y=lits[i]:=⟨_,rfl⟩
   rw [← hy] at hci
   have hyl:y < 2 * n:=by rw [hy];exact unhide HLT _ (List.getElem_mem _)
   have NXT:Hid (lk1 lev ch.length s y=(lits.take (i + 1)).foldl (lk1 lev ch.length) s0):=by
    unfold Hid
    rw [List.take_add_one,List.getElem?_eq_getElem hlt,Option.toList_some,List.foldl_append,← unhide hseq,hy];rfl
   have QV:=hide (fun Y=>variableOf_any y Y (by omega))
   have hv:y / 2 < n:=by omega
   obtain ⟨v,hvd⟩:∃ v,v=y / 2:=⟨_,rfl⟩
   rw [← hvd] at QV hv
   obtain ⟨g10,c10,t10,e10,q10,r10,s10,z10,zz10,l10,n10⟩:=(unhide hst).duo.sol.elem (k:=10) (j:=v) (by omega) (unhide hst).lem.n10 hv
   rw [show cellOf 10=16 from rfl] at q10
   rw [(unhide hst).lem.t10 v hv] at s10
   obtain rfl:=Option.some.inj s10
   obtain ⟨g4,c4,t4,e4,q4,r4,s4,-⟩:=(unhide hst).duo.sol.elem (k:=4) (j:=v) (by omega) hT'.n4 hv
   rw [show cellOf 4=10 from rfl] at q4
   rw [hT'.t4 v hv] at s4
   obtain rfl:=Option.some.inj s4
   have LK:Hid (lk1 lev ch.length s y=if s.seen v=true∨lev v=0 then s else if lev v=ch.length then ⟨updN s.seen v true,s.les,s.opn + 1⟩ else ⟨updN s.seen v true,s.les ++ [y],s.opn⟩):=by unfold Hid lk1;rw [← hvd]
   have v0:(0:Int) ≤ (v:Int):=by omega
   have v1:(v:Int) < (n:Int):=by omega
   have i00:(0:Int) ≤ (i:Int):=by omega
   have i11:(i:Int) < (lits.length:Int):=by omega
   clear hy hvd e4
   by_cases hskip:s.seen v=true∨lev v=0
   ·
    have NX:Hid (∀ sv,sv=.int .i64 ((i + 1:Nat):Int)→LookRel Z sb ob hb n w K f X gone (ints ec1) pre lev ch.length s0 lits (.int .i64 ((s.opn:Nat):Int)) sv wr):=fun sv hsv=>⟨i + 1,s,f',V',X',Rs',Ro',hsv,rfl,hlt,by rw [← unhide NXT,unhide LK,if_pos hskip];rfl,hst⟩
    rcases hskip with hs | hs
    ·rw [hs] at r10
     clear hst LK
     go_wp2_with (go_at_call 176;refine (unhide QV _).mono ?_;rintro e9 w9 ⟨rfl,rfl⟩;simp only [])
     go_roundw
     case rel=>exact unhide NX _ (by go_num)
     case measure=>simp [intOf];omega
    ·rw [hs] at r4
     by_cases hs2:s.seen v=true
     ·rw [hs2] at r10
      clear hst LK
      go_wp2_with (go_at_call 176;refine (unhide QV _).mono ?_;rintro e9 w9 ⟨rfl,rfl⟩;simp only [])
      go_roundw
      case rel=>exact unhide NX _ (by go_num)
      case measure=>simp [intOf];omega
     ·rw [Bool.not_eq_true] at hs2
      rw [hs2] at r10
      clear hst LK
      go_wp2_with (go_at_call 176;refine (unhide QV _).mono ?_;rintro e9 w9 ⟨rfl,rfl⟩;simp only [])
      go_roundw
      case rel=>exact unhide NX _ (by go_num)
      case measure=>simp [intOf];omega
   ·
    have hns:s.seen v=false:=by
     cases e:s.seen v with
     | false=>rfl
     | true=>exact absurd (.inl e) hskip
    have hl0:lev v ≠ 0:=fun e=>hskip (.inr e)
    rw [hns] at r10
    have S3:=hide ((unhide hst).mark hv e10 zz10 s.opn)
    have C3:Hid (s.les.length + 1 ≤ 1001):=by
     unfold Hid
     have hh:∀ (l:List Nat) (t:Lk),(l.foldl (lk1 lev ch.length) t).les.length ≤ t.les.length + l.length:=by
      intro l
      induction l with
      | nil=>intro t;simp
      | cons z l ih=>
       intro t
       have h1:=ih (lk1 lev ch.length t z)
       have h2:(lk1 lev ch.length t z).les.length ≤ t.les.length + 1:=by
        unfold lk1;split
        ·omega
        ·split <;> simp
       simp only [List.foldl_cons,List.length_cons]
       omega
     have:=hh (lits.take i) s0
     rw [← unhide hseq,List.length_take] at this
     omega
    have hle0:((lev v:Int) == 0)=false:=by simp;omega
    have LK2:Hid (lk1 lev ch.length s y=if lev v=ch.length then ⟨updN s.seen v true,s.les,s.opn + 1⟩ else ⟨updN s.seen v true,s.les ++ [y],s.opn⟩):=by unfold Hid;rw [unhide LK,if_neg hskip]
    have opb:Hid (s.opn ≤ 1000):=by
     unfold Hid
     have hh:∀ (l:List Nat) (t:Lk),(l.foldl (lk1 lev ch.length) t).opn ≤ t.opn + l.length:=by
      intro l
      induction l with
      | nil=>intro t;simp
      | cons z l ih=>
       intro t
       have h1:=ih (lk1 lev ch.length t z)
       have h2:(lk1 lev ch.length t z).opn ≤ t.opn + 1:=by
        unfold lk1;split
        ·omega
        ·split <;> simp
       simp only [List.foldl_cons,List.length_cons]
       omega
     have:=hh (lits.take i) s0
     rw [← unhide hseq,List.length_take,unhide HOP] at this
     omega
    clear hst LK hskip e10 hns hT'
    go_upto_region 9 with (go_at_call 176;refine (unhide QV _).mono ?_;rintro e9 w9 ⟨rfl,rfl⟩;simp only [])
    generalize hW3:w9.setCell ⟨g10,v,none⟩ (.bool true)=W3 at S3 ⊢
    clear hW3 q10 r10 z10 q4 r4 hci
    have QO:=hide (useO_any (unhide S3).duo.ord hv hn)
    have q12:=((unhide S3).duo.sol.head 12 (by omega)).1
    rw [(unhide S3).duo.f12] at q12
    have US:=hide (fun wx ho hc=>(unhide S3).used (wx:=wx) ho hc)
    clear S3
    go_upto_region 10 with (go_at_call 217;refine (unhide QO).mono ?_;rintro eA wA ⟨rfl,hcA,hoA⟩;have S4:=hide (unhide US wA hoA hcA);clear hcA hoA;simp only [])
    have hT4:=unhide TRM _ _ _ _ _ _ _ (unhide S4)
    obtain ⟨g4',c4',t4,e4,q4,r4,s4,-⟩:=(unhide S4).duo.sol.elem (k:=4) (j:=v) (by omega) hT4.n4 hv
    rw [show cellOf 4=10 from rfl] at q4
    rw [hT4.t4 v hv] at s4
    obtain rfl:=Option.some.inj s4
    obtain ⟨a2,c2,e2⟩:=(unhide S4).duo.sol.fam.shape (k:=2) (by have:=(unhide S4).duo.sol.hK;omega)
    have q2:=((unhide S4).duo.sol.hd (k:=2) (by omega)).1
    rw [show cellOf 2=8 from rfl,e2,hT4.l2,nats_len] at q2
    have QD:Hid (∀ j,Calls Tryz.prog 99 #[.pointer (some ⟨sb,6,none⟩)] (wA.drewN j) fun e w'=>e=.returned (.int .i64 (ch.length:Nat))∧w'=wA.drewN j):=fun j=>depth_any sb 6 ch.length c2 (wA.drewN j) a2 q2
    clear e4 e2 hT4 QO US q12
    go_quiet ((go_at_call 99;exact Calls.quiet_of_same (unhide QD _)))
    obtain ⟨W5,hW5⟩:∃ W5,W5=wA.drewN nq:=⟨_,rfl⟩
    have S5:=hide ((unhide S4).later (wx:=W5) (by rw [hW5];exact below_drewN (Below.refl _ _) _))
    rw [← hW5]
    clear hW5 S4 q4 r4 q2 QD
    by_cases hd:lev v=ch.length
    ·have NX:Hid (∀ so sv,so=.int .i64 ((s.opn + 1:Nat):Int)→sv=.int .i64 ((i + 1:Nat):Int)→LookRel Z sb ob hb n w K f X gone (ints ec1) pre lev ch.length s0 lits so sv W5):=fun so sv hso hsv=>⟨i + 1,⟨updN s.seen v true,s.les,s.opn + 1⟩,_,_,_,_,_,hsv,hso,hlt,by rw [← unhide NXT,unhide LK2,if_pos hd];rfl,(unhide S5).opn _⟩
     have hdt:((lev v:Int) == (ch.length:Int))=true:=by simp [hd]
     have ob1:(s.opn:Int) + 1 ≤ 1001:=by have:=unhide opb;omega
     clear S5 hd LK2
     go_wp2
     go_roundw
     case rel=>exact unhide NX _ _ (by go_num) (by go_num)
     case measure=>simp [intOf];omega
    ·have hdt:((lev v:Int) == (ch.length:Int))=false:=by simp;omega
     obtain ⟨a7,c7,e7⟩:=(unhide S5).duo.sol.fam.shape (k:=7) (by have:=(unhide S5).duo.sol.hK;omega)
     have l7:∀ X'':Nat→List Value,LeM n X'' pre (updN s.seen v true) s.les→(X'' 7).length=s.les.length + 1:=fun X'' h=>by rw [h.l7];simp [nats_len]
     have l7':=l7 _ (unhide S5).lem
     have q7:=((unhide S5).duo.sol.hd (k:=7) (by omega)).1
     rw [show cellOf 7=15 from rfl,e7,l7'] at q7
     have O7:=(unhide S5).duo.sol.fam.own 7 (by have:=(unhide S5).duo.sol.hK;omega)
     rw [e7,l7'] at O7
     have HO7:=hide O7
     have E7:=hide e7
     have L7:=hide l7'
     have hsb5:=(unhide S5).duo.sol.row.lt
     have ns:¬ (sb=W5.heap.size):=by omega
     have c3:=unhide C3
     have HPS:=hide (fun obj v' w6 A=>(unhide S5).push (obj:=obj) (v':=v') (w6:=w6) (y:=y) A s.opn)
     have HHA:=hide (fun obj v' w6 A=>(unhide S5).duo.sol.headApp (k:=7) (ob:=obj) (v':=v') (w6:=w6) (m:=1) (news:=[.int .i64 (y:Nat)]) (by have:=(unhide S5).duo.sol.hK;omega) A 15 (by omega))
     have NX:Hid (∀ f6 V6 X6 R6 O6 W6,LookSt Z sb ob hb n w K f X gone (ints ec1) pre ⟨updN s.seen v true,s.les ++ [y],s.opn⟩ f6 V6 X6 R6 O6 W6→∀ sv,sv=.int .i64 ((i + 1:Nat):Int)→LookRel Z sb ob hb n w K f X gone (ints ec1) pre lev ch.length s0 lits (.int .i64 ((s.opn:Nat):Int)) sv W6):=fun f6 V6 X6 R6 O6 W6 hs sv hsv=>⟨i + 1,⟨updN s.seen v true,s.les ++ [y],s.opn⟩,f6,V6,X6,R6,O6,hsv,rfl,hlt,by rw [← unhide NXT,unhide LK2,if_neg hd];rfl,hs⟩
     clear S5 hd LK2 O7 e7 l7 l7'
     go_wp2_with (at_builtin;refine wpList_append_any _ rfl _ _ 43 rfl 0 3 i0 (.int .i64 0) 1 8 Tryz.underlying43 hi hz0 hz1 hz2 rfl (by decide) _ _ _ rfl ((unhide HO7).alloc (Obj.cells #[.int .i64 (y:Int)] 3)) (.slice (some ⟨W5.heap.size,0,none⟩) 1 1) 1 [.int .i64 (y:Int)] rfl (.inr ⟨⟨W5.heap.size,0,none⟩,1,rfl,World.news_of_block (cs:=#[.int .i64 (y:Int)]) (t:=3) (fr:=(0,0)) (heap_alloc_new W5 _)⟩) rfl (by simp [Value.oneCell']) (by unfold maxLen;omega) (by omega) (Nat.zero_le _) ?_)
     intro v6 w6 A6
     have A7:=A6
     rw [← unhide L7,← unhide E7] at A7
     obtain ⟨k6,z6⟩:=unhide HHA _ _ _ A7
     have S6:=hide (unhide HPS _ _ _ A7)
     obtain ⟨va6,vc6,hv6⟩:=own_shape A6.own
     subst hv6
     have NX6:=hide (unhide NX _ _ _ _ _ _ (unhide S6))
     clear A6 A7 S6 HPS HHA HO7 NX
     go_wp2
     go_roundw
     case rel=>exact unhide NX6 _ (by go_num)
     case measure=>simp [intOf];omega
  ·have ei:i=lits.length:=by omega
   have FR:=hide (unhide RET (.returned (.int .i64 ((s.opn:Nat):Int))) wr f' V' X' Rs' Ro' (by rw [unhide hseq,ei,List.take_length]) (by have:=unhide hst;rw [unhide hseq,ei,List.take_length] at this;exact this))
   clear hst hseq
   go_wp2
   exact unhide FR
end So
end Go.Proofs.YtceahffmenbibaaGreatDoor
namespace Go.Proofs.YtceahffmenbibaaGreatDoor
namespace So
open Go Go.RowKit Go.Deep Rd
theorem zeroCells_one (z:Value) (n:Nat):Builtin.zeroCells #[z] n=(List.replicate n z).toArray:=by
 unfold Builtin.zeroCells
 apply Array.ext
 ·simp
 ·intro i h1 h2
  simp [Nat.mod_one]
theorem run_clear {P:Program} {w:World} {ot:TypeId} (t:TypeId) (elem:TypeId) (hu:P.underlying t=some (.slice elem)) (i:TypeInfo) (hi:P.info? elem=some i) (z:Value) (hz:i.zero=some z) (hzc:z.cells=#[z]) (h1:z.oneCell'=true)
  (g n cap:Nat) (cur:Array Value) (ty:TypeId) (hg:w.heap[g]? = some (.cells cur ty (0,0))) (hfit:n + 1 ≤ cur.size):
  ∃ w',(Builtin.clear_ #[t] ot #[.slice (some ⟨g,0,none⟩) (n + 1) cap]).run P w=.ok (.tuple #[]) w'∧w'.heap[g]? = some (.cells (splice cur.toList 0 (List.replicate (n + 1) z)).toArray ty (0,0))∧(∀ k,k ≠ g→w'.heap[k]? = w.heap[k]?)∧Below 0 w w':=by
 have hst:=run_storeCells_at P g 0 ty (List.replicate (n + 1) z) 0 cur w hg (by simpa using hfit) (fun v hv=>by rw [List.eq_of_mem_replicate hv];exact h1)
 have hzr:(zeroValue elem).run P w=.ok z w:=by simp [zeroValue,typeInfo,hi,hz]
 refine ⟨w.setRow g (splice cur.toList 0 (List.replicate (n + 1) z)).toArray,?_,setRow_heap w g _ _ ty _ hg,fun k hk=>setRow_other w g k _ (fun e=>hk (by first | exact e | exact e.symm)),below_setRow (Below.refl _ _) (Nat.zero_le _) _⟩
 simp only [Builtin.clear_]
 simp [run_underlying hu,hzr,hzc,zeroCells_one,Result.andThen]
 rw [hst]
 simp [splice,Result.andThen]
theorem run_clearAt {P:Program} {w:World} {ot:TypeId} (t:TypeId) (elem:TypeId) (hu:P.underlying t=some (.slice elem)) (i:TypeInfo) (hi:P.info? elem=some i) (z:Value) (hz:i.zero=some z) (hzc:z.cells=#[z]) (h1:z.oneCell'=true)
  (g off n cap:Nat) (cur:Array Value) (ty:TypeId) (hg:w.heap[g]? = some (.cells cur ty (0,0))) (hfit:off + (n + 1) ≤ cur.size):
  ∃ w',(Builtin.clear_ #[t] ot #[.slice (some ⟨g,off,none⟩) (n + 1) cap]).run P w=.ok (.tuple #[]) w'∧w'.heap[g]? = some (.cells (splice cur.toList off (List.replicate (n + 1) z)).toArray ty (0,0))∧(∀ k,k ≠ g→w'.heap[k]? = w.heap[k]?)∧Below 0 w w':=by
 have hst:=run_storeCells_at P g off ty (List.replicate (n + 1) z) 0 cur w hg (by simpa using hfit) (fun v hv=>by rw [List.eq_of_mem_replicate hv];exact h1)
 have hzr:(zeroValue elem).run P w=.ok z w:=by simp [zeroValue,typeInfo,hi,hz]
 refine ⟨w.setRow g (splice cur.toList off (List.replicate (n + 1) z)).toArray,?_,setRow_heap w g _ _ ty _ hg,fun k hk=>setRow_other w g k _ (fun e=>hk (by first | exact e | exact e.symm)),below_setRow (Below.refl _ _) (Nat.zero_le _) _⟩
 simp only [Builtin.clear_]
 simp [run_underlying hu,hzr,hzc,zeroCells_one,Result.andThen]
 rw [hst]
 simp [splice,Result.andThen]
end So
end Go.Proofs.YtceahffmenbibaaGreatDoor
