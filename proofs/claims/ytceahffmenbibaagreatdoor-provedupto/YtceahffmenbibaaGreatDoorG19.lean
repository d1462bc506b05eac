/- Pfwk. -/
import Derived.Test.YtceahffmenbibaaGreatDoorG18
import Derived.Deep.CutRange
set_option linter.unusedVariables false
set_option linter.unusedSimpArgs false
namespace Go.Proofs.YtceahffmenbibaaGreatDoor
namespace Rd
open Go Go.RowKit Go.Deep
attribute [local go_sem ↓] Go.wp_at_zero Go.wp_at_succ
theorem WInv.wok {es:List Ent} {wl:Nat→List Nat} (h:WInv es wl) {j:Nat} (hj:j < es.length):(es[j]).watched.ok:=by
 by_cases hs:2 ≤ (es[j]).set.size
 ·obtain ⟨a,b,_,ia,ib,_,_,e,_⟩:=h.two j hj hs
  rw [e];exact un_ok (single_ok ia) (single_ok ib)
 ·rw [h.one j hj hs];exact empty_ok
theorem FalMem.start {B sb mb:Nat} {cv:Value} {gone:Int} {u:Key} {wv:Nat→Value} {es:List Ent} {wl:Nat→List Nat} {w:World} (L D:Key) (hS:Sto B sb w cv mb gone u wv es wl) (hT:Tab B w):
  FalMem B sb w L D (0,0) cv mb gone u wv es wl (((w.alloc (Obj.cells #[Value.int IntKind.u64 (L.1:Int),Value.int IntKind.u64 (L.2:Int)] 84)).alloc (Obj.cells #[Value.int IntKind.u64 (D.1:Int),Value.int IntKind.u64 (D.2:Int)] 84)).alloc (Obj.cells #[Value.int IntKind.u64 0,Value.int IntKind.u64 0] 84)):=by
 have hb:Below w.heap.size w (((w.alloc (Obj.cells #[Value.int IntKind.u64 (L.1:Int),Value.int IntKind.u64 (L.2:Int)] 84)).alloc (Obj.cells #[Value.int IntKind.u64 (D.1:Int),Value.int IntKind.u64 (D.2:Int)] 84)).alloc (Obj.cells #[Value.int IntKind.u64 0,Value.int IntKind.u64 0] 84)):=below3 (Below.refl _ _) (Nat.le_refl _) _ _ _
 have r1:=rowIs_two w (Value.int IntKind.u64 (L.1:Int)) (Value.int IntKind.u64 (L.2:Int)) 84
 have r2:=rowIs_two' w (Obj.cells #[Value.int IntKind.u64 (L.1:Int),Value.int IntKind.u64 (L.2:Int)] 84) (Value.int IntKind.u64 (D.1:Int)) (Value.int IntKind.u64 (D.2:Int)) 84
 have r3:=rowIs_two' (w.alloc (Obj.cells #[Value.int IntKind.u64 (L.1:Int),Value.int IntKind.u64 (L.2:Int)] 84)) (Obj.cells #[Value.int IntKind.u64 (D.1:Int),Value.int IntKind.u64 (D.2:Int)] 84) (Value.int IntKind.u64 0) (Value.int IntKind.u64 0) 84
 exact {
  lrow:=(r1.alloc _).alloc _
  drow:=r2.alloc _
  frow:=by
   have:(w.alloc (Obj.cells #[Value.int IntKind.u64 (L.1:Int),Value.int IntKind.u64 (L.2:Int)] 84)).heap.size + 1=w.heap.size + 2:=by simp
   rw [this] at r3;exact r3
  sto:=hS.later hb
  below:=hb.mono hS.bsize
  keeps:=Keeps.of_below hb
  hs:=by simp
  tab:=hT.later (hb.mono hS.bsize)
  bw:=hS.bsize }
theorem new_two {X w6:World} (hb:Below ((X.alloc (.cells #[.int .u64 0,.int .u64 0] 84)).drew).heap.size ((X.alloc (.cells #[.int .u64 0,.int .u64 0] 84)).drew) w6):Hid (w6.rowIs X.heap.size 84 2 (keyF (0,0))):=by
 have r:=(rowIs_two X (.int .u64 0) (.int .u64 0) 84).drew
 exact r.of_block (hb.block _ r.lt)
theorem new_two' {X w6:World} (hb:Below (X.alloc (.cells #[.int .u64 0,.int .u64 0] 84)).heap.size (X.alloc (.cells #[.int .u64 0,.int .u64 0] 84)) w6):Hid (w6.rowIs X.heap.size 84 2 (keyF (0,0))):=by
 have r:=rowIs_two X (.int .u64 0) (.int .u64 0) 84
 exact r.of_block (hb.block _ r.lt)
theorem old_two {X w7:World} {c:Nat} (hb:Below X.drew.heap.size X.drew w7) (h:Hid (X.rowIs c 84 2 (keyF (0,0)))):Hid (w7.rowIs c 84 2 (keyF (0,0))):=(unhide h).of_block (hb.block _ (unhide h).lt)
theorem old_two' {X w7:World} {c:Nat} (hb:Below X.heap.size X w7) (h:Hid (X.rowIs c 84 2 (keyF (0,0)))):Hid (w7.rowIs c 84 2 (keyF (0,0))):=(unhide h).of_block (hb.block _ (unhide h).lt)
theorem row_facts {w7:World} {c:Nat} {s:Key} (h:Hid (w7.rowIs c 84 2 (keyF s))):w7.cell? ⟨c,0,none⟩=some (.int .u64 (s.1:Int))∧w7.cell? ⟨c,1,none⟩=some (.int .u64 (s.2:Int))∧w7.frozen? ⟨c,0,none⟩=false∧w7.frozen? ⟨c,1,none⟩=false:=
 ⟨(unhide h).cell (i:=0) (by omega),(unhide h).cell (i:=1) (by omega),(unhide h).frozen 0,(unhide h).frozen 1⟩
def FreeAt (wr:World) (i:Nat) (free:Key) (p i25:Value) (wx:World):Prop:=
 ∃ b:Nat,p=.pointer (some ⟨b,0,none⟩)∧i25=.int .i64 i∧Hid (Below wr.heap.size wr wx∧wx.rowIs b 84 2 (keyF free)∧wr.heap.size ≤ b)
def CondAt (wr:World) (i fb:Nat) (c:Bool) (p i25 v:Value) (wx:World):Prop:=p=.pointer (some ⟨fb,0,none⟩)∧i25=.int .i64 i∧v=.bool c∧Hid (Below wr.heap.size wr wx)
def MovAt (w3:World) (i fb cb o:Nat) (k:Key) (p i25:Value) (wx:World):Prop:=p=.pointer (some ⟨fb,0,none⟩)∧i25=.int .i64 i∧∃ w7,Hid (Below w3.heap.size w3 w7)∧wx=(w7.setCell ⟨cb,o,none⟩ (.int .u64 (k.1:Int))).setCell ⟨cb,o + 1,none⟩ (.int .u64 (k.2:Int))
theorem free_new {wr w7:World} {i:Nat} {free:Key} (B7:Below wr.heap.size wr w7):FreeAt wr i free (.pointer (some ⟨w7.heap.size,0,none⟩)) (.int .i64 i) (w7.alloc (.cells #[.int .u64 (free.1:Int),.int .u64 (free.2:Int)] 84)):=
 ⟨_,rfl,rfl,B7.alloc B7.size _,rowIs_two _ _ _ _,B7.size⟩
theorem free_set {wr w7:World} {i b:Nat} {free:Key} (B7:Below wr.heap.size wr w7) (hb:wr.heap.size ≤ b) (R:Hid (w7.rowIs b 84 2 (keyF (0,0)))):FreeAt wr i free (.pointer (some ⟨b,0,none⟩)) (.int .i64 i) ((w7.setCell ⟨b,0,none⟩ (.int .u64 (free.1:Int))).setCell ⟨b,1,none⟩ (.int .u64 (free.2:Int))):=
 ⟨b,rfl,rfl,(B7.setCell hb _).setCell hb _,keyF_set (unhide R),hb⟩
set_option maxHeartbeats 4000000 in
set_option maxRecDepth 100000 in
theorem falsify_any {B sb mb:Nat} {cv:Value} {gone:Int} {u:Key} {wv:Nat→Value} {es:List Ent} {wl:Nat→List Nat} (lit:Int) (down0:Key) (w:World) (il:IsLit lit) (hd:down0.ok) (hdl:down0.has (-lit)=true) (hlen:es.length ≤ 2097152)
  (hS:Sto B sb w cv mb gone u wv es wl) (hT:Tab B w) (hW:WInv es wl):
  Calls Tryz.prog 167 #[.pointer (some ⟨sb,0,none⟩),keyV (single lit),keyV down0] w fun e w'=>FalRet B sb w lit down0 cv mb gone u es e w':=by
 have M0:=hide (FalMem.start (single lit) down0 hS hT)
 have HW:=hide hW
 have plt:=place_lt il
 obtain ⟨wa,wcap,hwsh⟩:=own_shape (hS.wat (place lit) plt)
 have olen:=hW.len plt
 have QP:Hid (∀ W,Tab B W→Calls Tryz.prog 199 #[keyV (single lit)] W fun e w'=>e=.returned (.int .i64 (place lit:Nat))∧Below W.heap.size W w'):=fun W h=>place_any lit W il h.1
 unfold keyV at QP ⊢
 clear hS hT hW
 go_enter Tryz.func167,Tryz.ntmps167
 go_upto_region 1 with fail
 obtain ⟨W,hWd⟩:∃ W,W=((w.alloc (Obj.cells #[Value.int IntKind.u64 ((single lit).1:Int),Value.int IntKind.u64 ((single lit).2:Int)] 84)).alloc (Obj.cells #[Value.int IntKind.u64 (down0.1:Int),Value.int IntKind.u64 (down0.2:Int)] 84)).alloc (Obj.cells #[Value.int IntKind.u64 0,Value.int IntKind.u64 0] 84):=⟨_,rfl⟩
 rw [← hWd] at M0 ⊢
 clear hWd
 have x0:=(unhide M0).lrow.cell (i:=0) (by omega)
 have x1:=(unhide M0).lrow.cell (i:=1) (by omega)
 unfold keyF pairF at x0 x1
 simp only [if_true,show ¬ (1=0) by decide,if_false] at x0 x1
 have qp:=unhide QP W (unhide M0).tab
 go_wp2_with fail
 with_reducible refine qp.mono ?_
 rintro e8 w8 ⟨rfl,hb8⟩
 simp only []
 have M8:=hide ((unhide M0).later hb8)
 have hh:=((unhide M8).sto.head (5 + place lit) (by omega)).1
 rw [show stoF cv mb gone u wv (5 + place lit)=wv (place lit) by rw [Nat.add_comm];rfl,hwsh] at hh
 have p0:(0:Int) ≤ (place lit:Nat):=by omega
 have p1:((place lit:Nat):Int) < 128:=by omega
 go_wp2
 have S0:Hid (FalSt B sb w lit down0 cv mb gone u es (wl (place lit)) (wv (place lit)) 0 [] (0,0) wv es wl w8):=FalSt.start (unhide M8) (unhide HW)
 rw [hwsh] at S0
 have HES:=hide hlen
 have wforms:(wa=none∧(wl (place lit)).length=0∧wcap=0)∨∃ gb,wa=some ⟨gb,0,none⟩∧(wl (place lit)).length ≤ wcap:=by
  have hw:=(unhide M8).sto.wat (place lit) plt
  rw [hwsh] at hw
  rcases hw.2 with ⟨e,h0⟩ | ⟨g,cap',cur,e,_,_,hn,_⟩
  ·obtain ⟨e1,e2,e3⟩:=Value.slice.inj e;exact .inl ⟨e1,e2,e3⟩
  ·obtain ⟨e1,e2,e3⟩:=Value.slice.inj e;exact .inr ⟨g,e1,by rw [e3];exact hn⟩
 clear hh qp x0 x1 hb8 M8 M0 hwsh HW QP
 generalize wl (place lit)=orig at S0 olen wforms ⊢
 go_loopw [10,25] (fun k i wr=>FalRel B sb w lit down0 cv mb gone u es orig (.slice wa orig.length wcap) k i wr) (fun k i _=>orig.length - (intOf i).toNat)
 case atStart=>exact ⟨0,[],(0,0),_,_,_,rfl,rfl,S0⟩
 case round=>
  clear S0
  obtain ⟨i,kl,F,wv',es',wl',rfl,rfl,hst⟩:=hrel
  have hil:=(unhide hst).finv.ilen
  have hkl:=(unhide hst).finv.klen
  have hsr:=(unhide hst).mem.hs
  by_cases hlt:i < orig.length
  ·obtain ⟨gb,rfl,hcap⟩:∃ gb,wa=some ⟨gb,0,none⟩∧orig.length ≤ wcap:=by
    rcases wforms with ⟨_,h0,_⟩ | h
    ·omega
    ·exact h
   clear wforms
   obtain ⟨hj,b,hsz,hbl,ib,hsl,hsb',hwe,_⟩:=(unhide hst).finv.pair il hlt
   obtain ⟨cb,cap,hcv,hcb1,hcb2,hcb3,hcap2,hcells⟩:=(unhide hst).mem.sto.ents _ hj
   have hown:=(unhide hst).mem.sto.wat (place lit) plt
   simp only [if_true] at hown
   rw [(unhide hst).hv,mix_len (by omega)] at hown
   have hat:=hown.cellAt i (by omega)
   have hat2:wr.cell? ⟨gb,i,none⟩=some (.int .i64 (orig[i]:Nat)):=by
    rw [hat];unfold natsV
    rw [List.getElem?_map,List.getElem?_eq_getElem (by rw [mix_len (by omega)];exact hlt),mix_at hkl hlt];rfl
   have hfz:=hown.frozenAt kl.length
   have heslen:es'.length=es.length:=sigs_len (unhide hst).finv.same
   have KEEP:Hid (∀ F' ws,FalMem B sb w (single lit) (down0.un F') F' cv mb gone u wv' es' (fun k=>if k=place lit then mix kl orig else wl' k) ws→FInv es lit down0 orig (i + 1) es' wl' (kl ++ [orig[i]]) F'→FalSt B sb w lit down0 cv mb gone u es orig (.slice (some ⟨gb,0,none⟩) orig.length wcap) (i + 1) (kl ++ [orig[i]]) F' wv' es' wl' (ws.setCell ⟨gb,kl.length,none⟩ (.int .i64 (orig[i]:Nat)))):=fun F' ws hM hF=>FalSt.keep hM (unhide hst).hv il hlt hkl hF
   have NSKIP:Hid (((es'[orig[i]]).times=0∨meetB (es'[orig[i]]).set (down0.un F)=true)→FInv es lit down0 orig (i + 1) es' wl' (kl ++ [orig[i]]) F):=fun h=>(unhide hst).finv.skip hlt fun hj ht=>by
    rcases h with h | h
    ·omega
    ·exact (meetB_iff _ _).1 h
   have NUNIT:Hid (0 < (es'[orig[i]]).times→meetB (es'[orig[i]]).set (down0.un F)=false→∀ l,IsLit l→(es'[orig[i]]).set.wo (down0.un F).op=single l→FInv es lit down0 orig (i + 1) es' wl' (kl ++ [orig[i]]) (F.un (single l))):=fun h1 h2 l h3 h4=>(unhide hst).finv.unit hlt hj h1 h3 h4 (fun h=>by rw [(meetB_iff _ _).2 h] at h2;cases h2)
   have NCONF:Hid (0 < (es'[orig[i]]).times→(es'[orig[i]]).set.wo (down0.un F).op=(0,0)→FalsPost es es' lit down0 F true):=fun h1 h2=>(unhide hst).finv.confl hlt hj h1 h2
   have NMOVE:Hid (∀ c,IsLit c→(es'[orig[i]]).set.has c=true→c ≠ lit→(es'[orig[i]]).watched.has c=false→(down0.un F).has (-c)=false→FInv es lit down0 orig (i + 1) (withW es' orig[i] (((es'[orig[i]]).watched.wo (single lit)).un (single c))) (fun k=>if k=place c then wl' k ++ [orig[i]] else wl' k) kl F):=fun c h1 h2 h3 h4 h5=>(unhide hst).finv.move hlt il h1 hj h2 h3 h4 h5
   have sok:(es'[orig[i]]).set.ok:=(unhide hst).finv.winv.ok _ (List.getElem_mem _)
   have wok:(es'[orig[i]]).watched.ok:=(unhide hst).finv.winv.wok hj
   have dok:(down0.un F).ok:=un_ok hd (unhide hst).finv.fok
   have c0:=(hcells 0 (by omega)).1
   have c1:=(hcells 1 (by omega)).1
   have c2:=(hcells 2 (by omega)).1
   have c3:=(hcells 3 (by omega)).1
   have c4:=(hcells 4 (by omega)).1
   have f2:=(hcells 2 (by omega)).2
   have f3:=(hcells 3 (by omega)).2
   simp only [entV,List.getElem?_cons_succ,List.getElem?_cons_zero] at c0 c1 c2 c3 c4
   have d0:=(unhide hst).mem.drow.cell (i:=0) (by omega)
   have d1:=(unhide hst).mem.drow.cell (i:=1) (by omega)
   unfold keyF pairF at d0 d1
   simp only [if_true,show ¬ (1=0) by decide,if_false] at d0 d1
   have y0:wr.cell? ⟨sb,0,none⟩=some cv:=((unhide hst).mem.sto.head 0 (by omega)).1
   subst hcv
   have HSL:=hide hsl
   have HSB:=hide hsb'
   have HWE:=hide hwe
   have HJ:=hide hj
   have ji:(orig[i]:Nat) < es'.length:=hj
   clear hsl hsb' hwe hcells hown hat hsz
   generalize (es'[orig[i]]).set=s at *
   generalize (es'[orig[i]]).watched=wk at *
   generalize (es'[orig[i]]).times=t at *
   generalize hD:down0.un F=D at *
   obtain ⟨j,hjj⟩:∃ j:Nat,orig[i]=j:=⟨_,rfl⟩
   simp only [hjj] at hat2 c0 c1 c2 c3 c4 f2 f3 KEEP NSKIP NUNIT NCONF NMOVE ji
   have HJJ:=hide hjj
   clear hjj
   have c0:wr.cell? ⟨cb,j * 5,none⟩=some (.int .u64 (s.1:Int)):=c0
   have ji0:(0:Int) ≤ (j:Int):=by omega
   have ji1:(j:Int) < (es'.length:Int):=by omega
   have ii0:(0:Int) ≤ (i:Int):=by omega
   have ii1:(i:Int) < (orig.length:Int):=by omega
   have QO:Hid (∀ W,Calls Tryz.prog 118 #[keyV D] W fun e w'=>e=.returned (keyV D.op)∧Below W.heap.size W w'):=fun W=>opposites_any D W
   have QF:Hid (∀ W,Calls Tryz.prog 114 #[keyV s,keyV D.op] W fun e w'=>e=.returned (keyV (s.wo D.op))∧Below W.heap.size W w'):=fun W=>without_any s D.op W sok (op_ok dok)
   have fok:(s.wo D.op).ok:=wo_ok sok _
   unfold keyV at QO QF
   have HFR:Hid (s.wo D.op=s.wo D.op):=rfl
   generalize hfr:s.wo D.op=free at QF fok NUNIT NCONF
   have HF:=hide hfr
   generalize D.op=op at QO QF
   clear hfr HFR
   go_upto_region 8 with fail
   go_cut [14,25] from 25 to 112 (fun p i25 wx=>FreeAt wr i free p i25 wx)
   case first=>
    have KS:Hid (∀ w',Below wr.heap.size wr w'→w'.cell? ⟨cb,j * 5,none⟩=some (.int .u64 (s.1:Int))∧w'.cell? ⟨cb,j * 5 + 1,none⟩=some (.int .u64 (s.2:Int))):=fun w' h=>
     ⟨(h.cell (p:=⟨cb,j * 5,none⟩) hcb2).trans c0,(h.cell (p:=⟨cb,j * 5 + 1,none⟩) hcb2).trans c1⟩
    have lt1:w.heap.size + 1 < wr.heap.size:=by omega
    have ne1:¬ (w.heap.size + 1=wr.heap.size):=by omega
    have ne2:¬ (wr.heap.size=w.heap.size + 1):=by omega
    have ne3:¬ (cb=wr.heap.size):=by omega
    have ne4:¬ (wr.heap.size=cb):=by omega
    go_region_with (first
     |(go_at_call 118;refine (unhide QO _).mono ?_;rintro e6 w6 ⟨rfl,hb6⟩;have B6:Hid (Below wr.heap.size wr w6):=(by first | exact (Below.refl _ _).drew.trans hb6 | exact ((Below.refl _ _).drew.alloc (Nat.le_refl _) _).drew.trans (hb6.mono (by simp)) | exact ((Below.refl _ _).alloc (Nat.le_refl _) _).drew.trans (hb6.mono (by simp)));obtain ⟨k0,k1⟩:=unhide KS w6 (unhide B6);have l6:cb < w6.heap.size:=(by have:=(unhide B6).size;omega);(first | (have N6:=(by with_reducible exact new_two hb6)) | (have N6:True:=trivial));clear hb6;simp only [])
     |(go_at_call 114;refine (unhide QF _).mono ?_;rintro e7 w7 ⟨rfl,hb7⟩;have B7:Hid (Below wr.heap.size wr w7):=(by first | exact (unhide B6).trans (hb7.mono (unhide B6).size) | exact ((unhide B6).alloc (unhide B6).size _).trans (hb7.mono (by have:=(unhide B6).size;simp;omega)) | exact (unhide B6).drew.trans (hb7.mono (unhide B6).size) | exact ((unhide B6).alloc (unhide B6).size _).drew.trans (hb7.mono (by have:=(unhide B6).size;simp;omega)));(first | (have R7:=(by with_reducible exact new_two' hb7);obtain ⟨m0,m1,m2,m3⟩:=row_facts R7) | (have R7:=(by with_reducible exact old_two' hb7 N6);obtain ⟨m0,m1,m2,m3⟩:=row_facts R7) | (have R7:=(by with_reducible exact new_two hb7);obtain ⟨m0,m1,m2,m3⟩:=row_facts R7) | (have R7:=(by with_reducible exact old_two hb7 N6);obtain ⟨m0,m1,m2,m3⟩:=row_facts R7) | skip);clear hb7;simp only []))
    all_goals
     go_wp2_with fail
     go_meet
     first
      | exact free_new (unhide B7)
      | exact free_set (unhide B7) (Nat.le_refl _) R7
      | exact free_set (unhide B7) (unhide B6).size R7
   case rest=>
    obtain ⟨fb,rfl,rfl,HFA⟩:=hcut
    have M1:Hid (FalMem B sb w (single lit) D F (.slice (some ⟨cb,0,none⟩) es'.length cap) mb gone u wv' es' (fun k=>if k=place lit then mix kl orig else wl' k) wc):=by
     have:=(unhide hst).mem.later (unhide HFA).1
     rw [hD] at this;exact this
    have QM:Hid (∀ W,Calls Tryz.prog 168 #[keyV s,keyV D] W fun e w'=>e=.returned (.bool (meetB s D))∧Below W.heap.size W w'):=fun W=>meets_any s D W sok dok
    unfold keyV at QM
    have e0:=((unhide HFA).1.cell (p:=⟨cb,j * 5,none⟩) hcb2).trans c0
    have e1:=((unhide HFA).1.cell (p:=⟨cb,j * 5 + 1,none⟩) hcb2).trans c1
    have e4:=((unhide HFA).1.cell (p:=⟨cb,j * 5 + 4,none⟩) hcb2).trans c4
    have d0':=((unhide HFA).1.cell (p:=⟨w.heap.size + 1,0,none⟩) (by simp;omega)).trans d0
    have d1':=((unhide HFA).1.cell (p:=⟨w.heap.size + 1,1,none⟩) (by simp;omega)).trans d1
    have mm:∃ m,meetB s D=m:=⟨_,rfl⟩
    obtain ⟨m,hm⟩:=mm
    rw [hm] at QM
    have HM:=hide hm
    clear hm
    go_upto_region 9 with fail
    go_cut [14,25,56] from 25 to 112 (fun p i25 v wx=>CondAt wc i fb (decide (0 < t) && !m) p i25 v wx)
    case first=>
     by_cases ht:t=0
     ·subst ht
      go_quiet (fail)
      go_wp2
      go_meet
      exact ⟨rfl,rfl,rfl,bel_drewN' (Below.refl _ _) _⟩
     ·obtain ⟨t',rfl⟩:∃ t',t=t' + 1:=⟨t - 1,by omega⟩
      have E:Hid ((decide (0 < t' + 1) && !m)=!m):=by unfold Hid;rw [decide_eq_true (by omega)];rfl
      go_region_with (go_at_call 168;refine (unhide QM _).mono ?_;rintro e6 w6 ⟨rfl,hb6⟩;have B6:Hid (Below wc.heap.size wc w6):=(by first | exact (Below.refl _ _).drew.trans hb6 | exact hb6);clear hb6;simp only [])
      all_goals
       go_wp2_with fail
       go_meet
       exact ⟨rfl,rfl,by rw [unhide E],unhide B6⟩
    case rest=>
     obtain ⟨rfl,rfl,rfl,B2⟩:=hcut
     have M2:=hide ((unhide M1).later (unhide B2))
     have gw:=(unhide M2).sto.wat (place lit) plt
     simp only [if_true] at gw
     rw [(unhide hst).hv,mix_len (by omega)] at gw
     have klt:kl.length < orig.length:=by omega
     have g1:=gw.cellAt kl.length (by omega)
     rw [List.getElem?_eq_getElem (by rw [natsV_len,mix_len (by omega)];exact klt)] at g1
     have g2:=gw.frozenAt kl.length
     obtain ⟨gx,hgx⟩:∃ x,(natsV (mix kl orig))[kl.length]'(by rw [natsV_len,mix_len (by omega)];exact klt)=x:=⟨_,rfl⟩
     rw [hgx] at g1
     have k0:(0:Int) ≤ (kl.length:Int):=by omega
     have k1:(kl.length:Int) < (orig.length:Int):=by omega
     clear gw hgx
     by_cases hc:(decide (0 < t) && !m)=false
     ·have SK:Hid (t=0∨meetB s D=true):=by
       unfold Hid
       rw [unhide HM]
       cases m with
       | true=>exact .inr rfl
       | false=>left;simpa using hc
      have NX:Hid (FalSt B sb w lit down0 (.slice (some ⟨cb,0,none⟩) es'.length cap) mb gone u es orig (.slice (some ⟨gb,0,none⟩) orig.length wcap) (i + 1) (kl ++ [j]) F wv' es' wl' (wc.setCell ⟨gb,kl.length,none⟩ (.int .i64 (j:Int)))):=by
       have M3:=unhide M2
       rw [← hD] at M3
       exact unhide KEEP F _ M3 (unhide NSKIP (unhide SK))
      rw [hc]
      clear SK M2 M1
      go_wp2
      go_roundw
      case rel=>exact ⟨i + 1,kl ++ [j],F,wv',es',wl',by simp,ret_int' (by omega),NX⟩
      case measure=>simp [intOf];omega
     ·have ct:(decide (0 < t) && !m)=true:=by cases h:(decide (0 < t) && !m) <;> simp_all
      have tp:0 < t:=by
       have:=ct;simp only [Bool.and_eq_true,decide_eq_true_eq] at this;exact this.1
      have mf:m=false:=by
       have:=ct;simp only [Bool.and_eq_true,Bool.not_eq_true'] at this;exact this.2
      rw [mf] at HM
      rw [ct]
      clear hc ct
      have FR:Hid (wc.rowIs fb 84 2 (keyF free)):=(unhide HFA).2.1.of_block ((unhide B2).block _ (unhide HFA).2.1.lt)
      have fbr:=(unhide HFA).2.2
      obtain ⟨r0,r1,_,_⟩:=row_facts FR
      have QS:Hid (∀ W,Calls Tryz.prog 110 #[keyV free] W fun e w'=>e=.returned (.int .i64 (free.size:Nat))∧Below W.heap.size W w'):=fun W=>size_any free W fok
      unfold keyV at QS
      obtain ⟨n,hn⟩:∃ n:Nat,free.size=n:=⟨_,rfl⟩
      rw [hn] at QS
      have HN:=hide hn
      clear hn
      go_upto_region 10 with fail
      go_wp2_with fail
      with_reducible refine (unhide QS _).mono ?_
      rintro e3 w3 ⟨rfl,hb3⟩
      simp only []
      have M3:=hide ((unhide M2).later hb3)
      have FR3:Hid (w3.rowIs fb 84 2 (keyF free)):=(unhide FR).of_block (hb3.block _ (unhide FR).lt)
      have B3:=hide hb3
      clear hb3 r0 r1
      by_cases n0:n=0
      ·subst n0
       have hf0:=size_zero fok (unhide HN)
       have FP:=hide (unhide NCONF tp hf0)
       have WI:=hide (unhide hst).finv.winv
       clear hf0
       obtain ⟨cur,hg,hBg,-,-⟩:=(unhide M3).sto.wlt plt (unhide hst).hv
       have gw:=(unhide M3).sto.wat (place lit) plt
       simp only [if_true] at gw
       rw [(unhide hst).hv,mix_len (by omega)] at gw
       obtain ⟨N,hN⟩:∃ N,N=orig.length - i:=⟨_,rfl⟩
       obtain ⟨cs,hcs⟩:∃ cs,cs=natsV (orig.drop i):=⟨_,rfl⟩
       have hl:cs.length=N:=by rw [hcs,hN,natsV_len];simp
       have hsrc:Hid (∀ j v,cs[j]? = some v→w3.cell? (Addr.add ⟨gb,i,none⟩ j)=some v):=by rw [hcs];exact copy_src gw hkl
       have hcur:orig.length ≤ cur.size:=copy_fit gw hg
       have HCS:=hide hcs
       have HG:=hide hg
       have h1c:Hid (∀ v ∈ cs,v.oneCell'=true):=by rw [hcs];exact nats_one _
       have HNN:=hide hN
       have CP:Hid (∀ w',w'.heap[gb]? = some (.cells (splice cur.toList kl.length cs).toArray 3 (0,0))→(∀ k,k ≠ gb→w'.heap[k]? = w3.heap[k]?)→Below B w3 w'→FalMem B sb w (single lit) D F (.slice (some ⟨cb,0,none⟩) es'.length cap) mb gone u wv' es' (fun k=>if k=place lit then kl ++ orig.drop i ++ orig.drop (kl.length + N) else wl' k) w'):=fun w' q1 q2 q3=>by
        rw [unhide HCS] at q1
        rw [unhide HNN]
        exact (unhide M3).copied (unhide hst).hv il hkl (by omega) (unhide HG) q1 q2 q3
       have i1:(i:Int) < (wcap:Int):=by omega
       have i2:(i:Int) ≤ (wcap:Int):=by omega
       have i3:(i:Int) ≤ (orig.length:Int):=by omega
       have k2:(kl.length:Int) < (wcap:Int):=by omega
       have k3:(kl.length:Int) ≤ (orig.length:Int):=by omega
       have k4:(kl.length:Int) ≤ (wcap:Int):=by omega
       have wn1:¬ (wcap=i):=by omega
       have wn2:¬ (wcap=kl.length):=by omega
       have n1:i < wcap:=by omega
       have n2:kl.length < wcap:=by omega
       have hmn:N=Nat.min (orig.length - i) (orig.length - kl.length):=by rw [hN];exact (Nat.min_eq_left (by omega)).symm
       have hft:kl.length + N ≤ cur.size:=by omega
       have b9:kl.length + N ≤ 4194304:=by have:=unhide HES;omega
       clear gw hcs hg hN
       go_upto_region 14 with fail
       go_cut [10] from 25 to 112 (fun k wx=>k=.int .i64 ((kl.length + N:Nat):Int)∧Hid (FalMem B sb w (single lit) D F (.slice (some ⟨cb,0,none⟩) es'.length cap) mb gone u wv' es' (fun k=>if k=place lit then kl ++ orig.drop i ++ orig.drop (kl.length + N) else wl' k) wx))
       case first=>
        go_region_law (refine step_copy_one (by rfl) _ _ 43 43 (by rfl) 3 Tryz.underlying43 (by rfl) gb kl.length ⟨gb,i,none⟩ (orig.length - kl.length) (wcap - kl.length) (orig.length - i) (wcap - i) (by simp [Act.eval,Act.put]) (by simp [Act.eval,Act.put]) cur 3 (unhide HG) cs (by rw [hl];exact hmn) (unhide hsrc) (by rw [hl];exact hft) (unhide h1c) B hBg ?_;intro w9 H1 H2 H3;rw [hl])
        all_goals
         go_wp2_with fail
         go_meet
         refine ⟨?_,unhide CP w9 (unhide H1) (unhide H2) ((Below.refl B w3).drew.trans (unhide H3))⟩
         rw [← hmn,wraps_i64' _ (by omega) (by omega),Int.natCast_add]
       case rest=>
        obtain ⟨rfl,M9⟩:=hcut
        have hh:=(unhide M9).sto.head (5 + place lit) (by omega)
        rw [show stoF (.slice (some ⟨cb,0,none⟩) es'.length cap) mb gone u wv' (5 + place lit)=wv' (place lit) by rw [Nat.add_comm];rfl,(unhide hst).hv] at hh
        obtain ⟨z1,z2⟩:=hh
        have q1:(0:Int) ≤ ((kl.length + N:Nat):Int):=by omega
        have q2:((kl.length + N:Nat):Int) ≤ (wcap:Int):=by have:=unhide HNN;omega
        have O:Hid (FalMem B sb w (single lit) (down0.un F) F (.slice (some ⟨cb,0,none⟩) es'.length cap) mb gone u (fun k=>if k=place lit then .slice (some ⟨gb,0,none⟩) (kl.length + N) wcap else wv' k) es' (fun k=>if k=place lit then kl ++ orig.drop i else wl' k) (wc.setCell ⟨sb,5 + place lit,none⟩ (.slice (some ⟨gb,0,none⟩) (kl.length + N) wcap))):=by
         have M10:=unhide M9
         rw [← hD,unhide HNN] at M10
         rw [unhide HNN]
         exact (M10.confl (unhide hst).hv il (unhide WI) (unhide FP)).2
        clear hcur hmn hft hsrc h1c CP HCS HG
        go_upto_region 15 with fail
        go_cut [7] from 25 to 112 (fun v wx=>wx=(wc.setCell ⟨sb,5 + place lit,none⟩ (.slice (some ⟨gb,0,none⟩) (kl.length + N) wcap)).drew)
        case first=>
         go_region
         all_goals
          go_wp2_with fail
          go_meet
          rfl
        case rest=>
         have OD:=hide ((unhide O).later (Below.refl _ _).drew)
         rw [← hcut] at OD
         clear hcut
         obtain ⟨x0,x1,x2,x3⟩:=row_facts (hide (unhide OD).frow)
         have O9:=hide ((unhide OD).putF F)
         go_wp2
         refine @bodyPost_ret _ _ _ _ _ (.tuple #[.agg #[.int .u64 (F.1:Int),.int .u64 (F.2:Int)],.bool true]) ?_ ?_ ?_
         ·simp [results,Tryz.results167,go_sem,x0,x1]
         ·rfl
         ·exact ⟨F,true,_,es',_,rfl,(unhide O9).below,(unhide O9).keeps,(unhide O9).sto,unhide FP,unhide WI⟩
      ·by_cases n1:n=1
       ·subst n1
        obtain ⟨l,ll,hfl⟩:=size_one fok (unhide HN)
        have NF:=hide (unhide NUNIT tp (unhide HM) l ll hfl)
        obtain ⟨r0,r1,_,_⟩:=row_facts FR3
        obtain ⟨f0,f1,f4,f5⟩:=row_facts (hide (unhide M3).frow)
        have QU:Hid (∀ W,Calls Tryz.prog 75 #[keyV F,keyV free] W fun e w'=>e=.returned (keyV (F.un free))∧Below W.heap.size W w'):=fun W=>union_any F free W (unhide hst).finv.fok fok
        have QV:Hid (∀ W,Calls Tryz.prog 75 #[keyV D,keyV free] W fun e w'=>e=.returned (keyV (D.un free))∧Below W.heap.size W w'):=fun W=>union_any D free W dok fok
        rw [← hfl] at NF
        clear hfl
        have un3:Hid (down0.un (F.un free)=D.un free):=by
         unfold Hid;rw [← hD];exact key_ext fun x=>by simp only [has_un,Bool.or_assoc]
        unfold keyV at QU QV
        generalize hnf:F.un free=nf at QU NF un3
        generalize hnd:D.un free=nd at QV un3
        go_upto_region 18 with fail
        go_wp2_with fail
        with_reducible refine (unhide QU _).mono ?_
        rintro e4 w4 ⟨rfl,hb4⟩
        simp only []
        have M4':=hide ((unhide M3).later hb4)
        obtain ⟨x0,x1,x2,x3⟩:=row_facts (hide (unhide M4').frow)
        have M5:=hide ((unhide M4').putF nf)
        have FR4:Hid (w4.rowIs fb 84 2 (keyF free)):=(unhide FR3).of_block (hb4.block _ (unhide FR3).lt)
        have nfb:fb ≠ w.heap.size + 2:=by omega
        have FR5:=hide ((unhide FR4).of_block (two_other (wr:=w4) (x:=.int .u64 (nf.1:Int)) (y:=.int .u64 (nf.2:Int)) fb nfb))
        clear f0 f1 f4 f5 r0 r1 hb4
        go_upto_region 19 with fail
        generalize hw5:(w4.setCell ⟨w.heap.size + 1 + 1,0,none⟩ (.int .u64 (nf.1:Int))).setCell ⟨w.heap.size + 1 + 1,1,none⟩ (.int .u64 (nf.2:Int))=w5 at M5 FR5 ⊢
        clear hw5 x0 x1 x2 x3
        obtain ⟨r0,r1,_,_⟩:=row_facts FR5
        obtain ⟨f0,f1,f4,f5⟩:=row_facts (hide (unhide M5).drow)
        go_wp2_with fail
        with_reducible refine (unhide QV _).mono ?_
        rintro e6 w6 ⟨rfl,hb6⟩
        simp only []
        have M6:=hide ((unhide M5).later hb6)
        obtain ⟨x0,x1,x2,x3⟩:=row_facts (hide (unhide M6).drow)
        have M7:=hide ((unhide M6).putD nd)
        clear f0 f1 f4 f5 r0 r1 hb6
        go_upto_region 20 with fail
        generalize hw7:(w6.setCell ⟨w.heap.size + 1,0,none⟩ (.int .u64 (nd.1:Int))).setCell ⟨w.heap.size + 1,1,none⟩ (.int .u64 (nd.2:Int))=w7 at M7 ⊢
        clear hw7 x0 x1 x2 x3 g1 g2
        have gw:=(unhide M7).sto.wat (place lit) plt
        simp only [if_true] at gw
        rw [(unhide hst).hv,mix_len (by omega)] at gw
        have g1:=gw.cellAt kl.length (by omega)
        rw [List.getElem?_eq_getElem (by rw [natsV_len,mix_len (by omega)];exact klt)] at g1
        have g2:=gw.frozenAt kl.length
        obtain ⟨gx',hgx⟩:∃ x,(natsV (mix kl orig))[kl.length]'(by rw [natsV_len,mix_len (by omega)];exact klt)=x:=⟨_,rfl⟩
        rw [hgx] at g1
        clear gw hgx
        have NX:Hid (FalSt B sb w lit down0 (.slice (some ⟨cb,0,none⟩) es'.length cap) mb gone u es orig (.slice (some ⟨gb,0,none⟩) orig.length wcap) (i + 1) (kl ++ [j]) nf wv' es' wl' (w7.setCell ⟨gb,kl.length,none⟩ (.int .i64 (j:Int)))):=by
         have M8:=unhide M7
         rw [← unhide un3] at M8
         exact unhide KEEP nf _ M8 (unhide NF)
        clear M7 M6 M5 M4' M3 M2 M1 FR FR3 FR4 FR5
        go_wp2
        go_roundw
        case rel=>exact ⟨i + 1,kl ++ [j],nf,wv',es',wl',by simp,ret_int' (by omega),NX⟩
        case measure=>simp [intOf];omega
       ·have n2:2 ≤ free.size:=by rw [unhide HN];omega
        have HN2:=hide n2
        have nb0:((n:Int) == 0)=false:=by simp;omega
        have nb1:((n:Int) == 1)=false:=by simp;omega
        obtain ⟨l0,l1,_,_⟩:=row_facts (hide (unhide M3).lrow)
        have B13:Hid (Below wr.heap.size wr w3):=((unhide HFA).1.trans ((unhide B2).mono (unhide HFA).1.size)).trans ((unhide B3).mono (Nat.le_trans (unhide HFA).1.size (unhide B2).size))
        have v2:=((unhide B13).cell (p:=⟨cb,j * 5 + 2,none⟩) hcb2).trans c2
        have v3:=((unhide B13).cell (p:=⟨cb,j * 5 + 3,none⟩) hcb2).trans c3
        have v4:=((unhide B13).frozen (p:=⟨cb,j * 5 + 2,none⟩) hcb2).trans f2
        have v5:=((unhide B13).frozen (p:=⟨cb,j * 5 + 3,none⟩) hcb2).trans f3
        have cb3:cb < w3.heap.size:=by have:=(unhide B13).size;omega
        have QW:Hid (∀ W,Calls Tryz.prog 114 #[keyV wk,keyV (single lit)] W fun e w'=>e=.returned (keyV (wk.wo (single lit)))∧Below W.heap.size W w'):=fun W=>without_any wk (single lit) W wok (single_ok il)
        have k1b:Hid (wk.wo (single lit)=single b):=by
         unfold Hid;rw [unhide HWE]
         exact key_ext fun x=>by
          rw [has_wo,has_un,has_single (isLit_ne il),has_single (isLit_ne ib)]
          by_cases e1:x=lit
          ·have e2:¬ x=b:=fun e=>hbl (by rw [← e,e1])
           simp [e1];exact fun e=>hbl e.symm
          ·simp [e1]
        have k1ok:(wk.wo (single lit)).ok:=wo_ok wok _
        unfold keyV at QW
        have NM:=hide (unhide NMOVE)
        generalize wk.wo (single lit)=k1 at QW k1b k1ok NM NMOVE
        clear NMOVE
        go_upto_region 11 with fail
        go_cut [14,25] from 25 to 112 (fun p i25 wx=>MovAt w3 i fb cb (j * 5 + 2) k1 p i25 wx)
        case first=>
         have KS:Hid (∀ w',Below w3.heap.size w3 w'→w'.cell? ⟨cb,j * 5 + 2,none⟩=some (.int .u64 (wk.1:Int))∧w'.cell? ⟨cb,j * 5 + 3,none⟩=some (.int .u64 (wk.2:Int))∧w'.frozen? ⟨cb,j * 5 + 2,none⟩=false∧w'.frozen? ⟨cb,j * 5 + 3,none⟩=false):=fun w' h=>
          ⟨(h.cell (p:=⟨cb,j * 5 + 2,none⟩) cb3).trans v2,(h.cell (p:=⟨cb,j * 5 + 3,none⟩) cb3).trans v3,(h.frozen (p:=⟨cb,j * 5 + 2,none⟩) cb3).trans v4,(h.frozen (p:=⟨cb,j * 5 + 3,none⟩) cb3).trans v5⟩
         go_region_with (go_at_call 114;refine (unhide QW _).mono ?_;rintro e6 w6 ⟨rfl,hb6⟩;have B6:Hid (Below w3.heap.size w3 w6):=(by first | exact (Below.refl _ _).drew.trans hb6 | exact hb6);obtain ⟨y2,y3,y4,y5⟩:=unhide KS w6 (unhide B6);clear hb6;simp only [])
         all_goals
          go_wp2_with fail
          go_meet
          exact ⟨rfl,rfl,_,B6,rfl⟩
        case rest=>
         obtain ⟨rfl,rfl,w7,B7,hwc⟩:=hcut
         have M7:=(unhide M3).later (unhide B7)
         have M8:Hid (FalMem B sb w (single lit) D F (.slice (some ⟨cb,0,none⟩) es'.length cap) mb gone u wv' (withW es' j k1) (fun k=>if k=place lit then mix kl orig else wl' k) wc):=by
          unfold Hid;rw [hwc]
          exact M7.step (M7.sto.setW ji k1) (M7.sto.keeps_cb2 _ _ _ _) (((Below.refl _ _).setCell hcb1 _).setCell hcb1 _)
         have FR7:w7.rowIs fb 84 2 (keyF free):=(unhide FR3).of_block ((unhide B7).block _ (unhide FR3).lt)
         have FR8:Hid (wc.rowIs fb 84 2 (keyF free)):=by
          unfold Hid;rw [hwc]
          exact FR7.of_block (M7.sto.keeps_cb2 _ _ _ _ _ (row_foreign FR7))
         clear hwc M7 FR7
         have j8:j < (withW es' j k1).length:=by rw [withW_len];exact ji
         obtain ⟨cb',cap',hcv8,_,cb8,_,_,hcells8⟩:=(unhide M8).sto.ents j j8
         obtain ⟨ec1,_,_⟩:=Value.slice.inj hcv8
         have ecb:cb'=cb:=by have:=Option.some.inj ec1;exact (congrArg Addr.block this).symm
         subst ecb
         have u2:=(hcells8 2 (by omega)).1
         have u3:=(hcells8 3 (by omega)).1
         rw [withW_self es' j k1 j8 ji] at u2 u3
         simp only [entV,List.getElem?_cons_succ,List.getElem?_cons_zero] at u2 u3
         obtain ⟨q0,q1,_,_⟩:=row_facts FR8
         have fne:free.wo k1 ≠ (0,0):=by rw [unhide k1b];exact size_two_wo fok (unhide HN2) (isLit_ne ib)
         obtain ⟨p1,p2,p3⟩:=oneL_spec (wo_ok fok k1) fne
         have QA:Hid (∀ W,Calls Tryz.prog 114 #[keyV free,keyV k1] W fun e w'=>e=.returned (keyV (free.wo k1))∧Below W.heap.size W w'):=fun W=>without_any free k1 W fok k1ok
         have QB:Hid (∀ W,Calls Tryz.prog 158 #[keyV (free.wo k1)] W fun e w'=>e=.returned (keyV (free.wo k1).one)∧Below W.heap.size W w'):=fun W=>one_any _ W (wo_ok fok k1) fne
         rw [p1] at QB
         generalize (free.wo k1).oneL=c at p2 p3 QB
         rw [has_wo,Bool.and_eq_true,Bool.not_eq_true'] at p2
         have pf:=p2.1
         rw [← unhide HF,free_has,Bool.and_eq_true,Bool.not_eq_true'] at pf
         have hDl:D.has (-lit)=true:=by rw [← hD,has_un,hdl];rfl
         have hcl:c ≠ lit:=fun e=>by rw [e,hDl] at pf;exact absurd pf.2 (by simp)
         have hcb:c ≠ b:=fun e=>by
          have:=p2.2;rw [unhide k1b,has_single (isLit_ne ib),e] at this;simp at this
         have hwc0:wk.has c=false:=by
          rw [unhide HWE,has_un,has_single (isLit_ne il),has_single (isLit_ne ib)];simp [hcl,hcb]
         have NF:=hide (unhide NM c p3 pf.1 hcl hwc0 pf.2)
         have pcl:place c ≠ place lit:=fun e=>hcl (place_inj p3 il e)
         have hwl8:(if place c=place lit then mix kl orig else wl' (place c)).length ≤ 4194304:=by
          have h9:=(unhide hst).finv.winv.len (place_lt p3)
          simp only [pcl,if_false] at h9 ⊢
          have:=unhide HES;omega
         have QC:Hid (∀ W,Below wc.heap.size wc W→Calls Tryz.prog 159 #[.pointer (some ⟨sb,0,none⟩),.int .i64 j,keyV (single c)] W fun e w'=>e=.returned (.tuple #[])∧Hid (∃ wv2,FalSt B sb w lit down0 (.slice (some ⟨cb',0,none⟩) es'.length cap) mb gone u es orig (.slice (some ⟨gb,0,none⟩) orig.length wcap) (i + 1) kl F wv2 (withW es' j (k1.un (single c))) (fun k=>if k=place c then wl' k ++ [j] else wl' k) w')):=fun W hW=>by
          have MW:=(unhide M8).later hW
          have kk:((withW es' j k1)[j]'j8).watched=k1:=by rw [withW_self es' j k1 j8 ji]
          with_reducible refine (watch_any2 j c W p3 j8 (by rw [kk];exact k1ok) (by rw [withW_len,heslen];exact unhide HES) hwl8 MW.sto MW.tab).mono ?_
          rintro e w' ⟨h1,h2,h3,wv2,h4,h5⟩
          refine ⟨h1,wv2,?_⟩
          rw [kk] at h5
          have MX:=MW.step h5 h3 h2
          rw [← hD] at MX
          exact FalSt.over MX ((h4 _ (fun e=>pcl e.symm)).trans (unhide hst).hv) il p3 hcl (unhide NF)
         unfold keyV at QA QB QC
         generalize free.wo k1=fk at QA QB
         generalize single c=sc at QB QC NF
         clear p1 p2 pf hcl hcb hwc0 pcl hwl8 NF fne hcells8 hcv8 ec1
         go_upto_region 12 with fail
         go_region_with (first
          |(go_at_call 114;refine (unhide QA _).mono ?_;rintro e6 w6 ⟨rfl,hb6⟩;have B6:Hid (Below wc.heap.size wc w6):=(by first | exact (Below.refl _ _).drew.trans hb6 | exact hb6);clear hb6;simp only [])
          |(go_at_call 158;refine (unhide QB _).mono ?_;rintro e9 w9 ⟨rfl,hb9⟩;have B9:Hid (Below wc.heap.size wc w9):=(unhide B6).trans (hb9.mono (unhide B6).size);clear hb9;simp only [])
          |(go_at_call 159;refine (unhide QC _ (unhide B9)).mono ?_;rintro ea wa' ⟨rfl,HA⟩;simp only []))
         all_goals
          go_wp2
          go_roundw
          case rel=>
           obtain ⟨wv2,h⟩:=unhide HA
           exact ⟨i + 1,kl,F,wv2,_,_,rfl,ret_int' (by omega),h⟩
          case measure=>simp [intOf];omega
  ·have ei:i=orig.length:=by omega
   subst ei
   have O:=hide ((unhide hst).out il).2
   have FD:=hide ((unhide hst).finv.done il)
   have klc:kl.length ≤ wcap:=by
    rcases wforms with ⟨_,h0,h1⟩ | ⟨_,_,h⟩ <;> omega
   have hh:=(unhide hst).mem.sto.head (5 + place lit) (by omega)
   rw [show stoF cv mb gone u wv' (5 + place lit)=wv' (place lit) by rw [Nat.add_comm];rfl,(unhide hst).hv] at hh
   obtain ⟨h1,h2⟩:=hh
   have k0:(0:Int) ≤ (kl.length:Int):=by omega
   have k1:(kl.length:Int) ≤ (wcap:Int):=by omega
   rcases wforms with ⟨rfl,hz,rfl⟩ | ⟨gb,rfl,_⟩
   ·obtain rfl:kl=[]:=List.eq_nil_of_length_eq_zero (by omega)
    go_upto_region 23 with fail
    go_cut [7] from 113 (fun v wx=>wx=(wr.setCell ⟨sb,5 + place lit,none⟩ (.slice none 0 0)).drew)
    case first=>
     go_region
     all_goals
      go_wp2_with fail
      go_meet
      rfl
    case rest=>
     have OD:=hide ((unhide O).later (Below.refl _ _).drew)
     have OD:Hid (FalMem B sb w (single lit) (down0.un F) F cv mb gone u (fun k=>if k=place lit then .slice none 0 0 else wv' k) es' (fun k=>if k=place lit then [] else wl' k) wc):=by rw [hcut];exact OD
     clear hcut
     obtain ⟨x0,x1,x2,x3⟩:=row_facts (hide (unhide OD).frow)
     have O9:=hide ((unhide OD).putF F)
     go_wp2
     refine @bodyPost_ret _ _ _ _ _ (.tuple #[.agg #[.int .u64 (F.1:Int),.int .u64 (F.2:Int)],.bool false]) ?_ ?_ ?_
     ·simp [results,Tryz.results167,go_sem,x0,x1]
     ·rfl
     ·exact ⟨F,false,_,es',_,rfl,(unhide O9).below,(unhide O9).keeps,(unhide O9).sto,(unhide FD).1,(unhide FD).2⟩
   ·go_upto_region 23 with fail
    go_cut [7] from 113 (fun v wx=>wx=(wr.setCell ⟨sb,5 + place lit,none⟩ (.slice (some ⟨gb,0,none⟩) kl.length wcap)).drew)
    case first=>
     go_region
     all_goals
      go_wp2_with fail
      go_meet
      rfl
    case rest=>
     have OD:=hide ((unhide O).later (Below.refl _ _).drew)
     have OD:Hid (FalMem B sb w (single lit) (down0.un F) F cv mb gone u (fun k=>if k=place lit then .slice (some ⟨gb,0,none⟩) kl.length wcap else wv' k) es' (fun k=>if k=place lit then kl else wl' k) wc):=by rw [hcut];exact OD
     clear hcut
     obtain ⟨x0,x1,x2,x3⟩:=row_facts (hide (unhide OD).frow)
     have O9:=hide ((unhide OD).putF F)
     go_wp2
     refine @bodyPost_ret _ _ _ _ _ (.tuple #[.agg #[.int .u64 (F.1:Int),.int .u64 (F.2:Int)],.bool false]) ?_ ?_ ?_
     ·simp [results,Tryz.results167,go_sem,x0,x1]
     ·rfl
     ·exact ⟨F,false,_,es',_,rfl,(unhide O9).below,(unhide O9).keeps,(unhide O9).sto,(unhide FD).1,(unhide FD).2⟩
end Rd
end Go.Proofs.YtceahffmenbibaaGreatDoor
