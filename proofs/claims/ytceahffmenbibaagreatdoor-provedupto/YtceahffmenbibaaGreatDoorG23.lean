/- Prbo. -/
import Derived.Test.YtceahffmenbibaaGreatDoorG21
import Derived.Test.YtceahffmenbibaaGreatDoorG22
import Derived.Deep.CutRange
set_option linter.unusedVariables false
set_option linter.unusedSimpArgs false
namespace Go.Proofs.YtceahffmenbibaaGreatDoor
namespace Rd
open Go Go.RowKit Go.Deep
attribute [local go_sem ↓] Go.wp_at_zero Go.wp_at_succ
structure StoMem (B sb:Nat) (W:World) (cv:Value) (mb:Nat) (gone:Int) (u:Key) (wv:Nat→Value) (es:List Ent) (wl:Nat→List Nat) (wr:World):Prop where
 sto:Sto B sb wr cv mb gone u wv es wl
 below:Below B W wr
 keeps:Keeps W wr
 tab:Tab B wr
 bw:B ≤ W.heap.size
section
variable {B sb mb:Nat} {W wr ws:World} {cv cv':Value} {gone gone':Int} {u u':Key} {wv wv':Nat→Value} {es es':List Ent} {wl wl':Nat→List Nat}
theorem StoMem.start (h:Sto B sb W cv mb gone u wv es wl) (hT:Tab B W):StoMem B sb W cv mb gone u wv es wl W:=⟨h,Below.refl _ _,Keeps.refl _,hT,h.bsize⟩
theorem StoMem.step {mb':Nat} (h:StoMem B sb W cv mb gone u wv es wl wr) (S:Sto B sb ws cv' mb' gone' u' wv' es' wl') (k:Keeps wr ws) (b:Below B wr ws):StoMem B sb W cv' mb' gone' u' wv' es' wl' ws:=
 ⟨S,h.below.trans b,h.keeps.trans k,h.tab.later b,h.bw⟩
theorem StoMem.later (h:StoMem B sb W cv mb gone u wv es wl wr) (hb:Below wr.heap.size wr ws):StoMem B sb W cv mb gone u wv es wl ws:=
 h.step (h.sto.later hb) (Keeps.of_below hb) (hb.mono h.sto.bsize)
theorem StoMem.row {b:Nat} {s:Key} (h:StoMem B sb W cv mb gone u wv es wl wr) (hr:W.rowIs b 84 2 (keyF s)):Hid (wr.rowIs b 84 2 (keyF s)):=hr.of_block (h.keeps _ (row_foreign hr))
theorem StoMem.put {b:Nat} {s:Key} (h:StoMem B sb W cv mb gone u wv es wl wr) (hb:W.heap.size ≤ b) (hr:wr.rowIs b 84 2 (keyF s)) (t:Key):StoMem B sb W cv mb gone u wv es wl ((wr.setCell ⟨b,0,none⟩ (.int .u64 (t.1:Int))).setCell ⟨b,1,none⟩ (.int .u64 (t.2:Int))) where
 sto:=sto_foreign h.sto hr two_other
 below:=(h.below.setCell (by have:=h.bw;simp;omega) _).setCell (by have:=h.bw;simp;omega) _
 keeps:=keeps_new h.keeps hb
 tab:=h.tab.later (((Below.refl _ _).setCell (by have:=h.bw;simp;omega) _).setCell (by have:=h.bw;simp;omega) _)
 bw:=h.bw
end
theorem noEmpty_sigs {es es':List Ent} (h:sigs es'=sigs es) (hn:NoEmpty es):NoEmpty es':=fun e he ht=>by
 obtain ⟨e0,he0,h1,h2⟩:=sigs_mem h he
 rw [← h1];exact hn e0 he0 (by rw [h2];exact ht)
theorem meetB_single (s:Key) {l:Int} (hl:l ≠ 0):meetB s (single l)=s.has l:=by
 cases e:s.has l with
 | true=>exact (meetB_iff _ _).2 ⟨l,e,by rw [has_single hl];simp⟩
 | false=>
  rw [← Bool.not_eq_true,meetB_iff]
  rintro ⟨x,h1,h2⟩
  rw [has_single hl] at h2
  rw [of_decide_eq_true h2,e] at h1;cases h1
def RboRel (B sb:Nat) (W:World) (cv:Value) (mb:Nat) (gone:Int) (u:Key) (es:List Ent) (d:Key) (l:Int) (i16:Value) (wr:World):Prop:=
 ∃ (i:Nat) (wv':Nat→Value) (es':List Ent) (wl':Nat→List Nat),i16=.int .i64 i∧i ≤ es.length∧Hid (StoMem B sb W cv mb gone u wv' es' wl' wr)∧Hid (sigs es'=sigs es∧WInv es' wl'∧Rest es' d∧∀ j (h:j < es.length),j < i→RatOk es d l es[j])
def RboCut (B sb:Nat) (W:World) (cv:Value) (mb:Nat) (gone:Int) (u:Key) (es':List Ent) (d laid:Key) (i:Nat) (c i16:Value) (wx:World):Prop:=
 ∃ (cf:Bool) (dd:Key) (wv2:Nat→Value) (es2:List Ent) (wl2:Nat→List Nat),c=.bool cf∧i16=.int .i64 i∧Hid (StoMem B sb W cv mb gone u wv2 es2 wl2 wx∧SprPost es' es2 d laid dd cf∧WInv es2 wl2)
theorem rbo_new {B sb mb:Nat} {W w8:World} {cv:Value} {gone:Int} {u:Key} {wv2:Nat→Value} {es' es2:List Ent} {wl2:Nat→List Nat} {d laid dd:Key} {i:Nat} {cf:Bool} (h:StoMem B sb W cv mb gone u wv2 es2 wl2 w8) (hP:SprPost es' es2 d laid dd cf) (hW:WInv es2 wl2) (o:Obj):
  RboCut B sb W cv mb gone u es' d laid i (.bool cf) (.int .i64 i) (w8.alloc o):=⟨cf,dd,wv2,es2,wl2,rfl,rfl,h.later ((Below.refl _ _).alloc (Nat.le_refl _) _),hP,hW⟩
theorem rbo_set {B sb mb fb:Nat} {W w8:World} {cv:Value} {gone:Int} {u:Key} {wv2:Nat→Value} {es' es2:List Ent} {wl2:Nat→List Nat} {d laid dd:Key} {i:Nat} {cf:Bool} (h:StoMem B sb W cv mb gone u wv2 es2 wl2 w8) (hR:w8.rowIs fb 84 2 (keyF (0,0))) (hb:W.heap.size ≤ fb) (hP:SprPost es' es2 d laid dd cf) (hW:WInv es2 wl2):
  RboCut B sb W cv mb gone u es' d laid i (.bool cf) (.int .i64 i) ((w8.setCell ⟨fb,0,none⟩ (.int .u64 (dd.1:Int))).setCell ⟨fb,1,none⟩ (.int .u64 (dd.2:Int))):=⟨cf,dd,wv2,es2,wl2,rfl,rfl,h.put hb hR dd,hP,hW⟩
def RboRet (B sb:Nat) (w:World) (cv:Value) (mb:Nat) (gone:Int) (u:Key) (es:List Ent) (d:Key) (l:Int) (e:Ending) (w':World):Prop:=
 ∃ (b:Bool) (wv':Nat→Value) (es':List Ent) (wl':Nat→List Nat),e=.returned (.bool b)∧Below B w w'∧Keeps w w'∧Sto B sb w' cv mb gone u wv' es' wl'∧sigs es'=sigs es∧WInv es' wl'∧(b=true↔∀ e ∈ es,RatOk es d l e)
set_option maxHeartbeats 4000000 in
set_option maxRecDepth 100000 in
theorem rightByOthers_any {B sb mb:Nat} {cv:Value} {gone:Int} {u:Key} {wv:Nat→Value} {es:List Ent} {wl:Nat→List Nat} (d:Key) (l:Int) (w:World) (hd:d.ok) (il:IsLit l) (hlen:es.length ≤ 2097152)
  (hS:Sto B sb w cv mb gone u wv es wl) (hT:Tab B w) (hW:WInv es wl) (hr:Rest es d) (hU:Units es u) (hn:NoEmpty es) (hu:∀ x,u.has x=true→d.has x=true):
  Calls Tryz.prog 119 #[.pointer (some ⟨sb,0,none⟩),keyV d,keyV (single (-l))] w fun e w'=>RboRet B sb w cv mb gone u es d l e w':=by
 obtain ⟨a,cap,hsh⟩:=own_shape5 hS.cls
 subst hsh
 have HU:=hide hU
 have HN:=hide hn
 have HUD:=hide hu
 have iml:=isLit_neg il
 have HLEN:=hide hlen
 obtain ⟨sl,hsl⟩:∃ s,single (-l)=s:=⟨_,rfl⟩
 have slok:sl.ok:=by rw [← hsl];exact single_ok iml
 have HSL:=hide hsl
 have R0:Hid (Sto B sb w (.slice a es.length cap) mb gone u wv es wl):=hS
 have HTW:=hide hT
 have G0:Hid (WInv es wl∧Rest es d):=⟨hW,hr⟩
 have hsb:=hS.row.lt
 have y0:=(hS.head 0 (by omega)).1
 unfold stoF at y0
 rw [hsl]
 unfold keyV
 clear hS hT hW hr hU hn hu hsl
 go_enter Tryz.func119,Tryz.ntmps119
 go_upto_region 1 with fail
 obtain ⟨W,hWd⟩:∃ W,W=(w.alloc (Obj.cells #[Value.int IntKind.u64 (d.1:Int),Value.int IntKind.u64 (d.2:Int)] 84)).alloc (Obj.cells #[Value.int IntKind.u64 (sl.1:Int),Value.int IntKind.u64 (sl.2:Int)] 84):=⟨_,rfl⟩
 have BW:Hid (Below w.heap.size w W):=by rw [hWd];exact below2 (Below.refl _ _) (Nat.le_refl _) _ _
 have RD:Hid (W.rowIs w.heap.size 84 2 (keyF d)):=by rw [hWd];exact (rowIs_two w _ _ _).alloc _
 have RL:Hid (W.rowIs (w.heap.size + 1) 84 2 (keyF sl)):=by rw [hWd];exact rowIs_two' w _ _ _ _
 have y1:=((unhide BW).cell (p:=⟨sb,0,none⟩) hsb).trans y0
 rw [← hWd]
 clear hWd y0
 have M0:Hid (StoMem B sb W (.slice a es.length cap) mb gone u wv es wl W):=StoMem.start ((unhide R0).later (unhide BW)) ((unhide HTW).later ((unhide BW).mono (unhide R0).bsize))
 have BW2:Hid (Below B w W):=(unhide BW).mono (unhide R0).bsize
 have KW2:Hid (Keeps w W):=Keeps.of_below (unhide BW)
 clear R0 HTW BW
 go_wp2
 go_loopw [16] (fun i wr=>RboRel B sb W (.slice a es.length cap) mb gone u es d l i wr) (fun i _=>es.length - (intOf i).toNat)
 case atStart=>exact ⟨0,_,_,_,rfl,Nat.zero_le _,M0,rfl,(unhide G0).1,(unhide G0).2,fun j _ h=>absurd h (Nat.not_lt_zero _)⟩
 case round=>
  clear M0 G0 y1
  obtain ⟨i,wv',es',wl',rfl,hil,M,G⟩:=hrel
  have heslen:es'.length=es.length:=sigs_len (unhide G).1
  by_cases hlt:i < es.length
  ·have hi':i < es'.length:=by omega
   obtain ⟨cb,cap',hcv,hcb1,hcb2,hcb3,hcap,hcells⟩:=(unhide M).sto.ents i hi'
   obtain ⟨q1,q2,q3⟩:=Value.slice.inj hcv
   subst q1 q3
   clear q2
   have c0:=(hcells 0 (by omega)).1
   have c1:=(hcells 1 (by omega)).1
   have c2:=(hcells 2 (by omega)).1
   have c3:=(hcells 3 (by omega)).1
   have c4:=(hcells 4 (by omega)).1
   simp only [entV,List.getElem?_cons_succ,List.getElem?_cons_zero] at c0 c1 c2 c3 c4
   have c0:wr.cell? ⟨cb,i * 5,none⟩=some (.int .u64 ((es'[i]).set.1:Int)):=c0
   obtain ⟨g1,g2⟩:=sigs_get (unhide G).1 hlt hi'
   have sok:(es'[i]).set.ok:=(unhide G).2.1.ok _ (List.getElem_mem _)
   have G1:Hid ((es[i]).set=(es'[i]).set∧(es[i]).times=(es'[i]).times):=⟨g1.symm,g2.symm⟩
   generalize (es'[i]).set=s at *
   generalize (es'[i]).watched=wk at *
   generalize (es'[i]).times=t at *
   clear hcells g1 g2 hcv
   have ii0:(0:Int) ≤ (i:Int):=by omega
   have ii1:(i:Int) < (es.length:Int):=by omega
   go_upto_region 4 with fail
   have MX:=hide ((unhide M).later ((Below.refl _ wr).alloc (Nat.le_refl _) (.cells #[.int .u64 (s.1:Int),.int .u64 (s.2:Int),.int .u64 (wk.1:Int),.int .u64 (wk.2:Int),.int .i64 (t:Int)] 180)))
   obtain ⟨X,hX⟩:∃ X,X=wr.alloc (.cells #[.int .u64 (s.1:Int),.int .u64 (s.2:Int),.int .u64 (wk.1:Int),.int .u64 (wk.2:Int),.int .i64 (t:Int)] 180):=⟨_,rfl⟩
   have k0:X.cell? ⟨wr.heap.size,0,none⟩=some (.int .u64 (s.1:Int)):=by rw [hX];simp
   have k1:X.cell? ⟨wr.heap.size,1,none⟩=some (.int .u64 (s.2:Int)):=by rw [hX];simp
   have k4:X.cell? ⟨wr.heap.size,4,none⟩=some (.int .i64 (t:Int)):=by rw [hX];simp
   have sX:wr.heap.size < X.heap.size:=by rw [hX];simp
   rw [← hX] at MX ⊢
   clear hX c0 c1 c2 c3 c4 M
   generalize wr.heap.size=kb at k0 k1 k4 sX ⊢
   have NXT:Hid (RatOk es d l es[i]→∀ j (h:j < es.length),j < i + 1→RatOk es d l es[j]):=fun h0 j hj hji=>by
    rcases Nat.lt_or_ge j i with h1 | h1
    ·exact (unhide G).2.2.2 j hj h1
    ·have:j=i:=by omega
     subst this;exact h0
   by_cases ht:t=0
   ·subst ht
    have RO:Hid (RatOk es d l es[i]):=fun h=>by rw [(unhide G1).2] at h;omega
    go_wp2
    go_roundw
    case rel=>exact ⟨i + 1,wv',es',wl',ret_int' (by omega),by omega,MX,(unhide G).1,(unhide G).2.1,(unhide G).2.2.1,unhide NXT (unhide RO)⟩
    case measure=>simp [intOf];omega
   ·obtain ⟨t',rfl⟩:∃ t',t=t' + 1:=⟨t - 1,by omega⟩
    have tb:(((t' + 1:Nat):Int) == 0)=false:=by simp;omega
    have QM:Hid (∀ V,Calls Tryz.prog 168 #[keyV s,keyV sl] V fun e w'=>e=.returned (.bool (meetB s sl))∧Below V.heap.size V w'):=fun V=>meets_any s sl V sok slok
    unfold keyV at QM
    have HM:Hid (meetB s sl=s.has (-l)):=by unfold Hid;rw [← unhide HSL];exact meetB_single s (isLit_ne iml)
    generalize hm:meetB s sl=m at QM HM
    clear hm
    obtain ⟨l0,l1,_,_⟩:=row_facts ((unhide MX).row (unhide RL))
    go_wp2_with fail
    with_reducible refine (unhide QM _).mono ?_
    rintro e6 w6 ⟨rfl,hb6⟩
    simp only []
    have M6:=hide ((unhide MX).later hb6)
    have x0:=(hb6.cell (p:=⟨kb,0,none⟩) sX).trans k0
    have x1:=(hb6.cell (p:=⟨kb,1,none⟩) sX).trans k1
    have s6:kb < w6.heap.size:=by have:=hb6.size;omega
    clear hb6 k0 k1 k4 l0 l1 MX QM
    cases m with
    | false=>
     have RO:Hid (RatOk es d l es[i]):=fun _ h=>by rw [(unhide G1).1,← unhide HM] at h;cases h
     go_wp2
     go_roundw
     case rel=>exact ⟨i + 1,wv',es',wl',ret_int' (by omega),by omega,M6,(unhide G).1,(unhide G).2.1,(unhide G).2.2.1,unhide NXT (unhide RO)⟩
     case measure=>simp [intOf];omega
    | true=>
     have wok:(s.wo sl).ok:=wo_ok sok _
     have Q1:Hid (∀ V,Calls Tryz.prog 114 #[keyV s,keyV sl] V fun e w'=>e=.returned (keyV (s.wo sl))∧Below V.heap.size V w'):=fun V=>without_any s sl V sok slok
     have Q2:Hid (∀ V,Calls Tryz.prog 118 #[keyV (s.wo sl)] V fun e w'=>e=.returned (keyV (s.wo sl).op)∧Below V.heap.size V w'):=fun V=>opposites_any (s.wo sl) V
     have Q3:Hid (∀ V,Below w6.heap.size w6 V→Calls Tryz.prog 117 #[.pointer (some ⟨sb,0,none⟩),keyV d,keyV (s.wo sl).op] V fun e w'=>∃ (dd:Key) (cf:Bool) (wv2:Nat→Value) (es2:List Ent) (wl2:Nat→List Nat),e=.returned (.tuple #[keyV dd,.bool cf])∧Hid (StoMem B sb W (.slice (some ⟨cb,0,none⟩) es.length cap) mb gone u wv2 es2 wl2 w'∧Keeps V w'∧SprPost es' es2 d (s.wo sl).op dd cf∧WInv es2 wl2)):=fun V hV=>by
      have MV:=(unhide M6).later hV
      with_reducible refine (spread_any d (s.wo sl).op V hd (op_ok wok) (by rw [heslen];exact unhide HLEN) MV.sto MV.tab (unhide G).2.1 (unhide G).2.2.1).mono ?_
      rintro e w' ⟨dd,cf,wv2,es2,wl2,h1,h2,h3,h4,h5,h6,_⟩
      exact ⟨dd,cf,wv2,es2,wl2,h1,MV.step h4 h3 h2,h3,h5,h6⟩
     have HO:Hid ((s.wo (single (-l))).op=(s.wo sl).op):=by rw [unhide HSL];exact rfl
     unfold keyV at Q1 Q2 Q3
     generalize (s.wo sl).op=laid at Q2 Q3 HO
     generalize s.wo sl=s1 at Q1 Q2 wok
     obtain ⟨d0,d1,_,_⟩:=row_facts ((unhide M6).row (unhide RD))
     obtain ⟨l0,l1,_,_⟩:=row_facts ((unhide M6).row (unhide RL))
     have lD:=(unhide ((unhide M6).row (unhide RD))).lt
     have lL:=(unhide ((unhide M6).row (unhide RL))).lt
     have WW:W.heap.size ≤ w6.heap.size:=(unhide M6).below.size
     have KS:Hid (∀ V,Below w6.heap.size w6 V→(V.cell? ⟨w.heap.size,0,none⟩=some (.int .u64 (d.1:Int))∧V.cell? ⟨w.heap.size,1,none⟩=some (.int .u64 (d.2:Int)))∧w.heap.size < V.heap.size):=fun V h=>
      ⟨⟨(h.cell (p:=⟨w.heap.size,0,none⟩) lD).trans d0,(h.cell (p:=⟨w.heap.size,1,none⟩) lD).trans d1⟩,by have:=h.size;omega⟩
     go_upto_region 5 with fail
     go_cut [9,10,16] from 16 to 43 (fun _ c i16 wx=>RboCut B sb W (.slice (some ⟨cb,0,none⟩) es.length cap) mb gone u es' d laid i c i16 wx)
     case first=>
      have n1:¬ (w.heap.size=w6.heap.size):=by omega
      have n2:¬ (w.heap.size + 1=w6.heap.size):=by omega
      have n3:¬ (kb=w6.heap.size):=by omega
      have n4:¬ (w6.heap.size=w.heap.size):=by omega
      have n5:¬ (w6.heap.size=w.heap.size + 1):=by omega
      have n6:¬ (w6.heap.size=kb):=by omega
      go_region_with (first
       |(go_at_call 114;refine (unhide Q1 _).mono ?_;rintro e7 w7 ⟨rfl,hb7⟩;have B7:Hid (Below w6.heap.size w6 w7):=(by first | exact hb7 | exact (Below.refl _ _).drew.trans hb7 | exact ((Below.refl _ _).drew.alloc (Nat.le_refl _) _).drew.trans (hb7.mono (by simp)) | exact ((Below.refl _ _).alloc (Nat.le_refl _) _).drew.trans (hb7.mono (by simp)) | exact ((Below.refl _ _).alloc (Nat.le_refl _) _).trans (hb7.mono (by simp)) | exact ((Below.refl _ _).drew.alloc (Nat.le_refl _) _).trans (hb7.mono (by simp)));obtain ⟨⟨m0,m1⟩,m2⟩:=unhide KS w7 (unhide B7);have s7:w6.heap.size ≤ w7.heap.size:=(unhide B7).size;have n7:¬ (w.heap.size=w7.heap.size):=(by omega);(first | (have N7:=(by with_reducible exact new_two hb7)) | (have N7:=(by with_reducible exact new_two' hb7)) | skip);clear hb7;simp only [])
       |(go_at_call 118;refine (unhide Q2 _).mono ?_;rintro e8 w8 ⟨rfl,hb8⟩;have B8:Hid (Below w6.heap.size w6 w8):=(by first | exact (unhide B7).trans (hb8.mono s7) | exact (unhide B7).drew.trans (hb8.mono s7) | exact ((unhide B7).alloc s7 _).trans (hb8.mono (by simp;omega)) | exact ((unhide B7).alloc s7 _).drew.trans (hb8.mono (by simp;omega)) | exact ((unhide B7).drew.alloc s7 _).trans (hb8.mono (by simp;omega)) | exact ((unhide B7).drew.alloc s7 _).drew.trans (hb8.mono (by simp;omega)));obtain ⟨⟨r0,r1⟩,r2⟩:=unhide KS w8 (unhide B8);have s8:w6.heap.size ≤ w8.heap.size:=(unhide B8).size;have n8:¬ (w.heap.size=w8.heap.size):=(by omega);(first | (have N8:=(by with_reducible exact new_two hb8)) | (have N8:=(by with_reducible exact new_two' hb8)) | (have N8:=(by with_reducible exact old_two hb8 N7)) | (have N8:=(by with_reducible exact old_two' hb8 N7)) | skip);clear hb8;simp only [])
       |(go_at_call 117;refine (unhide Q3 _ (by first | exact unhide B8 | exact (unhide B8).drew | exact (unhide B8).alloc s8 _ | exact ((unhide B8).alloc s8 _).drew | exact ((unhide B8).drew.alloc s8 _) | exact ((unhide B8).drew.alloc s8 _).drew)).mono ?_;rintro e9 w9 ⟨dd,cf,wv2,es2,wl2,rfl,H9⟩;(first | (have R9:=(by with_reducible exact kept_new (unhide H9).2.1);obtain ⟨z0,z1,z2,z3⟩:=row_facts R9) | (have R9:=(by with_reducible exact kept_new' (unhide H9).2.1);obtain ⟨z0,z1,z2,z3⟩:=row_facts R9) | (have R9:=(by with_reducible exact kept_old (unhide H9).2.1 N8);obtain ⟨z0,z1,z2,z3⟩:=row_facts R9) | (have R9:=(by with_reducible exact kept_old' (unhide H9).2.1 N8);obtain ⟨z0,z1,z2,z3⟩:=row_facts R9) | skip);simp only []))
      all_goals
       go_wp2_with fail
       go_meet
       first
        | exact rbo_new (unhide H9).1 (unhide H9).2.2.1 (unhide H9).2.2.2 _
        | exact rbo_set (unhide H9).1 (unhide R9) (by omega) (unhide H9).2.2.1 (unhide H9).2.2.2
     case rest=>
      obtain ⟨cf,dd,wv2,es2,wl2,rfl,rfl,HC⟩:=hcut
      have SG:Hid (sigs es2=sigs es):=(unhide HC).2.1.same.trans (unhide G).1
      cases cf with
      | true=>
       have RO:Hid (RatOk es d l es[i]):=fun _ _ M hM hb hs=>by
        refine (unhide HC).2.1.conf rfl M hM (fun x hx=>hb x ?_) ((stableE_sigs (unhide G).1).1 hs)
        rw [(unhide G1).1,unhide HO];exact hx
       have RE:Hid (Rest es2 d):=(unhide HC).2.1.rest d (fun x hx=>by rw [has_un,hx];rfl) (unhide G).2.2.1
       go_wp2
       go_roundw
       case rel=>exact ⟨i + 1,wv2,es2,wl2,ret_int' (by omega),by omega,(unhide HC).1,unhide SG,(unhide HC).2.2,unhide RE,unhide NXT (unhide RO)⟩
       case measure=>simp [intOf];omega
      | false=>
       have NO:Hid (¬ ∀ e ∈ es,RatOk es d l e):=fun h=>by
        have h1:=h es[i] (List.getElem_mem hlt) (by rw [(unhide G1).2];omega) (by rw [(unhide G1).1,← unhide HM])
        rw [(unhide G1).1,unhide HO] at h1
        have h2:=((unhide HC).2.1.iff (unhide HC).2.2 (units_sigs (unhide G).1 (unhide HU)) (noEmpty_sigs (unhide G).1 (unhide HN)) (fun x hx=>by rw [has_un,unhide HUD x hx];rfl)).2 (fun M hM hb hs=>h1 M hM hb ((stableE_sigs (unhide G).1).2 hs))
        cases h2
       go_wp2
       go_ret
       exact ⟨false,wv2,es2,wl2,rfl,(unhide BW2).trans (unhide HC).1.below,(unhide KW2).trans (unhide HC).1.keeps,(unhide HC).1.sto,unhide SG,(unhide HC).2.2,by simp only [Bool.false_eq_true,false_iff];exact unhide NO⟩
  ·have ei:i=es.length:=by omega
   subst ei
   have AL:Hid (∀ e ∈ es,RatOk es d l e):=fun e he=>by
    obtain ⟨j,hj,rfl⟩:=List.mem_iff_getElem.1 he
    exact (unhide G).2.2.2 j hj hj
   go_wp2
   go_ret
   exact ⟨true,wv',es',wl',rfl,(unhide BW2).trans (unhide M).below,(unhide KW2).trans (unhide M).keeps,(unhide M).sto,(unhide G).1,(unhide G).2.1,by simp only [true_iff];exact unhide AL⟩
end Rd
end Go.Proofs.YtceahffmenbibaaGreatDoor
