/- Prem. -/
import Derived.Test.YtceahffmenbibaaGreatDoorG24
import Derived.Deep.CutRange
set_option linter.unusedVariables false
set_option linter.unusedSimpArgs false
namespace Go.Proofs.YtceahffmenbibaaGreatDoor
namespace Rd
open Go Go.RowKit Go.Deep
attribute [local go_sem ↓] Go.wp_at_zero Go.wp_at_succ
def RemRet (B sb:Nat) (w:World) (L:List Cl) (c:Cl) (n:Nat) (gone:Int) (e:Ending) (w':World):Prop:=Below B w w'∧Keeps w w'∧
 ((rem L c=none∧e=.returned (.bool false)∧∃ (cv:Value) (mb:Nat) (gone':Int) (u:Key) (wv:Nat→Value) (es:List Ent) (wl:Nat→List Nat),Sto B sb w' cv mb gone' u wv es wl∧SInv es wl u L∧es.length ≤ n∧gone'=gone) ∨
  ∃ L',rem L c=some L'∧e=.returned (.bool true)∧∃ (cv:Value) (mb:Nat) (gone':Int) (u:Key) (wv:Nat→Value) (es:List Ent) (wl:Nat→List Nat),Sto B sb w' cv mb gone' u wv es wl∧SInv es wl u L'∧es.length ≤ n∧(gone'=gone∨gone'=gone + 1∨gone'=0))
theorem filter_len {es es':List Ent} (h:sigs es'=(sigs es).filter (fun p=>decide (0 < p.2))):es'.length ≤ es.length:=by
 have h1:=congrArg List.length h
 have h2:((sigs es).filter (fun p=>decide (0 < p.2))).length ≤ (sigs es).length:=List.length_filter_le _ _
 unfold sigs at h1 h2
 simp only [List.length_map] at h1 h2
 omega
theorem rem_end {es es':List Ent} {wl wl':Nat→List Nat} {u:Key} {L:List Cl} {gone gone':Int} (h:SInv es wl u L) (hd:(gone'=gone + 1∧sigs es'=sigs es∧WInv es' wl')∨(gone'=0∧TidyPost es es' wl')):
  SInv es' wl' u L∧es'.length ≤ es.length∧(gone'=gone∨gone'=gone + 1∨gone'=0):=by
 rcases hd with ⟨h1,h2,h3⟩ | ⟨h1,h2,h3⟩
 ·exact ⟨h.same h2 h3,by rw [sigs_len h2];exact Nat.le_refl _,.inr (.inl h1)⟩
 ·exact ⟨h.anew h2 h3,filter_len h2,.inr (.inr h1)⟩
theorem withT_pred {es:List Ent} {i t:Nat} (hi:i < es.length) (ht:(es[i]).times=t + 1):withT es i t=es.modify i (fun e=>{ e with times:=e.times - 1 }):=by
 unfold withT
 refine List.ext_getElem? fun j=>?_
 rw [List.getElem?_modify,List.getElem?_modify]
 split
 ·rename_i h;subst h;rw [List.getElem?_eq_getElem hi];simp [ht]
 ·rfl
theorem withT_self (es:List Ent) (i n:Nat) (h:i < (withT es i n).length) (h0:i < es.length):(withT es i n)[i]={ es[i] with times:=n }:=by
 simp [withT,List.getElem_modify]
theorem there_look {es:List Ent} {s:Key} {i:Nat} (h:look es s=some i) (hi:i < es.length):there es s=decide (0 < (es[i]).times):=by
 unfold there;rw [h];simp only [List.getElem?_eq_getElem hi]
set_option maxHeartbeats 4000000 in
set_option maxRecDepth 100000 in
theorem remove_any {B sb mb:Nat} {cv:Value} {gone:Int} {u:Key} {wv:Nat→Value} {es:List Ent} {wl:Nat→List Nat} {L:List Cl} (c:Cl) (w:World) (hc:∀ l ∈ c,In50 l) (hlen:es.length ≤ 1048576) (hgone:-4194303 ≤ gone∧gone ≤ 4194303)
  (hS:Sto B sb w cv mb gone u wv es wl) (hT:Tab B w) (hI:SInv es wl u L) (hLn:L.length ≤ 4194304):
  Calls Tryz.prog 76 #[.pointer (some ⟨sb,0,none⟩),keyV (setOf c)] w fun e w'=>RemRet B sb w L c es.length gone e w':=by
 have HI:=hide hI
 have HC:=hide hc
 have sok:=setOf_lit hc
 have uok:=hI.units.ok
 obtain ⟨gl,gh⟩:=hgone
 have R0:=hide hS
 have HTW:=hide hT
 obtain ⟨cc,hcc,hrun⟩:=hS.map.lookup sok
 have HRN:=hide (hI.rem_none hc)
 have HRS:Hid (∀ L' i (hi:i < es.length),rem L c=some L'→(es[i]).set=setOf c→SInv (es.modify i (fun e=>{ e with times:=e.times - 1 })) wl (if (es[i]).times=1∧(setOf c).size=1 then u.wo (setOf c) else u) L'):=fun L' i hi h1 h2=>hI.rem hc h1 hi h2
 have TMB:Hid (∀ e ∈ es,e.times ≤ 4194304):=fun e he=>by rw [hI.cnt e he];exact Nat.le_trans List.countP_le_length hLn
 obtain ⟨s,hs⟩:∃ s,setOf c=s:=⟨_,rfl⟩
 rw [hs] at sok hcc hrun HRN HRS ⊢
 unfold keyV at hrun ⊢
 have HRUN:=hide hrun
 clear hS hT hI hc hrun hs
 go_enter Tryz.func76,Tryz.ntmps76
 go_upto_region 1 with fail
 obtain ⟨W,hWd⟩:∃ W,W=w.alloc (Obj.cells #[Value.int IntKind.u64 (s.1:Int),Value.int IntKind.u64 (s.2:Int)] 84):=⟨_,rfl⟩
 have BW:Hid (Below w.heap.size w W):=by rw [hWd];exact (Below.refl _ _).alloc (Nat.le_refl _) _
 have RA:Hid (W.rowIs w.heap.size 84 2 (keyF s)):=by rw [hWd];exact rowIs_two w _ _ _
 rw [← hWd]
 clear hWd
 have M0:Hid (StoMem B sb W cv mb gone u wv es wl W):=StoMem.start ((unhide R0).later (unhide BW)) ((unhide HTW).later ((unhide BW).mono (unhide R0).bsize))
 have BW2:Hid (Below B w W):=(unhide BW).mono (unhide R0).bsize
 have KW2:Hid (Keeps w W):=Keeps.of_below (unhide BW)
 have hlk:∀ n,(Instr.lookup 130 (.map (some mb)) (.agg #[.int .u64 (s.1:Int),.int .u64 (s.2:Int)]) true).run Tryz.prog (W.drewN n)=.ok (.tuple #[.int .i64 cc,.bool (look es s).isSome]) (W.drewN n):=fun n=>unhide HRUN (W.drewN n) ((unhide BW).block mb (unhide R0).map.lt)
 clear R0 HTW BW HRUN
 obtain ⟨x0,x1,_,_⟩:=row_facts RA
 have y0:=((unhide M0).sto.head 0 (by omega)).1
 have y1:=((unhide M0).sto.head 1 (by omega)).1
 unfold stoF at y0 y1
 rcases hl:look es s with _ | i
 ·have NO:Hid (rem L c=none):=(unhide HRN).2 (by unfold there;rw [hl])
  rw [hl] at hlk
  go_quiet (fail)
  have MD:=hide ((unhide M0).later (bel_drewN' (Below.refl _ W) nq))
  go_wp2
  go_ret
  exact ⟨(unhide BW2).trans (unhide MD).below,(unhide KW2).trans (unhide MD).keeps,.inl ⟨unhide NO,rfl,_,_,_,_,_,_,_,(unhide MD).sto,unhide HI,Nat.le_refl _,rfl⟩⟩
 ·obtain ⟨hi,hsi⟩:=look_some hl
  have hci:=hcc i hl
  subst hci
  have TH:=hide (there_look hl hi)
  rw [hl] at hlk
  obtain ⟨cb,cap,hcv,hcb1,hcb2,hcb3,hcap,hcells⟩:=(unhide M0).sto.ents i hi
  subst hcv
  have c4:=(hcells 4 (by omega)).1
  have f4:=(hcells 4 (by omega)).2
  simp only [entV,List.getElem?_cons_succ,List.getElem?_cons_zero] at c4
  have i0:(0:Int) ≤ (i:Int):=by omega
  have i1:(i:Int) < (es.length:Int):=by omega
  have HRI:Hid (∀ L',rem L c=some L'→SInv (es.modify i (fun e=>{ e with times:=e.times - 1 })) wl (if (es[i]).times=1∧s.size=1 then u.wo s else u) L'):=fun L' h=>unhide HRS L' i hi h hsi
  have PRD:Hid (∀ t,(es[i]).times=t + 1→withT es i t=es.modify i (fun e=>{ e with times:=e.times - 1 })):=fun t ht=>withT_pred hi ht
  have tb:(es[i]).times ≤ 4194304:=unhide TMB _ (List.getElem_mem hi)
  have SETT:Hid (∀ V n,StoMem B sb W (.slice (some ⟨cb,0,none⟩) es.length cap) mb gone u wv es wl V→StoMem B sb W (.slice (some ⟨cb,0,none⟩) es.length cap) mb gone u wv (withT es i n) wl (V.setCell ⟨cb,i * 5 + 4,none⟩ (.int .i64 (n:Int)))):=fun V n h=>h.step (h.sto.setT hi n) (h.sto.keeps_cb _ _) ((Below.refl _ _).setCell hcb1 _)
  clear hcells hl hcc HRS
  rcases ht:(es[i]).times with _ | t
  ·have NO:Hid (rem L c=none):=(unhide HRN).2 (by rw [unhide TH,ht];rfl)
   rw [ht] at c4
   go_quiet (fail)
   have MD:=hide ((unhide M0).later (bel_drewN' (Below.refl _ W) nq))
   go_wp2
   go_ret
   exact ⟨(unhide BW2).trans (unhide MD).below,(unhide KW2).trans (unhide MD).keeps,.inl ⟨unhide NO,rfl,_,_,_,_,_,_,_,(unhide MD).sto,unhide HI,Nat.le_refl _,rfl⟩⟩
  ·obtain ⟨L',hR⟩:∃ L',rem L c=some L':=by
    cases e:rem L c with
    | some L'=>exact ⟨L',rfl⟩
    | none=>
     have:=(unhide HRN).1 e
     rw [unhide TH,ht] at this
     simp at this
   have HR:=hide hR
   have SR0:=unhide HRI L' hR
   rw [← unhide PRD t ht,ht] at SR0
   have SRH:=hide SR0
   rw [ht] at c4 tb
   have tpb:((t + 1:Nat):Int) - 1=(t:Int):=by omega
   have tnz:(((t + 1:Nat):Int) == 0)=false:=by simp;omega
   clear SR0 hR ht HRI PRD TH HRN TMB
   go_quiet (fail)
   have MD:=hide ((unhide M0).later (bel_drewN' (Below.refl _ W) nq))
   have d4:(W.drewN nq).cell? ⟨cb,i * 5 + 4,none⟩=some (.int .i64 ((t + 1:Nat):Int)):=c4
   have e4:(W.drewN nq).frozen? ⟨cb,i * 5 + 4,none⟩=false:=f4
   have z0:(W.drewN nq).cell? ⟨sb,0,none⟩=some (.slice (some ⟨cb,0,none⟩) es.length cap):=y0
   generalize W.drewN nq=V0 at MD d4 e4 z0 ⊢
   have M1:=hide (unhide SETT V0 t (unhide MD))
   have wi:i < (withT es i t).length:=by rw [withT_len];exact hi
   clear c4 f4 y0 y1 x0 x1 hlk M0 SETT
   go_upto_region 5 with fail
   generalize hV1:V0.setCell ⟨cb,i * 5 + 4,none⟩ (.int .i64 (t:Int))=V1 at M1 ⊢
   clear hV1 d4 e4 z0 MD
   obtain ⟨cb',cap',hcv',_,_,_,_,hcells'⟩:=(unhide M1).sto.ents i wi
   have ecb:cb=cb':=by have:=(Value.slice.inj hcv').1;exact congrArg Addr.block (Option.some.inj this)
   have r4:=(hcells' 4 (by omega)).1
   rw [← ecb,withT_self es i t wi hi] at r4
   simp only [entV,List.getElem?_cons_succ,List.getElem?_cons_zero] at r4
   have z0:=((unhide M1).sto.head 0 (by omega)).1
   unfold stoF at z0
   clear hcv' hcells' ecb
   by_cases t0:t=0
   ·subst t0
    obtain ⟨x0,x1,_,_⟩:=row_facts ((unhide M1).row (unhide RA))
    have lx:=(unhide ((unhide M1).row (unhide RA))).lt
    have QS:=hide (fun V=>size_any s V sok)
    unfold keyV at QS
    obtain ⟨nz,hnz⟩:∃ n:Nat,s.size=n:=⟨_,rfl⟩
    rw [hnz] at QS SRH
    simp only [Nat.zero_add,true_and] at SRH
    go_upto_region 7 with fail
    go_wp2_with fail
    with_reducible refine (unhide QS _).mono ?_
    rintro e6 w6 ⟨rfl,hb6⟩
    simp only []
    have M6:=hide ((unhide M1).later hb6)
    have a0:=(hb6.cell (p:=⟨w.heap.size,0,none⟩) lx).trans x0
    have a1:=(hb6.cell (p:=⟨w.heap.size,1,none⟩) lx).trans x1
    have l6:w.heap.size < w6.heap.size:=by have:=hb6.size;omega
    clear hb6 x0 x1 lx QS r4 z0 M1 hnz
    by_cases n1:nz=1
    ·subst n1
     have SR:Hid (SInv (withT es i 0) wl (u.wo s) L'):=by have:=unhide SRH;rw [if_pos rfl] at this;exact this
     have QW:=hide (fun V=>without_any u s V uok sok)
     unfold keyV at QW
     have b3:=((unhide M6).sto.head 3 (by omega)).1
     have b4:=((unhide M6).sto.head 4 (by omega)).1
     have q3:=((unhide M6).sto.head 3 (by omega)).2
     have q4:=((unhide M6).sto.head 4 (by omega)).2
     unfold stoF at b3 b4
     have s6:=(unhide M6).sto.row.lt
     generalize hu2:u.wo s=u2 at QW SR
     go_upto_region 8 with fail
     go_cut [] from 7 (fun wx=>Hid (StoMem B sb W (.slice (some ⟨cb,0,none⟩) es.length cap) mb gone u2 wv (withT es i 0) wl wx))
     case first=>
      go_region_with (go_at_call 114;refine (unhide QW _).mono ?_;rintro e7 w7 ⟨rfl,hb7⟩;have B7:Hid (Below w6.heap.size w6 w7):=(by first | exact hb7 | exact (Below.refl _ _).drew.trans hb7);have M7:=hide ((unhide M6).later (unhide B7));have r3:=((unhide M7).sto.head 3 (by omega)).1;have r4:=((unhide M7).sto.head 4 (by omega)).1;have r5:=((unhide M7).sto.head 3 (by omega)).2;have r6:=((unhide M7).sto.head 4 (by omega)).2;unfold stoF at r3 r4;clear hb7;simp only [])
      all_goals
       go_wp2_with fail
       go_meet
       first
        | exact (unhide M7).step ((unhide M7).sto.setU u2) ((unhide M7).sto.keeps_sb2 _ _ _ _) (((Below.refl _ _).setCell (unhide M7).sto.bsb _).setCell (unhide M7).sto.bsb _)
        | exact ((unhide M7).later (Below.refl _ _).drew).step (((unhide M7).later (Below.refl _ _).drew).sto.setU u2) (((unhide M7).later (Below.refl _ _).drew).sto.keeps_sb2 _ _ _ _) (((Below.refl _ _).setCell (unhide M7).sto.bsb _).setCell (unhide M7).sto.bsb _)
     case rest=>
      have MV:Hid (StoMem B sb W (.slice (some ⟨cb,0,none⟩) es.length cap) mb gone u2 wv (withT es i 0) wl wc):=hcut
      clear hcut M6 b3 b4 q3 q4 a0 a1
      have g0:=((unhide MV).sto.head 2 (by omega)).1
      have g1:=((unhide MV).sto.head 2 (by omega)).2
      unfold stoF at g0
      have MG:=hide ((unhide MV).step ((unhide MV).sto.gone' (gone + 1)) ((unhide MV).sto.keeps_sb 2 (.int .i64 (gone + 1))) ((Below.refl _ _).setCell (unhide MV).sto.bsb _))
      have QT:=hide (tidy_any (wc.setCell ⟨sb,2,none⟩ (.int .i64 (gone + 1))) (by rw [withT_len];exact hlen) (by omega) (unhide MG).sto (unhide MG).tab (unhide SR).winv (unhide SR).dist (unhide SR).units.ok)
      go_upto_region 10 with fail
      go_wp2_with fail
      with_reducible refine (unhide QT).mono ?_
      rintro e9 w9 ⟨rfl,hb9,hk9,cv9,mb9,gone9,wv9,es9,wl9,hS9,hd9⟩
      simp only []
      have M9:=hide ((unhide MG).step hS9 hk9 hb9)
      have R9:=hide (rem_end (unhide SR) hd9)
      clear hS9 hk9 hb9 hd9 QT g0 g1 MG
      go_wp2
      go_ret
      exact ⟨(unhide BW2).trans (unhide M9).below,(unhide KW2).trans (unhide M9).keeps,.inr ⟨L',unhide HR,rfl,_,_,_,_,_,_,_,(unhide M9).sto,(unhide R9).1,by have:=(unhide R9).2.1;rw [withT_len] at this;exact this,(unhide R9).2.2⟩⟩
    ·have SR:Hid (SInv (withT es i 0) wl u L'):=by have:=unhide SRH;rw [if_neg n1] at this;exact this
     have MV:=M6
     have nb:((nz:Int) == 1)=false:=by simp;omega
     go_upto_region 9 with fail
     have g0:=((unhide MV).sto.head 2 (by omega)).1
     have g1:=((unhide MV).sto.head 2 (by omega)).2
     unfold stoF at g0
     have MG:=hide ((unhide MV).step ((unhide MV).sto.gone' (gone + 1)) ((unhide MV).sto.keeps_sb 2 (.int .i64 (gone + 1))) ((Below.refl _ _).setCell (unhide MV).sto.bsb _))
     have QT:=hide (tidy_any (w6.setCell ⟨sb,2,none⟩ (.int .i64 (gone + 1))) (by rw [withT_len];exact hlen) (by omega) (unhide MG).sto (unhide MG).tab (unhide SR).winv (unhide SR).dist (unhide SR).units.ok)
     go_upto_region 10 with fail
     go_wp2_with fail
     with_reducible refine (unhide QT).mono ?_
     rintro e9 w9 ⟨rfl,hb9,hk9,cv9,mb9,gone9,wv9,es9,wl9,hS9,hd9⟩
     simp only []
     have M9:=hide ((unhide MG).step hS9 hk9 hb9)
     have R9:=hide (rem_end (unhide SR) hd9)
     clear hS9 hk9 hb9 hd9 QT g0 g1 MG
     go_wp2
     go_ret
     exact ⟨(unhide BW2).trans (unhide M9).below,(unhide KW2).trans (unhide M9).keeps,.inr ⟨L',unhide HR,rfl,_,_,_,_,_,_,_,(unhide M9).sto,(unhide R9).1,by have:=(unhide R9).2.1;rw [withT_len] at this;exact this,(unhide R9).2.2⟩⟩
   ·have tp:(0:Int) < (t:Int):=by omega
    have SR:Hid (SInv (withT es i t) wl u L'):=by have:=unhide SRH;rw [if_neg (by omega)] at this;exact this
    go_wp2
    go_ret
    exact ⟨(unhide BW2).trans (unhide M1).below,(unhide KW2).trans (unhide M1).keeps,.inr ⟨L',unhide HR,rfl,_,_,_,_,_,_,_,(unhide M1).sto,unhide SR,by rw [withT_len];exact Nat.le_refl _,.inl rfl⟩⟩
end Rd
end Go.Proofs.YtceahffmenbibaaGreatDoor
