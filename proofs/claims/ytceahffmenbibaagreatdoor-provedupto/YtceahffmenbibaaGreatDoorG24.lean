/- Ptid. -/
import Derived.Test.YtceahffmenbibaaGreatDoorG23
import Derived.Laws.Tables
import Derived.Deep.CutRange
set_option linter.unusedVariables false
set_option linter.unusedSimpArgs false
namespace Go.Proofs.YtceahffmenbibaaGreatDoor
namespace Rd
open Go Go.RowKit Go.Deep
attribute [local go_sem ↓] Go.wp_at_zero Go.wp_at_succ
theorem Tryz.zeroSto:Tryz.zeroCells134.toList=[.slice none 0 0,.map none,.int .i64 0,.int .u64 0,.int .u64 0] ++ List.replicate 128 (.slice none 0 0):=by kernel_rfl
def newRow (mb:Nat) (u:Key):List Value:=[.slice none 0 0,.map (some mb),.int .i64 0,.int .u64 (u.1:Int),.int .u64 (u.2:Int)] ++ List.replicate 128 (.slice none 0 0)
theorem newRow_at (mb:Nat) (u:Key) (i:Nat) (hi:i < 133):(newRow mb u)[i]? = some (stoF (.slice none 0 0) mb 0 u (fun _=>.slice none 0 0) i):=by
 unfold newRow
 match i,hi with
 | 0,_=>rfl
 | 1,_=>rfl
 | 2,_=>rfl
 | 3,_=>rfl
 | 4,_=>rfl
 | k + 5,h=>
  rw [List.getElem?_append_right (by simp)]
  simp only [List.length_cons,List.length_nil,Nat.reduceAdd,Nat.add_sub_cancel]
  rw [List.getElem?_replicate,if_pos (by omega)]
  rfl
theorem newRow_len (mb:Nat) (u:Key):(newRow mb u).length=133:=by unfold newRow;simp
theorem newRow_one (mb:Nat) (u:Key):∀ v ∈ newRow mb u,v.oneCell'=true:=fun v hv=>by
 unfold newRow at hv
 rcases List.mem_append.1 hv with h | h
 ·simp only [List.mem_cons,List.not_mem_nil,or_false] at h
  rcases h with rfl | rfl | rfl | rfl | rfl <;> rfl
 ·rw [(List.mem_replicate.1 h).2];rfl
theorem Sto.fresh {B fs mb:Nat} {w:World} {u:Key} (hr:w.heap[fs]? = some (.cells (newRow mb u).toArray 134 (0,0))) (hm:MapIs w mb 0 (fun _=>none)) (hB:B ≤ fs) (hBm:B ≤ mb):Sto B fs w (.slice none 0 0) mb 0 u (fun _=>.slice none 0 0) [] (fun _=>[]) where
 row:=⟨_,hr,by simp [newRow_len],fun i hi=>by simpa using newRow_at mb u i hi⟩
 cls:=World.ownsRow_nil _ _ _ _
 map:=hm.congr fun s _=>rfl
 wat:=fun k _=>World.ownsRow_nil _ _ _ _
 apart:=fun k k' _ _ _=>.inl rfl
 bsb:=hB
 bmb:=hBm
theorem newRow_set (mb:Nat) (u:Key):(((Tryz.zeroCells134.toList.set 1 (.map (some mb))).set 3 (.int .u64 (u.1:Int))).set 4 (.int .u64 (u.2:Int)))=newRow mb u:=by
 rw [Tryz.zeroSto];rfl
theorem zeroSto_size:Tryz.zeroCells134.size=133:=by
 rw [← Array.length_toList,Tryz.zeroSto];rfl
def TidyPost (es es':List Ent) (wl':Nat→List Nat):Prop:=sigs es'=(sigs es).filter (fun p=>decide (0 < p.2))∧WInv es' wl'
theorem owns_base {w:World} {B H e size n:Nat} {v:Value} {xs:List Value} (h:w.ownsRow H e size v n xs) (hB:B ≤ H):w.ownsRow B e size v n xs:=by
 refine ⟨h.1,?_⟩
 rcases h.2 with h2 | ⟨g,cap,cur,e1,hb,r⟩
 ·exact .inl h2
 ·exact .inr ⟨g,cap,cur,e1,Nat.le_trans hB hb,r⟩
theorem Sto.moved {B H fs sb mbf:Nat} {wr:World} {cvf:Value} {u:Key} {wvf:Nat→Value} {ef:List Ent} {wlf:Nat→List Nat} {cf co:Array Value} (h:Sto H fs wr cvf mbf 0 u wvf ef wlf) (hf:wr.heap[fs]? = some (.cells cf 134 (0,0))) (ho:wr.heap[sb]? = some (.cells co 134 (0,0))) (hsb:sb < H) (hB:B ≤ sb):
  Sto B sb (wr.setRow sb cf) cvf mbf 0 u wvf ef wlf where
 row:=by
  obtain ⟨c,hr,hs,ha⟩:=h.row
  rw [hf] at hr
  have e:cf=c:=by cases hr;rfl
  subst e
  exact ⟨cf,setRow_heap _ _ _ _ _ _ ho,hs,ha⟩
 cls:=owns_base (owns_block h.cls fun g hg=>setRow_other _ _ _ _ (by have:=(h.cls.lt g hg).1;omega)) (by omega)
 map:=h.map.kept (setRow_other _ _ _ _ (by have:=h.bmb;omega))
 wat:=fun k hk=>owns_base (owns_block (h.wat k hk) fun g hg=>setRow_other _ _ _ _ (by have:=((h.wat k hk).lt g hg).1;omega)) (by omega)
 apart:=h.apart
 bsb:=hB
 bmb:=by have:=h.bmb;omega
theorem keeps_row {sb:Nat} {wr:World} {cf co:Array Value} (ho:wr.heap[sb]? = some (.cells co 134 (0,0))):Keeps wr (wr.setRow sb cf):=fun k hk=>setRow_other _ _ _ _ (fun e=>by
 obtain ⟨x,t,e1,e2,_⟩:=hk
 first
  |(rw [e,ho] at e1;cases e1;exact e2 rfl)
  |(rw [← e,ho] at e1;cases e1;exact e2 rfl))
structure TidSt (H fs mbf:Nat) (wd:World) (u:Key) (es:List Ent) (i:Nat) (cvf:Value) (wvf:Nat→Value) (ef:List Ent) (wlf:Nat→List Nat) (wr:World):Prop where
 below:Below H wd wr
 keeps:Keeps wd wr
 sto:Sto H fs wr cvf mbf 0 u wvf ef wlf
 tab:Tab H wr
 sig:sigs ef=(sigs (es.take i)).filter (fun p=>decide (0 < p.2))
 winv:WInv ef wlf
def TidRel (H fs mbf:Nat) (wd:World) (u:Key) (es:List Ent) (i29:Value) (wr:World):Prop:=
 ∃ (i:Nat) (cvf:Value) (wvf:Nat→Value) (ef:List Ent) (wlf:Nat→List Nat),i29=.int .i64 i∧i ≤ es.length∧Hid (TidSt H fs mbf wd u es i cvf wvf ef wlf wr)
theorem take_sigs {es:List Ent} {i:Nat} (hi:i < es.length):sigs (es.take (i + 1))=sigs (es.take i) ++ [((es[i]).set,(es[i]).times)]:=by
 rw [List.take_add_one,List.getElem?_eq_getElem hi,Option.toList_some,sigs_snoc]
theorem tid_skip {H fs mbf:Nat} {wd wr:World} {u:Key} {es:List Ent} {i:Nat} {cvf:Value} {wvf:Nat→Value} {ef:List Ent} {wlf:Nat→List Nat} (h:TidSt H fs mbf wd u es i cvf wvf ef wlf wr) (hi:i < es.length) (ht:(es[i]).times=0) {ws:World} (hb:Below wr.heap.size wr ws):
  TidSt H fs mbf wd u es (i + 1) cvf wvf ef wlf ws where
 below:=h.below.trans (hb.mono h.sto.bsize)
 keeps:=h.keeps.trans (Keeps.of_below hb)
 sto:=h.sto.later hb
 tab:=h.tab.later (hb.mono h.sto.bsize)
 sig:=by
  rw [take_sigs hi,List.filter_append,h.sig,ht]
  simp
 winv:=h.winv
theorem tid_put {H fs mbf:Nat} {wd ws:World} {u:Key} {es:List Ent} {i:Nat} {cvf:Value} {wvf:Nat→Value} {ef:List Ent} {wlf':Nat→List Nat} (hsig:sigs ef=(sigs (es.take i)).filter (fun p=>decide (0 < p.2))) (hi:i < es.length) (ht:0 < (es[i]).times)
  (hw:WInv (ef ++ [{ enterE (es[i]).set with times:=(es[i]).times }]) wlf') (b:Below H wd ws) (k:Keeps wd ws) (S:Sto H fs ws cvf mbf 0 u wvf (ef ++ [{ enterE (es[i]).set with times:=(es[i]).times }]) wlf') (T:Tab H ws):
  TidSt H fs mbf wd u es (i + 1) cvf wvf (ef ++ [{ enterE (es[i]).set with times:=(es[i]).times }]) wlf' ws where
 below:=b
 keeps:=k
 sto:=S
 tab:=T
 sig:=by
  rw [take_sigs hi,List.filter_append,sigs_snoc,hsig]
  congr 1
  simp [ht,enterE]
 winv:=hw
theorem tid_none {es ef:List Ent} {i:Nat} (hsig:sigs ef=(sigs (es.take i)).filter (fun p=>decide (0 < p.2))) (hi:i < es.length) (hd:(es.map Ent.set).Nodup):look ef (es[i]).set=none:=by
 rw [look_none]
 intro e he hs
 have:=mem_sigs he
 rw [hsig,List.mem_filter] at this
 obtain ⟨e0,he0,h1,_⟩:=of_sigs this.1
 obtain ⟨j,hj,rfl⟩:=List.mem_iff_getElem.1 he0
 rw [List.length_take] at hj
 rw [List.getElem_take] at h1
 have:=dist_at hd (i:=j) (j:=i) (by omega) hi (h1.trans hs)
 omega
theorem tid_len {es ef:List Ent} {i:Nat} (hsig:sigs ef=(sigs (es.take i)).filter (fun p=>decide (0 < p.2))):ef.length ≤ es.length:=by
 have h1:=congrArg List.length hsig
 have h2:((sigs (es.take i)).filter (fun p=>decide (0 < p.2))).length ≤ (sigs (es.take i)).length:=List.length_filter_le _ _
 unfold sigs at h1 h2
 simp only [List.length_map] at h1 h2
 have:(es.take i).length ≤ es.length:=by rw [List.length_take];omega
 omega
set_option maxHeartbeats 1000000 in
set_option maxRecDepth 100000 in
theorem tidy_any {B sb mb:Nat} {cv:Value} {gone:Int} {u:Key} {wv:Nat→Value} {es:List Ent} {wl:Nat→List Nat} (w:World) (hlen:es.length ≤ 1048576) (hg:-4194304 ≤ gone∧gone ≤ 4194304)
  (hS:Sto B sb w cv mb gone u wv es wl) (hT:Tab B w) (hW:WInv es wl) (hd:(es.map Ent.set).Nodup) (hu:u.ok):
  Calls Tryz.prog 115 #[.pointer (some ⟨sb,0,none⟩)] w fun e w'=>e=.returned (.tuple #[])∧Below B w w'∧Keeps w w'∧
   ∃ (cv':Value) (mb':Nat) (gone':Int) (wv':Nat→Value) (es':List Ent) (wl':Nat→List Nat),Sto B sb w' cv' mb' gone' u wv' es' wl'∧((gone'=gone∧sigs es'=sigs es∧WInv es' wl')∨(gone'=0∧TidyPost es es' wl')):=by
 obtain ⟨a,cap,hsh⟩:=own_shape5 hS.cls
 subst hsh
 have HS:=hide hS
 have HT:=hide hT
 have HW:=hide hW
 have HD:=hide hd
 have HLEN:=hide hlen
 have y0:=(hS.head 0 (by omega)).1
 have y2:=(hS.head 2 (by omega)).1
 have y3:=(hS.head 3 (by omega)).1
 have y4:=(hS.head 4 (by omega)).1
 unfold stoF at y0 y2 y3 y4
 have dv:Int.tdiv (es.length:Int) 2=((es.length / 2:Nat):Int):=by
  rw [Int.tdiv_eq_ediv_of_nonneg (by omega)];omega
 clear hS hT hW hd
 go_enter Tryz.func115,Tryz.ntmps115
 by_cases hfew:gone ≤ 100 + ((es.length / 2:Nat):Int)
 ·go_wp2_with fail
  go_quiet (fail)
  have DW:Hid (Below w.heap.size w (w.drewN nq)):=bel_drewN' (Below.refl _ _) _
  go_wp2
  refine @bodyPost_ret _ _ _ _ _ (.tuple #[]) ?_ ?_ ?_
  ·simp [results,Tryz.results115,go_sem]
  ·rfl
  exact ⟨rfl,(unhide DW).mono (unhide HS).bsize,Keeps.of_below (unhide DW),_,_,_,_,_,_,(unhide HS).later (unhide DW),.inl ⟨rfl,rfl,unhide HW⟩⟩
 ·go_wp2_with fail
  go_quiet (fail)
  have DW:Hid (Below w.heap.size w (w.drewN nq)):=bel_drewN' (Below.refl _ _) _
  have HSD:=hide ((unhide HS).later (unhide DW))
  generalize w.drewN nq=wd at DW HSD ⊢
  have y0:=((unhide HSD).head 0 (by omega)).1
  have y3:=((unhide HSD).head 3 (by omega)).1
  have y4:=((unhide HSD).head 4 (by omega)).1
  unfold stoF at y0 y3 y4
  have hsb:=(unhide HSD).row.lt
  have ns:¬ (sb=wd.heap.size):=by omega
  have ns2:¬ (wd.heap.size=sb):=by omega
  have hmm:=@run_makeMap Tryz.prog
  have hst:(storeCells ⟨wd.heap.size + 1,0,none⟩ (((Tryz.zeroCells134.toList.set 1 (.map (some wd.heap.size))).set 3 (.int .u64 (u.1:Int))).set 4 (.int .u64 (u.2:Int)))).run Tryz.prog ((wd.alloc (.map #[] 0)).alloc (.cells Tryz.zeroCells134 134))=.ok () (((wd.alloc (.map #[] 0)).alloc (.cells Tryz.zeroCells134 134)).setRow (wd.heap.size + 1) (newRow wd.heap.size u).toArray):=by
   rw [newRow_set]
   have:=run_storeCells_from (P:=Tryz.prog) (wd.heap.size + 1) 134 (newRow wd.heap.size u) 0 Tryz.zeroCells134 ((wd.alloc (.map #[] 0)).alloc (.cells Tryz.zeroCells134 134)) (by have:=heap_alloc_new (wd.alloc (.map #[] 0)) (.cells Tryz.zeroCells134 134);simpa using this) (by rw [newRow_len,zeroSto_size]) (newRow_one _ _)
   simpa using this
  go_upto_region 2 with fail
  have hX:((wd.alloc (.map #[] 0)).alloc (.cells Tryz.zeroCells134 134)).heap[wd.heap.size + 1]? = some (.cells Tryz.zeroCells134 134 (0,0)):=by have:=heap_alloc_new (wd.alloc (.map #[] 0)) (.cells Tryz.zeroCells134 134);simpa using this
  obtain ⟨Y,hY⟩:∃ Y,Y=((wd.alloc (.map #[] 0)).alloc (.cells Tryz.zeroCells134 134)).setRow (wd.heap.size + 1) (newRow wd.heap.size u).toArray:=⟨_,rfl⟩
  have BY:Hid (Below wd.heap.size wd Y):=by
   unfold Hid;rw [hY]
   exact below_setRow (((Below.refl _ _).alloc (Nat.le_refl _) _).alloc (by simp) _) (by omega) _
  have SY:Hid (Sto wd.heap.size (wd.heap.size + 1) Y (.slice none 0 0) wd.heap.size 0 u (fun _=>.slice none 0 0) [] (fun _=>[])):=by
   unfold Hid
   refine Sto.fresh ?_ ?_ (by omega) (Nat.le_refl _)
   ·rw [hY];exact setRow_heap _ _ _ _ _ _ hX
   ·rw [hY]
    refine (mapIs_made wd).kept ?_
    rw [setRow_other _ _ _ _ (by omega),Below.heap_alloc _ _ _ (by simp)]
  rw [← hY]
  clear hY hX hst hmm
  have y0:=((unhide BY).cell (p:=⟨sb,0,none⟩) hsb).trans y0
  have T0:Hid (TidSt wd.heap.size (wd.heap.size + 1) wd.heap.size wd u es 0 (.slice none 0 0) (fun _=>.slice none 0 0) [] (fun _=>[]) Y):=
   ⟨unhide BY,Keeps.of_below (unhide BY),unhide SY,by
    have t1:=(unhide HT).later ((unhide DW).mono (unhide HS).bsize)
    have t2:=t1.later ((unhide BY).mono (unhide HSD).bsize)
    exact ⟨t2.1,by have:=t2.2;have:=(unhide HSD).bsize;omega⟩,by simp [sigs],WInv.empty⟩
  clear SY BY
  go_wp2
  go_loopw [29] (fun i wr=>TidRel wd.heap.size (wd.heap.size + 1) wd.heap.size wd u es i wr) (fun i _=>es.length - (intOf i).toNat)
  case atStart=>exact ⟨0,_,_,_,_,rfl,Nat.zero_le _,T0⟩
  case round=>
   clear T0 y0
   obtain ⟨i,cvf,wvf,ef,wlf,rfl,hil,T⟩:=hrel
   have HSR:=hide ((unhide HSD).later (unhide T).below)
   by_cases hlt:i < es.length
   ·obtain ⟨cb,cap',hcv,hcb1,hcb2,hcb3,hcap,hcells⟩:=(unhide HSR).ents i hlt
    obtain ⟨q1,q2,q3⟩:=Value.slice.inj hcv
    subst q1 q3
    clear q2 hcv
    have c0:=(hcells 0 (by omega)).1
    have c1:=(hcells 1 (by omega)).1
    have c2:=(hcells 2 (by omega)).1
    have c3:=(hcells 3 (by omega)).1
    have c4:=(hcells 4 (by omega)).1
    simp only [entV,List.getElem?_cons_succ,List.getElem?_cons_zero] at c0 c1 c2 c3 c4
    have c0:wr.cell? ⟨cb,i * 5,none⟩=some (.int .u64 ((es[i]).set.1:Int)):=c0
    have sok:(es[i]).set.ok:=(unhide HW).ok _ (List.getElem_mem _)
    have NON:=hide (tid_none (unhide T).sig hlt (unhide HD))
    have PUT:Hid (∀ (ws:World) (cv2:Value) (wv2:Nat→Value),0 < (es[i]).times→Below wd.heap.size wr ws→Keeps wr ws→Sto wd.heap.size (wd.heap.size + 1) ws cv2 wd.heap.size 0 u wv2 (ef ++ [{ enterE (es[i]).set with times:=(es[i]).times }]) (enterW wlf (es[i]).set ef.length)→TidSt wd.heap.size (wd.heap.size + 1) wd.heap.size wd u es (i + 1) cv2 wv2 (ef ++ [{ enterE (es[i]).set with times:=(es[i]).times }]) (enterW wlf (es[i]).set ef.length) ws):=fun ws cv2 wv2 h1 h2 h3 h4=>
     tid_put (unhide T).sig hlt h1 ((unhide T).winv.enter sok _) ((unhide T).below.trans h2) ((unhide T).keeps.trans h3) h4 ((unhide T).tab.later h2)
    have SKP:Hid (∀ ws,(es[i]).times=0→Below wr.heap.size wr ws→TidSt wd.heap.size (wd.heap.size + 1) wd.heap.size wd u es (i + 1) cvf wvf ef wlf ws):=fun ws h1 h2=>tid_skip (unhide T) hlt h1 h2
    have eflen:ef.length ≤ es.length:=tid_len (unhide T).sig
    generalize (es[i]).set=s at *
    generalize (es[i]).watched=wk at *
    generalize (es[i]).times=t at *
    clear hcells
    have ii0:(0:Int) ≤ (i:Int):=by omega
    have ii1:(i:Int) < (es.length:Int):=by omega
    go_upto_region 5 with fail
    have BX:Hid (Below wr.heap.size wr (wr.alloc (.cells #[.int .u64 (s.1:Int),.int .u64 (s.2:Int),.int .u64 (wk.1:Int),.int .u64 (wk.2:Int),.int .i64 (t:Int)] 180))):=(Below.refl _ _).alloc (Nat.le_refl _) _
    obtain ⟨X,hX⟩:∃ X,X=wr.alloc (.cells #[.int .u64 (s.1:Int),.int .u64 (s.2:Int),.int .u64 (wk.1:Int),.int .u64 (wk.2:Int),.int .i64 (t:Int)] 180):=⟨_,rfl⟩
    have kx:X.heap[wr.heap.size]? = some (.cells #[.int .u64 (s.1:Int),.int .u64 (s.2:Int),.int .u64 (wk.1:Int),.int .u64 (wk.2:Int),.int .i64 (t:Int)] 180 (0,0)):=by rw [hX];exact heap_alloc_new _ _
    have k0:X.cell? ⟨wr.heap.size,0,none⟩=some (.int .u64 (s.1:Int)):=by rw [hX];simp
    have k1:X.cell? ⟨wr.heap.size,1,none⟩=some (.int .u64 (s.2:Int)):=by rw [hX];simp
    have k4:X.cell? ⟨wr.heap.size,4,none⟩=some (.int .i64 (t:Int)):=by rw [hX];simp
    rw [← hX] at BX ⊢
    clear hX c0 c1 c2 c3 c4
    by_cases ht:t=0
    ·subst ht
     have NX:=hide (unhide SKP X rfl (unhide BX))
     go_wp2
     go_roundw
     case rel=>exact ⟨i + 1,_,_,_,_,ret_int' (by omega),by omega,NX⟩
     case measure=>simp [intOf];omega
    ·have tp:(0:Int) < (t:Int):=by omega
     have SX:=hide ((unhide T).sto.later (unhide BX))
     have TX:=hide ((unhide T).tab.later ((unhide BX).mono (unhide T).sto.bsize))
     have QE:=hide (enter_any2 s X sok (unhide NON) (Nat.le_trans eflen (unhide HLEN)) (fun k hk=>Nat.le_trans ((unhide T).winv.len hk) (by have:=unhide HLEN;omega)) (unhide SX) (unhide TX))
     unfold keyV at QE
     have KK:Hid (cvf.ownBlock ≠ some wr.heap.size):=fun e=>by have:=((unhide T).sto.cls.lt _ e).2;omega
     go_upto_region 6 with fail
     go_wp2_with fail
     with_reducible refine (unhide QE).mono ?_
     rintro e6 w6 ⟨rfl,hb6,hk6,cv6,wv6,hE6,hS6⟩
     simp only []
     have k6:w6.cell? ⟨wr.heap.size,4,none⟩=some (.int .i64 (t:Int)):=(World.cell?_of_block (a:=⟨wr.heap.size,4,none⟩) (hE6 _ _ kx (unhide KK)).1).trans k4
     have gx:ef.length < (ef ++ [enterE s]).length:=by simp
     obtain ⟨cb6,cap6,hcv6,_,_,_,hcap6,hcells6⟩:=hS6.ents ef.length gx
     subst hcv6
     have f4:=(hcells6 4 (by omega)).1
     have f5:=(hcells6 4 (by omega)).2
     rw [show (ef ++ [enterE s])[ef.length]'gx=enterE s by simp] at f4
     simp only [entV,List.getElem?_cons_succ,List.getElem?_cons_zero] at f4
     have f0:w6.cell? ⟨wd.heap.size + 1,0,none⟩=some (.slice (some ⟨cb6,0,none⟩) (ef ++ [enterE s]).length cap6):=(hS6.head 0 (by omega)).1
     have e9:withT (ef ++ [enterE s]) ef.length t=ef ++ [{ enterE s with times:=t }]:=by unfold withT;rw [modify_last]
     have S9:=hS6.setT gx t
     rw [e9] at S9
     have K9:Keeps wr (w6.setCell ⟨cb6,ef.length * 5 + 4,none⟩ (.int .i64 (t:Int))):=((Keeps.of_below (unhide BX)).trans hk6).trans (hS6.keeps_cb _ _)
     have B9:Below wd.heap.size wr (w6.setCell ⟨cb6,ef.length * 5 + 4,none⟩ (.int .i64 (t:Int))):=(((unhide BX).mono (unhide T).sto.bsize).trans hb6).setCell (by rcases hS6.cls.2 with ⟨e2,_⟩ | ⟨g',c',cur,e2,hb',_⟩ <;> cases e2;exact hb') _
     have NX:=hide (unhide PUT _ _ _ (by omega) B9 K9 S9)
     have glen:(ef ++ [enterE s]).length=ef.length + 1:=by simp
     rw [glen] at f0 hcap6
     rw [show (enterE s).times=0 from rfl] at f4
     have jj0:(0:Int) ≤ (ef.length:Int):=by omega
     have jj1:(ef.length:Int) < ((ef.length + 1:Nat):Int):=by omega
     clear hS6 hk6 hb6 hE6 hcells6 S9 K9 B9 e9 QE SX TX k0 k1 k4 kx gx glen PUT SKP
     go_wp2
     go_roundw
     case rel=>exact ⟨i + 1,_,_,_,_,ret_int' (by omega),by omega,NX⟩
     case measure=>simp [intOf];omega
   ·have ei:i=es.length:=by omega
    subst ei
    obtain ⟨cf,hcf,hcs,hca⟩:=(unhide T).sto.row
    obtain ⟨co,hco,hos,_⟩:=(unhide HSR).row
    have h1c:cf.all (·.oneCell')=true:=by
     rw [Array.all_eq_true_iff_forall_mem]
     intro v hv
     obtain ⟨k,hk,e⟩:=Array.mem_iff_getElem.1 hv
     have:=hca k (by omega)
     rw [Array.getElem?_eq_getElem hk,e] at this
     rw [Option.some.inj this]
     match k with
     | 0=>
      obtain ⟨x,y,e2⟩:=own_shape5 (unhide T).sto.cls
      show cvf.oneCell'=true
      rw [e2];rfl
     | 1=>rfl
     | 2=>rfl
     | 3=>rfl
     | 4=>rfl
     | n + 5=>
      obtain ⟨x,y,e2⟩:=own_shape5 ((unhide T).sto.wat n (by omega))
      show (wvf n).oneCell'=true
      rw [e2];rfl
    have inf:(Tryz.prog.info? 134).map (·.size)=some cf.size:=by rw [hcs];kernel_rfl
    have HB:B ≤ wd.heap.size:=(unhide HSD).bsize
    have SN:Hid (Sto B sb (wr.setRow sb cf) cvf wd.heap.size 0 u wvf ef wlf):=(unhide T).sto.moved hcf hco hsb (unhide HSD).bsb
    have BN:Hid (Below B w (wr.setRow sb cf)):=below_setRow (((unhide DW).mono (unhide HS).bsize).trans ((unhide T).below.mono HB)) (unhide HSD).bsb _
    have KN:Hid (Keeps w (wr.setRow sb cf)):=((Keeps.of_below (unhide DW)).trans (unhide T).keeps).trans (keeps_row hco)
    have TP:Hid (TidyPost es ef wlf):=⟨by have:=(unhide T).sig;rw [List.take_length] at this;exact this,(unhide T).winv⟩
    have sz:co.size=cf.size:=by rw [hos,hcs]
    clear hca hcs hos
    go_upto_region 9 with fail
    go_wp2_with (first
     |(refine wpList_load_row rfl 134 _ rfl (wd.heap.size + 1) rfl 134 cf (0,0) _ hcf Tryz.underlying134 rfl inf ?_)
     |(refine wpList_store_row rfl 134 _ _ rfl sb cf rfl rfl 134 co hco inf sz h1c ?_))
    go_end0
    exact ⟨rfl,unhide BN,unhide KN,_,_,_,_,_,_,unhide SN,.inr ⟨rfl,unhide TP⟩⟩
end Rd
end Go.Proofs.YtceahffmenbibaaGreatDoor
