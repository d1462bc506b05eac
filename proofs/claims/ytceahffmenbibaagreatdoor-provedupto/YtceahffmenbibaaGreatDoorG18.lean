/- Pset Pfst Pfrd Pcpy. -/
import Derived.Test.YtceahffmenbibaaGreatDoorG17
import Derived.Test.YtceahffmenbibaaGreatDoorG15
import Derived.Laws.CopyOwn
set_option linter.unusedVariables false
set_option linter.unusedSimpArgs false
namespace Go.Proofs.YtceahffmenbibaaGreatDoor
namespace Rd
open Go Go.RowKit Go.Deep
attribute [local go_sem ↓] Go.wp_at_zero Go.wp_at_succ
def keyF (s:Key):Nat→Value:=pairF (.int .u64 (s.1:Int)) (.int .u64 (s.2:Int))
structure SetSt (H:Nat) (w:World) (s:Key) (wr:World):Prop where
 res:wr.rowIs H 84 2 (keyF (0,0))
 cur:wr.rowIs (H + 1) 84 2 (keyF s)
 below:Below H w wr
 hs:H + 2 ≤ wr.heap.size
def SetRel (H:Nat) (w:World) (xs:List Int) (i:Value) (wr:World):Prop:=∃ k:Nat,k ≤ xs.length∧i=.int .i64 k∧Hid (SetSt H w (setOf (xs.take k)) wr)
theorem SetSt.put {H:Nat} {w wr w7:World} {s t:Key} (h:SetSt H w s wr) (hb:Below wr.heap.size wr w7):SetSt H w t ((w7.setCell ⟨H + 1,0,none⟩ (.int .u64 (t.1:Int))).setCell ⟨H + 1,1,none⟩ (.int .u64 (t.2:Int))) where
 res:=((h.res.of_block (hb.block _ (by have:=h.hs;omega))).setOther (by simp) _).setOther (by simp) _
 cur:=(((h.cur.of_block (hb.block _ (by have:=h.hs;omega))).set 0 _).set 1 _).congr fun i hi=>by
  match i,hi with
  | 0,_=>rfl
  | 1,_=>rfl
 below:=((h.below.trans (hb.mono (by have:=h.hs;omega))).setCell (by simp) _).setCell (by simp) _
 hs:=by have:=h.hs;have:=hb.size;simp [World.setCell];omega
set_option maxHeartbeats 1000000 in
set_option maxRecDepth 100000 in
theorem setOf_any (xs:List Int) (v:Value) (w:World) (hv:RdRow w v xs) (hl:∀ l ∈ xs,IsLit l) (hlen:xs.length ≤ 1048576):
  Calls Tryz.prog 69 #[v] w fun e w'=>e=.returned (keyV (setOf xs))∧Below w.heap.size w w':=by
 obtain ⟨ua,uc,ub,rfl,hua,hucell⟩:=hv
 have HU:=hide hucell
 have HUA:=hide hua
 have HL:=hide hl
 clear hucell hua hl
 go_enter Tryz.func69,Tryz.ntmps69
 go_wp2
 obtain ⟨W,hW⟩:∃ W,W=(w.alloc (Obj.cells #[Value.int IntKind.u64 0,Value.int IntKind.u64 0] 84)).alloc (Obj.cells #[Value.int IntKind.u64 0,Value.int IntKind.u64 0] 84):=⟨_,rfl⟩
 rw [← hW]
 have S0:Hid (SetSt w.heap.size w (0,0) W):=by
  unfold Hid;rw [hW]
  exact ⟨(rowIs_two w _ _ _).alloc _,rowIs_two' w _ _ _ _,below2 (Below.refl _ _) (Nat.le_refl _) _ _,by simp⟩
 clear hW
 go_loopw [8] (fun i wr=>SetRel w.heap.size w xs i wr) (fun i _=>xs.length - (intOf i).toNat)
 case atStart=>exact ⟨0,Nat.zero_le _,rfl,S0⟩
 case round=>
  clear S0
  obtain ⟨k,hk,rfl,hst⟩:=hrel
  have c0:=(unhide hst).cur.cell (i:=0) (by omega)
  have c1:=(unhide hst).cur.cell (i:=1) (by omega)
  have f0:=(unhide hst).cur.frozen 0
  have f1:=(unhide hst).cur.frozen 1
  have r0:=(unhide hst).res.cell (i:=0) (by omega)
  have r1:=(unhide hst).res.cell (i:=1) (by omega)
  have g0:=(unhide hst).res.frozen 0
  have g1:=(unhide hst).res.frozen 1
  unfold keyF pairF at c0 c1 r0 r1
  simp only [if_true,show ¬ (1=0) by decide,if_false] at c0 c1 r0 r1
  have hh:=(unhide hst).hs
  have lit:∀ l ∈ xs.take k,IsLit l:=fun l h=>unhide HL l (List.mem_of_mem_take h)
  have ok:=setOf_ok lit
  clear lit
  by_cases hlt:k < xs.length
  ·have hcl:=unhide HU k hlt
   have hx:=unhide HUA (by omega)
   subst hx
   have hcl':wr.cell? ⟨ub,k,none⟩=some (.int .i64 (xs.getD k 0)):=by rw [(unhide hst).below.cell (p:=⟨ub,k,none⟩) (block_lt_of_cell hcl)];exact hcl
   have T:Hid (setOf (xs.take (k + 1))=(setOf (xs.take k)).un (single (xs.getD k 0))):=by
    unfold Hid;rw [List.take_succ_eq_append_getElem hlt,setOf_snoc];simp [List.getD_eq_getElem?_getD,hlt]
   have xl:IsLit (xs.getD k 0):=unhide HL _ (by simp [List.getD_eq_getElem?_getD,hlt])
   clear hcl
   generalize xs.getD k 0=x at hcl' T xl
   have q1:=hide (fun W'=>single_any x W' xl)
   have q2:=hide (fun W'=>union_any (setOf (xs.take k)) (single x) W' ok (single_ok xl))
   rw [← unhide T] at q2
   unfold keyV at q1 q2
   have ub':ub < w.heap.size:=block_lt_of_cell (unhide HU k hlt)
   generalize single x=sx at q1 q2 T
   generalize hsk:setOf (xs.take k)=sk at c0 c1 q2 hst ok T
   generalize hsn:setOf (xs.take (k + 1))=sn at q2 T
   have HSN:=hide hsn
   clear ok xl T hsk hsn
   go_wp2
   go_region_with (first
    |(go_at_call 73;refine (unhide q1 _).mono ?_;rintro e6 w6 ⟨rfl,hb6⟩;have B6:Hid (Below wr.heap.size wr w6):=(Below.refl _ _).drew.trans hb6;have d0:=((unhide B6).cell (p:=⟨w.heap.size + 1,0,none⟩) (by simp;omega)).trans c0;have d1:=((unhide B6).cell (p:=⟨w.heap.size + 1,1,none⟩) (by simp;omega)).trans c1;have s6:=hb6.size;clear hb6)
    |(go_at_call 75;refine (unhide q2 _).mono ?_;rintro e7 w7 ⟨rfl,hb7⟩;have B7:Hid (Below wr.heap.size wr w7):=(unhide B6).trans (hb7.mono (unhide B6).size);have e0:=((unhide B7).cell (p:=⟨w.heap.size + 1,0,none⟩) (by simp;omega)).trans c0;have e1:=((unhide B7).cell (p:=⟨w.heap.size + 1,1,none⟩) (by simp;omega)).trans c1;have e2:=((unhide B7).frozen (p:=⟨w.heap.size + 1,0,none⟩) (by simp;omega)).trans f0;have e3:=((unhide B7).frozen (p:=⟨w.heap.size + 1,1,none⟩) (by simp;omega)).trans f1;clear hb7))
   all_goals
    have SN:=hide ((unhide hst).put (t:=sn) (unhide B7))
    go_wp2
    go_roundw
    case rel=>exact ⟨k + 1,by omega,ret_int' (by omega),by rw [unhide HSN];exact SN⟩
    case measure=>simp [intOf];omega
  ·have e:k=xs.length:=by omega
   subst e
   rw [List.take_of_length_le (Nat.le_refl _)] at hst c0 c1
   obtain ⟨sk,hsk⟩:∃ x,x=setOf xs:=⟨_,rfl⟩
   rw [← hsk] at hst c0 c1
   have HSK:=hide hsk
   clear hsk ok
   go_wp2
   refine bodyPost_ret (v:=.agg #[.int .u64 (sk.1:Int),.int .u64 (sk.2:Int)]) (by simp [results,Tryz.results69,go_sem,r0,r1]) rfl ⟨by rw [← unhide HSK];rfl,?_⟩
   exact (((unhide hst).below.setCell (by simp) _).setCell (by simp) _)
end Rd
end Go.Proofs.YtceahffmenbibaaGreatDoor
namespace Go.Proofs.YtceahffmenbibaaGreatDoor
namespace Rd
open Go Go.RowKit Go.Deep
variable {B sb mb:Nat} {w wr ws:World} {cv:Value} {gone:Int} {u:Key} {wv wv':Nat→Value} {es es':List Ent} {wl wl':Nat→List Nat} {L D F:Key}
structure FalMem (B sb:Nat) (w:World) (L D F:Key) (cv:Value) (mb:Nat) (gone:Int) (u:Key) (wv:Nat→Value) (es:List Ent) (wl:Nat→List Nat) (wr:World):Prop where
 lrow:wr.rowIs w.heap.size 84 2 (keyF L)
 drow:wr.rowIs (w.heap.size + 1) 84 2 (keyF D)
 frow:wr.rowIs (w.heap.size + 2) 84 2 (keyF F)
 sto:Sto B sb wr cv mb gone u wv es wl
 below:Below B w wr
 keeps:Keeps w wr
 hs:w.heap.size + 3 ≤ wr.heap.size
 tab:Tab B wr
 bw:B ≤ w.heap.size
theorem row_foreign {b n:Nat} {f:Nat→Value} (h:wr.rowIs b 84 n f):Foreign wr b:=by
 obtain ⟨c,hr,_⟩:=h
 exact ⟨c,_,hr,by decide⟩
theorem FalMem.step (h:FalMem B sb w L D F cv mb gone u wv es wl wr) (S:Sto B sb ws cv mb gone u wv' es' wl') (k:Keeps wr ws) (b:Below B wr ws):FalMem B sb w L D F cv mb gone u wv' es' wl' ws where
 lrow:=h.lrow.of_block (k _ (row_foreign h.lrow))
 drow:=h.drow.of_block (k _ (row_foreign h.drow))
 frow:=h.frow.of_block (k _ (row_foreign h.frow))
 sto:=S
 below:=h.below.trans b
 keeps:=h.keeps.trans k
 hs:=Nat.le_trans h.hs b.size
 tab:=h.tab.later b
 bw:=h.bw
theorem FalMem.later (h:FalMem B sb w L D F cv mb gone u wv es wl wr) (hb:Below wr.heap.size wr ws):FalMem B sb w L D F cv mb gone u wv es wl ws:=
 h.step (h.sto.later hb) (Keeps.of_below hb) (hb.mono h.sto.bsize)
theorem sto_foreign {b n:Nat} {f:Nat→Value} (h:Sto B sb wr cv mb gone u wv es wl) (hb:wr.rowIs b 84 n f) (hbl:∀ k,k ≠ b→ws.heap[k]? = wr.heap[k]?):Sto B sb ws cv mb gone u wv es wl:=by
 obtain ⟨c,hr,_⟩:=hb
 have ne:∀ g cur t,wr.heap[g]? = some (.cells cur t (0,0))→t ≠ 84→g ≠ b:=fun g cur t hg ht e=>by rw [e,hr] at hg;cases hg;exact ht rfl
 exact {
  row:=h.row.of_block (hbl _ (by obtain ⟨c2,hr2,_⟩:=h.row;exact ne _ _ _ hr2 (by decide)))
  cls:=owns_block h.cls fun g hg=>hbl g (by
   rcases h.cls.2 with ⟨e2,_⟩ | ⟨g',cap',cur,e2,_,hg',_⟩
   ·rw [e2] at hg;cases hg
   ·rw [e2] at hg;cases hg;exact ne _ _ _ hg' (by decide))
  map:=h.map.kept (hbl _ (fun e=>h.map.not_cells (by rw [e];exact hr)))
  wat:=fun k hk=>owns_block (h.wat k hk) fun g hg=>hbl g (by
   rcases (h.wat k hk).2 with ⟨e2,_⟩ | ⟨g',cap',cur,e2,_,hg',_⟩
   ·rw [e2] at hg;cases hg
   ·rw [e2] at hg;cases hg;exact ne _ _ _ hg' (by decide))
  apart:=h.apart
  bsb:=h.bsb
  bmb:=h.bmb }
theorem keyF_set {b:Nat} {s t:Key} (h:wr.rowIs b 84 2 (keyF s)):((wr.setCell ⟨b,0,none⟩ (.int .u64 (t.1:Int))).setCell ⟨b,1,none⟩ (.int .u64 (t.2:Int))).rowIs b 84 2 (keyF t):=
 ((h.set 0 _).set 1 _).congr fun i hi=>by
  match i,hi with
  | 0,_=>rfl
  | 1,_=>rfl
theorem two_other {b:Nat} {x y:Value}:∀ k,k ≠ b→((wr.setCell ⟨b,0,none⟩ x).setCell ⟨b,1,none⟩ y).heap[k]? = wr.heap[k]? := fun k hk=>by
 rw [Below.heap_setCell _ _ _ _ (by simpa using hk),Below.heap_setCell _ _ _ _ (by simpa using hk)]
theorem keeps_new {b:Nat} {x y:Value} (h:Keeps w wr) (hb:w.heap.size ≤ b):Keeps w ((wr.setCell ⟨b,0,none⟩ x).setCell ⟨b,1,none⟩ y):=fun k hk=>by
 rw [two_other k (by have:=hk.lt;omega)];exact h k hk
theorem FalMem.putF (h:FalMem B sb w L D F cv mb gone u wv es wl wr) (t:Key):FalMem B sb w L D t cv mb gone u wv es wl ((wr.setCell ⟨w.heap.size + 2,0,none⟩ (.int .u64 (t.1:Int))).setCell ⟨w.heap.size + 2,1,none⟩ (.int .u64 (t.2:Int))) where
 lrow:=h.lrow.of_block (two_other _ (by omega))
 drow:=h.drow.of_block (two_other _ (by omega))
 frow:=keyF_set h.frow
 sto:=sto_foreign h.sto h.frow two_other
 below:=(h.below.setCell (by have:=h.bw;simp;omega) _).setCell (by have:=h.bw;simp;omega) _
 keeps:=keeps_new h.keeps (by omega)
 hs:=by have:=h.hs;simp [World.setCell];omega
 tab:=h.tab.later (((Below.refl _ _).setCell (by have:=h.bw;simp;omega) _).setCell (by have:=h.bw;simp;omega) _)
 bw:=h.bw
theorem FalMem.putD (h:FalMem B sb w L D F cv mb gone u wv es wl wr) (t:Key):FalMem B sb w L t F cv mb gone u wv es wl ((wr.setCell ⟨w.heap.size + 1,0,none⟩ (.int .u64 (t.1:Int))).setCell ⟨w.heap.size + 1,1,none⟩ (.int .u64 (t.2:Int))) where
 lrow:=h.lrow.of_block (two_other _ (by omega))
 drow:=keyF_set h.drow
 frow:=h.frow.of_block (two_other _ (by omega))
 sto:=sto_foreign h.sto h.drow two_other
 below:=(h.below.setCell (by have:=h.bw;simp;omega) _).setCell (by have:=h.bw;simp;omega) _
 keeps:=keeps_new h.keeps (by omega)
 hs:=by have:=h.hs;simp [World.setCell];omega
 tab:=h.tab.later (((Below.refl _ _).setCell (by have:=h.bw;simp;omega) _).setCell (by have:=h.bw;simp;omega) _)
 bw:=h.bw
structure FalSt (B sb:Nat) (w:World) (lit:Int) (down0:Key) (cv:Value) (mb:Nat) (gone:Int) (u:Key) (es0:List Ent) (orig:List Nat) (V:Value) (i:Nat) (kl:List Nat) (F:Key) (wv:Nat→Value) (es:List Ent) (wl:Nat→List Nat) (wr:World):Prop where
 mem:FalMem B sb w (single lit) (down0.un F) F cv mb gone u wv es (fun k=>if k=place lit then mix kl orig else wl k) wr
 hv:wv (place lit)=V
 finv:FInv es0 lit down0 orig i es wl kl F
def FalRel (B sb:Nat) (w:World) (lit:Int) (down0:Key) (cv:Value) (mb:Nat) (gone:Int) (u:Key) (es0:List Ent) (orig:List Nat) (V:Value) (k10 i25:Value) (wr:World):Prop:=
 ∃ (i:Nat) (kl:List Nat) (F:Key) (wv:Nat→Value) (es:List Ent) (wl:Nat→List Nat),k10=.int .i64 kl.length∧i25=.int .i64 i∧Hid (FalSt B sb w lit down0 cv mb gone u es0 orig V i kl F wv es wl wr)
def FalRet (B sb:Nat) (w:World) (lit:Int) (down0:Key) (cv:Value) (mb:Nat) (gone:Int) (u:Key) (es0:List Ent) (e:Ending) (w':World):Prop:=
 ∃ (F:Key) (c:Bool) (wv:Nat→Value) (es:List Ent) (wl:Nat→List Nat),e=.returned (.tuple #[keyV F,.bool c])∧Below B w w'∧Keeps w w'∧Sto B sb w' cv mb gone u wv es wl∧FalsPost es0 es lit down0 F c∧WInv es wl
theorem FalSt.start {lit:Int} {down0:Key} (hM:FalMem B sb w (single lit) down0 (0,0) cv mb gone u wv es wl wr) (hw:WInv es wl):FalSt B sb w lit down0 cv mb gone u es (wl (place lit)) (wv (place lit)) 0 [] (0,0) wv es wl wr where
 mem:=by
  have e1:(fun k=>if k=place lit then mix [] (wl (place lit)) else wl k)=wl:=by
   funext k;rw [mix_nil];split
   ·rename_i e;rw [e]
   ·rfl
  have e2:down0.un (0,0)=down0:=key_ext fun x=>by rw [has_un,has_empty,Bool.or_false]
  rw [e1,e2];exact hM
 hv:=rfl
 finv:=FInv.start hw
end Rd
end Go.Proofs.YtceahffmenbibaaGreatDoor
namespace Go.Proofs.YtceahffmenbibaaGreatDoor
namespace Rd
open Go Go.RowKit Go.Deep
variable {B sb mb:Nat} {w wr ws:World} {cv V:Value} {gone:Int} {u:Key} {wv wv':Nat→Value} {es0 es es':List Ent} {wl wl':Nat→List Nat} {L D F F' down0:Key} {lit:Int} {orig kl:List Nat} {i:Nat}
theorem nodup_le:∀ (n:Nat) (l:List Nat),l.Nodup→(∀ x ∈ l,x < n)→l.length ≤ n
 | 0,l,_,h=>by
  cases l with
  | nil=>exact Nat.le_refl _
  | cons a r=>exact absurd (h a (List.mem_cons_self ..)) (Nat.not_lt_zero _)
 | n + 1,l,hd,h=>by
  have h1:=nodup_le n (l.erase n) (hd.erase n) (fun x hx=>by
   have:=h x (List.mem_of_mem_erase hx)
   have:x ≠ n:=fun e=>by subst e;exact hd.not_mem_erase hx
   omega)
  by_cases hm:n ∈ l
  ·rw [List.length_erase_of_mem hm] at h1;omega
  ·rw [List.erase_of_not_mem hm] at h1;omega
theorem WInv.len (h:WInv es wl) {k:Nat} (hk:k < 128):(wl k).length ≤ es.length:=nodup_le _ _ (h.nodup k hk) fun x hx=>(h.lists k hk x hx).1
theorem FalSt.keep {gb n cap:Nat} (hM:FalMem B sb w (single lit) (down0.un F) F cv mb gone u wv es (fun k=>if k=place lit then mix kl orig else wl k) ws) (hv:wv (place lit)=.slice (some ⟨gb,0,none⟩) n cap) (il:IsLit lit) (hi:i < orig.length) (hk:kl.length ≤ i)
  (hF:FInv es0 lit down0 orig (i + 1) es wl (kl ++ [orig[i]]) F):FalSt B sb w lit down0 cv mb gone u es0 orig (.slice (some ⟨gb,0,none⟩) n cap) (i + 1) (kl ++ [orig[i]]) F wv es wl (ws.setCell ⟨gb,kl.length,none⟩ (.int .i64 (orig[i]:Nat))) where
 mem:=by
  have S:=hM.sto.setL (i:=kl.length) (a:=orig[i]) (place_lt il) hv
  have e:(fun k=>if k=place lit then ((fun k=>if k=place lit then mix kl orig else wl k) (place lit)).set kl.length orig[i] else (fun k=>if k=place lit then mix kl orig else wl k) k)=fun k=>if k=place lit then mix (kl ++ [orig[i]]) orig else wl k:=by
   funext k
   by_cases e:k=place lit
   ·simp only [e,if_true];exact mix_set (by omega)
   ·simp only [e,if_false]
  rw [e] at S
  obtain ⟨_,_,hb,_⟩:=hM.sto.wlt (place_lt il) hv
  exact hM.step S (hM.sto.keepsL (place_lt il) hv _ _) ((Below.refl _ _).setCell hb _)
 hv:=hv
 finv:=hF
theorem FalSt.over {j:Nat} {c:Int} {k1:Key} (hM:FalMem B sb w (single lit) (down0.un F) F cv mb gone u wv' (withW (withW es j k1) j (k1.un (single c))) (fun k=>if k=place c then (if place c=place lit then mix kl orig else wl (place c)) ++ [j] else if k=place lit then mix kl orig else wl k) ws)
  (hv:wv' (place lit)=V) (il:IsLit lit) (ic:IsLit c) (hcl:c ≠ lit)
  (hF:FInv es0 lit down0 orig (i + 1) (withW es j (k1.un (single c))) (fun k=>if k=place c then wl k ++ [j] else wl k) kl F):
  FalSt B sb w lit down0 cv mb gone u es0 orig V (i + 1) kl F wv' (withW es j (k1.un (single c))) (fun k=>if k=place c then wl k ++ [j] else wl k) ws where
 mem:=by
  have pcl:place c ≠ place lit:=fun e=>hcl (place_inj ic il e)
  have e:(fun k=>if k=place c then (if place c=place lit then mix kl orig else wl (place c)) ++ [j] else if k=place lit then mix kl orig else wl k)=fun k=>if k=place lit then mix kl orig else if k=place c then wl k ++ [j] else wl k:=by
   funext k
   by_cases e:k=place c
   ·simp only [e,if_true,pcl,if_false]
   ·simp only [e,if_false]
  rw [withW_twice,e] at hM
  exact hM
 hv:=hv
 finv:=hF
theorem FalSt.out {a:Option Addr} {n cap:Nat} (h:FalSt B sb w lit down0 cv mb gone u es0 orig (.slice a n cap) orig.length kl F wv es wl wr) (il:IsLit lit):
  FalRet B sb w lit down0 cv mb gone u es0 (.returned (.tuple #[keyV F,.bool false])) (wr.setCell ⟨sb,5 + place lit,none⟩ (.slice a kl.length cap))∧FalMem B sb w (single lit) (down0.un F) F cv mb gone u (fun k=>if k=place lit then .slice a kl.length cap else wv k) es (fun k=>if k=place lit then kl else wl k) (wr.setCell ⟨sb,5 + place lit,none⟩ (.slice a kl.length cap)):=by
 have S:=h.mem.sto.cutL (k0:=kl.length) (place_lt il) h.hv (by simp [mix])
 have e:(fun k=>if k=place lit then ((fun k=>if k=place lit then mix kl orig else wl k) (place lit)).take kl.length else (fun k=>if k=place lit then mix kl orig else wl k) k)=fun k=>if k=place lit then kl else wl k:=by
  funext k
  by_cases e:k=place lit
  ·simp only [e,if_true];exact mix_take
  ·simp only [e,if_false]
 rw [e] at S
 have M:=h.mem.step S (h.mem.sto.keeps_sb _ _) ((Below.refl _ _).setCell h.mem.sto.bsb _)
 obtain ⟨f1,f2⟩:=h.finv.done il
 exact ⟨⟨F,false,_,es,_,rfl,M.below,M.keeps,M.sto,f1,f2⟩,M⟩
theorem FalMem.confl {gb n cap:Nat} (hM:FalMem B sb w (single lit) (down0.un F) F cv mb gone u wv es (fun k=>if k=place lit then kl ++ orig.drop i ++ orig.drop (kl.length + (orig.length - i)) else wl k) ws) (hv:wv (place lit)=.slice (some ⟨gb,0,none⟩) n cap) (il:IsLit lit)
  (hw:WInv es (fun k=>if k=place lit then kl ++ orig.drop i else wl k)) (hF:FalsPost es0 es lit down0 F true):
  FalRet B sb w lit down0 cv mb gone u es0 (.returned (.tuple #[keyV F,.bool true])) (ws.setCell ⟨sb,5 + place lit,none⟩ (.slice (some ⟨gb,0,none⟩) (kl.length + (orig.length - i)) cap))∧FalMem B sb w (single lit) (down0.un F) F cv mb gone u (fun k=>if k=place lit then .slice (some ⟨gb,0,none⟩) (kl.length + (orig.length - i)) cap else wv k) es (fun k=>if k=place lit then kl ++ orig.drop i else wl k) (ws.setCell ⟨sb,5 + place lit,none⟩ (.slice (some ⟨gb,0,none⟩) (kl.length + (orig.length - i)) cap)):=by
 have S:=hM.sto.cutL (k0:=kl.length + (orig.length - i)) (place_lt il) hv (by simp)
 have e:(fun k=>if k=place lit then ((fun k=>if k=place lit then kl ++ orig.drop i ++ orig.drop (kl.length + (orig.length - i)) else wl k) (place lit)).take (kl.length + (orig.length - i)) else (fun k=>if k=place lit then kl ++ orig.drop i ++ orig.drop (kl.length + (orig.length - i)) else wl k) k)=fun k=>if k=place lit then kl ++ orig.drop i else wl k:=by
  funext k
  by_cases e:k=place lit
  ·simp only [e,if_true]
   rw [List.take_append_of_le_length (by simp),List.take_of_length_le (by simp)]
  ·simp only [e,if_false]
 rw [e] at S
 have M:=hM.step S (hM.sto.keeps_sb _ _) ((Below.refl _ _).setCell hM.sto.bsb _)
 exact ⟨⟨F,true,_,es,_,rfl,M.below,M.keeps,M.sto,hF,hw⟩,M⟩
end Rd
end Go.Proofs.YtceahffmenbibaaGreatDoor
namespace Go.Proofs.YtceahffmenbibaaGreatDoor
namespace Rd
open Go Go.RowKit Go.Deep
theorem step_copy_one {P:Program} {ops:Array Oper} {o:Oper} {a:Act} {w:World} {K:Act→World→Prop} {Q:Exit→Act→World→Prop} {E:Prop} (hgd:o.guard=none) (d s:Operand) (dT sT:TypeId)
  (ho:o.op=.call { callee:=.builtin .copy,args:=#[d,s],argTypes:=#[dT,sT] }) (elem:TypeId) (hu:P.underlying dT=some (.slice elem)) (hsz:(P.info? elem).map (·.size)=some 1)
  (g off:Nat) (ad:Addr) (dLen dCap sLen sCap:Nat) (hd:a.eval d=.slice (some ⟨g,off,none⟩) dLen dCap) (hs:a.eval s=.slice (some ad) sLen sCap)
  (cur:Array Value) (t:TypeId) (hg:w.heap[g]? = some (.cells cur t (0,0))) (cs:List Value) (hn:cs.length=Nat.min sLen dLen)
  (hsrc:∀ j v,cs[j]? = some v→w.cell? (ad.add j)=some v) (hfit:off + cs.length ≤ cur.size) (h1:∀ v ∈ cs,v.oneCell'=true) (B:Nat) (hBg:B ≤ g)
  (h:∀ w',Hid (w'.heap[g]? = some (.cells (splice cur.toList off cs).toArray t (0,0)))→Hid (∀ k,k ≠ g→w'.heap[k]? = w.heap[k]?)→Hid (Below B w w')→K (a.put o.dst (goInt cs.length)) w'):
  if Region.wanted o (yielded ops a.tmps)=true then Oper.wp P o a w K Q else E:=by
 have hw:Region.wanted o (yielded ops a.tmps)=true:=by simp [Region.wanted,hgd]
 rw [if_pos hw]
 have hrun:=run_copy_row (P:=P) w dT sT o.type elem g off dLen dCap ad sLen sCap cur t cs hu hsz hg hn hsrc hfit h1
 unfold Oper.wp
 simp [execOp,ho,resolve,invoke,builtin,hd,hs,hrun,Result.andThen]
 exact h _ (show _=_ by simpa [splice] using setRow_heap w g _ _ t _ hg) (fun k hk=>setRow_other w g k _ (fun e=>hk (by first | exact e | exact e.symm))) (below_setRow (Below.refl _ _) hBg _)
theorem splice_take {kl orig:List Nat} {i:Nat} {cur:List Value} (hk:kl.length ≤ i) (hi:i ≤ orig.length) (hc:cur.take orig.length=natsV (mix kl orig)):
  (splice cur kl.length (natsV (orig.drop i))).take orig.length=natsV (kl ++ orig.drop i ++ orig.drop (kl.length + (orig.length - i))):=by
 have hl:(natsV (orig.drop i)).length=orig.length - i:=by rw [natsV_len];simp
 have hcl:orig.length ≤ cur.length:=by
  have:=congrArg List.length hc
  rw [natsV_len,mix_len (by omega),List.length_take] at this;omega
 have h1:cur.take kl.length=natsV kl:=by
  have:cur.take kl.length=(cur.take orig.length).take kl.length:=by rw [List.take_take];congr 1;omega
  rw [this,hc,← natsV_take,mix_take]
 have h2:(cur.drop (kl.length + (orig.length - i))).take (orig.length - (kl.length + (orig.length - i)))=natsV (orig.drop (kl.length + (orig.length - i))):=by
  have:(cur.drop (kl.length + (orig.length - i))).take (orig.length - (kl.length + (orig.length - i)))=(cur.take orig.length).drop (kl.length + (orig.length - i)):=by rw [List.drop_take]
  rw [this,hc]
  unfold natsV mix
  rw [← List.map_drop,List.drop_append,List.drop_of_length_le (by omega),List.nil_append,List.drop_drop]
  congr 2;omega
 unfold splice
 rw [hl,h1,← List.append_assoc,List.take_append,List.take_of_length_le (by rw [List.length_append,natsV_len,hl];omega),List.length_append,natsV_len,hl,h2]
 unfold natsV
 rw [List.map_append,List.map_append]
variable {B sb mb:Nat} {w wr ws:World} {cv V:Value} {gone:Int} {u:Key} {wv wv':Nat→Value} {es0 es es':List Ent} {wl wl':Nat→List Nat} {L D F F' down0:Key} {lit:Int} {orig kl:List Nat} {i:Nat}
theorem FalMem.copied {gb n cap:Nat} {cur:Array Value} (hM:FalMem B sb w L D F cv mb gone u wv es (fun k=>if k=place lit then mix kl orig else wl k) wr) (hv:wv (place lit)=.slice (some ⟨gb,0,none⟩) n cap) (il:IsLit lit) (hk:kl.length ≤ i) (hi:i ≤ orig.length)
  (hg:wr.heap[gb]? = some (.cells cur 3 (0,0))) (h':ws.heap[gb]? = some (.cells (splice cur.toList kl.length (natsV (orig.drop i))).toArray 3 (0,0))) (ho:∀ k,k ≠ gb→ws.heap[k]? = wr.heap[k]?) (hb:Below B wr ws):
  FalMem B sb w L D F cv mb gone u wv es (fun k=>if k=place lit then kl ++ orig.drop i ++ orig.drop (kl.length + (orig.length - i)) else wl k) ws:=by
 have hw:=hM.sto.wat (place lit) (place_lt il)
 simp only [if_true] at hw
 have hlen:(kl ++ orig.drop i ++ orig.drop (kl.length + (orig.length - i))).length=orig.length:=by simp;omega
 have own:ws.ownsRow B 3 1 (wv (place lit)) (kl ++ orig.drop i ++ orig.drop (kl.length + (orig.length - i))).length (natsV (kl ++ orig.drop i ++ orig.drop (kl.length + (orig.length - i)))):=by
  rw [mix_len (by omega)] at hw
  rw [hlen]
  refine ⟨by rw [natsV_len,hlen];omega,?_⟩
  rcases hw.2 with ⟨e,_⟩ | ⟨g,cap',cur',e,hb',hg',hn,hm,hs,ht⟩
  ·rw [hv] at e;cases e
  ·have e2:=e
   rw [hv] at e2
   obtain ⟨q1,q2,q3⟩:=Value.slice.inj e2
   have q4:g=gb:=by have:=Option.some.inj q1;exact (congrArg Addr.block this).symm
   subst q4
   rw [hg] at hg'
   have q5:cur=cur':=by cases hg';rfl
   subst q5
   simp only [Nat.mul_one] at hs ht ⊢
   refine .inr ⟨g,cap',_,e,hb',h',hn,hm,?_,?_⟩
   ·have:(natsV (orig.drop i)).length=orig.length - i:=by rw [natsV_len];simp
    simp only [List.size_toArray]
    rw [length_splice _ _ _ (by rw [this];simp;omega)];simp;omega
   ·simp only [Nat.mul_one]
    exact splice_take hk hi ht
 have S:=hM.sto.intoWat (place_lt il) hv own ho
 have e:(fun k=>if k=place lit then kl ++ orig.drop i ++ orig.drop (kl.length + (orig.length - i)) else (fun k=>if k=place lit then mix kl orig else wl k) k)=fun k=>if k=place lit then kl ++ orig.drop i ++ orig.drop (kl.length + (orig.length - i)) else wl k:=by
  funext k
  by_cases e:k=place lit
  ·simp only [e,if_true]
  ·simp only [e,if_false]
 rw [e] at S
 refine hM.step S (fun k hk=>ho k (fun e=>?_)) hb
 obtain ⟨c,t,ht,_,_,h3⟩:=hk
 rw [e,hg] at ht;cases ht;exact h3 rfl
theorem copy_src {kl orig:List Nat} {i gb cap B:Nat} {w:World} (gw:w.ownsRow B 3 1 (.slice (some ⟨gb,0,none⟩) orig.length cap) orig.length (natsV (mix kl orig))) (hk:kl.length ≤ i):
  ∀ j v,(natsV (orig.drop i))[j]? = some v→w.cell? (Addr.add ⟨gb,i,none⟩ j)=some v:=fun x v hx=>by
 have hx2:x < (natsV (orig.drop i)).length:=by
  rcases Nat.lt_or_ge x (natsV (orig.drop i)).length with h | h
  ·exact h
  ·rw [List.getElem?_eq_none h] at hx;cases hx
 rw [natsV_len,List.length_drop] at hx2
 have hc:=gw.cellAt (i + x) (by omega)
 have ea:Addr.add ⟨gb,i,none⟩ x=⟨gb,i + x,none⟩:=by simp [Addr.add]
 rw [ea,hc,← hx]
 unfold natsV mix
 rw [List.getElem?_map,List.getElem?_map,List.getElem?_append_right (by omega),List.getElem?_drop,List.getElem?_drop]
 congr 2;omega
theorem copy_fit {xs:List Value} {n gb cap B:Nat} {w:World} {cur:Array Value} (gw:w.ownsRow B 3 1 (.slice (some ⟨gb,0,none⟩) n cap) n xs) (hg:w.heap[gb]? = some (.cells cur 3 (0,0))):n ≤ cur.size:=by
 rcases gw.2 with ⟨e,_⟩ | ⟨g,cap',cur',e,_,hg',hn',_,hs',_⟩
 ·cases e
 ·cases e
  rw [hg] at hg';cases hg';omega
theorem nats_one (xs:List Nat):∀ v ∈ natsV xs,v.oneCell'=true:=fun v hv=>by
 unfold natsV at hv
 obtain ⟨x,_,rfl⟩:=List.mem_map.1 hv
 rfl
end Rd
end Go.Proofs.YtceahffmenbibaaGreatDoor
