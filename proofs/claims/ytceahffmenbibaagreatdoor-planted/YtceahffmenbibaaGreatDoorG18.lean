/- Pset Pfst Pfrd. -/
import Derived.Test.YtceahffmenbibaaGreatDoorG17
import Derived.Test.YtceahffmenbibaaGreatDoorG15
set_option linter.unusedVariables false
set_option linter.unusedSimpArgs false
set_option maxHeartbeats 1000000
set_option maxRecDepth 100000
namespace Go.Proofs.YtceahffmenbibaaGreatDoor
namespace Rd
section
open Go Go.RowKit Go.Deep
attribute [local go_sem ↓] Go.wp_at_zero Go.wp_at_succ
def fA (s:Key):Nat->Value:=vY (.int .u64 (s.1:Int)) (.int .u64 (s.2:Int))
structure Fh (H:Nat) (w:World) (s:Key) (wr:World):Prop where
 res:wr.rowIs H 84 2 (fA (0,0))
 cur:wr.rowIs (H + 1) 84 2 (fA s)
 below:Below H w wr
 hs:H + 2 <= wr.heap.size
def Xt (H:Nat) (w:World) (xs:List Int) (i:Value) (wr:World):Prop:=∃ k:Nat,k <= xs.length/\i=.int .i64 k/\Hid (Fh H w (setOf (xs.take k)) wr)
theorem Fh.put {H:Nat} {w wr w7:World} {s t:Key} (h:Fh H w s wr) (hb:Below wr.heap.size wr w7):Fh H w t ((w7.setCell ⟨H + 1,0,none⟩ (.int .u64 (t.1:Int))).setCell ⟨H + 1,1,none⟩ (.int .u64 (t.2:Int))) where
 res:=((h.res.of_block (hb.block _ (by have:=h.hs;omega))).setOther (by simp) _).setOther (by simp) _
 cur:=(((h.cur.of_block (hb.block _ (by have:=h.hs;omega))).set 0 _).set 1 _).congr fun i hi=>by
  match i,hi with
  | 0,_=>rfl
  | 1,_=>rfl
 below:=((h.below.trans (hb.mono (by have:=h.hs;omega))).setCell (by simp) _).setCell (by simp) _
 hs:=by have:=h.hs;have:=hb.size;simp [World.setCell];omega
theorem JM (xs:List Int) (v:Value) (w:World) (hv:Qo w v xs) (hl:∀ l ∈ xs,dB l) (hlen:xs.length <= 274877906944):
  Calls Tryz.prog 69 #[v] w fun e w'=>e=.returned (aK (setOf xs))/\Below w.heap.size w w':=by
 obtain ⟨ua,uc,ub,rfl,hua,OH⟩:=hv;have HU:=hide OH;have HUA:=hide hua;have HL:=hide hl;clear OH hua hl;go_enter Tryz.func69,Tryz.ntmps69
 go_wp2;obtain ⟨W,hW⟩:∃ W,W=(w.alloc (Obj.cells #[Value.int IntKind.u64 0,Value.int IntKind.u64 0] 84)).alloc (Obj.cells #[Value.int IntKind.u64 0,Value.int IntKind.u64 0] 84):=⟨_,rfl⟩
 rw [<- hW];have S0:Hid (Fh w.heap.size w (0,0) W):=by
  unfold Hid;rw [hW];exact ⟨(dS w _ _ _).alloc _,mr w _ _ _ _,tJ (Below.refl _ _) (Nat.le_refl _) _ _,by simp⟩
 clear hW;go_loopw [8] (fun i wr=>Xt w.heap.size w xs i wr) (fun i _=>xs.length - (intOf i).toNat)
 case atStart=>exact ⟨0,Nat.zero_le _,rfl,S0⟩
 case round=>
  clear S0;obtain ⟨k,hk,rfl,hst⟩:=hrel;have c0:=hst.out.cur.cell (i:=0) (by omega)
  have c1:=hst.out.cur.cell (i:=1) (by omega)
  have f0:=hst.out.cur.frozen 0;have f1:=hst.out.cur.frozen 1;have r0:=hst.out.res.cell (i:=0) (by omega)
  have r1:=hst.out.res.cell (i:=1) (by omega)
  have g0:=hst.out.res.frozen 0;have g1:=hst.out.res.frozen 1;unfold fA vY at c0 c1 r0 r1;simp only [if_true,show ¬ (1=0) by decide,if_false] at c0 c1 r0 r1
  have hh:=hst.out.hs;have lit:∀ l ∈ xs.take k,dB l:=fun l h=>HL.out l (List.mem_of_mem_take h)
  have ok:=CE lit;clear lit;by_cases hlt:k < xs.length
  ·have hcl:=HU.out k hlt;have hx:=HUA.out (by omega)
   subst hx;have hcl':wr.cell? ⟨ub,k,none⟩=some (.int .i64 (xs.getD k 0)):=by rw [hst.out.below.cell (p:=⟨ub,k,none⟩) (block_lt_of_cell hcl)];exact hcl
   have T:Hid (setOf (xs.take (k + 1))=(setOf (xs.take k)).un (single (xs.getD k 0))):=by
    unfold Hid;rw [List.take_succ_eq_append_getElem hlt,setOf_snoc];simp [List.getD_eq_getElem?_getD,hlt]
   have xl:dB (xs.getD k 0):=HL.out _ (by simp [List.getD_eq_getElem?_getD,hlt])
   clear hcl;generalize xs.getD k 0=x at hcl' T xl;have q1:=hide (fun W'=>Gg x W' xl)
   have q2:=hide (fun W'=>gu (setOf (xs.take k)) (single x) W' ok (gy xl))
   rw [<- T.out] at q2;unfold aK at q1 q2;have ub':ub < w.heap.size:=block_lt_of_cell (HU.out k hlt);generalize single x=sx at q1 q2 T;generalize hsk:setOf (xs.take k)=sk at c0 c1 q2 hst ok T;generalize hsn:setOf (xs.take (k + 1))=sn at q2 T;have HSN:=hide hsn;clear ok xl T hsk hsn;go_wp2;go_region_with (first
    |(go_at_call 73;refine (q1.out _).mono ?_;rintro e6 w6 ⟨rfl,hb6⟩;have B6:Hid (Below wr.heap.size wr w6):=(Below.refl _ _).drew.trans hb6;have d0:=(B6.out.cell (p:=⟨w.heap.size + 1,0,none⟩) (by simp;omega)).trans c0;have d1:=(B6.out.cell (p:=⟨w.heap.size + 1,1,none⟩) (by simp;omega)).trans c1;have s6:=hb6.size;clear hb6)
    |(go_at_call 75;refine (q2.out _).mono ?_;rintro e7 w7 ⟨rfl,ku⟩;have B7:Hid (Below wr.heap.size wr w7):=B6.out.trans (ku.mono B6.out.size);have e0:=(B7.out.cell (p:=⟨w.heap.size + 1,0,none⟩) (by simp;omega)).trans c0;have e1:=(B7.out.cell (p:=⟨w.heap.size + 1,1,none⟩) (by simp;omega)).trans c1;have e2:=(B7.out.frozen (p:=⟨w.heap.size + 1,0,none⟩) (by simp;omega)).trans f0;have e3:=(B7.out.frozen (p:=⟨w.heap.size + 1,1,none⟩) (by simp;omega)).trans f1;clear ku))
   all_goals
    have SN:=hide (hst.out.put (t:=sn) B7.out);go_wp2;go_roundw
    case rel=>exact ⟨k + 1,by omega,CO (by omega),by rw [HSN.out];exact SN⟩
    case measure=>simp [intOf];omega
  ·have e:k=xs.length:=by omega
   subst e;rw [List.take_of_length_le (Nat.le_refl _)] at hst c0 c1;obtain ⟨sk,hsk⟩:∃ x,x=setOf xs:=⟨_,rfl⟩;rw [<- hsk] at hst c0 c1;have HSK:=hide hsk;clear hsk ok;go_wp2;refine bodyPost_ret (v:=.agg #[.int .u64 (sk.1:Int),.int .u64 (sk.2:Int)]) (by simp [results,Tryz.results69,go_sem,r0,r1]) rfl ⟨by rw [<- HSK.out];rfl,?_⟩
   exact ((hst.out.below.setCell (by simp) _).setCell (by simp) _)
end
section
open Go Go.RowKit Go.Deep
variable {B sb mb:Nat} {w wr ws:World} {cv:Value} {gone:Int} {u:Key} {wv wv':Nat->Value} {es es':List aX} {wl iO:Nat->List Nat} {L D F:Key}
structure dw (B sb:Nat) (w:World) (L D F:Key) (cv:Value) (mb:Nat) (gone:Int) (u:Key) (wv:Nat->Value) (es:List aX) (wl:Nat->List Nat) (wr:World):Prop where
 je:wr.rowIs w.heap.size 84 2 (fA L)
 uR:wr.rowIs (w.heap.size + 1) 84 2 (fA D)
 mO:wr.rowIs (w.heap.size + 2) 84 2 (fA F)
 nK:di B sb wr cv mb gone u wv es wl
 below:Below B w wr
 keeps:aA w wr
 hs:w.heap.size + 3 <= wr.heap.size
 tab:nL B wr
 bw:B <= w.heap.size
theorem dV {b n:Nat} {f:Nat->Value} (h:wr.rowIs b 84 n f):iE wr b:=by
 obtain ⟨c,hr,_⟩:=h;exact ⟨c,_,hr,by decide⟩
theorem dw.step (h:dw B sb w L D F cv mb gone u wv es wl wr) (S:di B sb ws cv mb gone u wv' es' iO) (k:aA wr ws) (b:Below B wr ws):dw B sb w L D F cv mb gone u wv' es' iO ws where
 je:=h.je.of_block (k _ (dV h.je))
 uR:=h.uR.of_block (k _ (dV h.uR))
 mO:=h.mO.of_block (k _ (dV h.mO))
 nK:=S
 below:=h.below.trans b
 keeps:=h.keeps.trans k
 hs:=Nat.le_trans h.hs b.size
 tab:=h.tab.later b
 bw:=h.bw
theorem dw.later (h:dw B sb w L D F cv mb gone u wv es wl wr) (hb:Below wr.heap.size wr ws):dw B sb w L D F cv mb gone u wv es wl ws:=
 h.step (h.nK.later hb) (aA.of_below hb) (hb.mono h.nK.bsize)
theorem kE {b n:Nat} {f:Nat->Value} (h:di B sb wr cv mb gone u wv es wl) (hb:wr.rowIs b 84 n f) (hbl:∀ k,k ≠ b->ws.heap[k]? = wr.heap[k]?):di B sb ws cv mb gone u wv es wl:=by
 obtain ⟨c,hr,_⟩:=hb;have ne:∀ g cur t,wr.heap[g]? = some (.cells cur t (0,0))->t ≠ 84->g ≠ b:=fun g cur t hg ht e=>by rw [e,hr] at hg;cases hg;exact ht rfl
 exact {
  row:=h.row.of_block (hbl _ (by obtain ⟨c2,hr2,_⟩:=h.row;exact ne _ _ _ hr2 (by decide)))
  cls:=fP h.cls fun g hg=>hbl g (by
   rcases h.cls.2 with ⟨e2,_⟩ | ⟨g',cap',cur,e2,_,hg',_⟩
   ·rw [e2] at hg;cases hg
   ·rw [e2] at hg;cases hg;exact ne _ _ _ hg' (by decide))
  map:=h.map.kept (hbl _ (fun e=>h.map.eO (by rw [e];exact hr)))
  nO:=fun k hk=>fP (h.nO k hk) fun g hg=>hbl g (by
   rcases (h.nO k hk).2 with ⟨e2,_⟩ | ⟨g',cap',cur,e2,_,hg',_⟩
   ·rw [e2] at hg;cases hg
   ·rw [e2] at hg;cases hg;exact ne _ _ _ hg' (by decide))
  apart:=h.apart
  fZ:=h.fZ
  Ce:=h.Ce }
theorem oh {b:Nat} {s t:Key} (h:wr.rowIs b 84 2 (fA s)):((wr.setCell ⟨b,0,none⟩ (.int .u64 (t.1:Int))).setCell ⟨b,1,none⟩ (.int .u64 (t.2:Int))).rowIs b 84 2 (fA t):=
 ((h.set 0 _).set 1 _).congr fun i hi=>by
  match i,hi with
  | 0,_=>rfl
  | 1,_=>rfl
theorem bP {b:Nat} {x y:Value}:∀ k,k ≠ b->((wr.setCell ⟨b,0,none⟩ x).setCell ⟨b,1,none⟩ y).heap[k]? = wr.heap[k]? := fun k hk=>by
 rw [Below.heap_setCell _ _ _ _ (by simpa using hk),Below.heap_setCell _ _ _ _ (by simpa using hk)]
theorem pq {b:Nat} {x y:Value} (h:aA w wr) (hb:w.heap.size <= b):aA w ((wr.setCell ⟨b,0,none⟩ x).setCell ⟨b,1,none⟩ y):=fun k hk=>by
 rw [bP k (by have:=hk.lt;omega)];exact h k hk
theorem dw.VU (h:dw B sb w L D F cv mb gone u wv es wl wr) (t:Key):dw B sb w L D t cv mb gone u wv es wl ((wr.setCell ⟨w.heap.size + 2,0,none⟩ (.int .u64 (t.1:Int))).setCell ⟨w.heap.size + 2,1,none⟩ (.int .u64 (t.2:Int))) where
 je:=h.je.of_block (bP _ (by omega))
 uR:=h.uR.of_block (bP _ (by omega))
 mO:=oh h.mO
 nK:=kE h.nK h.mO bP
 below:=(h.below.setCell (by have:=h.bw;simp;omega) _).setCell (by have:=h.bw;simp;omega) _
 keeps:=pq h.keeps (by omega)
 hs:=by have:=h.hs;simp [World.setCell];omega
 tab:=h.tab.later (((Below.refl _ _).setCell (by have:=h.bw;simp;omega) _).setCell (by have:=h.bw;simp;omega) _)
 bw:=h.bw
structure cK (B sb:Nat) (w:World) (lit:Int) (ak:Key) (cv:Value) (mb:Nat) (gone:Int) (u:Key) (es0:List aX) (af:List Nat) (V:Value) (i:Nat) (kl:List Nat) (F:Key) (wv:Nat->Value) (es:List aX) (wl:Nat->List Nat) (wr:World):Prop where
 mem:dw B sb w (single lit) (ak.un F) F cv mb gone u wv es (fun k=>if k=place lit then mix kl af else wl k) wr
 hv:wv (place lit)=V
 Pk:LY es0 lit ak af i es wl kl F
def Ik (B sb:Nat) (w:World) (lit:Int) (ak:Key) (cv:Value) (mb:Nat) (gone:Int) (u:Key) (es0:List aX) (af:List Nat) (V:Value) (k10 i25:Value) (wr:World):Prop:=
 ∃ (i:Nat) (kl:List Nat) (F:Key) (wv:Nat->Value) (es:List aX) (wl:Nat->List Nat),k10=.int .i64 kl.length/\i25=.int .i64 i/\Hid (cK B sb w lit ak cv mb gone u es0 af V i kl F wv es wl wr)
def ni (B sb:Nat) (w:World) (lit:Int) (ak:Key) (cv:Value) (mb:Nat) (gone:Int) (u:Key) (es0:List aX) (e:Ending) (w':World):Prop:=
 ∃ (F:Key) (c:Bool) (wv:Nat->Value) (es:List aX) (wl:Nat->List Nat),e=.returned (.tuple #[aK F,.bool c])/\Below B w w'/\aA w w'/\di B sb w' cv mb gone u wv es wl/\gq es0 es lit ak F c/\dP es wl
theorem cK.start {lit:Int} {ak:Key} (hM:dw B sb w (single lit) ak (0,0) cv mb gone u wv es wl wr) (hw:dP es wl):cK B sb w lit ak cv mb gone u es (wl (place lit)) (wv (place lit)) 0 [] (0,0) wv es wl wr where
 mem:=by
  have e1:(fun k=>if k=place lit then mix [] (wl (place lit)) else wl k)=wl:=by
   funext k;rw [AZ];split
   ·rename_i e;rw [e]
   ·rfl
  have e2:ak.un (0,0)=ak:=rE fun x=>by rw [df,bY,Bool.or_false]
  rw [e1,e2];exact hM
 hv:=rfl
 Pk:=LY.start hw
end
section
open Go Go.RowKit Go.Deep
variable {B sb mb:Nat} {w wr ws:World} {cv V:Value} {gone:Int} {u:Key} {wv wv':Nat->Value} {es0 es es':List aX} {wl iO:Nat->List Nat} {L D F F' ak:Key} {lit:Int} {af kl:List Nat} {i:Nat}
theorem Dp:∀ (n:Nat) (l:List Nat),l.Nodup->(∀ x ∈ l,x < n)->l.length <= n
 | 0,l,_,h=>by
  cases l with
  | nil=>exact Nat.le_refl _
  | cons a r=>exact absurd (h a (List.mem_cons_self ..)) (Nat.not_lt_zero _)
 | n + 1,l,hd,h=>by
  have h1:=Dp n (l.erase n) (hd.erase n) (fun x hx=>by
   have:=h x (List.mem_of_mem_erase hx);have:x ≠ n:=fun e=>by subst e;exact hd.not_mem_erase hx
   omega)
  by_cases hm:n ∈ l
  ·rw [List.length_erase_of_mem hm] at h1;omega
  ·rw [List.erase_of_not_mem hm] at h1;omega
theorem dP.len (h:dP es wl) {k:Nat} (hk:k < 128):(wl k).length <= es.length:=Dp _ _ (h.nodup k hk) fun x hx=>(h.lists k hk x hx).1
theorem cK.out {a:Option Addr} {n cap:Nat} (h:cK B sb w lit ak cv mb gone u es0 af (.slice a n cap) af.length kl F wv es wl wr) (il:dB lit):
  ni B sb w lit ak cv mb gone u es0 (.returned (.tuple #[aK F,.bool false])) (wr.setCell ⟨sb,5 + place lit,none⟩ (.slice a kl.length cap))/\dw B sb w (single lit) (ak.un F) F cv mb gone u (fun k=>if k=place lit then .slice a kl.length cap else wv k) es (fun k=>if k=place lit then kl else wl k) (wr.setCell ⟨sb,5 + place lit,none⟩ (.slice a kl.length cap)):=by
 have S:=h.mem.nK.cutL (k0:=kl.length) (lL il) h.hv (by simp [mix])
 have e:(fun k=>if k=place lit then ((fun k=>if k=place lit then mix kl af else wl k) (place lit)).take kl.length else (fun k=>if k=place lit then mix kl af else wl k) k)=fun k=>if k=place lit then kl else wl k:=by
  funext k
  by_cases e:k=place lit
  ·simp only [e,if_true];exact ru
  ·simp only [e,if_false]
 rw [e] at S;have M:=h.mem.step S (h.mem.nK.DZ _ _) ((Below.refl _ _).setCell h.mem.nK.fZ _);obtain ⟨f1,f2⟩:=h.Pk.done il;exact ⟨⟨F,false,_,es,_,rfl,M.below,M.keeps,M.nK,f1,f2⟩,M⟩
end
end Rd
end Go.Proofs.YtceahffmenbibaaGreatDoor
