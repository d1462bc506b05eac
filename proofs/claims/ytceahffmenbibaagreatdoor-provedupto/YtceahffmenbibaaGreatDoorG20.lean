/- Qlog Psm. -/
import Derived.Test.YtceahffmenbibaaGreatDoorG15
import Derived.Test.YtceahffmenbibaaGreatDoorG17
import Derived.Test.YtceahffmenbibaaGreatDoorG19
set_option linter.unusedVariables false
set_option linter.unusedSimpArgs false
namespace Go.Proofs.YtceahffmenbibaaGreatDoor
namespace Rd
def allLits:List Int:=(List.range 64).map (fun (k:Nat)=>(k:Int) + 1) ++ (List.range 64).map (fun (k:Nat)=>-((k:Int) + 1))
theorem mem_allLits {l:Int} (h:IsLit l):l ∈ allLits:=by
 unfold allLits
 rw [List.mem_append,List.mem_map,List.mem_map]
 rcases h with h | h
 ·exact .inl ⟨l.toNat - 1,List.mem_range.2 (by omega),by omega⟩
 ·exact .inr ⟨(-l).toNat - 1,List.mem_range.2 (by omega),by omega⟩
def sprM (down pending:Key):Nat:=allLits.countP (fun l=>!down.has l || pending.has l)
theorem sprM_lt {down pending forced:Key} {p:Int} (ip:IsLit p) (hp:pending.has p=true) (hd:down.has p=true) (hf:∀ l,forced.has l=true→down.has l=false):
  sprM (down.un forced) ((pending.wo (single p)).un forced) < sprM down pending:=by
 unfold sprM
 refine countP_lt (fun x _ hx=>?_) ⟨p,mem_allLits ip,by rw [hp,Bool.or_true],?_⟩
 ·simp only [has_un,has_wo,Bool.or_eq_true,Bool.not_eq_true',Bool.and_eq_true,Bool.or_eq_false_iff] at hx ⊢
  rcases hx with h | h | h
  ·exact .inl h.1
  ·exact .inr h.1
  ·exact .inl (hf x h)
 ·have e:forced.has p=false:=by
   cases e:forced.has p with
   | false=>rfl
   | true=>rw [hf p e] at hd;cases hd
  simp only [has_un,has_wo,hp,hd,e,has_single (isLit_ne ip)]
  simp
structure SprPost (es es':List Ent) (down0 laid d:Key) (c:Bool):Prop where
 same:sigs es'=sigs es
 rest:∀ D,(∀ l,D.has l=true→(down0.un laid).has l=true)→Rest es D→Rest es' D
 conf:c=true→∀ M,Cons M→HasP (down0.un laid) M→¬ StableE es M
 spr:c=false→Spr es (down0.un laid) es' d (0,0)
theorem SprPost.clash {es:List Ent} {down0 laid d:Key} (h:clashB (down0.un laid)=true):SprPost es es down0 laid d true where
 same:=rfl
 rest:=fun D _ h=>h
 conf:=fun _ M hM hb hs=>by
  obtain ⟨l,h1,h2⟩:=(clashB_iff _).1 h
  exact hM l (hb l h1) (hb _ h2)
 spr:=fun h=>by cases h
theorem Spr.rest {es0 es:List Ent} {base down:Key} (h:Spr es0 base es down (0,0)):Rest es down:=fun j hj ht hs=>by
 rcases h.watch j hj ht hs with hm | hw
 ·exact .inl hm
 ·refine .inr fun l hl=>?_
  cases e:down.has (-l) with
  | false=>rfl
  | true=>have:=hw l hl e;rw [has_empty] at this;cases this
structure SprAt (es0 es:List Ent) (wl:Nat→List Nat) (down0 laid down pending:Key):Prop where
 spr:Spr es0 (down0.un laid) es down pending
 winv:WInv es wl
 rest:∀ D,(∀ l,D.has l=true→(down0.un laid).has l=true)→Rest es0 D→Rest es D
theorem SprAt.start {es:List Ent} {wl:Nat→List Nat} {down0 laid:Key} (hr:Rest es down0) (hW:WInv es wl) (hd:down0.ok) (hl:laid.ok) (hc:clashB (down0.un laid)=false):SprAt es es wl down0 laid (down0.un laid) (laid.wo down0):=
 ⟨Spr.start hr hd hl (clashB_no.1 hc),hW,fun D _ h=>h⟩
theorem SprAt.step {es0 es es':List Ent} {wl wl':Nat→List Nat} {down0 laid down pending forced:Key} {p:Int} (h:SprAt es0 es wl down0 laid down pending) (hp:pending.has p=true) (hp0:p ≠ 0) (F:FalsPost es es' (-p) down forced false) (hW:WInv es' wl'):
  SprAt es0 es' wl' down0 laid (down.un forced) ((pending.wo (single p)).un forced):=
 ⟨h.spr.step hp hp0 F,hW,fun D hD hr=>rest_step (h.rest D hD hr) (fun l hl=>h.spr.inc l (hD l hl)) F⟩
theorem SprAt.confl {es0 es es':List Ent} {wl:Nat→List Nat} {down0 laid down pending forced d:Key} {lit:Int} (h:SprAt es0 es wl down0 laid down pending) (F:FalsPost es es' lit down forced true):
  SprPost es0 es' down0 laid d true where
 same:=F.same.trans h.spr.same
 rest:=fun D hD hr=>rest_step (h.rest D hD hr) (fun l hl=>h.spr.inc l (hD l hl)) F
 conf:=fun _=>h.spr.conflict F
 spr:=fun h=>by cases h
theorem SprAt.done {es0 es:List Ent} {wl:Nat→List Nat} {down0 laid down:Key} (h:SprAt es0 es wl down0 laid down (0,0)):SprPost es0 es down0 laid down false where
 same:=h.spr.same
 rest:=h.rest
 conf:=fun h=>by cases h
 spr:=fun _=>h.spr
structure Units (es:List Ent) (u:Key):Prop where
 ok:u.ok
 iff:∀ l,IsLit l→(u.has l=true↔∃ e ∈ es,0 < e.times∧e.set=single l)
def NoEmpty (es:List Ent):Prop:=∀ e ∈ es,0 < e.times→e.set ≠ (0,0)
theorem units_in {es:List Ent} {u:Key} (h:Units es u) {M:Int→Prop} (hs:StableE es M):HasP u M:=fun l hl=>by
 have il:=Key.has_lit h.ok hl
 obtain ⟨e,he,ht,hset⟩:=(h.iff l il).1 hl
 rcases hs e he ht with ⟨x,h1,h2⟩ | ⟨a,b,hab,h1,h2,_,_⟩
 ·rw [hset,has_single (isLit_ne il)] at h1
  rw [of_decide_eq_true h1] at h2;exact h2
 ·rw [hset,has_single (isLit_ne il)] at h1 h2
  exact absurd ((of_decide_eq_true h1).trans (of_decide_eq_true h2).symm) hab
theorem sigs_mem {es es':List Ent} (h:sigs es'=sigs es) {e:Ent} (he:e ∈ es'):∃ e0 ∈ es,e0.set=e.set∧e0.times=e.times:=by
 have hm:(e.set,e.times) ∈ sigs es:=by rw [← h];exact List.mem_map.2 ⟨e,he,rfl⟩
 obtain ⟨e',he',heq⟩:=List.mem_map.1 hm
 simp only [Prod.mk.injEq] at heq
 exact ⟨e',he',heq⟩
theorem SprPost.stable {es es':List Ent} {wl':Nat→List Nat} {down0 laid d u:Key} (P:SprPost es es' down0 laid d false) (hW:WInv es' wl') (hU:Units es u) (hn:NoEmpty es) (hu:∀ l,u.has l=true→(down0.un laid).has l=true):
  StableE es (fun l=>d.has l=true):=by
 have S:=P.spr rfl
 refine S.finish hW.wtwo hW.ok (fun e he ht hs=>?_) (fun e he ht hs=>?_)
 ·obtain ⟨e0,he0,h1,h2⟩:=sigs_mem P.same he
  obtain ⟨l,il,hl⟩:=size_one (hW.ok e he) hs
  refine ⟨l,by rw [hl,has_single (isLit_ne il)];simp,S.inc l (hu l ((hU.iff l il).2 ⟨e0,he0,by rw [h2];exact ht,by rw [h1,hl]⟩))⟩
 ·obtain ⟨e0,he0,h1,h2⟩:=sigs_mem P.same he
  exact hn e0 he0 (by rw [h2];exact ht) (by rw [h1];exact size_zero (hW.ok e he) hs)
theorem SprPost.iff {es es':List Ent} {wl':Nat→List Nat} {down0 laid d u:Key} {c:Bool} (P:SprPost es es' down0 laid d c) (hW:WInv es' wl') (hU:Units es u) (hn:NoEmpty es) (hu:∀ l,u.has l=true→(down0.un laid).has l=true):
  c=true↔∀ M,Cons M→HasP (down0.un laid) M→¬ StableE es M:=by
 refine ⟨P.conf,fun h=>?_⟩
 cases c with
 | true=>rfl
 | false=>
  have S:=P.spr rfl
  exact absurd (P.stable hW hU hn hu) (h _ (noClash_cons S.nocl) (fun l hl=>S.inc l hl))
theorem mem_opp {c:Cl} {but x:Int}:x ∈ opp c but↔-x ∈ c∧-x ≠ but:=by
 unfold opp
 rw [List.mem_map]
 constructor
 ·rintro ⟨y,hy,rfl⟩
  rw [List.mem_filter] at hy
  simp only [Int.neg_neg]
  exact ⟨hy.1,by have:=hy.2;simpa using this⟩
 ·rintro ⟨h1,h2⟩
  exact ⟨-x,List.mem_filter.2 ⟨h1,by simpa using h2⟩,by omega⟩
theorem has_opSet {c:Cl} (hc:∀ l ∈ c,In50 l) (x:Int):(setOf c).op.has x=true↔x ∈ opp c 0:=by
 rw [has_op,has_setOf (fun l hl=>in50_ne (hc l hl)),decide_eq_true_eq,mem_opp]
 exact ⟨fun h=>⟨h,in50_ne (hc _ h)⟩,fun h=>h.1⟩
theorem has_opSet' {D:Cl} (hD:∀ l ∈ D,In50 l) {l:Int} (hl:l ≠ 0) (x:Int):((setOf D).wo (single (-l))).op.has x=true↔x ∈ opp D (-l):=by
 rw [has_op,has_wo,has_setOf (fun l hl=>in50_ne (hD l hl)),has_single (by omega),mem_opp]
 simp
theorem rup_iff {es es':List Ent} {wl':Nat→List Nat} {L:List Cl} {u d:Key} {b:Bool} {c:Cl} (R:Rep es L) (hc:∀ l ∈ c,In50 l) (P:SprPost es es' (0,0) (u.un (setOf c).op) d b) (hW:WInv es' wl') (hU:Units es u) (hn:NoEmpty es):
  b=true↔Conf L (opp c 0):=by
 rw [P.iff hW hU hn (fun l hl=>by rw [has_un,has_un,hl];simp),R.conf]
 constructor
 ·intro h M hM hl hs
  refine h M hM (fun l hb=>?_) hs
  rw [has_un,has_empty,Bool.false_or,has_un,Bool.or_eq_true] at hb
  rcases hb with hb | hb
  ·exact units_in hU hs l hb
  ·exact hl l ((has_opSet hc l).1 hb)
 ·intro h M hM hb hs
  exact h M hM (fun l hl=>hb l (by rw [has_un,has_un,(has_opSet hc l).2 hl];simp)) hs
theorem rat_iff {es es':List Ent} {L:List Cl} {u d:Key} {c D:Cl} {l:Int} (R:Rep es L) (hc:∀ l ∈ c,In50 l) (hl:l ≠ 0) (P:SprPost es es' (0,0) (u.un (setOf c).op) d false) (hU:Units es u) (hD:D ∈ L):
  (∀ M,Cons M→HasP (d.un ((setOf D).wo (single (-l))).op) M→¬ StableE es M)↔Conf L (opp c 0 ++ opp D (-l)):=by
 have S:=P.spr rfl
 have hD50:=R.lits D hD
 rw [R.conf]
 constructor
 ·intro h M hM hls hs
  refine h M hM (fun x hx=>?_) hs
  rw [has_un,Bool.or_eq_true] at hx
  rcases hx with hx | hx
  ·refine S.under M hM (fun y hy=>?_) hs x hx
   rw [has_un,has_empty,Bool.false_or,has_un,Bool.or_eq_true] at hy
   rcases hy with hy | hy
   ·exact units_in hU hs y hy
   ·exact hls y (List.mem_append_left _ ((has_opSet hc y).1 hy))
  ·exact hls x (List.mem_append_right _ ((has_opSet' hD50 hl x).1 hx))
 ·intro h M hM hb hs
  refine h M hM (fun x hx=>hb x ?_) hs
  rw [has_un,Bool.or_eq_true]
  rcases List.mem_append.1 hx with hx | hx
  ·exact .inl (S.inc x (by rw [has_un,has_un,(has_opSet hc x).2 hx];simp))
  ·exact .inr ((has_opSet' hD50 hl x).2 hx)
def RatOk (es:List Ent) (d:Key) (l:Int) (e:Ent):Prop:=0 < e.times→e.set.has (-l)=true→∀ M,Cons M→HasP (d.un (e.set.wo (single (-l))).op) M→¬ StableE es M
theorem rat_all {es es':List Ent} {L:List Cl} {u d:Key} {c:Cl} {l:Int} (R:Rep es L) (hc:∀ l ∈ c,In50 l) (hl:l ≠ 0) (P:SprPost es es' (0,0) (u.un (setOf c).op) d false) (hU:Units es u):
  (∀ e ∈ es,RatOk es d l e)↔∀ D ∈ L,-l ∈ D→Conf L (opp c 0 ++ opp D (-l)):=by
 constructor
 ·intro h D hD hm
  obtain ⟨e,he,ht,hs⟩:=R.from' D hD
  rw [← rat_iff R hc hl P hU hD,← hs]
  exact h e he ht (by rw [hs,R.has hD];exact hm)
 ·intro h e he ht hm
  obtain ⟨D,hD,hs⟩:=R.ofE e he ht
  rw [← hs] at hm ⊢
  rw [R.has hD] at hm
  exact (rat_iff R hc hl P hU hD).2 (h D hD hm)
theorem conf_empty {es:List Ent} {L:List Cl} (R:Rep es L) (h:¬ NoEmpty es) (ls:List Int):Conf L ls:=by
 rw [R.conf]
 intro M _ _ hs
 refine h fun e he ht h0=>?_
 rcases hs e he ht with ⟨x,h1,_⟩ | ⟨a,b,_,h1,_⟩
 ·rw [h0,has_empty] at h1;cases h1
 ·rw [h0,has_empty] at h1;cases h1
end Rd
end Go.Proofs.YtceahffmenbibaaGreatDoor
namespace Go.Proofs.YtceahffmenbibaaGreatDoor
namespace Rd
open Go Go.RowKit Go.Deep
variable {B sb mb pb:Nat} {w wr ws:World} {cv:Value} {gone:Int} {u:Key} {wv wv':Nat→Value} {es es':List Ent} {wl wl':Nat→List Nat} {L D F P:Key}
theorem single_op {p:Int} (h:p ≠ 0):(single p).op=single (-p):=key_ext fun x=>by
 rw [has_op,has_single h,has_single (by omega)]
 apply decide_eq_decide.2
 omega
def natAt (w:World) (b i:Nat):Nat:=match w.cell? ⟨b,i,none⟩ with
 | some (.int _ n)=>n.toNat
 | _=>0
def keyAt (w:World) (b:Nat):Key:=(natAt w b 0,natAt w b 1)
theorem keyAt_row {b:Nat} {s:Key} (h:wr.rowIs b 84 2 (keyF s)):keyAt wr b=s:=by
 have h0:=h.cell (i:=0) (by omega)
 have h1:=h.cell (i:=1) (by omega)
 unfold keyF pairF at h0 h1
 simp only [if_true,show ¬ (1=0) by decide,if_false] at h0 h1
 unfold keyAt natAt
 rw [h0,h1]
 simp
theorem FalMem.putL (h:FalMem B sb w L D F cv mb gone u wv es wl wr) (t:Key):FalMem B sb w t D F cv mb gone u wv es wl ((wr.setCell ⟨w.heap.size,0,none⟩ (.int .u64 (t.1:Int))).setCell ⟨w.heap.size,1,none⟩ (.int .u64 (t.2:Int))) where
 lrow:=keyF_set h.lrow
 drow:=h.drow.of_block (two_other _ (by omega))
 frow:=h.frow.of_block (two_other _ (by omega))
 sto:=sto_foreign h.sto h.lrow two_other
 below:=(h.below.setCell (by have:=h.bw;simp;omega) _).setCell (by have:=h.bw;simp;omega) _
 keeps:=keeps_new h.keeps (by omega)
 hs:=by have:=h.hs;simp [World.setCell];omega
 tab:=h.tab.later (((Below.refl _ _).setCell (by have:=h.bw;simp;omega) _).setCell (by have:=h.bw;simp;omega) _)
 bw:=h.bw
theorem FalMem.putO {b:Nat} {s:Key} (h:FalMem B sb w L D F cv mb gone u wv es wl wr) (hb:w.heap.size + 3 ≤ b) (hr:wr.rowIs b 84 2 (keyF s)) (t:Key):FalMem B sb w L D F cv mb gone u wv es wl ((wr.setCell ⟨b,0,none⟩ (.int .u64 (t.1:Int))).setCell ⟨b,1,none⟩ (.int .u64 (t.2:Int))) where
 lrow:=h.lrow.of_block (two_other _ (by omega))
 drow:=h.drow.of_block (two_other _ (by omega))
 frow:=h.frow.of_block (two_other _ (by omega))
 sto:=sto_foreign h.sto hr two_other
 below:=(h.below.setCell (by have:=h.bw;simp;omega) _).setCell (by have:=h.bw;simp;omega) _
 keeps:=keeps_new h.keeps (by omega)
 hs:=by have:=h.hs;simp [World.setCell];omega
 tab:=h.tab.later (((Below.refl _ _).setCell (by have:=h.bw;simp;omega) _).setCell (by have:=h.bw;simp;omega) _)
 bw:=h.bw
structure SprMem (B sb pb:Nat) (w:World) (D L R P:Key) (cv:Value) (mb:Nat) (gone:Int) (u:Key) (wv:Nat→Value) (es:List Ent) (wl:Nat→List Nat) (wr:World):Prop where
 mem:FalMem B sb w D L R cv mb gone u wv es wl wr
 prow:wr.rowIs pb 84 2 (keyF P)
 hpb:w.heap.size + 3 ≤ pb
theorem SprMem.later {R:Key} (h:SprMem B sb pb w D L R P cv mb gone u wv es wl wr) (hb:Below wr.heap.size wr ws):SprMem B sb pb w D L R P cv mb gone u wv es wl ws:=
 ⟨h.mem.later hb,h.prow.of_block (hb.block _ h.prow.lt),h.hpb⟩
theorem SprMem.step {R:Key} (h:SprMem B sb pb w D L R P cv mb gone u wv es wl wr) (S:Sto B sb ws cv mb gone u wv' es' wl') (k:Keeps wr ws) (b:Below B wr ws):SprMem B sb pb w D L R P cv mb gone u wv' es' wl' ws:=
 ⟨h.mem.step S k b,h.prow.of_block (k _ (row_foreign h.prow)),h.hpb⟩
theorem SprMem.putD {R:Key} (h:SprMem B sb pb w D L R P cv mb gone u wv es wl wr) (t:Key):SprMem B sb pb w t L R P cv mb gone u wv es wl ((wr.setCell ⟨w.heap.size,0,none⟩ (.int .u64 (t.1:Int))).setCell ⟨w.heap.size,1,none⟩ (.int .u64 (t.2:Int))):=
 ⟨h.mem.putL t,h.prow.of_block (two_other _ (by have:=h.hpb;omega)),h.hpb⟩
theorem SprMem.putR {R:Key} (h:SprMem B sb pb w D L R P cv mb gone u wv es wl wr) (t:Key):SprMem B sb pb w D L t P cv mb gone u wv es wl ((wr.setCell ⟨w.heap.size + 2,0,none⟩ (.int .u64 (t.1:Int))).setCell ⟨w.heap.size + 2,1,none⟩ (.int .u64 (t.2:Int))):=
 ⟨h.mem.putF t,h.prow.of_block (two_other _ (by have:=h.hpb;omega)),h.hpb⟩
theorem SprMem.putP {R:Key} (h:SprMem B sb pb w D L R P cv mb gone u wv es wl wr) (t:Key):SprMem B sb pb w D L R t cv mb gone u wv es wl ((wr.setCell ⟨pb,0,none⟩ (.int .u64 (t.1:Int))).setCell ⟨pb,1,none⟩ (.int .u64 (t.2:Int))):=
 ⟨h.mem.putO h.hpb h.prow t,keyF_set h.prow,h.hpb⟩
def SprRel (B sb pb:Nat) (w:World) (down0 laid:Key) (cv:Value) (mb:Nat) (gone:Int) (u:Key) (es0:List Ent) (wr:World):Prop:=
 ∃ (D P:Key) (wv:Nat→Value) (es:List Ent) (wl:Nat→List Nat),Hid (SprMem B sb pb w D laid (0,0) P cv mb gone u wv es wl wr)∧Hid (SprAt es0 es wl down0 laid D P)
def SprRet (B sb:Nat) (w:World) (down0 laid:Key) (cv:Value) (mb:Nat) (gone:Int) (u:Key) (es0:List Ent) (e:Ending) (w':World):Prop:=
 ∃ (d:Key) (c:Bool) (wv:Nat→Value) (es:List Ent) (wl:Nat→List Nat),e=.returned (.tuple #[keyV d,.bool c])∧Below B w w'∧Keeps w w'∧Sto B sb w' cv mb gone u wv es wl∧SprPost es0 es down0 laid d c∧WInv es wl∧d.ok
def ForcedAt (B sb pb:Nat) (w:World) (lit:Int) (D laid P:Key) (cv:Value) (mb:Nat) (gone:Int) (u:Key) (es:List Ent) (p c:Value) (wx:World):Prop:=
 ∃ (fb:Nat) (F:Key) (cf:Bool) (wv':Nat→Value) (es':List Ent) (wl':Nat→List Nat),p=.pointer (some ⟨fb,0,none⟩)∧c=.bool cf∧Hid (SprMem B sb pb w D laid (0,0) P cv mb gone u wv' es' wl' wx∧wx.rowIs fb 84 2 (keyF F)∧w.heap.size + 3 ≤ fb∧fb ≠ pb∧FalsPost es es' lit D F cf∧WInv es' wl')
theorem forced_new {lit:Int} {cf:Bool} {laid:Key} {w7:World} (M:SprMem B sb pb w D laid (0,0) P cv mb gone u wv es' wl w7) (hF:FalsPost es es' lit D F cf) (hW:WInv es' wl):
  ForcedAt B sb pb w lit D laid P cv mb gone u es (.pointer (some ⟨w7.heap.size,0,none⟩)) (.bool cf) (w7.alloc (.cells #[.int .u64 (F.1:Int),.int .u64 (F.2:Int)] 84)):=
 ⟨_,F,cf,wv,es',wl,rfl,rfl,M.later ((Below.refl _ _).alloc (Nat.le_refl _) _),rowIs_two _ _ _ _,M.mem.hs,fun e=>by have:=M.prow.lt;omega,hF,hW⟩
theorem forced_set {lit:Int} {cf:Bool} {laid:Key} {w7:World} {fb:Nat} (M:SprMem B sb pb w D laid (0,0) P cv mb gone u wv es' wl w7) (R:w7.rowIs fb 84 2 (keyF (0,0))) (h1:w.heap.size + 3 ≤ fb) (h2:fb ≠ pb) (hF:FalsPost es es' lit D F cf) (hW:WInv es' wl):
  ForcedAt B sb pb w lit D laid P cv mb gone u es (.pointer (some ⟨fb,0,none⟩)) (.bool cf) ((w7.setCell ⟨fb,0,none⟩ (.int .u64 (F.1:Int))).setCell ⟨fb,1,none⟩ (.int .u64 (F.2:Int))):=
 ⟨fb,F,cf,wv,es',wl,rfl,rfl,⟨M.mem.putO h1 R F,M.prow.of_block (two_other _ (fun e=>h2 e.symm)),M.hpb⟩,keyF_set R,h1,h2,hF,hW⟩
end Rd
end Go.Proofs.YtceahffmenbibaaGreatDoor
