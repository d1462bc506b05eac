/- Qlog Psm. -/
import Derived.Test.YtceahffmenbibaaGreatDoorJ14
import Derived.Test.YtceahffmenbibaaGreatDoorJ16
import Derived.Test.YtceahffmenbibaaGreatDoorJ18
set_option linter.unusedVariables false
set_option linter.unusedSimpArgs false
namespace Go.Proofs.YtceahffmenbibaaGreatDoor
namespace Rd
def C8:List Int:=(List.range 64).map (fun (k:Nat)=>(k:Int) + 1) ++ (List.range 64).map (fun (k:Nat)=>-((k:Int) + 1))
theorem Eh {l:Int} (h:dV l):l ∈ C8:=by
 unfold C8;rw [List.mem_append,List.mem_map,List.mem_map]
 rcases h with h | h
 ·exact .inl ⟨l.toNat - 1,List.mem_range.2 (by omega),by omega⟩
 ·exact .inr ⟨(-l).toNat - 1,List.mem_range.2 (by omega),by omega⟩
def JH (down pending:Key):Nat:=C8.countP (fun l=>!down.has l || pending.has l)
theorem Px {b a forced:Key} {p:Int} (c:dV p) (f:a.has p=true) (hd:b.has p=true) (g:∀ l,forced.has l=true->b.has l=false):
  JH (b.un forced) ((a.wo (single p)).un forced) < JH b a:=by
 unfold JH;refine Bj (fun x _ d=>?_) ⟨p,Eh c,by rw [f,Bool.or_true],?_⟩
 ·simp only [dE,jN,Bool.or_eq_true,Bool.not_eq_true',Bool.and_eq_true,Bool.or_eq_false_iff] at d ⊢
  rcases d with h | h | h
  ·exact .inl h.1
  ·exact .inr h.1
  ·exact .inl (g x h)
 ·have e:forced.has p=false:=by
   cases e:forced.has p with
   | false=>rfl
   | true=>rw [g p e] at hd;cases hd
  simp only [dE,jN,f,hd,e,df (dw c)];simp
structure fo (es es':List dH) (dG laid d:Key) (c:Bool):Prop where
 same:sigs es'=sigs es
 rest:∀ D,(∀ l,D.has l=true->(dG.un laid).has l=true)->Rest es D->Rest es' D
 conf:c=true->∀ M,Cons M->uB (dG.un laid) M->¬ gD es M
 Ad:c=false->Jq es (dG.un laid) es' d (0,0)
theorem fo.clash {es:List dH} {a b d:Key} (h:oq (a.un b)=true):fo es es a b d true where
 same:=rfl
 rest:=fun D _ h=>h
 conf:=fun _ M e c i=>by
  obtain ⟨l,g,f⟩:=(yO _).1 h;exact e l (c l g) (c _ f)
 Ad:=fun h=>by cases h
theorem Jq.rest {c es:List dH} {b a:Key} (h:Jq c b es a (0,0)):Rest es a:=fun j m f g=>by
 rcases h.watch j m f g with i | d
 ·exact .inl i
 ·refine .inr fun l k=>?_
  cases e:a.has (-l) with
  | false=>rfl
  | true=>have:=d l k e;rw [ek] at this;cases this
structure o5 (es0 es:List dH) (wl:Nat->List Nat) (dG laid down pending:Key):Prop where
 Ad:Jq es0 (dG.un laid) es down pending
 gG:eU es wl
 rest:∀ D,(∀ l,D.has l=true->(dG.un laid).has l=true)->Rest es0 D->Rest es D
theorem o5.start {es:List dH} {wl:Nat->List Nat} {a b:Key} (c:Rest es a) (f:eU es wl) (hd:a.ok) (d:b.ok) (e:oq (a.un b)=false):o5 es es wl a b (a.un b) (b.wo a):=
 ⟨Jq.start c hd d (KP.1 e),f,fun D _ h=>h⟩
theorem o5.step {e es es':List dH} {wl jU:Nat->List Nat} {b d c a forced:Key} {p:Int} (h:o5 e es wl b d c a) (j:a.has p=true) (f:p ≠ 0) (F:gZ es es' (-p) c forced false) (m:eU es' jU):
  o5 e es' jU b d (c.un forced) ((a.wo (single p)).un forced):=
 ⟨h.Ad.step j f F,m,fun D g i=>rest_step (h.rest D g i) (fun l k=>h.Ad.inc l (g l k)) F⟩
theorem o5.yK {f es es':List dH} {wl:Nat->List Nat} {b c e a forced d:Key} {lit:Int} (h:o5 f es wl b c e a) (F:gZ es es' lit e forced true):
  fo f es' b c d true where
 same:=F.same.trans h.Ad.same
 rest:=fun D g i=>rest_step (h.rest D g i) (fun l j=>h.Ad.inc l (g l j)) F
 conf:=fun _=>h.Ad.conflict F
 Ad:=fun h=>by cases h
theorem o5.done {d es:List dH} {wl:Nat->List Nat} {a b c:Key} (h:o5 d es wl a b c (0,0)):fo d es a b c false where
 same:=h.Ad.same
 rest:=h.rest
 conf:=fun h=>by cases h
 Ad:=fun _=>h.Ad
structure qc (es:List dH) (u:Key):Prop where
 ok:u.ok
 iff:∀ l,dV l->(u.has l=true↔∃ e ∈ es,0 < e.times/\e.set=single l)
def mh (es:List dH):Prop:=∀ e ∈ es,0 < e.times->e.set ≠ (0,0)
theorem Dx {es:List dH} {u:Key} (h:qc es u) {M:Int->Prop} (m:gD es M):uB u M:=fun l j=>by
 have g:=Key.Jc h.ok j;obtain ⟨e,n,k,c⟩:=(h.iff l g).1 j
 rcases m e n k with ⟨x,f,d⟩ | ⟨a,b,i,f,d,_,_⟩
 ·rw [c,df (dw g)] at f;rw [of_decide_eq_true f] at d;exact d
 ·rw [c,df (dw g)] at f d;exact absurd ((of_decide_eq_true f).trans (of_decide_eq_true d).symm) i
theorem jW {es es':List dH} (h:sigs es'=sigs es) {e:dH} (f:e ∈ es'):∃ c ∈ es,c.set=e.set/\c.times=e.times:=by
 have d:(e.set,e.times) ∈ sigs es:=by rw [<- h];exact List.mem_map.2 ⟨e,f,rfl⟩
 obtain ⟨g,b,a⟩:=List.mem_map.1 d;simp only [Prod.mk.injEq] at a;exact ⟨g,b,a⟩
theorem fo.stable {es es':List dH} {jU:Nat->List Nat} {a b d u:Key} (P:fo es es' a b d false) (g:eU es' jU) (r:qc es u) (q:mh es) (p:∀ l,u.has l=true->(a.un b).has l=true):
  gD es (fun l=>d.has l=true):=by
 have S:=P.Ad rfl;refine S.finish g.Vr g.ok (fun e f h i=>?_) (fun e f h i=>?_)
 ·obtain ⟨m,c,k,j⟩:=jW P.same f;obtain ⟨l,n,o⟩:=tJ (g.ok e f) i;refine ⟨l,by rw [o,df (dw n)];simp,S.inc l (p l ((r.iff l n).2 ⟨m,c,by rw [j];exact h,by rw [k,o]⟩))⟩
 ·obtain ⟨m,c,k,j⟩:=jW P.same f;exact q m c (by rw [j];exact h) (by rw [k];exact uI (g.ok e f) i)
theorem fo.iff {es es':List dH} {jU:Nat->List Nat} {a b d u:Key} {c:Bool} (P:fo es es' a b d c) (i:eU es' jU) (j:qc es u) (f:mh es) (e:∀ l,u.has l=true->(a.un b).has l=true):
  c=true↔∀ M,Cons M->uB (a.un b) M->¬ gD es M:=by
 refine ⟨P.conf,fun h=>?_⟩
 cases c with
 | true=>rfl
 | false=>
  have S:=P.Ad rfl;exact absurd (P.stable i j f e) (h _ (Ce S.Qe) (fun l g=>S.inc l g))
theorem nN {c:Cl} {a x:Int}:x ∈ zB c a↔-x ∈ c/\-x ≠ a:=by
 unfold zB;rw [List.mem_map];constructor
 ·rintro ⟨y,b,rfl⟩;rw [List.mem_filter] at b;simp only [Int.neg_neg];exact ⟨b.1,by have:=b.2;simpa using this⟩
 ·rintro ⟨e,d⟩;exact ⟨-x,List.mem_filter.2 ⟨e,by simpa using d⟩,by omega⟩
theorem rH {c:Cl} (a:∀ l ∈ c,gH l) (x:Int):(setOf c).op.has x=true↔x ∈ zB c 0:=by
 rw [CF,has_setOf (fun l b=>lq (a l b)),decide_eq_true_eq,nN];exact ⟨fun h=>⟨h,lq (a _ h)⟩,fun h=>h.1⟩
theorem ym {D:Cl} (b:∀ l ∈ D,gH l) {l:Int} (a:l ≠ 0) (x:Int):((setOf D).wo (single (-l))).op.has x=true↔x ∈ zB D (-l):=by
 rw [CF,jN,has_setOf (fun l a=>lq (b l a)),df (by omega),nN];simp
theorem PE {es es':List dH} {jU:Nat->List Nat} {L:List Cl} {u d:Key} {b:Bool} {c:Cl} (R:Lg es L) (i:∀ l ∈ c,gH l) (P:fo es es' (0,0) (u.un (setOf c).op) d b) (m:eU es' jU) (j:qc es u) (k:mh es):
  b=true↔mq L (zB c 0):=by
 rw [P.iff m j k (fun l e=>by rw [dE,dE,e];simp),R.conf];constructor
 ·intro h M g e f;refine h M g (fun l a=>?_) f;rw [dE,ek,Bool.false_or,dE,Bool.or_eq_true] at a
  rcases a with a | a
  ·exact Dx j f l a
  ·exact e l ((rH i l).1 a)
 ·intro h M g a f;exact h M g (fun l e=>a l (by rw [dE,dE,(rH i l).2 e];simp)) f
theorem II {es es':List dH} {L:List Cl} {u d:Key} {c D:Cl} {l:Int} (R:Lg es L) (k:∀ l ∈ c,gH l) (j:l ≠ 0) (P:fo es es' (0,0) (u.un (setOf c).op) d false) (n:qc es u) (o:D ∈ L):
  (∀ M,Cons M->uB (d.un ((setOf D).wo (single (-l))).op) M->¬ gD es M)↔mq L (zB c 0 ++ zB D (-l)):=by
 have S:=P.Ad rfl;have b:=R.lits D o;rw [R.conf];constructor
 ·intro h M i g f;refine h M i (fun x a=>?_) f;rw [dE,Bool.or_eq_true] at a
  rcases a with a | a
  ·refine S.under M i (fun y e=>?_) f x a;rw [dE,ek,Bool.false_or,dE,Bool.or_eq_true] at e
   rcases e with e | e
   ·exact Dx n f y e
   ·exact g y (List.mem_append_left _ ((rH k y).1 e))
  ·exact g x (List.mem_append_right _ ((ym b j x).1 a))
 ·intro h M i m f;refine h M i (fun x a=>m x ?_) f;rw [dE,Bool.or_eq_true]
  rcases List.mem_append.1 a with a | a
  ·exact .inl (S.inc x (by rw [dE,dE,(rH k x).2 a];simp))
  ·exact .inr ((ym b j x).2 a)
def nD (es:List dH) (d:Key) (l:Int) (e:dH):Prop:=0 < e.times->e.set.has (-l)=true->∀ M,Cons M->uB (d.un (e.set.wo (single (-l))).op) M->¬ gD es M
theorem PO {es es':List dH} {L:List Cl} {u d:Key} {c:Cl} {l:Int} (R:Lg es L) (k:∀ l ∈ c,gH l) (j:l ≠ 0) (P:fo es es' (0,0) (u.un (setOf c).op) d false) (m:qc es u):
  (∀ e ∈ es,nD es d l e)↔∀ D ∈ L,-l ∈ D->mq L (zB c 0 ++ zB D (-l)):=by
 constructor
 ·intro h D a b;obtain ⟨e,i,g,f⟩:=R.from' D a
  rw [<- II R k j P m a,<- f];exact h e i g (by rw [f,R.has a];exact b)
 ·intro h e i g b;obtain ⟨D,a,f⟩:=R.Vj e i g;rw [<- f] at b ⊢;rw [R.has a] at b;exact (II R k j P m a).2 (h D a b)
theorem H5 {es:List dH} {L:List Cl} (R:Lg es L) (h:¬ mh es) (f:List Int):mq L f:=by
 rw [R.conf];intro M _ _ i;refine h fun e j g d=>?_
 rcases i e j g with ⟨x,c,_⟩ | ⟨a,b,_,c,_⟩
 ·rw [d,ek] at c;cases c
 ·rw [d,ek] at c;cases c
section
open Go Go.RowKit Go.Deep
section
variable {B sb mb pb:Nat} {w wr ws:World} {cv:Value} {gone:Int} {u:Key} {wv wv':Nat->Value} {es es':List dH} {wl jU:Nat->List Nat} {L D F P:Key}
theorem Ae {p:Int} (h:p ≠ 0):(single p).op=single (-p):=kz fun x=>by
 rw [CF,df h,df (by omega)];apply decide_eq_decide.2;omega
def Na (w:World) (b i:Nat):Nat:=match w.cell? ⟨b,i,none⟩ with
 | some (.int _ n)=>n.toNat
 | _=>0
def vU (w:World) (b:Nat):Key:=(Na w b 0,Na w b 1)
theorem rE {b:Nat} {s:Key} (h:wr.rowIs b 84 2 (fU s)):vU wr b=s:=by
 have c:=h.cell (i:=0) (by omega);have a:=h.cell (i:=1) (by omega);unfold fU vN at c a;simp only [if_true,show ¬ (1=0) by decide,if_false] at c a;unfold vU Na;rw [c,a];simp
theorem dR.VE (h:dR B sb w L D F cv mb gone u wv es wl wr) (t:Key):dR B sb w t D F cv mb gone u wv es wl ((wr.setCell ⟨w.heap.size,0,none⟩ (.int .u64 (t.1:Int))).setCell ⟨w.heap.size,1,none⟩ (.int .u64 (t.2:Int))) where
 kI:=mW h.kI
 pQ:=h.pQ.of_block (dY _ (by omega))
 ma:=h.ma.of_block (dY _ (by omega))
 fA:=lK h.fA h.kI dY
 below:=(h.below.setCell (by have:=h.bw;simp;omega) _).setCell (by have:=h.bw;simp;omega) _
 keeps:=oN h.keeps (by omega)
 hs:=by have:=h.hs;simp [World.setCell];omega
 tab:=h.tab.later ((bR.setCell (by have:=h.bw;simp;omega) _).setCell (by have:=h.bw;simp;omega) _)
 bw:=h.bw
theorem dR.UH {b:Nat} {s:Key} (h:dR B sb w L D F cv mb gone u wv es wl wr) (c:w.heap.size + 3 <= b) (a:wr.rowIs b 84 2 (fU s)) (t:Key):dR B sb w L D F cv mb gone u wv es wl ((wr.setCell ⟨b,0,none⟩ (.int .u64 (t.1:Int))).setCell ⟨b,1,none⟩ (.int .u64 (t.2:Int))) where
 kI:=h.kI.of_block (dY _ (by omega))
 pQ:=h.pQ.of_block (dY _ (by omega))
 ma:=h.ma.of_block (dY _ (by omega))
 fA:=lK h.fA a dY
 below:=(h.below.setCell (by have:=h.bw;simp;omega) _).setCell (by have:=h.bw;simp;omega) _
 keeps:=oN h.keeps (by omega)
 hs:=by have:=h.hs;simp [World.setCell];omega
 tab:=h.tab.later ((bR.setCell (by have:=h.bw;simp;omega) _).setCell (by have:=h.bw;simp;omega) _)
 bw:=h.bw
structure gK (B sb pb:Nat) (w:World) (D L R P:Key) (cv:Value) (mb:Nat) (gone:Int) (u:Key) (wv:Nat->Value) (es:List dH) (wl:Nat->List Nat) (wr:World):Prop where
 mem:dR B sb w D L R cv mb gone u wv es wl wr
 kQ:wr.rowIs pb 84 2 (fU P)
 hpb:w.heap.size + 3 <= pb
theorem gK.later {R:Key} (h:gK B sb pb w D L R P cv mb gone u wv es wl wr) (a:Below wr.heap.size wr ws):gK B sb pb w D L R P cv mb gone u wv es wl ws:=
 ⟨h.mem.later a,h.kQ.of_block (a.block _ h.kQ.lt),h.hpb⟩
theorem gK.step {R:Key} (h:gK B sb pb w D L R P cv mb gone u wv es wl wr) (S:eG B sb ws cv mb gone u wv' es' jU) (k:di wr ws) (b:Below B wr ws):gK B sb pb w D L R P cv mb gone u wv' es' jU ws:=
 ⟨h.mem.step S k b,h.kQ.of_block (k _ (gu h.kQ)),h.hpb⟩
theorem gK.PQ {R:Key} (h:gK B sb pb w D L R P cv mb gone u wv es wl wr) (t:Key):gK B sb pb w t L R P cv mb gone u wv es wl ((wr.setCell ⟨w.heap.size,0,none⟩ (.int .u64 (t.1:Int))).setCell ⟨w.heap.size,1,none⟩ (.int .u64 (t.2:Int))):=
 ⟨h.mem.VE t,h.kQ.of_block (dY _ (by have:=h.hpb;omega)),h.hpb⟩
theorem gK.Tj {R:Key} (h:gK B sb pb w D L R P cv mb gone u wv es wl wr) (t:Key):gK B sb pb w D L t P cv mb gone u wv es wl ((wr.setCell ⟨w.heap.size + 2,0,none⟩ (.int .u64 (t.1:Int))).setCell ⟨w.heap.size + 2,1,none⟩ (.int .u64 (t.2:Int))):=
 ⟨h.mem.Mr t,h.kQ.of_block (dY _ (by have:=h.hpb;omega)),h.hpb⟩
theorem gK.UG {R:Key} (h:gK B sb pb w D L R P cv mb gone u wv es wl wr) (t:Key):gK B sb pb w D L R t cv mb gone u wv es wl ((wr.setCell ⟨pb,0,none⟩ (.int .u64 (t.1:Int))).setCell ⟨pb,1,none⟩ (.int .u64 (t.2:Int))):=
 ⟨h.mem.UH h.hpb h.kQ t,mW h.kQ,h.hpb⟩
def Ii (B sb pb:Nat) (w:World) (dG laid:Key) (cv:Value) (mb:Nat) (gone:Int) (u:Key) (es0:List dH) (wr:World):Prop:=
 ∃ (D P:Key) (wv:Nat->Value) (es:List dH) (wl:Nat->List Nat),Hid (gK B sb pb w D laid (0,0) P cv mb gone u wv es wl wr)/\Hid (o5 es0 es wl dG laid D P)
def qW (B sb:Nat) (w:World) (dG laid:Key) (cv:Value) (mb:Nat) (gone:Int) (u:Key) (es0:List dH) (e:Ending) (w':World):Prop:=
 ∃ (d:Key) (c:Bool) (wv:Nat->Value) (es:List dH) (wl:Nat->List Nat),e=.returned (.tuple #[dn d,.bool c])/\Below B w w'/\di w w'/\eG B sb w' cv mb gone u wv es wl/\fo es0 es dG laid d c/\eU es wl/\d.ok
def zb (B sb pb:Nat) (w:World) (lit:Int) (D laid P:Key) (cv:Value) (mb:Nat) (gone:Int) (u:Key) (es:List dH) (p c:Value) (wx:World):Prop:=
 ∃ (fb:Nat) (F:Key) (cf:Bool) (wv':Nat->Value) (es':List dH) (jU:Nat->List Nat),p=.pointer (some ⟨fb,0,none⟩)/\c=.bool cf/\Hid (gK B sb pb w D laid (0,0) P cv mb gone u wv' es' jU wx/\wx.rowIs fb 84 2 (fU F)/\w.heap.size + 3 <= fb/\fb ≠ pb/\gZ es es' lit D F cf/\eU es' jU)
theorem Hl {lit:Int} {c:Bool} {a:Key} {b:World} (M:gK B sb pb w D a (0,0) P cv mb gone u wv es' wl b) (f:gZ es es' lit D F c) (d:eU es' wl):
  zb B sb pb w lit D a P cv mb gone u es (.pointer (some ⟨b.heap.size,0,none⟩)) (.bool c) (b.alloc (.cells #[.int .u64 (F.1:Int),.int .u64 (F.2:Int)] 84)):=
 ⟨_,F,c,wv,es',wl,rfl,rfl,M.later (bR.alloc lr _),fK _ _ _ _,M.mem.hs,fun e=>by have:=M.kQ.lt;omega,f,d⟩
theorem Hg {lit:Int} {d:Bool} {a:Key} {c:World} {b:Nat} (M:gK B sb pb w D a (0,0) P cv mb gone u wv es' wl c) (R:c.rowIs b 84 2 (fU (0,0))) (g:w.heap.size + 3 <= b) (f:b ≠ pb) (i:gZ es es' lit D F d) (h:eU es' wl):
  zb B sb pb w lit D a P cv mb gone u es (.pointer (some ⟨b,0,none⟩)) (.bool d) ((c.setCell ⟨b,0,none⟩ (.int .u64 (F.1:Int))).setCell ⟨b,1,none⟩ (.int .u64 (F.2:Int))):=
 ⟨b,F,d,wv,es',wl,rfl,rfl,⟨M.mem.UH g R F,M.kQ.of_block (dY _ (fun e=>f e.symm)),M.hpb⟩,mW R,g,f,i,h⟩
end
end
end Rd
end Go.Proofs.YtceahffmenbibaaGreatDoor
