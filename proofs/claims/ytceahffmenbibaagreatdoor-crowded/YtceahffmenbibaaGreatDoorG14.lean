/- Qlog Psm. -/
import Derived.Test.YtceahffmenbibaaGreatDoorG10
import Derived.Test.YtceahffmenbibaaGreatDoorG12
import Derived.Test.YtceahffmenbibaaGreatDoorG13
set_option linter.unusedVariables false
set_option linter.unusedSimpArgs false
namespace Go.Proofs.YtceahffmenbibaaGreatDoor
namespace Rd
def D7:List Int:=(List.range 64).map (fun (k:Nat)=>(k:Int) + 1) ++ (List.range 64).map (fun (k:Nat)=>-((k:Int) + 1))
theorem Fq {l:Int} (h:dZ l):l ∈ D7:=by
 unfold D7;rw [List.mem_append,List.mem_map,List.mem_map]
 rcases h with h | h
 ·exact .inl ⟨l.toNat - 1,List.mem_range.2 (by omega),by omega⟩
 ·exact .inr ⟨(-l).toNat - 1,List.mem_range.2 (by omega),by omega⟩
def Ll (down pending:Key):Nat:=D7.countP (fun l=>!down.has l || pending.has l)
theorem Tn {b a forced:Key} {p:Int} (c:dZ p) (f:a.has p=true) (hd:b.has p=true) (g:∀ l,forced.has l=true->b.has l=false):
  Ll (b.un forced) ((a.wo (single p)).un forced) < Ll b a:=by
 unfold Ll;refine Ck (fun x _ d=>?_) ⟨p,Fq c,by rw [f,Bool.or_true],?_⟩
 ·simp only [dL,kM,Bool.or_eq_true,Bool.not_eq_true',Bool.and_eq_true,Bool.or_eq_false_iff] at d ⊢
  rcases d with h | h | h
  ·exact .inl h.1
  ·exact .inr h.1
  ·exact .inl (g x h)
 ·have e:forced.has p=false:=by
   cases e:forced.has p with
   | false=>rfl
   | true=>rw [g p e] at hd;cases hd
  simp only [dL,kM,f,hd,e,di (dE c)];simp
structure gI (es es':List dN) (dI laid d:Key) (c:Bool):Prop where
 same:sigs es'=sigs es
 rest:∀ D,(∀ l,D.has l=true->(dI.un laid).has l=true)->Rest es D->Rest es' D
 conf:c=true->∀ M,Cons M->xI (dI.un laid) M->¬ iL es M
 EB:c=false->NS es (dI.un laid) es' d (0,0)
theorem gI.clash {es:List dN} {a b d:Key} (h:oW (a.un b)=true):gI es es a b d true where
 same:=rfl
 rest:=fun D _ h=>h
 conf:=fun _ M e c i=>by
  obtain ⟨l,g,f⟩:=(zM _).1 h;exact e l (c l g) (c _ f)
 EB:=fun h=>by cases h
structure pR (es0 es:List dN) (wl:Nat->List Nat) (dI laid down pending:Key):Prop where
 EB:NS es0 (dI.un laid) es down pending
 gU:fK es wl
 rest:∀ D,(∀ l,D.has l=true->(dI.un laid).has l=true)->Rest es0 D->Rest es D
theorem pR.start {es:List dN} {wl:Nat->List Nat} {a b:Key} (c:Rest es a) (f:fK es wl) (hd:a.ok) (d:b.ok) (e:oW (a.un b)=false):pR es es wl a b (a.un b) (b.wo a):=
 ⟨NS.start c hd d (Ny.1 e),f,fun D _ h=>h⟩
theorem pR.step {e es es':List dN} {wl mE:Nat->List Nat} {b d c a forced:Key} {p:Int} (h:pR e es wl b d c a) (j:a.has p=true) (f:p ≠ 0) (F:iE es es' (-p) c forced false) (m:fK es' mE):
  pR e es' mE b d (c.un forced) ((a.wo (single p)).un forced):=
 ⟨h.EB.step j f F,m,fun D g i=>rest_step (h.rest D g i) (fun l k=>h.EB.inc l (g l k)) F⟩
theorem pR.zI {f es es':List dN} {wl:Nat->List Nat} {b c e a forced d:Key} {lit:Int} (h:pR f es wl b c e a) (F:iE es es' lit e forced true):
  gI f es' b c d true where
 same:=F.same.trans h.EB.same
 rest:=fun D g i=>rest_step (h.rest D g i) (fun l j=>h.EB.inc l (g l j)) F
 conf:=fun _=>h.EB.conflict F
 EB:=fun h=>by cases h
theorem pR.done {d es:List dN} {wl:Nat->List Nat} {a b c:Key} (h:pR d es wl a b c (0,0)):gI d es a b c false where
 same:=h.EB.same
 rest:=h.rest
 conf:=fun h=>by cases h
 EB:=fun _=>h.EB
structure xe (es:List dN) (u:Key):Prop where
 ok:u.ok
 iff:∀ l,dZ l->(u.has l=true↔∃ e ∈ es,0 < e.times/\e.set=single l)
def sN (es:List dN):Prop:=∀ e ∈ es,0 < e.times->e.set ≠ (0,0)
theorem Oe {es:List dN} {u:Key} (h:xe es u) {M:Int->Prop} (m:iL es M):xI u M:=fun l j=>by
 have g:=Key.KI h.ok j;obtain ⟨e,n,k,c⟩:=(h.iff l g).1 j
 rcases m e n k with ⟨x,f,d⟩ | ⟨a,b,i,f,d,_,_⟩
 ·rw [c,di (dE g)] at f;rw [of_decide_eq_true f] at d;exact d
 ·rw [c,di (dE g)] at f d;exact absurd ((of_decide_eq_true f).trans (of_decide_eq_true d).symm) i
theorem pg {es es':List dN} (h:sigs es'=sigs es) {e:dN} (f:e ∈ es'):∃ c ∈ es,c.set=e.set/\c.times=e.times:=by
 have d:(e.set,e.times) ∈ sigs es:=by rw [<- h];exact List.mem_map.2 ⟨e,f,rfl⟩
 obtain ⟨g,b,a⟩:=List.mem_map.1 d;simp only [Prod.mk.injEq] at a;exact ⟨g,b,a⟩
theorem gI.stable {es es':List dN} {mE:Nat->List Nat} {a b d u:Key} (P:gI es es' a b d false) (g:fK es' mE) (r:xe es u) (q:sN es) (p:∀ l,u.has l=true->(a.un b).has l=true):
  iL es (fun l=>d.has l=true):=by
 have S:=P.EB rfl;refine S.finish g.Yw g.ok (fun e f h i=>?_) (fun e f h i=>?_)
 ·obtain ⟨m,c,k,j⟩:=pg P.same f;obtain ⟨l,n,o⟩:=uB (g.ok e f) i;refine ⟨l,by rw [o,di (dE n)];simp,S.inc l (p l ((r.iff l n).2 ⟨m,c,by rw [j];exact h,by rw [k,o]⟩))⟩
 ·obtain ⟨m,c,k,j⟩:=pg P.same f;exact q m c (by rw [j];exact h) (by rw [k];exact vE (g.ok e f) i)
theorem gI.iff {es es':List dN} {mE:Nat->List Nat} {a b d u:Key} {c:Bool} (P:gI es es' a b d c) (i:fK es' mE) (j:xe es u) (f:sN es) (e:∀ l,u.has l=true->(a.un b).has l=true):
  c=true↔∀ M,Cons M->xI (a.un b) M->¬ iL es M:=by
 refine ⟨P.conf,fun h=>?_⟩
 cases c with
 | true=>rfl
 | false=>
  have S:=P.EB rfl;exact absurd (P.stable i j f e) (h _ (Di S.TR) (fun l g=>S.inc l g))
theorem Du {c:Cl} {a x:Int}:x ∈ vJ c a↔-x ∈ c/\-x ≠ a:=by
 unfold vJ;rw [List.mem_map];constructor
 ·rintro ⟨y,b,rfl⟩;rw [List.mem_filter] at b;simp only [Int.neg_neg];exact ⟨b.1,by have:=b.2;simpa using this⟩
 ·rintro ⟨e,d⟩;exact ⟨-x,List.mem_filter.2 ⟨e,by simpa using d⟩,by omega⟩
theorem Cc {c:Cl} (a:∀ l ∈ c,jH l) (x:Int):(setOf c).op.has x=true↔x ∈ vJ c 0:=by
 rw [Jl,has_setOf (fun l b=>sI (a l b)),decide_eq_true_eq,Du]
 exact ⟨fun h=>⟨h,sI (a _ h)⟩,fun h=>h.1⟩
theorem Tu {es es':List dN} {mE:Nat->List Nat} {L:List Cl} {u d:Key} {b:Bool} {c:Cl} (R:UY es L) (i:∀ l ∈ c,jH l) (P:gI es es' (0,0) (u.un (setOf c).op) d b) (m:fK es' mE) (j:xe es u) (k:sN es):
  b=true↔jo L (vJ c 0):=by
 rw [P.iff m j k (fun l e=>by rw [dL,dL,e];simp),R.conf]
 constructor
 ·intro h M g e f;refine h M g (fun l a=>?_) f
  rw [dL,fB,Bool.false_or,dL,Bool.or_eq_true] at a
  rcases a with a | a
  ·exact Oe j f l a
  ·exact e l ((Cc i l).1 a)
 ·intro h M g a f;exact h M g (fun l e=>a l (by rw [dL,dL,(Cc i l).2 e];simp)) f
theorem JH {es:List dN} {L:List Cl} (R:UY es L) (h:¬ sN es) (f:List Int):jo L f:=by
 rw [R.conf];intro M _ _ i;refine h fun e j g d=>?_
 rcases i e j g with ⟨x,c,_⟩ | ⟨a,b,_,c,_⟩
 ·rw [d,fB] at c;cases c
 ·rw [d,fB] at c;cases c
section
open Go Go.RowKit Go.Deep
section
variable {B sb mb pb:Nat} {w wr ws:World} {cv:Value} {gone:Int} {u:Key} {wv wv':Nat->Value} {es es':List dN} {wl mE:Nat->List Nat} {L D F P:Key}
theorem Lr {p:Int} (h:p ≠ 0):(single p).op=single (-p):=kJ fun x=>by
 rw [Jl,di h,di (by omega)]
 apply decide_eq_decide.2
 omega
def PK (w:World) (b i:Nat):Nat:=match w.cell? ⟨b,i,none⟩ with
 | some (.int _ n)=>n.toNat
 | _=>0
def wT (w:World) (b:Nat):Key:=(PK w b 0,PK w b 1)
theorem sG {b:Nat} {s:Key} (h:wr.rowIs b 84 2 (gK s)):wT wr b=s:=by
 have c:=h.cell (i:=0) (by omega)
 have a:=h.cell (i:=1) (by omega)
 unfold gK wM at c a;simp only [if_true,show ¬ (1=0) by decide,if_false] at c a
 unfold wT PK;rw [c,a];simp
theorem dW.YG (h:dW B sb w L D F cv mb gone u wv es wl wr) (t:Key):dW B sb w t D F cv mb gone u wv es wl ((wr.setCell ⟨w.heap.size,0,none⟩ (.int .u64 (t.1:Int))).setCell ⟨w.heap.size,1,none⟩ (.int .u64 (t.2:Int))) where
 kT:=nM h.kT
 qj:=h.qj.of_block (eu _ (by omega))
 mP:=h.mP.of_block (eu _ (by omega))
 fM:=lM h.fM h.kT eu
 below:=(h.below.setCell (by have:=h.bw;simp;omega) _).setCell (by have:=h.bw;simp;omega) _
 keeps:=pI h.keeps (by omega)
 hs:=by have:=h.hs;simp [World.setCell];omega
 tab:=h.tab.later ((bR.setCell (by have:=h.bw;simp;omega) _).setCell (by have:=h.bw;simp;omega) _)
 bw:=h.bw
theorem dW.XA {b:Nat} {s:Key} (h:dW B sb w L D F cv mb gone u wv es wl wr) (c:w.heap.size + 3 <= b) (a:wr.rowIs b 84 2 (gK s)) (t:Key):dW B sb w L D F cv mb gone u wv es wl ((wr.setCell ⟨b,0,none⟩ (.int .u64 (t.1:Int))).setCell ⟨b,1,none⟩ (.int .u64 (t.2:Int))) where
 kT:=h.kT.of_block (eu _ (by omega))
 qj:=h.qj.of_block (eu _ (by omega))
 mP:=h.mP.of_block (eu _ (by omega))
 fM:=lM h.fM a eu
 below:=(h.below.setCell (by have:=h.bw;simp;omega) _).setCell (by have:=h.bw;simp;omega) _
 keeps:=pI h.keeps (by omega)
 hs:=by have:=h.hs;simp [World.setCell];omega
 tab:=h.tab.later ((bR.setCell (by have:=h.bw;simp;omega) _).setCell (by have:=h.bw;simp;omega) _)
 bw:=h.bw
structure ic (B sb pb:Nat) (w:World) (D L R P:Key) (cv:Value) (mb:Nat) (gone:Int) (u:Key) (wv:Nat->Value) (es:List dN) (wl:Nat->List Nat) (wr:World):Prop where
 mem:dW B sb w D L R cv mb gone u wv es wl wr
 kY:wr.rowIs pb 84 2 (gK P)
 hpb:w.heap.size + 3 <= pb
theorem ic.later {R:Key} (h:ic B sb pb w D L R P cv mb gone u wv es wl wr) (a:Below wr.heap.size wr ws):ic B sb pb w D L R P cv mb gone u wv es wl ws:=
 ⟨h.mem.later a,h.kY.of_block (a.block _ h.kY.lt),h.hpb⟩
theorem ic.step {R:Key} (h:ic B sb pb w D L R P cv mb gone u wv es wl wr) (S:fA B sb ws cv mb gone u wv' es' mE) (k:dn wr ws) (b:Below B wr ws):ic B sb pb w D L R P cv mb gone u wv' es' mE ws:=
 ⟨h.mem.step S k b,h.kY.of_block (k _ (gJ h.kY)),h.hpb⟩
theorem ic.TB {R:Key} (h:ic B sb pb w D L R P cv mb gone u wv es wl wr) (t:Key):ic B sb pb w t L R P cv mb gone u wv es wl ((wr.setCell ⟨w.heap.size,0,none⟩ (.int .u64 (t.1:Int))).setCell ⟨w.heap.size,1,none⟩ (.int .u64 (t.2:Int))):=
 ⟨h.mem.YG t,h.kY.of_block (eu _ (by have:=h.hpb;omega)),h.hpb⟩
theorem ic.VK {R:Key} (h:ic B sb pb w D L R P cv mb gone u wv es wl wr) (t:Key):ic B sb pb w D L t P cv mb gone u wv es wl ((wr.setCell ⟨w.heap.size + 2,0,none⟩ (.int .u64 (t.1:Int))).setCell ⟨w.heap.size + 2,1,none⟩ (.int .u64 (t.2:Int))):=
 ⟨h.mem.OZ t,h.kY.of_block (eu _ (by have:=h.hpb;omega)),h.hpb⟩
theorem ic.Xz {R:Key} (h:ic B sb pb w D L R P cv mb gone u wv es wl wr) (t:Key):ic B sb pb w D L R t cv mb gone u wv es wl ((wr.setCell ⟨pb,0,none⟩ (.int .u64 (t.1:Int))).setCell ⟨pb,1,none⟩ (.int .u64 (t.2:Int))):=
 ⟨h.mem.XA h.hpb h.kY t,nM h.kY,h.hpb⟩
def JQ (B sb pb:Nat) (w:World) (dI laid:Key) (cv:Value) (mb:Nat) (gone:Int) (u:Key) (es0:List dN) (wr:World):Prop:=
 ∃ (D P:Key) (wv:Nat->Value) (es:List dN) (wl:Nat->List Nat),Hid (ic B sb pb w D laid (0,0) P cv mb gone u wv es wl wr)/\Hid (pR es0 es wl dI laid D P)
def rP (B sb:Nat) (w:World) (dI laid:Key) (cv:Value) (mb:Nat) (gone:Int) (u:Key) (es0:List dN) (e:Ending) (w':World):Prop:=
 ∃ (d:Key) (c:Bool) (wv:Nat->Value) (es:List dN) (wl:Nat->List Nat),e=.returned (.tuple #[dD d,.bool c])/\Below B w w'/\dn w w'/\fA B sb w' cv mb gone u wv es wl/\gI es0 es dI laid d c/\fK es wl/\d.ok
def Ad (B sb pb:Nat) (w:World) (lit:Int) (D laid P:Key) (cv:Value) (mb:Nat) (gone:Int) (u:Key) (es:List dN) (p c:Value) (wx:World):Prop:=
 ∃ (fb:Nat) (F:Key) (cf:Bool) (wv':Nat->Value) (es':List dN) (mE:Nat->List Nat),p=.pointer (some ⟨fb,0,none⟩)/\c=.bool cf/\Hid (ic B sb pb w D laid (0,0) P cv mb gone u wv' es' mE wx/\wx.rowIs fb 84 2 (gK F)/\w.heap.size + 3 <= fb/\fb ≠ pb/\iE es es' lit D F cf/\fK es' mE)
theorem Jq {lit:Int} {cf:Bool} {a:Key} {b:World} (M:ic B sb pb w D a (0,0) P cv mb gone u wv es' wl b) (d:iE es es' lit D F cf) (c:fK es' wl):
  Ad B sb pb w lit D a P cv mb gone u es (.pointer (some ⟨b.heap.size,0,none⟩)) (.bool cf) (b.alloc (.cells #[.int .u64 (F.1:Int),.int .u64 (F.2:Int)] 84)):=
 ⟨_,F,cf,wv,es',wl,rfl,rfl,M.later (bR.alloc lr _),gm _ _ _ _,M.mem.hs,fun e=>by have:=M.kY.lt;omega,d,c⟩
theorem Jp {lit:Int} {cf:Bool} {a:Key} {c:World} {b:Nat} (M:ic B sb pb w D a (0,0) P cv mb gone u wv es' wl c) (R:c.rowIs b 84 2 (gK (0,0))) (f:w.heap.size + 3 <= b) (d:b ≠ pb) (h:iE es es' lit D F cf) (g:fK es' wl):
  Ad B sb pb w lit D a P cv mb gone u es (.pointer (some ⟨b,0,none⟩)) (.bool cf) ((c.setCell ⟨b,0,none⟩ (.int .u64 (F.1:Int))).setCell ⟨b,1,none⟩ (.int .u64 (F.2:Int))):=
 ⟨b,F,cf,wv,es',wl,rfl,rfl,⟨M.mem.XA f R F,M.kY.of_block (eu _ (fun e=>d e.symm)),M.hpb⟩,nM R,f,d,h,g⟩
end
end
end Rd
end Go.Proofs.YtceahffmenbibaaGreatDoor
