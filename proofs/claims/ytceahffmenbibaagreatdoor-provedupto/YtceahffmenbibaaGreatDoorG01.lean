/- Rmem2 Rref5 Cref2 Cbits Cmark Capp Cref5 Sfam Schg Ssol Slog. -/
import Derived.Test.YtceahffmenbibaaGreatDoorG00
import Derived.Maps.AppendAt
import Derived.Outline
import Derived.Lib.TrailingZeros
import Derived.Laws.AppendOwnNone
import Derived.Deep.AppendLies
import Derived.Deep.RegionHeld3
import Derived.Deep.RegionWith
import Derived.Deep.OwnRows
set_option linter.unusedVariables false
set_option linter.unusedSimpArgs false
namespace Go.Proofs.YtceahffmenbibaaGreatDoor
namespace Rd
open Go Go.RowKit Go.Deep
def intsV (xs:List Int):List Value:=xs.map (Value.int .i64)
theorem own_ne {w:World} {B te ti n m:Nat} {v u:Value} {xs ys:List Value} (h1:w.ownsRow B te 1 v n xs) (h2:w.ownsRow B ti 1 u m ys) (hne:te ≠ ti):v.ownBlock=none∨v.ownBlock ≠ u.ownBlock:=by
 rcases h1.2 with ⟨rfl,_⟩ | ⟨g,cap,cur,rfl,_,hg,_⟩
 ·exact .inl rfl
 ·right
  rcases h2.2 with ⟨rfl,_⟩ | ⟨g',cap',cur',rfl,_,hg',_⟩
  ·simp [Value.ownBlock]
  ·simp only [Value.ownBlock,ne_eq,Option.some.injEq]
   intro e
   subst e
   rw [hg] at hg'
   simp at hg'
   exact hne hg'.2
structure RMem (te ti B:Nat) (wr:World) (cv clv:Value) (us:List Value) (cs:List (List Int)) (cur:List Int):Prop where
 outer:wr.ownsRow B te 1 cv us.length us
 row:wr.ownsRow B ti 1 clv cur.length (intsV cur)
 len:us.length=cs.length
 inner:∀ (j:Nat) u,us[j]? = some u→wr.ownsRow B ti 1 u (cs.getD j []).length (intsV (cs.getD j []))∧(u.ownBlock=none∨u.ownBlock ≠ clv.ownBlock)
theorem RMem.later {te ti B:Nat} {wr wr':World} {cv clv:Value} {us:List Value} {cs:List (List Int)} {cur:List Int} (h:RMem te ti B wr cv clv us cs cur) (hb:Below wr.heap.size wr wr'):RMem te ti B wr' cv clv us cs cur:=by
 have hg:wr.grownBy wr' none:=⟨hb.os,hb.tape,hb.output,hb.size,fun k hk _=>hb.block k hk⟩
 have key:∀ {t n v xs},wr.ownsRow B t 1 v n xs→wr'.ownsRow B t 1 v n xs:=fun {t n v xs} ho=>by
  refine ho.kept hg ?_
  cases hv:v.ownBlock with
  | none=>exact .inl rfl
  | some g=>exact .inr (by simp)
 exact ⟨key h.outer,key h.row,h.len,fun j u hj=>⟨key (h.inner j u hj).1,(h.inner j u hj).2⟩⟩
theorem RMem.lit {te ti B:Nat} {wr w1:World} {cv clv clv':Value} {us:List Value} {cs:List (List Int)} {cur:List Int} {o:Obj} {x:Int} (hne:te ≠ ti) (h:RMem te ti B wr cv clv us cs cur)
  (hown':w1.ownsRow B ti 1 clv' (cur.length + 1) (intsV cur ++ [.int .i64 x])) (hgrow:(wr.alloc o).grownBy w1 clv.ownBlock) (hat:clv'.ownBlock=clv.ownBlock∨clv'.ownBlock=some (wr.alloc o).heap.size):
  RMem te ti B w1 cv clv' us cs (cur ++ [x]) where
 outer:=(h.outer.alloc o).kept hgrow (own_ne h.outer h.row hne)
 row:=by simpa [intsV] using hown'
 len:=h.len
 inner:=fun j u hj=>by
  obtain ⟨h1,h2⟩:=h.inner j u hj
  refine ⟨(h1.alloc o).kept hgrow h2,?_⟩
  cases hu:u.ownBlock with
  | none=>exact .inl rfl
  | some g=>
   right
   rcases hat with e | e
   ·rw [e,← hu];rcases h2 with h2 | h2
    ·rw [hu] at h2;cases h2
    ·exact h2
   ·rw [e]
    have:=(h1.lt g hu).2
    simp
    omega
theorem RMem.zero {te ti B:Nat} {wr w1:World} {cv cv' clv:Value} {us:List Value} {cs:List (List Int)} {cur:List Int} {o:Obj} (hne:te ≠ ti) (h:RMem te ti B wr cv clv us cs cur)
  (hown':w1.ownsRow B te 1 cv' (us.length + 1) (us ++ [clv])) (hgrow:(wr.alloc o).grownBy w1 cv.ownBlock):
  RMem te ti B w1 cv' (.slice none 0 0) (us ++ [clv]) (cs ++ [cur]) [] where
 outer:=by simpa using hown'
 row:=World.ownsRow_nil _ _ _ _
 len:=by simp [h.len]
 inner:=fun j u hj=>by
  have keep:∀ {n v xs},wr.ownsRow B ti 1 v n xs→w1.ownsRow B ti 1 v n xs:=fun {n v xs} ho=>(ho.alloc o).kept hgrow (own_ne ho h.outer (fun e=>hne e.symm))
  have nn:u.ownBlock=none∨u.ownBlock ≠ (Value.slice none 0 0).ownBlock:=by
   cases hu:u.ownBlock with
   | none=>exact .inl rfl
   | some g=>exact .inr (by simp [Value.ownBlock])
  refine ⟨?_,nn⟩
  by_cases hj':j < us.length
  ·rw [List.getElem?_append_left hj'] at hj
   have hc:(cs ++ [cur]).getD j []=cs.getD j []:=by
    simp only [List.getD_eq_getElem?_getD]
    rw [List.getElem?_append_left (by rw [← h.len];exact hj')]
   rw [hc]
   exact keep (h.inner j u hj).1
  ·have e:j=us.length:=by
    have:=(List.getElem?_eq_some_iff.1 hj).1
    simp at this;omega
   subst e
   simp at hj
   subst hj
   have hc:(cs ++ [cur]).getD us.length []=cur:=by
    simp only [List.getD_eq_getElem?_getD]
    rw [h.len,List.getElem?_append_right (Nat.le_refl _)];simp
   rw [hc]
   exact keep h.row
def OwnL (te ti B:Nat) (w:World) (v:Value) (cl:List (List Int)):Prop:=∃ us,RMem te ti B w v (.slice none 0 0) us cl []
theorem RMem.ownL {te ti B:Nat} {wr:World} {cv clv:Value} {us:List Value} {cs:List (List Int)} {cur:List Int} (h:RMem te ti B wr cv clv us cs cur):OwnL te ti B wr cv cs:=
 ⟨us,h.outer,World.ownsRow_nil _ _ _ _,h.len,fun j u hj=>⟨(h.inner j u hj).1,by
  cases hu:u.ownBlock with
  | none=>exact .inl rfl
  | some g=>exact .inr (by simp [Value.ownBlock])⟩⟩
def RdRow (w:World) (u:Value) (xs:List Int):Prop:=∃ (a:Option Addr) (c b:Nat),u=.slice a xs.length c∧(0 < xs.length→a=some ⟨b,0,none⟩)∧∀ j,j < xs.length→w.cell? ⟨b,j,none⟩=some (.int .i64 (xs.getD j 0))
def RdLists (w:World) (v:Value) (cl:List (List Int)):Prop:=∃ (a:Option Addr) (c b:Nat),v=.slice a cl.length c∧(0 < cl.length→a=some ⟨b,0,none⟩)∧∀ i,i < cl.length→∃ u,w.cell? ⟨b,i,none⟩=some u∧RdRow w u (cl.getD i [])
theorem Lists.read {te ti B:Nat} {w:World} {v:Value} {cl:List (List Int)} (h:Lists te ti B w v cl):RdLists w v cl:=by
 obtain ⟨CB,BB,rfl,h2,h3,h4,h5⟩:=h.ex
 refine ⟨_,cl.length,CB,rfl,fun _=>rfl,fun i hi=>⟨_,h3.cell hi,?_⟩⟩
 exact ⟨some ⟨BB i,0,none⟩,(cl.getD i []).length,BB i,rfl,fun _=>rfl,fun j hj=>(h4 i hi).2.cell hj⟩
theorem rdLists_nil (w:World):RdLists w (.slice none 0 0) []:=⟨none,0,0,rfl,fun h=>by simp at h,fun i hi=>by simp at hi⟩
end Rd
end Go.Proofs.YtceahffmenbibaaGreatDoor
namespace Go.Proofs.YtceahffmenbibaaGreatDoor
namespace Rd
open Go Go.RowKit Go.Deep
theorem Tryz.infoInt':(Tryz.prog.info? 3).map (fun i=>(i.zero,i.size,i.bytes))=some (some (.int .i64 0),1,8):=by kernel_rfl
theorem Tryz.infoInts':(Tryz.prog.info? 43).map (fun i=>(i.zero,i.size,i.bytes))=some (some (.slice none 0 0),1,24):=by kernel_rfl
theorem clausesTo_lens (T:List Bs):(clausesTo T).1.length ≤ T.length∧(clausesTo T).2.length ≤ T.length:=by
 suffices h:∀ (T:List Bs) (st:List (List Int) × List Int) (n:Nat),st.1.length ≤ n→st.2.length ≤ n→(T.foldl clsStep st).1.length ≤ n + T.length∧(T.foldl clsStep st).2.length ≤ n + T.length by
  have:=h T ([],[]) 0 (by simp) (by simp);simpa [clausesTo_fold] using this
 intro T
 induction T with
 | nil=>intro st n h1 h2;simpa using ⟨h1,h2⟩
 | cons t r ih=>
  intro st n h1 h2
  simp only [List.foldl_cons,List.length_cons]
  have key:(clsStep st t).1.length ≤ n + 1∧(clsStep st t).2.length ≤ n + 1:=by
   unfold clsStep;split <;> simp <;> omega
  have:=ih (clsStep st t) (n + 1) key.1 key.2
  omega
theorem pline_num {l v c:Bs} (h:pline l=some (v,c)):numB v=true:=by
 unfold pline at h
 split at h
 ·split at h
  ·rename_i hc
   simp only [Bool.and_eq_true] at hc
   simp only [Option.some.injEq,Prod.mk.injEq] at h
   rw [← h.1];exact hc.1.2
  ·cases h
 ·cases h
theorem headF_num:∀ (f:Nat) {l v c r:Bs},headF f l=some (v,c,r)→numB v=true
 | 0,l,v,c,r,h=>by simp [headF] at h
 | f + 1,l,v,c,r,h=>by
  unfold headF at h
  split at h
  ·split at h
   ·exact headF_num f h
   ·obtain ⟨x,hx,e⟩:=Option.map_eq_some_iff.1 h
    simp only [Prod.mk.injEq] at e
    obtain ⟨x1,x2⟩:=x
    simp only at e
    rw [← e.1]
    exact pline_num hx
  ·cases h
theorem own_shape {w':World} {B:Nat} {v:Value} {n:Nat} {xs:List Value} {t:TypeId} (h:w'.ownsRow B t 1 v n xs):∃ a c,v=.slice a n c:=by
 rcases h.2 with ⟨rfl,h0⟩ | ⟨g,cap,cur,rfl,_⟩
 ·exact ⟨none,0,by rw [h0]⟩
 ·exact ⟨_,cap,rfl⟩
end Rd
end Go.Proofs.YtceahffmenbibaaGreatDoor
namespace Go.Proofs.YtceahffmenbibaaGreatDoor
namespace Rd
open Go Go.RowKit Go.Deep
def In50 (l:Int):Prop:=(1 ≤ l∧l ≤ 50)∨(-50 ≤ l∧l ≤ -1)
def RowC (w:World) (u:Value) (xs:List Int):Prop:=∃ (a:Option Addr) (c b:Nat),u=.slice a xs.length c∧xs.length ≤ c∧(0 < xs.length→a=some ⟨b,0,none⟩)∧∀ j,j < xs.length→w.cell? ⟨b,j,none⟩=some (.int .i64 (xs.getD j 0))
theorem rowC_own {w:World} {B ti:Nat} {u:Value} {xs:List Int} (h:w.ownsRow B ti 1 u xs.length (intsV xs)):RowC w u xs:=by
 have hc:=h
 rcases h.2 with ⟨rfl,h0⟩ | ⟨g,cap,cur,rfl,_,_,hn,_⟩
 ·exact ⟨none,0,0,by rw [h0],by omega,fun hh=>by omega,fun j hj=>by omega⟩
 ·refine ⟨some ⟨g,0,none⟩,cap,g,rfl,hn,fun _=>rfl,fun j hj=>?_⟩
  have:=hc.cells (g:=g) rfl j (.int .i64 (xs.getD j 0)) (by simp [intsV,hj,List.getD_eq_getElem?_getD])
  simpa [Addr.add_lit] using this
end Rd
end Go.Proofs.YtceahffmenbibaaGreatDoor
namespace Go.Proofs.YtceahffmenbibaaGreatDoor
namespace Rd
abbrev Key:Type:=Nat × Nat
def wide:Nat:=18446744073709551616
def Key.ok (s:Key):Prop:=s.1 < wide∧s.2 < wide
def IsLit (l:Int):Prop:=(1 ≤ l∧l ≤ 64)∨(-64 ≤ l∧l ≤ -1)
def Key.has (s:Key) (l:Int):Bool:=if 0 < l then s.1.testBit (l.toNat - 1) else if l < 0 then s.2.testBit ((-l).toNat - 1) else false
def andNot (a b:Nat):Nat:=a ^^^ (a &&& b)
def Key.un (s t:Key):Key:=(s.1 ||| t.1,s.2 ||| t.2)
def Key.wo (s t:Key):Key:=(andNot s.1 t.1,andNot s.2 t.2)
def Key.op (s:Key):Key:=(s.2,s.1)
def single (l:Int):Key:=if l < 0 then (0,2 ^ ((-l).toNat - 1)) else (2 ^ (l.toNat - 1),0)
def Key.one (s:Key):Key:=if s.1 ≠ 0 then (2 ^ Lib.ctz 64 s.1,0) else (0,2 ^ Lib.ctz 64 s.2)
def Key.oneL (s:Key):Int:=if s.1 ≠ 0 then (Lib.ctz 64 s.1:Int) + 1 else -((Lib.ctz 64 s.2:Int) + 1)
def place (l:Int):Nat:=if 0 < l then l.toNat - 1 else 64 + ((-l).toNat - 1)
def setOf (c:List Int):Key:=c.foldl (fun s l=>s.un (single l)) (0,0)
theorem testBit_wide {x i:Nat} (h:x < wide) (hb:x.testBit i=true):i < 64:=by
 rcases Nat.lt_or_ge i 64 with h1 | h1
 ·exact h1
 ·have:x < 2 ^ i:=Nat.lt_of_lt_of_le (show x < 2 ^ 64 from h) (Nat.pow_le_pow_right (by decide) h1)
  rw [Nat.testBit_lt_two_pow this] at hb;cases hb
theorem Key.has_lit {s:Key} (h:s.ok) {l:Int} (hl:s.has l=true):IsLit l:=by
 unfold Key.has at hl
 split at hl
 ·have:=testBit_wide h.1 hl;left;omega
 ·split at hl
  ·have:=testBit_wide h.2 hl;right;omega
  ·cases hl
theorem has_pos (s:Key) (i:Nat):s.has ((i:Int) + 1)=s.1.testBit i:=by
 unfold Key.has;rw [if_pos (by omega)];congr 1
theorem has_neg (s:Key) (i:Nat):s.has (-((i:Int) + 1))=s.2.testBit i:=by
 unfold Key.has;rw [if_neg (by omega),if_pos (by omega)];congr 1
theorem lit_cases (l:Int):l=0∨(∃ i:Nat,l=(i:Int) + 1)∨∃ i:Nat,l=-((i:Int) + 1):=by
 rcases Int.lt_trichotomy l 0 with h | h | h
 ·right;right;exact ⟨(-l - 1).toNat,by omega⟩
 ·left;exact h
 ·right;left;exact ⟨(l - 1).toNat,by omega⟩
theorem has_zero (s:Key):s.has 0=false:=by unfold Key.has;simp
theorem key_ext {s t:Key} (h:∀ l,s.has l=t.has l):s=t:=by
 obtain ⟨s1,s2⟩:=s;obtain ⟨t1,t2⟩:=t
 congr 1
 ·exact Nat.eq_of_testBit_eq fun i=>by have:=h ((i:Int) + 1);rwa [has_pos,has_pos] at this
 ·exact Nat.eq_of_testBit_eq fun i=>by have:=h (-((i:Int) + 1));rwa [has_neg,has_neg] at this
theorem testBit_andNot (a b i:Nat):(andNot a b).testBit i=(a.testBit i && !b.testBit i):=by
 unfold andNot;rw [Nat.testBit_xor,Nat.testBit_and];cases a.testBit i <;> cases b.testBit i <;> rfl
theorem has_un (s t:Key) (l:Int):(s.un t).has l=(s.has l || t.has l):=by
 rcases lit_cases l with rfl | ⟨i,rfl⟩ | ⟨i,rfl⟩
 ·simp [has_zero]
 ·simp [has_pos,Key.un,Nat.testBit_or]
 ·simp only [has_neg,Key.un,Nat.testBit_or]
theorem has_wo (s t:Key) (l:Int):(s.wo t).has l=(s.has l && !t.has l):=by
 rcases lit_cases l with rfl | ⟨i,rfl⟩ | ⟨i,rfl⟩
 ·simp [has_zero]
 ·simp only [has_pos,Key.wo,testBit_andNot]
 ·simp only [has_neg,Key.wo,testBit_andNot]
theorem has_op (s:Key) (l:Int):s.op.has l=s.has (-l):=by
 rcases lit_cases l with rfl | ⟨i,rfl⟩ | ⟨i,rfl⟩
 ·simp [has_zero]
 ·rw [has_pos,has_neg];rfl
 ·rw [has_neg,Int.neg_neg,has_pos];rfl
theorem has_empty (l:Int):Key.has (0,0) l=false:=by
 rcases lit_cases l with rfl | ⟨i,rfl⟩ | ⟨i,rfl⟩
 ·simp [has_zero]
 ·rw [has_pos];simp
 ·rw [has_neg];simp
theorem has_single {l:Int} (hl:l ≠ 0) (x:Int):(single l).has x=decide (x=l):=by
 rcases lit_cases l with rfl | ⟨i,rfl⟩ | ⟨i,rfl⟩
 ·exact absurd rfl hl
 ·have e:single ((i:Int) + 1)=(2 ^ i,0):=by unfold single;rw [if_neg (by omega)];congr 2
  rw [e]
  rcases lit_cases x with rfl | ⟨j,rfl⟩ | ⟨j,rfl⟩
  ·rw [has_zero];symm;simp;omega
  ·rw [has_pos,Nat.testBit_two_pow];simp;omega
  ·rw [has_neg];simp;omega
 ·have e:single (-((i:Int) + 1))=(0,2 ^ i):=by unfold single;rw [if_pos (by omega)];congr 2
  rw [e]
  rcases lit_cases x with rfl | ⟨j,rfl⟩ | ⟨j,rfl⟩
  ·rw [has_zero];symm;simp;omega
  ·rw [has_pos];simp;omega
  ·rw [has_neg,Nat.testBit_two_pow];simp;omega
theorem un_ok {s t:Key} (hs:s.ok) (ht:t.ok):(s.un t).ok:=
 ⟨show _ < 2 ^ 64 from Nat.or_lt_two_pow hs.1 ht.1,show _ < 2 ^ 64 from Nat.or_lt_two_pow hs.2 ht.2⟩
theorem andNot_lt {a b:Nat} (h:a < wide):andNot a b < wide:=by
 show _ < 2 ^ 64
 exact Nat.xor_lt_two_pow h (Nat.lt_of_le_of_lt Nat.and_le_left h)
theorem wo_ok {s:Key} (hs:s.ok) (t:Key):(s.wo t).ok:=⟨andNot_lt hs.1,andNot_lt hs.2⟩
theorem op_ok {s:Key} (hs:s.ok):s.op.ok:=⟨hs.2,hs.1⟩
theorem empty_ok:Key.ok (0,0):=⟨by decide,by decide⟩
theorem single_ok {l:Int} (h:IsLit l):(single l).ok:=by
 unfold single
 rcases h with h | h
 ·rw [if_neg (by omega)];exact ⟨show _ < 2 ^ 64 from Nat.pow_lt_pow_right (by decide) (by omega),show 0 < wide by decide⟩
 ·rw [if_pos (by omega)];exact ⟨show 0 < wide by decide,show _ < 2 ^ 64 from Nat.pow_lt_pow_right (by decide) (by omega)⟩
theorem has_setOf_from (c:List Int) (h0:∀ l ∈ c,l ≠ 0):∀ (s:Key) (x:Int),(c.foldl (fun s l=>s.un (single l)) s).has x=(s.has x || decide (x ∈ c)):=by
 induction c with
 | nil=>intro s x;simp
 | cons a r ih=>
  intro s x
  rw [List.foldl_cons,ih (fun l hl=>h0 l (List.mem_cons_of_mem _ hl)),has_un,has_single (h0 a (List.mem_cons_self ..)),Bool.or_assoc]
  congr 1
  by_cases e:x=a <;> simp [e]
theorem has_setOf {c:List Int} (h0:∀ l ∈ c,l ≠ 0) (x:Int):(setOf c).has x=decide (x ∈ c):=by
 unfold setOf;rw [has_setOf_from c h0,has_empty];simp
theorem setOf_ok_from (c:List Int) (h:∀ l ∈ c,IsLit l):∀ (s:Key),s.ok→(c.foldl (fun s l=>s.un (single l)) s).ok:=by
 induction c with
 | nil=>intro s hs;exact hs
 | cons a r ih=>intro s hs;exact ih (fun l hl=>h l (List.mem_cons_of_mem _ hl)) _ (un_ok hs (single_ok (h a (List.mem_cons_self ..))))
theorem setOf_ok {c:List Int} (h:∀ l ∈ c,IsLit l):(setOf c).ok:=setOf_ok_from c h _ empty_ok
theorem setOf_snoc (c:List Int) (l:Int):setOf (c ++ [l])=(setOf c).un (single l):=by unfold setOf;rw [List.foldl_append];rfl
theorem isLit_ne {l:Int} (h:IsLit l):l ≠ 0:=by rcases h with h | h <;> omega
theorem isLit_neg {l:Int} (h:IsLit l):IsLit (-l):=by
 rcases h with h | h
 ·right;omega
 ·left;omega
theorem empty_iff (s:Key):(s.1 ||| s.2=0)↔s=(0,0):=by
 obtain ⟨a,b⟩:=s
 constructor
 ·intro h
  have h':(a ||| b)=0:=h
  have ha:a=0:=Nat.eq_of_testBit_eq fun i=>by have:=congrArg (Nat.testBit · i) h';simp only [Nat.testBit_or,Nat.zero_testBit,Bool.or_eq_false_iff] at this;simp [this.1]
  have hb:b=0:=Nat.eq_of_testBit_eq fun i=>by have:=congrArg (Nat.testBit · i) h';simp only [Nat.testBit_or,Nat.zero_testBit,Bool.or_eq_false_iff] at this;simp [this.2]
  rw [ha,hb]
 ·intro h;cases h;rfl
theorem ne_zero_bit {x:Nat}:x ≠ 0↔∃ i,x.testBit i=true:=⟨Nat.exists_testBit_of_ne_zero,fun ⟨i,h⟩ e=>by rw [e] at h;simp at h⟩
theorem nonempty_iff (s:Key):s ≠ (0,0)↔∃ l,s.has l=true:=by
 constructor
 ·intro h
  rcases Classical.em (∃ l,s.has l=true) with h1 | h1
  ·exact h1
  ·exact absurd (key_ext fun l=>by rw [has_empty];cases e:s.has l with | false=>rfl | true=>exact absurd ⟨l,e⟩ h1) h
 ·rintro ⟨l,hl⟩ rfl;rw [has_empty] at hl;cases hl
theorem meets_iff (s t:Key):((s.1 &&& t.1) ||| (s.2 &&& t.2) ≠ 0)↔∃ l,s.has l=true∧t.has l=true:=by
 have e:∀ l,Key.has (s.1 &&& t.1,s.2 &&& t.2) l=(s.has l && t.has l):=fun l=>by
  rcases lit_cases l with rfl | ⟨i,rfl⟩ | ⟨i,rfl⟩
  ·simp [has_zero]
  ·simp only [has_pos,Nat.testBit_and]
  ·simp only [has_neg,Nat.testBit_and]
 have h1:=empty_iff (s.1 &&& t.1,s.2 &&& t.2)
 have h2:=nonempty_iff (s.1 &&& t.1,s.2 &&& t.2)
 simp only [e,Bool.and_eq_true] at h2
 rw [← h2]
 exact not_congr h1
theorem clash_iff (s:Key):(s.1 &&& s.2 ≠ 0)↔∃ l,s.has l=true∧s.has (-l)=true:=by
 rw [ne_zero_bit]
 constructor
 ·rintro ⟨i,hi⟩
  rw [Nat.testBit_and,Bool.and_eq_true] at hi
  exact ⟨(i:Int) + 1,by rw [has_pos];exact hi.1,by rw [has_neg];exact hi.2⟩
 ·rintro ⟨l,h1,h2⟩
  rcases lit_cases l with rfl | ⟨i,rfl⟩ | ⟨i,rfl⟩
  ·rw [has_zero] at h1;cases h1
  ·rw [has_pos] at h1;rw [has_neg] at h2;exact ⟨i,by rw [Nat.testBit_and,h1,h2];rfl⟩
  ·rw [has_neg] at h1;rw [Int.neg_neg,has_pos] at h2;exact ⟨i,by rw [Nat.testBit_and,h1,h2];rfl⟩
theorem low_bit {x:Nat} (h0:x ≠ 0) (h:x < wide):x.testBit (Lib.ctz 64 x)=true∧Lib.ctz 64 x < 64:=by
 obtain ⟨h1,h2⟩:=Lib.lowest_bit 64 x h0 h
 refine ⟨?_,h2⟩
 have:=congrArg (Nat.testBit · (Lib.ctz 64 x)) h1
 simp only [Nat.testBit_and,Nat.testBit_two_pow_self,Bool.and_eq_true] at this
 exact this.1
theorem oneL_spec {s:Key} (hs:s.ok) (h:s ≠ (0,0)):s.one=single s.oneL∧s.has s.oneL=true∧IsLit s.oneL:=by
 unfold Key.one Key.oneL
 by_cases h1:s.1 ≠ 0
 ·rw [if_pos h1,if_pos h1]
  obtain ⟨hb,hc⟩:=low_bit h1 hs.1
  refine ⟨?_,by rw [has_pos];exact hb,.inl (by omega)⟩
  unfold single;rw [if_neg (by omega)];congr 2
 ·rw [if_neg h1,if_neg h1]
  have h2:s.2 ≠ 0:=by
   intro e
   apply h
   obtain ⟨a,b⟩:=s
   simp only [ne_eq,Decidable.not_not] at h1
   simp only at e h1
   rw [h1,e]
  obtain ⟨hb,hc⟩:=low_bit h2 hs.2
  refine ⟨?_,by rw [has_neg];exact hb,.inr (by omega)⟩
  unfold single;rw [if_pos (by omega)];congr 2
theorem place_lt {l:Int} (h:IsLit l):place l < 128:=by unfold place;rcases h with h | h <;> split <;> omega
theorem place_inj {l l':Int} (h:IsLit l) (h':IsLit l') (e:place l=place l'):l=l':=by
 unfold place at e
 rcases h with h | h <;> rcases h' with h' | h' <;> (split at e <;> split at e <;> omega)
end Rd
end Go.Proofs.YtceahffmenbibaaGreatDoor
namespace Go.Proofs.YtceahffmenbibaaGreatDoor
namespace Rd
open Go Go.RowKit Go.Deep
theorem in50_ne {l:Int} (h:In50 l):l ≠ 0:=by rcases h with h | h <;> omega
theorem in50_lit {l:Int} (h:In50 l):IsLit l:=by
 rcases h with h | h
 ·left;omega
 ·right;omega
theorem countP_lt {α:Type} {p q:α→Bool}:∀ {l:List α},(∀ x ∈ l,p x=true→q x=true)→(∃ x ∈ l,q x=true∧p x=false)→l.countP p < l.countP q
 | [],_,⟨x,hx,_⟩=>by simp at hx
 | a :: l,h,⟨x,hx,h1,h2⟩=>by
  have hle:l.countP p ≤ l.countP q:=List.countP_mono_left fun y hy hp=>h y (List.mem_cons_of_mem _ hy) hp
  rcases List.mem_cons.1 hx with rfl | hx
  ·rw [List.countP_cons_of_neg (by simp [h2]),List.countP_cons_of_pos h1];omega
  ·have ih:=countP_lt (l:=l) (fun y hy=>h y (List.mem_cons_of_mem _ hy)) ⟨x,hx,h1,h2⟩
   have ha:=h a (List.mem_cons_self ..)
   rw [List.countP_cons,List.countP_cons]
   cases hp:p a with
   | true=>rw [ha hp];simp;exact ih
   | false=>simp;omega
def ListsC (w:World) (v:Value) (cl:List (List Int)):Prop:=∃ (a:Option Addr) (c b:Nat),v=.slice a cl.length c∧cl.length ≤ c∧(0 < cl.length→a=some ⟨b,0,none⟩)∧∀ i,i < cl.length→∃ u,w.cell? ⟨b,i,none⟩=some u∧RowC w u (cl.getD i [])
theorem OwnL.lists {te ti B:Nat} {w:World} {v:Value} {cl:List (List Int)} (h:OwnL te ti B w v cl):ListsC w v cl:=by
 obtain ⟨us,h⟩:=h
 have hl:=h.len
 have hc:=h.outer
 rcases h.outer.2 with ⟨rfl,h0⟩ | ⟨g,cap,cur',rfl,_,_,hn,_⟩
 ·exact ⟨none,0,0,by rw [← hl,h0],by omega,fun hh=>by omega,fun j hj=>by omega⟩
 ·refine ⟨some ⟨g,0,none⟩,cap,g,by rw [hl],by omega,fun _=>rfl,fun i hi=>?_⟩
  have hi':i < us.length:=by omega
  refine ⟨us[i],?_,rowC_own (h.inner i us[i] (List.getElem?_eq_getElem hi')).1⟩
  have:=hc.cells (g:=g) rfl i us[i] (List.getElem?_eq_getElem hi')
  simpa [Addr.add_lit] using this
end Rd
end Go.Proofs.YtceahffmenbibaaGreatDoor
namespace Go.Proofs.YtceahffmenbibaaGreatDoor
namespace Rd
open Go
def Src (w:World) (y:Value) (m:Nat) (news:List Value):Prop:=
 (y=.slice none 0 0∧m=0∧news=[])∨∃ ad c,y=.slice (some ad) m c∧∀ j u,news[j]? = some u→w.cell? (ad.add j)=some u
structure Appended (w:World) (base e size:Nat) (v:Value) (n:Nat) (xs:List Value) (m:Nat) (news:List Value) (v':Value) (w':World):Prop where
 own:w'.ownsRow base e size v' (n + m) (xs ++ news)
 grew:w.grownBy w' v.ownBlock
 at':v'.ownBlock=v.ownBlock∨v'.ownBlock=some w.heap.size
section
variable {P:Program}
theorem run_append_any (w:World) (t ty base e:Nat) (i:TypeInfo) (z:Value) (size bytes:Nat) (ht:P.underlying t=some (.slice e)) (hi:P.info? e=some i) (hz:i.zero=some z)
  (hsize:i.size=size) (hby:i.bytes=bytes) (hzs:z.cells.size=size) (hsz:0 < size) (v:Value) (n:Nat) (xs:List Value) (hown:w.ownsRow base e size v n xs)
  (y:Value) (m:Nat) (news:List Value) (hy:Src w y m news) (hl:news.length=m * size) (h1:∀ u ∈ news,u.oneCell'=true)
  (h63:n + m ≤ maxLen) (hbytes:(n + m) * bytes ≤ 140737488355328) (hbase:base ≤ w.heap.size):
  ∃ v' w',(Builtin.append_ #[t,t] ty #[v,y]).run P w=.ok v' w'∧Appended w base e size v n xs m news v' w':=by
 rcases hy with ⟨rfl,rfl,rfl⟩ | ⟨ad,c,rfl,hc⟩
 ·exact ⟨v,w,run_append_owned_none (P:=P) (w:=w) base t ty e i size ht hi v n xs hown,by simpa using hown,⟨rfl,rfl,rfl,Nat.le_refl _,fun _ _ _=>rfl⟩,.inl rfl⟩
 ·obtain ⟨v',w',hr,h2,h3,_,h5⟩:=run_append_own_at (P:=P) w base t ty e i z size bytes ht hi hz hsize hby hzs hsz v n xs hown ad m c news hl hc h1 h63 hbytes hbase
  exact ⟨v',w',hr,h2,h3,h5⟩
theorem wp_append_any (w:World) {o:Oper} {a:Act} {K:Act→World→Prop} {Q:Exit→Act→World→Prop} (s x:Operand) (t:TypeId)
  (ho:o.op=.call { callee:=.builtin .append,args:=#[s,x],argTypes:=#[t,t] })
  (base e:Nat) (i:TypeInfo) (z:Value) (size bytes:Nat) (ht:P.underlying t=some (.slice e)) (hi:P.info? e=some i) (hz:i.zero=some z)
  (hsize:i.size=size) (hby:i.bytes=bytes) (hzs:z.cells.size=size) (hsz:0 < size) (v:Value) (n:Nat) (xs:List Value) (hs:a.eval s=v) (hown:w.ownsRow base e size v n xs)
  (y:Value) (m:Nat) (news:List Value) (hx:a.eval x=y) (hy:Src w y m news) (hl:news.length=m * size) (h1:∀ u ∈ news,u.oneCell'=true)
  (h63:n + m ≤ maxLen) (hbytes:(n + m) * bytes ≤ 140737488355328) (hbase:base ≤ w.heap.size)
  (h:∀ v' w',Appended w base e size v n xs m news v' w'→K (a.put o.dst v') w'):o.wp P a w K Q:=by
 obtain ⟨v',w',hr,h2⟩:=run_append_any (P:=P) w t o.type base e i z size bytes ht hi hz hsize hby hzs hsz v n xs hown y m news hy hl h1 h63 hbytes hbase
 unfold Oper.wp execOp
 simp only [ho,resolve,invoke,builtin,Sem.run_bind,Sem.run_pure,Result.andThen_ok,List.map_toArray,List.map_cons,List.map_nil,hs,hx,hr]
 exact h v' w' h2
theorem wpList_append_any (w:World) {ops:Array Oper} {rest:List Oper} {o:Oper} {a:Act} {Q:Exit→Act→World→Prop} (hgd:o.guard=none) (s x:Operand) (t:TypeId)
  (ho:o.op=.call { callee:=.builtin .append,args:=#[s,x],argTypes:=#[t,t] })
  (base e:Nat) (i:TypeInfo) (z:Value) (size bytes:Nat) (ht:P.underlying t=some (.slice e)) (hi:P.info? e=some i) (hz:i.zero=some z)
  (hsize:i.size=size) (hby:i.bytes=bytes) (hzs:z.cells.size=size) (hsz:0 < size) (v:Value) (n:Nat) (xs:List Value) (hs:a.eval s=v) (hown:w.ownsRow base e size v n xs)
  (y:Value) (m:Nat) (news:List Value) (hx:a.eval x=y) (hy:Src w y m news) (hl:news.length=m * size) (h1:∀ u ∈ news,u.oneCell'=true)
  (h63:n + m ≤ maxLen) (hbytes:(n + m) * bytes ≤ 140737488355328) (hbase:base ≤ w.heap.size)
  (h:∀ v' w',Appended w base e size v n xs m news v' w'→wpList P ops Q rest (a.put o.dst v') w'):wpList P ops Q (o :: rest) a w:=
 wpList_plain hgd fun _ hK=>wp_append_any w s x t ho base e i z size bytes ht hi hz hsize hby hzs hsz v n xs hs hown y m news hx hy hl h1 h63 hbytes hbase fun v' w' h2=>hK _ _ (h v' w' h2)
theorem step_append_any (w:World) {ops:Array Oper} {o:Oper} {a:Act} {K:Act→World→Prop} {Q:Exit→Act→World→Prop} {E:Prop} (hgd:o.guard=none) (s x:Operand) (t:TypeId)
  (ho:o.op=.call { callee:=.builtin .append,args:=#[s,x],argTypes:=#[t,t] })
  (base e:Nat) (i:TypeInfo) (z:Value) (size bytes:Nat) (ht:P.underlying t=some (.slice e)) (hi:P.info? e=some i) (hz:i.zero=some z)
  (hsize:i.size=size) (hby:i.bytes=bytes) (hzs:z.cells.size=size) (hsz:0 < size) (v:Value) (n:Nat) (xs:List Value) (hs:a.eval s=v) (hown:w.ownsRow base e size v n xs)
  (y:Value) (m:Nat) (news:List Value) (hx:a.eval x=y) (hy:Src w y m news) (hl:news.length=m * size) (h1:∀ u ∈ news,u.oneCell'=true)
  (h63:n + m ≤ maxLen) (hbytes:(n + m) * bytes ≤ 140737488355328) (hbase:base ≤ w.heap.size)
  (h:∀ v' w',Appended w base e size v n xs m news v' w'→K (a.put o.dst v') w'):
  if Region.wanted o (yielded ops a.tmps)=true then Oper.wp P o a w K Q else E:=by
 have hw:Region.wanted o (yielded ops a.tmps)=true:=by simp [Region.wanted,hgd]
 rw [if_pos hw]
 exact wp_append_any w s x t ho base e i z size bytes ht hi hz hsize hby hzs hsz v n xs hs hown y m news hx hy hl h1 h63 hbytes hbase h
end
end Rd
end Go.Proofs.YtceahffmenbibaaGreatDoor
namespace Go.Proofs.YtceahffmenbibaaGreatDoor
namespace Rd
open Go Go.RowKit Go.Deep
theorem owns_later {w w':World} {B e size n:Nat} {v:Value} {xs:List Value} (h:w.ownsRow B e size v n xs) (hb:Below w.heap.size w w'):w'.ownsRow B e size v n xs:=by
 have hg:w.grownBy w' none:=⟨hb.os,hb.tape,hb.output,hb.size,fun k hk _=>hb.block k hk⟩
 refine h.kept hg ?_
 cases hv:v.ownBlock with
 | none=>exact .inl rfl
 | some g=>exact .inr (by simp)
end Rd
end Go.Proofs.YtceahffmenbibaaGreatDoor
namespace Go.Proofs.YtceahffmenbibaaGreatDoor
namespace So
open Go Go.RowKit Rd
structure Fam (B:Nat) (w:World) (K:Nat) (T:Nat→TypeId) (V:Nat→Value) (X:Nat→List Value):Prop where
 own:∀ k,k < K→w.ownsRow B (T k) 1 (V k) (X k).length (X k)
 apart:∀ k k',k < K→k' < K→k ≠ k'→(V k).ownBlock=none∨(V k).ownBlock ≠ (V k').ownBlock
def upd {α:Type} (f:Nat→α) (k:Nat) (a:α):Nat→α:=fun j=>if j=k then a else f j
theorem upd_self {α:Type} (f:Nat→α) (k:Nat) (a:α):upd f k a k=a:=by unfold upd;rw [if_pos rfl]
theorem upd_other {α:Type} (f:Nat→α) {k j:Nat} (a:α) (h:j ≠ k):upd f k a j=f j:=by unfold upd;rw [if_neg h]
theorem upd_same {α:Type} (f:Nat→α) (k:Nat):upd f k (f k)=f:=by funext j;unfold upd;split <;> simp_all
variable {B K:Nat} {w w':World} {T:Nat→TypeId} {V:Nat→Value} {X:Nat→List Value}
theorem ownB {e size n:Nat} {v:Value} {xs:List Value} (h:w.ownsRow B e size v n xs) (hb:∀ g,v.ownBlock=some g→w'.heap[g]? = w.heap[g]?):w'.ownsRow B e size v n xs:=by
 refine ⟨h.1,?_⟩
 rcases h.2 with h2 | ⟨g,cap,cur,e1,hb1,hg,r⟩
 ·exact .inl h2
 ·exact .inr ⟨g,cap,cur,e1,hb1,by rw [hb g (by rw [e1];rfl)];exact hg,r⟩
theorem Fam.kept (h:Fam B w K T V X) (hb:∀ k g,k < K→(V k).ownBlock=some g→w'.heap[g]? = w.heap[g]?):Fam B w' K T V X:=
 ⟨fun k hk=>ownB (h.own k hk) fun g hg=>hb k g hk hg,h.apart⟩
theorem Fam.later (h:Fam B w K T V X) (hb:Below w.heap.size w w'):Fam B w' K T V X:=
 h.kept fun k g hk hg=>hb.block g ((h.own k hk).lt g hg).2
theorem Fam.shape (h:Fam B w K T V X) {k:Nat} (hk:k < K):∃ a c,V k=.slice a (X k).length c:=own_shape (h.own k hk)
theorem Fam.block (h:Fam B w K T V X) {k:Nat} (hk:k < K) (hx:0 < (X k).length):∃ g cap cur,V k=.slice (some ⟨g,0,none⟩) (X k).length cap∧B ≤ g∧w.heap[g]? = some (.cells cur (T k) (0,0))∧(X k).length ≤ cap:=by
 rcases (h.own k hk).2 with ⟨e,h0⟩ | ⟨g,cap,cur,e,hb,hg,hn,_⟩
 ·omega
 ·exact ⟨g,cap,cur,e,hb,hg,hn⟩
theorem Fam.cell (h:Fam B w K T V X) {k:Nat} (hk:k < K) {g n cap:Nat} (hv:V k=.slice (some ⟨g,0,none⟩) n cap) {j:Nat} (hj:j < (X k).length):w.cell? ⟨g,j,none⟩=(X k)[j]? ∧ w.frozen? ⟨g,j,none⟩=false:=by
 have ho:=h.own k hk
 rw [hv] at ho
 have hn:n=(X k).length:=by
  obtain ⟨a,c,e⟩:=own_shape ho
  exact (Value.slice.inj e).2.1
 subst hn
 exact ⟨ho.cellAt j (by omega),ho.frozenAt j⟩
theorem Fam.set (h:Fam B w K T V X) {k:Nat} (hk:k < K) {g n cap:Nat} (hv:V k=.slice (some ⟨g,0,none⟩) n cap) (j:Nat) (u:Value):Fam B (w.setCell ⟨g,j,none⟩ u) K T V (upd X k ((X k).set j u)) where
 own:=fun i hi=>by
  by_cases e:i=k
  ·subst e
   rw [upd_self,List.length_set]
   have ho:=h.own i hi
   rw [hv] at ho ⊢
   have hn:n=(X i).length:=by
    obtain ⟨a,c,e⟩:=own_shape ho
    exact (Value.slice.inj e).2.1
   subst hn
   exact (ho.stored j u).1
  ·rw [upd_other _ _ e]
   refine ownsRow_setCell_other (h.own i hi) (fun h2=>?_) u
   rcases h.apart i k hi hk e with h3 | h3
   ·rw [h3] at h2;cases h2
   ·exact h3 (by rw [h2,hv];rfl)
 apart:=h.apart
theorem Fam.push (h:Fam B w K T V X) {k:Nat} (hk:k < K) {v':Value} {w6:World} {m:Nat} {news:List Value} (hm:news.length=m) (A:Appended w B (T k) 1 (V k) (X k).length (X k) m news v' w6):Fam B w6 K T (upd V k v') (upd X k (X k ++ news)) where
 own:=fun i hi=>by
  by_cases e:i=k
  ·subst e
   rw [upd_self,upd_self,List.length_append,hm]
   exact A.own
  ·rw [upd_other _ _ e,upd_other _ _ e]
   refine (h.own i hi).kept A.grew ?_
   rcases h.apart i k hi hk e with h3 | h3
   ·exact .inl h3
   ·exact .inr h3
 apart:=fun i j hi hj hij=>by
  by_cases e:i=k
  ·subst e
   rw [upd_self,upd_other _ _ (fun e=>hij e.symm)]
   rcases A.at' with h1 | h1
   ·rw [h1];exact h.apart i j hi hj hij
   ·rw [h1]
    refine .inr fun h2=>?_
    have:=((h.own j hj).lt _ h2.symm).2
    omega
  ·rw [upd_other _ _ e]
   by_cases e2:j=k
   ·subst e2
    rw [upd_self]
    rcases A.at' with h1 | h1
    ·rw [h1];exact h.apart i j hi hj hij
    ·rw [h1]
     cases hb:(V i).ownBlock with
     | none=>exact .inl rfl
     | some g=>
      refine .inr fun h2=>?_
      have:=((h.own i hi).lt _ hb).2
      have:=Option.some.inj h2
      omega
   ·rw [upd_other _ _ e2];exact h.apart i j hi hj hij
theorem Fam.cut (h:Fam B w K T V X) {k:Nat} (hk:k < K) {a:Option Addr} {n cap m:Nat} (hv:V k=.slice a n cap) (hm:m ≤ (X k).length):Fam B w K T (upd V k (.slice a m cap)) (upd X k ((X k).take m)) where
 own:=fun i hi=>by
  by_cases e:i=k
  ·subst e
   rw [upd_self,upd_self,List.length_take,Nat.min_eq_left hm]
   have ho:=h.own i hi
   rw [hv] at ho
   refine ⟨by rw [List.length_take,Nat.min_eq_left hm];omega,?_⟩
   rcases ho.2 with ⟨e2,h0⟩ | ⟨g,cap',cur,e2,hb,hg,hn,hx,hs,ht⟩
   ·obtain ⟨q1,q2,q3⟩:=Value.slice.inj e2
    subst q1 q3
    have:m=0:=by omega
    subst this;exact .inl ⟨rfl,rfl⟩
   ·obtain ⟨q1,q2,q3⟩:=Value.slice.inj e2
    subst q1 q3
    refine .inr ⟨g,cap,cur,rfl,hb,hg,by omega,hx,hs,?_⟩
    rw [← ht,List.take_take];congr 1;omega
  ·rw [upd_other _ _ e,upd_other _ _ e];exact h.own i hi
 apart:=fun i j hi hj hij=>by
  have key:∀ x,(upd V k (.slice a m cap) x).ownBlock=(V x).ownBlock:=fun x=>by
   by_cases e:x=k
   ·subst e;rw [upd_self,hv];cases a <;> rfl
   ·rw [upd_other _ _ e]
  rw [key,key];exact h.apart i j hi hj hij
end So
end Go.Proofs.YtceahffmenbibaaGreatDoor
namespace Go.Proofs.YtceahffmenbibaaGreatDoor
namespace So
open Go Go.RowKit Rd
structure Chg (Z:Nat→Prop) (w w':World):Prop where
 bel:Below 0 w w'
 block:∀ g,g < w.heap.size→¬ Z g→w'.heap[g]? = w.heap[g]?
variable {Z:Nat→Prop} {a w w':World}
theorem Chg.size (h:Chg Z w w'):w.heap.size ≤ w'.heap.size:=h.bel.size
theorem Chg.refl (w:World):Chg Z w w:=⟨Below.refl _ _,fun _ _ _=>rfl⟩
theorem Chg.trans (h:Chg Z a w) (k:Chg Z w w'):Chg Z a w':=⟨h.bel.trans k.bel,fun g hg hz=>(k.block g (Nat.lt_of_lt_of_le hg h.size) hz).trans (h.block g hg hz)⟩
theorem Chg.drew (h:Chg Z a w):Chg Z a w.drew:=⟨h.bel.drew,h.block⟩
theorem Chg.alloc (h:Chg Z a w) (o:Obj):Chg Z a (w.alloc o):=h.trans ⟨(Below.refl _ _).alloc (Nat.zero_le _) o,fun g hg _=>Below.heap_alloc _ _ _ hg⟩
theorem Chg.setCell (h:Chg Z a w) {p:Addr} (hp:Z p.block) (u:Value):Chg Z a (w.setCell p u):=h.trans ⟨(Below.refl _ _).setCell (Nat.zero_le _) u,fun g hg hz=>Below.heap_setCell _ _ _ _ (fun e=>hz (e ▸ hp))⟩
theorem Chg.grown {row:Option Nat} (h:Chg Z a w) (hg:w.grownBy w' row) (hr:∀ k,row=some k→Z k):Chg Z a w':=h.trans ⟨(Below.refl _ _).grown hg (Nat.zero_le _) (fun _ _=>Nat.zero_le _),fun g h1 hz=>hg.block g h1 (fun e=>hz (hr g e.symm))⟩
theorem Chg.of_below (h:Below w.heap.size w w'):Chg Z w w':=⟨h.mono (Nat.zero_le _),fun g hg _=>h.block g hg⟩
theorem Chg.mono {Z':Nat→Prop} (h:Chg Z w w') (hz:∀ g,g < w.heap.size→Z g→Z' g):Chg Z' w w':=⟨h.bel,fun g hg hn=>h.block g hg (fun e=>hn (hz g hg e))⟩
theorem Chg.below {B:Nat} (h:Chg Z w w') (hB:B ≤ w.heap.size) (hz:∀ g,g < B→¬ Z g):Below B w w':=⟨h.bel.os,h.bel.tape,h.bel.output,h.bel.size,fun g hg=>h.block g (by omega) (hz g hg)⟩
end So
end Go.Proofs.YtceahffmenbibaaGreatDoor
namespace Go.Proofs.YtceahffmenbibaaGreatDoor
namespace So
open Go Go.RowKit Go.Deep Rd
def famT (k:Nat):TypeId:=if k=9 then 43 else if k=10∨k=11 then 4 else if k=12 then 5 else if k=14 then 2 else 3
theorem famT_ne (k:Nat):famT k ≠ 167:=by unfold famT;split <;> (try split) <;> (try split) <;> (try split) <;> decide
def cellOf:Nat→Nat
 | 0=>2 | 1=>6 | 2=>8 | 3=>9 | 4=>10 | 5=>11 | 6=>13 | 7=>15 | 8=>19 | 9=>5 | 10=>16 | 11=>17 | _=>1
structure Sol (Z:Nat→Prop) (sb:Nat) (w:World) (K:Nat) (f V:Nat→Value) (X:Nat→List Value):Prop where
 row:w.rowIs sb 167 22 f
 fam:Fam 0 w K famT V X
 hdr:∀ k,k < 13→f (cellOf k)=V k
 bsb:Z sb
 al:∀ k,k < K→∀ g,(V k).ownBlock=some g→Z g
 az:∀ g,w.heap.size ≤ g→Z g
 hK:16 ≤ K
variable {Z:Nat→Prop} {sb K:Nat} {w w':World} {f V:Nat→Value} {X:Nat→List Value}
theorem Sol.far (h:Sol Z sb w K f V X) {k:Nat} (hk:k < K):∀ g,(V k).ownBlock=some g→g ≠ sb:=fun g hg e=>by
 obtain ⟨c,hr,_⟩:=h.row
 rcases (h.fam.own k hk).2 with ⟨e2,_⟩ | ⟨g',cap,cur,e2,_,hg',_⟩
 ·rw [e2] at hg;cases hg
 ·rw [e2] at hg
  obtain rfl:g'=g:=Option.some.inj hg
  rw [e,hr] at hg'
  exact famT_ne k (Obj.cells.inj (Option.some.inj hg')).2.1.symm
theorem Sol.later (h:Sol Z sb w K f V X) (hb:Below w.heap.size w w'):Sol Z sb w' K f V X:=
 ⟨h.row.of_block (hb.block _ h.row.lt),h.fam.later hb,h.hdr,h.bsb,h.al,fun g hg=>h.az g (Nat.le_trans hb.size hg),h.hK⟩
theorem Sol.head (h:Sol Z sb w K f V X) (j:Nat) (hj:j < 22):w.cell? ⟨sb,j,none⟩=some (f j)∧w.frozen? ⟨sb,j,none⟩=false:=⟨h.row.cell hj,h.row.frozen j⟩
theorem Sol.hd (h:Sol Z sb w K f V X) {k:Nat} (hk:k < 13):w.cell? ⟨sb,cellOf k,none⟩=some (V k)∧w.frozen? ⟨sb,cellOf k,none⟩=false:=by
 have hc:cellOf k < 22:=by unfold cellOf;split <;> decide
 have:=h.head _ hc
 rw [h.hdr k hk] at this;exact this
theorem Sol.scalar (h:Sol Z sb w K f V X) (j:Nat) (u:Value) (hj:∀ k,k < 13→cellOf k ≠ j):Sol Z sb (w.setCell ⟨sb,j,none⟩ u) K (upd f j u) V X where
 row:=(h.row.set j u).congr fun i hi=>by unfold upd;rfl
 fam:=h.fam.kept fun k g hk hg=>Below.heap_setCell _ _ _ _ (by simpa using h.far hk g hg)
 hdr:=fun k hk=>by rw [upd_other _ _ (hj k hk)];exact h.hdr k hk
 bsb:=h.bsb
 al:=h.al
 az:=fun g hg=>h.az g (by simpa [World.setCell] using hg)
 hK:=h.hK
theorem Sol.set (h:Sol Z sb w K f V X) {k:Nat} (hk:k < K) {g n cap:Nat} (hv:V k=.slice (some ⟨g,0,none⟩) n cap) (j:Nat) (u:Value):Sol Z sb (w.setCell ⟨g,j,none⟩ u) K f V (upd X k ((X k).set j u)) where
 row:=h.row.of_block (Below.heap_setCell _ _ _ _ (fun e=>h.far hk g (by rw [hv];rfl) e.symm))
 fam:=h.fam.set hk hv j u
 hdr:=h.hdr
 bsb:=h.bsb
 al:=h.al
 az:=fun g hg=>h.az g (by simpa [World.setCell] using hg)
 hK:=h.hK
theorem cellOf_inj:∀ k,k < 13→∀ j,j < 13→cellOf k=cellOf j→k=j:=by decide +kernel
theorem Sol.header (h:Sol Z sb w K f V X) {k:Nat} (hk:k < 13) {V':Nat→Value} {X':Nat→List Value} {w6:World} {v':Value} (hrow:w6.rowIs sb 167 22 f) (hfam:Fam 0 w6 K famT V' X') (hV:V'=upd V k v') (hfar:∀ i,i < K→∀ g,(V' i).ownBlock=some g→g ≠ sb) (hsz:w.heap.size ≤ w6.heap.size) (hal:∀ i,i < K→∀ g,(V' i).ownBlock=some g→Z g):
  Sol Z sb (w6.setCell ⟨sb,cellOf k,none⟩ v') K (upd f (cellOf k) v') V' X' where
 row:=(hrow.set (cellOf k) v').congr fun i hi=>by unfold upd;rfl
 fam:=hfam.kept fun i g hi hg=>Below.heap_setCell _ _ _ _ (by simpa using hfar i hi g hg)
 hdr:=fun i hi=>by
  rw [hV]
  by_cases e:i=k
  ·subst e;rw [upd_self,upd_self]
  ·rw [upd_other _ _ e,upd_other _ _ (fun e2=>e (cellOf_inj i hi k hk e2))]
   exact h.hdr i hi
 bsb:=h.bsb
 al:=hal
 az:=fun g hg=>h.az g (by simp [World.setCell] at hg;omega)
 hK:=h.hK
theorem Sol.push (h:Sol Z sb w K f V X) {k:Nat} (hk:k < 13) {ob:Obj} {v':Value} {w6:World} {m:Nat} {news:List Value} (hm:news.length=m) (A:Appended (w.alloc ob) 0 (famT k) 1 (V k) (X k).length (X k) m news v' w6):
  Sol Z sb (w6.setCell ⟨sb,cellOf k,none⟩ v') K (upd f (cellOf k) v') (upd V k v') (upd X k (X k ++ news)):=by
 have hkK:k < K:=by have:=h.hK;omega
 have hl:=h.later ((Below.refl _ w).alloc (Nat.le_refl _) ob)
 have hlt:=hl.row.lt
 refine h.header hk (hl.row.of_block (A.grew.block sb hlt (fun e=>hl.far hkK sb e.symm rfl))) (hl.fam.push hkK hm A) rfl (fun i hi g hg=>?_) (by have:=A.grew.size;simp at this;omega) (fun i hi g hg=>?_)
 ·by_cases e:i=k
  ·subst e
   rw [upd_self] at hg
   rcases A.at' with h1 | h1
   ·rw [h1] at hg;exact hl.far hi g hg
   ·rw [h1] at hg
    have:=Option.some.inj hg
    omega
  ·rw [upd_other _ _ e] at hg;exact hl.far hi g hg
 ·by_cases e:i=k
  ·subst e
   rw [upd_self] at hg
   rcases A.at' with h1 | h1
   ·rw [h1] at hg;exact h.al i hi g hg
   ·rw [h1] at hg
    have:=Option.some.inj hg
    exact h.az g (by simp at this;omega)
  ·rw [upd_other _ _ e] at hg;exact h.al i hi g hg
theorem Sol.headApp (h:Sol Z sb w K f V X) {k:Nat} (hk:k < K) {ob:Obj} {v':Value} {w6:World} {m:Nat} {news:List Value} (A:Appended (w.alloc ob) 0 (famT k) 1 (V k) (X k).length (X k) m news v' w6) (j:Nat) (hj:j < 22):w6.cell? ⟨sb,j,none⟩=some (f j)∧w6.frozen? ⟨sb,j,none⟩=false:=by
 have hl:=h.later ((Below.refl _ w).alloc (Nat.le_refl _) ob)
 have hr:=hl.row.of_block (A.grew.block sb hl.row.lt (fun e=>hl.far hk sb e.symm rfl))
 exact ⟨hr.cell hj,hr.frozen j⟩
theorem Sol.belowApp (h:Sol Z sb w K f V X) {k:Nat} (hk:k < K) {ob:Obj} {v':Value} {w6:World} {m:Nat} {news:List Value} (A:Appended (w.alloc ob) 0 (famT k) 1 (V k) (X k).length (X k) m news v' w6) (j:Nat) (u:Value):Chg Z w (w6.setCell ⟨sb,j,none⟩ u):=
 (((Chg.refl w).alloc ob).grown A.grew (fun g hg=>h.al k hk g hg)).setCell h.bsb _
theorem Sol.elem (h:Sol Z sb w K f V X) {k j n:Nat} (hk:k < 13) (hn:(X k).length=n) (hj:j < n):∃ g cap t,V k=.slice (some ⟨g,0,none⟩) n cap∧w.cell? ⟨sb,cellOf k,none⟩=some (.slice (some ⟨g,0,none⟩) n cap)∧w.cell? ⟨g,j,none⟩=some t∧(X k)[j]? = some t∧w.frozen? ⟨g,j,none⟩=false∧Z g∧g < w.heap.size∧g ≠ sb:=by
 have hkK:k < K:=by have:=h.hK;omega
 subst hn
 obtain ⟨g,cap,cur,e,hb,hg,hc⟩:=h.fam.block hkK (by omega)
 obtain ⟨c1,c2⟩:=h.fam.cell hkK e hj
 have hh:=(h.hd hk).1
 rw [e] at hh
 rw [List.getElem?_eq_getElem hj] at c1
 exact ⟨g,cap,(X k)[j],e,hh,c1,List.getElem?_eq_getElem hj,c2,h.al k hkK g (by rw [e];rfl),((h.fam.own k hkK).lt g (by rw [e];rfl)).2,h.far hkK g (by rw [e];rfl)⟩
theorem Sol.cut (h:Sol Z sb w K f V X) {k:Nat} (hk:k < 13) {a:Option Addr} {n cap m:Nat} (hv:V k=.slice a n cap) (hm:m ≤ (X k).length):
  Sol Z sb (w.setCell ⟨sb,cellOf k,none⟩ (.slice a m cap)) K (upd f (cellOf k) (.slice a m cap)) (upd V k (.slice a m cap)) (upd X k ((X k).take m)):=by
 have hkK:k < K:=by have:=h.hK;omega
 have key:∀ i g,(upd V k (.slice a m cap) i).ownBlock=some g→(V i).ownBlock=some g:=fun i g hg=>by
  by_cases e:i=k
  ·subst e
   rw [upd_self] at hg
   rw [hv];cases a <;> exact hg
  ·rw [upd_other _ _ e] at hg;exact hg
 exact h.header hk h.row (h.fam.cut hkK hv hm) rfl (fun i hi g hg=>h.far hi g (key i g hg)) (Nat.le_refl _) (fun i hi g hg=>h.al i hi g (key i g hg))
end So
end Go.Proofs.YtceahffmenbibaaGreatDoor
namespace Go.Proofs.YtceahffmenbibaaGreatDoor
namespace So
open Rd
def wr (x:Nat):Int:=if x % 2=0 then ((x / 2:Nat):Int) + 1 else -(((x / 2:Nat):Int) + 1)
def op (x:Nat):Nat:=if x % 2=0 then x + 1 else x - 1
theorem op_var (x:Nat):op x / 2=x / 2:=by unfold op;split <;> omega
theorem op_op (x:Nat):op (op x)=x:=by unfold op;split <;> split <;> omega
theorem wr_op (x:Nat):wr (op x)=-(wr x):=by
 unfold wr
 rw [op_var]
 unfold op
 split
 ·rename_i h
  rw [if_neg (by omega)]
 ·rename_i h
  rw [if_pos (by omega)]
  omega
theorem wr_ne (x:Nat):wr x ≠ 0:=by unfold wr;split <;> omega
theorem op_ne (x:Nat):op x ≠ x:=by unfold op;split <;> omega
theorem op_inj {x y:Nat} (h:op x=op y):x=y:=by rw [← op_op x,h,op_op]
theorem same_var {x y:Nat} (h:x / 2=y / 2):x=y∨x=op y:=by unfold op;split <;> omega
def There (L:List Cl) (c:List Nat):Prop:=∃ d ∈ L,∀ x:Int,x ∈ d↔∃ y ∈ c,wr y=x
structure Trail (L:List Cl) (tr:List Nat) (rs:Nat→Option (List Nat)):Prop where
 nodup:(tr.map (· / 2)).Nodup
 why:∀ (i:Nat) (h:i < tr.length) c,rs (tr[i] / 2)=some c→∃ r,c=tr[i] :: r∧There L c∧∀ y ∈ r,∃ j,∃ hj:j < tr.length,j < i∧tr[j]=op y
theorem cut_holds {L:List Cl} {tr:List Nat} {rs:Nat→Option (List Nat)} (T:Trail L tr rs) {N:Nat→Prop} {cut:List Nat}
  (hN:∀ (i:Nat) (h:i < tr.length),N (tr[i] / 2)→tr[i] ∈ cut∨∃ c r,rs (tr[i] / 2)=some c∧c=tr[i] :: r∧∀ y ∈ r,N (y / 2))
  {M:Int→Prop} (hM:Cons M) (hc:∀ l ∈ cut.map wr,M l) (hs:Stable L M):∀ (n i:Nat) (h:i < tr.length),i ≤ n→N (tr[i] / 2)→M (wr tr[i]):=by
 intro n
 induction n with
 | zero=>
  intro i h hi hNi
  rcases hN i h hNi with h1 | ⟨c,r,h1,h2,h3⟩
  ·exact hc _ (List.mem_map.2 ⟨_,h1,rfl⟩)
  ·obtain ⟨r',e,ht,hr⟩:=T.why i h c h1
   rw [h2] at e
   obtain ⟨_,rfl⟩:=List.cons.inj e
   cases r with
   | nil=>
    obtain ⟨d,hd,hd2⟩:=ht
    rcases hs d hd with ⟨l,hl,hm⟩ | ⟨a,ha,b,hb,hab,_⟩
    ·obtain ⟨y,hy,rfl⟩:=(hd2 l).1 hl
     rw [h2] at hy
     obtain rfl:y=tr[i]:=by simpa using hy
     exact hm
    ·obtain ⟨y,hy,rfl⟩:=(hd2 a).1 ha
     obtain ⟨z,hz,rfl⟩:=(hd2 b).1 hb
     rw [h2] at hy hz
     obtain rfl:y=tr[i]:=by simpa using hy
     obtain rfl:z=tr[i]:=by simpa using hz
     exact absurd rfl hab
   | cons y r=>
    obtain ⟨j,hj,hji,_⟩:=hr y (List.mem_cons_self ..)
    omega
 | succ n ih=>
  intro i h hi hNi
  rcases hN i h hNi with h1 | ⟨c,r,h1,h2,h3⟩
  ·exact hc _ (List.mem_map.2 ⟨_,h1,rfl⟩)
  ·obtain ⟨r',e,ht,hr⟩:=T.why i h c h1
   rw [h2] at e
   obtain ⟨_,rfl⟩:=List.cons.inj e
   have fls:∀ y ∈ r,M (-(wr y)):=fun y hy=>by
    obtain ⟨j,hj,hji,e⟩:=hr y hy
    have:=ih j hj (by omega) (by rw [e,op_var];exact h3 y hy)
    rw [e,wr_op] at this
    exact this
   obtain ⟨d,hd,hd2⟩:=ht
   rcases hs d hd with ⟨l,hl,hm⟩ | ⟨a,ha,b,hb,hab,n1,n2⟩
   ·obtain ⟨y,hy,rfl⟩:=(hd2 l).1 hl
    rw [h2] at hy
    rcases List.mem_cons.1 hy with rfl | hy
    ·exact hm
    ·exact absurd (fls y hy) (fun h=>hM _ hm h)
   ·obtain ⟨y,hy,rfl⟩:=(hd2 a).1 ha
    obtain ⟨z,hz,rfl⟩:=(hd2 b).1 hb
    rw [h2] at hy hz
    rcases List.mem_cons.1 hy with e1 | hy
    ·rcases List.mem_cons.1 hz with e2 | hz
     ·rw [e1,e2] at hab;exact absurd rfl hab
     ·exact absurd (fls z hz) n2
    ·exact absurd (fls y hy) n1
theorem learn_conf {L:List Cl} {tr:List Nat} {rs:Nat→Option (List Nat)} (T:Trail L tr rs) {N:Nat→Prop} {cut c0:List Nat}
  (hN:∀ (i:Nat) (h:i < tr.length),N (tr[i] / 2)→tr[i] ∈ cut∨∃ c r,rs (tr[i] / 2)=some c∧c=tr[i] :: r∧∀ y ∈ r,N (y / 2))
  (h0:There L c0) (hf:∀ y ∈ c0,op y ∈ tr) (hn:∀ y ∈ c0,N (y / 2)):Conf L (cut.map wr):=by
 intro M hM hc hs
 have fls:∀ y ∈ c0,M (-(wr y)):=fun y hy=>by
  obtain ⟨i,h,e⟩:=List.mem_iff_getElem.1 (hf y hy)
  have:=cut_holds T hN hM hc hs i i h (Nat.le_refl _) (by rw [e,op_var];exact hn y hy)
  rw [e,wr_op] at this
  exact this
 obtain ⟨d,hd,hd2⟩:=h0
 rcases hs d hd with ⟨l,hl,hm⟩ | ⟨a,ha,b,hb,hab,n1,n2⟩
 ·obtain ⟨y,hy,rfl⟩:=(hd2 l).1 hl
  exact hM _ hm (fls y hy)
 ·obtain ⟨y,hy,rfl⟩:=(hd2 a).1 ha
  exact n1 (fls y hy)
theorem end_conf {L:List Cl} {tr:List Nat} {rs:Nat→Option (List Nat)} (T:Trail L tr rs) (ha:∀ (i:Nat) (h:i < tr.length),∃ c,rs (tr[i] / 2)=some c) {c0:List Nat} (h0:There L c0) (hf:∀ y ∈ c0,op y ∈ tr):Conf L []:=by
 have:=learn_conf (cut:=[]) (N:=fun _=>True) T (fun i h _=>by
  obtain ⟨c,hc⟩:=ha i h
  obtain ⟨r,e,_⟩:=T.why i h c hc
  exact .inr ⟨c,r,hc,e,fun _ _=>trivial⟩) h0 hf (fun _ _=>trivial)
 exact this
end So
end Go.Proofs.YtceahffmenbibaaGreatDoor
