/- Cline Cref9 Cpop Cset Cset2. -/
import Derived.Test.YtceahffmenbibaaGreatDoorG11
import Derived.Test.YtceahffmenbibaaGreatDoorG12
import Derived.Test.YtceahffmenbibaaGreatDoorG01
import Derived.Test.YtceahffmenbibaaGreatDoorG00
import Derived.Laws.Bits64b
import Derived.Shelf.Spec.TrailingZeros
import Derived.Deep.QuietTactic
import Derived.BigQuiet
set_option linter.unusedVariables false
set_option linter.unusedSimpArgs false
namespace Go.Proofs.YtceahffmenbibaaGreatDoor
namespace Rd
open Go
theorem litsF_last (v:Bs):∀ (T:List Bs) (z:Bs),litsF v (T ++ [z])=if zero z && T.all (litB v) then some (T.map litVal) else none
 | [],z=>by
  show litsF v [z]=_
  unfold litsF
  cases zero z <;> rfl
 | t :: r,z=>by
  have ih:=litsF_last v r z
  obtain ⟨a,b,e⟩:∃ a b,r ++ [z]=a :: b:=by cases r <;> exact ⟨_,_,rfl⟩
  have:litsF v ((t :: r) ++ [z])=if litB v t then (litsF v (r ++ [z])).map (litVal t :: ·) else none:=by
   rw [List.cons_append,e];rfl
  rw [this,ih]
  cases h1:litB v t <;> cases h2:zero z <;> cases h3:r.all (litB v) <;> simp [h1,h3]
def litsP (v:Bs):Nat→Bs→Option Cl
 | 0,_=>none
 | f + 1,s=>if s == [48] then some [] else if hasB 32 s && litB v (upto 32 s) then (litsP v f (s.drop ((upto 32 s).length + 1))).map (litVal (upto 32 s) :: ·) else none
theorem hasB_len {c:UInt8} {s:Bs} (h:hasB c s=true):(s.drop ((upto c s).length + 1)).length < s.length:=by
 unfold hasB at h;simp at h;simp;omega
theorem litsP_eq (v:Bs):∀ (f:Nat) (s:Bs),s.length < f→litsP v f s=litsF v (splitR 32 s)
 | 0,s,h=>by omega
 | f + 1,s,h=>by
  unfold litsP
  rw [splitR_upto]
  cases hb:hasB 32 s with
  | true=>
   have ih:=litsP_eq v f (s.drop ((upto 32 s).length + 1)) (by have:=hasB_len hb;omega)
   have h48:(s == [48])=false:=by
    rw [beq_eq_false_iff_ne];intro e;rw [e] at hb;revert hb;decide
   rw [h48,ih]
   obtain ⟨a,b,e⟩:=splitR_ne 32 (s.drop ((upto 32 s).length + 1))
   simp only [Bool.false_eq_true,if_false,if_true,Bool.true_and]
   rw [e]
   rfl
  | false=>
   simp only [Bool.false_and,Bool.false_eq_true,if_false]
   unfold litsF zero
   rfl
def lineP (v:Bs) (l:Bs):Option (Bool × Cl):=
 if Lib.hasPrefix l [100,32] then (litsP v (l.length + 1) (l.drop 2)).map fun c=>(true,c) else (litsP v (l.length + 1) l).map fun c=>(false,c)
theorem prefix_d (l:Bs):Lib.hasPrefix l [100,32]=(hasB 32 l && (upto 32 l == [100])):=by
 unfold Lib.hasPrefix
 match l with
 | []=>rfl
 | [a]=>
  by_cases ha:a=32
  ·subst ha;decide
  ·have e:upto 32 [a]=[a]:=by simp [upto,ha]
   have:hasB 32 [a]=false:=by unfold hasB;rw [e];simp
   rw [this];simp [List.isPrefixOf]
 | a :: b :: r=>
  by_cases ha:a=32
  ·subst ha
   have e:upto 32 (32 :: b :: r)=[]:=by simp [upto]
   rw [e];simp [List.isPrefixOf]
  ·by_cases hb:b=32
   ·subst hb
    have e:upto 32 (a :: 32 :: r)=[a]:=by simp [upto,ha]
    have e2:hasB 32 (a :: 32 :: r)=true:=by unfold hasB;rw [e];simp
    rw [e,e2]
    by_cases h100:a=100
    ·subst h100;simp [List.isPrefixOf]
    ·have:¬ (100:UInt8)=a:=fun e=>h100 e.symm
     have h1:((100:UInt8) == a)=false:=by simpa using this
     have h2:(a == (100:UInt8))=false:=by simpa using h100
     simp [List.isPrefixOf,h1,h2]
   ·have e:upto 32 (a :: b :: r)=a :: b :: upto 32 r:=by simp [upto,ha,hb]
    have:¬ (32:UInt8)=b:=fun e=>hb e.symm
    rw [e];simp [List.isPrefixOf,this]
theorem lineP_eq (v l:Bs):lineP v l=lineB v l:=by
 unfold lineP lineB
 rw [splitB_eq,prefix_d,litsP_eq v _ l (by omega),splitR_upto 32 l]
 cases hb:hasB 32 l with
 | true=>
  simp only [Bool.true_and,if_true,List.head?_cons,List.tail_cons,Option.some.injEq]
  by_cases hu:upto 32 l=[100]
  ·rw [if_pos (by simpa using hu),if_pos hu,litsP_eq v _ (l.drop 2) (by simp;omega),hu]
   rfl
  ·rw [if_neg (by simpa using hu),if_neg hu]
 | false=>
  simp only [Bool.false_and,Bool.false_eq_true,if_false,List.head?_cons,List.tail_cons,Option.some.injEq]
  by_cases hu:l=[100]
  ·rw [if_pos hu];subst hu;rfl
  ·rw [if_neg hu]
theorem dig_cases {c:UInt8} (h:isDig c=true):∃ d,d < 10∧c=UInt8.ofNat (48 + d):=by
 unfold isDig at h
 simp only [Bool.and_eq_true,decide_eq_true_eq] at h
 refine ⟨c.toNat - 48,by omega,?_⟩
 rw [← UInt8.toNat_inj]
 simp;omega
theorem one_dig:∀ V,V < 51→∀ d,d < 10→([UInt8.ofNat (48 + d)] == [48])=false→above [UInt8.ofNat (48 + d)] (Lib.decDigits V)=false→1 ≤ value9 [UInt8.ofNat (48 + d)]∧value9 [UInt8.ofNat (48 + d)] ≤ 50:=by decide +kernel
def two_ok (V d e:Nat):Bool:=!numB [UInt8.ofNat (48 + d),UInt8.ofNat (48 + e)] || above [UInt8.ofNat (48 + d),UInt8.ofNat (48 + e)] (Lib.decDigits V) || (decide (1 ≤ value9 [UInt8.ofNat (48 + d),UInt8.ofNat (48 + e)]) && decide (value9 [UInt8.ofNat (48 + d),UInt8.ofNat (48 + e)] ≤ 50))
theorem two_all:((List.range 51).all fun V=>(List.range 10).all fun d=>(List.range 10).all fun e=>two_ok V d e)=true:=by decide +kernel
theorem two_dig (V:Nat) (hV:V < 51) (d:Nat) (hd:d < 10) (e:Nat) (he:e < 10) (h1:numB [UInt8.ofNat (48 + d),UInt8.ofNat (48 + e)]=true) (h2:above [UInt8.ofNat (48 + d),UInt8.ofNat (48 + e)] (Lib.decDigits V)=false):1 ≤ value9 [UInt8.ofNat (48 + d),UInt8.ofNat (48 + e)]∧value9 [UInt8.ofNat (48 + d),UInt8.ofNat (48 + e)] ≤ 50:=by
 have:=List.all_eq_true.1 (List.all_eq_true.1 (List.all_eq_true.1 two_all V (List.mem_range.2 hV)) d (List.mem_range.2 hd)) e (List.mem_range.2 he)
 unfold two_ok at this
 rw [h1,h2] at this
 simpa using this
theorem dd_len:∀ V,V < 51→(Lib.decDigits V).length ≤ 2:=by decide +kernel
theorem lit_strip {V:Nat} (hV:V ≤ 50) {t:Bs} (h:litB (Lib.decDigits V) t=true):1 ≤ value9 (strip t)∧value9 (strip t) ≤ 50∧(strip t).length ≤ 2:=by
 unfold litB at h
 simp only [Bool.and_eq_true,Bool.not_eq_true'] at h
 obtain ⟨⟨h1,h2⟩,h3⟩:=h
 have hl:=Nat.le_trans (not_above_len h3) (dd_len V (by omega))
 obtain ⟨hd,hne⟩:=numB_parts h1
 generalize strip t=x at *
 match x,hl with
 | [],_=>exact absurd rfl hne
 | [a],_=>
  obtain ⟨d,hd1,rfl⟩:=dig_cases (by simpa using hd)
  obtain ⟨k1,k2⟩:=one_dig V (by omega) d hd1 h2 h3
  exact ⟨k1,k2,by simp⟩
 | [a,b],_=>
  simp only [List.all_cons,List.all_nil,Bool.and_true,Bool.and_eq_true] at hd
  obtain ⟨d,hd1,rfl⟩:=dig_cases hd.1
  obtain ⟨e,he1,rfl⟩:=dig_cases hd.2
  obtain ⟨k1,k2⟩:=two_dig V (by omega) d hd1 e he1 h1 h3
  exact ⟨k1,k2,by simp⟩
 | a :: b :: c :: r,hl=>simp at hl
theorem lit50 {V:Nat} (hV:V ≤ 50) {t:Bs} (h:litB (Lib.decDigits V) t=true):In50 (litVal t):=by
 obtain ⟨h1,h2,_⟩:=lit_strip hV h
 unfold litVal In50
 split
 ·right;omega
 ·left;omega
theorem litsF50 {V:Nat} (hV:V ≤ 50):∀ {T:List Bs} {c:Cl},litsF (Lib.decDigits V) T=some c→∀ l ∈ c,In50 l
 | [],c,h=>by simp [litsF] at h
 | [t],c,h=>by
  unfold litsF at h
  split at h
  ·cases h;intro l hl;simp at hl
  ·cases h
 | t :: b :: r,c,h=>by
  have:litsF (Lib.decDigits V) (t :: b :: r)=if litB (Lib.decDigits V) t then (litsF (Lib.decDigits V) (b :: r)).map (litVal t :: ·) else none:=rfl
  rw [this] at h
  split at h
  ·rename_i hl
   obtain ⟨d,hd,rfl⟩:=Option.map_eq_some_iff.1 h
   intro l hm
   rcases List.mem_cons.1 hm with rfl | hm
   ·exact lit50 hV hl
   ·exact litsF50 hV hd l hm
  ·cases h
theorem lineB50 {V:Nat} (hV:V ≤ 50) {l:Bs} {g:Bool} {c:Cl} (h:lineB (Lib.decDigits V) l=some (g,c)):∀ l ∈ c,In50 l:=by
 unfold lineB at h
 split at h
 ·obtain ⟨d,hd,e⟩:=Option.map_eq_some_iff.1 h
  cases e;exact litsF50 hV hd
 ·obtain ⟨d,hd,e⟩:=Option.map_eq_some_iff.1 h
  cases e;exact litsF50 hV hd
end Rd
end Go.Proofs.YtceahffmenbibaaGreatDoor
namespace Go.Proofs.YtceahffmenbibaaGreatDoor
namespace Rd
open Go Go.RowKit Go.Deep
def one_v (d:Nat):Bool:=(Lib.decDigits d == [UInt8.ofNat (48 + d)]) && decide (value9 [UInt8.ofNat (48 + d)]=(d:Int))
theorem one_v_all:((List.range 10).all one_v)=true:=by decide +kernel
def two_v (d e:Nat):Bool:=!numB [UInt8.ofNat (48 + d),UInt8.ofNat (48 + e)] || above [UInt8.ofNat (48 + d),UInt8.ofNat (48 + e)] [53,48] || ((Lib.decDigits (10 * d + e) == [UInt8.ofNat (48 + d),UInt8.ofNat (48 + e)]) && decide (value9 [UInt8.ofNat (48 + d),UInt8.ofNat (48 + e)]=((10 * d + e:Nat):Int)) && decide (10 * d + e ≤ 50))
theorem two_v_all:((List.range 10).all fun d=>(List.range 10).all fun e=>two_v d e)=true:=by decide +kernel
theorem vars50 {v:Bs} (h:numB v=true) (ha:above v [53,48]=false):∃ V:Nat,V ≤ 50∧v=Lib.decDigits V∧value9 v=(V:Int):=by
 have hl:=not_above_len ha
 obtain ⟨hd,hne⟩:=numB_parts h
 match v,hl with
 | [],_=>exact absurd rfl hne
 | [a],_=>
  obtain ⟨d,hd1,rfl⟩:=dig_cases (by simpa using hd)
  have:=List.all_eq_true.1 one_v_all d (List.mem_range.2 hd1)
  unfold one_v at this
  simp only [Bool.and_eq_true,beq_iff_eq,decide_eq_true_eq] at this
  exact ⟨d,by omega,this.1.symm,this.2⟩
 | [a,b],_=>
  simp only [List.all_cons,List.all_nil,Bool.and_true,Bool.and_eq_true] at hd
  obtain ⟨d,hd1,rfl⟩:=dig_cases hd.1
  obtain ⟨e,he1,rfl⟩:=dig_cases hd.2
  have:=List.all_eq_true.1 (List.all_eq_true.1 two_v_all d (List.mem_range.2 hd1)) e (List.mem_range.2 he1)
  unfold two_v at this
  rw [h,ha] at this
  simp only [Bool.not_true,Bool.false_or,Bool.and_eq_true,beq_iff_eq,decide_eq_true_eq] at this
  exact ⟨10 * d + e,this.2,this.1.1.symm,this.1.2⟩
 | a :: b :: c :: r,hl=>simp at hl
theorem clausesTo_mem (v:Bs) (T:List Bs) (h:okAll v T=true):∀ (st:List (List Int) × List Int),(∀ c ∈ st.1,∀ l ∈ c,∃ t,litB v t=true∧l=litVal t)→(∀ l ∈ st.2,∃ t,litB v t=true∧l=litVal t)→
  (∀ c ∈ (T.foldl clsStep st).1,∀ l ∈ c,∃ t,litB v t=true∧l=litVal t)∧(∀ l ∈ (T.foldl clsStep st).2,∃ t,litB v t=true∧l=litVal t):=by
 induction T with
 | nil=>intro st h1 h2;exact ⟨h1,h2⟩
 | cons t r ih=>
  intro st h1 h2
  simp only [okAll,List.all_cons,Bool.and_eq_true] at h
  refine ih h.2 (clsStep st t) ?_ ?_
  ·intro c hc
   unfold clsStep at hc
   split at hc
   ·rcases List.mem_append.1 hc with hc | hc
    ·exact h1 c hc
    ·simp at hc;rw [hc];exact h2
   ·exact h1 c hc
  ·intro l hl
   unfold clsStep at hl
   split at hl
   ·simp at hl
   ·rename_i hz
    rcases List.mem_append.1 hl with hl | hl
    ·exact h2 l hl
    ·simp at hl
     have:=h.1
     simp only [Bool.not_eq_true] at hz
     rw [hz,Bool.false_or] at this
     exact ⟨t,this,hl⟩
theorem lens_le (T:List Bs):∀ (st:List (List Int) × List Int) (n:Nat),(∀ c ∈ st.1,c.length ≤ n)→st.2.length ≤ n→(∀ c ∈ (T.foldl clsStep st).1,c.length ≤ n + T.length)∧(T.foldl clsStep st).2.length ≤ n + T.length:=by
 induction T with
 | nil=>intro st n h1 h2;exact ⟨h1,h2⟩
 | cons t r ih=>
  intro st n h1 h2
  have key:(∀ c ∈ (clsStep st t).1,c.length ≤ n + 1)∧(clsStep st t).2.length ≤ n + 1:=by
   unfold clsStep
   split
   ·refine ⟨fun c hc=>?_,by simp⟩
    rcases List.mem_append.1 hc with hc | hc
    ·have:=h1 c hc;omega
    ·simp at hc;rw [hc];omega
   ·exact ⟨fun c hc=>by have:=h1 c hc;omega,by simp;omega⟩
  have:=ih (clsStep st t) (n + 1) key.1 key.2
  simp only [List.foldl_cons,List.length_cons]
  exact ⟨fun c hc=>by have:=this.1 c hc;omega,by have:=this.2;omega⟩
theorem toksF_len:∀ (l w:Bs),(toksF w l).length ≤ l.length + 1
 | [],w=>by unfold toksF;split <;> simp
 | c :: r,w=>by
  unfold toksF
  have:=toksF_len r
  split
  ·split
   ·have:=this [];simp;omega
   ·have:=this [];simp;omega
  ·have:=this (w ++ [c]);simp;omega
theorem headF_len:∀ (f:Nat) {l v c r:Bs},headF f l=some (v,c,r)→r.length ≤ l.length
 | 0,l,v,c,r,h=>by simp [headF] at h
 | f + 1,l,v,c,r,h=>by
  unfold headF at h
  split at h
  ·split at h
   ·have:=headF_len f h
    have h2:(rest l).length ≤ l.length:=by unfold rest;simp
    omega
   ·obtain ⟨x,hx,e⟩:=Option.map_eq_some_iff.1 h
    simp only [Prod.mk.injEq] at e
    rw [← e.2.2];unfold rest;simp
  ·cases h
theorem readB_ok {s:Bs} (h:(readB s).2.2=0):∃ V:Nat,V ≤ 50∧(readB s).1=(V:Int)∧(∀ c ∈ (readB s).2.1,∀ l ∈ c,In50 l)∧(readB s).2.1.length ≤ 20001∧∀ c ∈ (readB s).2.1,c.length ≤ 20001:=by
 unfold readB at h ⊢
 split at h
 ·simp at h
 ·rename_i hs
  rw [if_neg hs]
  split at h
  ·simp at h
  ·rename_i v c r hh
   have hv:=headF_num _ hh
   have hr:=headF_len _ hh
   unfold body at h ⊢
   split at h
   ·rename_i ho
    rw [if_pos ho]
    split at h
    ·rename_i hc
     rw [if_pos hc]
     split at h
     ·simp at h
     ·rename_i ha
      rw [if_neg ha]
      simp only [Bool.or_eq_true,not_or,Bool.not_eq_true] at ha
      obtain ⟨V,hV,e1,e2⟩:=vars50 hv ha.1
      have tl:(toks r).length ≤ 20001:=by have:=toksF_len r [];unfold toks;omega
      have cl:=(clausesTo_lens (toks r)).1
      refine ⟨V,hV,e2,?_,Nat.le_trans cl tl,?_⟩
      ·intro d hd l hl
       obtain ⟨t,ht,rfl⟩:=(clausesTo_mem v (toks r) ho ([],[]) (by simp) (by simp)).1 d hd l hl
       rw [e1] at ht
       exact lit50 hV ht
      ·intro d hd
       have:=(lens_le (toks r) ([],[]) 0 (by simp) (by simp)).1 d hd
       omega
    ·simp at h
   ·simp at h
def Checked (s proof:Bs) (res:Int × Int):Prop:=
 if (readB s).2.2=0 then ∃ n f:Nat,res=((n:Int),(f:Int))∧chk (Lib.decDigits (readB s).1.toNat) (readB s).2.1 (splitB 10 proof) 0 (n,f) else res=(0,(readB s).2.2)
theorem checked_inj {s proof:Bs} {a b:Int × Int} (h1:Checked s proof a) (h2:Checked s proof b):a=b:=by
 unfold Checked at h1 h2
 split at h1
 ·rename_i h
  rw [if_pos h] at h2
  obtain ⟨n,f,rfl,c1⟩:=h1
  obtain ⟨n',f',rfl,c2⟩:=h2
  have:=chk_inj _ _ _ _ _ _ c1 c2
  simp only [Prod.mk.injEq] at this
  rw [this.1,this.2]
 ·rename_i h
  rw [if_neg h] at h2
  rw [h1,h2]
end Rd
end Go.Proofs.YtceahffmenbibaaGreatDoor
namespace Go.Proofs.YtceahffmenbibaaGreatDoor
namespace Rd
def pcF:Nat→Nat→Nat
 | 0,_=>0
 | f + 1,x=>x % 2 + pcF f (x / 2)
def pc (x:Nat):Nat:=pcF 64 x
theorem pcF_zero:∀ (f x:Nat),x < 2 ^ f→pcF f x=0→x=0
 | 0,x,h,_=>by simp at h;omega
 | f + 1,x,h,h0=>by
  unfold pcF at h0
  have:=pcF_zero f (x / 2) (by rw [Nat.pow_succ] at h;omega) (by omega)
  omega
theorem pcF_none (f:Nat):pcF f 0=0:=by
 induction f with
 | zero=>rfl
 | succ f ih=>unfold pcF;simpa using ih
theorem testBit_zero' (x:Nat):x.testBit 0=decide (x % 2=1):=by simp [Nat.testBit_zero]
theorem pcF_one:∀ (f x:Nat),x < 2 ^ f→pcF f x=1→∀ i j,x.testBit i=true→x.testBit j=true→i=j
 | 0,x,h,h0=>by simp [pcF] at h0
 | f + 1,x,h,h0=>by
  unfold pcF at h0
  have hx:x / 2 < 2 ^ f:=by rw [Nat.pow_succ] at h;omega
  intro i j hi hj
  rcases Nat.mod_two_eq_zero_or_one x with e | e
  ·have ih:=pcF_one f (x / 2) hx (by omega)
   cases i with
   | zero=>rw [testBit_zero'] at hi;simp at hi;omega
   | succ i=>
    cases j with
    | zero=>rw [testBit_zero'] at hj;simp at hj;omega
    | succ j=>rw [Nat.testBit_succ] at hi hj;rw [ih i j hi hj]
  ·have z:=pcF_zero f (x / 2) hx (by omega)
   cases i with
   | zero=>
    cases j with
    | zero=>rfl
    | succ j=>rw [Nat.testBit_succ,z] at hj;simp at hj
   | succ i=>rw [Nat.testBit_succ,z] at hi;simp at hi
theorem pcF_two:∀ (f x:Nat),x < 2 ^ f→2 ≤ pcF f x→∃ i j,i ≠ j∧x.testBit i=true∧x.testBit j=true
 | 0,x,h,h0=>by simp [pcF] at h0
 | f + 1,x,h,h0=>by
  unfold pcF at h0
  have hx:x / 2 < 2 ^ f:=by rw [Nat.pow_succ] at h;omega
  by_cases h2:2 ≤ pcF f (x / 2)
  ·obtain ⟨i,j,hij,hi,hj⟩:=pcF_two f (x / 2) hx h2
   exact ⟨i + 1,j + 1,by omega,by rw [Nat.testBit_succ];exact hi,by rw [Nat.testBit_succ];exact hj⟩
  ·have e:x % 2=1:=by omega
   have:x / 2 ≠ 0:=by intro z;rw [z,pcF_none] at h0;omega
   obtain ⟨i,hi⟩:=ne_zero_bit.1 this
   exact ⟨0,i + 1,by omega,by rw [testBit_zero'];simpa using e,by rw [Nat.testBit_succ];exact hi⟩
def Key.size (s:Key):Nat:=pc s.1 + pc s.2
theorem size_zero {s:Key} (hs:s.ok) (h:s.size=0):s=(0,0):=by
 unfold Key.size pc at h
 have h1:=pcF_zero 64 s.1 hs.1 (by omega)
 have h2:=pcF_zero 64 s.2 hs.2 (by omega)
 obtain ⟨a,b⟩:=s
 simp only at h1 h2
 rw [h1,h2]
theorem size_of_empty:Key.size (0,0)=0:=by decide
theorem size_one {s:Key} (hs:s.ok) (h:s.size=1):∃ l,IsLit l∧s=single l:=by
 have ne:s ≠ (0,0):=by intro e;rw [e,size_of_empty] at h;cases h
 obtain ⟨l,hl⟩:=(nonempty_iff s).1 ne
 have il:=Key.has_lit hs hl
 refine ⟨l,il,key_ext fun x=>?_⟩
 rw [has_single (isLit_ne il)]
 cases hx:s.has x with
 | false=>
  symm;simp;intro e;rw [e,hl] at hx;cases hx
 | true=>
  symm;simp
  unfold Key.size pc at h
  rcases lit_cases x with rfl | ⟨i,rfl⟩ | ⟨i,rfl⟩
  ·rw [has_zero] at hx;cases hx
  ·rcases lit_cases l with rfl | ⟨j,rfl⟩ | ⟨j,rfl⟩
   ·rw [has_zero] at hl;cases hl
   ·rw [has_pos] at hx hl
    have h2:pcF 64 s.1 ≠ 0:=fun e=>by rw [pcF_zero 64 s.1 hs.1 e] at hx;simp at hx
    rw [pcF_one 64 s.1 hs.1 (by omega) i j hx hl]
   ·rw [has_pos] at hx;rw [has_neg] at hl
    have h2:pcF 64 s.1 ≠ 0:=fun e=>by rw [pcF_zero 64 s.1 hs.1 e] at hx;simp at hx
    have h3:pcF 64 s.2 ≠ 0:=fun e=>by rw [pcF_zero 64 s.2 hs.2 e] at hl;simp at hl
    omega
  ·rcases lit_cases l with rfl | ⟨j,rfl⟩ | ⟨j,rfl⟩
   ·rw [has_zero] at hl;cases hl
   ·rw [has_neg] at hx;rw [has_pos] at hl
    have h2:pcF 64 s.1 ≠ 0:=fun e=>by rw [pcF_zero 64 s.1 hs.1 e] at hl;simp at hl
    have h3:pcF 64 s.2 ≠ 0:=fun e=>by rw [pcF_zero 64 s.2 hs.2 e] at hx;simp at hx
    omega
   ·rw [has_neg] at hx hl
    have h2:pcF 64 s.2 ≠ 0:=fun e=>by rw [pcF_zero 64 s.2 hs.2 e] at hx;simp at hx
    rw [pcF_one 64 s.2 hs.2 (by omega) i j hx hl]
theorem size_two {s:Key} (hs:s.ok) (h:2 ≤ s.size):∃ a b,a ≠ b∧s.has a=true∧s.has b=true:=by
 unfold Key.size pc at h
 by_cases h1:2 ≤ pcF 64 s.1
 ·obtain ⟨i,j,hij,hi,hj⟩:=pcF_two 64 s.1 hs.1 h1
  exact ⟨(i:Int) + 1,(j:Int) + 1,by omega,by rw [has_pos];exact hi,by rw [has_pos];exact hj⟩
 ·by_cases h2:2 ≤ pcF 64 s.2
  ·obtain ⟨i,j,hij,hi,hj⟩:=pcF_two 64 s.2 hs.2 h2
   exact ⟨-((i:Int) + 1),-((j:Int) + 1),by omega,by rw [has_neg];exact hi,by rw [has_neg];exact hj⟩
  ·have e1:s.1 ≠ 0:=fun e=>by rw [e,pcF_none] at h1 h;omega
   have e2:s.2 ≠ 0:=fun e=>by rw [e,pcF_none] at h2 h;omega
   obtain ⟨i,hi⟩:=ne_zero_bit.1 e1
   obtain ⟨j,hj⟩:=ne_zero_bit.1 e2
   exact ⟨(i:Int) + 1,-((j:Int) + 1),by omega,by rw [has_pos];exact hi,by rw [has_neg];exact hj⟩
theorem size_two_wo {s:Key} (hs:s.ok) (h:2 ≤ s.size) {l:Int} (hl:l ≠ 0):s.wo (single l) ≠ (0,0):=by
 obtain ⟨a,b,hab,ha,hb⟩:=size_two hs h
 rw [nonempty_iff]
 by_cases e:a=l
 ·refine ⟨b,?_⟩
  rw [has_wo,hb,has_single hl];simp;intro e';exact hab (by rw [e,e'])
 ·exact ⟨a,by rw [has_wo,ha,has_single hl];simpa using e⟩
theorem and_parts (a y m M:Nat) (ha:a < 256) (hm:m < 256):(a + 256 * y) &&& (m + 256 * M)=(a &&& m) + 256 * (y &&& M):=by
 have hl:(a &&& m) < 2 ^ 8:=Nat.lt_of_le_of_lt Nat.and_le_left ha
 rw [Nat.add_comm a,Nat.add_comm m,Nat.add_comm (a &&& m)]
 refine Nat.eq_of_testBit_eq fun i=>?_
 rw [Nat.testBit_and,show 256=2 ^ 8 from rfl,Nat.testBit_two_pow_mul_add _ ha,Nat.testBit_two_pow_mul_add _ hm,Nat.testBit_two_pow_mul_add _ hl]
 split <;> simp [Nat.testBit_and]
def rep (c:Nat):Nat→Nat
 | 0=>0
 | n + 1=>c + 256 * rep c n
theorem rep_succ (c n:Nat):rep c (n + 1)=c + 256 * rep c n:=rfl
def p1 (n x:Nat):Nat:=(x / 2 &&& rep 85 n) + (x &&& rep 85 n)
def p2 (n x:Nat):Nat:=(p1 n x / 4 &&& rep 51 n) + (p1 n x &&& rep 51 n)
def p3 (n x:Nat):Nat:=(p2 n x / 16 + p2 n x) &&& rep 15 n
def g1 (a:Nat):Nat:=(a / 2 &&& 85) + (a &&& 85)
def g2 (a:Nat):Nat:=(g1 a / 4 &&& 51) + (g1 a &&& 51)
theorem p1_succ (n a y:Nat) (ha:a < 256):p1 (n + 1) (a + 256 * y)=g1 a + 256 * p1 n y:=by
 have e:(a + 256 * y) / 2=(a / 2 + 128 * (y % 2)) + 256 * (y / 2):=by omega
 have k:∀ a,a < 256→∀ b,b < 2→((a / 2 + 128 * b) &&& 85)=(a / 2 &&& 85):=by decide +kernel
 unfold p1 g1
 rw [rep_succ,e,and_parts _ _ _ _ (by omega) (by omega),and_parts _ _ _ _ ha (by omega),k a ha _ (by omega)]
 omega
theorem g1_lt:∀ a,a < 256→g1 a < 256:=by decide +kernel
theorem p2_succ (n a y:Nat) (ha:a < 256):p2 (n + 1) (a + 256 * y)=g2 a + 256 * p2 n y:=by
 have h1:=g1_lt a ha
 have k:∀ a,a < 256→∀ b,b < 4→((a / 4 + 64 * b) &&& 51)=(a / 4 &&& 51):=by decide +kernel
 have e:(g1 a + 256 * p1 n y) / 4=(g1 a / 4 + 64 * (p1 n y % 4)) + 256 * (p1 n y / 4):=by omega
 unfold p2
 rw [p1_succ n a y ha]
 unfold g2
 rw [rep_succ,e,and_parts _ _ _ _ (by omega) (by omega),and_parts _ _ _ _ h1 (by omega),k _ h1 _ (by omega)]
 omega
theorem g2_ok:∀ a,a < 256→g2 a < 256∧g2 a % 16 < 5∧g2 a ≤ 68∧∀ b,b < 5→((g2 a / 16 + 16 * b + g2 a) &&& 15)=pcF 8 a:=by decide +kernel
theorem p2_low (n x:Nat):p2 n x % 16 < 5:=by
 cases n with
 | zero=>unfold p2 rep;simp
 | succ n=>
  have e:x=x % 256 + 256 * (x / 256):=by omega
  rw [e,p2_succ n _ _ (by omega)]
  have:=(g2_ok (x % 256) (by omega)).2.1
  omega
theorem p3_succ (n a y:Nat) (ha:a < 256):p3 (n + 1) (a + 256 * y)=pcF 8 a + 256 * p3 n y:=by
 obtain ⟨h1,h2,h3,h4⟩:=g2_ok a ha
 have hl:=p2_low n y
 have e:(g2 a + 256 * p2 n y) / 16 + (g2 a + 256 * p2 n y)=(g2 a / 16 + 16 * (p2 n y % 16) + g2 a) + 256 * (p2 n y / 16 + p2 n y):=by omega
 unfold p3
 rw [p2_succ n a y ha,e]
 rw [rep_succ,and_parts _ _ _ _ (by omega) (by omega),h4 _ hl]
theorem pcF_bytes (n x:Nat):pcF (n + 8) x=pcF 8 (x % 256) + pcF n (x / 256):=by
 have e:pcF n (x / 2 / 2 / 2 / 2 / 2 / 2 / 2 / 2)=pcF n (x / 256):=by congr 1;omega
 simp only [pcF]
 rw [e]
 omega
theorem pcF8_le (x:Nat):pcF 8 x ≤ 8:=by simp only [pcF];omega
theorem p3_bytes (x:Nat) (h:x < wide):∃ b0 b1 b2 b3 b4 b5 b6 b7:Nat,b0 ≤ 8∧b1 ≤ 8∧b2 ≤ 8∧b3 ≤ 8∧b4 ≤ 8∧b5 ≤ 8∧b6 ≤ 8∧b7 ≤ 8∧
  p3 8 x=b0 + 256 * (b1 + 256 * (b2 + 256 * (b3 + 256 * (b4 + 256 * (b5 + 256 * (b6 + 256 * b7))))))∧pc x=b0 + b1 + b2 + b3 + b4 + b5 + b6 + b7:=by
 unfold wide at h
 have st:∀ n y,p3 (n + 1) y=pcF 8 (y % 256) + 256 * p3 n (y / 256):=fun n y=>by
  conv=>lhs;rw [show y=y % 256 + 256 * (y / 256) by omega]
  exact p3_succ n _ _ (by omega)
 have z:∀ y,p3 0 y=0:=fun y=>by unfold p3 rep;simp
 refine ⟨_,_,_,_,_,_,_,_,pcF8_le (x % 256),pcF8_le (x / 256 % 256),pcF8_le (x / 256 / 256 % 256),pcF8_le (x / 256 / 256 / 256 % 256),pcF8_le (x / 256 / 256 / 256 / 256 % 256),pcF8_le (x / 256 / 256 / 256 / 256 / 256 % 256),pcF8_le (x / 256 / 256 / 256 / 256 / 256 / 256 % 256),pcF8_le (x / 256 / 256 / 256 / 256 / 256 / 256 / 256 % 256),?_,?_⟩
 ·rw [st 7,st 6,st 5,st 4,st 3,st 2,st 1,st 0,z,Nat.mul_zero,Nat.add_zero]
 ·unfold pc
  rw [pcF_bytes 56 x,pcF_bytes 48 (x / 256),pcF_bytes 40 (x / 256 / 256),pcF_bytes 32 (x / 256 / 256 / 256),pcF_bytes 24 (x / 256 / 256 / 256 / 256),pcF_bytes 16 (x / 256 / 256 / 256 / 256 / 256),pcF_bytes 8 (x / 256 / 256 / 256 / 256 / 256 / 256)]
  rw [show x / 256 / 256 / 256 / 256 / 256 / 256 / 256 % 256=x / 256 / 256 / 256 / 256 / 256 / 256 / 256 from Nat.mod_eq_of_lt (by omega)]
  omega
theorem pop_end (x x4 x5 x6:Nat) (h:x < wide) (h4:x4=p3 8 x + p3 8 x / 256) (h5:x5=x4 + x4 / 65536) (h6:x6=x5 + x5 / 4294967296):
  x6 % 128=pc x∧x4 < wide∧x5 < wide∧x6 < 9223372036854775808∧p3 8 x < wide∧pc x ≤ 64:=by
 obtain ⟨b0,b1,b2,b3,b4,b5,b6,b7,c0,c1,c2,c3,c4,c5,c6,c7,e,ep⟩:=p3_bytes x h
 have e4:x4=(b0 + b1) + 256 * ((b1 + b2) + 256 * ((b2 + b3) + 256 * ((b3 + b4) + 256 * ((b4 + b5) + 256 * ((b5 + b6) + 256 * ((b6 + b7) + 256 * b7)))))):=by rw [h4,e];omega
 have e5:x5=(b0 + b1 + b2 + b3) + 256 * ((b1 + b2 + b3 + b4) + 256 * ((b2 + b3 + b4 + b5) + 256 * ((b3 + b4 + b5 + b6) + 256 * ((b4 + b5 + b6 + b7) + 256 * ((b5 + b6 + b7) + 256 * ((b6 + b7) + 256 * b7)))))):=by rw [h5,e4];omega
 obtain ⟨lo,hlo⟩:∃ lo,lo=(b0 + b1 + b2 + b3) + 256 * ((b1 + b2 + b3 + b4) + 256 * ((b2 + b3 + b4 + b5) + 256 * (b3 + b4 + b5 + b6))):=⟨_,rfl⟩
 obtain ⟨hi,hhi⟩:∃ hi,hi=(b4 + b5 + b6 + b7) + 256 * ((b5 + b6 + b7) + 256 * ((b6 + b7) + 256 * b7)):=⟨_,rfl⟩
 have e5':x5=lo + 4294967296 * hi:=by rw [e5,hlo,hhi];clear e e4 h4 h5 h6 e5 hlo hhi;omega
 have hl:lo < 4294967296:=by rw [hlo];clear e e4 h4 h5 h6 e5 hlo hhi e5';omega
 have ed:x5 / 4294967296=hi:=by rw [e5'];clear e e4 h4 h5 h6 e5 hlo hhi e5';omega
 have e6:x6=lo + hi + 4294967296 * hi:=by rw [h6,ed,e5'];clear e e4 h4 h5 h6 e5 hlo hhi e5' hl ed;omega
 have e7:lo + hi=(b0 + b1 + b2 + b3 + b4 + b5 + b6 + b7) + 256 * ((b1 + b2 + b3 + b4 + b5 + b6 + b7) + 256 * ((b2 + b3 + b4 + b5 + b6 + b7) + 256 * (b3 + b4 + b5 + b6 + b7))):=by rw [hlo,hhi];clear e e4 h4 h5 h6 e5 hlo hhi e5' hl ed e6;omega
 have hh:hi < 268435456:=by rw [hhi];clear e e4 h4 h5 h6 e5 hlo hhi e5' hl ed e6 e7;omega
 unfold wide
 refine ⟨?_,?_,?_,?_,?_,?_⟩
 ·rw [e6,e7,ep];clear e e4 h4 h5 h6 e5 hlo hhi e5' hl ed e6 e7 ep;omega
 ·rw [e4];clear e e4 h4 h5 h6 e5 hlo hhi e5' hl ed e6 e7 ep;omega
 ·rw [e5'];clear e e4 h4 h5 h6 e5 hlo hhi e5' ed e6 e7 ep;omega
 ·rw [e6,e7];clear e e4 h4 h5 h6 e5 hlo hhi e5' hl ed e6 e7 ep;omega
 ·rw [e];clear e e4 h4 h5 h6 e5 hlo hhi e5' hl ed e6 e7 ep;omega
 ·rw [ep];clear e e4 h4 h5 h6 e5 hlo hhi e5' hl ed e6 e7 ep;omega
end Rd
end Go.Proofs.YtceahffmenbibaaGreatDoor
namespace Go.Proofs.YtceahffmenbibaaGreatDoor
namespace Rd
open Go Go.RowKit
def keyV (s:Key):Value:=.agg #[.int .u64 (s.1:Int),.int .u64 (s.2:Int)]
theorem below3 {B:Nat} {a w:World} (h:Below B a w) (hB:B ≤ w.heap.size) (o1 o2 o3:Obj):Below B a (((w.alloc o1).alloc o2).alloc o3):=
 ((h.alloc hB o1).alloc (by simp;omega) o2).alloc (by simp;omega) o3
theorem below2 {B:Nat} {a w:World} (h:Below B a w) (hB:B ≤ w.heap.size) (o1 o2:Obj):Below B a ((w.alloc o1).alloc o2):=
 (h.alloc hB o1).alloc (by simp;omega) o2
theorem bits_andNot_nat (a b:Nat) (ha:a < wide) (hb:b < wide):bits .andNot .u64 (a:Int) (b:Int)=((andNot a b:Nat):Int):=by
 unfold wide at ha hb
 have h1:(BitVec.ofInt 64 (a:Int)).toNat=a:=by
  rw [BitVec.ofInt_natCast,BitVec.toNat_ofNat];exact Nat.mod_eq_of_lt (by omega)
 have h2:(BitVec.ofInt 64 (b:Int)).toNat=b:=by
  rw [BitVec.ofInt_natCast,BitVec.toNat_ofNat];exact Nat.mod_eq_of_lt (by omega)
 have e:(BitVec.ofInt 64 (a:Int) &&& ~~~ BitVec.ofInt 64 (b:Int)).toNat=andNot a b:=by
  refine Nat.eq_of_testBit_eq fun i=>?_
  rw [testBit_andNot,BitVec.testBit_toNat,BitVec.getLsbD_and,BitVec.getLsbD_not,← BitVec.testBit_toNat,← BitVec.testBit_toNat,h1,h2]
  by_cases hi:i < 64
  ·simp [hi]
  ·have:a.testBit i=false:=Nat.testBit_lt_two_pow (Nat.lt_of_lt_of_le (show a < 2 ^ 64 from ha) (Nat.pow_le_pow_right (n:=2) (by decide) (show 64 ≤ i by omega)))
   simp [this]
 show IntKind.u64.wrap ((BitVec.ofInt 64 (a:Int) &&& ~~~ BitVec.ofInt 64 (b:Int)).toNat:Int)=_
 have hl:=andNot_lt (a:=a) (b:=b) ha
 unfold wide at hl
 rw [e,IntKind.wrap_u64]
 omega
theorem union_any (s t:Key) (w:World) (hs:s.ok) (ht:t.ok):
  Calls Tryz.prog 75 #[keyV s,keyV t] w fun e w'=>e=.returned (keyV (s.un t))∧Below w.heap.size w w':=by
 unfold keyV Key.un
 rw [← bits_or_u64_nat s.1 t.1 hs.1 ht.1,← bits_or_u64_nat s.2 t.2 hs.2 ht.2]
 go_enter Tryz.func75,Tryz.ntmps75
 go_wp2
 exact bodyPost_ret (v:=.agg #[.int .u64 (bits .or .u64 s.1 t.1),.int .u64 (bits .or .u64 s.2 t.2)]) (by simp [results,Tryz.results75,go_sem]) rfl ⟨rfl,below3 (Below.refl _ _) (Nat.le_refl _) _ _ _⟩
theorem without_any (s t:Key) (w:World) (hs:s.ok) (ht:t.ok):
  Calls Tryz.prog 114 #[keyV s,keyV t] w fun e w'=>e=.returned (keyV (s.wo t))∧Below w.heap.size w w':=by
 unfold keyV Key.wo
 rw [← bits_andNot_nat s.1 t.1 hs.1 ht.1,← bits_andNot_nat s.2 t.2 hs.2 ht.2]
 go_enter Tryz.func114,Tryz.ntmps114
 go_wp2
 exact bodyPost_ret (v:=.agg #[.int .u64 (bits .andNot .u64 s.1 t.1),.int .u64 (bits .andNot .u64 s.2 t.2)]) (by simp [results,Tryz.results114,go_sem]) rfl ⟨rfl,below3 (Below.refl _ _) (Nat.le_refl _) _ _ _⟩
theorem opposites_any (s:Key) (w:World):
  Calls Tryz.prog 118 #[keyV s] w fun e w'=>e=.returned (keyV s.op)∧Below w.heap.size w w':=by
 unfold keyV Key.op
 go_enter Tryz.func118,Tryz.ntmps118
 go_wp2
 exact bodyPost_ret (v:=.agg #[.int .u64 (s.2:Int),.int .u64 (s.1:Int)]) (by simp [results,Tryz.results118,go_sem]) rfl ⟨rfl,below2 (Below.refl _ _) (Nat.le_refl _) _ _⟩
def emptyB (s:Key):Bool:=decide (s=(0,0))
theorem emptyB_iff (s:Key):(((s.1 ||| s.2:Nat):Int) == 0)=emptyB s:=by
 unfold emptyB
 rw [Bool.eq_iff_iff]
 simp only [beq_iff_eq,decide_eq_true_eq]
 rw [← empty_iff];omega
theorem isEmpty_any (s:Key) (w:World) (hs:s.ok):
  Calls Tryz.prog 74 #[keyV s] w fun e w'=>e=.returned (.bool (emptyB s))∧Below w.heap.size w w':=by
 rw [← emptyB_iff,← bits_or_u64_nat s.1 s.2 hs.1 hs.2]
 unfold keyV
 go_enter Tryz.func74,Tryz.ntmps74
 go_wp2
 go_ret
 exact ⟨rfl,(Below.refl _ _).alloc (Nat.le_refl _) _⟩
def meetB (s t:Key):Bool:=(s.1 &&& t.1) ||| (s.2 &&& t.2) != 0
theorem meetB_iff (s t:Key):meetB s t=true↔∃ l,s.has l=true∧t.has l=true:=by
 rw [← meets_iff];unfold meetB;simp
theorem meets_any (s t:Key) (w:World) (hs:s.ok) (ht:t.ok):
  Calls Tryz.prog 168 #[keyV s,keyV t] w fun e w'=>e=.returned (.bool (meetB s t))∧Below w.heap.size w w':=by
 have e:meetB s t=(bits .or .u64 (bits .and .u64 s.1 t.1) (bits .and .u64 s.2 t.2) != 0):=by
  rw [bits_and_u64_nat s.1 t.1 hs.1 ht.1,bits_and_u64_nat s.2 t.2 hs.2 ht.2,bits_or_u64_nat _ _ (Nat.lt_of_le_of_lt Nat.and_le_left hs.1) (Nat.lt_of_le_of_lt Nat.and_le_left hs.2)]
  unfold meetB
  rw [Bool.eq_iff_iff];simp only [bne_iff_ne,ne_eq];omega
 rw [e]
 unfold keyV
 go_enter Tryz.func168,Tryz.ntmps168
 go_wp2
 go_ret
 exact ⟨rfl,below2 (Below.refl _ _) (Nat.le_refl _) _ _⟩
def clashB (s:Key):Bool:=s.1 &&& s.2 != 0
theorem clashB_iff (s:Key):clashB s=true↔∃ l,s.has l=true∧s.has (-l)=true:=by
 rw [← clash_iff];unfold clashB;simp
theorem clashes_any (s:Key) (w:World) (hs:s.ok):
  Calls Tryz.prog 166 #[keyV s] w fun e w'=>e=.returned (.bool (clashB s))∧Below w.heap.size w w':=by
 have e:clashB s=(bits .and .u64 s.1 s.2 != 0):=by
  rw [bits_and_u64_nat s.1 s.2 hs.1 hs.2]
  unfold clashB
  rw [Bool.eq_iff_iff];simp only [bne_iff_ne,ne_eq];omega
 rw [e]
 unfold keyV
 go_enter Tryz.func166,Tryz.ntmps166
 go_wp2
 go_ret
 exact ⟨rfl,(Below.refl _ _).alloc (Nat.le_refl _) _⟩
end Rd
end Go.Proofs.YtceahffmenbibaaGreatDoor
namespace Go.Proofs.YtceahffmenbibaaGreatDoor
namespace Rd
open Go Go.RowKit
theorem low_key {x:Nat} (h0:x ≠ 0) (h:x < wide):bits .and .u64 (x:Int) (IntKind.u64.wrap (-(x:Int)))=((2 ^ Lib.ctz 64 x:Nat):Int):=by
 have e1:IntKind.u64.wrap (-(x:Int))=((18446744073709551616 - x:Nat):Int):=by unfold wide at h;rw [IntKind.wrap_u64];omega
 rw [e1,bits_and_u64_nat x _ h (by omega)]
 congr 1
 exact (Lib.lowest_bit 64 x h0 h).1
set_option maxHeartbeats 1000000 in
theorem one_lo (x c:Int) (w:World) (hx:(x == 0)=true) (y:Int) (k:bits .and .u64 y (IntKind.u64.wrap (-y))=c):
  Calls Tryz.prog 158 #[.agg #[.int .u64 x,.int .u64 y]] w fun e w'=>e=.returned (.agg #[.int .u64 0,.int .u64 c])∧Below w.heap.size w w':=by
 have hx':(x != 0)=false:=by simpa using hx
 clear hx
 go_enter Tryz.func158,Tryz.ntmps158
 go_wp2
 exact bodyPost_ret (v:=.agg #[.int .u64 0,.int .u64 c]) (by simp [results,Tryz.results158,go_sem,k]) rfl ⟨rfl,below2 (Below.refl _ _) (Nat.le_refl _) _ _⟩
set_option maxHeartbeats 1000000 in
theorem one_hi (x c:Int) (w:World) (hx:(x != 0)=true) (y:Int) (k:bits .and .u64 x (IntKind.u64.wrap (-x))=c):
  Calls Tryz.prog 158 #[.agg #[.int .u64 x,.int .u64 y]] w fun e w'=>e=.returned (.agg #[.int .u64 c,.int .u64 0])∧Below w.heap.size w w':=by
 go_enter Tryz.func158,Tryz.ntmps158
 go_wp2
 exact bodyPost_ret (v:=.agg #[.int .u64 c,.int .u64 0]) (by simp [results,Tryz.results158,go_sem,k]) rfl ⟨rfl,below2 (Below.refl _ _) (Nat.le_refl _) _ _⟩
theorem one_any (s:Key) (w:World) (hs:s.ok) (h0:s ≠ (0,0)):
  Calls Tryz.prog 158 #[keyV s] w fun e w'=>e=.returned (keyV s.one)∧Below w.heap.size w w':=by
 unfold Key.one
 by_cases h:s.1=0
 ·have h2:s.2 ≠ 0:=by
   intro e;apply h0;obtain ⟨a,b⟩:=s;simp only at h e;rw [h,e]
  rw [if_neg (by simpa using h)]
  exact one_lo _ _ w (by rw [h];rfl) _ (low_key h2 hs.2)
 ·rw [if_pos h]
  exact one_hi _ _ w (by simpa using h) _ (low_key h hs.1)
set_option maxHeartbeats 1000000 in
theorem tz_core (x k idx:Nat) (w:World) (hx0:((x:Int) == 0)=false)
  (key:IntKind.u64.wrap (bits BinOp.and IntKind.u64 (x:Int) (IntKind.u64.wrap (-(x:Int))) * 285870213051353865) / 288230376151711744=(idx:Int))
  (hi:idx < 64) (hk:k < 64) (hcell:w.cell? ⟨5,idx,none⟩=some (.int .u8 k)):
  Calls Tryz.prog 228 #[.int .u64 x] w fun e w'=>e=.returned (.int .i64 k)∧w=w':=by
 go_enter Tryz.func228,Tryz.ntmps228
 go_wp2_with (simp only [key])
 go_ret
 exact ⟨rfl,rfl⟩
theorem tz_any (x:Nat) (w:World) (hx:x < wide) (h0:x ≠ 0) (hT:TabAt 5 Lib.deBruijn64tab w):
  Calls Tryz.prog 228 #[.int .u64 x] w fun e w'=>e=.returned (.int .i64 (Lib.ctz 64 x))∧w=w':=by
 obtain ⟨hlow,hk⟩:=Lib.lowest_bit 64 x h0 hx
 obtain ⟨hi,htab⟩:=Lib.deBruijn64_at _ hk
 have hcell:=hT _ hi
 rw [htab] at hcell
 exact tz_core x _ _ w (by simp;omega) (tz64_key x _ hx h0 hlow) hi hk hcell
set_option maxHeartbeats 1000000 in
theorem ones_core (x y1 y2 y3 y4 y5 y6 y7:Int) (w:World)
  (k1:IntKind.u64.wrap (bits .and .u64 (x / 2) 6148914691236517205 + bits .and .u64 x 6148914691236517205)=y1)
  (k2:IntKind.u64.wrap (bits .and .u64 (y1 / 4) 3689348814741910323 + bits .and .u64 y1 3689348814741910323)=y2)
  (k3:bits .and .u64 (IntKind.u64.wrap (y2 / 16 + y2)) 1085102592571150095=y3)
  (k4:IntKind.u64.wrap (y3 + y3 / 256)=y4) (k5:IntKind.u64.wrap (y4 + y4 / 65536)=y5) (k6:IntKind.u64.wrap (y5 + y5 / 4294967296)=y6)
  (k7:bits .and .i64 (wrap64 y6) 127=y7):
  Calls Tryz.prog 160 #[.int .u64 x] w fun e w'=>e=.returned (.int .i64 y7)∧w=w':=by
 go_enter Tryz.func160,Tryz.ntmps160
 go_wp2_with (simp only [k1,k2,k3,k4,k5,k6,k7])
 go_ret
 exact ⟨rfl,rfl⟩
theorem wraps_i64' (n:Int) (h0:0 ≤ n) (h1:n < 2 ^ 63):IntKind.i64.wrap n=n:=by
 have h2:n < 9223372036854775808:=h1
 rw [IntKind.wrap_i64];omega
theorem mask127 (z:Nat) (h:z < 9223372036854775808):bits .and .i64 (z:Int) 127=((z % 128:Nat):Int):=by
 have:=(bits_nat .i64 63 (by decide) wraps_i64' z 127 h (by decide)).1
 rw [show ((127:Nat):Int)=127 from rfl] at this
 rw [this]
 congr 1
 exact Nat.and_two_pow_sub_one_eq_mod z 7
theorem ones_any (x:Nat) (w:World) (hx:x < wide):
  Calls Tryz.prog 160 #[.int .u64 x] w fun e w'=>e=.returned (.int .i64 (pc x))∧w=w':=by
 obtain ⟨z4,h4⟩:∃ z,z=p3 8 x + p3 8 x / 256:=⟨_,rfl⟩
 obtain ⟨z5,h5⟩:∃ z,z=z4 + z4 / 65536:=⟨_,rfl⟩
 obtain ⟨z6,h6⟩:∃ z,z=z5 + z5 / 4294967296:=⟨_,rfl⟩
 obtain ⟨e7,b4,b5,b6,b3,_⟩:=pop_end x z4 z5 z6 hx h4 h5 h6
 have l1:p1 8 x ≤ 12297829382473034410:=by
  have h1:(x / 2 &&& rep 85 8) ≤ rep 85 8:=Nat.and_le_right
  have h2:(x &&& rep 85 8) ≤ rep 85 8:=Nat.and_le_right
  have h3:rep 85 8=6148914691236517205:=by decide
  unfold p1;omega
 have l2:p2 8 x ≤ 7378697629483820646:=by
  have h1:(p1 8 x / 4 &&& rep 51 8) ≤ rep 51 8:=Nat.and_le_right
  have h2:(p1 8 x &&& rep 51 8) ≤ rep 51 8:=Nat.and_le_right
  have h3:rep 51 8=3689348814741910323:=by decide
  unfold p2;omega
 unfold wide at *
 refine ones_core x (p1 8 x:Nat) (p2 8 x:Nat) (p3 8 x:Nat) (z4:Nat) (z5:Nat) (z6:Nat) (pc x:Nat) w ?_ ?_ ?_ ?_ ?_ ?_ ?_
 ·rw [show (x:Int) / 2=((x / 2:Nat):Int) by omega,show (6148914691236517205:Int)=((6148914691236517205:Nat):Int) from rfl,bits_and_u64_nat _ _ (by omega) (by omega),bits_and_u64_nat _ _ hx (by omega),IntKind.wrap_u64]
  have:p1 8 x=(x / 2 &&& 6148914691236517205) + (x &&& 6148914691236517205):=rfl
  omega
 ·rw [show ((p1 8 x:Nat):Int) / 4=((p1 8 x / 4:Nat):Int) by omega,show (3689348814741910323:Int)=((3689348814741910323:Nat):Int) from rfl,bits_and_u64_nat _ _ (by omega) (by omega),bits_and_u64_nat _ _ (by omega) (by omega),IntKind.wrap_u64]
  have:p2 8 x=(p1 8 x / 4 &&& 3689348814741910323) + (p1 8 x &&& 3689348814741910323):=rfl
  omega
 ·have e:IntKind.u64.wrap (((p2 8 x:Nat):Int) / 16 + (p2 8 x:Nat))=((p2 8 x / 16 + p2 8 x:Nat):Int):=by rw [IntKind.wrap_u64];omega
  rw [e,show (1085102592571150095:Int)=((1085102592571150095:Nat):Int) from rfl,bits_and_u64_nat _ _ (by omega) (by omega)]
  rfl
 ·rw [IntKind.wrap_u64];omega
 ·rw [IntKind.wrap_u64];omega
 ·rw [IntKind.wrap_u64];omega
 ·rw [← e7]
  have hw:wrap64 (z6:Int)=(z6:Int):=by unfold wrap64;omega
  rw [hw,mask127 z6 b6]
theorem bel_drewN'' {B:Nat} {a w:World} (h:Below B a w) (n:Nat):Below B a (w.drewN n):=h.trans ⟨rfl,rfl,rfl,Nat.le_refl _,fun _ _=>rfl⟩
theorem ones_any' (x:Nat) (w:World) (hx:x < wide):
  Calls Tryz.prog 160 #[.int .u64 x] w fun e w'=>e=.returned (.int .i64 (pc x))∧w'=w:=
 (ones_any x w hx).mono fun e w' h=>⟨h.1,h.2.symm⟩
set_option maxHeartbeats 1000000 in
set_option maxRecDepth 100000 in
theorem size_any (s:Key) (w:World) (hs:s.ok):
  Calls Tryz.prog 110 #[keyV s] w fun e w'=>e=.returned (.int .i64 (s.size:Nat))∧Below w.heap.size w w':=by
 have h1:pc s.1 ≤ 64:=(pop_end s.1 _ _ _ hs.1 rfl rfl rfl).2.2.2.2.2
 have h2:pc s.2 ≤ 64:=(pop_end s.2 _ _ _ hs.2 rfl rfl rfl).2.2.2.2.2
 obtain ⟨o1,o2⟩:=hs
 obtain ⟨a,b⟩:=s
 have q1:=fun w=>ones_any' a w o1
 have q2:=fun w=>ones_any' b w o2
 simp only at h1 h2
 unfold keyV Key.size
 simp only
 generalize pc a=pa at *
 generalize pc b=pb at *
 clear o1 o2
 go_enter Tryz.func110,Tryz.ntmps110
 go_wp2
 generalize hW:w.alloc (Obj.cells #[Value.int IntKind.u64 (a:Int),Value.int IntKind.u64 (b:Int)] 84)=W
 have c0:W.cell? ⟨w.heap.size,0,none⟩=some (.int .u64 (a:Int)):=by rw [← hW];simp
 have c1:W.cell? ⟨w.heap.size,1,none⟩=some (.int .u64 (b:Int)):=by rw [← hW];simp
 have HW:=hide hW
 clear hW
 go_quiet ((go_at_call 160;first | with_reducible exact Calls.quiet_of_same (q1 _) | with_reducible exact Calls.quiet_of_same (q2 _)))
 go_wp2
 go_ret
 refine ⟨?_,?_⟩
 ·show Ending.returned (.int .i64 ((pa:Int) + (pb:Int)))=_
  rw [← Int.natCast_add]
 ·refine bel_drewN'' ?_ _
  rw [← unhide HW]
  exact (Below.refl _ _).alloc (Nat.le_refl _) _
theorem tab_alloc {g:Nat} {tab:List Nat} {w:World} (h:TabAt g tab w) (o:Obj):TabAt g tab (w.alloc o):=by
 intro j hj
 have:=h j hj
 rw [← this]
 exact ((Below.refl w.heap.size w).alloc (Nat.le_refl _) o).cell (p:=⟨g,j,none⟩) (block_lt_of_cell this)
theorem ctz_pow (k:Nat) (hk:k < 64):Lib.ctz 64 (2 ^ k)=k:=by
 have h0:2 ^ k ≠ 0:=Nat.ne_of_gt (Nat.two_pow_pos k)
 have h1:2 ^ k < wide:=show 2 ^ k < 2 ^ 64 from Nat.pow_lt_pow_right (by decide) hk
 have:=(low_bit h0 h1).1
 rw [Nat.testBit_two_pow] at this
 simpa using (of_decide_eq_true this).symm
set_option maxHeartbeats 1000000 in
set_option maxRecDepth 100000 in
theorem place_hi (a b:Nat) (w:World) (ha:a < wide) (h0:((a:Int) != 0)=true) (k:Nat) (hk:k < 64) (e:Lib.ctz 64 a=k) (hT:TabAt 5 Lib.deBruijn64tab w):
  Calls Tryz.prog 199 #[.agg #[.int .u64 (a:Int),.int .u64 (b:Int)]] w fun e w'=>e=.returned (.int .i64 k)∧Below w.heap.size w w':=by
 have hn:a ≠ 0:=by intro e;subst e;simp at h0
 have q1:=fun o=>tz_any a (w.alloc o) ha hn (tab_alloc hT o)
 rw [e] at q1
 clear hT hn ha e
 go_enter Tryz.func199,Tryz.ntmps199
 go_wp2_with fail
 refine (q1 _).mono ?_
 rintro e1 w1 ⟨rfl,rfl⟩
 go_wp2
 go_ret
 exact ⟨rfl,(Below.refl _ _).alloc (Nat.le_refl _) _⟩
set_option maxHeartbeats 1000000 in
set_option maxRecDepth 100000 in
theorem place_lo (a b:Nat) (w:World) (hb:b < wide) (h0:((a:Int) != 0)=false) (hb0:b ≠ 0) (k:Nat) (hk:k < 64) (e:Lib.ctz 64 b=k) (hT:TabAt 5 Lib.deBruijn64tab w):
  Calls Tryz.prog 199 #[.agg #[.int .u64 (a:Int),.int .u64 (b:Int)]] w fun e w'=>e=.returned (.int .i64 (64 + k:Nat))∧Below w.heap.size w w':=by
 have q1:=fun o=>tz_any b (w.alloc o) hb hb0 (tab_alloc hT o)
 rw [e] at q1
 clear hT hb0 hb e
 go_enter Tryz.func199,Tryz.ntmps199
 go_wp2_with fail
 refine (q1 _).mono ?_
 rintro e1 w1 ⟨rfl,rfl⟩
 go_wp2
 go_ret
 exact ⟨by show Ending.returned (.int .i64 (64 + (k:Int)))=_;rw [Int.natCast_add];rfl,(Below.refl _ _).alloc (Nat.le_refl _) _⟩
theorem place_any (l:Int) (w:World) (hl:IsLit l) (hT:TabAt 5 Lib.deBruijn64tab w):
  Calls Tryz.prog 199 #[keyV (single l)] w fun e w'=>e=.returned (.int .i64 (place l:Nat))∧Below w.heap.size w w':=by
 unfold keyV single place
 rcases hl with h | h
 ·rw [if_neg (by omega),if_pos (by omega)]
  have hp:2 ^ (l.toNat - 1) ≠ 0:=Nat.ne_of_gt (Nat.two_pow_pos _)
  exact place_hi _ _ w (show _ < 2 ^ 64 from Nat.pow_lt_pow_right (by decide) (by omega)) (by rw [bne_iff_ne];exact_mod_cast hp) _ (by omega) (ctz_pow _ (by omega)) hT
 ·rw [if_pos (by omega),if_neg (by omega)]
  exact place_lo _ _ w (show _ < 2 ^ 64 from Nat.pow_lt_pow_right (by decide) (by omega)) rfl (Nat.ne_of_gt (Nat.two_pow_pos _)) _ (by omega) (ctz_pow _ (by omega)) hT
set_option maxHeartbeats 1000000 in
theorem single_any (l:Int) (w:World) (hl:IsLit l):
  Calls Tryz.prog 73 #[.int .i64 l] w fun e w'=>e=.returned (keyV (single l))∧Below w.heap.size w w':=by
 unfold keyV single
 rcases hl with h | h
 ·obtain ⟨k,rfl⟩:∃ k:Nat,l=(k:Int) + 1:=⟨(l - 1).toNat,by omega⟩
  have hp:2 ^ k < 18446744073709551616:=show 2 ^ k < 2 ^ 64 from Nat.pow_lt_pow_right (by decide) (by omega)
  have e:IntKind.u64.wrap (2 ^ k)=((2 ^ k:Nat):Int):=by
   rw [IntKind.wrap_u64,show (2:Int) ^ k=((2 ^ k:Nat):Int) by simp];generalize 2 ^ k=z at hp ⊢;omega
  rw [if_neg (by omega),show ((k:Int) + 1).toNat - 1=k by omega,← e]
  clear e hp
  go_enter Tryz.func73,Tryz.ntmps73
  go_wp2
  exact bodyPost_ret (v:=.agg #[.int .u64 (IntKind.u64.wrap (2 ^ k)),.int .u64 0]) (by simp [results,Tryz.results73,go_sem]) rfl ⟨rfl,(Below.refl _ _).alloc (Nat.le_refl _) _⟩
 ·obtain ⟨k,rfl⟩:∃ k:Nat,l=-((k:Int) + 1):=⟨(-l - 1).toNat,by omega⟩
  have hp:2 ^ k < 18446744073709551616:=show 2 ^ k < 2 ^ 64 from Nat.pow_lt_pow_right (by decide) (by omega)
  have e:IntKind.u64.wrap (2 ^ k)=((2 ^ k:Nat):Int):=by
   rw [IntKind.wrap_u64,show (2:Int) ^ k=((2 ^ k:Nat):Int) by simp];generalize 2 ^ k=z at hp ⊢;omega
  rw [if_pos (by omega),show (-(-((k:Int) + 1))).toNat - 1=k by omega,← e]
  clear e hp
  go_enter Tryz.func73,Tryz.ntmps73
  go_wp2
  exact bodyPost_ret (v:=.agg #[.int .u64 0,.int .u64 (IntKind.u64.wrap (2 ^ k))]) (by simp [results,Tryz.results73,go_sem]) rfl ⟨rfl,(Below.refl _ _).alloc (Nat.le_refl _) _⟩
end Rd
end Go.Proofs.YtceahffmenbibaaGreatDoor
