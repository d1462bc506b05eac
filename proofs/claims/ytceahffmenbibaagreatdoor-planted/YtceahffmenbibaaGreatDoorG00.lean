/- Rspec Cspec Rnum Rcls Rtok Rprog1 Rref3 Rmem Rmem2 Rref5 Cref2. -/
import Derived.Lib.ItoaNum
import Derived.Lib.Strings
import Derived.Lib.IndexMore
import Derived.Test.YtceahffmenbibaaGreatDoorChecked
import Derived.WalkKit
import Derived.WalkLawsBesides
import Derived.WalkSpells
import Derived.Below
import Derived.Lib.Atoi
import Derived.Lib.FieldsP
import Derived.Laws.RangeAny
import Derived.Laws.RangeString
import Derived.Maps.AppendAt
import Derived.Deep.QuietTactic
import Derived.BigQuiet
import Derived.Deep.OwnRows
import Derived.Outline
set_option linter.unusedVariables false
set_option linter.unusedSimpArgs false
set_option maxHeartbeats 1000000
namespace Go.Proofs.YtceahffmenbibaaGreatDoor
namespace Rd
abbrev Bs:Type:=List UInt8
def ny (c:UInt8):Bool:=decide (48 <= c.toNat) && decide (c.toNat <= 57)
def dN (l:Bs):Bool:=l.all ny && (l.length == 1 || (decide (1 < l.length) && !(l.head? == some 48)))
def gap (c:UInt8):Bool:=c == 32 || c == 9 || c == 10
def dU:Bs->Bs->List Bs
 | w,[]=>if w.isEmpty then [] else [w]
 | w,c :: r=>if gap c then (if w.isEmpty then dU [] r else w :: dU [] r) else dU (w ++ [c]) r
def toks (l:Bs):List Bs:=dU [] l
def kD (st:List Bs × Bs) (c:UInt8):List Bs × Bs:=if gap c then (if st.2.isEmpty then st.1 else st.1 ++ [st.2],[]) else (st.1,st.2 ++ [c])
def kU (l:Bs):List Bs × Bs:=l.foldl kD ([],[])
theorem Cm (l:Bs) (c:UInt8):kU (l ++ [c])=kD (kU l) c:=by
 unfold kU;rw [List.foldl_append];rfl
def close (st:List Bs × Bs):List Bs:=if st.2.isEmpty then st.1 else st.1 ++ [st.2]
theorem mh:∀ (l:Bs) (acc:List Bs) (w:Bs),close (l.foldl kD (acc,w))=acc ++ dU w l
 | [],acc,w=>by
  simp only [List.foldl_nil,close,dU];cases w <;> simp
 | c :: r,acc,w=>by
  simp only [List.foldl_cons,dU,kD]
  cases hg:gap c with
  | true=>
   cases hw:w.isEmpty with
   | true=>simp only [if_true];rw [mh r]
   | false=>simp only [if_true,Bool.false_eq_true,if_false];rw [mh r];simp
  | false=>simp only [Bool.false_eq_true,if_false];rw [mh r]
theorem RO (l:Bs):close (kU l)=toks l:=by
 have:=mh l [] [];simpa [kU,toks] using this
def Ah (c:UInt8) (l:Bs):List Bs × Bs:=l.foldl (fun st x=>if x == c then (st.1 ++ [st.2],[]) else (st.1,st.2 ++ [x])) ([],[])
def splitB (c:UInt8) (l:Bs):List Bs:=(Ah c l).1 ++ [(Ah c l).2]
def UH (l:Bs):Int:=l.foldl (fun n c=>10 * n + ((c.toNat:Int) - 48)) 0
def dM (l:Bs):Int:=UH (l.take 9)
def line (l:Bs):Bs:=l.takeWhile (fun c=>!(c == 10))
def rest (l:Bs):Bs:=l.drop ((line l).length + 1)
def ended (l:Bs):Bool:=decide ((line l).length < l.length)
def comment (l:Bs):Bool:=l == [99] || Lib.hasPrefix l [99,32]
def qY (l:Bs):Option (Bs × Bs):=
 match splitB 32 l with
 | [a,b,v,c]=>if a == [112] && b == [99,110,102] && dN v && dN c then some (v,c) else none
 | _=>none
def lT:Nat->Bs->Option (Bs × Bs × Bs)
 | 0,_=>none
 | f + 1,l=>if ended l then (if comment (line l) then lT f (rest l) else (qY (line l)).map fun x=>(x.1,x.2,rest l)) else none
def above (a b:Bs):Bool:=if a.length=b.length then !Op.bytesLess a b && !(a == b) else decide (b.length < a.length)
def strip (t:Bs):Bs:=if t.head? = some 45 then t.tail else t
def jf (v t:Bs):Bool:=dN (strip t) && !(strip t == [48]) && !above (strip t) v
def zero (t:Bs):Bool:=t == [48]
def iG (v:Bs) (T:List Bs):Bool:=T.all fun t=>zero t || jf v t
def dJ (t:Bs):Int:=if t.head? = some 45 then -(dM (strip t)) else dM (strip t)
def bQ (T:List Bs):List (List Int) × List Int:=T.foldl (fun st t=>if zero t then (st.1 ++ [st.2],[]) else (st.1,st.2 ++ [dJ t])) ([],[])
theorem xD (T:List Bs) (t:Bs):bQ (T ++ [t])=if zero t then ((bQ T).1 ++ [(bQ T).2],[]) else ((bQ T).1,(bQ T).2 ++ [dJ t]):=by
 unfold bQ;rw [List.foldl_append];rfl
def zeros (T:List Bs):Nat:=(T.filter zero).length
def lits (T:List Bs):Nat:=(T.filter fun t=>!zero t).length
def body (v c:Bs) (T:List Bs):Int × List (List Int) × Int:=
 if iG v T then
  (if (bQ T).2.isEmpty && Lib.decDigits (bQ T).1.length == c then
   (if above v [53,48] || decide (700 < lits T) then (0,[],1) else (dM v,(bQ T).1,0))
   else (0,[],2))
 else (0,[],2)
def iQ (s:Bs):Int × List (List Int) × Int:=
 if 20000 < s.length then (0,[],1)
 else match lT (s.length + 1) s with
  | none=>(0,[],2)
  | some (v,c,r)=>body v c (toks r)
abbrev Cl:Type:=List Int
def Cons (M:Int->Prop):Prop:=∀ l,M l->M (-l)->False
def Met (M:Int->Prop) (c:Cl):Prop:=∃ l ∈ c,M l
def Two (M:Int->Prop) (c:Cl):Prop:=∃ a ∈ c,∃ b ∈ c,a ≠ b/\¬ M (-a)/\¬ M (-b)
def Stable (L:List Cl) (M:Int->Prop):Prop:=∀ c ∈ L,Met M c\/Two M c
def nJ (L:List Cl) (ls:List Int):Prop:=∀ M,Cons M->(∀ l ∈ ls,M l)->¬ Stable L M
def IE (c:Cl) (but:Int):List Int:=(c.filter fun l=>!(l == but)).map fun l=>-l
def bH (L:List Cl) (c:Cl):Prop:=nJ L (IE c 0)\/∃ l r,c=l :: r/\∀ D ∈ L,-l ∈ D->nJ L (IE c 0 ++ IE D (-l))
def fK (a b:Cl):Bool:=a.all (fun l=>b.contains l) && b.all (fun l=>a.contains l)
def rem:List Cl->Cl->Option (List Cl)
 | [],_=>none
 | d :: r,c=>if fK d c then some r else (rem r c).map (d :: ·)
section
open Go Go.RowKit
theorem hide {p:Prop} (h:p):Hid p:=h
theorem gV {p:Prop} (h:Hid p):p:=h.out
theorem bZ {a b:Bool} (h:a=b):Ending.returned (.bool a)=.returned (.bool b):=by rw [h]
theorem JC (s:ByteArray) (k:Nat) (h:k < s.size):s.data.toList.take (k + 1)=s.data.toList.take k ++ [s[k]]:=by
 rw [List.take_succ_eq_append_getElem (by simpa using h)];rfl
theorem Cq (s:ByteArray) {k:Nat} (h:¬ k < s.size):s.data.toList.take k=s.data.toList:=List.take_of_length_le (by simpa using h)
def yI (s:ByteArray) (k:Nat):Prop:=(s.data.toList.take k).all ny=true
theorem zU {s:ByteArray} {k:Nat} (h:yI s k) (hk:k < s.size) (h1:48 <= (s[k].toNat:Int)) (h2:(s[k].toNat:Int) <= 57):yI s (k + 1):=by
 unfold yI at *
 rw [JC s k hk,List.all_append,h];simp [ny];omega
theorem rf {s:ByteArray} {k:Nat} (hk:k < s.size) (h:(s[k].toNat:Int) < 48\/57 < (s[k].toNat:Int)):dN s.data.toList=false:=by
 have hm:s[k] ∈ s.data.toList:=by simp [ByteArray.getElem_eq_getElem_data]
 have:s.data.toList.all ny=false:=by
  rw [Bool.eq_false_iff];intro ha;have:=List.all_eq_true.1 ha _ hm;simp [ny] at this;omega
 simp [dN,this]
theorem NJ {s:ByteArray} (h:yI s s.size) (h1:s.size=1):dN s.data.toList=true:=by
 unfold yI at h;rw [Cq s (by omega)] at h
 have:s.data.toList.length=1:=by simpa using h1
 simp [dN,h,this]
theorem Kc {s:ByteArray} (h1:s.size=0):dN s.data.toList=false:=by
 have:s.data.toList=[]:=List.eq_nil_of_length_eq_zero (by simpa using h1)
 simp [dN,this]
theorem Kg {s:ByteArray} (h:yI s s.size) (h1:1 < s.size):dN s.data.toList=((s[0].toNat:Int) != 48):=by
 unfold yI at h;rw [Cq s (by omega)] at h
 have hl:s.data.toList.length=s.size:=by simp
 have hh:s.data.toList.head? = some s[0]:=by
  rw [List.head?_eq_getElem?,List.getElem?_eq_getElem (by omega)];rfl
 have e:(s[0] == 48)=((s[0].toNat:Int) == 48):=by
  rw [Bool.eq_iff_iff];simp [<- UInt8.toNat_inj];omega
 have h2:(s.size == 1)=false:=by simp;omega
 rw [dN,h,hl,hh,h2];simp [h1,bne,e]
theorem Yd (a b:ByteArray) (w:World) (ha:a.size <= maxLen) (hb:b.size <= maxLen):
  Calls Tryz.prog 82 #[.string a,.string b] w fun e w'=>e=.returned (.bool (above a.data.toList b.data.toList))/\w'=w:=by
 unfold maxLen at ha hb;by_cases h:a.size=b.size
 ·have hq:((a.size:Int) != (b.size:Int))=false:=by simp [h]
  have E:Hid (above a.data.toList b.data.toList=(!Op.bytesLess a.toList b.toList && !(a.toList == b.toList))):=by
   unfold Hid above;rw [if_pos (by simpa using h),ByteArray.toList_eq,ByteArray.toList_eq]
  clear h;go_enter Tryz.func82,Tryz.ntmps82
  go_wp2;go_ret
  exact ⟨bZ (by rw [E.out]),rfl⟩
 ·have hq:((a.size:Int) != (b.size:Int))=true:=by simp;omega
  have E:Hid (above a.data.toList b.data.toList=decide (b.size < a.size)):=by
   unfold Hid above;rw [if_neg (by simpa using h)]
   simp
  go_enter Tryz.func82,Tryz.ntmps82
  go_wp2;go_ret
  exact ⟨bZ (by rw [E.out]),rfl⟩
theorem uC (a b:ByteArray) (w:World) (ha:a.size <= maxLen) (hb:b.size <= maxLen):
  Calls Tryz.prog 35 #[.string a,.string b] w fun e w'=>e=.returned (.bool (above a.data.toList b.data.toList))/\w'=w:=by
 unfold maxLen at ha hb;by_cases h:a.size=b.size
 ·have hq:((a.size:Int) != (b.size:Int))=false:=by simp [h]
  have E:Hid (above a.data.toList b.data.toList=(!Op.bytesLess a.toList b.toList && !(a.toList == b.toList))):=by
   unfold Hid above;rw [if_pos (by simpa using h),ByteArray.toList_eq,ByteArray.toList_eq]
  clear h;go_enter Tryz.func35,Tryz.ntmps35
  go_wp2;go_ret
  exact ⟨bZ (by rw [E.out]),rfl⟩
 ·have hq:((a.size:Int) != (b.size:Int))=true:=by simp;omega
  have E:Hid (above a.data.toList b.data.toList=decide (b.size < a.size)):=by
   unfold Hid above;rw [if_neg (by simpa using h)]
   simp
  go_enter Tryz.func35,Tryz.ntmps35
  go_wp2;go_ret
  exact ⟨bZ (by rw [E.out]),rfl⟩
end
section
open Go
def nz (t:Bs):Bool:=!zero t
def cls:Nat->List Bs->List (List Int)
 | 0,_=>[]
 | c + 1,T=>((T.takeWhile nz).map dJ) :: cls c (T.drop ((T.takeWhile nz).length + 1))
theorem qF:∀ (c:Nat) (T:List Bs),(cls c T).length=c
 | 0,_=>rfl
 | c + 1,T=>by simp [cls,qF c]
def bM (st:List (List Int) × List Int) (t:Bs):List (List Int) × List Int:=if zero t then (st.1 ++ [st.2],[]) else (st.1,st.2 ++ [dJ t])
theorem jV (T:List Bs):bQ T=T.foldl bM ([],[]):=rfl
theorem Bq:∀ (A:List Bs) (st:List (List Int) × List Int),(∀ t ∈ A,zero t=false)->A.foldl bM st=(st.1,st.2 ++ A.map dJ)
 | [],st,_=>by simp
 | a :: A,st,h=>by
  simp only [List.foldl_cons];rw [Bq A _ (fun t ht=>h t (by simp [ht]))]
  simp [bM,h a (by simp)]
theorem fold_acc:∀ (R:List Bs) (acc:List (List Int)) (cur:List Int),R.foldl bM (acc,cur)=(acc ++ (R.foldl bM ([],cur)).1,(R.foldl bM ([],cur)).2)
 | [],acc,cur=>by simp
 | t :: R,acc,cur=>by
  simp only [List.foldl_cons];by_cases h:zero t=true
  ·simp only [bM,h,if_true];rw [fold_acc R (acc ++ [cur]),fold_acc R ([] ++ [cur])];simp
  ·have h':zero t=false:=by simpa using h
   simp only [bM,h',Bool.false_eq_true,if_false];rw [fold_acc R acc]
theorem mg (t:Bs) (T:List Bs):zeros (t :: T)=(if zero t then 1 else 0) + zeros T:=by
 unfold zeros;cases h:zero t <;> simp [h];omega
theorem EI {T:List Bs} (h:0 < zeros T):∃ R,T=T.takeWhile nz ++ [48] :: R/\T.drop ((T.takeWhile nz).length + 1)=R/\zeros R + 1=zeros T/\(∀ t ∈ T.takeWhile nz,zero t=false):=by
 induction T with
 | nil=>simp [zeros] at h
 | cons t T ih=>
  by_cases hz:zero t=true
  ·refine ⟨T,?_⟩;have ht:t=[48]:=by simpa [zero] using hz
   subst ht;simp [nz,hz,mg];omega
  ·have hz':zero t=false:=by simpa using hz
   rw [mg,hz'] at h;obtain ⟨R,h1,h2,h3,h4⟩:=ih (by simpa using h)
   refine ⟨R,?_,?_,?_,?_⟩
   ·simp only [List.takeWhile_cons,nz,hz',Bool.not_false,if_true,List.cons_append];exact congrArg (t :: ·) h1
   ·simp only [List.takeWhile_cons,nz,hz',Bool.not_false,if_true,List.length_cons,List.drop_succ_cons];exact h2
   ·rw [mg,hz',h3];simp
   ·intro x hx;simp only [List.takeWhile_cons,nz,hz',Bool.not_false,if_true,List.mem_cons] at hx
    rcases hx with rfl | hx
    ·exact hz'
    ·exact h4 x hx
theorem Hw:∀ (c:Nat) (T:List Bs),zeros T=c->(bQ T).1=cls c T
 | 0,T,h=>by
  have h':∀ t ∈ T,zero t=false:=by
   intro t ht;have:=List.filter_eq_nil_iff.1 (List.eq_nil_of_length_eq_zero h) t ht;simpa using this
  rw [jV,Bq T _ h'];rfl
 | c + 1,T,h=>by
  obtain ⟨R,h1,h2,h3,h4⟩:=EI (T:=T) (by omega)
  have ih:=Hw c R (by omega)
  rw [cls,h2,<- ih]
  conv=>lhs;rw [h1]
  rw [jV,List.foldl_append,Bq _ _ h4,List.foldl_cons];rw [show bM ([],[] ++ List.map dJ (List.takeWhile nz T)) [48]=([List.map dJ (List.takeWhile nz T)],[]) from rfl]
  rw [fold_acc];rfl
theorem tu (T:List Bs):(bQ T).1.length=zeros T:=by rw [Hw _ T rfl,qF]
theorem ND (T:List Bs):(bQ T).2.isEmpty=(T.isEmpty || T.getLast? == some [48]):=by
 by_cases h:T=[]
 ·subst h;rfl
 ·rw [<- List.dropLast_concat_getLast h,xD];have hl:(T.dropLast ++ [T.getLast h]).getLast? = some (T.getLast h):=by simp
  rw [hl];have he:(T.dropLast ++ [T.getLast h]).isEmpty=false:=by simp
  rw [he];by_cases hz:zero (T.getLast h)=true
  ·rw [if_pos hz];simpa [zero] using hz
  ·rw [if_neg hz];have:(T.getLast h == [48])=false:=by simpa [zero] using hz
   simp [this]
theorem xz:∀ (l:Bs) (acc:Nat),l.all ny=true->∃ n:Nat,Lib.decFrom acc l=some n/\(n:Int)=l.foldl (fun n c=>10 * n + ((c.toNat:Int) - 48)) (acc:Int)
 | [],acc,_=>⟨acc,rfl,rfl⟩
 | c :: r,acc,h=>by
  rw [List.all_cons,Bool.and_eq_true] at h;have hc:=h.1;simp [ny] at hc;obtain ⟨n,h1,h2⟩:=xz r (acc * 10 + (c.toNat - 48)) h.2;refine ⟨n,?_,?_⟩
  ·unfold Lib.decFrom Lib.digitVal;rw [if_pos hc];exact h1
  ·rw [h2,List.foldl_cons]
   congr 1
   omega
theorem jO {t:Bs} (h:dN t=true):t.all ny=true/\t ≠ []:=by
 unfold dN at h;simp only [Bool.and_eq_true] at h;refine ⟨h.1,fun e=>?_⟩
 subst e;simp at h
theorem xy {t:Bs} (h:dN t=true) (hl:t.length <= 9):∃ n:Nat,Lib.decNat t=some n/\(n:Int)=dM t:=by
 obtain ⟨h1,h2⟩:=jO h;obtain ⟨n,e1,e2⟩:=xz t 0 h1;refine ⟨n,?_,?_⟩
 ·unfold Lib.decNat;rw [if_neg (by simpa using h2)];exact e1
 ·rw [e2];unfold dM UH;rw [List.take_of_length_le hl];rfl
theorem Fe {t:Bs} (h:dN t=true) (hl:t.length <= 9):Lib.atoi t=some (dM t):=by
 obtain ⟨n,e1,e2⟩:=xy h hl;obtain ⟨h1,h2⟩:=jO h
 cases t with
 | nil=>exact absurd rfl h2
 | cons c r=>
  rw [List.all_cons,Bool.and_eq_true] at h1;have hc:=h1.1;simp [ny] at hc;have n45:(c == 45)=false:=by
   rw [beq_eq_false_iff_ne];intro e;subst e;simp at hc
  have n43:(c == 43)=false:=by
   rw [beq_eq_false_iff_ne];intro e;subst e;simp at hc
  simp only [Lib.atoi,n45,n43,e1,<- e2];rfl
theorem P9 {v t:Bs} (h:jf v t=true) (hl:(strip t).length <= 9):Lib.atoi t=some (dJ t):=by
 unfold jf at h;simp only [Bool.and_eq_true] at h;have hn:=h.1.1;unfold dJ;by_cases h45:t.head? = some 45
 ·have hs:strip t=t.tail:=by unfold strip;rw [if_pos h45]
  cases t with
  | nil=>simp at h45
  | cons c r=>
   simp at h45;subst h45;rw [if_pos (show (45 :: r:Bs).head? = some 45 from rfl)]
   rw [hs] at hn hl ⊢;obtain ⟨n,e1,e2⟩:=xy hn hl;simp only [List.tail_cons] at e1 e2 ⊢;simp only [Lib.atoi,e1,<- e2];rfl
 ·have hs:strip t=t:=by unfold strip;rw [if_neg h45]
  rw [if_neg h45,hs];rw [hs] at hn hl;exact Fe hn hl
theorem iN {a b:Bs} (h:above a b=false):a.length <= b.length:=by
 unfold above at h;split at h
 ·omega
 ·simp at h;omega
theorem Wo {l:Bs} (h:l.head? = some 99):∃ r,line l=99 :: r:=by
 cases l with
 | nil=>simp at h
 | cons c r=>
  simp at h;subst h;exact ⟨line r,by simp [line]⟩
theorem Ku {l:Bs} {r:Bs} (h:line l=99 :: r):l.head? = some 99:=by
 cases l with
 | nil=>simp [line] at h
 | cons c t=>
  unfold line at h;rw [List.takeWhile_cons] at h;split at h
  ·simp at h;simp [h.1]
  ·simp at h
end
section
open Go
def iB (r:Nat):Bool:=r == 32 || r == 9 || r == 10
theorem Ei {s:ByteArray} {i:Nat} (h:i < s.size):s.get! i=s[i]:=by
 show s.data[i]! = s.data[i]
 exact getElem!_pos s.data i h
theorem EH (s:ByteArray) (pos:Nat) (h:pos < s.size) (ha:128 <= (s[pos]'h).toNat):
  ∀ k,k < (Utf8.decode s pos).2->∃ D9:pos + k < s.size,128 <= (s[pos + k]'D9).toNat:=by
 intro k hk;by_cases hk0:k=0
 ·subst hk0;exact ⟨h,ha⟩
 have hb0:¬ (s.get! (pos + 0)).toNat < 128:=by rw [Nat.add_zero,Ei h];omega
 have key:∀ j,(decide (pos + j < s.size) && (s.get! (pos + j)).toNat / 64 == 2)=true->∃ D9:pos + j < s.size,128 <= (s[pos + j]'D9).toNat:=fun j hj=>by
  simp only [Bool.and_eq_true,decide_eq_true_eq,beq_iff_eq] at hj;refine ⟨hj.1,?_⟩;have:=hj.2;rw [Ei hj.1] at this;omega
 unfold Utf8.decode at hk;simp only [hb0,if_false] at hk;split at hk
 ·rename_i hc;simp only [Bool.and_eq_true] at hc;split at hk
  ·simp only at hk;have:k=1:=by omega
   subst this;exact key 1 (by simpa using hc.2)
  ·simp only at hk;omega
 ·split at hk
  ·rename_i hc;simp only [Bool.and_eq_true] at hc;split at hk
   ·simp only at hk;have:k=1\/k=2:=by omega
    rcases this with rfl | rfl
    ·exact key 1 (by simpa using hc.1.2)
    ·exact key 2 (by simpa using hc.2)
   ·simp only at hk;omega
  ·split at hk
   ·rename_i hc;simp only [Bool.and_eq_true] at hc;split at hk
    ·simp only at hk;have:k=1\/k=2\/k=3:=by omega
     rcases this with rfl | rfl | rfl
     ·exact key 1 (by simpa using hc.1.1.2)
     ·exact key 2 (by simpa using hc.1.2)
     ·exact key 3 (by simpa using hc.2)
    ·simp only at hk;omega
   ·simp only at hk;omega
theorem Ep:∀ (r:Bs) (st:List Bs × Bs),(∀ c ∈ r,gap c=false)->r.foldl kD st=(st.1,st.2 ++ r)
 | [],st,_=>by simp
 | c :: r,st,h=>by
  have hc:=h c (by simp)
  simp only [List.foldl_cons];rw [Ep r _ (fun x hx=>h x (by simp [hx]))]
  simp [kD,hc]
theorem Gb (a b:Bs):kU (a ++ b)=b.foldl kD (kU a):=by unfold kU;rw [List.foldl_append]
def sub (L:Bs) (a b:Nat):Bs:=(L.take b).drop a
theorem qO (L:Bs) {a b:Nat} (h:a <= b):L.take b=L.take a ++ sub L a b:=by
 unfold sub
 conv=>lhs;rw [<- List.take_append_drop a (L.take b)]
 rw [List.take_take,Nat.min_eq_left h]
theorem RU (L:Bs) {a b c:Nat} (h:a <= b) (D9:b <= c):sub L a b ++ sub L b c=sub L a c:=by
 have e1:=qO L (a:=a) (b:=c) (by omega)
 have e2:=qO L h;have e3:=qO L D9;rw [e3,e2,List.append_assoc] at e1;exact List.append_cancel_left e1
def Inv (s:ByteArray) (pos:Nat) (st:Option Nat) (acc:List (Nat × Nat)):Prop:=
 kU (s.data.toList.take pos)=(acc.map fun x=>sub s.data.toList x.1 x.2,match st with | none=>[] | some a=>sub s.data.toList a pos)/\(∀ a,st=some a->a < pos)/\pos <= s.size
theorem MM {s:ByteArray} {a pos:Nat} (h:a < pos) (hp:pos <= s.size):(sub s.data.toList a pos).isEmpty=false:=by
 rw [Bool.eq_false_iff];intro D9;have:=congrArg List.length (List.isEmpty_iff.1 D9);simp [sub] at this;omega
theorem RQ {s:ByteArray} {a b:Nat} {c:UInt8} (h:c ∈ sub s.data.toList a b):∃ k,∃ D9:a + k < s.size,a + k < b/\c=s[a + k]'D9:=by
 unfold sub at h;obtain ⟨i,hi,e⟩:=List.getElem_of_mem h;simp at hi;refine ⟨i,by omega,by omega,?_⟩
 rw [<- e];simp [ByteArray.getElem_eq_getElem_data]
def ZU (st:Option Nat) (acc:List (Nat × Nat)) (pos:Nat):List (Nat × Nat):=
 match st with | some a=>acc ++ [(a,pos)] | none=>acc
def stR (st:Option Nat) (pos:Nat):Option Nat:=
 match st with | some a=>some a | none=>some pos
theorem TS {s:ByteArray} {pos:Nat} {st:Option Nat} {acc:List (Nat × Nat)} (h:Inv s pos st acc) (hp:pos < s.size) (hg:gap s[pos]=true):
  Inv s (pos + 1) none (ZU st acc pos):=by
 obtain ⟨h1,h2,h3⟩:=h;have ht:s.data.toList.take (pos + 1)=s.data.toList.take pos ++ [s[pos]]:=by
  rw [List.take_succ_eq_append_getElem (by simpa using hp)];rfl
 refine ⟨?_,(fun a h=>by cases h),by omega⟩
 rw [ht,Cm,h1];unfold kD;rw [hg,if_pos rfl]
 cases st with
 | none=>rfl
 | some a=>
  simp only;rw [MM (h2 a rfl) h3];simp [ZU]
theorem TR {s:ByteArray} {pos wd:Nat} {st:Option Nat} {acc:List (Nat × Nat)} (h:Inv s pos st acc) (hw:1 <= wd) (hall:∀ k,k < wd->∃ D9:pos + k < s.size,gap (s[pos + k]'D9)=false):
  Inv s (pos + wd) (stR st pos) acc:=by
 obtain ⟨h1,h2,h3⟩:=h;obtain ⟨hl,_⟩:=hall (wd - 1) (by omega)
 refine ⟨?_,?_,by omega⟩
 ·rw [qO s.data.toList (a:=pos) (b:=pos + wd) (by omega),Gb,h1,Ep]
  ·cases st with
   | none=>rfl
   | some a=>simp only;rw [RU _ (Nat.le_of_lt (h2 a rfl)) (by omega)];rfl
  ·intro c hc;obtain ⟨k,hk,hlt,rfl⟩:=RQ hc;exact (hall k (by omega)).2
 ·cases st with
  | none=>intro a h;cases h;omega
  | some a=>intro a' h;cases h;have:=h2 a rfl;omega
theorem O5 (s:ByteArray) (pos:Nat) (h:pos < s.size):iB (Utf8.decode s pos).1=gap s[pos]:=by
 by_cases ha:(s[pos]'h).toNat < 128
 ·rw [decode_ascii s pos h ha];unfold iB gap;rw [Bool.eq_iff_iff];simp [<- UInt8.toNat_inj]
 ·have h1:=(decode_high s pos h (by omega)).1
  unfold iB gap;rw [Bool.eq_iff_iff];simp [<- UInt8.toNat_inj];omega
theorem lQ (s:ByteArray):∀ (f pos:Nat) (st:Option Nat) (acc:List (Nat × Nat)),s.size <= pos + f->Inv s pos st acc->
  Inv s s.size (Lib.spansFromP iB s f pos st acc).2 (Lib.spansFromP iB s f pos st acc).1
 | 0,pos,st,acc,hf,hi=>by
  have:pos=s.size:=by have:=hi.2.2;omega
  subst this;exact hi
 | f + 1,pos,st,acc,hf,hi=>by
  unfold Lib.spansFromP;by_cases hp:pos < s.size
  ·rw [if_pos hp,O5 s pos hp]
   cases hg:gap s[pos] with
   | true=>
    have ha:(s[pos]'hp).toNat < 128:=by
     simp [gap,<- UInt8.toNat_inj] at hg;omega
    have hi':=TS hi hp hg;rw [decode_ascii s pos hp ha]
    cases st with
    | none=>simp only [if_true];exact lQ s f _ _ _ (by omega) hi'
    | some a=>simp only [if_true];exact lQ s f _ _ _ (by omega) hi'
   | false=>
    have hw:1 <= (Utf8.decode s pos).2:=by
     by_cases ha:(s[pos]'hp).toNat < 128
     ·rw [decode_ascii s pos hp ha];simp
     ·exact (decode_high s pos hp (by omega)).2
    have hall:∀ k,k < (Utf8.decode s pos).2->∃ D9:pos + k < s.size,gap (s[pos + k]'D9)=false:=by
     intro k hk;by_cases ha:(s[pos]'hp).toNat < 128
     ·rw [decode_ascii s pos hp ha] at hk;simp only at hk;have:k=0:=by omega
      subst this;exact ⟨hp,hg⟩
     ·obtain ⟨D9,h2⟩:=EH s pos hp (by omega) k hk
      refine ⟨D9,?_⟩;rw [Bool.eq_false_iff];intro hx;simp [gap,<- UInt8.toNat_inj] at hx;omega
    have hi':=TR hi hw hall
    cases st with
    | none=>simp only [Bool.false_eq_true,if_false];exact lQ s f _ _ _ (by omega) hi'
    | some a=>simp only [Bool.false_eq_true,if_false];exact lQ s f _ _ _ (by omega) hi'
  ·rw [if_neg hp];have:pos=s.size:=by have:=hi.2.2;omega
   subst this;exact hi
theorem Et (s:ByteArray):(Lib.goFieldsP iB s).map (fun x=>x.data.toList)=toks s.data.toList:=by
 have h:=lQ s s.size 0 none [] (by omega) ⟨by simp [kU],(fun a h=>by cases h),by omega⟩
 obtain ⟨h1,h2,_⟩:=h;rw [List.take_of_length_le (by simp)] at h1
 rw [<- RO,h1];unfold Lib.goFieldsP Lib.spansOfP Lib.closeSpans close;have hs:∀ a b,List.take (b - a) (List.drop a s.data.toList)=sub s.data.toList a b:=fun a b=>by
  rw [sub,List.drop_take]
 cases hst:(Lib.spansFromP iB s s.size 0 none []).2 with
 | none=>simp [List.map_map,Function.comp_def,hs]
 | some a=>
  have hne:=MM (s:=s) (h2 a hst) (Nat.le_refl _);simp only [hne];simp [List.map_map,Function.comp_def,hs]
theorem MJ (l:Bs):(toks l).length <= l.length/\∀ t ∈ toks l,t.length <= l.length:=by
 suffices h:∀ (l w:Bs),(dU w l).length <= l.length + w.length/\∀ t ∈ dU w l,t.length <= l.length + w.length by
  have:=h l [];simpa [toks] using this
 intro l
 induction l with
 | nil=>intro w;unfold dU;cases w <;> simp
 | cons c r ih=>
  intro w;unfold dU;split
  ·split
   ·have:=ih [];simp at this ⊢;exact ⟨by omega,fun t ht=>by have:=this.2 t ht;omega⟩
   ·rename_i hw;have:=ih [];have hw':1 <= w.length:=by cases w <;> simp at hw ⊢
    simp at this ⊢;exact ⟨by omega,fun t ht=>by have:=this.2 t ht;omega⟩
  ·have:=ih (w ++ [c]);simp at this ⊢;exact ⟨by omega,fun t ht=>by have:=this.2 t ht;omega⟩
end
section
open Go Go.RowKit
theorem GN {s:ByteArray} (h:s.size=0):s.toList.isEmpty=true:=by
 rw [ByteArray.toList_eq];have:s.data.toList=[]:=List.eq_nil_of_length_eq_zero (by simpa using h)
 rw [this];rfl
theorem uz {s:ByteArray} (h:¬ s.size=0):s.toList.isEmpty=false:=by
 rw [ByteArray.toList_eq,Bool.eq_false_iff];intro h';have:=List.isEmpty_iff.1 h';apply h;have e:=congrArg List.length this;simpa using e
def lead (s:ByteArray):Prop:=∃ h:0 < s.size,s.size=1\/¬ ((s[0].toNat:Int)=48)
theorem zC {s:ByteArray} (h:yI s s.size) (hl:lead s):dN s.data.toList=true:=by
 obtain ⟨h0,h1⟩:=hl;by_cases e:s.size=1
 ·exact NJ h e
 ·rw [Kg h (by omega)]
  simp
  rcases h1 with h1 | h1
  ·exact absurd h1 e
  ·omega
theorem Rp {s:ByteArray} (h:(!s.toList == [48])=false):s.size=1:=by
 simp [ByteArray.toList_eq] at h;have e:=congrArg List.length h;simpa using e
theorem Dm {s:ByteArray} (h0:0 < s.size) (hz:((s[0].toNat:Int) == 48)=true) (h:(!s.toList == [48])=true):dN s.data.toList=false:=by
 have hh:s.data.toList.head? = some s[0]:=by
  rw [List.head?_eq_getElem?,List.getElem?_eq_getElem (by simpa using h0)];rfl
 have e0:s[0]=48:=by
  rw [<- UInt8.toNat_inj];simp at hz ⊢;omega
 rw [e0] at hh;have hl:s.data.toList.length=s.size:=by simp
 have hne:s.size ≠ 1:=by
  intro e1;rw [e1] at hl;obtain ⟨c,hc⟩:=List.length_eq_one_iff.1 hl;rw [hc] at hh;simp at hh;simp [ByteArray.toList_eq,hc,hh] at h
 simp [dN,hh,hl,hne]
theorem iy (s:ByteArray) (w:World) (hs:s.size <= maxLen):
  Calls Tryz.prog 105 #[.string s] w fun e w'=>e=.returned (.bool (dN s.data.toList))/\w'=w:=by
 unfold maxLen at hs;by_cases h0:s.size=0
 ·have he:=GN h0;have E:=hide (Kc h0);go_enter Tryz.func105,Tryz.ntmps105
  go_wp2;go_ret
  exact ⟨bZ (by rw [E.out]),rfl⟩
 ·have he:=uz h0;have h1:0 < s.size:=by omega
  by_cases hz:((s[0].toNat:Int) == 48)=true
  ·by_cases hq:(!s.toList == [48])=true
   ·have E:=hide (Dm h1 hz hq);go_enter Tryz.func105,Tryz.ntmps105
    go_wp2;go_ret
    exact ⟨bZ (by rw [E.out]),rfl⟩
   ·have hq':(!s.toList == [48])=false:=by simpa using hq
    clear hq;have E:Hid (lead s):=⟨h1,.inl (Rp hq')⟩;go_enter Tryz.func105,Tryz.ntmps105
    go_wp2;go_loop [17] (fun i=>∃ k:Nat,k <= s.size/\i=.int .i64 k/\Hid (yI s k)) (fun i=>s.size - (intOf i).toNat)
    case atStart=>exact ⟨0,Nat.zero_le _,rfl,rfl⟩
    case round=>
     obtain ⟨k,hk,rfl,hd⟩:=hrel;by_cases hlt:k < s.size
     ·by_cases hc1:(s[k].toNat:Int) < 48
      ·go_wp2;go_ret
       exact ⟨bZ (rf hlt (by omega)).symm,rfl⟩
      ·by_cases hc2:57 < (s[k].toNat:Int)
       ·go_wp2;go_ret
        exact ⟨bZ (rf hlt (by omega)).symm,rfl⟩
       ·go_wp2;go_round
        case rel=>exact ⟨k + 1,by omega,by go_num,zU hd.out hlt (by omega) (by omega)⟩
        case measure=>simp [intOf];omega
     ·have E2:Hid (dN s.data.toList=true):=by
       have e:k=s.size:=by omega
       subst e;exact zC hd.out E.out
      go_wp2;go_ret
      exact ⟨bZ (by rw [E2.out]),rfl⟩
  ·have hz':((s[0].toNat:Int) == 48)=false:=by simpa using hz
   have E:Hid (lead s):=⟨h1,.inr (by simpa using hz)⟩
   clear hz;go_enter Tryz.func105,Tryz.ntmps105
   go_wp2;go_loop [17] (fun i=>∃ k:Nat,k <= s.size/\i=.int .i64 k/\Hid (yI s k)) (fun i=>s.size - (intOf i).toNat)
   case atStart=>exact ⟨0,Nat.zero_le _,rfl,rfl⟩
   case round=>
    obtain ⟨k,hk,rfl,hd⟩:=hrel;by_cases hlt:k < s.size
    ·by_cases hc1:(s[k].toNat:Int) < 48
     ·go_wp2;go_ret
      exact ⟨bZ (rf hlt (by omega)).symm,rfl⟩
     ·by_cases hc2:57 < (s[k].toNat:Int)
      ·go_wp2;go_ret
       exact ⟨bZ (rf hlt (by omega)).symm,rfl⟩
      ·go_wp2;go_round
       case rel=>exact ⟨k + 1,by omega,by go_num,zU hd.out hlt (by omega) (by omega)⟩
       case measure=>simp [intOf];omega
    ·have E2:Hid (dN s.data.toList=true):=by
      have e:k=s.size:=by omega
      subst e;exact zC hd.out E.out
     go_wp2;go_ret
     exact ⟨bZ (by rw [E2.out]),rfl⟩
end
section
open Go Go.RowKit
theorem dK {B:Nat} {a w:World} (h:Below B a w) (n:Nat):Below B a (w.drewN n):=h.trans ⟨rfl,rfl,rfl,Nat.le_refl _,fun _ _=>rfl⟩
end
section
open Go Go.RowKit Go.Deep
def inV (b:Nat) (xs:List Int):Value:=.slice (some ⟨b,0,none⟩) xs.length xs.length
def iA (xs:List Int) (q:Nat):Value:=.int .i64 (xs.getD q 0)
def uw (cl:List (List Int)) (B:Nat->Nat) (k j:Nat):Value:=if j < k then inV (B j) (cl.getD j []) else .slice none 0 0
def partAt (xs:List Int) (last:Bool) (p q:Nat):Value:=if last && decide (p <= q) then .int .i64 0 else iA xs q
structure Mem (te ti:TypeId) (base CB:Nat) (cl:List (List Int)) (w0 wr:World) (k:Nat) (B:Nat->Nat) (p:Nat):Prop where
 outer:wr.rowIs CB te cl.length (uw cl B k)
 inner:∀ j,j < k->CB < B j/\wr.rowIs (B j) ti (cl.getD j []).length (partAt (cl.getD j []) (j + 1 == k) p)
 dX:∀ j j',j < j'->j' < k->B j < B j'
 below:Below base w0 wr
 jg:base <= CB
theorem Mem.later {te ti:TypeId} {base CB:Nat} {cl:List (List Int)} {w0 wr wr':World} {k:Nat} {B:Nat->Nat} {p:Nat} (h:Mem te ti base CB cl w0 wr k B p) (hb:Below wr.heap.size wr wr'):Mem te ti base CB cl w0 wr' k B p where
 outer:=h.outer.of_block (hb.block _ h.outer.lt)
 inner:=fun j hj=>⟨(h.inner j hj).1,(h.inner j hj).2.of_block (hb.block _ (h.inner j hj).2.lt)⟩
 dX:=h.dX
 below:=h.below.trans (hb.mono (by have:=h.outer.lt;have:=h.jg;omega))
 jg:=h.jg
theorem kK {xs:List Int} {b:Bool} {p q:Nat} (h:q < p):partAt xs b p q=iA xs q:=by
 unfold partAt;rw [if_neg (by simp;intro _;omega)]
theorem eZ {xs:List Int} {p q:Nat}:partAt xs false p q=iA xs q:=by unfold partAt;rfl
theorem Mem.push {te ti:TypeId} {base CB:Nat} {cl:List (List Int)} {w0 wr:World} {k:Nat} {B:Nat->Nat} {p:Nat} (h:Mem te ti base CB cl w0 wr k B p) (hk:k < cl.length)
  (hp:∀ j,j + 1=k->(cl.getD j []).length <= p) (e:Nat) (he:e=(cl.getD k []).length):
  Mem te ti base CB cl w0 ((wr.setCell ⟨CB,k,none⟩ (.slice (some ⟨wr.heap.size,0,none⟩) e e)).alloc (.cells (madeCells #[.int .i64 0] e) ti)) (k + 1) (fun j=>if j=k then wr.heap.size else B j) 0 where
 outer:=by
  subst he;refine ((h.outer.set k _).alloc _).congr fun i hi=>?_
  unfold uw inV;by_cases e:i=k
  ·subst e;simp
  ·by_cases e':i < k
   ·simp [e,e',show i < k + 1 by omega]
   ·simp [e,e',show ¬ i < k + 1 by omega]
 inner:=fun j hj=>by
  subst he;by_cases e:j=k
  ·subst e;simp only [if_true];refine ⟨h.outer.lt,?_⟩;have hr:=World.rowIs_made (wr.setCell ⟨CB,j,none⟩ (.slice (some ⟨wr.heap.size,0,none⟩) (cl.getD j []).length (cl.getD j []).length)) (.int .i64 0) (cl.getD j []).length ti;rw [show (wr.setCell ⟨CB,j,none⟩ (.slice (some ⟨wr.heap.size,0,none⟩) (cl.getD j []).length (cl.getD j []).length)).heap.size=wr.heap.size from by simp [World.setCell]] at hr
   exact hr.congr fun i hi=>by simp [partAt]
  ·have hj':j < k:=by omega
   simp only [e,if_false];refine ⟨(h.inner j hj').1,?_⟩;have:=((h.inner j hj').2.setOther (a:=⟨CB,k,none⟩) (by have:=(h.inner j hj').1;simp;omega) (.slice (some ⟨wr.heap.size,0,none⟩) (cl.getD k []).length (cl.getD k []).length)).alloc (.cells (madeCells #[.int .i64 0] (cl.getD k []).length) ti)
   refine this.congr fun q hq=>?_
   have ne:(j + 1 == k + 1)=false:=by simp;omega
   rw [ne,eZ];by_cases e2:j + 1=k
   ·exact kK (by have:=hp j e2;omega)
   ·have:(j + 1 == k)=false:=by simpa using e2
    rw [this,eZ]
 dX:=fun j j' h1 h2=>by
  by_cases e:j'=k
  ·subst e;have:¬ j=j':=by omega
   simp only [if_true,this,if_false];exact (h.inner j h1).2.lt
  ·have:¬ j=k:=by omega
   simp only [e,this,if_false];exact h.dX j j' h1 (by omega)
 below:=(h.below.setCell (by exact h.jg) _).alloc (by have:=h.outer.lt;have:=h.jg;simp [World.setCell];omega) _
 jg:=h.jg
theorem Mem.put {te ti:TypeId} {base CB:Nat} {cl:List (List Int)} {w0 wr:World} {k:Nat} {B:Nat->Nat} {p:Nat} (h:Mem te ti base CB cl w0 wr (k + 1) B p) (x:Int) (hx:x=(cl.getD k []).getD p 0):
  Mem te ti base CB cl w0 (wr.setCell ⟨B k,p,none⟩ (.int .i64 x)) (k + 1) B (p + 1) where
 outer:=h.outer.setOther (by have:=(h.inner k (by omega)).1;simp;omega) _
 inner:=fun j hj=>by
  refine ⟨(h.inner j hj).1,?_⟩;by_cases e:j=k
  ·subst e;refine ((h.inner j hj).2.set p _).congr fun q hq=>?_
   have ee:(j + 1 == j + 1)=true:=by simp
   rw [ee];by_cases e2:q=p
   ·subst e2;simp [partAt,iA,hx];intro h;omega
   ·simp only [e2,if_false];unfold partAt;by_cases e3:p <= q
    ·simp [e3,show p + 1 <= q by omega]
    ·simp [e3,show ¬ p + 1 <= q by omega]
  ·have hj':j < k:=by omega
   refine ((h.inner j hj).2.setOther (a:=⟨B k,p,none⟩) (by have:=h.dX j k hj' (by omega);simp;omega) _).congr fun q hq=>?_
   have ne:(j + 1 == k + 1)=false:=by simp;omega
   rw [ne,eZ,eZ]
 dX:=h.dX
 below:=h.below.setCell (by have:=(h.inner k (by omega)).1;have:=h.jg;simp;omega) _
 jg:=h.jg
structure Lists (te ti:TypeId) (base:Nat) (w:World) (v:Value) (cl:List (List Int)):Prop where
 ex:∃ (CB:Nat) (B:Nat->Nat),v=.slice (some ⟨CB,0,none⟩) cl.length cl.length/\base <= CB/\w.rowIs CB te cl.length (fun j=>inV (B j) (cl.getD j []))/\
  (∀ j,j < cl.length->CB < B j/\w.rowIs (B j) ti (cl.getD j []).length (iA (cl.getD j [])))/\∀ j j',j < j'->j' < cl.length->B j < B j'
theorem Lists.mono {te ti:TypeId} {base base':Nat} {w:World} {v:Value} {cl:List (List Int)} (h:Lists te ti base w v cl) (hb:base' <= base):Lists te ti base' w v cl:=by
 obtain ⟨CB,B,h1,h2,h3⟩:=h.ex;exact ⟨CB,B,h1,by omega,h3⟩
theorem Mem.lists {te ti:TypeId} {base CB:Nat} {cl:List (List Int)} {w0 wr:World} {B:Nat->Nat} {p:Nat} (h:Mem te ti base CB cl w0 wr cl.length B p) (hp:∀ j,j + 1=cl.length->(cl.getD j []).length <= p):
  Lists te ti base wr (.slice (some ⟨CB,0,none⟩) cl.length cl.length) cl:=
 ⟨CB,B,rfl,h.jg,h.outer.congr fun i hi=>by simp [uw,hi],fun j hj=>⟨(h.inner j hj).1,(h.inner j hj).2.congr fun q hq=>by
  by_cases e:j + 1=cl.length
  ·exact kK (by have:=hp j e;omega)
  ·have:(j + 1 == cl.length)=false:=by simpa using e
   rw [this,eZ]⟩,h.dX⟩
end
section
open Go Go.RowKit Go.Deep
def wR (xs:List Int):List Value:=xs.map (Value.int .i64)
theorem own_ne {w:World} {B te ti n m:Nat} {v u:Value} {xs ys:List Value} (h1:w.ownsRow B te 1 v n xs) (h2:w.ownsRow B ti 1 u m ys) (hne:te ≠ ti):v.ownBlock=none\/v.ownBlock ≠ u.ownBlock:=by
 rcases h1.2 with ⟨rfl,_⟩ | ⟨g,cap,cur,rfl,_,hg,_⟩
 ·exact .inl rfl
 ·right
  rcases h2.2 with ⟨rfl,_⟩ | ⟨g',cap',cur',rfl,_,hg',_⟩
  ·simp [Value.ownBlock]
  ·simp only [Value.ownBlock,ne_eq,Option.some.injEq];intro e;subst e;rw [hg] at hg';simp at hg';exact hne hg'.2
structure ji (te ti B:Nat) (wr:World) (cv Lr:Value) (us:List Value) (cs:List (List Int)) (cur:List Int):Prop where
 outer:wr.ownsRow B te 1 cv us.length us
 row:wr.ownsRow B ti 1 Lr cur.length (wR cur)
 len:us.length=cs.length
 inner:∀ (j:Nat) u,us[j]? = some u->wr.ownsRow B ti 1 u (cs.getD j []).length (wR (cs.getD j []))/\(u.ownBlock=none\/u.ownBlock ≠ Lr.ownBlock)
theorem ji.later {te ti B:Nat} {wr wr':World} {cv Lr:Value} {us:List Value} {cs:List (List Int)} {cur:List Int} (h:ji te ti B wr cv Lr us cs cur) (hb:Below wr.heap.size wr wr'):ji te ti B wr' cv Lr us cs cur:=by
 have hg:wr.grownBy wr' none:=⟨hb.os,hb.tape,hb.output,hb.size,fun k hk _=>hb.block k hk⟩
 have key:∀ {t n v xs},wr.ownsRow B t 1 v n xs->wr'.ownsRow B t 1 v n xs:=fun {t n v xs} ho=>by
  refine ho.kept hg ?_
  cases hv:v.ownBlock with
  | none=>exact .inl rfl
  | some g=>exact .inr (by simp)
 exact ⟨key h.outer,key h.row,h.len,fun j u hj=>⟨key (h.inner j u hj).1,(h.inner j u hj).2⟩⟩
theorem ji.lit {te ti B:Nat} {wr w1:World} {cv Lr EO:Value} {us:List Value} {cs:List (List Int)} {cur:List Int} {o:Obj} {x:Int} (hne:te ≠ ti) (h:ji te ti B wr cv Lr us cs cur)
  (hown':w1.ownsRow B ti 1 EO (cur.length + 1) (wR cur ++ [.int .i64 x])) (hgrow:(wr.alloc o).grownBy w1 Lr.ownBlock) (hat:EO.ownBlock=Lr.ownBlock\/EO.ownBlock=some (wr.alloc o).heap.size):
  ji te ti B w1 cv EO us cs (cur ++ [x]) where
 outer:=(h.outer.alloc o).kept hgrow (own_ne h.outer h.row hne)
 row:=by simpa [wR] using hown'
 len:=h.len
 inner:=fun j u hj=>by
  obtain ⟨h1,h2⟩:=h.inner j u hj;refine ⟨(h1.alloc o).kept hgrow h2,?_⟩
  cases hu:u.ownBlock with
  | none=>exact .inl rfl
  | some g=>
   right
   rcases hat with e | e
   ·rw [e,<- hu];rcases h2 with h2 | h2
    ·rw [hu] at h2;cases h2
    ·exact h2
   ·rw [e];have:=(h1.lt g hu).2;simp;omega
theorem ji.zero {te ti B:Nat} {wr w1:World} {cv cv' Lr:Value} {us:List Value} {cs:List (List Int)} {cur:List Int} {o:Obj} (hne:te ≠ ti) (h:ji te ti B wr cv Lr us cs cur)
  (hown':w1.ownsRow B te 1 cv' (us.length + 1) (us ++ [Lr])) (hgrow:(wr.alloc o).grownBy w1 cv.ownBlock):
  ji te ti B w1 cv' (.slice none 0 0) (us ++ [Lr]) (cs ++ [cur]) [] where
 outer:=by simpa using hown'
 row:=World.ownsRow_nil _ _ _ _
 len:=by simp [h.len]
 inner:=fun j u hj=>by
  have keep:∀ {n v xs},wr.ownsRow B ti 1 v n xs->w1.ownsRow B ti 1 v n xs:=fun {n v xs} ho=>(ho.alloc o).kept hgrow (own_ne ho h.outer (fun e=>hne e.symm))
  have nn:u.ownBlock=none\/u.ownBlock ≠ (Value.slice none 0 0).ownBlock:=by
   cases hu:u.ownBlock with
   | none=>exact .inl rfl
   | some g=>exact .inr (by simp [Value.ownBlock])
  refine ⟨?_,nn⟩;by_cases hj':j < us.length
  ·rw [List.getElem?_append_left hj'] at hj;have hc:(cs ++ [cur]).getD j []=cs.getD j []:=by
    simp only [List.getD_eq_getElem?_getD];rw [List.getElem?_append_left (by rw [<- h.len];exact hj')]
   rw [hc];exact keep (h.inner j u hj).1
  ·have e:j=us.length:=by
    have:=(List.getElem?_eq_some_iff.1 hj).1;simp at this;omega
   subst e;simp at hj;subst hj;have hc:(cs ++ [cur]).getD us.length []=cur:=by
    simp only [List.getD_eq_getElem?_getD];rw [h.len,List.getElem?_append_right (Nat.le_refl _)];simp
   rw [hc];exact keep h.row
def Xw (te ti B:Nat) (w:World) (v:Value) (cl:List (List Int)):Prop:=∃ us,ji te ti B w v (.slice none 0 0) us cl []
def Qo (w:World) (u:Value) (xs:List Int):Prop:=∃ (a:Option Addr) (c b:Nat),u=.slice a xs.length c/\(0 < xs.length->a=some ⟨b,0,none⟩)/\∀ j,j < xs.length->w.cell? ⟨b,j,none⟩=some (.int .i64 (xs.getD j 0))
def vC (w:World) (v:Value) (cl:List (List Int)):Prop:=∃ (a:Option Addr) (c b:Nat),v=.slice a cl.length c/\(0 < cl.length->a=some ⟨b,0,none⟩)/\∀ i,i < cl.length->∃ u,w.cell? ⟨b,i,none⟩=some u/\Qo w u (cl.getD i [])
theorem Lists.read {te ti B:Nat} {w:World} {v:Value} {cl:List (List Int)} (h:Lists te ti B w v cl):vC w v cl:=by
 obtain ⟨CB,BB,rfl,h2,h3,h4,h5⟩:=h.ex;refine ⟨_,cl.length,CB,rfl,fun _=>rfl,fun i hi=>⟨_,h3.cell hi,?_⟩⟩
 exact ⟨some ⟨BB i,0,none⟩,(cl.getD i []).length,BB i,rfl,fun _=>rfl,fun j hj=>(h4 i hi).2.cell hj⟩
theorem CX (w:World):vC w (.slice none 0 0) []:=⟨none,0,0,rfl,fun h=>by simp at h,fun i hi=>by simp at hi⟩
end
section
open Go Go.RowKit Go.Deep
theorem Tryz.D7:(Tryz.prog.info? 3).map (fun i=>(i.zero,i.size,i.bytes))=some (some (.int .i64 0),1,8):=by kernel_rfl
theorem Tryz.KQ:(Tryz.prog.info? 43).map (fun i=>(i.zero,i.size,i.bytes))=some (some (.slice none 0 0),1,24):=by kernel_rfl
theorem xE (T:List Bs):(bQ T).1.length <= T.length/\(bQ T).2.length <= T.length:=by
 suffices h:∀ (T:List Bs) (st:List (List Int) × List Int) (n:Nat),st.1.length <= n->st.2.length <= n->(T.foldl bM st).1.length <= n + T.length/\(T.foldl bM st).2.length <= n + T.length by
  have:=h T ([],[]) 0 (by simp) (by simp);simpa [jV] using this
 intro T
 induction T with
 | nil=>intro st n h1 h2;simpa using ⟨h1,h2⟩
 | cons t r ih=>
  intro st n h1 h2;simp only [List.foldl_cons,List.length_cons];have key:(bM st t).1.length <= n + 1/\(bM st t).2.length <= n + 1:=by
   unfold bM;split <;> simp <;> omega
  have:=ih (bM st t) (n + 1) key.1 key.2;omega
theorem J3 {l v c:Bs} (h:qY l=some (v,c)):dN v=true:=by
 unfold qY at h;split at h
 ·split at h
  ·rename_i hc;simp only [Bool.and_eq_true] at hc;simp only [Option.some.injEq,Prod.mk.injEq] at h;rw [<- h.1];exact hc.1.2
  ·cases h
 ·cases h
theorem zQ:∀ (f:Nat) {l v c r:Bs},lT f l=some (v,c,r)->dN v=true
 | 0,l,v,c,r,h=>by simp [lT] at h
 | f + 1,l,v,c,r,h=>by
  unfold lT at h;split at h
  ·split at h
   ·exact zQ f h
   ·obtain ⟨x,hx,e⟩:=Option.map_eq_some_iff.1 h;simp only [Prod.mk.injEq] at e;obtain ⟨x1,x2⟩:=x;simp only at e;rw [<- e.1];exact J3 hx
  ·cases h
theorem aH {w':World} {B:Nat} {v:Value} {n:Nat} {xs:List Value} {t:TypeId} (h:w'.ownsRow B t 1 v n xs):∃ a c,v=.slice a n c:=by
 rcases h.2 with ⟨rfl,h0⟩ | ⟨g,cap,cur,rfl,_⟩
 ·exact ⟨none,0,by rw [h0]⟩
 ·exact ⟨_,cap,rfl⟩
end
section
open Go Go.RowKit Go.Deep
def oP (l:Int):Prop:=(1 <= l/\l <= 50)\/(-50 <= l/\l <= -1)
def Z4 (w:World) (u:Value) (xs:List Int):Prop:=∃ (a:Option Addr) (c b:Nat),u=.slice a xs.length c/\xs.length <= c/\(0 < xs.length->a=some ⟨b,0,none⟩)/\∀ j,j < xs.length->w.cell? ⟨b,j,none⟩=some (.int .i64 (xs.getD j 0))
theorem Nf {w:World} {B ti:Nat} {u:Value} {xs:List Int} (h:w.ownsRow B ti 1 u xs.length (wR xs)):Z4 w u xs:=by
 have hc:=h
 rcases h.2 with ⟨rfl,h0⟩ | ⟨g,cap,cur,rfl,_,_,hn,_⟩
 ·exact ⟨none,0,0,by rw [h0],by omega,fun hh=>by omega,fun j hj=>by omega⟩
 ·refine ⟨some ⟨g,0,none⟩,cap,g,rfl,hn,fun _=>rfl,fun j hj=>?_⟩
  have:=hc.cells (g:=g) rfl j (.int .i64 (xs.getD j 0)) (by simp [wR,hj,List.getD_eq_getElem?_getD])
  simpa [Addr.add_lit] using this
end
end Rd
end Go.Proofs.YtceahffmenbibaaGreatDoor
