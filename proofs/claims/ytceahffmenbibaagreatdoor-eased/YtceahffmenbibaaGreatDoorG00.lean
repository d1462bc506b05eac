/- Rspec Cspec Rnum Rcls Rtok Rprog1 Rref3 Rmem Rmem2 Rref5 Cref2 Cbits Cmark Capp Cref5 Sfam Schg. -/
import Derived.Lib.ItoaNum
import Derived.Lib.Strings
import Derived.Lib.IndexMore
import Derived.Test.YtceahffmenbibaaGreatDoorChecked
import Derived.WalkKit
import Derived.WalkLawsBesides
import Derived.WalkSpells
import Derived.Below
import Derived.Lib.Atoi
import Derived.Lib.FieldsP
import Derived.Laws.RangeAny
import Derived.Laws.RangeString
import Derived.Maps.AppendAt
import Derived.Deep.QuietTactic
import Derived.BigQuiet
import Derived.Deep.OwnRows
import Derived.Outline
import Derived.Lib.TrailingZeros
import Derived.Laws.AppendOwnNone
import Derived.Deep.AppendLies
import Derived.Deep.RegionHeld3
import Derived.Deep.RegionWith
set_option linter.unusedVariables false
set_option linter.unusedSimpArgs false
set_option maxHeartbeats 1000000
namespace Go.Proofs.YtceahffmenbibaaGreatDoor
theorem bR {B:Nat} {w:Go.World}:Go.RowKit.Below B w w:=Go.RowKit.Below.refl _ _
theorem lr {n:Nat}:n<=n:=Nat.le_refl n
theorem zl {n:Nat}:0<=n:=Nat.zero_le n
theorem tC {X:Type} {a:Option X} {b c:X} (h:a=some b) (e:b=c):a=some c:=h.trans (congrArg some e)
end Go.Proofs.YtceahffmenbibaaGreatDoor
namespace Go.Proofs.YtceahffmenbibaaGreatDoor
namespace Rd
abbrev Bs:Type:=List UInt8
def qE (c:UInt8):Bool:=decide (48 <= c.toNat) && decide (c.toNat <= 57)
def gZ (l:Bs):Bool:=l.all qE && (l.length == 1 || (decide (1 < l.length) && !(l.head? == some 48)))
def gap (c:UInt8):Bool:=c == 32 || c == 9 || c == 10
def iB:Bs->Bs->List Bs
 | w,[]=>if w.isEmpty then [] else [w]
 | w,c :: r=>if gap c then (if w.isEmpty then iB [] r else w :: iB [] r) else iB (w ++ [c]) r
def toks (l:Bs):List Bs:=iB [] l
def nY (st:List Bs × Bs) (c:UInt8):List Bs × Bs:=if gap c then (if st.2.isEmpty then st.1 else st.1 ++ [st.2],[]) else (st.1,st.2 ++ [c])
def oN (l:Bs):List Bs × Bs:=l.foldl nY ([],[])
theorem Et (l:Bs) (c:UInt8):oN (l ++ [c])=nY (oN l) c:=by
 unfold oN;rw [List.foldl_append];rfl
def close (st:List Bs × Bs):List Bs:=if st.2.isEmpty then st.1 else st.1 ++ [st.2]
theorem pW:∀ (l:Bs) (b:List Bs) (w:Bs),close (l.foldl nY (b,w))=b ++ iB w l
 | [],b,w=>by
  simp only [List.foldl_nil,close,iB];cases w <;> simp
 | c :: r,b,w=>by
  simp only [List.foldl_cons,iB,nY]
  cases e:gap c with
  | true=>
   cases d:w.isEmpty with
   | true=>simp only [if_true];rw [pW r]
   | false=>simp only [if_true,Bool.false_eq_true,if_false];rw [pW r];simp
  | false=>simp only [Bool.false_eq_true,if_false];rw [pW r]
theorem Te (l:Bs):close (oN l)=toks l:=by
 have:=pW l [] [];simpa [oN,toks] using this
def Cz (c:UInt8) (l:Bs):List Bs × Bs:=l.foldl (fun st x=>if x == c then (st.1 ++ [st.2],[]) else (st.1,st.2 ++ [x])) ([],[])
def splitB (c:UInt8) (l:Bs):List Bs:=(Cz c l).1 ++ [(Cz c l).2]
def U7 (l:Bs):Int:=l.foldl (fun n c=>10 * n + ((c.toNat:Int) - 48)) 0
def gV (l:Bs):Int:=U7 (l.take 9)
def line (l:Bs):Bs:=l.takeWhile (fun c=>!(c == 10))
def rest (l:Bs):Bs:=l.drop ((line l).length + 1)
def ended (l:Bs):Bool:=decide ((line l).length < l.length)
def comment (l:Bs):Bool:=l == [99] || Lib.hasPrefix l [99,32]
def uG (l:Bs):Option (Bs × Bs):=
 match splitB 32 l with
 | [a,b,v,c]=>if a == [112] && b == [99,110,102] && gZ v && gZ c then some (v,c) else none
 | _=>none
def pK:Nat->Bs->Option (Bs × Bs × Bs)
 | 0,_=>none
 | f + 1,l=>if ended l then (if comment (line l) then pK f (rest l) else (uG (line l)).map fun x=>(x.1,x.2,rest l)) else none
def above (a b:Bs):Bool:=if a.length=b.length then !Op.bytesLess a b && !(a == b) else decide (b.length < a.length)
def strip (t:Bs):Bs:=if t.head? = some 45 then t.tail else t
def jE (v t:Bs):Bool:=gZ (strip t) && !(strip t == [48]) && !above (strip t) v
def zero (t:Bs):Bool:=t == [48]
def kU (v:Bs) (T:List Bs):Bool:=T.all fun t=>zero t || jE v t
def fF (t:Bs):Int:=if t.head? = some 45 then -(gV (strip t)) else gV (strip t)
def fG (T:List Bs):List (List Int) × List Int:=T.foldl (fun st t=>if zero t then (st.1 ++ [st.2],[]) else (st.1,st.2 ++ [fF t])) ([],[])
theorem zK (T:List Bs) (t:Bs):fG (T ++ [t])=if zero t then ((fG T).1 ++ [(fG T).2],[]) else ((fG T).1,(fG T).2 ++ [fF t]):=by
 unfold fG;rw [List.foldl_append];rfl
def zeros (T:List Bs):Nat:=(T.filter zero).length
def lits (T:List Bs):Nat:=(T.filter fun t=>!zero t).length
def body (v c:Bs) (T:List Bs):Int × List (List Int) × Int:=
 if kU v T then
  (if (fG T).2.isEmpty && Lib.decDigits (fG T).1.length == c then
   (if above v [53,48] || decide (700 < lits T) then (0,[],1) else (gV v,(fG T).1,0))
   else (0,[],2))
 else (0,[],2)
def lT (s:Bs):Int × List (List Int) × Int:=
 if 20000 < s.length then (0,[],1)
 else match pK (s.length + 1) s with
  | none=>(0,[],2)
  | some (v,c,r)=>body v c (toks r)
abbrev Cl:Type:=List Int
def Cons (M:Int->Prop):Prop:=∀ l,M l->M (-l)->False
def Met (M:Int->Prop) (c:Cl):Prop:=∃ l ∈ c,M l
def Two (M:Int->Prop) (c:Cl):Prop:=∃ a ∈ c,∃ b ∈ c,a ≠ b/\¬ M (-a)/\¬ M (-b)
def Stable (L:List Cl) (M:Int->Prop):Prop:=∀ c ∈ L,Met M c\/Two M c
def jo (L:List Cl) (ls:List Int):Prop:=∀ M,Cons M->(∀ l ∈ ls,M l)->¬ Stable L M
def vJ (c:Cl) (but:Int):List Int:=(c.filter fun l=>!(l == but)).map fun l=>-l
def WG (L:List Cl) (c:Cl):Prop:=jo L (vJ c 0)\/∃ l r,c=l :: r/\∀ D ∈ L,-l ∈ D->jo L (vJ c 0 ++ vJ D (-l))
def iH (a b:Cl):Bool:=a.all (fun l=>b.contains l) && b.all (fun l=>a.contains l)
def rem:List Cl->Cl->Option (List Cl)
 | [],_=>none
 | d :: r,c=>if iH d c then some r else (rem r c).map (d :: ·)
def mH (v:Bs):List Bs->Option Cl
 | []=>none
 | [t]=>if zero t then some [] else none
 | t :: r=>if jE v t then (mH v r).map (fF t :: ·) else none
def oF (v:Bs) (l:Bs):Option (Bool × Cl):=
 if (splitB 32 l).head? = some [100] then (mH v (splitB 32 l).tail).map fun c=>(true,c)
 else (mH v (splitB 32 l)).map fun c=>(false,c)
section
open Go Go.RowKit
theorem hide {p:Prop} (h:p):Hid p:=h
theorem jV {p:Prop} (h:Hid p):p:=h.out
theorem fO {a b:Bool} (h:a=b):Ending.returned (.bool a)=.returned (.bool b):=by rw [h]
theorem Li (s:ByteArray) (k:Nat) (h:k < s.size):s.data.toList.take (k + 1)=s.data.toList.take k ++ [s[k]]:=by
 rw [List.take_succ_eq_append_getElem (by simpa using h)];rfl
theorem Ew (s:ByteArray) {k:Nat} (h:¬ k < s.size):s.data.toList.take k=s.data.toList:=List.take_of_length_le (by simpa using h)
def AA (s:ByteArray) (k:Nat):Prop:=(s.data.toList.take k).all qE=true
theorem Ci {s:ByteArray} {k:Nat} (h:AA s k) (b:k < s.size) (d:48 <= (s[k].toNat:Int)) (c:(s[k].toNat:Int) <= 57):AA s (k + 1):=by
 unfold AA at *
 rw [Li s k b,List.all_append,h];simp [qE];omega
theorem uH {s:ByteArray} {k:Nat} (d:k < s.size) (h:(s[k].toNat:Int) < 48\/57 < (s[k].toNat:Int)):gZ s.data.toList=false:=by
 have b:s[k] ∈ s.data.toList:=by simp [ByteArray.getElem_eq_getElem_data]
 have:s.data.toList.all qE=false:=by
  rw [Bool.eq_false_iff];intro c;have:=List.all_eq_true.1 c _ b;simp [qE] at this;omega
 simp [gZ,this]
theorem Pz {s:ByteArray} (h:AA s s.size) (b:s.size=1):gZ s.data.toList=true:=by
 unfold AA at h;rw [Ew s (by omega)] at h
 have:s.data.toList.length=1:=by simpa using b
 simp [gZ,h,this]
theorem Mm {s:ByteArray} (b:s.size=0):gZ s.data.toList=false:=by
 have:s.data.toList=[]:=List.eq_nil_of_length_eq_zero (by simpa using b)
 simp [gZ,this]
theorem Mq {s:ByteArray} (h:AA s s.size) (f:1 < s.size):gZ s.data.toList=((s[0].toNat:Int) != 48):=by
 unfold AA at h;rw [Ew s (by omega)] at h
 have b:s.data.toList.length=s.size:=by simp
 have c:s.data.toList.head? = some s[0]:=by
  rw [List.head?_eq_getElem?,List.getElem?_eq_getElem (by omega)];rfl
 have e:(s[0] == 48)=((s[0].toNat:Int) == 48):=by
  rw [Bool.eq_iff_iff];simp [<- UInt8.toNat_inj];omega
 have d:(s.size == 1)=false:=by simp;omega
 rw [gZ,h,b,c,d];simp [f,bne,e]
theorem Xh (a b:ByteArray) (w:World) (f:a.size <= maxLen) (d:b.size <= maxLen):
  Calls Tryz.prog 82 #[.string a,.string b] w fun e w'=>e=.returned (.bool (above a.data.toList b.data.toList))/\w'=w:=by
 unfold maxLen at f d;by_cases h:a.size=b.size
 ·have c:((a.size:Int) != (b.size:Int))=false:=by simp [h]
  have E:Hid (above a.data.toList b.data.toList=(!Op.bytesLess a.toList b.toList && !(a.toList == b.toList))):=by
   unfold Hid above;rw [if_pos (by simpa using h),ByteArray.toList_eq,ByteArray.toList_eq]
  clear h;go_enter Tryz.func82,Tryz.ntmps82
  go_wp2;go_ret
  exact ⟨fO (by rw [E.out]),rfl⟩
 ·have c:((a.size:Int) != (b.size:Int))=true:=by simp;omega
  have E:Hid (above a.data.toList b.data.toList=decide (b.size < a.size)):=by
   unfold Hid above;rw [if_neg (by simpa using h)]
   simp
  go_enter Tryz.func82,Tryz.ntmps82
  go_wp2;go_ret
  exact ⟨fO (by rw [E.out]),rfl⟩
theorem wU (a b:ByteArray) (w:World) (f:a.size <= maxLen) (d:b.size <= maxLen):
  Calls Tryz.prog 35 #[.string a,.string b] w fun e w'=>e=.returned (.bool (above a.data.toList b.data.toList))/\w'=w:=by
 unfold maxLen at f d;by_cases h:a.size=b.size
 ·have c:((a.size:Int) != (b.size:Int))=false:=by simp [h]
  have E:Hid (above a.data.toList b.data.toList=(!Op.bytesLess a.toList b.toList && !(a.toList == b.toList))):=by
   unfold Hid above;rw [if_pos (by simpa using h),ByteArray.toList_eq,ByteArray.toList_eq]
  clear h;go_enter Tryz.func35,Tryz.ntmps35
  go_wp2;go_ret
  exact ⟨fO (by rw [E.out]),rfl⟩
 ·have c:((a.size:Int) != (b.size:Int))=true:=by simp;omega
  have E:Hid (above a.data.toList b.data.toList=decide (b.size < a.size)):=by
   unfold Hid above;rw [if_neg (by simpa using h)]
   simp
  go_enter Tryz.func35,Tryz.ntmps35
  go_wp2;go_ret
  exact ⟨fO (by rw [E.out]),rfl⟩
end
section
open Go
def nz (t:Bs):Bool:=!zero t
def cls:Nat->List Bs->List (List Int)
 | 0,_=>[]
 | c + 1,T=>((T.takeWhile nz).map fF) :: cls c (T.drop ((T.takeWhile nz).length + 1))
theorem ui:∀ (c:Nat) (T:List Bs),(cls c T).length=c
 | 0,_=>rfl
 | c + 1,T=>by simp [cls,ui c]
def fu (st:List (List Int) × List Int) (t:Bs):List (List Int) × List Int:=if zero t then (st.1 ++ [st.2],[]) else (st.1,st.2 ++ [fF t])
theorem nQ (T:List Bs):fG T=T.foldl fu ([],[]):=rfl
theorem DN:∀ (A:List Bs) (st:List (List Int) × List Int),(∀ t ∈ A,zero t=false)->A.foldl fu st=(st.1,st.2 ++ A.map fF)
 | [],st,_=>by simp
 | a :: A,st,h=>by
  simp only [List.foldl_cons];rw [DN A _ (fun t b=>h t (by simp [b]))]
  simp [fu,h a (by simp)]
theorem fold_acc:∀ (R:List Bs) (acc:List (List Int)) (cur:List Int),R.foldl fu (acc,cur)=(acc ++ (R.foldl fu ([],cur)).1,(R.foldl fu ([],cur)).2)
 | [],acc,cur=>by simp
 | t :: R,acc,cur=>by
  simp only [List.foldl_cons];by_cases h:zero t=true
  ·simp only [fu,h,if_true];rw [fold_acc R (acc ++ [cur]),fold_acc R ([] ++ [cur])];simp
  ·have b:zero t=false:=by simpa using h
   simp only [fu,b,Bool.false_eq_true,if_false];rw [fold_acc R acc]
theorem pV (t:Bs) (T:List Bs):zeros (t :: T)=(if zero t then 1 else 0) + zeros T:=by
 unfold zeros;cases h:zero t <;> simp [h];omega
theorem GU {T:List Bs} (h:0 < zeros T):∃ R,T=T.takeWhile nz ++ [48] :: R/\T.drop ((T.takeWhile nz).length + 1)=R/\zeros R + 1=zeros T/\(∀ t ∈ T.takeWhile nz,zero t=false):=by
 induction T with
 | nil=>simp [zeros] at h
 | cons t T ih=>
  by_cases d:zero t=true
  ·refine ⟨T,?_⟩;have e:t=[48]:=by simpa [zero] using d
   subst e;simp [nz,d,pV];omega
  ·have b:zero t=false:=by simpa using d
   rw [pV,b] at h;obtain ⟨R,j,i,g,f⟩:=ih (by simpa using h)
   refine ⟨R,?_,?_,?_,?_⟩
   ·simp only [List.takeWhile_cons,nz,b,Bool.not_false,if_true,List.cons_append];exact congrArg (t :: ·) j
   ·simp only [List.takeWhile_cons,nz,b,Bool.not_false,if_true,List.length_cons,List.drop_succ_cons];exact i
   ·rw [pV,b,g];simp
   ·intro x c;simp only [List.takeWhile_cons,nz,b,Bool.not_false,if_true,List.mem_cons] at c
    rcases c with rfl | c
    ·exact b
    ·exact f x c
theorem JJ:∀ (c:Nat) (T:List Bs),zeros T=c->(fG T).1=cls c T
 | 0,T,h=>by
  have i:∀ t ∈ T,zero t=false:=by
   intro t d;have:=List.filter_eq_nil_iff.1 (List.eq_nil_of_length_eq_zero h) t d;simpa using this
  rw [nQ,DN T _ i];rfl
 | c + 1,T,h=>by
  obtain ⟨R,g,f,j,e⟩:=GU (T:=T) (by omega)
  have b:=JJ c R (by omega)
  rw [cls,f,<- b]
  conv=>lhs;rw [g]
  rw [nQ,List.foldl_append,DN _ _ e,List.foldl_cons];rw [show fu ([],[] ++ List.map fF (List.takeWhile nz T)) [48]=([List.map fF (List.takeWhile nz T)],[]) from rfl]
  rw [fold_acc];rfl
theorem vW (T:List Bs):(fG T).1.length=zeros T:=by rw [JJ _ T rfl,ui]
theorem Pq (T:List Bs):(fG T).2.isEmpty=(T.isEmpty || T.getLast? == some [48]):=by
 by_cases h:T=[]
 ·subst h;rfl
 ·rw [<- List.dropLast_concat_getLast h,zK];have c:(T.dropLast ++ [T.getLast h]).getLast? = some (T.getLast h):=by simp
  rw [c];have d:(T.dropLast ++ [T.getLast h]).isEmpty=false:=by simp
  rw [d];by_cases b:zero (T.getLast h)=true
  ·rw [if_pos b];simpa [zero] using b
  ·rw [if_neg b];have:(T.getLast h == [48])=false:=by simpa [zero] using b
   simp [this]
theorem zC:∀ (l:Bs) (b:Nat),l.all qE=true->∃ n:Nat,Lib.decFrom b l=some n/\(n:Int)=l.foldl (fun n c=>10 * n + ((c.toNat:Int) - 48)) (b:Int)
 | [],b,_=>⟨b,rfl,rfl⟩
 | c :: r,b,h=>by
  rw [List.all_cons,Bool.and_eq_true] at h;have d:=h.1;simp [qE] at d;obtain ⟨n,f,e⟩:=zC r (b * 10 + (c.toNat - 48)) h.2;refine ⟨n,?_,?_⟩
  ·unfold Lib.decFrom Lib.digitVal;rw [if_pos d];exact f
  ·rw [e,List.foldl_cons]
   congr 1
   omega
theorem nH {t:Bs} (h:gZ t=true):t.all qE=true/\t ≠ []:=by
 unfold gZ at h;simp only [Bool.and_eq_true] at h;refine ⟨h.1,fun e=>?_⟩
 subst e;simp at h
theorem zB {t:Bs} (h:gZ t=true) (b:t.length <= 9):∃ n:Nat,Lib.decNat t=some n/\(n:Int)=gV t:=by
 obtain ⟨d,c⟩:=nH h;obtain ⟨n,f,e⟩:=zC t 0 d;refine ⟨n,?_,?_⟩
 ·unfold Lib.decNat;rw [if_neg (by simpa using c)];exact f
 ·rw [e];unfold gV U7;rw [List.take_of_length_le b];rfl
theorem Hr {t:Bs} (h:gZ t=true) (i:t.length <= 9):Lib.atoi t=some (gV t):=by
 obtain ⟨n,l,k⟩:=zB h i;obtain ⟨g,j⟩:=nH h
 cases t with
 | nil=>exact absurd rfl j
 | cons c r=>
  rw [List.all_cons,Bool.and_eq_true] at g;have f:=g.1;simp [qE] at f;have b:(c == 45)=false:=by
   rw [beq_eq_false_iff_ne];intro e;subst e;simp at f
  have d:(c == 43)=false:=by
   rw [beq_eq_false_iff_ne];intro e;subst e;simp at f
  simp only [Lib.atoi,b,d,l,<- k];rfl
theorem Ht {v t:Bs} (h:jE v t=true) (f:(strip t).length <= 9):Lib.atoi t=some (fF t):=by
 unfold jE at h;simp only [Bool.and_eq_true] at h;have e:=h.1.1;unfold fF;by_cases b:t.head? = some 45
 ·have d:strip t=t.tail:=by unfold strip;rw [if_pos b]
  cases t with
  | nil=>simp at b
  | cons c r=>
   simp at b;subst b;rw [if_pos (show (45 :: r:Bs).head? = some 45 from rfl)]
   rw [d] at e f ⊢;obtain ⟨n,i,g⟩:=zB e f;simp only [List.tail_cons] at i g ⊢;simp only [Lib.atoi,i,<- g];rfl
 ·have d:strip t=t:=by unfold strip;rw [if_neg b]
  rw [if_neg b,d];rw [d] at e f;exact Hr e f
theorem lJ {a b:Bs} (h:above a b=false):a.length <= b.length:=by
 unfold above at h;split at h
 ·omega
 ·simp at h;omega
theorem V8 {l:Bs} (h:l.head? = some 99):∃ r,line l=99 :: r:=by
 cases l with
 | nil=>simp at h
 | cons c r=>
  simp at h;subst h;exact ⟨line r,by simp [line]⟩
theorem MM {l:Bs} {r:Bs} (h:line l=99 :: r):l.head? = some 99:=by
 cases l with
 | nil=>simp [line] at h
 | cons c t=>
  unfold line at h;rw [List.takeWhile_cons] at h;split at h
  ·simp at h;simp [h.1]
  ·simp at h
def kN (r:Nat):Bool:=r == 32 || r == 9 || r == 10
theorem Gn {s:ByteArray} {i:Nat} (h:i < s.size):s.get! i=s[i]:=by
 show s.data[i]! = s.data[i]
 exact getElem!_pos s.data i h
theorem GQ (s:ByteArray) (b:Nat) (h:b < s.size) (m:128 <= (s[b]'h).toNat):
  ∀ k,k < (Utf8.decode s b).2->∃ f:b + k < s.size,128 <= (s[b + k]'f).toNat:=by
 intro k c;by_cases i:k=0
 ·subst i;exact ⟨h,m⟩
 have l:¬ (s.get! (b + 0)).toNat < 128:=by rw [Nat.add_zero,Gn h];omega
 have d:∀ j,(decide (b + j < s.size) && (s.get! (b + j)).toNat / 64 == 2)=true->∃ f:b + j < s.size,128 <= (s[b + j]'f).toNat:=fun j g=>by
  simp only [Bool.and_eq_true,decide_eq_true_eq,beq_iff_eq] at g;refine ⟨g.1,?_⟩;have:=g.2;rw [Gn g.1] at this;omega
 unfold Utf8.decode at c;simp only [l,if_false] at c;split at c
 ·rename_i e;simp only [Bool.and_eq_true] at e;split at c
  ·simp only at c;have:k=1:=by omega
   subst this;exact d 1 (by simpa using e.2)
  ·simp only at c;omega
 ·split at c
  ·rename_i e;simp only [Bool.and_eq_true] at e;split at c
   ·simp only at c;have:k=1\/k=2:=by omega
    rcases this with rfl | rfl
    ·exact d 1 (by simpa using e.1.2)
    ·exact d 2 (by simpa using e.2)
   ·simp only at c;omega
  ·split at c
   ·rename_i e;simp only [Bool.and_eq_true] at e;split at c
    ·simp only at c;have:k=1\/k=2\/k=3:=by omega
     rcases this with rfl | rfl | rfl
     ·exact d 1 (by simpa using e.1.1.2)
     ·exact d 2 (by simpa using e.1.2)
     ·exact d 3 (by simpa using e.2)
    ·simp only at c;omega
   ·simp only at c;omega
theorem Gv:∀ (r:Bs) (b:List Bs × Bs),(∀ c ∈ r,gap c=false)->r.foldl nY b=(b.1,b.2 ++ r)
 | [],b,_=>by simp
 | c :: r,b,h=>by
  have e:=h c (by simp)
  simp only [List.foldl_cons];rw [Gv r _ (fun x d=>h x (by simp [d]))]
  simp [nY,e]
theorem II (a b:Bs):oN (a ++ b)=b.foldl nY (oN a):=by unfold oN;rw [List.foldl_append]
def sub (L:Bs) (a b:Nat):Bs:=(L.take b).drop a
theorem uz (L:Bs) {a b:Nat} (h:a <= b):L.take b=L.take a ++ sub L a b:=by
 unfold sub
 conv=>lhs;rw [<- List.take_append_drop a (L.take b)]
 rw [List.take_take,Nat.min_eq_left h]
theorem Tj (L:Bs) {a b c:Nat} (h:a <= b) (d:b <= c):sub L a b ++ sub L b c=sub L a c:=by
 have e:=uz L (a:=a) (b:=c) (by omega)
 have g:=uz L h;have f:=uz L d;rw [f,g,List.append_assoc] at e;exact List.append_cancel_left e
def Inv (s:ByteArray) (pos:Nat) (st:Option Nat) (acc:List (Nat × Nat)):Prop:=
 oN (s.data.toList.take pos)=(acc.map fun x=>sub s.data.toList x.1 x.2,match st with | none=>[] | some a=>sub s.data.toList a pos)/\(∀ a,st=some a->a < pos)/\pos <= s.size
theorem Ow {s:ByteArray} {a b:Nat} (h:a < b) (d:b <= s.size):(sub s.data.toList a b).isEmpty=false:=by
 rw [Bool.eq_false_iff];intro c;have:=congrArg List.length (List.isEmpty_iff.1 c);simp [sub] at this;omega
theorem Ti {s:ByteArray} {a b:Nat} {c:UInt8} (h:c ∈ sub s.data.toList a b):∃ k,∃ d:a + k < s.size,a + k < b/\c=s[a + k]'d:=by
 unfold sub at h;obtain ⟨i,f,e⟩:=List.getElem_of_mem h;simp at f;refine ⟨i,by omega,by omega,?_⟩
 rw [<- e];simp [ByteArray.getElem_eq_getElem_data]
def XY (st:Option Nat) (acc:List (Nat × Nat)) (pos:Nat):List (Nat × Nat):=
 match st with | some a=>acc ++ [(a,pos)] | none=>acc
def Zj (st:Option Nat) (pos:Nat):Option Nat:=
 match st with | some a=>some a | none=>some pos
theorem UB {s:ByteArray} {b:Nat} {st:Option Nat} {c:List (Nat × Nat)} (h:Inv s b st c) (e:b < s.size) (f:gap s[b]=true):
  Inv s (b + 1) none (XY st c b):=by
 obtain ⟨j,i,g⟩:=h;have d:s.data.toList.take (b + 1)=s.data.toList.take b ++ [s[b]]:=by
  rw [List.take_succ_eq_append_getElem (by simpa using e)];rfl
 refine ⟨?_,(fun a h=>by cases h),by omega⟩
 rw [d,Et,j];unfold nY;rw [f,if_pos rfl]
 cases st with
 | none=>rfl
 | some a=>
  simp only;rw [Ow (i a rfl) g];simp [XY]
theorem UA {s:ByteArray} {d f:Nat} {st:Option Nat} {g:List (Nat × Nat)} (h:Inv s d st g) (o:1 <= f) (e:∀ k,k < f->∃ i:d + k < s.size,gap (s[d + k]'i)=false):
  Inv s (d + f) (Zj st d) g:=by
 obtain ⟨n,j,r⟩:=h;obtain ⟨p,_⟩:=e (f - 1) (by omega)
 refine ⟨?_,?_,by omega⟩
 ·rw [uz s.data.toList (a:=d) (b:=d + f) (by omega),II,n,Gv]
  ·cases st with
   | none=>rfl
   | some a=>simp only;rw [Tj _ (Nat.le_of_lt (j a rfl)) (by omega)];rfl
  ·intro c m;obtain ⟨k,q,l,rfl⟩:=Ti m;exact (e k (by omega)).2
 ·cases st with
  | none=>intro a h;cases h;omega
  | some a=>intro t h;cases h;have:=j a rfl;omega
theorem Qq (s:ByteArray) (b:Nat) (h:b < s.size):kN (Utf8.decode s b).1=gap s[b]:=by
 by_cases c:(s[b]'h).toNat < 128
 ·rw [decode_ascii s b h c];unfold kN gap;rw [Bool.eq_iff_iff];simp [<- UInt8.toNat_inj]
 ·have d:=(decode_high s b h (by omega)).1
  unfold kN gap;rw [Bool.eq_iff_iff];simp [<- UInt8.toNat_inj];omega
theorem pJ (s:ByteArray):∀ (f b:Nat) (e:Option Nat) (acc:List (Nat × Nat)),s.size <= b + f->Inv s b e acc->
  Inv s s.size (Lib.spansFromP kN s f b e acc).2 (Lib.spansFromP kN s f b e acc).1
 | 0,b,e,acc,hf,hi=>by
  have:b=s.size:=by have:=hi.2.2;omega
  subst this;exact hi
 | f + 1,b,e,acc,hf,hi=>by
  unfold Lib.spansFromP;by_cases c:b < s.size
  ·rw [if_pos c,Qq s b c]
   cases l:gap s[b] with
   | true=>
    have i:(s[b]'c).toNat < 128:=by
     simp [gap,<- UInt8.toNat_inj] at l;omega
    have d:=UB hi c l;rw [decode_ascii s b c i]
    cases e with
    | none=>simp only [if_true];exact pJ s f _ _ _ (by omega) d
    | some a=>simp only [if_true];exact pJ s f _ _ _ (by omega) d
   | false=>
    have n:1 <= (Utf8.decode s b).2:=by
     by_cases i:(s[b]'c).toNat < 128
     ·rw [decode_ascii s b c i];simp
     ·exact (decode_high s b c (by omega)).2
    have h:∀ k,k < (Utf8.decode s b).2->∃ g:b + k < s.size,gap (s[b + k]'g)=false:=by
     intro k j;by_cases i:(s[b]'c).toNat < 128
     ·rw [decode_ascii s b c i] at j;simp only at j;have:k=0:=by omega
      subst this;exact ⟨c,l⟩
     ·obtain ⟨g,o⟩:=GQ s b c (by omega) k j
      refine ⟨g,?_⟩;rw [Bool.eq_false_iff];intro m;simp [gap,<- UInt8.toNat_inj] at m;omega
    have d:=UA hi n h
    cases e with
    | none=>simp only [Bool.false_eq_true,if_false];exact pJ s f _ _ _ (by omega) d
    | some a=>simp only [Bool.false_eq_true,if_false];exact pJ s f _ _ _ (by omega) d
  ·rw [if_neg c];have:b=s.size:=by have:=hi.2.2;omega
   subst this;exact hi
theorem Gz (s:ByteArray):(Lib.goFieldsP kN s).map (fun x=>x.data.toList)=toks s.data.toList:=by
 have h:=pJ s s.size 0 none [] (by omega) ⟨by simp [oN],(fun a h=>by cases h),by omega⟩
 obtain ⟨f,g,_⟩:=h;rw [List.take_of_length_le (by simp)] at f
 rw [<- Te,f];unfold Lib.goFieldsP Lib.spansOfP Lib.closeSpans close;have e:∀ a b,List.take (b - a) (List.drop a s.data.toList)=sub s.data.toList a b:=fun a b=>by
  rw [sub,List.drop_take]
 cases c:(Lib.spansFromP kN s s.size 0 none []).2 with
 | none=>simp [List.map_map,Function.comp_def,e]
 | some a=>
  have d:=Ow (s:=s) (g a c) lr;simp only [d];simp [List.map_map,Function.comp_def,e]
theorem Oq (l:Bs):(toks l).length <= l.length/\∀ t ∈ toks l,t.length <= l.length:=by
 suffices h:∀ (l w:Bs),(iB w l).length <= l.length + w.length/\∀ t ∈ iB w l,t.length <= l.length + w.length by
  have:=h l [];simpa [toks] using this
 intro l
 induction l with
 | nil=>intro w;unfold iB;cases w <;> simp
 | cons c r ih=>
  intro w;unfold iB;split
  ·split
   ·have:=ih [];simp at this ⊢;exact ⟨by omega,fun t b=>by have:=this.2 t b;omega⟩
   ·rename_i e;have:=ih [];have d:1 <= w.length:=by cases w <;> simp at e ⊢
    simp at this ⊢;exact ⟨by omega,fun t b=>by have:=this.2 t b;omega⟩
  ·have:=ih (w ++ [c]);simp at this ⊢;exact ⟨by omega,fun t b=>by have:=this.2 t b;omega⟩
end
section
open Go Go.RowKit
theorem Jj {s:ByteArray} (h:s.size=0):s.toList.isEmpty=true:=by
 rw [ByteArray.toList_eq];have:s.data.toList=[]:=List.eq_nil_of_length_eq_zero (by simpa using h)
 rw [this];rfl
theorem wP {s:ByteArray} (h:¬ s.size=0):s.toList.isEmpty=false:=by
 rw [ByteArray.toList_eq,Bool.eq_false_iff];intro b;have:=List.isEmpty_iff.1 b;apply h;have e:=congrArg List.length this;simpa using e
def lead (s:ByteArray):Prop:=∃ h:0 < s.size,s.size=1\/¬ ((s[0].toNat:Int)=48)
theorem BG {s:ByteArray} (h:AA s s.size) (c:lead s):gZ s.data.toList=true:=by
 obtain ⟨d,b⟩:=c;by_cases e:s.size=1
 ·exact Pz h e
 ·rw [Mq h (by omega)]
  simp
  rcases b with b | b
  ·exact absurd b e
  ·omega
theorem Su {s:ByteArray} (h:(!s.toList == [48])=false):s.size=1:=by
 simp [ByteArray.toList_eq] at h;have e:=congrArg List.length h;simpa using e
theorem Ff {s:ByteArray} (i:0 < s.size) (g:((s[0].toNat:Int) == 48)=true) (h:(!s.toList == [48])=true):gZ s.data.toList=false:=by
 have b:s.data.toList.head? = some s[0]:=by
  rw [List.head?_eq_getElem?,List.getElem?_eq_getElem (by simpa using i)];rfl
 have k:s[0]=48:=by
  rw [<- UInt8.toNat_inj];simp at g ⊢;omega
 rw [k] at b;have e:s.data.toList.length=s.size:=by simp
 have d:s.size ≠ 1:=by
  intro j;rw [j] at e;obtain ⟨c,f⟩:=List.length_eq_one_iff.1 e;rw [f] at b;simp at b;simp [ByteArray.toList_eq,f,b] at h
 simp [gZ,b,e,d]
theorem kK (s:ByteArray) (w:World) (o:s.size <= maxLen):
  Calls Tryz.prog 105 #[.string s] w fun e w'=>e=.returned (.bool (gZ s.data.toList))/\w'=w:=by
 unfold maxLen at o;by_cases l:s.size=0
 ·have q:=Jj l;have E:=hide (Mm l);go_enter Tryz.func105,Tryz.ntmps105
  go_wp2;go_ret
  exact ⟨fO (by rw [E.out]),rfl⟩
 ·have q:=wP l;have j:0 < s.size:=by omega
  by_cases c:((s[0].toNat:Int) == 48)=true
  ·by_cases f:(!s.toList == [48])=true
   ·have E:=hide (Ff j c f);go_enter Tryz.func105,Tryz.ntmps105
    go_wp2;go_ret
    exact ⟨fO (by rw [E.out]),rfl⟩
   ·have d:(!s.toList == [48])=false:=by simpa using f
    clear f;have E:Hid (lead s):=⟨j,.inl (Su d)⟩;go_enter Tryz.func105,Tryz.ntmps105
    go_wp2;go_loop [17] (fun i=>∃ k:Nat,k <= s.size/\i=.int .i64 k/\Hid (AA s k)) (fun i=>s.size - (intOf i).toNat)
    case atStart=>exact ⟨0,zl,rfl,rfl⟩
    case round=>
     obtain ⟨k,p,rfl,hd⟩:=hrel;by_cases b:k < s.size
     ·by_cases h:(s[k].toNat:Int) < 48
      ·go_wp2;go_ret
       exact ⟨fO (uH b (by omega)).symm,rfl⟩
      ·by_cases g:57 < (s[k].toNat:Int)
       ·go_wp2;go_ret
        exact ⟨fO (uH b (by omega)).symm,rfl⟩
       ·go_wp2;go_round
        case rel=>exact ⟨k + 1,by omega,by go_num,Ci hd.out b (by omega) (by omega)⟩
        case measure=>simp [intOf];omega
     ·have m:Hid (gZ s.data.toList=true):=by
       have e:k=s.size:=by omega
       subst e;exact BG hd.out E.out
      go_wp2;go_ret
      exact ⟨fO (by rw [m.out]),rfl⟩
  ·have n:((s[0].toNat:Int) == 48)=false:=by simpa using c
   have E:Hid (lead s):=⟨j,.inr (by simpa using c)⟩
   clear c;go_enter Tryz.func105,Tryz.ntmps105
   go_wp2;go_loop [17] (fun i=>∃ k:Nat,k <= s.size/\i=.int .i64 k/\Hid (AA s k)) (fun i=>s.size - (intOf i).toNat)
   case atStart=>exact ⟨0,zl,rfl,rfl⟩
   case round=>
    obtain ⟨k,p,rfl,hd⟩:=hrel;by_cases b:k < s.size
    ·by_cases h:(s[k].toNat:Int) < 48
     ·go_wp2;go_ret
      exact ⟨fO (uH b (by omega)).symm,rfl⟩
     ·by_cases g:57 < (s[k].toNat:Int)
      ·go_wp2;go_ret
       exact ⟨fO (uH b (by omega)).symm,rfl⟩
      ·go_wp2;go_round
       case rel=>exact ⟨k + 1,by omega,by go_num,Ci hd.out b (by omega) (by omega)⟩
       case measure=>simp [intOf];omega
    ·have m:Hid (gZ s.data.toList=true):=by
      have e:k=s.size:=by omega
      subst e;exact BG hd.out E.out
     go_wp2;go_ret
     exact ⟨fO (by rw [m.out]),rfl⟩
theorem dY {B:Nat} {a w:World} (h:Below B a w) (n:Nat):Below B a (w.drewN n):=h.trans ⟨rfl,rfl,rfl,lr,fun _ _=>rfl⟩
end
section
open Go Go.RowKit Go.Deep
def Yp (b:Nat) (xs:List Int):Value:=.slice (some ⟨b,0,none⟩) xs.length xs.length
def kL (xs:List Int) (q:Nat):Value:=.int .i64 (xs.getD q 0)
def wN (cl:List (List Int)) (B:Nat->Nat) (k j:Nat):Value:=if j < k then Yp (B j) (cl.getD j []) else .slice none 0 0
def partAt (xs:List Int) (last:Bool) (p q:Nat):Value:=if last && decide (p <= q) then .int .i64 0 else kL xs q
structure Mem (te ti:TypeId) (base CB:Nat) (cl:List (List Int)) (w0 wr:World) (k:Nat) (B:Nat->Nat) (p:Nat):Prop where
 outer:wr.rowIs CB te cl.length (wN cl B k)
 inner:∀ j,j < k->CB < B j/\wr.rowIs (B j) ti (cl.getD j []).length (partAt (cl.getD j []) (j + 1 == k) p)
 iC:∀ j j',j < j'->j' < k->B j < B j'
 below:Below base w0 wr
 mr:base <= CB
theorem Mem.later {f e:TypeId} {base i:Nat} {g:List (List Int)} {w0 wr b:World} {k:Nat} {B:Nat->Nat} {p:Nat} (h:Mem f e base i g w0 wr k B p) (d:Below wr.heap.size wr b):Mem f e base i g w0 b k B p where
 outer:=h.outer.of_block (d.block _ h.outer.lt)
 inner:=fun j c=>⟨(h.inner j c).1,(h.inner j c).2.of_block (d.block _ (h.inner j c).2.lt)⟩
 iC:=h.iC
 below:=h.below.trans (d.mono (by have:=h.outer.lt;have:=h.mr;omega))
 mr:=h.mr
theorem oz {c:List Int} {b:Bool} {p q:Nat} (h:q < p):partAt c b p q=kL c q:=by
 unfold partAt;rw [if_neg (by simp;intro _;omega)]
theorem iW {b:List Int} {p q:Nat}:partAt b false p q=kL b q:=by unfold partAt;rfl
theorem Mem.push {l f:TypeId} {base d:Nat} {b:List (List Int)} {w0 wr:World} {k:Nat} {B:Nat->Nat} {p:Nat} (h:Mem l f base d b w0 wr k B p) (y:k < b.length)
  (u:∀ j,j + 1=k->(b.getD j []).length <= p) (e:Nat) (n:e=(b.getD k []).length):
  Mem l f base d b w0 ((wr.setCell ⟨d,k,none⟩ (.slice (some ⟨wr.heap.size,0,none⟩) e e)).alloc (.cells (madeCells #[.int .i64 0] e) f)) (k + 1) (fun j=>if j=k then wr.heap.size else B j) 0 where
 outer:=by
  subst n;refine ((h.outer.set k _).alloc _).congr fun i v=>?_
  unfold wN Yp;by_cases e:i=k
  ·subst e;simp
  ·by_cases s:i < k
   ·simp [e,s,show i < k + 1 by omega]
   ·simp [e,s,show ¬ i < k + 1 by omega]
 inner:=fun j z=>by
  subst n;by_cases e:j=k
  ·subst e;simp only [if_true];refine ⟨h.outer.lt,?_⟩;have m:=World.rowIs_made (wr.setCell ⟨d,j,none⟩ (.slice (some ⟨wr.heap.size,0,none⟩) (b.getD j []).length (b.getD j []).length)) (.int .i64 0) (b.getD j []).length f;rw [show (wr.setCell ⟨d,j,none⟩ (.slice (some ⟨wr.heap.size,0,none⟩) (b.getD j []).length (b.getD j []).length)).heap.size=wr.heap.size from by simp [World.setCell]] at m
   exact m.congr fun i v=>by simp [partAt]
  ·have c:j < k:=by omega
   simp only [e,if_false];refine ⟨(h.inner j c).1,?_⟩;have:=((h.inner j c).2.setOther (a:=⟨d,k,none⟩) (by have:=(h.inner j c).1;simp;omega) (.slice (some ⟨wr.heap.size,0,none⟩) (b.getD k []).length (b.getD k []).length)).alloc (.cells (madeCells #[.int .i64 0] (b.getD k []).length) f)
   refine this.congr fun q x=>?_
   have t:(j + 1 == k + 1)=false:=by simp;omega
   rw [t,iW];by_cases r:j + 1=k
   ·exact oz (by have:=u j r;omega)
   ·have:(j + 1 == k)=false:=by simpa using r
    rw [this,iW]
 iC:=fun j g o A=>by
  by_cases e:g=k
  ·subst e;have:¬ j=g:=by omega
   simp only [if_true,this,if_false];exact (h.inner j o).2.lt
  ·have:¬ j=k:=by omega
   simp only [e,this,if_false];exact h.iC j g o (by omega)
 below:=(h.below.setCell (by exact h.mr) _).alloc (by have:=h.outer.lt;have:=h.mr;simp [World.setCell];omega) _
 mr:=h.mr
theorem Mem.put {g f:TypeId} {base m:Nat} {d:List (List Int)} {w0 wr:World} {k:Nat} {B:Nat->Nat} {p:Nat} (h:Mem g f base m d w0 wr (k + 1) B p) (x:Int) (o:x=(d.getD k []).getD p 0):
  Mem g f base m d w0 (wr.setCell ⟨B k,p,none⟩ (.int .i64 x)) (k + 1) B (p + 1) where
 outer:=h.outer.setOther (by have:=(h.inner k (by omega)).1;simp;omega) _
 inner:=fun j c=>by
  refine ⟨(h.inner j c).1,?_⟩;by_cases e:j=k
  ·subst e;refine ((h.inner j c).2.set p _).congr fun q r=>?_
   have s:(j + 1 == j + 1)=true:=by simp
   rw [s];by_cases l:q=p
   ·subst l;simp [partAt,kL,o];intro h;omega
   ·simp only [l,if_false];unfold partAt;by_cases i:p <= q
    ·simp [i,show p + 1 <= q by omega]
    ·simp [i,show ¬ p + 1 <= q by omega]
  ·have b:j < k:=by omega
   refine ((h.inner j c).2.setOther (a:=⟨B k,p,none⟩) (by have:=h.iC j k b (by omega);simp;omega) _).congr fun q r=>?_
   have n:(j + 1 == k + 1)=false:=by simp;omega
   rw [n,iW,iW]
 iC:=h.iC
 below:=h.below.setCell (by have:=(h.inner k (by omega)).1;have:=h.mr;simp;omega) _
 mr:=h.mr
structure Lists (te ti:TypeId) (base:Nat) (w:World) (v:Value) (cl:List (List Int)):Prop where
 ex:∃ (CB:Nat) (B:Nat->Nat),v=.slice (some ⟨CB,0,none⟩) cl.length cl.length/\base <= CB/\w.rowIs CB te cl.length (fun j=>Yp (B j) (cl.getD j []))/\
  (∀ j,j < cl.length->CB < B j/\w.rowIs (B j) ti (cl.getD j []).length (kL (cl.getD j [])))/\∀ j j',j < j'->j' < cl.length->B j < B j'
theorem Lists.mono {d c:TypeId} {base b:Nat} {w:World} {v:Value} {e:List (List Int)} (h:Lists d c base w v e) (j:b <= base):Lists d c b w v e:=by
 obtain ⟨i,B,g,k,f⟩:=h.ex;exact ⟨i,B,g,by omega,f⟩
theorem Mem.lists {f d:TypeId} {base c:Nat} {b:List (List Int)} {w0 wr:World} {B:Nat->Nat} {p:Nat} (h:Mem f d base c b w0 wr b.length B p) (k:∀ j,j + 1=b.length->(b.getD j []).length <= p):
  Lists f d base wr (.slice (some ⟨c,0,none⟩) b.length b.length) b:=
 ⟨c,B,rfl,h.mr,h.outer.congr fun i l=>by simp [wN,l],fun j g=>⟨(h.inner j g).1,(h.inner j g).2.congr fun q m=>by
  by_cases e:j + 1=b.length
  ·exact oz (by have:=k j e;omega)
  ·have:(j + 1 == b.length)=false:=by simpa using e
   rw [this,iW]⟩,h.iC⟩
def jG (xs:List Int):List Value:=xs.map (Value.int .i64)
theorem own_ne {w:World} {B f d n m:Nat} {v u:Value} {j ys:List Value} (o:w.ownsRow B f 1 v n j) (l:w.ownsRow B d 1 u m ys) (c:f ≠ d):v.ownBlock=none\/v.ownBlock ≠ u.ownBlock:=by
 rcases o.2 with ⟨rfl,_⟩ | ⟨g,q,p,rfl,_,k,_⟩
 ·exact .inl rfl
 ·right
  rcases l.2 with ⟨rfl,_⟩ | ⟨r,i,h,rfl,_,b,_⟩
  ·simp [Value.ownBlock]
  ·simp only [Value.ownBlock,ne_eq,Option.some.injEq];intro e;subst e;rw [k] at b;simp at b;exact c b.2
structure gQ (te ti B:Nat) (wr:World) (cv NQ:Value) (us:List Value) (cs:List (List Int)) (cur:List Int):Prop where
 outer:wr.ownsRow B te 1 cv us.length us
 row:wr.ownsRow B ti 1 NQ cur.length (jG cur)
 len:us.length=cs.length
 inner:∀ (j:Nat) u,us[j]? = some u->wr.ownsRow B ti 1 u (cs.getD j []).length (jG (cs.getD j []))/\(u.ownBlock=none\/u.ownBlock ≠ NQ.ownBlock)
theorem gQ.later {m l B:Nat} {wr b:World} {cv f:Value} {i:List Value} {cs:List (List Int)} {e:List Int} (h:gQ m l B wr cv f i cs e) (d:Below wr.heap.size wr b):gQ m l B b cv f i cs e:=by
 have q:wr.grownBy b none:=⟨d.os,d.tape,d.output,d.size,fun k p _=>d.block k p⟩
 have c:∀ {t n v xs},wr.ownsRow B t 1 v n xs->b.ownsRow B t 1 v n xs:=fun {t n v xs} ho=>by
  refine ho.kept q ?_
  cases r:v.ownBlock with
  | none=>exact .inl rfl
  | some g=>exact .inr (by simp)
 exact ⟨c h.outer,c h.row,h.len,fun j u o=>⟨c (h.inner j u o).1,(h.inner j u o).2⟩⟩
theorem gQ.lit {n l B:Nat} {wr m:World} {cv k b:Value} {s:List Value} {cs:List (List Int)} {d:List Int} {o:Obj} {x:Int} (q:n ≠ l) (h:gQ n l B wr cv k s cs d)
  (f:m.ownsRow B l 1 b (d.length + 1) (jG d ++ [.int .i64 x])) (c:(wr.alloc o).grownBy m k.ownBlock) (r:b.ownBlock=k.ownBlock\/b.ownBlock=some (wr.alloc o).heap.size):
  gQ n l B m cv b s cs (d ++ [x]) where
 outer:=(h.outer.alloc o).kept c (own_ne h.outer h.row q)
 row:=by simpa [jG] using f
 len:=h.len
 inner:=fun j u v=>by
  obtain ⟨t,i⟩:=h.inner j u v;refine ⟨(t.alloc o).kept c i,?_⟩
  cases p:u.ownBlock with
  | none=>exact .inl rfl
  | some g=>
   right
   rcases r with e | e
   ·rw [e,<- p];rcases i with i | i
    ·rw [p] at i;cases i
    ·exact i
   ·rw [e];have:=(t.lt g p).2;simp;omega
theorem gQ.zero {r k B:Nat} {wr q:World} {cv p i:Value} {c:List Value} {cs:List (List Int)} {b:List Int} {o:Obj} (s:r ≠ k) (h:gQ r k B wr cv i c cs b)
  (d:q.ownsRow B r 1 p (c.length + 1) (c ++ [i])) (f:(wr.alloc o).grownBy q cv.ownBlock):
  gQ r k B q p (.slice none 0 0) (c ++ [i]) (cs ++ [b]) [] where
 outer:=by simpa using d
 row:=World.ownsRow_nil _ _ _ _
 len:=by simp [h.len]
 inner:=fun j u m=>by
  have keep:∀ {n v xs},wr.ownsRow B k 1 v n xs->q.ownsRow B k 1 v n xs:=fun {n v xs} ho=>(ho.alloc o).kept f (own_ne ho h.outer (fun e=>s e.symm))
  have x:u.ownBlock=none\/u.ownBlock ≠ (Value.slice none 0 0).ownBlock:=by
   cases y:u.ownBlock with
   | none=>exact .inl rfl
   | some g=>exact .inr (by simp [Value.ownBlock])
  refine ⟨?_,x⟩;by_cases l:j < c.length
  ·rw [List.getElem?_append_left l] at m;have t:(cs ++ [b]).getD j []=cs.getD j []:=by
    simp only [List.getD_eq_getElem?_getD];rw [List.getElem?_append_left (by rw [<- h.len];exact l)]
   rw [t];exact keep (h.inner j u m).1
  ·have e:j=c.length:=by
    have:=(List.getElem?_eq_some_iff.1 m).1;simp at this;omega
   subst e;simp at m;subst m;have t:(cs ++ [b]).getD c.length []=b:=by
    simp only [List.getD_eq_getElem?_getD];rw [h.len,List.getElem?_append_right lr];simp
   rw [t];exact keep h.row
def WM (te ti B:Nat) (w:World) (v:Value) (cl:List (List Int)):Prop:=∃ us,gQ te ti B w v (.slice none 0 0) us cl []
def RV (w:World) (u:Value) (xs:List Int):Prop:=∃ (a:Option Addr) (c b:Nat),u=.slice a xs.length c/\(0 < xs.length->a=some ⟨b,0,none⟩)/\∀ j,j < xs.length->w.cell? ⟨b,j,none⟩=some (.int .i64 (xs.getD j 0))
def xQ (w:World) (v:Value) (cl:List (List Int)):Prop:=∃ (a:Option Addr) (c b:Nat),v=.slice a cl.length c/\(0 < cl.length->a=some ⟨b,0,none⟩)/\∀ i,i < cl.length->∃ u,w.cell? ⟨b,i,none⟩=some u/\RV w u (cl.getD i [])
theorem Lists.read {f e B:Nat} {w:World} {v:Value} {b:List (List Int)} (h:Lists f e B w v b):xQ w v b:=by
 obtain ⟨m,d,rfl,o,l,k,n⟩:=h.ex;refine ⟨_,b.length,m,rfl,fun _=>rfl,fun i c=>⟨_,l.cell c,?_⟩⟩
 exact ⟨some ⟨d i,0,none⟩,(b.getD i []).length,d i,rfl,fun _=>rfl,fun j g=>(k i c).2.cell g⟩
theorem EN (w:World):xQ w (.slice none 0 0) []:=⟨none,0,0,rfl,fun h=>by simp at h,fun i b=>by simp at b⟩
theorem Tryz.uR:(Tryz.prog.info? 3).map (fun i=>(i.zero,i.size,i.bytes))=some (some (.int .i64 0),1,8):=by kernel_rfl
theorem Tryz.vS:(Tryz.prog.info? 43).map (fun i=>(i.zero,i.size,i.bytes))=some (some (.slice none 0 0),1,24):=by kernel_rfl
theorem zL (T:List Bs):(fG T).1.length <= T.length/\(fG T).2.length <= T.length:=by
 suffices h:∀ (T:List Bs) (b:List (List Int) × List Int) (n:Nat),b.1.length <= n->b.2.length <= n->(T.foldl fu b).1.length <= n + T.length/\(T.foldl fu b).2.length <= n + T.length by
  have:=h T ([],[]) 0 (by simp) (by simp);simpa [nQ] using this
 intro T
 induction T with
 | nil=>intro b n e d;simpa using ⟨e,d⟩
 | cons t r ih=>
  intro b n e d;simp only [List.foldl_cons,List.length_cons];have c:(fu b t).1.length <= n + 1/\(fu b t).2.length <= n + 1:=by
   unfold fu;split <;> simp <;> omega
  have:=ih (fu b t) (n + 1) c.1 c.2;omega
theorem Mf {l v c:Bs} (h:uG l=some (v,c)):gZ v=true:=by
 unfold uG at h;split at h
 ·split at h
  ·rename_i b;simp only [Bool.and_eq_true] at b;simp only [Option.some.injEq,Prod.mk.injEq] at h;rw [<- h.1];exact b.1.2
  ·cases h
 ·cases h
theorem Ca:∀ (f:Nat) {l v c r:Bs},pK f l=some (v,c,r)->gZ v=true
 | 0,l,v,c,r,h=>by simp [pK] at h
 | f + 1,l,v,c,r,h=>by
  unfold pK at h;split at h
  ·split at h
   ·exact Ca f h
   ·obtain ⟨x,b,e⟩:=Option.map_eq_some_iff.1 h;simp only [Prod.mk.injEq] at e;obtain ⟨g,d⟩:=x;simp only at e;rw [<- e.1];exact Mf b
  ·cases h
theorem dG {w':World} {B:Nat} {v:Value} {n:Nat} {d:List Value} {t:TypeId} (h:w'.ownsRow B t 1 v n d):∃ a c,v=.slice a n c:=by
 rcases h.2 with ⟨rfl,e⟩ | ⟨g,b,f,rfl,_⟩
 ·exact ⟨none,0,by rw [e]⟩
 ·exact ⟨_,b,rfl⟩
def jH (l:Int):Prop:=(1 <= l/\l <= 50)\/(-50 <= l/\l <= -1)
def Ya (w:World) (u:Value) (xs:List Int):Prop:=∃ (a:Option Addr) (c b:Nat),u=.slice a xs.length c/\xs.length <= c/\(0 < xs.length->a=some ⟨b,0,none⟩)/\∀ j,j < xs.length->w.cell? ⟨b,j,none⟩=some (.int .i64 (xs.getD j 0))
theorem OP {w:World} {B e:Nat} {u:Value} {b:List Int} (h:w.ownsRow B e 1 u b.length (jG b)):Ya w u b:=by
 have i:=h
 rcases h.2 with ⟨rfl,k⟩ | ⟨g,c,l,rfl,_,_,f,_⟩
 ·exact ⟨none,0,0,by rw [k],by omega,fun m=>by omega,fun j d=>by omega⟩
 ·refine ⟨some ⟨g,0,none⟩,c,g,rfl,f,fun _=>rfl,fun j d=>?_⟩
  have:=i.cells (g:=g) rfl j (.int .i64 (b.getD j 0)) (by simp [jG,d,List.getD_eq_getElem?_getD])
  simpa [Addr.add_lit] using this
end
abbrev Key:Type:=Nat × Nat
def wide:Nat:=18446744073709551616
def Key.ok (s:Key):Prop:=s.1 < wide/\s.2 < wide
def dZ (l:Int):Prop:=(1 <= l/\l <= 64)\/(-64 <= l/\l <= -1)
def Key.has (s:Key) (l:Int):Bool:=if 0 < l then s.1.testBit (l.toNat - 1) else if l < 0 then s.2.testBit ((-l).toNat - 1) else false
def andNot (a b:Nat):Nat:=a ^^^ (a &&& b)
def Key.un (s t:Key):Key:=(s.1 ||| t.1,s.2 ||| t.2)
def Key.wo (s t:Key):Key:=(andNot s.1 t.1,andNot s.2 t.2)
def Key.op (s:Key):Key:=(s.2,s.1)
def single (l:Int):Key:=if l < 0 then (0,2 ^ ((-l).toNat - 1)) else (2 ^ (l.toNat - 1),0)
def Key.one (s:Key):Key:=if s.1 ≠ 0 then (2 ^ Lib.ctz 64 s.1,0) else (0,2 ^ Lib.ctz 64 s.2)
def Key.gY (s:Key):Int:=if s.1 ≠ 0 then (Lib.ctz 64 s.1:Int) + 1 else -((Lib.ctz 64 s.2:Int) + 1)
def place (l:Int):Nat:=if 0 < l then l.toNat - 1 else 64 + ((-l).toNat - 1)
def setOf (c:List Int):Key:=c.foldl (fun s l=>s.un (single l)) (0,0)
theorem uy {x i:Nat} (h:x < wide) (c:x.testBit i=true):i < 64:=by
 rcases Nat.lt_or_ge i 64 with b | b
 ·exact b
 ·have:x < 2 ^ i:=Nat.lt_of_lt_of_le (show x < 2 ^ 64 from h) (Nat.pow_le_pow_right (by decide) b)
  rw [Nat.testBit_lt_two_pow this] at c;cases c
theorem Key.KI {s:Key} (h:s.ok) {l:Int} (b:s.has l=true):dZ l:=by
 unfold Key.has at b;split at b
 ·have:=uy h.1 b;left;omega
 ·split at b
  ·have:=uy h.2 b;right;omega
  ·cases b
theorem gq (s:Key) (i:Nat):s.has ((i:Int) + 1)=s.1.testBit i:=by
 unfold Key.has;rw [if_pos (by omega)];congr 1
theorem gu (s:Key) (i:Nat):s.has (-((i:Int) + 1))=s.2.testBit i:=by
 unfold Key.has;rw [if_neg (by omega),if_pos (by omega)];congr 1
theorem iA (l:Int):l=0\/(∃ i:Nat,l=(i:Int) + 1)\/∃ i:Nat,l=-((i:Int) + 1):=by
 rcases Int.lt_trichotomy l 0 with h | h | h
 ·right;right;exact ⟨(-l - 1).toNat,by omega⟩
 ·left;exact h
 ·right;left;exact ⟨(l - 1).toNat,by omega⟩
theorem jC (s:Key):s.has 0=false:=by unfold Key.has;simp
theorem kJ {s t:Key} (h:∀ l,s.has l=t.has l):s=t:=by
 obtain ⟨e,d⟩:=s;obtain ⟨c,b⟩:=t
 congr 1
 ·exact Nat.eq_of_testBit_eq fun i=>by have:=h ((i:Int) + 1);rwa [gq,gq] at this
 ·exact Nat.eq_of_testBit_eq fun i=>by have:=h (-((i:Int) + 1));rwa [gu,gu] at this
theorem nG (a b i:Nat):(andNot a b).testBit i=(a.testBit i && !b.testBit i):=by
 unfold andNot;rw [Nat.testBit_xor,Nat.testBit_and];cases a.testBit i <;> cases b.testBit i <;> rfl
theorem dL (s t:Key) (l:Int):(s.un t).has l=(s.has l || t.has l):=by
 rcases iA l with rfl | ⟨i,rfl⟩ | ⟨i,rfl⟩
 ·simp [jC]
 ·simp [gq,Key.un,Nat.testBit_or]
 ·simp only [gu,Key.un,Nat.testBit_or]
theorem kM (s t:Key) (l:Int):(s.wo t).has l=(s.has l && !t.has l):=by
 rcases iA l with rfl | ⟨i,rfl⟩ | ⟨i,rfl⟩
 ·simp [jC]
 ·simp only [gq,Key.wo,nG]
 ·simp only [gu,Key.wo,nG]
theorem Jl (s:Key) (l:Int):s.op.has l=s.has (-l):=by
 rcases iA l with rfl | ⟨i,rfl⟩ | ⟨i,rfl⟩
 ·simp [jC]
 ·rw [gq,gu];rfl
 ·rw [gu,Int.neg_neg,gq];rfl
theorem fB (l:Int):Key.has (0,0) l=false:=by
 rcases iA l with rfl | ⟨i,rfl⟩ | ⟨i,rfl⟩
 ·simp [jC]
 ·rw [gq];simp
 ·rw [gu];simp
theorem di {l:Int} (b:l ≠ 0) (x:Int):(single l).has x=decide (x=l):=by
 rcases iA l with rfl | ⟨i,rfl⟩ | ⟨i,rfl⟩
 ·exact absurd rfl b
 ·have e:single ((i:Int) + 1)=(2 ^ i,0):=by unfold single;rw [if_neg (by omega)];congr 2
  rw [e]
  rcases iA x with rfl | ⟨j,rfl⟩ | ⟨j,rfl⟩
  ·rw [jC];symm;simp;omega
  ·rw [gq,Nat.testBit_two_pow];simp;omega
  ·rw [gu];simp;omega
 ·have e:single (-((i:Int) + 1))=(0,2 ^ i):=by unfold single;rw [if_pos (by omega)];congr 2
  rw [e]
  rcases iA x with rfl | ⟨j,rfl⟩ | ⟨j,rfl⟩
  ·rw [jC];symm;simp;omega
  ·rw [gq];simp;omega
  ·rw [gu,Nat.testBit_two_pow];simp;omega
theorem qK {s t:Key} (c:s.ok) (b:t.ok):(s.un t).ok:=
 ⟨show _ < 2 ^ 64 from Nat.or_lt_two_pow c.1 b.1,show _ < 2 ^ 64 from Nat.or_lt_two_pow c.2 b.2⟩
theorem wh {a b:Nat} (h:a < wide):andNot a b < wide:=by
 show _ < 2 ^ 64
 exact Nat.xor_lt_two_pow h (Nat.lt_of_le_of_lt Nat.and_le_left h)
theorem sV {s:Key} (b:s.ok) (t:Key):(s.wo t).ok:=⟨wh b.1,wh b.2⟩
theorem Pt {s:Key} (b:s.ok):s.op.ok:=⟨b.2,b.1⟩
theorem kQ:Key.ok (0,0):=⟨by decide,by decide⟩
theorem fQ {l:Int} (h:dZ l):(single l).ok:=by
 unfold single
 rcases h with h | h
 ·rw [if_neg (by omega)];exact ⟨show _ < 2 ^ 64 from Nat.pow_lt_pow_right (by decide) (by omega),show 0 < wide by decide⟩
 ·rw [if_pos (by omega)];exact ⟨show 0 < wide by decide,show _ < 2 ^ 64 from Nat.pow_lt_pow_right (by decide) (by omega)⟩
theorem zf (c:List Int) (b:∀ l ∈ c,l ≠ 0):∀ (s:Key) (x:Int),(c.foldl (fun s l=>s.un (single l)) s).has x=(s.has x || decide (x ∈ c)):=by
 induction c with
 | nil=>intro s x;simp
 | cons a r ih=>
  intro s x;rw [List.foldl_cons,ih (fun l d=>b l (List.mem_cons_of_mem _ d)),dL,di (b a (List.mem_cons_self ..)),Bool.or_assoc]
  congr 1
  by_cases e:x=a <;> simp [e]
theorem has_setOf {c:List Int} (b:∀ l ∈ c,l ≠ 0) (x:Int):(setOf c).has x=decide (x ∈ c):=by
 unfold setOf;rw [zf c b,fB];simp
theorem Ak (c:List Int) (h:∀ l ∈ c,dZ l):∀ (s:Key),s.ok->(c.foldl (fun s l=>s.un (single l)) s).ok:=by
 induction c with
 | nil=>intro s b;exact b
 | cons a r ih=>intro s b;exact ih (fun l d=>h l (List.mem_cons_of_mem _ d)) _ (qK b (fQ (h a (List.mem_cons_self ..))))
theorem yx {c:List Int} (h:∀ l ∈ c,dZ l):(setOf c).ok:=Ak c h _ kQ
theorem setOf_snoc (c:List Int) (l:Int):setOf (c ++ [l])=(setOf c).un (single l):=by unfold setOf;rw [List.foldl_append];rfl
theorem dE {l:Int} (h:dZ l):l ≠ 0:=by rcases h with h | h <;> omega
theorem Ng {l:Int} (h:dZ l):dZ (-l):=by
 rcases h with h | h
 ·right;omega
 ·left;omega
theorem Cg (s:Key):(s.1 ||| s.2=0)↔s=(0,0):=by
 obtain ⟨a,b⟩:=s;constructor
 ·intro h
  have c:(a ||| b)=0:=h;have e:a=0:=Nat.eq_of_testBit_eq fun i=>by have:=congrArg (Nat.testBit · i) c;simp only [Nat.testBit_or,Nat.zero_testBit,Bool.or_eq_false_iff] at this;simp [this.1]
  have d:b=0:=Nat.eq_of_testBit_eq fun i=>by have:=congrArg (Nat.testBit · i) c;simp only [Nat.testBit_or,Nat.zero_testBit,Bool.or_eq_false_iff] at this;simp [this.2]
  rw [e,d]
 ·intro h;cases h;rfl
theorem oC {x:Nat}:x ≠ 0↔∃ i,x.testBit i=true:=⟨Nat.exists_testBit_of_ne_zero,fun ⟨i,h⟩ e=>by rw [e] at h;simp at h⟩
theorem kH (s:Key):s ≠ (0,0)↔∃ l,s.has l=true:=by
 constructor
 ·intro h
  rcases Classical.em (∃ l,s.has l=true) with b | b
  ·exact b
  ·exact absurd (kJ fun l=>by rw [fB];cases e:s.has l with | false=>rfl | true=>exact absurd ⟨l,e⟩ b) h
 ·rintro ⟨l,c⟩ rfl;rw [fB] at c;cases c
theorem Mx (s t:Key):((s.1 &&& t.1) ||| (s.2 &&& t.2) ≠ 0)↔∃ l,s.has l=true/\t.has l=true:=by
 have e:∀ l,Key.has (s.1 &&& t.1,s.2 &&& t.2) l=(s.has l && t.has l):=fun l=>by
  rcases iA l with rfl | ⟨i,rfl⟩ | ⟨i,rfl⟩
  ·simp [jC]
  ·simp only [gq,Nat.testBit_and]
  ·simp only [gu,Nat.testBit_and]
 have c:=Cg (s.1 &&& t.1,s.2 &&& t.2);have b:=kH (s.1 &&& t.1,s.2 &&& t.2);simp only [e,Bool.and_eq_true] at b;rw [<- b];exact not_congr c
theorem Nw (s:Key):(s.1 &&& s.2 ≠ 0)↔∃ l,s.has l=true/\s.has (-l)=true:=by
 rw [oC];constructor
 ·rintro ⟨i,d⟩;rw [Nat.testBit_and,Bool.and_eq_true] at d;exact ⟨(i:Int) + 1,by rw [gq];exact d.1,by rw [gu];exact d.2⟩
 ·rintro ⟨l,b,c⟩
  rcases iA l with rfl | ⟨i,rfl⟩ | ⟨i,rfl⟩
  ·rw [jC] at b;cases b
  ·rw [gq] at b;rw [gu] at c;exact ⟨i,by rw [Nat.testBit_and,b,c];rfl⟩
  ·rw [gu] at b;rw [Int.neg_neg,gq] at c;exact ⟨i,by rw [Nat.testBit_and,b,c];rfl⟩
theorem Dw {x:Nat} (d:x ≠ 0) (h:x < wide):x.testBit (Lib.ctz 64 x)=true/\Lib.ctz 64 x < 64:=by
 obtain ⟨c,b⟩:=Lib.lowest_bit 64 x d h;refine ⟨?_,b⟩;have:=congrArg (Nat.testBit · (Lib.ctz 64 x)) c;simp only [Nat.testBit_and,Nat.testBit_two_pow_self,Bool.and_eq_true] at this;exact this.1
theorem mY {s:Key} (f:s.ok) (h:s ≠ (0,0)):s.one=single s.gY/\s.has s.gY=true/\dZ s.gY:=by
 unfold Key.one Key.gY;by_cases c:s.1 ≠ 0
 ·rw [if_pos c,if_pos c];obtain ⟨d,g⟩:=Dw c f.1;refine ⟨?_,by rw [gq];exact d,.inl (by omega)⟩
  unfold single;rw [if_neg (by omega)];congr 2
 ·rw [if_neg c,if_neg c];have i:s.2 ≠ 0:=by
   intro e;apply h;obtain ⟨a,b⟩:=s;simp only [ne_eq,Decidable.not_not] at c;simp only at e c;rw [c,e]
  obtain ⟨d,g⟩:=Dw i f.2;refine ⟨?_,by rw [gu];exact d,.inr (by omega)⟩
  unfold single;rw [if_pos (by omega)];congr 2
theorem gP {l:Int} (h:dZ l):place l < 128:=by unfold place;rcases h with h | h <;> split <;> omega
theorem ko {l b:Int} (h:dZ l) (c:dZ b) (e:place l=place b):l=b:=by
 unfold place at e
 rcases h with h | h <;> rcases c with c | c <;> (split at e <;> split at e <;> omega)
section
open Go Go.RowKit Go.Deep
theorem sI {l:Int} (h:jH l):l ≠ 0:=by rcases h with h | h <;> omega
theorem nP {l:Int} (h:jH l):dZ l:=by
 rcases h with h | h
 ·left;omega
 ·right;omega
theorem Ck {α:Type} {p q:α->Bool}:∀ {l:List α},(∀ x ∈ l,p x=true->q x=true)->(∃ x ∈ l,q x=true/\p x=false)->l.countP p < l.countP q
 | [],_,⟨x,b,_⟩=>by simp at b
 | a :: l,h,⟨x,b,h1,h2⟩=>by
  have f:l.countP p <= l.countP q:=List.countP_mono_left fun y c d=>h y (List.mem_cons_of_mem _ c) d
  rcases List.mem_cons.1 b with rfl | b
  ·rw [List.countP_cons_of_neg (by simp [h2]),List.countP_cons_of_pos h1];omega
  ·have e:=Ck (l:=l) (fun y c=>h y (List.mem_cons_of_mem _ c)) ⟨x,b,h1,h2⟩
   have g:=h a (List.mem_cons_self ..);rw [List.countP_cons,List.countP_cons]
   cases d:p a with
   | true=>rw [g d];simp;exact e
   | false=>simp;omega
def WT (w:World) (v:Value) (cl:List (List Int)):Prop:=∃ (a:Option Addr) (c b:Nat),v=.slice a cl.length c/\cl.length <= c/\(0 < cl.length->a=some ⟨b,0,none⟩)/\∀ i,i < cl.length->∃ u,w.cell? ⟨b,i,none⟩=some u/\Ya w u (cl.getD i [])
theorem WM.lists {m l B:Nat} {w:World} {v:Value} {k:List (List Int)} (h:WM m l B w v k):WT w v k:=by
 obtain ⟨c,h⟩:=h;have e:=h.len;have n:=h.outer
 rcases h.outer.2 with ⟨rfl,o⟩ | ⟨g,d,f,rfl,_,_,p,_⟩
 ·exact ⟨none,0,0,by rw [<- e,o],by omega,fun s=>by omega,fun j q=>by omega⟩
 ·refine ⟨some ⟨g,0,none⟩,d,g,by rw [e],by omega,fun _=>rfl,fun i r=>?_⟩
  have b:i < c.length:=by omega
  refine ⟨c[i],?_,OP (h.inner i c[i] (List.getElem?_eq_getElem b)).1⟩;have:=n.cells (g:=g) rfl i c[i] (List.getElem?_eq_getElem b);simpa [Addr.add_lit] using this
end
section
open Go
section
def Src (w:World) (y:Value) (m:Nat) (news:List Value):Prop:=
 (y=.slice none 0 0/\m=0/\news=[])\/∃ ad c,y=.slice (some ad) m c/\∀ j u,news[j]? = some u->w.cell? (ad.add j)=some u
structure dB (w:World) (base e size:Nat) (v:Value) (n:Nat) (xs:List Value) (m:Nat) (news:List Value) (v':Value) (w':World):Prop where
 own:w'.ownsRow base e size v' (n + m) (xs ++ news)
 grew:w.grownBy w' v.ownBlock
 at':v'.ownBlock=v.ownBlock\/v'.ownBlock=some w.heap.size
section
variable {P:Program}
theorem yB (w:World) (t k base e:Nat) (i:TypeInfo) (z:Value) (size bytes:Nat) (r:P.underlying t=some (.slice e)) (hi:P.info? e=some i) (s:i.zero=some z)
  (f:i.size=size) (p:i.bytes=bytes) (l:z.cells.size=size) (o:0 < size) (v:Value) (n:Nat) (h:List Value) (b:w.ownsRow base e size v n h)
  (y:Value) (m:Nat) (news:List Value) (x:Src w y m news) (C:news.length=m * size) (H:∀ u ∈ news,u.oneCell'=true)
  (q:n + m <= maxLen) (d:(n + m) * bytes <= 140737488355328) (g:base <= w.heap.size):
  ∃ j w',(Builtin.append_ #[t,t] k #[v,y]).run P w=.ok j w'/\dB w base e size v n h m news j w':=by
 rcases x with ⟨rfl,rfl,rfl⟩ | ⟨I,c,rfl,D⟩
 ·exact ⟨v,w,run_append_owned_none (P:=P) (w:=w) base t k e i size r hi v n h b,by simpa using b,⟨rfl,rfl,rfl,lr,fun _ _ _=>rfl⟩,.inl rfl⟩
 ·obtain ⟨j,w',A,G,F,_,E⟩:=run_append_own_at (P:=P) w base t k e i z size bytes r hi s f p l o v n h b I m c news C D H q d g;exact ⟨j,w',A,G,F,E⟩
theorem sU (w:World) {o:Oper} {a:Act} {K:Act->World->Prop} {Q:Exit->Act->World->Prop} (s x:Operand) (t:TypeId)
  (G:o.op=.call { callee:=.builtin .append,args:=#[s,x],argTypes:=#[t,t] })
  (base e:Nat) (i:TypeInfo) (z:Value) (size bytes:Nat) (D:P.underlying t=some (.slice e)) (hi:P.info? e=some i) (r:i.zero=some z)
  (c:i.size=size) (p:i.bytes=bytes) (k:z.cells.size=size) (l:0 < size) (v:Value) (n:Nat) (j:List Value) (E:a.eval s=v) (f:w.ownsRow base e size v n j)
  (y:Value) (m:Nat) (news:List Value) (C:a.eval x=y) (A:Src w y m news) (H:news.length=m * size) (J:∀ u ∈ news,u.oneCell'=true)
  (q:n + m <= maxLen) (b:(n + m) * bytes <= 140737488355328) (d:base <= w.heap.size)
  (h:∀ g w',dB w base e size v n j m news g w'->K (a.put o.dst g) w'):o.wp P a w K Q:=by
 obtain ⟨g,w',F,I⟩:=yB (P:=P) w t o.type base e i z size bytes D hi r c p k l v n j f y m news A H J q b d;unfold Oper.wp execOp;simp only [G,resolve,invoke,builtin,Sem.run_bind,Sem.run_pure,Result.andThen_ok,List.map_toArray,List.map_cons,List.map_nil,E,C,F];exact h g w' I
theorem dR (w:World) {f:Array Oper} {rest:List Oper} {o:Oper} {a:Act} {Q:Exit->Act->World->Prop} (q:o.guard=none) (s x:Operand) (t:TypeId)
  (H:o.op=.call { callee:=.builtin .append,args:=#[s,x],argTypes:=#[t,t] })
  (base e:Nat) (i:TypeInfo) (z:Value) (size bytes:Nat) (F:P.underlying t=some (.slice e)) (hi:P.info? e=some i) (C:i.zero=some z)
  (c:i.size=size) (r:i.bytes=bytes) (l:z.cells.size=size) (p:0 < size) (v:Value) (n:Nat) (k:List Value) (G:a.eval s=v) (g:w.ownsRow base e size v n k)
  (y:Value) (m:Nat) (news:List Value) (E:a.eval x=y) (D:Src w y m news) (I:news.length=m * size) (M:∀ u ∈ news,u.oneCell'=true)
  (A:n + m <= maxLen) (b:(n + m) * bytes <= 140737488355328) (d:base <= w.heap.size)
  (h:∀ j w',dB w base e size v n k m news j w'->wpList P f Q rest (a.put o.dst j) w'):wpList P f Q (o :: rest) a w:=
 wpList_plain q fun _ J=>sU w s x t H base e i z size bytes F hi C c r l p v n k G g y m news E D I M A b d fun j w' L=>J _ _ (h j w' L)
theorem iq (w:World) {f:Array Oper} {o:Oper} {a:Act} {K:Act->World->Prop} {Q:Exit->Act->World->Prop} {E:Prop} (p:o.guard=none) (s x:Operand) (t:TypeId)
  (J:o.op=.call { callee:=.builtin .append,args:=#[s,x],argTypes:=#[t,t] })
  (base e:Nat) (i:TypeInfo) (z:Value) (size bytes:Nat) (H:P.underlying t=some (.slice e)) (hi:P.info? e=some i) (C:i.zero=some z)
  (c:i.size=size) (q:i.bytes=bytes) (k:z.cells.size=size) (l:0 < size) (v:Value) (n:Nat) (j:List Value) (I:a.eval s=v) (g:w.ownsRow base e size v n j)
  (y:Value) (m:Nat) (news:List Value) (F:a.eval x=y) (D:Src w y m news) (L:news.length=m * size) (M:∀ u ∈ news,u.oneCell'=true)
  (r:n + m <= maxLen) (b:(n + m) * bytes <= 140737488355328) (d:base <= w.heap.size)
  (h:∀ A w',dB w base e size v n j m news A w'->K (a.put o.dst A) w'):
  if Region.wanted o (yielded f a.tmps)=true then Oper.wp P o a w K Q else E:=by
 have G:Region.wanted o (yielded f a.tmps)=true:=by simp [Region.wanted,p]
 rw [if_pos G];exact sU w s x t J base e i z size bytes H hi C c q k l v n j I g y m news F D L M r b d h
end
end
end
section
open Go Go.RowKit Go.Deep
theorem yH {w w':World} {B e size n:Nat} {v:Value} {c:List Value} (h:w.ownsRow B e size v n c) (b:Below w.heap.size w w'):w'.ownsRow B e size v n c:=by
 have f:w.grownBy w' none:=⟨b.os,b.tape,b.output,b.size,fun k d _=>b.block k d⟩
 refine h.kept f ?_
 cases i:v.ownBlock with
 | none=>exact .inl rfl
 | some g=>exact .inr (by simp)
end
end Rd
end Go.Proofs.YtceahffmenbibaaGreatDoor
namespace Go.Proofs.YtceahffmenbibaaGreatDoor
namespace So
section
open Go Go.RowKit Rd
section
structure rU (B:Nat) (w:World) (K:Nat) (T:Nat->TypeId) (V:Nat->Value) (X:Nat->List Value):Prop where
 own:∀ k,k < K->w.ownsRow B (T k) 1 (V k) (X k).length (X k)
 apart:∀ k k',k < K->k' < K->k ≠ k'->(V k).ownBlock=none\/(V k).ownBlock ≠ (V k').ownBlock
def upd {α:Type} (f:Nat->α) (k:Nat) (a:α):Nat->α:=fun j=>if j=k then a else f j
theorem cK {α:Type} (f:Nat->α) (k:Nat) (a:α):upd f k a k=a:=by unfold upd;rw [if_pos rfl]
theorem cz {α:Type} (f:Nat->α) {k j:Nat} (a:α) (h:j ≠ k):upd f k a j=f j:=by unfold upd;rw [if_neg h]
theorem upd_same {α:Type} (f:Nat->α) (k:Nat):upd f k (f k)=f:=by funext j;unfold upd;split <;> simp_all
variable {B K:Nat} {w w':World} {T:Nat->TypeId} {V:Nat->Value} {X:Nat->List Value}
theorem ownB {e size n:Nat} {v:Value} {f:List Value} (h:w.ownsRow B e size v n f) (k:∀ g,v.ownBlock=some g->w'.heap[g]? = w.heap[g]?):w'.ownsRow B e size v n f:=by
 refine ⟨h.1,?_⟩
 rcases h.2 with l | ⟨g,d,c,i,b,j,r⟩
 ·exact .inl l
 ·exact .inr ⟨g,d,c,i,b,by rw [k g (by rw [i];rfl)];exact j,r⟩
theorem rU.kept (h:rU B w K T V X) (d:∀ k g,k < K->(V k).ownBlock=some g->w'.heap[g]? = w.heap[g]?):rU B w' K T V X:=
 ⟨fun k b=>ownB (h.own k b) fun g c=>d k g b c,h.apart⟩
theorem rU.later (h:rU B w K T V X) (d:Below w.heap.size w w'):rU B w' K T V X:=
 h.kept fun k g b c=>d.block g ((h.own k b).lt g c).2
theorem rU.shape (h:rU B w K T V X) {k:Nat} (b:k < K):∃ a c,V k=.slice a (X k).length c:=dG (h.own k b)
theorem rU.block (h:rU B w K T V X) {k:Nat} (f:k < K) (l:0 < (X k).length):∃ g b c,V k=.slice (some ⟨g,0,none⟩) (X k).length b/\B <= g/\w.heap[g]? = some (.cells c (T k) (0,0))/\(X k).length <= b:=by
 rcases (h.own k f).2 with ⟨e,m⟩ | ⟨g,b,c,e,j,i,d,_⟩
 ·omega
 ·exact ⟨g,b,c,e,j,i,d⟩
theorem rU.cell (h:rU B w K T V X) {k:Nat} (i:k < K) {g n cap:Nat} (d:V k=.slice (some ⟨g,0,none⟩) n cap) {j:Nat} (l:j < (X k).length):w.cell? ⟨g,j,none⟩=(X k)[j]? /\ w.frozen? ⟨g,j,none⟩=false:=by
 have b:=h.own k i;rw [d] at b;have f:n=(X k).length:=by
  obtain ⟨a,c,e⟩:=dG b;exact (Value.slice.inj e).2.1
 subst f;exact ⟨b.cellAt j (by omega),b.frozenAt j⟩
theorem rU.set (h:rU B w K T V X) {k:Nat} (p:k < K) {g n cap:Nat} (m:V k=.slice (some ⟨g,0,none⟩) n cap) (j:Nat) (u:Value):rU B (w.setCell ⟨g,j,none⟩ u) K T V (upd X k ((X k).set j u)) where
 own:=fun i d=>by
  by_cases e:i=k
  ·subst e;rw [cK,List.length_set];have b:=h.own i d;rw [m] at b ⊢;have o:n=(X i).length:=by
    obtain ⟨a,c,e⟩:=dG b;exact (Value.slice.inj e).2.1
   subst o;exact (b.stored j u).1
  ·rw [cz _ _ e];refine ownsRow_setCell_other (h.own i d) (fun l=>?_) u
   rcases h.apart i k d p e with f | f
   ·rw [f] at l;cases l
   ·exact f (by rw [l,m];rfl)
 apart:=h.apart
theorem rU.push (h:rU B w K T V X) {k:Nat} (q:k < K) {v':Value} {w6:World} {m:Nat} {news:List Value} (p:news.length=m) (A:dB w B (T k) 1 (V k) (X k).length (X k) m news v' w6):rU B w6 K T (upd V k v') (upd X k (X k ++ news)) where
 own:=fun i c=>by
  by_cases e:i=k
  ·subst e;rw [cK,cK,List.length_append,p];exact A.own
  ·rw [cz _ _ e,cz _ _ e];refine (h.own i c).kept A.grew ?_
   rcases h.apart i k c q e with l | l
   ·exact .inl l
   ·exact .inr l
 apart:=fun i j c f b=>by
  by_cases e:i=k
  ·subst e;rw [cK,cz _ _ (fun e=>b e.symm)]
   rcases A.at' with d | d
   ·rw [d];exact h.apart i j c f b
   ·rw [d];refine .inr fun n=>?_
    have:=((h.own j f).lt _ n.symm).2;omega
  ·rw [cz _ _ e];by_cases o:j=k
   ·subst o;rw [cK]
    rcases A.at' with d | d
    ·rw [d];exact h.apart i j c f b
    ·rw [d]
     cases r:(V i).ownBlock with
     | none=>exact .inl rfl
     | some g=>
      refine .inr fun n=>?_
      have:=((h.own i c).lt _ r).2;have:=Option.some.inj n;omega
   ·rw [cz _ _ o];exact h.apart i j c f b
theorem rU.cut (h:rU B w K T V X) {k:Nat} (F:k < K) {a:Option Addr} {n cap m:Nat} (q:V k=.slice a n cap) (s:m <= (X k).length):rU B w K T (upd V k (.slice a m cap)) (upd X k ((X k).take m)) where
 own:=fun i c=>by
  by_cases e:i=k
  ·subst e;rw [cK,cK,List.length_take,Nat.min_eq_left s];have r:=h.own i c;rw [q] at r;refine ⟨by rw [List.length_take,Nat.min_eq_left s];omega,?_⟩
   rcases r.2 with ⟨o,G⟩ | ⟨g,t,p,o,D,C,E,v,z,y⟩
   ·obtain ⟨f,u,d⟩:=Value.slice.inj o;subst f d;have:m=0:=by omega
    subst this;exact .inl ⟨rfl,rfl⟩
   ·obtain ⟨f,u,d⟩:=Value.slice.inj o;subst f d;refine .inr ⟨g,cap,p,rfl,D,C,by omega,v,z,?_⟩
    rw [<- y,List.take_take];congr 1;omega
  ·rw [cz _ _ e,cz _ _ e];exact h.own i c
 apart:=fun i j c A l=>by
  have b:∀ x,(upd V k (.slice a m cap) x).ownBlock=(V x).ownBlock:=fun x=>by
   by_cases e:x=k
   ·subst e;rw [cK,q];cases a <;> rfl
   ·rw [cz _ _ e]
  rw [b,b];exact h.apart i j c A l
end
section
structure dC (Z:Nat->Prop) (w w':World):Prop where
 mq:Below 0 w w'
 block:∀ g,g < w.heap.size->¬ Z g->w'.heap[g]? = w.heap[g]?
variable {Z:Nat->Prop} {a w w':World}
theorem dC.size (h:dC Z w w'):w.heap.size <= w'.heap.size:=h.mq.size
theorem dC.refl (w:World):dC Z w w:=⟨bR,fun _ _ _=>rfl⟩
theorem dC.trans (h:dC Z a w) (k:dC Z w w'):dC Z a w':=⟨h.mq.trans k.mq,fun g c b=>(k.block g (Nat.lt_of_lt_of_le c h.size) b).trans (h.block g c b)⟩
theorem dC.drew (h:dC Z a w):dC Z a w.drew:=⟨h.mq.drew,h.block⟩
theorem dC.alloc (h:dC Z a w) (o:Obj):dC Z a (w.alloc o):=h.trans ⟨bR.alloc zl o,fun g b _=>Below.heap_alloc _ _ _ b⟩
theorem dC.setCell (h:dC Z a w) {p:Addr} (c:Z p.block) (u:Value):dC Z a (w.setCell p u):=h.trans ⟨bR.setCell zl u,fun g d b=>Below.heap_setCell _ _ _ _ (fun e=>b (e ▸ c))⟩
theorem dC.grown {row:Option Nat} (h:dC Z a w) (b:w.grownBy w' row) (d:∀ k,row=some k->Z k):dC Z a w':=h.trans ⟨bR.grown b zl (fun _ _=>zl),fun g f c=>b.block g f (fun e=>c (d g e.symm))⟩
theorem dC.of_below (h:Below w.heap.size w w'):dC Z w w':=⟨h.mono zl,fun g b _=>h.block g b⟩
theorem dC.mono {Z':Nat->Prop} (h:dC Z w w') (c:∀ g,g < w.heap.size->Z g->Z' g):dC Z' w w':=⟨h.mq,fun g b d=>h.block g b (fun e=>d (c g b e))⟩
theorem dC.below {B:Nat} (h:dC Z w w') (d:B <= w.heap.size) (b:∀ g,g < B->¬ Z g):Below B w w':=⟨h.mq.os,h.mq.tape,h.mq.output,h.mq.size,fun g c=>h.block g (by omega) (b g c)⟩
end
end
end So
end Go.Proofs.YtceahffmenbibaaGreatDoor
