/- Rspec Cspec Rnum Rcls Rtok Rprog1 Rref3 Rmem Rmem2 Rref5 Cref2 Cbits Cmark Capp Cref5 Sfam Schg Ssol Slog Slit Srd Scl. -/
import Derived.Lib.ItoaNum
import Derived.Lib.Strings
import Derived.Lib.IndexMore
import Derived.Test.YtceahffmenbibaaGreatDoorChecked
import Derived.WalkKit
import Derived.WalkLawsBesides
import Derived.WalkSpells
import Derived.Lib.Atoi
import Derived.Lib.FieldsP
import Derived.Deep.QuietTactic
import Derived.BigQuiet
import Derived.Deep.OwnRows
import Derived.Lib.TrailingZeros
import Derived.Laws.AppendOwnNone
import Derived.Deep.AppendLies
import Derived.Deep.RegionHeld3
set_option linter.unusedVariables false
set_option linter.unusedSimpArgs false
set_option maxHeartbeats 1000000
namespace Go.Proofs.YtceahffmenbibaaGreatDoor
theorem bR {B:Nat} {w:Go.World}:Go.RowKit.Below B w w:=Go.RowKit.Below.refl _ _
theorem lr {n:Nat}:n<=n:=Nat.le_refl n
theorem zl {n:Nat}:0<=n:=Nat.zero_le n
end Go.Proofs.YtceahffmenbibaaGreatDoor
namespace Go.Proofs.Tryz
theorem tC {X:Type} {a:Option X} {b c:X} (h:a=some b) (e:b=c):a=some c:=h.trans (congrArg some e)
end Go.Proofs.Tryz
namespace Go.Proofs.YtceahffmenbibaaGreatDoor
namespace Rd
abbrev Bs:Type:=List UInt8
def qj (c:UInt8):Bool:=decide (48 <= c.toNat) && decide (c.toNat <= 57)
def gY (l:Bs):Bool:=l.all qj && (l.length == 1 || (decide (1 < l.length) && !(l.head? == some 48)))
def gap (c:UInt8):Bool:=c == 32 || c == 9 || c == 10
def iB:Bs->Bs->List Bs
 | w,[]=>if w.isEmpty then [] else [w]
 | w,c :: r=>if gap c then (if w.isEmpty then iB [] r else w :: iB [] r) else iB (w ++ [c]) r
def toks (l:Bs):List Bs:=iB [] l
def nV (st:List Bs × Bs) (c:UInt8):List Bs × Bs:=if gap c then (if st.2.isEmpty then st.1 else st.1 ++ [st.2],[]) else (st.1,st.2 ++ [c])
def oI (l:Bs):List Bs × Bs:=l.foldl nV ([],[])
theorem Eg (l:Bs) (c:UInt8):oI (l ++ [c])=nV (oI l) c:=by
 unfold oI;rw [List.foldl_append];rfl
def close (st:List Bs × Bs):List Bs:=if st.2.isEmpty then st.1 else st.1 ++ [st.2]
theorem pM:∀ (l:Bs) (b:List Bs) (w:Bs),close (l.foldl nV (b,w))=b ++ iB w l
 | [],b,w=>by
  simp only [List.foldl_nil,close,iB];cases w <;> simp
 | c :: r,b,w=>by
  simp only [List.foldl_cons,iB,nV]
  cases e:gap c with
  | true=>
   cases d:w.isEmpty with
   | true=>simp only [if_true];rw [pM r]
   | false=>simp only [if_true,Bool.false_eq_true,if_false];rw [pM r];simp
  | false=>simp only [Bool.false_eq_true,if_false];rw [pM r]
theorem SA (l:Bs):close (oI l)=toks l:=by
 have:=pM l [] [];simpa [oI,toks] using this
def Cn (c:UInt8) (l:Bs):List Bs × Bs:=l.foldl (fun st x=>if x == c then (st.1 ++ [st.2],[]) else (st.1,st.2 ++ [x])) ([],[])
def splitB (c:UInt8) (l:Bs):List Bs:=(Cn c l).1 ++ [(Cn c l).2]
def UZ (l:Bs):Int:=l.foldl (fun n c=>10 * n + ((c.toNat:Int) - 48)) 0
def gU (l:Bs):Int:=UZ (l.take 9)
def line (l:Bs):Bs:=l.takeWhile (fun c=>!(c == 10))
def rest (l:Bs):Bs:=l.drop ((line l).length + 1)
def ended (l:Bs):Bool:=decide ((line l).length < l.length)
def comment (l:Bs):Bool:=l == [99] || Lib.hasPrefix l [99,32]
def uq (l:Bs):Option (Bs × Bs):=
 match splitB 32 l with
 | [a,b,v,c]=>if a == [112] && b == [99,110,102] && gY v && gY c then some (v,c) else none
 | _=>none
def pE:Nat->Bs->Option (Bs × Bs × Bs)
 | 0,_=>none
 | f + 1,l=>if ended l then (if comment (line l) then pE f (rest l) else (uq (line l)).map fun x=>(x.1,x.2,rest l)) else none
def above (a b:Bs):Bool:=if a.length=b.length then !Op.bytesLess a b && !(a == b) else decide (b.length < a.length)
def strip (t:Bs):Bs:=if t.head? = some 45 then t.tail else t
def jC (v t:Bs):Bool:=gY (strip t) && !(strip t == [48]) && !above (strip t) v
def zero (t:Bs):Bool:=t == [48]
def kS (v:Bs) (T:List Bs):Bool:=T.all fun t=>zero t || jC v t
def fD (t:Bs):Int:=if t.head? = some 45 then -(gU (strip t)) else gU (strip t)
def fE (T:List Bs):List (List Int) × List Int:=T.foldl (fun st t=>if zero t then (st.1 ++ [st.2],[]) else (st.1,st.2 ++ [fD t])) ([],[])
theorem zu (T:List Bs) (t:Bs):fE (T ++ [t])=if zero t then ((fE T).1 ++ [(fE T).2],[]) else ((fE T).1,(fE T).2 ++ [fD t]):=by
 unfold fE;rw [List.foldl_append];rfl
def zeros (T:List Bs):Nat:=(T.filter zero).length
def lits (T:List Bs):Nat:=(T.filter fun t=>!zero t).length
def body (v c:Bs) (T:List Bs):Int × List (List Int) × Int:=
 if kS v T then
  (if (fE T).2.isEmpty && Lib.decDigits (fE T).1.length == c then
   (if above v [53,48] || decide (700 < lits T) then (0,[],1) else (gU v,(fE T).1,0))
   else (0,[],2))
 else (0,[],2)
def lM (s:Bs):Int × List (List Int) × Int:=
 if 20000 < s.length then (0,[],1)
 else match pE (s.length + 1) s with
  | none=>(0,[],2)
  | some (v,c,r)=>body v c (toks r)
abbrev Cl:Type:=List Int
def Cons (M:Int->Prop):Prop:=∀ l,M l->M (-l)->False
def Met (M:Int->Prop) (c:Cl):Prop:=∃ l ∈ c,M l
def Two (M:Int->Prop) (c:Cl):Prop:=∃ a ∈ c,∃ b ∈ c,a ≠ b/\¬ M (-a)/\¬ M (-b)
def Stable (L:List Cl) (M:Int->Prop):Prop:=∀ c ∈ L,Met M c\/Two M c
def jk (L:List Cl) (ls:List Int):Prop:=∀ M,Cons M->(∀ l ∈ ls,M l)->¬ Stable L M
def ve (c:Cl) (but:Int):List Int:=(c.filter fun l=>!(l == but)).map fun l=>-l
def Wy (L:List Cl) (c:Cl):Prop:=jk L (ve c 0)\/∃ l r,c=l :: r/\∀ D ∈ L,-l ∈ D->jk L (ve c 0 ++ ve D (-l))
def iH (a b:Cl):Bool:=a.all (fun l=>b.contains l) && b.all (fun l=>a.contains l)
def rem:List Cl->Cl->Option (List Cl)
 | [],_=>none
 | d :: r,c=>if iH d c then some r else (rem r c).map (d :: ·)
def mE (v:Bs):List Bs->Option Cl
 | []=>none
 | [t]=>if zero t then some [] else none
 | t :: r=>if jC v t then (mE v r).map (fD t :: ·) else none
def oq (v:Bs) (l:Bs):Option (Bool × Cl):=
 if (splitB 32 l).head? = some [100] then (mE v (splitB 32 l).tail).map fun c=>(true,c)
 else (mE v (splitB 32 l)).map fun c=>(false,c)
section
open Go Go.RowKit
theorem hide {p:Prop} (h:p):Hid p:=h
theorem jU {p:Prop} (h:Hid p):p:=h.out
theorem fM {a b:Bool} (h:a=b):Ending.returned (.bool a)=.returned (.bool b):=by rw [h]
theorem KU (s:ByteArray) (k:Nat) (h:k < s.size):s.data.toList.take (k + 1)=s.data.toList.take k ++ [s[k]]:=by
 rw [List.take_succ_eq_append_getElem (by simpa using h)];rfl
theorem Em (s:ByteArray) {k:Nat} (h:¬ k < s.size):s.data.toList.take k=s.data.toList:=List.take_of_length_le (by simpa using h)
def Ak (s:ByteArray) (k:Nat):Prop:=(s.data.toList.take k).all qj=true
theorem BU {s:ByteArray} {k:Nat} (h:Ak s k) (b:k < s.size) (d:48 <= (s[k].toNat:Int)) (c:(s[k].toNat:Int) <= 57):Ak s (k + 1):=by
 unfold Ak at *
 rw [KU s k b,List.all_append,h];simp [qj];omega
theorem uu {s:ByteArray} {k:Nat} (d:k < s.size) (h:(s[k].toNat:Int) < 48\/57 < (s[k].toNat:Int)):gY s.data.toList=false:=by
 have b:s[k] ∈ s.data.toList:=by simp [ByteArray.getElem_eq_getElem_data]
 have:s.data.toList.all qj=false:=by
  rw [Bool.eq_false_iff];intro c;have:=List.all_eq_true.1 c _ b;simp [qj] at this;omega
 simp [gY,this]
theorem Pd {s:ByteArray} (h:Ak s s.size) (b:s.size=1):gY s.data.toList=true:=by
 unfold Ak at h;rw [Em s (by omega)] at h;have:s.data.toList.length=1:=by simpa using b
 simp [gY,h,this]
theorem LQ {s:ByteArray} (b:s.size=0):gY s.data.toList=false:=by
 have:s.data.toList=[]:=List.eq_nil_of_length_eq_zero (by simpa using b);simp [gY,this]
theorem LW {s:ByteArray} (h:Ak s s.size) (i:1 < s.size):gY s.data.toList=((s[0].toNat:Int) != 48):=by
 unfold Ak at h;rw [Em s (by omega)] at h;have b:s.data.toList.length=s.size:=by simp
 have c:s.data.toList.head? = some s[0]:=by
  rw [List.head?_eq_getElem?,List.getElem?_eq_getElem (by omega)];rfl
 have e:(s[0] == 48)=((s[0].toNat:Int) == 48):=by
  rw [Bool.eq_iff_iff];simp [<- UInt8.toNat_inj];omega
 have d:(s.size == 1)=false:=by simp;omega
 rw [gY,h,b,c,d];simp [i,bne,e]
theorem WZ (a b:ByteArray) (w:World) (i:a.size <= maxLen) (d:b.size <= maxLen):
  Calls Tryz.prog 82 #[.string a,.string b] w fun e w'=>e=.returned (.bool (above a.data.toList b.data.toList))/\w'=w:=by
 unfold maxLen at i d;by_cases h:a.size=b.size
 ·have c:((a.size:Int) != (b.size:Int))=false:=by simp [h]
  have E:Hid (above a.data.toList b.data.toList=(!Op.bytesLess a.toList b.toList && !(a.toList == b.toList))):=by
   unfold Hid above;rw [if_pos (by simpa using h),ByteArray.toList_eq,ByteArray.toList_eq]
  clear h;go_enter Tryz.func82,Tryz.ntmps82
  go_wp2;go_ret
  exact ⟨fM (by rw [E.out]),rfl⟩
 ·have c:((a.size:Int) != (b.size:Int))=true:=by simp;omega
  have E:Hid (above a.data.toList b.data.toList=decide (b.size < a.size)):=by
   unfold Hid above;rw [if_neg (by simpa using h)];simp
  go_enter Tryz.func82,Tryz.ntmps82
  go_wp2;go_ret
  exact ⟨fM (by rw [E.out]),rfl⟩
theorem wH (a b:ByteArray) (w:World) (i:a.size <= maxLen) (d:b.size <= maxLen):
  Calls Tryz.prog 35 #[.string a,.string b] w fun e w'=>e=.returned (.bool (above a.data.toList b.data.toList))/\w'=w:=by
 unfold maxLen at i d;by_cases h:a.size=b.size
 ·have c:((a.size:Int) != (b.size:Int))=false:=by simp [h]
  have E:Hid (above a.data.toList b.data.toList=(!Op.bytesLess a.toList b.toList && !(a.toList == b.toList))):=by
   unfold Hid above;rw [if_pos (by simpa using h),ByteArray.toList_eq,ByteArray.toList_eq]
  clear h;go_enter Tryz.func35,Tryz.ntmps35
  go_wp2;go_ret
  exact ⟨fM (by rw [E.out]),rfl⟩
 ·have c:((a.size:Int) != (b.size:Int))=true:=by simp;omega
  have E:Hid (above a.data.toList b.data.toList=decide (b.size < a.size)):=by
   unfold Hid above;rw [if_neg (by simpa using h)];simp
  go_enter Tryz.func35,Tryz.ntmps35
  go_wp2;go_ret
  exact ⟨fM (by rw [E.out]),rfl⟩
end
section
open Go
def nz (t:Bs):Bool:=!zero t
def cls:Nat->List Bs->List (List Int)
 | 0,_=>[]
 | c + 1,T=>((T.takeWhile nz).map fD) :: cls c (T.drop ((T.takeWhile nz).length + 1))
theorem tH:∀ (c:Nat) (T:List Bs),(cls c T).length=c
 | 0,_=>rfl
 | c + 1,T=>by simp [cls,tH c]
def fo (st:List (List Int) × List Int) (t:Bs):List (List Int) × List Int:=if zero t then (st.1 ++ [st.2],[]) else (st.1,st.2 ++ [fD t])
theorem nM (T:List Bs):fE T=T.foldl fo ([],[]):=rfl
theorem Du:∀ (A:List Bs) (st:List (List Int) × List Int),(∀ t ∈ A,zero t=false)->A.foldl fo st=(st.1,st.2 ++ A.map fD)
 | [],st,_=>by simp
 | a :: A,st,h=>by
  simp only [List.foldl_cons];rw [Du A _ (fun t b=>h t (by simp [b]))];simp [fo,h a (by simp)]
theorem fold_acc:∀ (R:List Bs) (acc:List (List Int)) (cur:List Int),R.foldl fo (acc,cur)=(acc ++ (R.foldl fo ([],cur)).1,(R.foldl fo ([],cur)).2)
 | [],acc,cur=>by simp
 | t :: R,acc,cur=>by
  simp only [List.foldl_cons];by_cases h:zero t=true
  ·simp only [fo,h,if_true];rw [fold_acc R (acc ++ [cur]),fold_acc R ([] ++ [cur])];simp
  ·have b:zero t=false:=by simpa using h
   simp only [fo,b,Bool.false_eq_true,if_false];rw [fold_acc R acc]
theorem pK (t:Bs) (T:List Bs):zeros (t :: T)=(if zero t then 1 else 0) + zeros T:=by
 unfold zeros;cases h:zero t <;> simp [h];omega
theorem GA {T:List Bs} (h:0 < zeros T):∃ R,T=T.takeWhile nz ++ [48] :: R/\T.drop ((T.takeWhile nz).length + 1)=R/\zeros R + 1=zeros T/\(∀ t ∈ T.takeWhile nz,zero t=false):=by
 induction T with
 | nil=>simp [zeros] at h
 | cons t T ih=>
  by_cases d:zero t=true
  ·refine ⟨T,?_⟩;have e:t=[48]:=by simpa [zero] using d
   subst e;simp [nz,d,pK];omega
  ·have b:zero t=false:=by simpa using d
   rw [pK,b] at h;obtain ⟨R,l,k,j,i⟩:=ih (by simpa using h);refine ⟨R,?_,?_,?_,?_⟩
   ·simp only [List.takeWhile_cons,nz,b,Bool.not_false,if_true,List.cons_append];exact congrArg (t :: ·) l
   ·simp only [List.takeWhile_cons,nz,b,Bool.not_false,if_true,List.length_cons,List.drop_succ_cons];exact k
   ·rw [pK,b,j];simp
   ·intro x c;simp only [List.takeWhile_cons,nz,b,Bool.not_false,if_true,List.mem_cons] at c
    rcases c with rfl | c
    ·exact b
    ·exact i x c
theorem Ju:∀ (c:Nat) (T:List Bs),zeros T=c->(fE T).1=cls c T
 | 0,T,h=>by
  have k:∀ t ∈ T,zero t=false:=by
   intro t d;have:=List.filter_eq_nil_iff.1 (List.eq_nil_of_length_eq_zero h) t d;simpa using this
  rw [nM,Du T _ k];rfl
 | c + 1,T,h=>by
  obtain ⟨R,j,i,l,e⟩:=GA (T:=T) (by omega);have b:=Ju c R (by omega);rw [cls,i,<- b]
  conv=>lhs;rw [j]
  rw [nM,List.foldl_append,Du _ _ e,List.foldl_cons];rw [show fo ([],[] ++ List.map fD (List.takeWhile nz T)) [48]=([List.map fD (List.takeWhile nz T)],[]) from rfl];rw [fold_acc];rfl
theorem vJ (T:List Bs):(fE T).1.length=zeros T:=by rw [Ju _ T rfl,tH]
theorem OX (T:List Bs):(fE T).2.isEmpty=(T.isEmpty || T.getLast? == some [48]):=by
 by_cases h:T=[]
 ·subst h;rfl
 ·rw [<- List.dropLast_concat_getLast h,zu];have c:(T.dropLast ++ [T.getLast h]).getLast? = some (T.getLast h):=by simp
  rw [c];have d:(T.dropLast ++ [T.getLast h]).isEmpty=false:=by simp
  rw [d];by_cases b:zero (T.getLast h)=true
  ·rw [if_pos b];simpa [zero] using b
  ·rw [if_neg b];have:(T.getLast h == [48])=false:=by simpa [zero] using b
   simp [this]
theorem zf:∀ (l:Bs) (b:Nat),l.all qj=true->∃ n:Nat,Lib.decFrom b l=some n/\(n:Int)=l.foldl (fun n c=>10 * n + ((c.toNat:Int) - 48)) (b:Int)
 | [],b,_=>⟨b,rfl,rfl⟩
 | c :: r,b,h=>by
  rw [List.all_cons,Bool.and_eq_true] at h;have d:=h.1;simp [qj] at d;obtain ⟨n,i,e⟩:=zf r (b * 10 + (c.toNat - 48)) h.2;refine ⟨n,?_,?_⟩
  ·unfold Lib.decFrom Lib.digitVal;rw [if_pos d];exact i
  ·rw [e,List.foldl_cons]
   congr 1
   omega
theorem nD {t:Bs} (h:gY t=true):t.all qj=true/\t ≠ []:=by
 unfold gY at h;simp only [Bool.and_eq_true] at h;refine ⟨h.1,fun e=>?_⟩;subst e;simp at h
theorem ze {t:Bs} (h:gY t=true) (b:t.length <= 9):∃ n:Nat,Lib.decNat t=some n/\(n:Int)=gU t:=by
 obtain ⟨d,c⟩:=nD h;obtain ⟨n,i,e⟩:=zf t 0 d;refine ⟨n,?_,?_⟩
 ·unfold Lib.decNat;rw [if_neg (by simpa using c)];exact i
 ·rw [e];unfold gU UZ;rw [List.take_of_length_le b];rfl
theorem G5 {t:Bs} (h:gY t=true) (k:t.length <= 9):Lib.atoi t=some (gU t):=by
 obtain ⟨n,q,p⟩:=ze h k;obtain ⟨j,l⟩:=nD h
 cases t with
 | nil=>exact absurd rfl l
 | cons c r=>
  rw [List.all_cons,Bool.and_eq_true] at j;have i:=j.1;simp [qj] at i;have b:(c == 45)=false:=by
   rw [beq_eq_false_iff_ne];intro e;subst e;simp at i
  have d:(c == 43)=false:=by
   rw [beq_eq_false_iff_ne];intro e;subst e;simp at i
  simp only [Lib.atoi,b,d,q,<- p];rfl
theorem G6 {v t:Bs} (h:jC v t=true) (i:(strip t).length <= 9):Lib.atoi t=some (fD t):=by
 unfold jC at h;simp only [Bool.and_eq_true] at h;have e:=h.1.1;unfold fD;by_cases b:t.head? = some 45
 ·have d:strip t=t.tail:=by unfold strip;rw [if_pos b]
  cases t with
  | nil=>simp at b
  | cons c r=>
   simp at b;subst b;rw [if_pos (show (45 :: r:Bs).head? = some 45 from rfl)];rw [d] at e i ⊢;obtain ⟨n,k,j⟩:=ze e i;simp only [List.tail_cons] at k j ⊢;simp only [Lib.atoi,k,<- j];rfl
 ·have d:strip t=t:=by unfold strip;rw [if_neg b]
  rw [if_neg b,d];rw [d] at e i;exact G5 e i
theorem lu {a b:Bs} (h:above a b=false):a.length <= b.length:=by
 unfold above at h;split at h
 ·omega
 ·simp at h;omega
theorem VX {l:Bs} (h:l.head? = some 99):∃ r,line l=99 :: r:=by
 cases l with
 | nil=>simp at h
 | cons c r=>
  simp at h;subst h;exact ⟨line r,by simp [line]⟩
theorem Mq {l:Bs} {r:Bs} (h:line l=99 :: r):l.head? = some 99:=by
 cases l with
 | nil=>simp [line] at h
 | cons c t=>
  unfold line at h;rw [List.takeWhile_cons] at h;split at h
  ·simp at h;simp [h.1]
  ·simp at h
def kL (r:Nat):Bool:=r == 32 || r == 9 || r == 10
theorem Ga {s:ByteArray} {i:Nat} (h:i < s.size):s.get! i=s[i]:=by
 show s.data[i]! = s.data[i]
 exact getElem!_pos s.data i h
theorem Gz (s:ByteArray) (pos:Nat) (h:pos < s.size) (q:128 <= (s[pos]'h).toNat):
  ∀ k,k < (Utf8.decode s pos).2->∃ e:pos + k < s.size,128 <= (s[pos + k]'e).toNat:=by
 intro k b;by_cases l:k=0
 ·subst l;exact ⟨h,q⟩
 have p:¬ (s.get! (pos + 0)).toNat < 128:=by rw [Nat.add_zero,Ga h];omega
 have c:∀ j,(decide (pos + j < s.size) && (s.get! (pos + j)).toNat / 64 == 2)=true->∃ e:pos + j < s.size,128 <= (s[pos + j]'e).toNat:=fun j i=>by
  simp only [Bool.and_eq_true,decide_eq_true_eq,beq_iff_eq] at i;refine ⟨i.1,?_⟩;have:=i.2;rw [Ga i.1] at this;omega
 unfold Utf8.decode at b;simp only [p,if_false] at b;split at b
 ·rename_i d;simp only [Bool.and_eq_true] at d;split at b
  ·simp only at b;have:k=1:=by omega
   subst this;exact c 1 (by simpa using d.2)
  ·simp only at b;omega
 ·split at b
  ·rename_i d;simp only [Bool.and_eq_true] at d;split at b
   ·simp only at b;have:k=1\/k=2:=by omega
    rcases this with rfl | rfl
    ·exact c 1 (by simpa using d.1.2)
    ·exact c 2 (by simpa using d.2)
   ·simp only at b;omega
  ·split at b
   ·rename_i d;simp only [Bool.and_eq_true] at d;split at b
    ·simp only at b;have:k=1\/k=2\/k=3:=by omega
     rcases this with rfl | rfl | rfl
     ·exact c 1 (by simpa using d.1.1.2)
     ·exact c 2 (by simpa using d.1.2)
     ·exact c 3 (by simpa using d.2)
    ·simp only at b;omega
   ·simp only at b;omega
theorem Gi:∀ (r:Bs) (b:List Bs × Bs),(∀ c ∈ r,gap c=false)->r.foldl nV b=(b.1,b.2 ++ r)
 | [],b,_=>by simp
 | c :: r,b,h=>by
  have e:=h c (by simp);simp only [List.foldl_cons];rw [Gi r _ (fun x d=>h x (by simp [d]))];simp [nV,e]
theorem Iq (a b:Bs):oI (a ++ b)=b.foldl nV (oI a):=by unfold oI;rw [List.foldl_append]
def sub (L:Bs) (a b:Nat):Bs:=(L.take b).drop a
theorem tY (L:Bs) {a b:Nat} (h:a <= b):L.take b=L.take a ++ sub L a b:=by
 unfold sub
 conv=>lhs;rw [<- List.take_append_drop a (L.take b)]
 rw [List.take_take,Nat.min_eq_left h]
theorem SQ (L:Bs) {a b c:Nat} (h:a <= b) (d:b <= c):sub L a b ++ sub L b c=sub L a c:=by
 have e:=tY L (a:=a) (b:=c) (by omega);have j:=tY L h;have i:=tY L d;rw [i,j,List.append_assoc] at e;exact List.append_cancel_left e
def Inv (s:ByteArray) (pos:Nat) (st:Option Nat) (acc:List (Nat × Nat)):Prop:=
 oI (s.data.toList.take pos)=(acc.map fun x=>sub s.data.toList x.1 x.2,match st with | none=>[] | some a=>sub s.data.toList a pos)/\(∀ a,st=some a->a < pos)/\pos <= s.size
theorem Oa {s:ByteArray} {a pos:Nat} (h:a < pos) (c:pos <= s.size):(sub s.data.toList a pos).isEmpty=false:=by
 rw [Bool.eq_false_iff];intro b;have:=congrArg List.length (List.isEmpty_iff.1 b);simp [sub] at this;omega
theorem SL {s:ByteArray} {a b:Nat} {c:UInt8} (h:c ∈ sub s.data.toList a b):∃ k,∃ d:a + k < s.size,a + k < b/\c=s[a + k]'d:=by
 unfold sub at h;obtain ⟨i,j,e⟩:=List.getElem_of_mem h;simp at j;refine ⟨i,by omega,by omega,?_⟩;rw [<- e];simp [ByteArray.getElem_eq_getElem_data]
def XK (st:Option Nat) (acc:List (Nat × Nat)) (pos:Nat):List (Nat × Nat):=
 match st with | some a=>acc ++ [(a,pos)] | none=>acc
def Zd (st:Option Nat) (pos:Nat):Option Nat:=
 match st with | some a=>some a | none=>some pos
theorem Us {s:ByteArray} {pos:Nat} {st:Option Nat} {b:List (Nat × Nat)} (h:Inv s pos st b) (d:pos < s.size) (e:gap s[pos]=true):
  Inv s (pos + 1) none (XK st b pos):=by
 obtain ⟨k,j,i⟩:=h;have c:s.data.toList.take (pos + 1)=s.data.toList.take pos ++ [s[pos]]:=by
  rw [List.take_succ_eq_append_getElem (by simpa using d)];rfl
 refine ⟨?_,(fun a h=>by cases h),by omega⟩;rw [c,Eg,k];unfold nV;rw [e,if_pos rfl]
 cases st with
 | none=>rfl
 | some a=>
  simp only;rw [Oa (j a rfl) i];simp [XK]
theorem Ur {s:ByteArray} {pos e:Nat} {st:Option Nat} {i:List (Nat × Nat)} (h:Inv s pos st i) (u:1 <= e) (d:∀ k,k < e->∃ j:pos + k < s.size,gap (s[pos + k]'j)=false):
  Inv s (pos + e) (Zd st pos) i:=by
 obtain ⟨r,l,z⟩:=h;obtain ⟨v,_⟩:=d (e - 1) (by omega);refine ⟨?_,?_,by omega⟩
 ·rw [tY s.data.toList (a:=pos) (b:=pos + e) (by omega),Iq,r,Gi]
  ·cases st with
   | none=>rfl
   | some a=>simp only;rw [SQ _ (Nat.le_of_lt (l a rfl)) (by omega)];rfl
  ·intro c q;obtain ⟨k,y,p,rfl⟩:=SL q;exact (d k (by omega)).2
 ·cases st with
  | none=>intro a h;cases h;omega
  | some a=>intro A h;cases h;have:=l a rfl;omega
theorem Qc (s:ByteArray) (pos:Nat) (h:pos < s.size):kL (Utf8.decode s pos).1=gap s[pos]:=by
 by_cases b:(s[pos]'h).toNat < 128
 ·rw [decode_ascii s pos h b];unfold kL gap;rw [Bool.eq_iff_iff];simp [<- UInt8.toNat_inj]
 ·have c:=(decode_high s pos h (by omega)).1;unfold kL gap;rw [Bool.eq_iff_iff];simp [<- UInt8.toNat_inj];omega
theorem pz (s:ByteArray):∀ (f b:Nat) (e:Option Nat) (acc:List (Nat × Nat)),s.size <= b + f->Inv s b e acc->
  Inv s s.size (Lib.spansFromP kL s f b e acc).2 (Lib.spansFromP kL s f b e acc).1
 | 0,b,e,acc,hf,hi=>by
  have:b=s.size:=by have:=hi.2.2;omega
  subst this;exact hi
 | f + 1,b,e,acc,hf,hi=>by
  unfold Lib.spansFromP;by_cases c:b < s.size
  ·rw [if_pos c,Qc s b c]
   cases p:gap s[b] with
   | true=>
    have j:(s[b]'c).toNat < 128:=by
     simp [gap,<- UInt8.toNat_inj] at p;omega
    have d:=Us hi c p;rw [decode_ascii s b c j]
    cases e with
    | none=>simp only [if_true];exact pz s f _ _ _ (by omega) d
    | some a=>simp only [if_true];exact pz s f _ _ _ (by omega) d
   | false=>
    have r:1 <= (Utf8.decode s b).2:=by
     by_cases j:(s[b]'c).toNat < 128
     ·rw [decode_ascii s b c j];simp
     ·exact (decode_high s b c (by omega)).2
    have i:∀ k,k < (Utf8.decode s b).2->∃ h:b + k < s.size,gap (s[b + k]'h)=false:=by
     intro k l;by_cases j:(s[b]'c).toNat < 128
     ·rw [decode_ascii s b c j] at l;simp only at l;have:k=0:=by omega
      subst this;exact ⟨c,p⟩
     ·obtain ⟨h,u⟩:=Gz s b c (by omega) k l;refine ⟨h,?_⟩;rw [Bool.eq_false_iff];intro q;simp [gap,<- UInt8.toNat_inj] at q;omega
    have d:=Ur hi r i
    cases e with
    | none=>simp only [Bool.false_eq_true,if_false];exact pz s f _ _ _ (by omega) d
    | some a=>simp only [Bool.false_eq_true,if_false];exact pz s f _ _ _ (by omega) d
  ·rw [if_neg c];have:b=s.size:=by have:=hi.2.2;omega
   subst this;exact hi
theorem Gn (s:ByteArray):(Lib.goFieldsP kL s).map (fun x=>x.data.toList)=toks s.data.toList:=by
 have h:=pz s s.size 0 none [] (by omega) ⟨by simp [oI],(fun a h=>by cases h),by omega⟩;obtain ⟨i,j,_⟩:=h;rw [List.take_of_length_le (by simp)] at i;rw [<- SA,i];unfold Lib.goFieldsP Lib.spansOfP Lib.closeSpans close;have e:∀ a b,List.take (b - a) (List.drop a s.data.toList)=sub s.data.toList a b:=fun a b=>by
  rw [sub,List.drop_take]
 cases c:(Lib.spansFromP kL s s.size 0 none []).2 with
 | none=>simp [List.map_map,Function.comp_def,e]
 | some a=>
  have d:=Oa (s:=s) (j a c) lr;simp only [d];simp [List.map_map,Function.comp_def,e]
theorem NW (l:Bs):(toks l).length <= l.length/\∀ t ∈ toks l,t.length <= l.length:=by
 suffices h:∀ (l w:Bs),(iB w l).length <= l.length + w.length/\∀ t ∈ iB w l,t.length <= l.length + w.length by
  have:=h l [];simpa [toks] using this
 intro l
 induction l with
 | nil=>intro w;unfold iB;cases w <;> simp
 | cons c r ih=>
  intro w;unfold iB;split
  ·split
   ·have:=ih [];simp at this ⊢;exact ⟨by omega,fun t b=>by have:=this.2 t b;omega⟩
   ·rename_i e;have:=ih [];have d:1 <= w.length:=by cases w <;> simp at e ⊢
    simp at this ⊢;exact ⟨by omega,fun t b=>by have:=this.2 t b;omega⟩
  ·have:=ih (w ++ [c]);simp at this ⊢;exact ⟨by omega,fun t b=>by have:=this.2 t b;omega⟩
end
section
open Go Go.RowKit
theorem I8 {s:ByteArray} (h:s.size=0):s.toList.isEmpty=true:=by
 rw [ByteArray.toList_eq];have:s.data.toList=[]:=List.eq_nil_of_length_eq_zero (by simpa using h);rw [this];rfl
theorem wC {s:ByteArray} (h:¬ s.size=0):s.toList.isEmpty=false:=by
 rw [ByteArray.toList_eq,Bool.eq_false_iff];intro b;have:=List.isEmpty_iff.1 b;apply h;have e:=congrArg List.length this;simpa using e
def lead (s:ByteArray):Prop:=∃ h:0 < s.size,s.size=1\/¬ ((s[0].toNat:Int)=48)
theorem Bl {s:ByteArray} (h:Ak s s.size) (c:lead s):gY s.data.toList=true:=by
 obtain ⟨d,b⟩:=c;by_cases e:s.size=1
 ·exact Pd h e
 ·rw [LW h (by omega)];simp
  rcases b with b | b
  ·exact absurd b e
  ·omega
theorem Sb {s:ByteArray} (h:(!s.toList == [48])=false):s.size=1:=by
 simp [ByteArray.toList_eq] at h;have e:=congrArg List.length h;simpa using e
theorem EP {s:ByteArray} (k:0 < s.size) (j:((s[0].toNat:Int) == 48)=true) (h:(!s.toList == [48])=true):gY s.data.toList=false:=by
 have b:s.data.toList.head? = some s[0]:=by
  rw [List.head?_eq_getElem?,List.getElem?_eq_getElem (by simpa using k)];rfl
 have p:s[0]=48:=by
  rw [<- UInt8.toNat_inj];simp at j ⊢;omega
 rw [p] at b;have e:s.data.toList.length=s.size:=by simp
 have d:s.size ≠ 1:=by
  intro l;rw [l] at e;obtain ⟨c,i⟩:=List.length_eq_one_iff.1 e;rw [i] at b;simp at b;simp [ByteArray.toList_eq,i,b] at h
 simp [gY,b,e,d]
theorem kI (s:ByteArray) (w:World) (v:s.size <= maxLen):
  Calls Tryz.prog 105 #[.string s] w fun e w'=>e=.returned (.bool (gY s.data.toList))/\w'=w:=by
 unfold maxLen at v;by_cases q:s.size=0
 ·have z:=I8 q;have E:=hide (LQ q);go_enter Tryz.func105,Tryz.ntmps105
  go_wp2;go_ret
  exact ⟨fM (by rw [E.out]),rfl⟩
 ·have z:=wC q;have p:0 < s.size:=by omega
  by_cases c:((s[0].toNat:Int) == 48)=true
  ·by_cases h:(!s.toList == [48])=true
   ·have E:=hide (EP p c h);go_enter Tryz.func105,Tryz.ntmps105
    go_wp2;go_ret
    exact ⟨fM (by rw [E.out]),rfl⟩
   ·have d:(!s.toList == [48])=false:=by simpa using h
    clear h;have E:Hid (lead s):=⟨p,.inl (Sb d)⟩;go_enter Tryz.func105,Tryz.ntmps105
    go_wp2;go_loop [17] (fun i=>∃ k:Nat,k <= s.size/\i=.int .i64 k/\Hid (Ak s k)) (fun i=>s.size - (intOf i).toNat)
    case atStart=>exact ⟨0,zl,rfl,rfl⟩
    case round=>
     obtain ⟨k,y,rfl,hd⟩:=hrel;by_cases b:k < s.size
     ·by_cases l:(s[k].toNat:Int) < 48
      ·go_wp2;go_ret
       exact ⟨fM (uu b (by omega)).symm,rfl⟩
      ·by_cases j:57 < (s[k].toNat:Int)
       ·go_wp2;go_ret
        exact ⟨fM (uu b (by omega)).symm,rfl⟩
       ·go_wp2;go_round
        case rel=>exact ⟨k + 1,by omega,by go_num,BU hd.out b (by omega) (by omega)⟩
        case measure=>simp [intOf];omega
     ·have r:Hid (gY s.data.toList=true):=by
       have e:k=s.size:=by omega
       subst e;exact Bl hd.out E.out
      go_wp2;go_ret
      exact ⟨fM (by rw [r.out]),rfl⟩
  ·have u:((s[0].toNat:Int) == 48)=false:=by simpa using c
   have E:Hid (lead s):=⟨p,.inr (by simpa using c)⟩;clear c;go_enter Tryz.func105,Tryz.ntmps105
   go_wp2;go_loop [17] (fun i=>∃ k:Nat,k <= s.size/\i=.int .i64 k/\Hid (Ak s k)) (fun i=>s.size - (intOf i).toNat)
   case atStart=>exact ⟨0,zl,rfl,rfl⟩
   case round=>
    obtain ⟨k,y,rfl,hd⟩:=hrel;by_cases b:k < s.size
    ·by_cases l:(s[k].toNat:Int) < 48
     ·go_wp2;go_ret
      exact ⟨fM (uu b (by omega)).symm,rfl⟩
     ·by_cases j:57 < (s[k].toNat:Int)
      ·go_wp2;go_ret
       exact ⟨fM (uu b (by omega)).symm,rfl⟩
      ·go_wp2;go_round
       case rel=>exact ⟨k + 1,by omega,by go_num,BU hd.out b (by omega) (by omega)⟩
       case measure=>simp [intOf];omega
    ·have r:Hid (gY s.data.toList=true):=by
      have e:k=s.size:=by omega
      subst e;exact Bl hd.out E.out
     go_wp2;go_ret
     exact ⟨fM (by rw [r.out]),rfl⟩
theorem dX {B:Nat} {a w:World} (h:Below B a w) (n:Nat):Below B a (w.drewN n):=h.trans ⟨rfl,rfl,rfl,lr,fun _ _=>rfl⟩
end
section
open Go Go.RowKit Go.Deep
def Yg (b:Nat) (xs:List Int):Value:=.slice (some ⟨b,0,none⟩) xs.length xs.length
def kJ (xs:List Int) (q:Nat):Value:=.int .i64 (xs.getD q 0)
def wh (cl:List (List Int)) (B:Nat->Nat) (k j:Nat):Value:=if j < k then Yg (B j) (cl.getD j []) else .slice none 0 0
def partAt (xs:List Int) (last:Bool) (p q:Nat):Value:=if last && decide (p <= q) then .int .i64 0 else kJ xs q
structure Mem (te ti:TypeId) (base CB:Nat) (cl:List (List Int)) (w0 wr:World) (k:Nat) (B:Nat->Nat) (p:Nat):Prop where
 outer:wr.rowIs CB te cl.length (wh cl B k)
 inner:∀ j,j < k->CB < B j/\wr.rowIs (B j) ti (cl.getD j []).length (partAt (cl.getD j []) (j + 1 == k) p)
 iC:∀ j j',j < j'->j' < k->B j < B j'
 below:Below base w0 wr
 mh:base <= CB
theorem Mem.later {te e:TypeId} {base l:Nat} {i:List (List Int)} {w0 wr b:World} {k:Nat} {B:Nat->Nat} {p:Nat} (h:Mem te e base l i w0 wr k B p) (d:Below wr.heap.size wr b):Mem te e base l i w0 b k B p where
 outer:=h.outer.of_block (d.block _ h.outer.lt)
 inner:=fun j c=>⟨(h.inner j c).1,(h.inner j c).2.of_block (d.block _ (h.inner j c).2.lt)⟩
 iC:=h.iC
 below:=h.below.trans (d.mono (by have:=h.outer.lt;have:=h.mh;omega))
 mh:=h.mh
theorem og {c:List Int} {b:Bool} {p q:Nat} (h:q < p):partAt c b p q=kJ c q:=by
 unfold partAt;rw [if_neg (by simp;intro _;omega)]
theorem iV {b:List Int} {p q:Nat}:partAt b false p q=kJ b q:=by unfold partAt;rfl
theorem Mem.push {te l:TypeId} {base d:Nat} {b:List (List Int)} {w0 wr:World} {k:Nat} {B:Nat->Nat} {p:Nat} (h:Mem te l base d b w0 wr k B p) (F:k < b.length)
  (C:∀ j,j + 1=k->(b.getD j []).length <= p) (e:Nat) (u:e=(b.getD k []).length):
  Mem te l base d b w0 ((wr.setCell ⟨d,k,none⟩ (.slice (some ⟨wr.heap.size,0,none⟩) e e)).alloc (.cells (madeCells #[.int .i64 0] e) l)) (k + 1) (fun j=>if j=k then wr.heap.size else B j) 0 where
 outer:=by
  subst u;refine ((h.outer.set k _).alloc _).congr fun i D=>?_
  unfold wh Yg;by_cases e:i=k
  ·subst e;simp
  ·by_cases z:i < k
   ·simp [e,z,show i < k + 1 by omega]
   ·simp [e,z,show ¬ i < k + 1 by omega]
 inner:=fun j G=>by
  subst u;by_cases e:j=k
  ·subst e;simp only [if_true];refine ⟨h.outer.lt,?_⟩;have s:=World.rowIs_made (wr.setCell ⟨d,j,none⟩ (.slice (some ⟨wr.heap.size,0,none⟩) (b.getD j []).length (b.getD j []).length)) (.int .i64 0) (b.getD j []).length l;rw [show (wr.setCell ⟨d,j,none⟩ (.slice (some ⟨wr.heap.size,0,none⟩) (b.getD j []).length (b.getD j []).length)).heap.size=wr.heap.size from by simp [World.setCell]] at s;exact s.congr fun i D=>by simp [partAt]
  ·have c:j < k:=by omega
   simp only [e,if_false];refine ⟨(h.inner j c).1,?_⟩;have:=((h.inner j c).2.setOther (a:=⟨d,k,none⟩) (by have:=(h.inner j c).1;simp;omega) (.slice (some ⟨wr.heap.size,0,none⟩) (b.getD k []).length (b.getD k []).length)).alloc (.cells (madeCells #[.int .i64 0] (b.getD k []).length) l);refine this.congr fun q E=>?_
   have A:(j + 1 == k + 1)=false:=by simp;omega
   rw [A,iV];by_cases y:j + 1=k
   ·exact og (by have:=C j y;omega)
   ·have:(j + 1 == k)=false:=by simpa using y
    rw [this,iV]
 iC:=fun j r v H=>by
  by_cases e:r=k
  ·subst e;have:¬ j=r:=by omega
   simp only [if_true,this,if_false];exact (h.inner j v).2.lt
  ·have:¬ j=k:=by omega
   simp only [e,this,if_false];exact h.iC j r v (by omega)
 below:=(h.below.setCell (by exact h.mh) _).alloc (by have:=h.outer.lt;have:=h.mh;simp [World.setCell];omega) _
 mh:=h.mh
theorem Mem.put {te i:TypeId} {base s:Nat} {d:List (List Int)} {w0 wr:World} {k:Nat} {B:Nat->Nat} {p:Nat} (h:Mem te i base s d w0 wr (k + 1) B p) (x:Int) (v:x=(d.getD k []).getD p 0):
  Mem te i base s d w0 (wr.setCell ⟨B k,p,none⟩ (.int .i64 x)) (k + 1) B (p + 1) where
 outer:=h.outer.setOther (by have:=(h.inner k (by omega)).1;simp;omega) _
 inner:=fun j c=>by
  refine ⟨(h.inner j c).1,?_⟩;by_cases e:j=k
  ·subst e;refine ((h.inner j c).2.set p _).congr fun q y=>?_
   have z:(j + 1 == j + 1)=true:=by simp
   rw [z];by_cases r:q=p
   ·subst r;simp [partAt,kJ,v];intro h;omega
   ·simp only [r,if_false];unfold partAt;by_cases l:p <= q
    ·simp [l,show p + 1 <= q by omega]
    ·simp [l,show ¬ p + 1 <= q by omega]
  ·have b:j < k:=by omega
   refine ((h.inner j c).2.setOther (a:=⟨B k,p,none⟩) (by have:=h.iC j k b (by omega);simp;omega) _).congr fun q y=>?_
   have u:(j + 1 == k + 1)=false:=by simp;omega
   rw [u,iV,iV]
 iC:=h.iC
 below:=h.below.setCell (by have:=(h.inner k (by omega)).1;have:=h.mh;simp;omega) _
 mh:=h.mh
structure Lists (te ti:TypeId) (base:Nat) (w:World) (v:Value) (cl:List (List Int)):Prop where
 ex:∃ (CB:Nat) (B:Nat->Nat),v=.slice (some ⟨CB,0,none⟩) cl.length cl.length/\base <= CB/\w.rowIs CB te cl.length (fun j=>Yg (B j) (cl.getD j []))/\
  (∀ j,j < cl.length->CB < B j/\w.rowIs (B j) ti (cl.getD j []).length (kJ (cl.getD j [])))/\∀ j j',j < j'->j' < cl.length->B j < B j'
theorem Lists.mono {te c:TypeId} {base b:Nat} {w:World} {v:Value} {d:List (List Int)} (h:Lists te c base w v d) (k:b <= base):Lists te c b w v d:=by
 obtain ⟨j,B,i,l,e⟩:=h.ex;exact ⟨j,B,i,by omega,e⟩
theorem Mem.lists {te d:TypeId} {base c:Nat} {b:List (List Int)} {w0 wr:World} {B:Nat->Nat} {p:Nat} (h:Mem te d base c b w0 wr b.length B p) (l:∀ j,j + 1=b.length->(b.getD j []).length <= p):
  Lists te d base wr (.slice (some ⟨c,0,none⟩) b.length b.length) b:=
 ⟨c,B,rfl,h.mh,h.outer.congr fun i r=>by simp [wh,r],fun j k=>⟨(h.inner j k).1,(h.inner j k).2.congr fun q s=>by
  by_cases e:j + 1=b.length
  ·exact og (by have:=l j e;omega)
  ·have:(j + 1 == b.length)=false:=by simpa using e
   rw [this,iV]⟩,h.iC⟩
def wJ (xs:List Int):List Value:=xs.map (Value.int .i64)
theorem own_ne {w:World} {B te d n m:Nat} {v u:Value} {j ys:List Value} (p:w.ownsRow B te 1 v n j) (l:w.ownsRow B d 1 u m ys) (c:te ≠ d):v.ownBlock=none\/v.ownBlock ≠ u.ownBlock:=by
 rcases p.2 with ⟨rfl,_⟩ | ⟨g,cap,q,rfl,_,k,_⟩
 ·exact .inl rfl
 ·right
  rcases l.2 with ⟨rfl,_⟩ | ⟨r,i,h,rfl,_,b,_⟩
  ·simp [Value.ownBlock]
  ·simp only [Value.ownBlock,ne_eq,Option.some.injEq];intro e;subst e;rw [k] at b;simp at b;exact c b.2
structure nU (te ti B:Nat) (wr:World) (cv Y9:Value) (us:List Value) (cs:List (List Int)) (cur:List Int):Prop where
 outer:wr.ownsRow B te 1 cv us.length us
 row:wr.ownsRow B ti 1 Y9 cur.length (wJ cur)
 len:us.length=cs.length
 inner:∀ (j:Nat) u,us[j]? = some u->wr.ownsRow B ti 1 u (cs.getD j []).length (wJ (cs.getD j []))/\(u.ownBlock=none\/u.ownBlock ≠ Y9.ownBlock)
theorem nU.later {te l B:Nat} {wr b:World} {cv i:Value} {us:List Value} {cs:List (List Int)} {e:List Int} (h:nU te l B wr cv i us cs e) (d:Below wr.heap.size wr b):nU te l B b cv i us cs e:=by
 have r:wr.grownBy b none:=⟨d.os,d.tape,d.output,d.size,fun k q _=>d.block k q⟩;have c:∀ {t n v xs},wr.ownsRow B t 1 v n xs->b.ownsRow B t 1 v n xs:=fun {t n v xs} ho=>by
  refine ho.kept r ?_
  cases s:v.ownBlock with
  | none=>exact .inl rfl
  | some g=>exact .inr (by simp)
 exact ⟨c h.outer,c h.row,h.len,fun j u p=>⟨c (h.inner j u p).1,(h.inner j u p).2⟩⟩
theorem nU.lit {te p B:Nat} {wr q:World} {cv l b:Value} {us:List Value} {cs:List (List Int)} {d:List Int} {o:Obj} {x:Int} (s:te ≠ p) (h:nU te p B wr cv l us cs d)
  (i:q.ownsRow B p 1 b (d.length + 1) (wJ d ++ [.int .i64 x])) (c:(wr.alloc o).grownBy q l.ownBlock) (v:b.ownBlock=l.ownBlock\/b.ownBlock=some (wr.alloc o).heap.size):
  nU te p B q cv b us cs (d ++ [x]) where
 outer:=(h.outer.alloc o).kept c (own_ne h.outer h.row s)
 row:=by simpa [wJ] using i
 len:=h.len
 inner:=fun j u z=>by
  obtain ⟨y,k⟩:=h.inner j u z;refine ⟨(y.alloc o).kept c k,?_⟩
  cases r:u.ownBlock with
  | none=>exact .inl rfl
  | some g=>
   right
   rcases v with e | e
   ·rw [e,<- r];rcases k with k | k
    ·rw [r] at k;cases k
    ·exact k
   ·rw [e];have:=(y.lt g r).2;simp;omega
theorem nU.zero {te k B:Nat} {wr r:World} {cv q i:Value} {us:List Value} {cs:List (List Int)} {b:List Int} {o:Obj} (s:te ≠ k) (h:nU te k B wr cv i us cs b)
  (c:r.ownsRow B te 1 q (us.length + 1) (us ++ [i])) (d:(wr.alloc o).grownBy r cv.ownBlock):
  nU te k B r q (.slice none 0 0) (us ++ [i]) (cs ++ [b]) [] where
 outer:=by simpa using c
 row:=World.ownsRow_nil _ _ _ _
 len:=by simp [h.len]
 inner:=fun j u p=>by
  have keep:∀ {n v xs},wr.ownsRow B k 1 v n xs->r.ownsRow B k 1 v n xs:=fun {n v xs} ho=>(ho.alloc o).kept d (own_ne ho h.outer (fun e=>s e.symm))
  have z:u.ownBlock=none\/u.ownBlock ≠ (Value.slice none 0 0).ownBlock:=by
   cases A:u.ownBlock with
   | none=>exact .inl rfl
   | some g=>exact .inr (by simp [Value.ownBlock])
  refine ⟨?_,z⟩;by_cases l:j < us.length
  ·rw [List.getElem?_append_left l] at p;have y:(cs ++ [b]).getD j []=cs.getD j []:=by
    simp only [List.getD_eq_getElem?_getD];rw [List.getElem?_append_left (by rw [<- h.len];exact l)]
   rw [y];exact keep (h.inner j u p).1
  ·have e:j=us.length:=by
    have:=(List.getElem?_eq_some_iff.1 p).1;simp at this;omega
   subst e;simp at p;subst p;have y:(cs ++ [b]).getD us.length []=b:=by
    simp only [List.getD_eq_getElem?_getD];rw [h.len,List.getElem?_append_right lr];simp
   rw [y];exact keep h.row
def UO (te ti B:Nat) (w:World) (v:Value) (cl:List (List Int)):Prop:=∃ us,nU te ti B w v (.slice none 0 0) us cl []
def Rw (w:World) (u:Value) (xs:List Int):Prop:=∃ (a:Option Addr) (c b:Nat),u=.slice a xs.length c/\(0 < xs.length->a=some ⟨b,0,none⟩)/\∀ j,j < xs.length->w.cell? ⟨b,j,none⟩=some (.int .i64 (xs.getD j 0))
def xD (w:World) (v:Value) (cl:List (List Int)):Prop:=∃ (a:Option Addr) (c b:Nat),v=.slice a cl.length c/\(0 < cl.length->a=some ⟨b,0,none⟩)/\∀ i,i < cl.length->∃ u,w.cell? ⟨b,i,none⟩=some u/\Rw w u (cl.getD i [])
theorem Lists.read {te e B:Nat} {w:World} {v:Value} {b:List (List Int)} (h:Lists te e B w v b):xD w v b:=by
 obtain ⟨q,d,rfl,s,p,l,r⟩:=h.ex;refine ⟨_,b.length,q,rfl,fun _=>rfl,fun i c=>⟨_,p.cell c,?_⟩⟩;exact ⟨some ⟨d i,0,none⟩,(b.getD i []).length,d i,rfl,fun _=>rfl,fun j k=>(l i c).2.cell k⟩
theorem EF (w:World):xD w (.slice none 0 0) []:=⟨none,0,0,rfl,fun h=>by simp at h,fun i b=>by simp at b⟩
theorem Tryz.yT:(Tryz.prog.info? 3).map (fun i=>(i.zero,i.size,i.bytes))=some (some (.int .i64 0),1,8):=by kernel_rfl
theorem Tryz.vF:(Tryz.prog.info? 43).map (fun i=>(i.zero,i.size,i.bytes))=some (some (.slice none 0 0),1,24):=by kernel_rfl
theorem zw (T:List Bs):(fE T).1.length <= T.length/\(fE T).2.length <= T.length:=by
 suffices h:∀ (T:List Bs) (b:List (List Int) × List Int) (n:Nat),b.1.length <= n->b.2.length <= n->(T.foldl fo b).1.length <= n + T.length/\(T.foldl fo b).2.length <= n + T.length by
  have:=h T ([],[]) 0 (by simp) (by simp);simpa [nM] using this
 intro T
 induction T with
 | nil=>intro b n e d;simpa using ⟨e,d⟩
 | cons t r ih=>
  intro b n e d;simp only [List.foldl_cons,List.length_cons];have c:(fo b t).1.length <= n + 1/\(fo b t).2.length <= n + 1:=by
   unfold fo;split <;> simp <;> omega
  have:=ih (fo b t) (n + 1) c.1 c.2;omega
theorem Lu {l v c:Bs} (h:uq l=some (v,c)):gY v=true:=by
 unfold uq at h;split at h
 ·split at h
  ·rename_i b;simp only [Bool.and_eq_true] at b;simp only [Option.some.injEq,Prod.mk.injEq] at h;rw [<- h.1];exact b.1.2
  ·cases h
 ·cases h
theorem BK:∀ (f:Nat) {l v c r:Bs},pE f l=some (v,c,r)->gY v=true
 | 0,l,v,c,r,h=>by simp [pE] at h
 | f + 1,l,v,c,r,h=>by
  unfold pE at h;split at h
  ·split at h
   ·exact BK f h
   ·obtain ⟨x,b,e⟩:=Option.map_eq_some_iff.1 h;simp only [Prod.mk.injEq] at e;obtain ⟨i,d⟩:=x;simp only at e;rw [<- e.1];exact Lu b
  ·cases h
theorem dH {w':World} {B:Nat} {v:Value} {n:Nat} {b:List Value} {t:TypeId} (h:w'.ownsRow B t 1 v n b):∃ a c,v=.slice a n c:=by
 rcases h.2 with ⟨rfl,d⟩ | ⟨g,cap,e,rfl,_⟩
 ·exact ⟨none,0,by rw [d]⟩
 ·exact ⟨_,cap,rfl⟩
def jG (l:Int):Prop:=(1 <= l/\l <= 50)\/(-50 <= l/\l <= -1)
def XQ (w:World) (u:Value) (xs:List Int):Prop:=∃ (a:Option Addr) (c b:Nat),u=.slice a xs.length c/\xs.length <= c/\(0 < xs.length->a=some ⟨b,0,none⟩)/\∀ j,j < xs.length->w.cell? ⟨b,j,none⟩=some (.int .i64 (xs.getD j 0))
theorem Ou {w:World} {B d:Nat} {u:Value} {b:List Int} (h:w.ownsRow B d 1 u b.length (wJ b)):XQ w u b:=by
 have i:=h
 rcases h.2 with ⟨rfl,k⟩ | ⟨g,cap,l,rfl,_,_,e,_⟩
 ·exact ⟨none,0,0,by rw [k],by omega,fun p=>by omega,fun j c=>by omega⟩
 ·refine ⟨some ⟨g,0,none⟩,cap,g,rfl,e,fun _=>rfl,fun j c=>?_⟩;have:=i.cells (g:=g) rfl j (.int .i64 (b.getD j 0)) (by simp [wJ,c,List.getD_eq_getElem?_getD]);simpa [Addr.add_lit] using this
end
abbrev Key:Type:=Nat × Nat
def wide:Nat:=18446744073709551616
def Key.ok (s:Key):Prop:=s.1 < wide/\s.2 < wide
def dY (l:Int):Prop:=(1 <= l/\l <= 64)\/(-64 <= l/\l <= -1)
def Key.has (s:Key) (l:Int):Bool:=if 0 < l then s.1.testBit (l.toNat - 1) else if l < 0 then s.2.testBit ((-l).toNat - 1) else false
def andNot (a b:Nat):Nat:=a ^^^ (a &&& b)
def Key.un (s t:Key):Key:=(s.1 ||| t.1,s.2 ||| t.2)
def Key.wo (s t:Key):Key:=(andNot s.1 t.1,andNot s.2 t.2)
def Key.op (s:Key):Key:=(s.2,s.1)
def single (l:Int):Key:=if l < 0 then (0,2 ^ ((-l).toNat - 1)) else (2 ^ (l.toNat - 1),0)
def Key.one (s:Key):Key:=if s.1 ≠ 0 then (2 ^ Lib.ctz 64 s.1,0) else (0,2 ^ Lib.ctz 64 s.2)
def Key.gV (s:Key):Int:=if s.1 ≠ 0 then (Lib.ctz 64 s.1:Int) + 1 else -((Lib.ctz 64 s.2:Int) + 1)
def place (l:Int):Nat:=if 0 < l then l.toNat - 1 else 64 + ((-l).toNat - 1)
def setOf (c:List Int):Key:=c.foldl (fun s l=>s.un (single l)) (0,0)
theorem tV {x i:Nat} (h:x < wide) (c:x.testBit i=true):i < 64:=by
 rcases Nat.lt_or_ge i 64 with b | b
 ·exact b
 ·have:x < 2 ^ i:=Nat.lt_of_lt_of_le (show x < 2 ^ 64 from h) (Nat.pow_le_pow_right (by decide) b);rw [Nat.testBit_lt_two_pow this] at c;cases c
theorem Key.Kn {s:Key} (h:s.ok) {l:Int} (b:s.has l=true):dY l:=by
 unfold Key.has at b;split at b
 ·have:=tV h.1 b;left;omega
 ·split at b
  ·have:=tV h.2 b;right;omega
  ·cases b
theorem gm (s:Key) (i:Nat):s.has ((i:Int) + 1)=s.1.testBit i:=by
 unfold Key.has;rw [if_pos (by omega)];congr 1
theorem gq (s:Key) (i:Nat):s.has (-((i:Int) + 1))=s.2.testBit i:=by
 unfold Key.has;rw [if_neg (by omega),if_pos (by omega)];congr 1
theorem iy (l:Int):l=0\/(∃ i:Nat,l=(i:Int) + 1)\/∃ i:Nat,l=-((i:Int) + 1):=by
 rcases Int.lt_trichotomy l 0 with h | h | h
 ·right;right;exact ⟨(-l - 1).toNat,by omega⟩
 ·left;exact h
 ·right;left;exact ⟨(l - 1).toNat,by omega⟩
theorem jA (s:Key):s.has 0=false:=by unfold Key.has;simp
theorem kH {s t:Key} (h:∀ l,s.has l=t.has l):s=t:=by
 obtain ⟨e,d⟩:=s;obtain ⟨c,b⟩:=t
 congr 1
 ·exact Nat.eq_of_testBit_eq fun i=>by have:=h ((i:Int) + 1);rwa [gm,gm] at this
 ·exact Nat.eq_of_testBit_eq fun i=>by have:=h (-((i:Int) + 1));rwa [gq,gq] at this
theorem nC (a b i:Nat):(andNot a b).testBit i=(a.testBit i && !b.testBit i):=by
 unfold andNot;rw [Nat.testBit_xor,Nat.testBit_and];cases a.testBit i <;> cases b.testBit i <;> rfl
theorem dL (s t:Key) (l:Int):(s.un t).has l=(s.has l || t.has l):=by
 rcases iy l with rfl | ⟨i,rfl⟩ | ⟨i,rfl⟩
 ·simp [jA]
 ·simp [gm,Key.un,Nat.testBit_or]
 ·simp only [gq,Key.un,Nat.testBit_or]
theorem kK (s t:Key) (l:Int):(s.wo t).has l=(s.has l && !t.has l):=by
 rcases iy l with rfl | ⟨i,rfl⟩ | ⟨i,rfl⟩
 ·simp [jA]
 ·simp only [gm,Key.wo,nC]
 ·simp only [gq,Key.wo,nC]
theorem Ja (s:Key) (l:Int):s.op.has l=s.has (-l):=by
 rcases iy l with rfl | ⟨i,rfl⟩ | ⟨i,rfl⟩
 ·simp [jA]
 ·rw [gm,gq];rfl
 ·rw [gq,Int.neg_neg,gm];rfl
theorem fw (l:Int):Key.has (0,0) l=false:=by
 rcases iy l with rfl | ⟨i,rfl⟩ | ⟨i,rfl⟩
 ·simp [jA]
 ·rw [gm];simp
 ·rw [gq];simp
theorem dh {l:Int} (b:l ≠ 0) (x:Int):(single l).has x=decide (x=l):=by
 rcases iy l with rfl | ⟨i,rfl⟩ | ⟨i,rfl⟩
 ·exact absurd rfl b
 ·have e:single ((i:Int) + 1)=(2 ^ i,0):=by unfold single;rw [if_neg (by omega)];congr 2
  rw [e]
  rcases iy x with rfl | ⟨j,rfl⟩ | ⟨j,rfl⟩
  ·rw [jA];symm;simp;omega
  ·rw [gm,Nat.testBit_two_pow];simp;omega
  ·rw [gq];simp;omega
 ·have e:single (-((i:Int) + 1))=(0,2 ^ i):=by unfold single;rw [if_pos (by omega)];congr 2
  rw [e]
  rcases iy x with rfl | ⟨j,rfl⟩ | ⟨j,rfl⟩
  ·rw [jA];symm;simp;omega
  ·rw [gm];simp;omega
  ·rw [gq,Nat.testBit_two_pow];simp;omega
theorem qB {s t:Key} (c:s.ok) (b:t.ok):(s.un t).ok:=
 ⟨show _ < 2 ^ 64 from Nat.or_lt_two_pow c.1 b.1,show _ < 2 ^ 64 from Nat.or_lt_two_pow c.2 b.2⟩
theorem vN {a b:Nat} (h:a < wide):andNot a b < wide:=by
 show _ < 2 ^ 64
 exact Nat.xor_lt_two_pow h (Nat.lt_of_le_of_lt Nat.and_le_left h)
theorem sD {s:Key} (b:s.ok) (t:Key):(s.wo t).ok:=⟨vN b.1,vN b.2⟩
theorem OY {s:Key} (b:s.ok):s.op.ok:=⟨b.2,b.1⟩
theorem kN:Key.ok (0,0):=⟨by decide,by decide⟩
theorem fP {l:Int} (h:dY l):(single l).ok:=by
 unfold single
 rcases h with h | h
 ·rw [if_neg (by omega)];exact ⟨show _ < 2 ^ 64 from Nat.pow_lt_pow_right (by decide) (by omega),show 0 < wide by decide⟩
 ·rw [if_pos (by omega)];exact ⟨show 0 < wide by decide,show _ < 2 ^ 64 from Nat.pow_lt_pow_right (by decide) (by omega)⟩
theorem yU (c:List Int) (b:∀ l ∈ c,l ≠ 0):∀ (s:Key) (x:Int),(c.foldl (fun s l=>s.un (single l)) s).has x=(s.has x || decide (x ∈ c)):=by
 induction c with
 | nil=>intro s x;simp
 | cons a r ih=>
  intro s x;rw [List.foldl_cons,ih (fun l d=>b l (List.mem_cons_of_mem _ d)),dL,dh (b a (List.mem_cons_self ..)),Bool.or_assoc]
  congr 1
  by_cases e:x=a <;> simp [e]
theorem has_setOf {c:List Int} (b:∀ l ∈ c,l ≠ 0) (x:Int):(setOf c).has x=decide (x ∈ c):=by
 unfold setOf;rw [yU c b,fw];simp
theorem zZ (c:List Int) (h:∀ l ∈ c,dY l):∀ (s:Key),s.ok->(c.foldl (fun s l=>s.un (single l)) s).ok:=by
 induction c with
 | nil=>intro s b;exact b
 | cons a r ih=>intro s b;exact ih (fun l d=>h l (List.mem_cons_of_mem _ d)) _ (qB b (fP (h a (List.mem_cons_self ..))))
theorem xY {c:List Int} (h:∀ l ∈ c,dY l):(setOf c).ok:=zZ c h _ kN
theorem setOf_snoc (c:List Int) (l:Int):setOf (c ++ [l])=(setOf c).un (single l):=by unfold setOf;rw [List.foldl_append];rfl
theorem dD {l:Int} (h:dY l):l ≠ 0:=by rcases h with h | h <;> omega
theorem MI {l:Int} (h:dY l):dY (-l):=by
 rcases h with h | h
 ·right;omega
 ·left;omega
theorem BQ (s:Key):(s.1 ||| s.2=0)↔s=(0,0):=by
 obtain ⟨a,b⟩:=s;constructor
 ·intro h
  have c:(a ||| b)=0:=h;have e:a=0:=Nat.eq_of_testBit_eq fun i=>by have:=congrArg (Nat.testBit · i) c;simp only [Nat.testBit_or,Nat.zero_testBit,Bool.or_eq_false_iff] at this;simp [this.1]
  have d:b=0:=Nat.eq_of_testBit_eq fun i=>by have:=congrArg (Nat.testBit · i) c;simp only [Nat.testBit_or,Nat.zero_testBit,Bool.or_eq_false_iff] at this;simp [this.2]
  rw [e,d]
 ·intro h;cases h;rfl
theorem oh {x:Nat}:x ≠ 0↔∃ i,x.testBit i=true:=⟨Nat.exists_testBit_of_ne_zero,fun ⟨i,h⟩ e=>by rw [e] at h;simp at h⟩
theorem kF (s:Key):s ≠ (0,0)↔∃ l,s.has l=true:=by
 constructor
 ·intro h
  rcases Classical.em (∃ l,s.has l=true) with b | b
  ·exact b
  ·exact absurd (kH fun l=>by rw [fw];cases e:s.has l with | false=>rfl | true=>exact absurd ⟨l,e⟩ b) h
 ·rintro ⟨l,c⟩ rfl;rw [fw] at c;cases c
theorem Mg (s t:Key):((s.1 &&& t.1) ||| (s.2 &&& t.2) ≠ 0)↔∃ l,s.has l=true/\t.has l=true:=by
 have e:∀ l,Key.has (s.1 &&& t.1,s.2 &&& t.2) l=(s.has l && t.has l):=fun l=>by
  rcases iy l with rfl | ⟨i,rfl⟩ | ⟨i,rfl⟩
  ·simp [jA]
  ·simp only [gm,Nat.testBit_and]
  ·simp only [gq,Nat.testBit_and]
 have c:=BQ (s.1 &&& t.1,s.2 &&& t.2);have b:=kF (s.1 &&& t.1,s.2 &&& t.2);simp only [e,Bool.and_eq_true] at b;rw [<- b];exact not_congr c
theorem Nc (s:Key):(s.1 &&& s.2 ≠ 0)↔∃ l,s.has l=true/\s.has (-l)=true:=by
 rw [oh];constructor
 ·rintro ⟨i,d⟩;rw [Nat.testBit_and,Bool.and_eq_true] at d;exact ⟨(i:Int) + 1,by rw [gm];exact d.1,by rw [gq];exact d.2⟩
 ·rintro ⟨l,b,c⟩
  rcases iy l with rfl | ⟨i,rfl⟩ | ⟨i,rfl⟩
  ·rw [jA] at b;cases b
  ·rw [gm] at b;rw [gq] at c;exact ⟨i,by rw [Nat.testBit_and,b,c];rfl⟩
  ·rw [gq] at b;rw [Int.neg_neg,gm] at c;exact ⟨i,by rw [Nat.testBit_and,b,c];rfl⟩
theorem Dh {x:Nat} (d:x ≠ 0) (h:x < wide):x.testBit (Lib.ctz 64 x)=true/\Lib.ctz 64 x < 64:=by
 obtain ⟨c,b⟩:=Lib.lowest_bit 64 x d h;refine ⟨?_,b⟩;have:=congrArg (Nat.testBit · (Lib.ctz 64 x)) c;simp only [Nat.testBit_and,Nat.testBit_two_pow_self,Bool.and_eq_true] at this;exact this.1
theorem mW {s:Key} (i:s.ok) (h:s ≠ (0,0)):s.one=single s.gV/\s.has s.gV=true/\dY s.gV:=by
 unfold Key.one Key.gV;by_cases c:s.1 ≠ 0
 ·rw [if_pos c,if_pos c];obtain ⟨d,j⟩:=Dh c i.1;refine ⟨?_,by rw [gm];exact d,.inl (by omega)⟩;unfold single;rw [if_neg (by omega)];congr 2
 ·rw [if_neg c,if_neg c];have k:s.2 ≠ 0:=by
   intro e;apply h;obtain ⟨a,b⟩:=s;simp only [ne_eq,Decidable.not_not] at c;simp only at e c;rw [c,e]
  obtain ⟨d,j⟩:=Dh k i.2;refine ⟨?_,by rw [gq];exact d,.inr (by omega)⟩;unfold single;rw [if_pos (by omega)];congr 2
theorem gN {l:Int} (h:dY l):place l < 128:=by unfold place;rcases h with h | h <;> split <;> omega
theorem kg {l b:Int} (h:dY l) (c:dY b) (e:place l=place b):l=b:=by
 unfold place at e
 rcases h with h | h <;> rcases c with c | c <;> (split at e <;> split at e <;> omega)
section
open Go Go.RowKit Go.Deep
theorem rU {l:Int} (h:jG l):l ≠ 0:=by rcases h with h | h <;> omega
theorem nL {l:Int} (h:jG l):dY l:=by
 rcases h with h | h
 ·left;omega
 ·right;omega
theorem Ca {α:Type} {p q:α->Bool}:∀ {l:List α},(∀ x ∈ l,p x=true->q x=true)->(∃ x ∈ l,q x=true/\p x=false)->l.countP p < l.countP q
 | [],_,⟨x,b,_⟩=>by simp at b
 | a :: l,h,⟨x,b,h1,h2⟩=>by
  have i:l.countP p <= l.countP q:=List.countP_mono_left fun y c d=>h y (List.mem_cons_of_mem _ c) d
  rcases List.mem_cons.1 b with rfl | b
  ·rw [List.countP_cons_of_neg (by simp [h2]),List.countP_cons_of_pos h1];omega
  ·have e:=Ca (l:=l) (fun y c=>h y (List.mem_cons_of_mem _ c)) ⟨x,b,h1,h2⟩;have j:=h a (List.mem_cons_self ..);rw [List.countP_cons,List.countP_cons]
   cases d:p a with
   | true=>rw [j d];simp;exact e
   | false=>simp;omega
def WJ (w:World) (v:Value) (cl:List (List Int)):Prop:=∃ (a:Option Addr) (c b:Nat),v=.slice a cl.length c/\cl.length <= c/\(0 < cl.length->a=some ⟨b,0,none⟩)/\∀ i,i < cl.length->∃ u,w.cell? ⟨b,i,none⟩=some u/\XQ w u (cl.getD i [])
theorem UO.lists {te l B:Nat} {w:World} {v:Value} {k:List (List Int)} (h:UO te l B w v k):WJ w v k:=by
 obtain ⟨c,h⟩:=h;have d:=h.len;have p:=h.outer
 rcases h.outer.2 with ⟨rfl,q⟩ | ⟨g,cap,e,rfl,_,_,r,_⟩
 ·exact ⟨none,0,0,by rw [<- d,q],by omega,fun y=>by omega,fun j s=>by omega⟩
 ·refine ⟨some ⟨g,0,none⟩,cap,g,by rw [d],by omega,fun _=>rfl,fun i u=>?_⟩;have b:i < c.length:=by omega
  refine ⟨c[i],?_,Ou (h.inner i c[i] (List.getElem?_eq_getElem b)).1⟩;have:=p.cells (g:=g) rfl i c[i] (List.getElem?_eq_getElem b);simpa [Addr.add_lit] using this
end
section
open Go
section
def Src (w:World) (y:Value) (m:Nat) (news:List Value):Prop:=
 (y=.slice none 0 0/\m=0/\news=[])\/∃ ad c,y=.slice (some ad) m c/\∀ j u,news[j]? = some u->w.cell? (ad.add j)=some u
structure dz (w:World) (base e size:Nat) (v:Value) (n:Nat) (xs:List Value) (m:Nat) (news:List Value) (v':Value) (w':World):Prop where
 own:w'.ownsRow base e size v' (n + m) (xs ++ news)
 grew:w.grownBy w' v.ownBlock
 at':v'.ownBlock=v.ownBlock\/v'.ownBlock=some w.heap.size
section
variable {P:Program}
theorem x9 (w:World) (t p base e:Nat) (i:TypeInfo) (z:Value) (size bytes:Nat) (C:P.underlying t=some (.slice e)) (hi:P.info? e=some i) (D:i.zero=some z)
  (h:i.size=size) (s:i.bytes=bytes) (q:z.cells.size=size) (r:0 < size) (v:Value) (n:Nat) (k:List Value) (b:w.ownsRow base e size v n k)
  (y:Value) (m:Nat) (news:List Value) (E:Src w y m news) (G:news.length=m * size) (M:∀ u ∈ news,u.oneCell'=true)
  (A:n + m <= maxLen) (d:(n + m) * bytes <= 140737488355328) (j:base <= w.heap.size):
  ∃ l w',(Builtin.append_ #[t,t] p #[v,y]).run P w=.ok l w'/\dz w base e size v n k m news l w':=by
 rcases E with ⟨rfl,rfl,rfl⟩ | ⟨N,c,rfl,H⟩
 ·exact ⟨v,w,run_append_owned_none (P:=P) (w:=w) base t p e i size C hi v n k b,by simpa using b,⟨rfl,rfl,rfl,lr,fun _ _ _=>rfl⟩,.inl rfl⟩
 ·obtain ⟨l,w',F,L,J,_,I⟩:=run_append_own_at (P:=P) w base t p e i z size bytes C hi D h s q r v n k b N m c news G H M A d j;exact ⟨l,w',F,L,J,I⟩
theorem su (w:World) {o:Oper} {a:Act} {K:Act->World->Prop} {Q:Exit->Act->World->Prop} (s x:Operand) (t:TypeId)
  (I:o.op=.call { callee:=.builtin .append,args:=#[s,x],argTypes:=#[t,t] })
  (base e:Nat) (i:TypeInfo) (z:Value) (size bytes:Nat) (F:P.underlying t=some (.slice e)) (hi:P.info? e=some i) (C:i.zero=some z)
  (c:i.size=size) (r:i.bytes=bytes) (p:z.cells.size=size) (q:0 < size) (v:Value) (n:Nat) (l:List Value) (G:a.eval s=v) (j:w.ownsRow base e size v n l)
  (y:Value) (m:Nat) (news:List Value) (E:a.eval x=y) (D:Src w y m news) (J:news.length=m * size) (M:∀ u ∈ news,u.oneCell'=true)
  (A:n + m <= maxLen) (b:(n + m) * bytes <= 140737488355328) (d:base <= w.heap.size)
  (h:∀ k w',dz w base e size v n l m news k w'->K (a.put o.dst k) w'):o.wp P a w K Q:=by
 obtain ⟨k,w',H,L⟩:=x9 (P:=P) w t o.type base e i z size bytes F hi C c r p q v n l j y m news D J M A b d;unfold Oper.wp execOp;simp only [I,resolve,invoke,builtin,Sem.run_bind,Sem.run_pure,Result.andThen_ok,List.map_toArray,List.map_cons,List.map_nil,G,E,H];exact h k w' L
theorem dR (w:World) {j:Array Oper} {rest:List Oper} {o:Oper} {a:Act} {Q:Exit->Act->World->Prop} (A:o.guard=none) (s x:Operand) (t:TypeId)
  (J:o.op=.call { callee:=.builtin .append,args:=#[s,x],argTypes:=#[t,t] })
  (base e:Nat) (i:TypeInfo) (z:Value) (size bytes:Nat) (H:P.underlying t=some (.slice e)) (hi:P.info? e=some i) (E:i.zero=some z)
  (c:i.size=size) (C:i.bytes=bytes) (q:z.cells.size=size) (r:0 < size) (v:Value) (n:Nat) (p:List Value) (I:a.eval s=v) (k:w.ownsRow base e size v n p)
  (y:Value) (m:Nat) (news:List Value) (G:a.eval x=y) (F:Src w y m news) (L:news.length=m * size) (O:∀ u ∈ news,u.oneCell'=true)
  (D:n + m <= maxLen) (b:(n + m) * bytes <= 140737488355328) (d:base <= w.heap.size)
  (h:∀ l w',dz w base e size v n p m news l w'->wpList P j Q rest (a.put o.dst l) w'):wpList P j Q (o :: rest) a w:=
 wpList_plain A fun _ M=>su w s x t J base e i z size bytes H hi E c C q r v n p I k y m news G F L O D b d fun l w' N=>M _ _ (h l w' N)
theorem ik (w:World) {j:Array Oper} {o:Oper} {a:Act} {K:Act->World->Prop} {Q:Exit->Act->World->Prop} {E:Prop} (r:o.guard=none) (s x:Operand) (t:TypeId)
  (M:o.op=.call { callee:=.builtin .append,args:=#[s,x],argTypes:=#[t,t] })
  (base e:Nat) (i:TypeInfo) (z:Value) (size bytes:Nat) (J:P.underlying t=some (.slice e)) (hi:P.info? e=some i) (F:i.zero=some z)
  (c:i.size=size) (A:i.bytes=bytes) (p:z.cells.size=size) (q:0 < size) (v:Value) (n:Nat) (l:List Value) (L:a.eval s=v) (k:w.ownsRow base e size v n l)
  (y:Value) (m:Nat) (news:List Value) (H:a.eval x=y) (G:Src w y m news) (N:news.length=m * size) (O:∀ u ∈ news,u.oneCell'=true)
  (C:n + m <= maxLen) (b:(n + m) * bytes <= 140737488355328) (d:base <= w.heap.size)
  (h:∀ D w',dz w base e size v n l m news D w'->K (a.put o.dst D) w'):
  if Region.wanted o (yielded j a.tmps)=true then Oper.wp P o a w K Q else E:=by
 have I:Region.wanted o (yielded j a.tmps)=true:=by simp [Region.wanted,r]
 rw [if_pos I];exact su w s x t M base e i z size bytes J hi F c A p q v n l L k y m news H G N O C b d h
end
end
end
section
open Go Go.RowKit Go.Deep
theorem ym {w w':World} {B e size n:Nat} {v:Value} {c:List Value} (h:w.ownsRow B e size v n c) (b:Below w.heap.size w w'):w'.ownsRow B e size v n c:=by
 have i:w.grownBy w' none:=⟨b.os,b.tape,b.output,b.size,fun k d _=>b.block k d⟩;refine h.kept i ?_
 cases j:v.ownBlock with
 | none=>exact .inl rfl
 | some g=>exact .inr (by simp)
end
end Rd
end Go.Proofs.YtceahffmenbibaaGreatDoor
namespace Go.Proofs.YtceahffmenbibaaGreatDoor
namespace So
section
open Go Go.RowKit Rd
section
structure rD (B:Nat) (w:World) (K:Nat) (T:Nat->TypeId) (V:Nat->Value) (X:Nat->List Value):Prop where
 own:∀ k,k < K->w.ownsRow B (T k) 1 (V k) (X k).length (X k)
 apart:∀ k k',k < K->k' < K->k ≠ k'->(V k).ownBlock=none\/(V k).ownBlock ≠ (V k').ownBlock
def upd {α:Type} (f:Nat->α) (k:Nat) (a:α):Nat->α:=fun j=>if j=k then a else f j
theorem cz {α:Type} (f:Nat->α) (k:Nat) (a:α):upd f k a k=a:=by unfold upd;rw [if_pos rfl]
theorem cu {α:Type} (f:Nat->α) {k j:Nat} (a:α) (h:j ≠ k):upd f k a j=f j:=by unfold upd;rw [if_neg h]
theorem upd_same {α:Type} (f:Nat->α) (k:Nat):upd f k (f k)=f:=by funext j;unfold upd;split <;> simp_all
variable {B K:Nat} {w w':World} {T:Nat->TypeId} {V:Nat->Value} {X:Nat->List Value}
theorem ownB {e size n:Nat} {v:Value} {d:List Value} (h:w.ownsRow B e size v n d) (k:∀ g,v.ownBlock=some g->w'.heap[g]? = w.heap[g]?):w'.ownsRow B e size v n d:=by
 refine ⟨h.1,?_⟩
 rcases h.2 with l | ⟨g,cap,c,i,b,j,r⟩
 ·exact .inl l
 ·exact .inr ⟨g,cap,c,i,b,by rw [k g (by rw [i];rfl)];exact j,r⟩
theorem rD.kept (h:rD B w K T V X) (d:∀ k g,k < K->(V k).ownBlock=some g->w'.heap[g]? = w.heap[g]?):rD B w' K T V X:=
 ⟨fun k b=>ownB (h.own k b) fun g c=>d k g b c,h.apart⟩
theorem rD.later (h:rD B w K T V X) (d:Below w.heap.size w w'):rD B w' K T V X:=
 h.kept fun k g b c=>d.block g ((h.own k b).lt g c).2
theorem rD.shape (h:rD B w K T V X) {k:Nat} (b:k < K):∃ a c,V k=.slice a (X k).length c:=dH (h.own k b)
theorem rD.block (h:rD B w K T V X) {k:Nat} (d:k < K) (l:0 < (X k).length):∃ g cap b,V k=.slice (some ⟨g,0,none⟩) (X k).length cap/\B <= g/\w.heap[g]? = some (.cells b (T k) (0,0))/\(X k).length <= cap:=by
 rcases (h.own k d).2 with ⟨e,p⟩ | ⟨g,cap,b,e,j,i,c,_⟩
 ·omega
 ·exact ⟨g,cap,b,e,j,i,c⟩
theorem rD.cell (h:rD B w K T V X) {k:Nat} (l:k < K) {g n cap:Nat} (d:V k=.slice (some ⟨g,0,none⟩) n cap) {j:Nat} (p:j < (X k).length):w.cell? ⟨g,j,none⟩=(X k)[j]? /\ w.frozen? ⟨g,j,none⟩=false:=by
 have b:=h.own k l;rw [d] at b;have i:n=(X k).length:=by
  obtain ⟨a,c,e⟩:=dH b;exact (Value.slice.inj e).2.1
 subst i;exact ⟨b.cellAt j (by omega),b.frozenAt j⟩
theorem rD.set (h:rD B w K T V X) {k:Nat} (s:k < K) {g n cap:Nat} (q:V k=.slice (some ⟨g,0,none⟩) n cap) (j:Nat) (u:Value):rD B (w.setCell ⟨g,j,none⟩ u) K T V (upd X k ((X k).set j u)) where
 own:=fun i d=>by
  by_cases e:i=k
  ·subst e;rw [cz,List.length_set];have b:=h.own i d;rw [q] at b ⊢;have r:n=(X i).length:=by
    obtain ⟨a,c,e⟩:=dH b;exact (Value.slice.inj e).2.1
   subst r;exact (b.stored j u).1
  ·rw [cu _ _ e];refine ownsRow_setCell_other (h.own i d) (fun p=>?_) u
   rcases h.apart i k d s e with l | l
   ·rw [l] at p;cases p
   ·exact l (by rw [p,q];rfl)
 apart:=h.apart
theorem rD.push (h:rD B w K T V X) {k:Nat} (u:k < K) {v':Value} {w6:World} {m:Nat} {news:List Value} (s:news.length=m) (A:dz w B (T k) 1 (V k) (X k).length (X k) m news v' w6):rD B w6 K T (upd V k v') (upd X k (X k ++ news)) where
 own:=fun i c=>by
  by_cases e:i=k
  ·subst e;rw [cz,cz,List.length_append,s];exact A.own
  ·rw [cu _ _ e,cu _ _ e];refine (h.own i c).kept A.grew ?_
   rcases h.apart i k c u e with p | p
   ·exact .inl p
   ·exact .inr p
 apart:=fun i j c l b=>by
  by_cases e:i=k
  ·subst e;rw [cz,cu _ _ (fun e=>b e.symm)]
   rcases A.at' with d | d
   ·rw [d];exact h.apart i j c l b
   ·rw [d];refine .inr fun q=>?_
    have:=((h.own j l).lt _ q.symm).2;omega
  ·rw [cu _ _ e];by_cases r:j=k
   ·subst r;rw [cz]
    rcases A.at' with d | d
    ·rw [d];exact h.apart i j c l b
    ·rw [d]
     cases v:(V i).ownBlock with
     | none=>exact .inl rfl
     | some g=>
      refine .inr fun q=>?_
      have:=((h.own i c).lt _ v).2;have:=Option.some.inj q;omega
   ·rw [cu _ _ r];exact h.apart i j c l b
theorem rD.cut (h:rD B w K T V X) {k:Nat} (I:k < K) {a:Option Addr} {n cap m:Nat} (s:V k=.slice a n cap) (v:m <= (X k).length):rD B w K T (upd V k (.slice a m cap)) (upd X k ((X k).take m)) where
 own:=fun i c=>by
  by_cases e:i=k
  ·subst e;rw [cz,cz,List.length_take,Nat.min_eq_left v];have u:=h.own i c;rw [s] at u;refine ⟨by rw [List.length_take,Nat.min_eq_left v];omega,?_⟩
   rcases u.2 with ⟨q,J⟩ | ⟨g,y,r,q,G,F,H,A,D,C⟩
   ·obtain ⟨l,z,d⟩:=Value.slice.inj q;subst l d;have:m=0:=by omega
    subst this;exact .inl ⟨rfl,rfl⟩
   ·obtain ⟨l,z,d⟩:=Value.slice.inj q;subst l d;refine .inr ⟨g,cap,r,rfl,G,F,by omega,A,D,?_⟩;rw [<- C,List.take_take];congr 1;omega
  ·rw [cu _ _ e,cu _ _ e];exact h.own i c
 apart:=fun i j c E p=>by
  have b:∀ x,(upd V k (.slice a m cap) x).ownBlock=(V x).ownBlock:=fun x=>by
   by_cases e:x=k
   ·subst e;rw [cz,s];cases a <;> rfl
   ·rw [cu _ _ e]
  rw [b,b];exact h.apart i j c E p
end
section
structure dB (Z:Nat->Prop) (w w':World):Prop where
 mO:Below 0 w w'
 block:∀ g,g < w.heap.size->¬ Z g->w'.heap[g]? = w.heap[g]?
variable {Z:Nat->Prop} {a w w':World}
theorem dB.size (h:dB Z w w'):w.heap.size <= w'.heap.size:=h.mO.size
theorem dB.refl (w:World):dB Z w w:=⟨bR,fun _ _ _=>rfl⟩
theorem dB.trans (h:dB Z a w) (k:dB Z w w'):dB Z a w':=⟨h.mO.trans k.mO,fun g c b=>(k.block g (Nat.lt_of_lt_of_le c h.size) b).trans (h.block g c b)⟩
theorem dB.drew (h:dB Z a w):dB Z a w.drew:=⟨h.mO.drew,h.block⟩
theorem dB.alloc (h:dB Z a w) (o:Obj):dB Z a (w.alloc o):=h.trans ⟨bR.alloc zl o,fun g b _=>Below.heap_alloc _ _ _ b⟩
theorem dB.setCell (h:dB Z a w) {p:Addr} (c:Z p.block) (u:Value):dB Z a (w.setCell p u):=h.trans ⟨bR.setCell zl u,fun g d b=>Below.heap_setCell _ _ _ _ (fun e=>b (e ▸ c))⟩
theorem dB.grown {row:Option Nat} (h:dB Z a w) (b:w.grownBy w' row) (d:∀ k,row=some k->Z k):dB Z a w':=h.trans ⟨bR.grown b zl (fun _ _=>zl),fun g i c=>b.block g i (fun e=>c (d g e.symm))⟩
theorem dB.of_below (h:Below w.heap.size w w'):dB Z w w':=⟨h.mono zl,fun g b _=>h.block g b⟩
theorem dB.mono {Z':Nat->Prop} (h:dB Z w w') (c:∀ g,g < w.heap.size->Z g->Z' g):dB Z' w w':=⟨h.mO,fun g b d=>h.block g b (fun e=>d (c g b e))⟩
theorem dB.below {B:Nat} (h:dB Z w w') (d:B <= w.heap.size) (b:∀ g,g < B->¬ Z g):Below B w w':=⟨h.mO.os,h.mO.tape,h.mO.output,h.mO.size,fun g c=>h.block g (by omega) (b g c)⟩
end
end
section
open Go Go.RowKit Go.Deep Rd
section
def kM (k:Nat):TypeId:=if k=9 then 43 else if k=10\/k=11 then 4 else if k=12 then 5 else if k=14 then 2 else 3
theorem Uy (k:Nat):kM k ≠ 167:=by unfold kM;split <;> (try split) <;> (try split) <;> (try split) <;> decide
def cellOf:Nat->Nat
 | 0=>2 | 1=>6 | 2=>8 | 3=>9 | 4=>10 | 5=>11 | 6=>13 | 7=>15 | 8=>19 | 9=>5 | 10=>16 | 11=>17 | _=>1
structure dQ (Z:Nat->Prop) (sb:Nat) (w:World) (K:Nat) (f V:Nat->Value) (X:Nat->List Value):Prop where
 row:w.rowIs sb 167 22 f
 eH:rD 0 w K kM V X
 hdr:∀ k,k < 13->f (cellOf k)=V k
 jf:Z sb
 al:∀ k,k < K->∀ g,(V k).ownBlock=some g->Z g
 az:∀ g,w.heap.size <= g->Z g
 hK:16 <= K
variable {Z:Nat->Prop} {sb K:Nat} {w w':World} {f V:Nat->Value} {X:Nat->List Value}
theorem dQ.far (h:dQ Z sb w K f V X) {k:Nat} (l:k < K):∀ g,(V k).ownBlock=some g->g ≠ sb:=fun g d e=>by
 obtain ⟨c,j,_⟩:=h.row
 rcases (h.eH.own k l).2 with ⟨i,_⟩ | ⟨p,cap,q,i,_,b,_⟩
 ·rw [i] at d;cases d
 ·rw [i] at d;obtain rfl:p=g:=Option.some.inj d;rw [e,j] at b;exact Uy k (Obj.cells.inj (Option.some.inj b)).2.1.symm
theorem dQ.later (h:dQ Z sb w K f V X) (b:Below w.heap.size w w'):dQ Z sb w' K f V X:=
 ⟨h.row.of_block (b.block _ h.row.lt),h.eH.later b,h.hdr,h.jf,h.al,fun g c=>h.az g (Nat.le_trans b.size c),h.hK⟩
theorem dQ.head (h:dQ Z sb w K f V X) (j:Nat) (b:j < 22):w.cell? ⟨sb,j,none⟩=some (f j)/\w.frozen? ⟨sb,j,none⟩=false:=⟨h.row.cell b,h.row.frozen j⟩
theorem dQ.hd (h:dQ Z sb w K f V X) {k:Nat} (b:k < 13):w.cell? ⟨sb,cellOf k,none⟩=some (V k)/\w.frozen? ⟨sb,cellOf k,none⟩=false:=by
 have c:cellOf k < 22:=by unfold cellOf;split <;> decide
 have:=h.head _ c;rw [h.hdr k b] at this;exact this
theorem dQ.scalar (h:dQ Z sb w K f V X) (j:Nat) (u:Value) (d:∀ k,k < 13->cellOf k ≠ j):dQ Z sb (w.setCell ⟨sb,j,none⟩ u) K (upd f j u) V X where
 row:=(h.row.set j u).congr fun i e=>by unfold upd;rfl
 eH:=h.eH.kept fun k g b c=>Below.heap_setCell _ _ _ _ (by simpa using h.far b g c)
 hdr:=fun k b=>by rw [cu _ _ (d k b)];exact h.hdr k b
 jf:=h.jf
 al:=h.al
 az:=fun g c=>h.az g (by simpa [World.setCell] using c)
 hK:=h.hK
theorem dQ.set (h:dQ Z sb w K f V X) {k:Nat} (c:k < K) {g n cap:Nat} (b:V k=.slice (some ⟨g,0,none⟩) n cap) (j:Nat) (u:Value):dQ Z sb (w.setCell ⟨g,j,none⟩ u) K f V (upd X k ((X k).set j u)) where
 row:=h.row.of_block (Below.heap_setCell _ _ _ _ (fun e=>h.far c g (by rw [b];rfl) e.symm))
 eH:=h.eH.set c b j u
 hdr:=h.hdr
 jf:=h.jf
 al:=h.al
 az:=fun g d=>h.az g (by simpa [World.setCell] using d)
 hK:=h.hK
theorem Jw:∀ k,k < 13->∀ j,j < 13->cellOf k=cellOf j->k=j:=by decide +kernel
theorem dQ.header (h:dQ Z sb w K f V X) {k:Nat} (s:k < 13) {l:Nat->Value} {X':Nat->List Value} {w6:World} {v':Value} (b:w6.rowIs sb 167 22 f) (j:rD 0 w6 K kM l X') (u:l=upd V k v') (d:∀ i,i < K->∀ g,(l i).ownBlock=some g->g ≠ sb) (r:w.heap.size <= w6.heap.size) (q:∀ i,i < K->∀ g,(l i).ownBlock=some g->Z g):
  dQ Z sb (w6.setCell ⟨sb,cellOf k,none⟩ v') K (upd f (cellOf k) v') l X' where
 row:=(b.set (cellOf k) v').congr fun i c=>by unfold upd;rfl
 eH:=j.kept fun i g c p=>Below.heap_setCell _ _ _ _ (by simpa using d i c g p)
 hdr:=fun i c=>by
  rw [u];by_cases e:i=k
  ·subst e;rw [cz,cz]
  ·rw [cu _ _ e,cu _ _ (fun v=>e (Jw i c k s v))];exact h.hdr i c
 jf:=h.jf
 al:=q
 az:=fun g p=>h.az g (by simp [World.setCell] at p;omega)
 hK:=h.hK
theorem dQ.push (h:dQ Z sb w K f V X) {k:Nat} (r:k < 13) {ob:Obj} {v':Value} {w6:World} {m:Nat} {news:List Value} (q:news.length=m) (A:dz (w.alloc ob) 0 (kM k) 1 (V k) (X k).length (X k) m news v' w6):
  dQ Z sb (w6.setCell ⟨sb,cellOf k,none⟩ v') K (upd f (cellOf k) v') (upd V k v') (upd X k (X k ++ news)):=by
 have j:k < K:=by have:=h.hK;omega
 have d:=h.later ((Below.refl _ w).alloc lr ob);have p:=d.row.lt;refine h.header r (d.row.of_block (A.grew.block sb p (fun e=>d.far j sb e.symm rfl))) (d.eH.push j q A) rfl (fun i l g b=>?_) (by have:=A.grew.size;simp at this;omega) (fun i l g b=>?_)
 ·by_cases e:i=k
  ·subst e;rw [cz] at b
   rcases A.at' with c | c
   ·rw [c] at b;exact d.far l g b
   ·rw [c] at b;have:=Option.some.inj b;omega
  ·rw [cu _ _ e] at b;exact d.far l g b
 ·by_cases e:i=k
  ·subst e;rw [cz] at b
   rcases A.at' with c | c
   ·rw [c] at b;exact h.al i l g b
   ·rw [c] at b;have:=Option.some.inj b;exact h.az g (by simp at this;omega)
  ·rw [cu _ _ e] at b;exact h.al i l g b
theorem dQ.jQ (h:dQ Z sb w K f V X) {k:Nat} (d:k < K) {ob:Obj} {v':Value} {w6:World} {m:Nat} {news:List Value} (A:dz (w.alloc ob) 0 (kM k) 1 (V k) (X k).length (X k) m news v' w6) (j:Nat) (i:j < 22):w6.cell? ⟨sb,j,none⟩=some (f j)/\w6.frozen? ⟨sb,j,none⟩=false:=by
 have b:=h.later ((Below.refl _ w).alloc lr ob);have c:=b.row.of_block (A.grew.block sb b.row.lt (fun e=>b.far d sb e.symm rfl));exact ⟨c.cell i,c.frozen j⟩
theorem dQ.nO (h:dQ Z sb w K f V X) {k:Nat} (b:k < K) {ob:Obj} {v':Value} {w6:World} {m:Nat} {news:List Value} (A:dz (w.alloc ob) 0 (kM k) 1 (V k) (X k).length (X k) m news v' w6) (j:Nat) (u:Value):dB Z w (w6.setCell ⟨sb,j,none⟩ u):=
 (((dB.refl w).alloc ob).grown A.grew (fun g c=>h.al k b g c)).setCell h.jf _
theorem dQ.elem (h:dQ Z sb w K f V X) {k j n:Nat} (p:k < 13) (l:(X k).length=n) (c:j < n):∃ g cap t,V k=.slice (some ⟨g,0,none⟩) n cap/\w.cell? ⟨sb,cellOf k,none⟩=some (.slice (some ⟨g,0,none⟩) n cap)/\w.cell? ⟨g,j,none⟩=some t/\(X k)[j]? = some t/\w.frozen? ⟨g,j,none⟩=false/\Z g/\g < w.heap.size/\g ≠ sb:=by
 have b:k < K:=by have:=h.hK;omega
 subst l;obtain ⟨g,cap,q,e,v,s,u⟩:=h.eH.block b (by omega);obtain ⟨i,r⟩:=h.eH.cell b e c;have d:=(h.hd p).1;rw [e] at d;rw [List.getElem?_eq_getElem c] at i;exact ⟨g,cap,(X k)[j],e,d,i,List.getElem?_eq_getElem c,r,h.al k b g (by rw [e];rfl),((h.eH.own k b).lt g (by rw [e];rfl)).2,h.far b g (by rw [e];rfl)⟩
theorem dQ.cut (h:dQ Z sb w K f V X) {k:Nat} (q:k < 13) {a:Option Addr} {n cap m:Nat} (l:V k=.slice a n cap) (p:m <= (X k).length):
  dQ Z sb (w.setCell ⟨sb,cellOf k,none⟩ (.slice a m cap)) K (upd f (cellOf k) (.slice a m cap)) (upd V k (.slice a m cap)) (upd X k ((X k).take m)):=by
 have d:k < K:=by have:=h.hK;omega
 have c:∀ i g,(upd V k (.slice a m cap) i).ownBlock=some g->(V i).ownBlock=some g:=fun i g b=>by
  by_cases e:i=k
  ·subst e;rw [cz] at b;rw [l];cases a <;> exact b
  ·rw [cu _ _ e] at b;exact b
 exact h.header q h.row (h.eH.cut d l p) rfl (fun i j g b=>h.far j g (c i g b)) lr (fun i j g b=>h.al i j g (c i g b))
end
end
section
open Rd
def wr (x:Nat):Int:=if x % 2=0 then ((x / 2:Nat):Int) + 1 else -(((x / 2:Nat):Int) + 1)
def op (x:Nat):Nat:=if x % 2=0 then x + 1 else x - 1
theorem gG (x:Nat):op x / 2=x / 2:=by unfold op;split <;> omega
theorem ko (x:Nat):op (op x)=x:=by unfold op;split <;> split <;> omega
theorem D6 (x:Nat):wr (op x)=-(wr x):=by
 unfold wr;rw [gG];unfold op;split
 ·rename_i h;rw [if_neg (by omega)]
 ·rename_i h;rw [if_pos (by omega)];omega
theorem UX (x:Nat):wr x ≠ 0:=by unfold wr;split <;> omega
theorem J2 (x:Nat):op x ≠ x:=by unfold op;split <;> omega
theorem OZ {x y:Nat} (h:op x=op y):x=y:=by rw [<- ko x,h,ko]
theorem qH {x y:Nat} (h:x / 2=y / 2):x=y\/x=op y:=by unfold op;split <;> omega
def There (L:List Cl) (c:List Nat):Prop:=∃ d ∈ L,∀ x:Int,x ∈ d↔∃ y ∈ c,wr y=x
structure Trail (L:List Cl) (tr:List Nat) (rs:Nat->Option (List Nat)):Prop where
 nodup:(tr.map (· / 2)).Nodup
 why:∀ (i:Nat) (h:i < tr.length) c,rs (tr[i] / 2)=some c->∃ r,c=tr[i] :: r/\There L c/\∀ y ∈ r,∃ j,∃ hj:j < tr.length,j < i/\tr[j]=op y
theorem MZ {L:List Cl} {tr:List Nat} {O:Nat->Option (List Nat)} (T:Trail L tr O) {N:Nat->Prop} {cut:List Nat}
  (U:∀ (i:Nat) (h:i < tr.length),N (tr[i] / 2)->tr[i] ∈ cut\/∃ c r,O (tr[i] / 2)=some c/\c=tr[i] :: r/\∀ y ∈ r,N (y / 2))
  {M:Int->Prop} (hM:Cons M) (S:∀ l ∈ cut.map wr,M l) (Q:Stable L M):∀ (n i:Nat) (h:i < tr.length),i <= n->N (tr[i] / 2)->M (wr tr[i]):=by
 intro n
 induction n with
 | zero=>
  intro i h hi u
  rcases U i h u with A | ⟨c,r,A,v,W⟩
  ·exact S _ (List.mem_map.2 ⟨_,A,rfl⟩)
  ·obtain ⟨Y,e,E,F⟩:=T.why i h c A;rw [v] at e;obtain ⟨_,rfl⟩:=List.cons.inj e
   cases r with
   | nil=>
    obtain ⟨d,hd,p⟩:=E
    rcases Q d hd with ⟨l,G,D⟩ | ⟨a,J,b,I,q,_⟩
    ·obtain ⟨y,k,rfl⟩:=(p l).1 G;rw [v] at k;obtain rfl:y=tr[i]:=by simpa using k
     exact D
    ·obtain ⟨y,k,rfl⟩:=(p a).1 J;obtain ⟨z,s,rfl⟩:=(p b).1 I;rw [v] at k s;obtain rfl:y=tr[i]:=by simpa using k
     obtain rfl:z=tr[i]:=by simpa using s
     exact absurd rfl q
   | cons y r=>
    obtain ⟨j,R,H,_⟩:=F y (List.mem_cons_self ..);omega
 | succ n ih=>
  intro i h hi u
  rcases U i h u with A | ⟨c,r,A,v,W⟩
  ·exact S _ (List.mem_map.2 ⟨_,A,rfl⟩)
  ·obtain ⟨Y,e,E,F⟩:=T.why i h c A;rw [v] at e;obtain ⟨_,rfl⟩:=List.cons.inj e;have C:∀ y ∈ r,M (-(wr y)):=fun y k=>by
    obtain ⟨j,R,H,e⟩:=F y k;have:=ih j R (by omega) (by rw [e,gG];exact W y k);rw [e,D6] at this;exact this
   obtain ⟨d,hd,p⟩:=E
   rcases Q d hd with ⟨l,G,D⟩ | ⟨a,J,b,I,q,n1,n2⟩
   ·obtain ⟨y,k,rfl⟩:=(p l).1 G;rw [v] at k
    rcases List.mem_cons.1 k with rfl | k
    ·exact D
    ·exact absurd (C y k) (fun h=>hM _ D h)
   ·obtain ⟨y,k,rfl⟩:=(p a).1 J;obtain ⟨z,s,rfl⟩:=(p b).1 I;rw [v] at k s
    rcases List.mem_cons.1 k with e1 | k
    ·rcases List.mem_cons.1 s with e2 | s
     ·rw [e1,e2] at q;exact absurd rfl q
     ·exact absurd (C z s) n2
    ·exact absurd (C y k) n1
theorem yQ {L:List Cl} {tr:List Nat} {s:Nat->Option (List Nat)} (T:Trail L tr s) {N:Nat->Prop} {cut q:List Nat}
  (I:∀ (i:Nat) (h:i < tr.length),N (tr[i] / 2)->tr[i] ∈ cut\/∃ c r,s (tr[i] / 2)=some c/\c=tr[i] :: r/\∀ y ∈ r,N (y / 2))
  (J:There L q) (E:∀ y ∈ q,op y ∈ tr) (A:∀ y ∈ q,N (y / 2)):jk L (cut.map wr):=by
 intro M v F u;have p:∀ y ∈ q,M (-(wr y)):=fun y j=>by
  obtain ⟨i,h,e⟩:=List.mem_iff_getElem.1 (E y j);have:=MZ T I v F u i i h lr (by rw [e,gG];exact A y j);rw [e,D6] at this;exact this
 obtain ⟨d,hd,k⟩:=J
 rcases u d hd with ⟨l,D,C⟩ | ⟨a,H,b,Q,G,z,O⟩
 ·obtain ⟨y,j,rfl⟩:=(k l).1 D;exact v _ C (p y j)
 ·obtain ⟨y,j,rfl⟩:=(k a).1 H;exact z (p y j)
theorem Qm {L:List Cl} {tr:List Nat} {b:Nat->Option (List Nat)} (T:Trail L tr b) (l:∀ (i:Nat) (h:i < tr.length),∃ c,b (tr[i] / 2)=some c) {j:List Nat} (p:There L j) (k:∀ y ∈ j,op y ∈ tr):jk L []:=by
 have:=yQ (cut:=[]) (N:=fun _=>True) T (fun i h _=>by
  obtain ⟨c,d⟩:=l i h;obtain ⟨r,e,_⟩:=T.why i h c d;exact .inr ⟨c,r,d,e,fun _ _=>trivial⟩) p k (fun _ _=>trivial)
 exact this
end
section
open Go Go.RowKit
theorem eQ (x:Nat) (w:World) (b:x <= 1000):Calls Tryz.prog 176 #[.int .i64 x] w fun e w'=>e=.returned (.int .i64 ((x / 2:Nat):Int))/\w'=w:=by
 have hd:Int.tdiv (x:Int) 2=((x / 2:Nat):Int):=by rw [Int.tdiv_eq_ediv_of_nonneg (by omega)];omega
 go_enter Tryz.func176,Tryz.ntmps176
 go_wp2;go_ret
 exact ⟨rfl,rfl⟩
theorem Cv (x:Nat) (w:World) (b:x <= 1000):Calls Tryz.prog 215 #[.int .i64 x] w fun e w'=>e=.returned (.bool (decide (x % 2=0)))/\w'=w:=by
 have hd:Int.tmod (x:Int) 2=((x % 2:Nat):Int):=by rw [Int.tmod_eq_emod_of_nonneg (by omega)];omega
 go_enter Tryz.func215,Tryz.ntmps215
 go_wp2;go_ret
 refine ⟨?_,rfl⟩
 congr 2
 rcases Nat.mod_two_eq_zero_or_one x with h | h
 ·simp [h];omega
 ·simp [h];omega
theorem Sd:∀ x:Nat,x < 128->Go.bits .xor .i64 (x:Int) 1=((op x:Nat):Int):=by decide +kernel
theorem kE (x:Nat) (w:World) (b:x < 128):Calls Tryz.prog 139 #[.int .i64 x] w fun e w'=>e=.returned (.int .i64 ((op x:Nat):Int))/\w'=w:=by
 have c:=Sd x b;go_enter Tryz.func139,Tryz.ntmps139
 go_wp2;go_ret
 exact ⟨rfl,rfl⟩
def lit (z:Int):Nat:=if z < 0 then 2 * ((-z).toNat - 1) + 1 else 2 * (z.toNat - 1)
theorem Cf {z:Int} (h:z ≠ 0):wr (lit z)=z:=by
 unfold wr lit;split <;> split <;> omega
theorem oL (z:Int) (w:World) (c:z ≠ 0) (i:-64 <= z) (d:z <= 64):Calls Tryz.prog 95 #[.int .i64 z] w fun e w'=>e=.returned (.int .i64 ((lit z:Nat):Int))/\w'=w:=by
 by_cases h:z < 0
 ·have b:((lit z:Nat):Int)=2 * (-z - 1) + 1:=by unfold lit;rw [if_pos h];omega
  rw [b];go_enter Tryz.func95,Tryz.ntmps95
  go_wp2;go_ret
  exact ⟨rfl,rfl⟩
 ·have b:((lit z:Nat):Int)=2 * (z - 1):=by unfold lit;rw [if_neg h];omega
  rw [b];go_enter Tryz.func95,Tryz.ntmps95
  go_wp2;go_ret
  exact ⟨rfl,rfl⟩
theorem zW (x:Nat) (w:World) (j:x <= 1000):Calls Tryz.prog 181 #[.int .i64 x] w fun e w'=>e=.returned (.int .i64 (wr x))/\w'=w:=by
 obtain ⟨t,b⟩:∃ t,decide (x % 2=0)=t:=⟨_,rfl⟩;have c:=Rd.hide (fun V=>eQ x V j);have d:=Rd.hide (fun V=>Cv x V j);rw [b] at d;have hd:(x / 2:Nat) <= 500:=by omega
 have i:Hid (wr x=if t then ((x / 2:Nat):Int) + 1 else -(((x / 2:Nat):Int) + 1)):=by
  unfold Hid wr;subst b;by_cases h:x % 2=0 <;> simp [h]
 generalize x / 2=v at c hd i;clear b;go_enter Tryz.func181,Tryz.ntmps181
 cases t with
 | true=>
  go_wp2_with (first | (go_at_call 176;refine (Rd.jU c _).mono ?_;rintro e w' ⟨rfl,rfl⟩) | (go_at_call 215;refine (Rd.jU d _).mono ?_;rintro e w' ⟨rfl,rfl⟩))
  go_ret
  exact ⟨by rw [Rd.jU i];rfl,rfl⟩
 | false=>
  go_wp2_with (first | (go_at_call 176;refine (Rd.jU c _).mono ?_;rintro e w' ⟨rfl,rfl⟩) | (go_at_call 215;refine (Rd.jU d _).mono ?_;rintro e w' ⟨rfl,rfl⟩))
  go_ret
  exact ⟨by rw [Rd.jU i];rfl,rfl⟩
section
variable (sb o g n cap x:Nat) (t:Int) (w:World)
theorem tu (i:w.cell? ⟨sb,o + 3,none⟩=some (.slice (some ⟨g,0,none⟩) n cap)) (d:x < n) (h:w.cell? ⟨g,x,none⟩=some (.int .i64 t)):
  Calls Tryz.prog 103 #[.pointer (some ⟨sb,o,none⟩),.int .i64 x] w fun e w'=>e=.returned (.bool (decide (0 < t)))/\w'=w:=by
 have c:(0:Int) <= (x:Int):=by omega
 have b:(x:Int) < (n:Int):=by omega
 go_enter Tryz.func103,Tryz.ntmps103
 go_wp2;go_ret
 exact ⟨rfl,rfl⟩
theorem qP (i:w.cell? ⟨sb,o + 3,none⟩=some (.slice (some ⟨g,0,none⟩) n cap)) (d:x < n) (h:w.cell? ⟨g,x,none⟩=some (.int .i64 t)):
  Calls Tryz.prog 134 #[.pointer (some ⟨sb,o,none⟩),.int .i64 x] w fun e w'=>e=.returned (.bool (decide (t < 0)))/\w'=w:=by
 have c:(0:Int) <= (x:Int):=by omega
 have b:(x:Int) < (n:Int):=by omega
 go_enter Tryz.func134,Tryz.ntmps134
 go_wp2;go_ret
 exact ⟨rfl,rfl⟩
theorem tF (i:w.cell? ⟨sb,o + 3,none⟩=some (.slice (some ⟨g,0,none⟩) n cap)) (d:x < n) (h:w.cell? ⟨g,x,none⟩=some (.int .i64 t)):
  Calls Tryz.prog 135 #[.pointer (some ⟨sb,o,none⟩),.int .i64 x] w fun e w'=>e=.returned (.bool (t == 0))/\w'=w:=by
 have c:(0:Int) <= (x:Int):=by omega
 have b:(x:Int) < (n:Int):=by omega
 go_enter Tryz.func135,Tryz.ntmps135
 go_wp2;go_ret
 exact ⟨rfl,rfl⟩
theorem ni (a:Option Addr) (b:w.cell? ⟨sb,o + 2,none⟩=some (.slice a n cap)):
  Calls Tryz.prog 99 #[.pointer (some ⟨sb,o,none⟩)] w fun e w'=>e=.returned (.int .i64 n)/\w'=w:=by
 go_enter Tryz.func99,Tryz.ntmps99
 go_wp2;go_ret
 exact ⟨rfl,rfl⟩
theorem jq (j:w.cell? ⟨sb,o,none⟩=some (.slice (some ⟨g,0,none⟩) n cap)) (h:x < n) (b:n <= maxLen) (i:w.cell? ⟨g,x,none⟩=some (.int .i64 t)):
  Calls Tryz.prog 220 #[.pointer (some ⟨sb,o,none⟩),.int .i64 x] w fun e w'=>e=.returned (.int .i64 t)/\w'=w:=by
 unfold maxLen at b;have d:(0:Int) <= (x:Int):=by omega
 have c:(x:Int) < (n:Int):=by omega
 go_enter Tryz.func220,Tryz.ntmps220
 go_wp2;go_ret
 exact ⟨rfl,rfl⟩
theorem yR (k:w.cell? ⟨sb,o,none⟩=some (.slice (some ⟨g,0,none⟩) n cap)) (i:x + 1 < n) (b:n <= maxLen) (j:w.cell? ⟨g,x + 1,none⟩=some (.int .i64 t)):
  Calls Tryz.prog 219 #[.pointer (some ⟨sb,o,none⟩),.int .i64 x] w fun e w'=>e=.returned (.int .i64 t)/\w'=w:=by
 unfold maxLen at b;have h:(0:Int) <= (x:Int) + 1:=by omega
 have d:(x:Int) + 1 < (n:Int):=by omega
 have c:((x:Int) + 1).toNat=x + 1:=by omega
 go_enter Tryz.func219,Tryz.ntmps219
 go_wp2;go_ret
 exact ⟨rfl,rfl⟩
theorem Q7 (k:w.cell? ⟨sb,o,none⟩=some (.slice (some ⟨g,0,none⟩) n cap)) (i:x + 2 < n) (b:n <= maxLen) (j:w.cell? ⟨g,x + 2,none⟩=some (.int .i64 t)):
  Calls Tryz.prog 242 #[.pointer (some ⟨sb,o,none⟩),.int .i64 x] w fun e w'=>e=.returned (.int .i64 t)/\w'=w:=by
 unfold maxLen at b;have h:(0:Int) <= (x:Int) + 2:=by omega
 have d:(x:Int) + 2 < (n:Int):=by omega
 have c:((x:Int) + 2).toNat=x + 2:=by omega
 go_enter Tryz.func242,Tryz.ntmps242
 go_wp2;go_ret
 exact ⟨rfl,rfl⟩
end
section
variable (sb o g n cap x m:Nat) (w:World)
theorem qd (d:w.cell? ⟨sb,o,none⟩=some (.slice (some ⟨g,0,none⟩) n cap)) (i:x + 3 + m <= n) (c:n <= maxLen) (b:w.cell? ⟨g,x,none⟩=some (.int .i64 m)):
  Calls Tryz.prog 213 #[.pointer (some ⟨sb,o,none⟩),.int .i64 x] w fun e w'=>e=.returned (.int .i64 ((x + 3 + m:Nat):Int))/\w'=w:=by
 have h:=Rd.hide (fun (V:World) (hV:V.cell? ⟨sb,o,none⟩=some (.slice (some ⟨g,0,none⟩) n cap)) (b:V.cell? ⟨g,x,none⟩=some (.int .i64 m))=>jq sb o g n cap x m V hV (by omega) c b);unfold maxLen at c;have e:Hid (((x + 3 + m:Nat):Int)=(x:Int) + 3 + m):=by unfold Hid;omega
 go_enter Tryz.func213,Tryz.ntmps213
 go_wp2_with (go_at_call 220;refine (Rd.jU h _ d b).mono ?_;rintro e w' ⟨rfl,rfl⟩)
 go_ret
 refine ⟨?_,rfl⟩;rw [Rd.jU e];rfl
def jw (g x m cap:Nat):Value:=.slice (if cap=x + 3 then some ⟨g,0,none⟩ else some ⟨g,x + 3,none⟩) m (cap - (x + 3))
theorem iY (i:w.cell? ⟨sb,o,none⟩=some (.slice (some ⟨g,0,none⟩) n cap)) (h:x + 3 + m <= n) (c:n <= maxLen) (d:n <= cap) (b:w.cell? ⟨g,x,none⟩=some (.int .i64 m)):
  Calls Tryz.prog 175 #[.pointer (some ⟨sb,o,none⟩),.int .i64 x] w fun e w'=>e=.returned (jw g x m cap)/\∃ k,w'=w.drewN k:=by
 have j:=Rd.hide (fun (V:World) (hV:V.cell? ⟨sb,o,none⟩=some (.slice (some ⟨g,0,none⟩) n cap)) (b:V.cell? ⟨g,x,none⟩=some (.int .i64 m))=>qd sb o g n cap x m V hV h c b);unfold maxLen at c;have s:(0:Int) <= (x:Int) + 3:=by omega
 have r:(x:Int) + 3 <= ((x + 3 + m:Nat):Int):=by omega
 have q:((x + 3 + m:Nat):Int) <= (cap:Int):=by omega
 have p:((x:Int) + 3).toNat=x + 3:=by omega
 have l:(((x + 3 + m:Nat):Int)).toNat=x + 3 + m:=by omega
 go_enter Tryz.func175,Tryz.ntmps175
 go_wp2_with fail
 go_quiet ((go_at_call 213;exact Calls.quiet_of_same (Rd.jU j _ i b)))
 go_wp2
 ·go_ret
  exact ⟨by unfold jw;rw [if_pos rfl];simp,_,rfl⟩
 ·go_ret
  refine ⟨?_,_,rfl⟩;unfold jw;rw [if_neg (by assumption)];rfl
end
end
end So
end Go.Proofs.YtceahffmenbibaaGreatDoor
