/- Rspec Cspec Rnum Rcls Rtok Rprog1 Rref3 Rmem Rmem2 Rref5 Cref2. -/
import Derived.Lib.ItoaNum
import Derived.Lib.Strings
import Derived.Lib.IndexMore
import Derived.Test.YtceahffmenbibaaGreatDoorChecked
import Derived.WalkKit
import Derived.WalkLawsBesides
import Derived.WalkSpells
import Derived.Below
import Derived.Lib.Atoi
import Derived.Lib.FieldsP
import Derived.Laws.RangeAny
import Derived.Laws.RangeString
import Derived.Maps.AppendAt
import Derived.Deep.QuietTactic
import Derived.BigQuiet
import Derived.Deep.OwnRows
import Derived.Outline
set_option linter.unusedVariables false
set_option linter.unusedSimpArgs false
set_option maxHeartbeats 1000000
namespace Go.Proofs.YtceahffmenbibaaGreatDoor
theorem bR {B:Nat} {w:Go.World}:Go.RowKit.Below B w w:=Go.RowKit.Below.refl _ _
theorem lr {n:Nat}:n<=n:=Nat.le_refl n
theorem zl {n:Nat}:0<=n:=Nat.zero_le n
end Go.Proofs.YtceahffmenbibaaGreatDoor
namespace Go.Proofs.Tryz
theorem tC {X:Type} {a:Option X} {b c:X} (h:a=some b) (e:b=c):a=some c:=h.trans (congrArg some e)
end Go.Proofs.Tryz
namespace Go.Proofs.YtceahffmenbibaaGreatDoor
namespace Rd
abbrev Bs:Type:=List UInt8
def p8 (c:UInt8):Bool:=decide (48 <= c.toNat) && decide (c.toNat <= 57)
def gJ (l:Bs):Bool:=l.all p8 && (l.length == 1 || (decide (1 < l.length) && !(l.head? == some 48)))
def gap (c:UInt8):Bool:=c == 32 || c == 9 || c == 10
def gU:Bs->Bs->List Bs
 | w,[]=>if w.isEmpty then [] else [w]
 | w,c :: r=>if gap c then (if w.isEmpty then gU [] r else w :: gU [] r) else gU (w ++ [c]) r
def toks (l:Bs):List Bs:=gU [] l
def nG (st:List Bs × Bs) (c:UInt8):List Bs × Bs:=if gap c then (if st.2.isEmpty then st.1 else st.1 ++ [st.2],[]) else (st.1,st.2 ++ [c])
def nX (l:Bs):List Bs × Bs:=l.foldl nG ([],[])
theorem DC (l:Bs) (c:UInt8):nX (l ++ [c])=nG (nX l) c:=by
 unfold nX;rw [List.foldl_append];rfl
def close (st:List Bs × Bs):List Bs:=if st.2.isEmpty then st.1 else st.1 ++ [st.2]
theorem pg:∀ (l:Bs) (a:List Bs) (w:Bs),close (l.foldl nG (a,w))=a ++ gU w l
 | [],a,w=>by
  simp only [List.foldl_nil,close,gU];cases w <;> simp
 | c :: r,a,w=>by
  simp only [List.foldl_cons,gU,nG]
  cases d:gap c with
  | true=>
   cases b:w.isEmpty with
   | true=>simp only [if_true];rw [pg r]
   | false=>simp only [if_true,Bool.false_eq_true,if_false];rw [pg r];simp
  | false=>simp only [Bool.false_eq_true,if_false];rw [pg r]
theorem Po (l:Bs):close (nX l)=toks l:=by
 have:=pg l [] [];simpa [nX,toks] using this
def BG (c:UInt8) (l:Bs):List Bs × Bs:=l.foldl (fun st x=>if x == c then (st.1 ++ [st.2],[]) else (st.1,st.2 ++ [x])) ([],[])
def splitB (c:UInt8) (l:Bs):List Bs:=(BG c l).1 ++ [(BG c l).2]
def RY (l:Bs):Int:=l.foldl (fun n c=>10 * n + ((c.toNat:Int) - 48)) 0
def fZ (l:Bs):Int:=RY (l.take 9)
def line (l:Bs):Bs:=l.takeWhile (fun c=>!(c == 10))
def rest (l:Bs):Bs:=l.drop ((line l).length + 1)
def ended (l:Bs):Bool:=decide ((line l).length < l.length)
def comment (l:Bs):Bool:=l == [99] || Lib.hasPrefix l [99,32]
def tO (l:Bs):Option (Bs × Bs):=
 match splitB 32 l with
 | [a,b,v,c]=>if a == [112] && b == [99,110,102] && gJ v && gJ c then some (v,c) else none
 | _=>none
def oP:Nat->Bs->Option (Bs × Bs × Bs)
 | 0,_=>none
 | f + 1,l=>if ended l then (if comment (line l) then oP f (rest l) else (tO (line l)).map fun x=>(x.1,x.2,rest l)) else none
def above (a b:Bs):Bool:=if a.length=b.length then !Op.bytesLess a b && !(a == b) else decide (b.length < a.length)
def strip (t:Bs):Bs:=if t.head? = some 45 then t.tail else t
def iV (v t:Bs):Bool:=gJ (strip t) && !(strip t == [48]) && !above (strip t) v
def zero (t:Bs):Bool:=t == [48]
def kK (v:Bs) (T:List Bs):Bool:=T.all fun t=>zero t || iV v t
def eQ (t:Bs):Int:=if t.head? = some 45 then -(fZ (strip t)) else fZ (strip t)
def fw (T:List Bs):List (List Int) × List Int:=T.foldl (fun st t=>if zero t then (st.1 ++ [st.2],[]) else (st.1,st.2 ++ [eQ t])) ([],[])
theorem yM (T:List Bs) (t:Bs):fw (T ++ [t])=if zero t then ((fw T).1 ++ [(fw T).2],[]) else ((fw T).1,(fw T).2 ++ [eQ t]):=by
 unfold fw;rw [List.foldl_append];rfl
def zeros (T:List Bs):Nat:=(T.filter zero).length
def lits (T:List Bs):Nat:=(T.filter fun t=>!zero t).length
def body (v c:Bs) (T:List Bs):Int × List (List Int) × Int:=
 if kK v T then
  (if (fw T).2.isEmpty && Lib.decDigits (fw T).1.length == c then
   (if above v [53,48] || decide (700 < lits T) then (0,[],1) else (fZ v,(fw T).1,0))
   else (0,[],2))
 else (0,[],2)
def fJ (s:Bs):Int × List (List Int) × Int:=
 if 20000 < s.length then (0,[],1)
 else match oP (s.length + 1) s with
  | none=>(0,[],2)
  | some (v,c,r)=>body v c (toks r)
abbrev Cl:Type:=List Int
def Cons (M:Int->Prop):Prop:=∀ l,M l->M (-l)->False
def Met (M:Int->Prop) (c:Cl):Prop:=∃ l ∈ c,M l
def Two (M:Int->Prop) (c:Cl):Prop:=∃ a ∈ c,∃ b ∈ c,a ≠ b/\¬ M (-a)/\¬ M (-b)
def Stable (L:List Cl) (M:Int->Prop):Prop:=∀ c ∈ L,Met M c\/Two M c
def mq (L:List Cl) (ls:List Int):Prop:=∀ M,Cons M->(∀ l ∈ ls,M l)->¬ Stable L M
def zB (c:Cl) (but:Int):List Int:=(c.filter fun l=>!(l == but)).map fun l=>-l
def eH (L:List Cl) (c:Cl):Prop:=mq L (zB c 0)\/∃ l r,c=l :: r/\∀ D ∈ L,-l ∈ D->mq L (zB c 0 ++ zB D (-l))
def iw (a b:Cl):Bool:=a.all (fun l=>b.contains l) && b.all (fun l=>a.contains l)
def rem:List Cl->Cl->Option (List Cl)
 | [],_=>none
 | d :: r,c=>if iw d c then some r else (rem r c).map (d :: ·)
def jG (v:Bs):List Bs->Option Cl
 | []=>none
 | [t]=>if zero t then some [] else none
 | t :: r=>if iV v t then (jG v r).map (eQ t :: ·) else none
def iy (v:Bs) (l:Bs):Option (Bool × Cl):=
 if (splitB 32 l).head? = some [100] then (jG v (splitB 32 l).tail).map fun c=>(true,c)
 else (jG v (splitB 32 l)).map fun c=>(false,c)
def mg (v:Bs):List Cl->List Bs->Nat->Nat × Nat->Prop
 | _,[],_,res=>res=(0,5)
 | L,p :: r,k,res=>
  if r.isEmpty then (if p.isEmpty then res=(k,5) else res=(k + 1,3))
  else match iy v p with
   | none=>res=(k + 1,3)
   | some (true,c)=>(match rem L c with
     | none=>res=(k + 1,4)
     | some L'=>mg v L' r (k + 1) res)
   | some (false,c)=>(¬ eH L c->res=(k + 1,4))/\(eH L c->if c.isEmpty then res=(k + 1,0) else mg v (L ++ [c]) r (k + 1) res)
theorem wP (v:Bs):∀ (i:List Bs) (L:List Cl) (k:Nat) (a b:Nat × Nat),mg v L i k a->mg v L i k b->a=b
 | [],L,k,a,b,h1,h2=>by simp only [mg] at h1 h2;rw [h1,h2]
 | p :: r,L,k,a,b,h1,h2=>by
  unfold mg at h1 h2;split at h1
  ·rename_i g;rw [if_pos g] at h2;split at h1
   ·rename_i h;rw [if_pos h] at h2;rw [h1,h2]
   ·rename_i h;rw [if_neg h] at h2;rw [h1,h2]
  ·rename_i g;rw [if_neg g] at h2;split at h1
   ·rename_i e;rw [e] at h2;rw [h1,h2]
   ·rename_i c e;rw [e] at h2;simp only at h2;split at h1
    ·rename_i d;rw [d] at h2;rw [h1,h2]
    ·rename_i j d;rw [d] at h2;exact wP v r _ _ _ _ h1 h2
   ·rename_i c e;rw [e] at h2;simp only at h2
    rcases Classical.em (eH L c) with f | f
    ·have g1:=h1.2 f;have g2:=h2.2 f;split at g1
     ·rename_i d;rw [if_pos d] at g2;rw [g1,g2]
     ·rename_i d;rw [if_neg d] at g2;exact wP v r _ _ _ _ g1 g2
    ·rw [h1.1 f,h2.1 f]
def y7 (L L':List Cl):Prop:=∀ c ∈ L,∃ d ∈ L',∀ l,l ∈ c↔l ∈ d
theorem DV {L f:List Cl} (h:y7 L f) {M:Int->Prop} (g:Stable f M):Stable L M:=by
 intro c k;obtain ⟨d,hd,e⟩:=h c k
 rcases g d hd with ⟨l,j,i⟩ | ⟨a,n,b,m,r⟩
 ·exact .inl ⟨l,(e l).2 j,i⟩
 ·exact .inr ⟨a,(e a).2 n,b,(e b).2 m,r⟩
theorem Bl {L c:List Cl} (h:y7 L c) {b a:List Int} (f:∀ l,l ∈ b->l ∈ a) (g:mq L b):mq c a:=
 fun M i e d=>g M i (fun l h=>e l (f l h)) (DV h d)
section
open Go Go.RowKit
theorem hide {p:Prop} (h:p):Hid p:=h
theorem jd {p:Prop} (h:Hid p):p:=h.out
theorem fH {a b:Bool} (h:a=b):Ending.returned (.bool a)=.returned (.bool b):=by rw [h]
theorem JF (s:ByteArray) (k:Nat) (h:k < s.size):s.data.toList.take (k + 1)=s.data.toList.take k ++ [s[k]]:=by
 rw [List.take_succ_eq_append_getElem (by simpa using h)];rfl
theorem DJ (s:ByteArray) {k:Nat} (h:¬ k < s.size):s.data.toList.take k=s.data.toList:=List.take_of_length_le (by simpa using h)
def zI (s:ByteArray) (k:Nat):Prop:=(s.data.toList.take k).all p8=true
theorem Bg {s:ByteArray} {k:Nat} (h:zI s k) (a:k < s.size) (c:48 <= (s[k].toNat:Int)) (b:(s[k].toNat:Int) <= 57):zI s (k + 1):=by
 unfold zI at *
 rw [JF s k a,List.all_append,h];simp [p8];omega
theorem tQ {s:ByteArray} {k:Nat} (c:k < s.size) (h:(s[k].toNat:Int) < 48\/57 < (s[k].toNat:Int)):gJ s.data.toList=false:=by
 have a:s[k] ∈ s.data.toList:=by simp [ByteArray.getElem_eq_getElem_data]
 have:s.data.toList.all p8=false:=by
  rw [Bool.eq_false_iff];intro b;have:=List.all_eq_true.1 b _ a;simp [p8] at this;omega
 simp [gJ,this]
theorem MM {s:ByteArray} (h:zI s s.size) (a:s.size=1):gJ s.data.toList=true:=by
 unfold zI at h;rw [DJ s (by omega)] at h;have:s.data.toList.length=1:=by simpa using a
 simp [gJ,h,this]
theorem J7 {s:ByteArray} (a:s.size=0):gJ s.data.toList=false:=by
 have:s.data.toList=[]:=List.eq_nil_of_length_eq_zero (by simpa using a);simp [gJ,this]
theorem J9 {s:ByteArray} (h:zI s s.size) (d:1 < s.size):gJ s.data.toList=((s[0].toNat:Int) != 48):=by
 unfold zI at h;rw [DJ s (by omega)] at h;have a:s.data.toList.length=s.size:=by simp
 have b:s.data.toList.head? = some s[0]:=by
  rw [List.head?_eq_getElem?,List.getElem?_eq_getElem (by omega)];rfl
 have e:(s[0] == 48)=((s[0].toNat:Int) == 48):=by
  rw [Bool.eq_iff_iff];simp [<- UInt8.toNat_inj];omega
 have c:(s.size == 1)=false:=by simp;omega
 rw [gJ,h,a,b,c];simp [d,bne,e]
theorem Uq (a b:ByteArray) (w:World) (g:a.size <= maxLen) (f:b.size <= maxLen):
  Calls Tryz.prog 82 #[.string a,.string b] w fun e c=>e=.returned (.bool (above a.data.toList b.data.toList))/\c=w:=by
 unfold maxLen at g f;by_cases h:a.size=b.size
 ·have d:((a.size:Int) != (b.size:Int))=false:=by simp [h]
  have E:Hid (above a.data.toList b.data.toList=(!Op.bytesLess a.toList b.toList && !(a.toList == b.toList))):=by
   unfold Hid above;rw [if_pos (by simpa using h),ByteArray.toList_eq,ByteArray.toList_eq]
  clear h;go_enter Tryz.func82,Tryz.ntmps82
  go_wp2;go_ret
  exact ⟨fH (by rw [E.out]),rfl⟩
 ·have d:((a.size:Int) != (b.size:Int))=true:=by simp;omega
  have E:Hid (above a.data.toList b.data.toList=decide (b.size < a.size)):=by
   unfold Hid above;rw [if_neg (by simpa using h)];simp
  go_enter Tryz.func82,Tryz.ntmps82
  go_wp2;go_ret
  exact ⟨fH (by rw [E.out]),rfl⟩
theorem vW (a b:ByteArray) (w:World) (g:a.size <= maxLen) (f:b.size <= maxLen):
  Calls Tryz.prog 35 #[.string a,.string b] w fun e c=>e=.returned (.bool (above a.data.toList b.data.toList))/\c=w:=by
 unfold maxLen at g f;by_cases h:a.size=b.size
 ·have d:((a.size:Int) != (b.size:Int))=false:=by simp [h]
  have E:Hid (above a.data.toList b.data.toList=(!Op.bytesLess a.toList b.toList && !(a.toList == b.toList))):=by
   unfold Hid above;rw [if_pos (by simpa using h),ByteArray.toList_eq,ByteArray.toList_eq]
  clear h;go_enter Tryz.func35,Tryz.ntmps35
  go_wp2;go_ret
  exact ⟨fH (by rw [E.out]),rfl⟩
 ·have d:((a.size:Int) != (b.size:Int))=true:=by simp;omega
  have E:Hid (above a.data.toList b.data.toList=decide (b.size < a.size)):=by
   unfold Hid above;rw [if_neg (by simpa using h)];simp
  go_enter Tryz.func35,Tryz.ntmps35
  go_wp2;go_ret
  exact ⟨fH (by rw [E.out]),rfl⟩
end
section
open Go
def nz (t:Bs):Bool:=!zero t
def cls:Nat->List Bs->List (List Int)
 | 0,_=>[]
 | c + 1,T=>((T.takeWhile nz).map eQ) :: cls c (T.drop ((T.takeWhile nz).length + 1))
theorem sM:∀ (c:Nat) (T:List Bs),(cls c T).length=c
 | 0,_=>rfl
 | c + 1,T=>by simp [cls,sM c]
def eZ (st:List (List Int) × List Int) (t:Bs):List (List Int) × List Int:=if zero t then (st.1 ++ [st.2],[]) else (st.1,st.2 ++ [eQ t])
theorem nk (T:List Bs):fw T=T.foldl eZ ([],[]):=rfl
theorem CO:∀ (A:List Bs) (st:List (List Int) × List Int),(∀ t ∈ A,zero t=false)->A.foldl eZ st=(st.1,st.2 ++ A.map eQ)
 | [],st,_=>by simp
 | a :: A,st,h=>by
  simp only [List.foldl_cons];rw [CO A _ (fun t b=>h t (by simp [b]))];simp [eZ,h a (by simp)]
theorem fold_acc:∀ (R:List Bs) (acc:List (List Int)) (cur:List Int),R.foldl eZ (acc,cur)=(acc ++ (R.foldl eZ ([],cur)).1,(R.foldl eZ ([],cur)).2)
 | [],acc,cur=>by simp
 | t :: R,acc,cur=>by
  simp only [List.foldl_cons];by_cases h:zero t=true
  ·simp only [eZ,h,if_true];rw [fold_acc R (acc ++ [cur]),fold_acc R ([] ++ [cur])];simp
  ·have a:zero t=false:=by simpa using h
   simp only [eZ,a,Bool.false_eq_true,if_false];rw [fold_acc R acc]
theorem o9 (t:Bs) (T:List Bs):zeros (t :: T)=(if zero t then 1 else 0) + zeros T:=by
 unfold zeros;cases h:zero t <;> simp [h];omega
theorem Fj {T:List Bs} (h:0 < zeros T):∃ R,T=T.takeWhile nz ++ [48] :: R/\T.drop ((T.takeWhile nz).length + 1)=R/\zeros R + 1=zeros T/\(∀ t ∈ T.takeWhile nz,zero t=false):=by
 induction T with
 | nil=>simp [zeros] at h
 | cons t T ih=>
  by_cases c:zero t=true
  ·refine ⟨T,?_⟩;have d:t=[48]:=by simpa [zero] using c
   subst d;simp [nz,c,o9];omega
  ·have a:zero t=false:=by simpa using c
   rw [o9,a] at h;obtain ⟨R,i,g,f,e⟩:=ih (by simpa using h);refine ⟨R,?_,?_,?_,?_⟩
   ·simp only [List.takeWhile_cons,nz,a,Bool.not_false,if_true,List.cons_append];exact congrArg (t :: ·) i
   ·simp only [List.takeWhile_cons,nz,a,Bool.not_false,if_true,List.length_cons,List.drop_succ_cons];exact g
   ·rw [o9,a,f];simp
   ·intro x b;simp only [List.takeWhile_cons,nz,a,Bool.not_false,if_true,List.mem_cons] at b
    rcases b with rfl | b
    ·exact a
    ·exact e x b
theorem H9:∀ (c:Nat) (T:List Bs),zeros T=c->(fw T).1=cls c T
 | 0,T,h=>by
  have g:∀ t ∈ T,zero t=false:=by
   intro t b;have:=List.filter_eq_nil_iff.1 (List.eq_nil_of_length_eq_zero h) t b;simpa using this
  rw [nk,CO T _ g];rfl
 | c + 1,T,h=>by
  obtain ⟨R,f,e,i,d⟩:=Fj (T:=T) (by omega);have a:=H9 c R (by omega);rw [cls,e,<- a]
  conv=>lhs;rw [f]
  rw [nk,List.foldl_append,CO _ _ d,List.foldl_cons];rw [show eZ ([],[] ++ List.map eQ (List.takeWhile nz T)) [48]=([List.map eQ (List.takeWhile nz T)],[]) from rfl];rw [fold_acc];rfl
theorem ve (T:List Bs):(fw T).1.length=zeros T:=by rw [H9 _ T rfl,sM]
theorem MH (T:List Bs):(fw T).2.isEmpty=(T.isEmpty || T.getLast? == some [48]):=by
 by_cases h:T=[]
 ·subst h;rfl
 ·rw [<- List.dropLast_concat_getLast h,yM];have b:(T.dropLast ++ [T.getLast h]).getLast? = some (T.getLast h):=by simp
  rw [b];have c:(T.dropLast ++ [T.getLast h]).isEmpty=false:=by simp
  rw [c];by_cases a:zero (T.getLast h)=true
  ·rw [if_pos a];simpa [zero] using a
  ·rw [if_neg a];have:(T.getLast h == [48])=false:=by simpa [zero] using a
   simp [this]
theorem yF:∀ (l:Bs) (a:Nat),l.all p8=true->∃ n:Nat,Lib.decFrom a l=some n/\(n:Int)=l.foldl (fun n c=>10 * n + ((c.toNat:Int) - 48)) (a:Int)
 | [],a,_=>⟨a,rfl,rfl⟩
 | c :: r,a,h=>by
  rw [List.all_cons,Bool.and_eq_true] at h;have b:=h.1;simp [p8] at b;obtain ⟨n,e,d⟩:=yF r (a * 10 + (c.toNat - 48)) h.2;refine ⟨n,?_,?_⟩
  ·unfold Lib.decFrom Lib.digitVal;rw [if_pos b];exact e
  ·rw [d,List.foldl_cons]
   congr 1
   omega
theorem kS {t:Bs} (h:gJ t=true):t.all p8=true/\t ≠ []:=by
 unfold gJ at h;simp only [Bool.and_eq_true] at h;refine ⟨h.1,fun e=>?_⟩;subst e;simp at h
theorem yE {t:Bs} (h:gJ t=true) (a:t.length <= 9):∃ n:Nat,Lib.decNat t=some n/\(n:Int)=fZ t:=by
 obtain ⟨c,b⟩:=kS h;obtain ⟨n,e,d⟩:=yF t 0 c;refine ⟨n,?_,?_⟩
 ·unfold Lib.decNat;rw [if_neg (by simpa using b)];exact e
 ·rw [d];unfold fZ RY;rw [List.take_of_length_le a];rfl
theorem FQ {t:Bs} (h:gJ t=true) (g:t.length <= 9):Lib.atoi t=some (fZ t):=by
 obtain ⟨n,k,j⟩:=yE h g;obtain ⟨f,i⟩:=kS h
 cases t with
 | nil=>exact absurd rfl i
 | cons c r=>
  rw [List.all_cons,Bool.and_eq_true] at f;have d:=f.1;simp [p8] at d;have a:(c == 45)=false:=by
   rw [beq_eq_false_iff_ne];intro e;subst e;simp at d
  have b:(c == 43)=false:=by
   rw [beq_eq_false_iff_ne];intro e;subst e;simp at d
  simp only [Lib.atoi,a,b,k,<- j];rfl
theorem FU {v t:Bs} (h:iV v t=true) (e:(strip t).length <= 9):Lib.atoi t=some (eQ t):=by
 unfold iV at h;simp only [Bool.and_eq_true] at h;have d:=h.1.1;unfold eQ;by_cases a:t.head? = some 45
 ·have b:strip t=t.tail:=by unfold strip;rw [if_pos a]
  cases t with
  | nil=>simp at a
  | cons c r=>
   simp at a;subst a;rw [if_pos (show (45 :: r:Bs).head? = some 45 from rfl)];rw [b] at d e ⊢;obtain ⟨n,g,f⟩:=yE d e;simp only [List.tail_cons] at g f ⊢;simp only [Lib.atoi,g,<- f];rfl
 ·have b:strip t=t:=by unfold strip;rw [if_neg a]
  rw [if_neg a,b];rw [b] at d e;exact FQ d e
theorem jF {a b:Bs} (h:above a b=false):a.length <= b.length:=by
 unfold above at h;split at h
 ·omega
 ·simp at h;omega
theorem Ty {l:Bs} (h:l.head? = some 99):∃ r,line l=99 :: r:=by
 cases l with
 | nil=>simp at h
 | cons c r=>
  simp at h;subst h;exact ⟨line r,by simp [line]⟩
theorem Kl {l:Bs} {r:Bs} (h:line l=99 :: r):l.head? = some 99:=by
 cases l with
 | nil=>simp [line] at h
 | cons c t=>
  unfold line at h;rw [List.takeWhile_cons] at h;split at h
  ·simp at h;simp [h.1]
  ·simp at h
def kF (r:Nat):Bool:=r == 32 || r == 9 || r == 10
theorem EH {s:ByteArray} {i:Nat} (h:i < s.size):s.get! i=s[i]:=by
 show s.data[i]! = s.data[i]
 exact getElem!_pos s.data i h
theorem Fh (s:ByteArray) (a:Nat) (h:a < s.size) (l:128 <= (s[a]'h).toNat):
  ∀ k,k < (Utf8.decode s a).2->∃ e:a + k < s.size,128 <= (s[a + k]'e).toNat:=by
 intro k b;by_cases g:k=0
 ·subst g;exact ⟨h,l⟩
 have i:¬ (s.get! (a + 0)).toNat < 128:=by rw [Nat.add_zero,EH h];omega
 have c:∀ j,(decide (a + j < s.size) && (s.get! (a + j)).toNat / 64 == 2)=true->∃ e:a + j < s.size,128 <= (s[a + j]'e).toNat:=fun j f=>by
  simp only [Bool.and_eq_true,decide_eq_true_eq,beq_iff_eq] at f;refine ⟨f.1,?_⟩;have:=f.2;rw [EH f.1] at this;omega
 unfold Utf8.decode at b;simp only [i,if_false] at b;split at b
 ·rename_i d;simp only [Bool.and_eq_true] at d;split at b
  ·simp only at b;have:k=1:=by omega
   subst this;exact c 1 (by simpa using d.2)
  ·simp only at b;omega
 ·split at b
  ·rename_i d;simp only [Bool.and_eq_true] at d;split at b
   ·simp only at b;have:k=1\/k=2:=by omega
    rcases this with rfl | rfl
    ·exact c 1 (by simpa using d.1.2)
    ·exact c 2 (by simpa using d.2)
   ·simp only at b;omega
  ·split at b
   ·rename_i d;simp only [Bool.and_eq_true] at d;split at b
    ·simp only at b;have:k=1\/k=2\/k=3:=by omega
     rcases this with rfl | rfl | rfl
     ·exact c 1 (by simpa using d.1.1.2)
     ·exact c 2 (by simpa using d.1.2)
     ·exact c 3 (by simpa using d.2)
    ·simp only at b;omega
   ·simp only at b;omega
theorem EL:∀ (r:Bs) (a:List Bs × Bs),(∀ c ∈ r,gap c=false)->r.foldl nG a=(a.1,a.2 ++ r)
 | [],a,_=>by simp
 | c :: r,a,h=>by
  have d:=h c (by simp);simp only [List.foldl_cons];rw [EL r _ (fun x b=>h x (by simp [b]))];simp [nG,d]
theorem Gu (a b:Bs):nX (a ++ b)=b.foldl nG (nX a):=by unfold nX;rw [List.foldl_append]
def sub (L:Bs) (a b:Nat):Bs:=(L.take b).drop a
theorem sZ (L:Bs) {a b:Nat} (h:a <= b):L.take b=L.take a ++ sub L a b:=by
 unfold sub
 conv=>lhs;rw [<- List.take_append_drop a (L.take b)]
 rw [List.take_take,Nat.min_eq_left h]
theorem Pt (L:Bs) {a b c:Nat} (h:a <= b) (d:b <= c):sub L a b ++ sub L b c=sub L a c:=by
 have e:=sZ L (a:=a) (b:=c) (by omega);have g:=sZ L h;have f:=sZ L d;rw [f,g,List.append_assoc] at e;exact List.append_cancel_left e
def Inv (s:ByteArray) (pos:Nat) (st:Option Nat) (acc:List (Nat × Nat)):Prop:=
 nX (s.data.toList.take pos)=(acc.map fun x=>sub s.data.toList x.1 x.2,match st with | none=>[] | some a=>sub s.data.toList a pos)/\(∀ a,st=some a->a < pos)/\pos <= s.size
theorem LU {s:ByteArray} {a b:Nat} (h:a < b) (d:b <= s.size):(sub s.data.toList a b).isEmpty=false:=by
 rw [Bool.eq_false_iff];intro c;have:=congrArg List.length (List.isEmpty_iff.1 c);simp [sub] at this;omega
theorem Ps {s:ByteArray} {a b:Nat} {c:UInt8} (h:c ∈ sub s.data.toList a b):∃ k,∃ d:a + k < s.size,a + k < b/\c=s[a + k]'d:=by
 unfold sub at h;obtain ⟨i,f,e⟩:=List.getElem_of_mem h;simp at f;refine ⟨i,by omega,by omega,?_⟩;rw [<- e];simp [ByteArray.getElem_eq_getElem_data]
def U1 (st:Option Nat) (acc:List (Nat × Nat)) (pos:Nat):List (Nat × Nat):=
 match st with | some a=>acc ++ [(a,pos)] | none=>acc
def Wu (st:Option Nat) (pos:Nat):Option Nat:=
 match st with | some a=>some a | none=>some pos
theorem Q9 {s:ByteArray} {b:Nat} {st:Option Nat} {c:List (Nat × Nat)} (h:Inv s b st c) (e:b < s.size) (f:gap s[b]=true):
  Inv s (b + 1) none (U1 st c b):=by
 obtain ⟨j,i,g⟩:=h;have d:s.data.toList.take (b + 1)=s.data.toList.take b ++ [s[b]]:=by
  rw [List.take_succ_eq_append_getElem (by simpa using e)];rfl
 refine ⟨?_,(fun a h=>by cases h),by omega⟩;rw [d,DC,j];unfold nG;rw [f,if_pos rfl]
 cases st with
 | none=>rfl
 | some a=>
  simp only;rw [LU (i a rfl) g];simp [U1]
theorem Q8 {s:ByteArray} {d f:Nat} {st:Option Nat} {g:List (Nat × Nat)} (h:Inv s d st g) (o:1 <= f) (e:∀ k,k < f->∃ i:d + k < s.size,gap (s[d + k]'i)=false):
  Inv s (d + f) (Wu st d) g:=by
 obtain ⟨n,j,r⟩:=h;obtain ⟨p,_⟩:=e (f - 1) (by omega);refine ⟨?_,?_,by omega⟩
 ·rw [sZ s.data.toList (a:=d) (b:=d + f) (by omega),Gu,n,EL]
  ·cases st with
   | none=>rfl
   | some a=>simp only;rw [Pt _ (Nat.le_of_lt (j a rfl)) (by omega)];rfl
  ·intro c m;obtain ⟨k,q,l,rfl⟩:=Ps m;exact (e k (by omega)).2
 ·cases st with
  | none=>intro a h;cases h;omega
  | some a=>intro t h;cases h;have:=j a rfl;omega
theorem NI (s:ByteArray) (a:Nat) (h:a < s.size):kF (Utf8.decode s a).1=gap s[a]:=by
 by_cases b:(s[a]'h).toNat < 128
 ·rw [decode_ascii s a h b];unfold kF gap;rw [Bool.eq_iff_iff];simp [<- UInt8.toNat_inj]
 ·have c:=(decode_high s a h (by omega)).1;unfold kF gap;rw [Bool.eq_iff_iff];simp [<- UInt8.toNat_inj];omega
theorem oO (s:ByteArray):∀ (f b:Nat) (e:Option Nat) (acc:List (Nat × Nat)),s.size <= b + f->Inv s b e acc->
  Inv s s.size (Lib.spansFromP kF s f b e acc).2 (Lib.spansFromP kF s f b e acc).1
 | 0,b,e,acc,hf,hi=>by
  have:b=s.size:=by have:=hi.2.2;omega
  subst this;exact hi
 | f + 1,b,e,acc,hf,hi=>by
  unfold Lib.spansFromP;by_cases c:b < s.size
  ·rw [if_pos c,NI s b c]
   cases l:gap s[b] with
   | true=>
    have i:(s[b]'c).toNat < 128:=by
     simp [gap,<- UInt8.toNat_inj] at l;omega
    have d:=Q9 hi c l;rw [decode_ascii s b c i]
    cases e with
    | none=>simp only [if_true];exact oO s f _ _ _ (by omega) d
    | some a=>simp only [if_true];exact oO s f _ _ _ (by omega) d
   | false=>
    have n:1 <= (Utf8.decode s b).2:=by
     by_cases i:(s[b]'c).toNat < 128
     ·rw [decode_ascii s b c i];simp
     ·exact (decode_high s b c (by omega)).2
    have h:∀ k,k < (Utf8.decode s b).2->∃ g:b + k < s.size,gap (s[b + k]'g)=false:=by
     intro k j;by_cases i:(s[b]'c).toNat < 128
     ·rw [decode_ascii s b c i] at j;simp only at j;have:k=0:=by omega
      subst this;exact ⟨c,l⟩
     ·obtain ⟨g,o⟩:=Fh s b c (by omega) k j;refine ⟨g,?_⟩;rw [Bool.eq_false_iff];intro m;simp [gap,<- UInt8.toNat_inj] at m;omega
    have d:=Q8 hi n h
    cases e with
    | none=>simp only [Bool.false_eq_true,if_false];exact oO s f _ _ _ (by omega) d
    | some a=>simp only [Bool.false_eq_true,if_false];exact oO s f _ _ _ (by omega) d
  ·rw [if_neg c];have:b=s.size:=by have:=hi.2.2;omega
   subst this;exact hi
theorem EP (s:ByteArray):(Lib.goFieldsP kF s).map (fun x=>x.data.toList)=toks s.data.toList:=by
 have h:=oO s s.size 0 none [] (by omega) ⟨by simp [nX],(fun a h=>by cases h),by omega⟩;obtain ⟨f,g,_⟩:=h;rw [List.take_of_length_le (by simp)] at f;rw [<- Po,f];unfold Lib.goFieldsP Lib.spansOfP Lib.closeSpans close;have e:∀ a b,List.take (b - a) (List.drop a s.data.toList)=sub s.data.toList a b:=fun a b=>by
  rw [sub,List.drop_take]
 cases c:(Lib.spansFromP kF s s.size 0 none []).2 with
 | none=>simp [List.map_map,Function.comp_def,e]
 | some a=>
  have d:=LU (s:=s) (g a c) lr;simp only [d];simp [List.map_map,Function.comp_def,e]
theorem LH (l:Bs):(toks l).length <= l.length/\∀ t ∈ toks l,t.length <= l.length:=by
 suffices h:∀ (l w:Bs),(gU w l).length <= l.length + w.length/\∀ t ∈ gU w l,t.length <= l.length + w.length by
  have:=h l [];simpa [toks] using this
 intro l
 induction l with
 | nil=>intro w;unfold gU;cases w <;> simp
 | cons c r ih=>
  intro w;unfold gU;split
  ·split
   ·have:=ih [];simp at this ⊢;exact ⟨by omega,fun t a=>by have:=this.2 t a;omega⟩
   ·rename_i d;have:=ih [];have b:1 <= w.length:=by cases w <;> simp at d ⊢
    simp at this ⊢;exact ⟨by omega,fun t a=>by have:=this.2 t a;omega⟩
  ·have:=ih (w ++ [c]);simp at this ⊢;exact ⟨by omega,fun t a=>by have:=this.2 t a;omega⟩
end
section
open Go Go.RowKit
theorem sK {s:ByteArray} (h:s.size=0):s.toList.isEmpty=true:=by
 rw [ByteArray.toList_eq];have:s.data.toList=[]:=List.eq_nil_of_length_eq_zero (by simpa using h);rw [this];rfl
theorem qG {s:ByteArray} (h:¬ s.size=0):s.toList.isEmpty=false:=by
 rw [ByteArray.toList_eq,Bool.eq_false_iff];intro a;have:=List.isEmpty_iff.1 a;apply h;have e:=congrArg List.length this;simpa using e
def lead (s:ByteArray):Prop:=∃ h:0 < s.size,s.size=1\/¬ ((s[0].toNat:Int)=48)
theorem Av {s:ByteArray} (h:zI s s.size) (b:lead s):gJ s.data.toList=true:=by
 obtain ⟨c,a⟩:=b;by_cases e:s.size=1
 ·exact MM h e
 ·rw [J9 h (by omega)];simp
  rcases a with a | a
  ·exact absurd a e
  ·omega
theorem OZ {s:ByteArray} (h:(!s.toList == [48])=false):s.size=1:=by
 simp [ByteArray.toList_eq] at h;have e:=congrArg List.length h;simpa using e
theorem Eg {s:ByteArray} (g:0 < s.size) (f:((s[0].toNat:Int) == 48)=true) (h:(!s.toList == [48])=true):gJ s.data.toList=false:=by
 have a:s.data.toList.head? = some s[0]:=by
  rw [List.head?_eq_getElem?,List.getElem?_eq_getElem (by simpa using g)];rfl
 have j:s[0]=48:=by
  rw [<- UInt8.toNat_inj];simp at f ⊢;omega
 rw [j] at a;have d:s.data.toList.length=s.size:=by simp
 have b:s.size ≠ 1:=by
  intro i;rw [i] at d;obtain ⟨c,e⟩:=List.length_eq_one_iff.1 d;rw [e] at a;simp at a;simp [ByteArray.toList_eq,e,a] at h
 simp [gJ,a,d,b]
theorem kC (s:ByteArray) (w:World) (o:s.size <= maxLen):
  Calls Tryz.prog 105 #[.string s] w fun e m=>e=.returned (.bool (gJ s.data.toList))/\m=w:=by
 unfold maxLen at o;by_cases j:s.size=0
 ·have q:=sK j;have E:=hide (J7 j);go_enter Tryz.func105,Tryz.ntmps105
  go_wp2;go_ret
  exact ⟨fH (by rw [E.out]),rfl⟩
 ·have q:=qG j;have h:0 < s.size:=by omega
  by_cases b:((s[0].toNat:Int) == 48)=true
  ·by_cases d:(!s.toList == [48])=true
   ·have E:=hide (Eg h b d);go_enter Tryz.func105,Tryz.ntmps105
    go_wp2;go_ret
    exact ⟨fH (by rw [E.out]),rfl⟩
   ·have c:(!s.toList == [48])=false:=by simpa using d
    clear d;have E:Hid (lead s):=⟨h,.inl (OZ c)⟩;go_enter Tryz.func105,Tryz.ntmps105
    go_wp2;go_loop [17] (fun i=>∃ k:Nat,k <= s.size/\i=.int .i64 k/\Hid (zI s k)) (fun i=>s.size - (intOf i).toNat)
    case atStart=>exact ⟨0,zl,rfl,rfl⟩
    case round=>
     obtain ⟨k,p,rfl,hd⟩:=hrel;by_cases a:k < s.size
     ·by_cases g:(s[k].toNat:Int) < 48
      ·go_wp2;go_ret
       exact ⟨fH (tQ a (by omega)).symm,rfl⟩
      ·by_cases f:57 < (s[k].toNat:Int)
       ·go_wp2;go_ret
        exact ⟨fH (tQ a (by omega)).symm,rfl⟩
       ·go_wp2;go_round
        case rel=>exact ⟨k + 1,by omega,by go_num,Bg hd.out a (by omega) (by omega)⟩
        case measure=>simp [intOf];omega
     ·have l:Hid (gJ s.data.toList=true):=by
       have e:k=s.size:=by omega
       subst e;exact Av hd.out E.out
      go_wp2;go_ret
      exact ⟨fH (by rw [l.out]),rfl⟩
  ·have n:((s[0].toNat:Int) == 48)=false:=by simpa using b
   have E:Hid (lead s):=⟨h,.inr (by simpa using b)⟩;clear b;go_enter Tryz.func105,Tryz.ntmps105
   go_wp2;go_loop [17] (fun i=>∃ k:Nat,k <= s.size/\i=.int .i64 k/\Hid (zI s k)) (fun i=>s.size - (intOf i).toNat)
   case atStart=>exact ⟨0,zl,rfl,rfl⟩
   case round=>
    obtain ⟨k,p,rfl,hd⟩:=hrel;by_cases a:k < s.size
    ·by_cases g:(s[k].toNat:Int) < 48
     ·go_wp2;go_ret
      exact ⟨fH (tQ a (by omega)).symm,rfl⟩
     ·by_cases f:57 < (s[k].toNat:Int)
      ·go_wp2;go_ret
       exact ⟨fH (tQ a (by omega)).symm,rfl⟩
      ·go_wp2;go_round
       case rel=>exact ⟨k + 1,by omega,by go_num,Bg hd.out a (by omega) (by omega)⟩
       case measure=>simp [intOf];omega
    ·have l:Hid (gJ s.data.toList=true):=by
      have e:k=s.size:=by omega
      subst e;exact Av hd.out E.out
     go_wp2;go_ret
     exact ⟨fH (by rw [l.out]),rfl⟩
theorem dO {B:Nat} {a w:World} (h:Below B a w) (n:Nat):Below B a (w.drewN n):=h.trans ⟨rfl,rfl,rfl,lr,fun _ _=>rfl⟩
end
section
open Go Go.RowKit Go.Deep
def Vm (b:Nat) (xs:List Int):Value:=.slice (some ⟨b,0,none⟩) xs.length xs.length
def kD (xs:List Int) (q:Nat):Value:=.int .i64 (xs.getD q 0)
def vO (cl:List (List Int)) (B:Nat->Nat) (k j:Nat):Value:=if j < k then Vm (B j) (cl.getD j []) else .slice none 0 0
def partAt (xs:List Int) (last:Bool) (p q:Nat):Value:=if last && decide (p <= q) then .int .i64 0 else kD xs q
structure Mem (te ti:TypeId) (base CB:Nat) (cl:List (List Int)) (w0 wr:World) (k:Nat) (B:Nat->Nat) (p:Nat):Prop where
 outer:wr.rowIs CB te cl.length (vO cl B k)
 inner:∀ j,j < k->CB < B j/\wr.rowIs (B j) ti (cl.getD j []).length (partAt (cl.getD j []) (j + 1 == k) p)
 gY:∀ j j',j < j'->j' < k->B j < B j'
 below:Below base w0 wr
 lW:base <= CB
theorem Mem.later {te e:TypeId} {a g:Nat} {f:List (List Int)} {w0 wr b:World} {k:Nat} {B:Nat->Nat} {p:Nat} (h:Mem te e a g f w0 wr k B p) (d:Below wr.heap.size wr b):Mem te e a g f w0 b k B p where
 outer:=h.outer.of_block (d.block _ h.outer.lt)
 inner:=fun j c=>⟨(h.inner j c).1,(h.inner j c).2.of_block (d.block _ (h.inner j c).2.lt)⟩
 gY:=h.gY
 below:=h.below.trans (d.mono (by have:=h.outer.lt;have:=h.lW;omega))
 lW:=h.lW
theorem nL {a:List Int} {b:Bool} {p q:Nat} (h:q < p):partAt a b p q=kD a q:=by
 unfold partAt;rw [if_neg (by simp;intro _;omega)]
theorem iN {a:List Int} {p q:Nat}:partAt a false p q=kD a q:=by unfold partAt;rfl
theorem Mem.push {te g:TypeId} {c f:Nat} {b:List (List Int)} {w0 wr:World} {k:Nat} {B:Nat->Nat} {p:Nat} (h:Mem te g c f b w0 wr k B p) (x:k < b.length)
  (u:∀ j,j + 1=k->(b.getD j []).length <= p) (e:Nat) (n:e=(b.getD k []).length):
  Mem te g c f b w0 ((wr.setCell ⟨f,k,none⟩ (.slice (some ⟨wr.heap.size,0,none⟩) e e)).alloc (.cells (madeCells #[.int .i64 0] e) g)) (k + 1) (fun j=>if j=k then wr.heap.size else B j) 0 where
 outer:=by
  subst n;refine ((h.outer.set k _).alloc _).congr fun i v=>?_
  unfold vO Vm;by_cases e:i=k
  ·subst e;simp
  ·by_cases s:i < k
   ·simp [e,s,show i < k + 1 by omega]
   ·simp [e,s,show ¬ i < k + 1 by omega]
 inner:=fun j y=>by
  subst n;by_cases e:j=k
  ·subst e;simp only [if_true];refine ⟨h.outer.lt,?_⟩;have m:=World.rowIs_made (wr.setCell ⟨f,j,none⟩ (.slice (some ⟨wr.heap.size,0,none⟩) (b.getD j []).length (b.getD j []).length)) (.int .i64 0) (b.getD j []).length g;rw [show (wr.setCell ⟨f,j,none⟩ (.slice (some ⟨wr.heap.size,0,none⟩) (b.getD j []).length (b.getD j []).length)).heap.size=wr.heap.size from by simp [World.setCell]] at m;exact m.congr fun i v=>by simp [partAt]
  ·have d:j < k:=by omega
   simp only [e,if_false];refine ⟨(h.inner j d).1,?_⟩;have:=((h.inner j d).2.setOther (a:=⟨f,k,none⟩) (by have:=(h.inner j d).1;simp;omega) (.slice (some ⟨wr.heap.size,0,none⟩) (b.getD k []).length (b.getD k []).length)).alloc (.cells (madeCells #[.int .i64 0] (b.getD k []).length) g);refine this.congr fun q w=>?_
   have t:(j + 1 == k + 1)=false:=by simp;omega
   rw [t,iN];by_cases r:j + 1=k
   ·exact nL (by have:=u j r;omega)
   ·have:(j + 1 == k)=false:=by simpa using r
    rw [this,iN]
 gY:=fun j l o z=>by
  by_cases e:l=k
  ·subst e;have:¬ j=l:=by omega
   simp only [if_true,this,if_false];exact (h.inner j o).2.lt
  ·have:¬ j=k:=by omega
   simp only [e,this,if_false];exact h.gY j l o (by omega)
 below:=(h.below.setCell (by exact h.lW) _).alloc (by have:=h.outer.lt;have:=h.lW;simp [World.setCell];omega) _
 lW:=h.lW
theorem Mem.put {te g:TypeId} {b m:Nat} {f:List (List Int)} {w0 wr:World} {k:Nat} {B:Nat->Nat} {p:Nat} (h:Mem te g b m f w0 wr (k + 1) B p) (x:Int) (o:x=(f.getD k []).getD p 0):
  Mem te g b m f w0 (wr.setCell ⟨B k,p,none⟩ (.int .i64 x)) (k + 1) B (p + 1) where
 outer:=h.outer.setOther (by have:=(h.inner k (by omega)).1;simp;omega) _
 inner:=fun j d=>by
  refine ⟨(h.inner j d).1,?_⟩;by_cases e:j=k
  ·subst e;refine ((h.inner j d).2.set p _).congr fun q r=>?_
   have s:(j + 1 == j + 1)=true:=by simp
   rw [s];by_cases l:q=p
   ·subst l;simp [partAt,kD,o];intro h;omega
   ·simp only [l,if_false];unfold partAt;by_cases i:p <= q
    ·simp [i,show p + 1 <= q by omega]
    ·simp [i,show ¬ p + 1 <= q by omega]
  ·have c:j < k:=by omega
   refine ((h.inner j d).2.setOther (a:=⟨B k,p,none⟩) (by have:=h.gY j k c (by omega);simp;omega) _).congr fun q r=>?_
   have n:(j + 1 == k + 1)=false:=by simp;omega
   rw [n,iN,iN]
 gY:=h.gY
 below:=h.below.setCell (by have:=(h.inner k (by omega)).1;have:=h.lW;simp;omega) _
 lW:=h.lW
structure Lists (te ti:TypeId) (base:Nat) (w:World) (v:Value) (cl:List (List Int)):Prop where
 ex:∃ (CB:Nat) (B:Nat->Nat),v=.slice (some ⟨CB,0,none⟩) cl.length cl.length/\base <= CB/\w.rowIs CB te cl.length (fun j=>Vm (B j) (cl.getD j []))/\
  (∀ j,j < cl.length->CB < B j/\w.rowIs (B j) ti (cl.getD j []).length (kD (cl.getD j [])))/\∀ j j',j < j'->j' < cl.length->B j < B j'
theorem Lists.mono {te c:TypeId} {b a:Nat} {w:World} {v:Value} {d:List (List Int)} (h:Lists te c b w v d) (i:a <= b):Lists te c a w v d:=by
 obtain ⟨g,B,f,j,e⟩:=h.ex;exact ⟨g,B,f,by omega,e⟩
theorem Mem.lists {te d:TypeId} {b c:Nat} {a:List (List Int)} {w0 wr:World} {B:Nat->Nat} {p:Nat} (h:Mem te d b c a w0 wr a.length B p) (g:∀ j,j + 1=a.length->(a.getD j []).length <= p):
  Lists te d b wr (.slice (some ⟨c,0,none⟩) a.length a.length) a:=
 ⟨c,B,rfl,h.lW,h.outer.congr fun i k=>by simp [vO,k],fun j f=>⟨(h.inner j f).1,(h.inner j f).2.congr fun q l=>by
  by_cases e:j + 1=a.length
  ·exact nL (by have:=g j e;omega)
  ·have:(j + 1 == a.length)=false:=by simpa using e
   rw [this,iN]⟩,h.gY⟩
def AU (xs:List Int):List Value:=xs.map (Value.int .i64)
theorem own_ne {w:World} {B te c n m:Nat} {v u:Value} {i h:List Value} (l:w.ownsRow B te 1 v n i) (k:w.ownsRow B c 1 u m h) (b:te ≠ c):v.ownBlock=none\/v.ownBlock ≠ u.ownBlock:=by
 rcases l.2 with ⟨rfl,_⟩ | ⟨g,p,o,rfl,_,j,_⟩
 ·exact .inl rfl
 ·right
  rcases k.2 with ⟨rfl,_⟩ | ⟨q,f,d,rfl,_,a,_⟩
  ·simp [Value.ownBlock]
  ·simp only [Value.ownBlock,ne_eq,Option.some.injEq];intro e;subst e;rw [j] at a;simp at a;exact b a.2
structure o7 (te ti B:Nat) (wr:World) (cv Wp:Value) (us:List Value) (cs:List (List Int)) (cur:List Int):Prop where
 outer:wr.ownsRow B te 1 cv us.length us
 row:wr.ownsRow B ti 1 Wp cur.length (AU cur)
 len:us.length=cs.length
 inner:∀ (j:Nat) u,us[j]? = some u->wr.ownsRow B ti 1 u (cs.getD j []).length (AU (cs.getD j []))/\(u.ownBlock=none\/u.ownBlock ≠ Wp.ownBlock)
theorem o7.later {te f B:Nat} {wr a:World} {cv e:Value} {us:List Value} {cs:List (List Int)} {d:List Int} (h:o7 te f B wr cv e us cs d) (c:Below wr.heap.size wr a):o7 te f B a cv e us cs d:=by
 have m:wr.grownBy a none:=⟨c.os,c.tape,c.output,c.size,fun k l _=>c.block k l⟩;have b:∀ {t n v xs},wr.ownsRow B t 1 v n xs->a.ownsRow B t 1 v n xs:=fun {t n v xs} ho=>by
  refine ho.kept m ?_
  cases o:v.ownBlock with
  | none=>exact .inl rfl
  | some g=>exact .inr (by simp)
 exact ⟨b h.outer,b h.row,h.len,fun j u i=>⟨b (h.inner j u i).1,(h.inner j u i).2⟩⟩
theorem o7.lit {te k B:Nat} {wr l:World} {cv i a:Value} {us:List Value} {cs:List (List Int)} {c:List Int} {o:Obj} {x:Int} (n:te ≠ k) (h:o7 te k B wr cv i us cs c)
  (d:l.ownsRow B k 1 a (c.length + 1) (AU c ++ [.int .i64 x])) (b:(wr.alloc o).grownBy l i.ownBlock) (p:a.ownBlock=i.ownBlock\/a.ownBlock=some (wr.alloc o).heap.size):
  o7 te k B l cv a us cs (c ++ [x]) where
 outer:=(h.outer.alloc o).kept b (own_ne h.outer h.row n)
 row:=by simpa [AU] using d
 len:=h.len
 inner:=fun j u r=>by
  obtain ⟨q,f⟩:=h.inner j u r;refine ⟨(q.alloc o).kept b f,?_⟩
  cases m:u.ownBlock with
  | none=>exact .inl rfl
  | some g=>
   right
   rcases p with e | e
   ·rw [e,<- m];rcases f with f | f
    ·rw [m] at f;cases f
    ·exact f
   ·rw [e];have:=(q.lt g m).2;simp;omega
theorem o7.zero {te f B:Nat} {wr m:World} {cv l d:Value} {us:List Value} {cs:List (List Int)} {a:List Int} {o:Obj} (p:te ≠ f) (h:o7 te f B wr cv d us cs a)
  (b:m.ownsRow B te 1 l (us.length + 1) (us ++ [d])) (c:(wr.alloc o).grownBy m cv.ownBlock):
  o7 te f B m l (.slice none 0 0) (us ++ [d]) (cs ++ [a]) [] where
 outer:=by simpa using b
 row:=World.ownsRow_nil _ _ _ _
 len:=by simp [h.len]
 inner:=fun j u k=>by
  have keep:∀ {n v xs},wr.ownsRow B f 1 v n xs->m.ownsRow B f 1 v n xs:=fun {n v xs} ho=>(ho.alloc o).kept c (own_ne ho h.outer (fun e=>p e.symm))
  have r:u.ownBlock=none\/u.ownBlock ≠ (Value.slice none 0 0).ownBlock:=by
   cases s:u.ownBlock with
   | none=>exact .inl rfl
   | some g=>exact .inr (by simp [Value.ownBlock])
  refine ⟨?_,r⟩;by_cases i:j < us.length
  ·rw [List.getElem?_append_left i] at k;have q:(cs ++ [a]).getD j []=cs.getD j []:=by
    simp only [List.getD_eq_getElem?_getD];rw [List.getElem?_append_left (by rw [<- h.len];exact i)]
   rw [q];exact keep (h.inner j u k).1
  ·have e:j=us.length:=by
    have:=(List.getElem?_eq_some_iff.1 k).1;simp at this;omega
   subst e;simp at k;subst k;have q:(cs ++ [a]).getD us.length []=a:=by
    simp only [List.getD_eq_getElem?_getD];rw [h.len,List.getElem?_append_right lr];simp
   rw [q];exact keep h.row
def Rz (te ti B:Nat) (w:World) (v:Value) (cl:List (List Int)):Prop:=∃ us,o7 te ti B w v (.slice none 0 0) us cl []
def Jt (w:World) (u:Value) (xs:List Int):Prop:=∃ (a:Option Addr) (c b:Nat),u=.slice a xs.length c/\(0 < xs.length->a=some ⟨b,0,none⟩)/\∀ j,j < xs.length->w.cell? ⟨b,j,none⟩=some (.int .i64 (xs.getD j 0))
def rO (w:World) (v:Value) (cl:List (List Int)):Prop:=∃ (a:Option Addr) (c b:Nat),v=.slice a cl.length c/\(0 < cl.length->a=some ⟨b,0,none⟩)/\∀ i,i < cl.length->∃ u,w.cell? ⟨b,i,none⟩=some u/\Jt w u (cl.getD i [])
theorem Lists.read {te d B:Nat} {w:World} {v:Value} {a:List (List Int)} (h:Lists te d B w v a):rO w v a:=by
 obtain ⟨k,c,rfl,m,g,f,l⟩:=h.ex;refine ⟨_,a.length,k,rfl,fun _=>rfl,fun i b=>⟨_,g.cell b,?_⟩⟩;exact ⟨some ⟨c i,0,none⟩,(a.getD i []).length,c i,rfl,fun _=>rfl,fun j e=>(f i b).2.cell e⟩
theorem vM (w:World):rO w (.slice none 0 0) []:=⟨none,0,0,rfl,fun h=>by simp at h,fun i a=>by simp at a⟩
theorem Tryz.Ex:(Tryz.prog.info? 3).map (fun i=>(i.zero,i.size,i.bytes))=some (some (.int .i64 0),1,8):=by kernel_rfl
theorem Tryz.AV:(Tryz.prog.info? 43).map (fun i=>(i.zero,i.size,i.bytes))=some (some (.slice none 0 0),1,24):=by kernel_rfl
theorem yN (T:List Bs):(fw T).1.length <= T.length/\(fw T).2.length <= T.length:=by
 suffices h:∀ (T:List Bs) (a:List (List Int) × List Int) (n:Nat),a.1.length <= n->a.2.length <= n->(T.foldl eZ a).1.length <= n + T.length/\(T.foldl eZ a).2.length <= n + T.length by
  have:=h T ([],[]) 0 (by simp) (by simp);simpa [nk] using this
 intro T
 induction T with
 | nil=>intro a n d c;simpa using ⟨d,c⟩
 | cons t r ih=>
  intro a n d c;simp only [List.foldl_cons,List.length_cons];have b:(eZ a t).1.length <= n + 1/\(eZ a t).2.length <= n + 1:=by
   unfold eZ;split <;> simp <;> omega
  have:=ih (eZ a t) (n + 1) b.1 b.2;omega
theorem JZ {l v c:Bs} (h:tO l=some (v,c)):gJ v=true:=by
 unfold tO at h;split at h
 ·split at h
  ·rename_i a;simp only [Bool.and_eq_true] at a;simp only [Option.some.injEq,Prod.mk.injEq] at h;rw [<- h.1];exact a.1.2
  ·cases h
 ·cases h
theorem Ba:∀ (f:Nat) {l v c r:Bs},oP f l=some (v,c,r)->gJ v=true
 | 0,l,v,c,r,h=>by simp [oP] at h
 | f + 1,l,v,c,r,h=>by
  unfold oP at h;split at h
  ·split at h
   ·exact Ba f h
   ·obtain ⟨x,a,e⟩:=Option.map_eq_some_iff.1 h;simp only [Prod.mk.injEq] at e;obtain ⟨d,b⟩:=x;simp only at e;rw [<- e.1];exact JZ a
  ·cases h
theorem dI {w':World} {B:Nat} {v:Value} {n:Nat} {d:List Value} {t:TypeId} (h:w'.ownsRow B t 1 v n d):∃ a c,v=.slice a n c:=by
 rcases h.2 with ⟨rfl,e⟩ | ⟨g,b,f,rfl,_⟩
 ·exact ⟨none,0,by rw [e]⟩
 ·exact ⟨_,b,rfl⟩
def gH (l:Int):Prop:=(1 <= l/\l <= 50)\/(-50 <= l/\l <= -1)
end
end Rd
end Go.Proofs.YtceahffmenbibaaGreatDoor
