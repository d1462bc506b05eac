/- Rspec Cspec Rnum Rcls Rtok Rprog1 Rref2 Rref3 Rref4 Rmem. -/
import Derived.Lib.ItoaNum
import Derived.Lib.Strings
import Derived.Lib.IndexMore
import Derived.Test.YtceahffmenbibaaGreatDoorChecked
import Derived.WalkKit
import Derived.WalkLawsBesides
import Derived.WalkSpells
import Derived.Below
import Derived.Lib.Atoi
import Derived.Lib.FieldsP
import Derived.Laws.RangeAny
import Derived.Laws.RangeString
import Derived.Maps.AppendAt
import Derived.Deep.QuietTactic
import Derived.BigQuiet
import Derived.Deep.OwnRows
set_option linter.unusedVariables false
set_option linter.unusedSimpArgs false
namespace Go.Proofs.YtceahffmenbibaaGreatDoor
namespace Rd
abbrev Bs:Type:=List UInt8
def isDig (c:UInt8):Bool:=decide (48 ≤ c.toNat) && decide (c.toNat ≤ 57)
def numB (l:Bs):Bool:=l.all isDig && (l.length == 1 || (decide (1 < l.length) && !(l.head? == some 48)))
def gap (c:UInt8):Bool:=c == 32 || c == 9 || c == 10
def toksF:Bs→Bs→List Bs
 | w,[]=>if w.isEmpty then [] else [w]
 | w,c :: r=>if gap c then (if w.isEmpty then toksF [] r else w :: toksF [] r) else toksF (w ++ [c]) r
def toks (l:Bs):List Bs:=toksF [] l
def tokStep (st:List Bs × Bs) (c:UInt8):List Bs × Bs:=if gap c then (if st.2.isEmpty then st.1 else st.1 ++ [st.2],[]) else (st.1,st.2 ++ [c])
def toksTo (l:Bs):List Bs × Bs:=l.foldl tokStep ([],[])
theorem toksTo_snoc (l:Bs) (c:UInt8):toksTo (l ++ [c])=tokStep (toksTo l) c:=by
 unfold toksTo;rw [List.foldl_append];rfl
def close (st:List Bs × Bs):List Bs:=if st.2.isEmpty then st.1 else st.1 ++ [st.2]
theorem toksF_fold:∀ (l:Bs) (acc:List Bs) (w:Bs),close (l.foldl tokStep (acc,w))=acc ++ toksF w l
 | [],acc,w=>by
  simp only [List.foldl_nil,close,toksF]
  cases w <;> simp
 | c :: r,acc,w=>by
  simp only [List.foldl_cons,toksF,tokStep]
  cases hg:gap c with
  | true=>
   cases hw:w.isEmpty with
   | true=>simp only [if_true];rw [toksF_fold r]
   | false=>simp only [if_true,Bool.false_eq_true,if_false];rw [toksF_fold r];simp
  | false=>simp only [Bool.false_eq_true,if_false];rw [toksF_fold r]
theorem toks_eq (l:Bs):close (toksTo l)=toks l:=by
 have:=toksF_fold l [] []
 simpa [toksTo,toks] using this
def splitTo (c:UInt8) (l:Bs):List Bs × Bs:=l.foldl (fun st x=>if x == c then (st.1 ++ [st.2],[]) else (st.1,st.2 ++ [x])) ([],[])
def splitB (c:UInt8) (l:Bs):List Bs:=(splitTo c l).1 ++ [(splitTo c l).2]
def valTo (l:Bs):Int:=l.foldl (fun n c=>10 * n + ((c.toNat:Int) - 48)) 0
def value9 (l:Bs):Int:=valTo (l.take 9)
def line (l:Bs):Bs:=l.takeWhile (fun c=>!(c == 10))
def rest (l:Bs):Bs:=l.drop ((line l).length + 1)
def ended (l:Bs):Bool:=decide ((line l).length < l.length)
def comment (l:Bs):Bool:=l == [99] || Lib.hasPrefix l [99,32]
def pline (l:Bs):Option (Bs × Bs):=
 match splitB 32 l with
 | [a,b,v,c]=>if a == [112] && b == [99,110,102] && numB v && numB c then some (v,c) else none
 | _=>none
def headF:Nat→Bs→Option (Bs × Bs × Bs)
 | 0,_=>none
 | f + 1,l=>if ended l then (if comment (line l) then headF f (rest l) else (pline (line l)).map fun x=>(x.1,x.2,rest l)) else none
def above (a b:Bs):Bool:=if a.length=b.length then !Op.bytesLess a b && !(a == b) else decide (b.length < a.length)
def strip (t:Bs):Bs:=if t.head? = some 45 then t.tail else t
def litB (v t:Bs):Bool:=numB (strip t) && !(strip t == [48]) && !above (strip t) v
def zero (t:Bs):Bool:=t == [48]
def okAll (v:Bs) (T:List Bs):Bool:=T.all fun t=>zero t || litB v t
def litVal (t:Bs):Int:=if t.head? = some 45 then -(value9 (strip t)) else value9 (strip t)
def clausesTo (T:List Bs):List (List Int) × List Int:=T.foldl (fun st t=>if zero t then (st.1 ++ [st.2],[]) else (st.1,st.2 ++ [litVal t])) ([],[])
theorem clausesTo_snoc (T:List Bs) (t:Bs):clausesTo (T ++ [t])=if zero t then ((clausesTo T).1 ++ [(clausesTo T).2],[]) else ((clausesTo T).1,(clausesTo T).2 ++ [litVal t]):=by
 unfold clausesTo;rw [List.foldl_append];rfl
def zeros (T:List Bs):Nat:=(T.filter zero).length
def lits (T:List Bs):Nat:=(T.filter fun t=>!zero t).length
def body (v c:Bs) (T:List Bs):Int × List (List Int) × Int:=
 if okAll v T then
  (if (clausesTo T).2.isEmpty && Lib.decDigits (clausesTo T).1.length == c then
   (if above v [53,48] || decide (700 < lits T) then (0,[],1) else (value9 v,(clausesTo T).1,0))
   else (0,[],2))
 else (0,[],2)
def readB (s:Bs):Int × List (List Int) × Int:=
 if 20000 < s.length then (0,[],1)
 else match headF (s.length + 1) s with
  | none=>(0,[],2)
  | some (v,c,r)=>body v c (toks r)
end Rd
end Go.Proofs.YtceahffmenbibaaGreatDoor
namespace Go.Proofs.YtceahffmenbibaaGreatDoor
namespace Rd
abbrev Cl:Type:=List Int
def Cons (M:Int→Prop):Prop:=∀ l,M l→M (-l)→False
def Met (M:Int→Prop) (c:Cl):Prop:=∃ l ∈ c,M l
def Two (M:Int→Prop) (c:Cl):Prop:=∃ a ∈ c,∃ b ∈ c,a ≠ b∧¬ M (-a)∧¬ M (-b)
def Stable (L:List Cl) (M:Int→Prop):Prop:=∀ c ∈ L,Met M c∨Two M c
def Conf (L:List Cl) (ls:List Int):Prop:=∀ M,Cons M→(∀ l ∈ ls,M l)→¬ Stable L M
def opp (c:Cl) (but:Int):List Int:=(c.filter fun l=>!(l == but)).map fun l=>-l
def RightP (L:List Cl) (c:Cl):Prop:=Conf L (opp c 0)∨∃ l r,c=l :: r∧∀ D ∈ L,-l ∈ D→Conf L (opp c 0 ++ opp D (-l))
def sameB (a b:Cl):Bool:=a.all (fun l=>b.contains l) && b.all (fun l=>a.contains l)
def rem:List Cl→Cl→Option (List Cl)
 | [],_=>none
 | d :: r,c=>if sameB d c then some r else (rem r c).map (d :: ·)
def litsF (v:Bs):List Bs→Option Cl
 | []=>none
 | [t]=>if zero t then some [] else none
 | t :: r=>if litB v t then (litsF v r).map (litVal t :: ·) else none
def lineB (v:Bs) (l:Bs):Option (Bool × Cl):=
 if (splitB 32 l).head? = some [100] then (litsF v (splitB 32 l).tail).map fun c=>(true,c)
 else (litsF v (splitB 32 l)).map fun c=>(false,c)
def chk (v:Bs):List Cl→List Bs→Nat→Nat × Nat→Prop
 | _,[],_,res=>res=(0,5)
 | L,p :: r,k,res=>
  if r.isEmpty then (if p.isEmpty then res=(k,5) else res=(k + 1,3))
  else match lineB v p with
   | none=>res=(k + 1,3)
   | some (true,c)=>(match rem L c with
     | none=>res=(k + 1,4)
     | some L'=>chk v L' r (k + 1) res)
   | some (false,c)=>(¬ RightP L c→res=(k + 1,4))∧(RightP L c→if c.isEmpty then res=(k + 1,0) else chk v (L ++ [c]) r (k + 1) res)
theorem chk_inj (v:Bs):∀ (ps:List Bs) (L:List Cl) (k:Nat) (a b:Nat × Nat),chk v L ps k a→chk v L ps k b→a=b
 | [],L,k,a,b,h1,h2=>by simp only [chk] at h1 h2;rw [h1,h2]
 | p :: r,L,k,a,b,h1,h2=>by
  unfold chk at h1 h2
  split at h1
  ·rename_i hr
   rw [if_pos hr] at h2
   split at h1
   ·rename_i hp;rw [if_pos hp] at h2;rw [h1,h2]
   ·rename_i hp;rw [if_neg hp] at h2;rw [h1,h2]
  ·rename_i hr
   rw [if_neg hr] at h2
   split at h1
   ·rename_i hl;rw [hl] at h2;rw [h1,h2]
   ·rename_i c hl
    rw [hl] at h2
    simp only at h2
    split at h1
    ·rename_i he;rw [he] at h2;rw [h1,h2]
    ·rename_i L' he;rw [he] at h2;exact chk_inj v r _ _ _ _ h1 h2
   ·rename_i c hl
    rw [hl] at h2
    simp only at h2
    rcases Classical.em (RightP L c) with hR | hR
    ·have g1:=h1.2 hR
     have g2:=h2.2 hR
     split at g1
     ·rename_i he;rw [if_pos he] at g2;rw [g1,g2]
     ·rename_i he;rw [if_neg he] at g2;exact chk_inj v r _ _ _ _ g1 g2
    ·rw [h1.1 hR,h2.1 hR]
def SameSets (L L':List Cl):Prop:=∀ c ∈ L,∃ d ∈ L',∀ l,l ∈ c↔l ∈ d
theorem stable_same {L L':List Cl} (h:SameSets L L') {M:Int→Prop} (hs:Stable L' M):Stable L M:=by
 intro c hc
 obtain ⟨d,hd,e⟩:=h c hc
 rcases hs d hd with ⟨l,hl,hm⟩ | ⟨a,ha,b,hb,r⟩
 ·exact .inl ⟨l,(e l).2 hl,hm⟩
 ·exact .inr ⟨a,(e a).2 ha,b,(e b).2 hb,r⟩
theorem conf_same {L L':List Cl} (h:SameSets L L') {ls ls':List Int} (hl:∀ l,l ∈ ls→l ∈ ls') (hc:Conf L ls):Conf L' ls':=
 fun M hM hm hs=>hc M hM (fun l h=>hm l (hl l h)) (stable_same h hs)
end Rd
end Go.Proofs.YtceahffmenbibaaGreatDoor
namespace Go.Proofs.YtceahffmenbibaaGreatDoor
namespace Rd
open Go Go.RowKit
theorem hide {p:Prop} (h:p):Hid p:=h
theorem unhide {p:Prop} (h:Hid p):p:=h.out
theorem ret_bool {a b:Bool} (h:a=b):Ending.returned (.bool a)=.returned (.bool b):=by rw [h]
theorem take_snoc (s:ByteArray) (k:Nat) (h:k < s.size):s.data.toList.take (k + 1)=s.data.toList.take k ++ [s[k]]:=by
 rw [List.take_succ_eq_append_getElem (by simpa using h)];rfl
theorem take_all (s:ByteArray) {k:Nat} (h:¬ k < s.size):s.data.toList.take k=s.data.toList:=List.take_of_length_le (by simpa using h)
def digs (s:ByteArray) (k:Nat):Prop:=(s.data.toList.take k).all isDig=true
theorem digs_succ {s:ByteArray} {k:Nat} (h:digs s k) (hk:k < s.size) (h1:48 ≤ (s[k].toNat:Int)) (h2:(s[k].toNat:Int) ≤ 57):digs s (k + 1):=by
 unfold digs at *
 rw [take_snoc s k hk,List.all_append,h]
 simp [isDig];omega
theorem not_digs {s:ByteArray} {k:Nat} (hk:k < s.size) (h:(s[k].toNat:Int) < 48∨57 < (s[k].toNat:Int)):numB s.data.toList=false:=by
 have hm:s[k] ∈ s.data.toList:=by simp [ByteArray.getElem_eq_getElem_data]
 have:s.data.toList.all isDig=false:=by
  rw [Bool.eq_false_iff];intro ha
  have:=List.all_eq_true.1 ha _ hm
  simp [isDig] at this;omega
 simp [numB,this]
theorem numB_one {s:ByteArray} (h:digs s s.size) (h1:s.size=1):numB s.data.toList=true:=by
 unfold digs at h
 rw [take_all s (by omega)] at h
 have:s.data.toList.length=1:=by simpa using h1
 simp [numB,h,this]
theorem numB_none {s:ByteArray} (h1:s.size=0):numB s.data.toList=false:=by
 have:s.data.toList=[]:=List.eq_nil_of_length_eq_zero (by simpa using h1)
 simp [numB,this]
theorem numB_many {s:ByteArray} (h:digs s s.size) (h1:1 < s.size):numB s.data.toList=((s[0].toNat:Int) != 48):=by
 unfold digs at h
 rw [take_all s (by omega)] at h
 have hl:s.data.toList.length=s.size:=by simp
 have hh:s.data.toList.head? = some s[0]:=by
  rw [List.head?_eq_getElem?,List.getElem?_eq_getElem (by omega)];rfl
 have e:(s[0] == 48)=((s[0].toNat:Int) == 48):=by
  rw [Bool.eq_iff_iff];simp [← UInt8.toNat_inj];omega
 have h2:(s.size == 1)=false:=by simp;omega
 rw [numB,h,hl,hh,h2]
 simp [h1,bne,e]
set_option maxHeartbeats 400000 in
theorem isAbove_any (a b:ByteArray) (w:World) (ha:a.size ≤ maxLen) (hb:b.size ≤ maxLen):
  Calls Tryz.prog 35 #[.string a,.string b] w fun e w'=>e=.returned (.bool (above a.data.toList b.data.toList))∧w'=w:=by
 unfold maxLen at ha hb
 by_cases h:a.size=b.size
 ·have hq:((a.size:Int) != (b.size:Int))=false:=by simp [h]
  have E:Hid (above a.data.toList b.data.toList=(!Op.bytesLess a.toList b.toList && !(a.toList == b.toList))):=by
   unfold Hid above
   rw [if_pos (by simpa using h),ByteArray.toList_eq,ByteArray.toList_eq]
  clear h
  go_enter Tryz.func35,Tryz.ntmps35
  go_wp2
  go_ret
  exact ⟨ret_bool (by rw [unhide E]),rfl⟩
 ·have hq:((a.size:Int) != (b.size:Int))=true:=by simp;omega
  have E:Hid (above a.data.toList b.data.toList=decide (b.size < a.size)):=by
   unfold Hid above
   rw [if_neg (by simpa using h)]
   simp
  go_enter Tryz.func35,Tryz.ntmps35
  go_wp2
  go_ret
  exact ⟨ret_bool (by rw [unhide E]),rfl⟩
end Rd
end Go.Proofs.YtceahffmenbibaaGreatDoor
namespace Go.Proofs.YtceahffmenbibaaGreatDoor
namespace Rd
open Go
def nz (t:Bs):Bool:=!zero t
def cls:Nat→List Bs→List (List Int)
 | 0,_=>[]
 | c + 1,T=>((T.takeWhile nz).map litVal) :: cls c (T.drop ((T.takeWhile nz).length + 1))
theorem cls_length:∀ (c:Nat) (T:List Bs),(cls c T).length=c
 | 0,_=>rfl
 | c + 1,T=>by simp [cls,cls_length c]
def clsStep (st:List (List Int) × List Int) (t:Bs):List (List Int) × List Int:=if zero t then (st.1 ++ [st.2],[]) else (st.1,st.2 ++ [litVal t])
theorem clausesTo_fold (T:List Bs):clausesTo T=T.foldl clsStep ([],[]):=rfl
theorem fold_nz:∀ (A:List Bs) (st:List (List Int) × List Int),(∀ t ∈ A,zero t=false)→A.foldl clsStep st=(st.1,st.2 ++ A.map litVal)
 | [],st,_=>by simp
 | a :: A,st,h=>by
  simp only [List.foldl_cons]
  rw [fold_nz A _ (fun t ht=>h t (by simp [ht]))]
  simp [clsStep,h a (by simp)]
theorem fold_acc:∀ (R:List Bs) (acc:List (List Int)) (cur:List Int),R.foldl clsStep (acc,cur)=(acc ++ (R.foldl clsStep ([],cur)).1,(R.foldl clsStep ([],cur)).2)
 | [],acc,cur=>by simp
 | t :: R,acc,cur=>by
  simp only [List.foldl_cons]
  by_cases h:zero t=true
  ·simp only [clsStep,h,if_true]
   rw [fold_acc R (acc ++ [cur]),fold_acc R ([] ++ [cur])]
   simp
  ·have h':zero t=false:=by simpa using h
   simp only [clsStep,h',Bool.false_eq_true,if_false]
   rw [fold_acc R acc]
theorem zeros_cons (t:Bs) (T:List Bs):zeros (t :: T)=(if zero t then 1 else 0) + zeros T:=by
 unfold zeros;cases h:zero t <;> simp [h];omega
theorem cut_zero {T:List Bs} (h:0 < zeros T):∃ R,T=T.takeWhile nz ++ [48] :: R∧T.drop ((T.takeWhile nz).length + 1)=R∧zeros R + 1=zeros T∧(∀ t ∈ T.takeWhile nz,zero t=false):=by
 induction T with
 | nil=>simp [zeros] at h
 | cons t T ih=>
  by_cases hz:zero t=true
  ·refine ⟨T,?_⟩
   have ht:t=[48]:=by simpa [zero] using hz
   subst ht
   simp [nz,hz,zeros_cons]
   omega
  ·have hz':zero t=false:=by simpa using hz
   rw [zeros_cons,hz'] at h
   obtain ⟨R,h1,h2,h3,h4⟩:=ih (by simpa using h)
   refine ⟨R,?_,?_,?_,?_⟩
   ·simp only [List.takeWhile_cons,nz,hz',Bool.not_false,if_true,List.cons_append]
    exact congrArg (t :: ·) h1
   ·simp only [List.takeWhile_cons,nz,hz',Bool.not_false,if_true,List.length_cons,List.drop_succ_cons]
    exact h2
   ·rw [zeros_cons,hz',h3];simp
   ·intro x hx
    simp only [List.takeWhile_cons,nz,hz',Bool.not_false,if_true,List.mem_cons] at hx
    rcases hx with rfl | hx
    ·exact hz'
    ·exact h4 x hx
theorem cls_eq:∀ (c:Nat) (T:List Bs),zeros T=c→(clausesTo T).1=cls c T
 | 0,T,h=>by
  have h':∀ t ∈ T,zero t=false:=by
   intro t ht
   have:=List.filter_eq_nil_iff.1 (List.eq_nil_of_length_eq_zero h) t ht
   simpa using this
  rw [clausesTo_fold,fold_nz T _ h']
  rfl
 | c + 1,T,h=>by
  obtain ⟨R,h1,h2,h3,h4⟩:=cut_zero (T:=T) (by omega)
  have ih:=cls_eq c R (by omega)
  rw [cls,h2,← ih]
  conv=>lhs;rw [h1]
  rw [clausesTo_fold,List.foldl_append,fold_nz _ _ h4,List.foldl_cons]
  rw [show clsStep ([],[] ++ List.map litVal (List.takeWhile nz T)) [48]=([List.map litVal (List.takeWhile nz T)],[]) from rfl]
  rw [fold_acc]
  rfl
theorem clausesTo_length (T:List Bs):(clausesTo T).1.length=zeros T:=by rw [cls_eq _ T rfl,cls_length]
theorem open_iff (T:List Bs):(clausesTo T).2.isEmpty=(T.isEmpty || T.getLast? == some [48]):=by
 by_cases h:T=[]
 ·subst h;rfl
 ·rw [← List.dropLast_concat_getLast h,clausesTo_snoc]
  have hl:(T.dropLast ++ [T.getLast h]).getLast? = some (T.getLast h):=by simp
  rw [hl]
  have he:(T.dropLast ++ [T.getLast h]).isEmpty=false:=by simp
  rw [he]
  by_cases hz:zero (T.getLast h)=true
  ·rw [if_pos hz]
   simpa [zero] using hz
  ·rw [if_neg hz]
   have:(T.getLast h == [48])=false:=by simpa [zero] using hz
   simp [this]
theorem decFrom_eq:∀ (l:Bs) (acc:Nat),l.all isDig=true→∃ n:Nat,Lib.decFrom acc l=some n∧(n:Int)=l.foldl (fun n c=>10 * n + ((c.toNat:Int) - 48)) (acc:Int)
 | [],acc,_=>⟨acc,rfl,rfl⟩
 | c :: r,acc,h=>by
  rw [List.all_cons,Bool.and_eq_true] at h
  have hc:=h.1
  simp [isDig] at hc
  obtain ⟨n,h1,h2⟩:=decFrom_eq r (acc * 10 + (c.toNat - 48)) h.2
  refine ⟨n,?_,?_⟩
  ·unfold Lib.decFrom Lib.digitVal
   rw [if_pos hc]
   exact h1
  ·rw [h2,List.foldl_cons]
   congr 1
   omega
theorem numB_parts {t:Bs} (h:numB t=true):t.all isDig=true∧t ≠ []:=by
 unfold numB at h
 simp only [Bool.and_eq_true] at h
 refine ⟨h.1,fun e=>?_⟩
 subst e
 simp at h
theorem decNat_num {t:Bs} (h:numB t=true) (hl:t.length ≤ 9):∃ n:Nat,Lib.decNat t=some n∧(n:Int)=value9 t:=by
 obtain ⟨h1,h2⟩:=numB_parts h
 obtain ⟨n,e1,e2⟩:=decFrom_eq t 0 h1
 refine ⟨n,?_,?_⟩
 ·unfold Lib.decNat
  rw [if_neg (by simpa using h2)];exact e1
 ·rw [e2];unfold value9 valTo;rw [List.take_of_length_le hl];rfl
theorem atoi_num {t:Bs} (h:numB t=true) (hl:t.length ≤ 9):Lib.atoi t=some (value9 t):=by
 obtain ⟨n,e1,e2⟩:=decNat_num h hl
 obtain ⟨h1,h2⟩:=numB_parts h
 cases t with
 | nil=>exact absurd rfl h2
 | cons c r=>
  rw [List.all_cons,Bool.and_eq_true] at h1
  have hc:=h1.1
  simp [isDig] at hc
  have n45:(c == 45)=false:=by
   rw [beq_eq_false_iff_ne];intro e;subst e;simp at hc
  have n43:(c == 43)=false:=by
   rw [beq_eq_false_iff_ne];intro e;subst e;simp at hc
  simp only [Lib.atoi,n45,n43,e1,← e2]
  rfl
theorem atoi_lit {v t:Bs} (h:litB v t=true) (hl:(strip t).length ≤ 9):Lib.atoi t=some (litVal t):=by
 unfold litB at h
 simp only [Bool.and_eq_true] at h
 have hn:=h.1.1
 unfold litVal
 by_cases h45:t.head? = some 45
 ·have hs:strip t=t.tail:=by unfold strip;rw [if_pos h45]
  cases t with
  | nil=>simp at h45
  | cons c r=>
   simp at h45
   subst h45
   rw [if_pos (show (45 :: r:Bs).head? = some 45 from rfl)]
   rw [hs] at hn hl ⊢
   obtain ⟨n,e1,e2⟩:=decNat_num hn hl
   simp only [List.tail_cons] at e1 e2 ⊢
   simp only [Lib.atoi,e1,← e2]
   rfl
 ·have hs:strip t=t:=by unfold strip;rw [if_neg h45]
  rw [if_neg h45,hs]
  rw [hs] at hn hl
  exact atoi_num hn hl
theorem not_above_len {a b:Bs} (h:above a b=false):a.length ≤ b.length:=by
 unfold above at h
 split at h
 ·omega
 ·simp at h;omega
theorem line_c {l:Bs} (h:l.head? = some 99):∃ r,line l=99 :: r:=by
 cases l with
 | nil=>simp at h
 | cons c r=>
  simp at h
  subst h
  exact ⟨line r,by simp [line]⟩
theorem line_head {l:Bs} {r:Bs} (h:line l=99 :: r):l.head? = some 99:=by
 cases l with
 | nil=>simp [line] at h
 | cons c t=>
  unfold line at h
  rw [List.takeWhile_cons] at h
  split at h
  ·simp at h;simp [h.1]
  ·simp at h
end Rd
end Go.Proofs.YtceahffmenbibaaGreatDoor
namespace Go.Proofs.YtceahffmenbibaaGreatDoor
namespace Rd
open Go
def gapRune (r:Nat):Bool:=r == 32 || r == 9 || r == 10
theorem get_bang {s:ByteArray} {i:Nat} (h:i < s.size):s.get! i=s[i]:=by
 show s.data[i]! = s.data[i]
 exact getElem!_pos s.data i h
theorem decode_span (s:ByteArray) (pos:Nat) (h:pos < s.size) (ha:128 ≤ (s[pos]'h).toNat):
  ∀ k,k < (Utf8.decode s pos).2→∃ hx9:pos + k < s.size,128 ≤ (s[pos + k]'hx9).toNat:=by
 intro k hk
 by_cases hk0:k=0
 ·subst hk0;exact ⟨h,ha⟩
 have hb0:¬ (s.get! (pos + 0)).toNat < 128:=by rw [Nat.add_zero,get_bang h];omega
 have key:∀ j,(decide (pos + j < s.size) && (s.get! (pos + j)).toNat / 64 == 2)=true→∃ hx9:pos + j < s.size,128 ≤ (s[pos + j]'hx9).toNat:=fun j hj=>by
  simp only [Bool.and_eq_true,decide_eq_true_eq,beq_iff_eq] at hj
  refine ⟨hj.1,?_⟩
  have:=hj.2
  rw [get_bang hj.1] at this
  omega
 unfold Utf8.decode at hk
 simp only [hb0,if_false] at hk
 split at hk
 ·rename_i hc
  simp only [Bool.and_eq_true] at hc
  split at hk
  ·simp only at hk
   have:k=1:=by omega
   subst this;exact key 1 (by simpa using hc.2)
  ·simp only at hk;omega
 ·split at hk
  ·rename_i hc
   simp only [Bool.and_eq_true] at hc
   split at hk
   ·simp only at hk
    have:k=1∨k=2:=by omega
    rcases this with rfl | rfl
    ·exact key 1 (by simpa using hc.1.2)
    ·exact key 2 (by simpa using hc.2)
   ·simp only at hk;omega
  ·split at hk
   ·rename_i hc
    simp only [Bool.and_eq_true] at hc
    split at hk
    ·simp only at hk
     have:k=1∨k=2∨k=3:=by omega
     rcases this with rfl | rfl | rfl
     ·exact key 1 (by simpa using hc.1.1.2)
     ·exact key 2 (by simpa using hc.1.2)
     ·exact key 3 (by simpa using hc.2)
    ·simp only at hk;omega
   ·simp only at hk;omega
theorem fold_run:∀ (r:Bs) (st:List Bs × Bs),(∀ c ∈ r,gap c=false)→r.foldl tokStep st=(st.1,st.2 ++ r)
 | [],st,_=>by simp
 | c :: r,st,h=>by
  have hc:=h c (by simp)
  simp only [List.foldl_cons]
  rw [fold_run r _ (fun x hx=>h x (by simp [hx]))]
  simp [tokStep,hc]
theorem toksTo_app (a b:Bs):toksTo (a ++ b)=b.foldl tokStep (toksTo a):=by unfold toksTo;rw [List.foldl_append]
def sub (L:Bs) (a b:Nat):Bs:=(L.take b).drop a
theorem take_sub (L:Bs) {a b:Nat} (h:a ≤ b):L.take b=L.take a ++ sub L a b:=by
 unfold sub
 conv=>lhs;rw [← List.take_append_drop a (L.take b)]
 rw [List.take_take,Nat.min_eq_left h]
theorem sub_app (L:Bs) {a b c:Nat} (h:a ≤ b) (hx9:b ≤ c):sub L a b ++ sub L b c=sub L a c:=by
 have e1:=take_sub L (a:=a) (b:=c) (by omega)
 have e2:=take_sub L h
 have e3:=take_sub L hx9
 rw [e3,e2,List.append_assoc] at e1
 exact List.append_cancel_left e1
def Inv (s:ByteArray) (pos:Nat) (st:Option Nat) (acc:List (Nat × Nat)):Prop:=
 toksTo (s.data.toList.take pos)=(acc.map fun x=>sub s.data.toList x.1 x.2,match st with | none=>[] | some a=>sub s.data.toList a pos)∧(∀ a,st=some a→a < pos)∧pos ≤ s.size
theorem sub_ne {s:ByteArray} {a pos:Nat} (h:a < pos) (hp:pos ≤ s.size):(sub s.data.toList a pos).isEmpty=false:=by
 rw [Bool.eq_false_iff];intro hx9
 have:=congrArg List.length (List.isEmpty_iff.1 hx9)
 simp [sub] at this;omega
theorem sub_mem {s:ByteArray} {a b:Nat} {c:UInt8} (h:c ∈ sub s.data.toList a b):∃ k,∃ hx9:a + k < s.size,a + k < b∧c=s[a + k]'hx9:=by
 unfold sub at h
 obtain ⟨i,hi,e⟩:=List.getElem_of_mem h
 simp at hi
 refine ⟨i,by omega,by omega,?_⟩
 rw [← e]
 simp [ByteArray.getElem_eq_getElem_data]
def accG (st:Option Nat) (acc:List (Nat × Nat)) (pos:Nat):List (Nat × Nat):=
 match st with | some a=>acc ++ [(a,pos)] | none=>acc
def stR (st:Option Nat) (pos:Nat):Option Nat:=
 match st with | some a=>some a | none=>some pos
theorem inv_gap {s:ByteArray} {pos:Nat} {st:Option Nat} {acc:List (Nat × Nat)} (h:Inv s pos st acc) (hp:pos < s.size) (hg:gap s[pos]=true):
  Inv s (pos + 1) none (accG st acc pos):=by
 obtain ⟨h1,h2,h3⟩:=h
 have ht:s.data.toList.take (pos + 1)=s.data.toList.take pos ++ [s[pos]]:=by
  rw [List.take_succ_eq_append_getElem (by simpa using hp)];rfl
 refine ⟨?_,(fun a h=>by cases h),by omega⟩
 rw [ht,toksTo_snoc,h1]
 unfold tokStep
 rw [hg,if_pos rfl]
 cases st with
 | none=>rfl
 | some a=>
  simp only
  rw [sub_ne (h2 a rfl) h3]
  simp [accG]
theorem inv_run {s:ByteArray} {pos wd:Nat} {st:Option Nat} {acc:List (Nat × Nat)} (h:Inv s pos st acc) (hw:1 ≤ wd) (hall:∀ k,k < wd→∃ hx9:pos + k < s.size,gap (s[pos + k]'hx9)=false):
  Inv s (pos + wd) (stR st pos) acc:=by
 obtain ⟨h1,h2,h3⟩:=h
 obtain ⟨hl,_⟩:=hall (wd - 1) (by omega)
 refine ⟨?_,?_,by omega⟩
 ·rw [take_sub s.data.toList (a:=pos) (b:=pos + wd) (by omega),toksTo_app,h1,fold_run]
  ·cases st with
   | none=>rfl
   | some a=>simp only;rw [sub_app _ (Nat.le_of_lt (h2 a rfl)) (by omega)];rfl
  ·intro c hc
   obtain ⟨k,hk,hlt,rfl⟩:=sub_mem hc
   exact (hall k (by omega)).2
 ·cases st with
  | none=>intro a h;cases h;omega
  | some a=>intro a' h;cases h;have:=h2 a rfl;omega
theorem gap_rune (s:ByteArray) (pos:Nat) (h:pos < s.size):gapRune (Utf8.decode s pos).1=gap s[pos]:=by
 by_cases ha:(s[pos]'h).toNat < 128
 ·rw [decode_ascii s pos h ha]
  unfold gapRune gap
  rw [Bool.eq_iff_iff]
  simp [← UInt8.toNat_inj]
 ·have h1:=(decode_high s pos h (by omega)).1
  unfold gapRune gap
  rw [Bool.eq_iff_iff]
  simp [← UInt8.toNat_inj]
  omega
theorem inv_spans (s:ByteArray):∀ (f pos:Nat) (st:Option Nat) (acc:List (Nat × Nat)),s.size ≤ pos + f→Inv s pos st acc→
  Inv s s.size (Lib.spansFromP gapRune s f pos st acc).2 (Lib.spansFromP gapRune s f pos st acc).1
 | 0,pos,st,acc,hf,hi=>by
  have:pos=s.size:=by have:=hi.2.2;omega
  subst this;exact hi
 | f + 1,pos,st,acc,hf,hi=>by
  unfold Lib.spansFromP
  by_cases hp:pos < s.size
  ·rw [if_pos hp,gap_rune s pos hp]
   cases hg:gap s[pos] with
   | true=>
    have ha:(s[pos]'hp).toNat < 128:=by
     simp [gap,← UInt8.toNat_inj] at hg;omega
    have hi':=inv_gap hi hp hg
    rw [decode_ascii s pos hp ha]
    cases st with
    | none=>simp only [if_true];exact inv_spans s f _ _ _ (by omega) hi'
    | some a=>simp only [if_true];exact inv_spans s f _ _ _ (by omega) hi'
   | false=>
    have hw:1 ≤ (Utf8.decode s pos).2:=by
     by_cases ha:(s[pos]'hp).toNat < 128
     ·rw [decode_ascii s pos hp ha];simp
     ·exact (decode_high s pos hp (by omega)).2
    have hall:∀ k,k < (Utf8.decode s pos).2→∃ hx9:pos + k < s.size,gap (s[pos + k]'hx9)=false:=by
     intro k hk
     by_cases ha:(s[pos]'hp).toNat < 128
     ·rw [decode_ascii s pos hp ha] at hk
      simp only at hk
      have:k=0:=by omega
      subst this;exact ⟨hp,hg⟩
     ·obtain ⟨hx9,h2⟩:=decode_span s pos hp (by omega) k hk
      refine ⟨hx9,?_⟩
      rw [Bool.eq_false_iff];intro hx
      simp [gap,← UInt8.toNat_inj] at hx;omega
    have hi':=inv_run hi hw hall
    cases st with
    | none=>simp only [Bool.false_eq_true,if_false];exact inv_spans s f _ _ _ (by omega) hi'
    | some a=>simp only [Bool.false_eq_true,if_false];exact inv_spans s f _ _ _ (by omega) hi'
  ·rw [if_neg hp]
   have:pos=s.size:=by have:=hi.2.2;omega
   subst this;exact hi
theorem fields_toks (s:ByteArray):(Lib.goFieldsP gapRune s).map (fun x=>x.data.toList)=toks s.data.toList:=by
 have h:=inv_spans s s.size 0 none [] (by omega) ⟨by simp [toksTo],(fun a h=>by cases h),by omega⟩
 obtain ⟨h1,h2,_⟩:=h
 rw [List.take_of_length_le (by simp)] at h1
 rw [← toks_eq,h1]
 unfold Lib.goFieldsP Lib.spansOfP Lib.closeSpans close
 have hs:∀ a b,List.take (b - a) (List.drop a s.data.toList)=sub s.data.toList a b:=fun a b=>by
  rw [sub,List.drop_take]
 cases hst:(Lib.spansFromP gapRune s s.size 0 none []).2 with
 | none=>simp [List.map_map,Function.comp_def,hs]
 | some a=>
  have hne:=sub_ne (s:=s) (h2 a hst) (Nat.le_refl _)
  simp only [hne]
  simp [List.map_map,Function.comp_def,hs]
theorem toks_len (l:Bs):(toks l).length ≤ l.length∧∀ t ∈ toks l,t.length ≤ l.length:=by
 suffices h:∀ (l w:Bs),(toksF w l).length ≤ l.length + w.length∧∀ t ∈ toksF w l,t.length ≤ l.length + w.length by
  have:=h l [];simpa [toks] using this
 intro l
 induction l with
 | nil=>intro w;unfold toksF;cases w <;> simp
 | cons c r ih=>
  intro w
  unfold toksF
  split
  ·split
   ·have:=ih []
    simp at this ⊢
    exact ⟨by omega,fun t ht=>by have:=this.2 t ht;omega⟩
   ·rename_i hw
    have:=ih []
    have hw':1 ≤ w.length:=by cases w <;> simp at hw ⊢
    simp at this ⊢
    exact ⟨by omega,fun t ht=>by have:=this.2 t ht;omega⟩
  ·have:=ih (w ++ [c])
   simp at this ⊢
   exact ⟨by omega,fun t ht=>by have:=this.2 t ht;omega⟩
end Rd
end Go.Proofs.YtceahffmenbibaaGreatDoor
namespace Go.Proofs.YtceahffmenbibaaGreatDoor
namespace Rd
open Go Go.RowKit
theorem isEmpty_of {s:ByteArray} (h:s.size=0):s.toList.isEmpty=true:=by
 rw [ByteArray.toList_eq]
 have:s.data.toList=[]:=List.eq_nil_of_length_eq_zero (by simpa using h)
 rw [this];rfl
theorem notEmpty_of {s:ByteArray} (h:¬ s.size=0):s.toList.isEmpty=false:=by
 rw [ByteArray.toList_eq,Bool.eq_false_iff]
 intro h'
 have:=List.isEmpty_iff.1 h'
 apply h
 have e:=congrArg List.length this
 simpa using e
def lead (s:ByteArray):Prop:=∃ h:0 < s.size,s.size=1∨¬ ((s[0].toNat:Int)=48)
theorem numB_lead {s:ByteArray} (h:digs s s.size) (hl:lead s):numB s.data.toList=true:=by
 obtain ⟨h0,h1⟩:=hl
 by_cases e:s.size=1
 ·exact numB_one h e
 ·rw [numB_many h (by omega)]
  simp
  rcases h1 with h1 | h1
  ·exact absurd h1 e
  ·omega
theorem zero_of {s:ByteArray} (h:(!s.toList == [48])=false):s.size=1:=by
 simp [ByteArray.toList_eq] at h
 have e:=congrArg List.length h
 simpa using e
theorem not_zero_of {s:ByteArray} (h0:0 < s.size) (hz:((s[0].toNat:Int) == 48)=true) (h:(!s.toList == [48])=true):numB s.data.toList=false:=by
 have hh:s.data.toList.head? = some s[0]:=by
  rw [List.head?_eq_getElem?,List.getElem?_eq_getElem (by simpa using h0)];rfl
 have e0:s[0]=48:=by
  rw [← UInt8.toNat_inj];simp at hz ⊢;omega
 rw [e0] at hh
 have hl:s.data.toList.length=s.size:=by simp
 have hne:s.size ≠ 1:=by
  intro e1
  rw [e1] at hl
  obtain ⟨c,hc⟩:=List.length_eq_one_iff.1 hl
  rw [hc] at hh
  simp at hh
  simp [ByteArray.toList_eq,hc,hh] at h
 simp [numB,hh,hl,hne]
set_option maxHeartbeats 1000000 in
theorem isNumber_any (s:ByteArray) (w:World) (hs:s.size ≤ maxLen):
  Calls Tryz.prog 105 #[.string s] w fun e w'=>e=.returned (.bool (numB s.data.toList))∧w'=w:=by
 unfold maxLen at hs
 by_cases h0:s.size=0
 ·have he:=isEmpty_of h0
  have E:=hide (numB_none h0)
  go_enter Tryz.func105,Tryz.ntmps105
  go_wp2
  go_ret
  exact ⟨ret_bool (by rw [unhide E]),rfl⟩
 ·have he:=notEmpty_of h0
  have h1:0 < s.size:=by omega
  by_cases hz:((s[0].toNat:Int) == 48)=true
  ·by_cases hq:(!s.toList == [48])=true
   ·have E:=hide (not_zero_of h1 hz hq)
    go_enter Tryz.func105,Tryz.ntmps105
    go_wp2
    go_ret
    exact ⟨ret_bool (by rw [unhide E]),rfl⟩
   ·have hq':(!s.toList == [48])=false:=by simpa using hq
    clear hq
    have E:Hid (lead s):=⟨h1,.inl (zero_of hq')⟩
    go_enter Tryz.func105,Tryz.ntmps105
    go_wp2
    go_loop [17] (fun i=>∃ k:Nat,k ≤ s.size∧i=.int .i64 k∧Hid (digs s k)) (fun i=>s.size - (intOf i).toNat)
    case atStart=>exact ⟨0,Nat.zero_le _,rfl,rfl⟩
    case round=>
     obtain ⟨k,hk,rfl,hd⟩:=hrel
     by_cases hlt:k < s.size
     ·by_cases hc1:(s[k].toNat:Int) < 48
      ·go_wp2
       go_ret
       exact ⟨ret_bool (not_digs hlt (by omega)).symm,rfl⟩
      ·by_cases hc2:57 < (s[k].toNat:Int)
       ·go_wp2
        go_ret
        exact ⟨ret_bool (not_digs hlt (by omega)).symm,rfl⟩
       ·go_wp2
        go_round
        case rel=>exact ⟨k + 1,by omega,by go_num,digs_succ (unhide hd) hlt (by omega) (by omega)⟩
        case measure=>simp [intOf];omega
     ·have E2:Hid (numB s.data.toList=true):=by
       have e:k=s.size:=by omega
       subst e
       exact numB_lead (unhide hd) (unhide E)
      go_wp2
      go_ret
      exact ⟨ret_bool (by rw [unhide E2]),rfl⟩
  ·have hz':((s[0].toNat:Int) == 48)=false:=by simpa using hz
   have E:Hid (lead s):=⟨h1,.inr (by simpa using hz)⟩
   clear hz
   go_enter Tryz.func105,Tryz.ntmps105
   go_wp2
   go_loop [17] (fun i=>∃ k:Nat,k ≤ s.size∧i=.int .i64 k∧Hid (digs s k)) (fun i=>s.size - (intOf i).toNat)
   case atStart=>exact ⟨0,Nat.zero_le _,rfl,rfl⟩
   case round=>
    obtain ⟨k,hk,rfl,hd⟩:=hrel
    by_cases hlt:k < s.size
    ·by_cases hc1:(s[k].toNat:Int) < 48
     ·go_wp2
      go_ret
      exact ⟨ret_bool (not_digs hlt (by omega)).symm,rfl⟩
     ·by_cases hc2:57 < (s[k].toNat:Int)
      ·go_wp2
       go_ret
       exact ⟨ret_bool (not_digs hlt (by omega)).symm,rfl⟩
      ·go_wp2
       go_round
       case rel=>exact ⟨k + 1,by omega,by go_num,digs_succ (unhide hd) hlt (by omega) (by omega)⟩
       case measure=>simp [intOf];omega
    ·have E2:Hid (numB s.data.toList=true):=by
      have e:k=s.size:=by omega
      subst e
      exact numB_lead (unhide hd) (unhide E)
     go_wp2
     go_ret
     exact ⟨ret_bool (by rw [unhide E2]),rfl⟩
end Rd
end Go.Proofs.YtceahffmenbibaaGreatDoor
namespace Go.Proofs.YtceahffmenbibaaGreatDoor
namespace Rd
open Go Go.RowKit
theorem append_list (a b:ByteArray):(a ++ b).data.toList=a.data.toList ++ b.data.toList:=by
 simp
end Rd
end Go.Proofs.YtceahffmenbibaaGreatDoor
namespace Go.Proofs.YtceahffmenbibaaGreatDoor
namespace Rd
open Go Go.RowKit
theorem bel_drewN' {B:Nat} {a w:World} (h:Below B a w) (n:Nat):Below B a (w.drewN n):=h.trans ⟨rfl,rfl,rfl,Nat.le_refl _,fun _ _=>rfl⟩
end Rd
end Go.Proofs.YtceahffmenbibaaGreatDoor
namespace Go.Proofs.YtceahffmenbibaaGreatDoor
namespace Rd
open Go Go.RowKit
def ahead (m:Nat):Bs:=if m < 10 then [] else Lib.decDigits (m / 10)
theorem decDigits_split (m:Nat):Lib.decDigits m=ahead m ++ [UInt8.ofNat (48 + m % 10)]:=by
 rw [Lib.decDigits]
 unfold ahead
 by_cases h:m < 10
 ·rw [dif_pos h,if_pos h,Nat.mod_eq_of_lt h];rfl
 ·rw [dif_neg h,if_neg h]
def dig (z:Int):UInt8:=UInt8.ofNat z.toNat
theorem size_dig (z:Int) (x:ByteArray):((⟨#[dig z]⟩:ByteArray) ++ x).size=x.size + 1:=by
 rw [ByteArray.size_append];show 1 + x.size=_;omega
theorem conv1 (W:World) (z:Int) (h0:0 ≤ z) (h1:z ≤ 255):
  (convert 107 9 (.slice (some ⟨W.heap.size,0,none⟩) 1 1)).run Tryz.prog (W.alloc (.cells #[.int .u8 z] 5))=.ok (.string ⟨#[dig z]⟩) (W.alloc (.cells #[.int .u8 z] 5)):=by
 refine run_convert_bytes_back (l:=[dig z]) _ _ _ 5 _ _ Tryz.underlying107 Tryz.underlying5 Tryz.underlying9 ?_
 intro j hj
 match j,hj with
 | 0,_=>
  have:((dig z).toNat:Int)=z:=by unfold dig;simp;omega
  simp [Addr.add,this]
theorem ofNat_eq (m:Nat):dig (48 + (m:Int) % 10)=UInt8.ofNat (48 + m % 10):=by
 unfold dig
 congr 1
set_option maxHeartbeats 1000000 in
set_option maxRecDepth 100000 in
theorem digits_any (n:Nat) (w:World) (hn:n ≤ 20000):
  Calls Tryz.prog 84 #[.int .i64 n] w fun e w'=>∃ x:ByteArray,e=.returned (.string x)∧Hid (x.data.toList=Lib.decDigits n)∧Below w.heap.size w w':=by
 have hm:0 ≤ (n:Int) % 10:=by omega
 have hm':(n:Int) % 10 ≤ 9:=by omega
 have cv:=fun W=>conv1 W (48 + (n:Int) % 10) (by omega) (by omega)
 go_enter Tryz.func84,Tryz.ntmps84
 go_wp2
 go_loopw [0,3] (fun t s wr=>∃ (m:Nat) (x:ByteArray),t=.int .i64 m∧m ≤ 20000∧s=.string x∧Hid (Lib.decDigits n=ahead m ++ x.data.toList)∧x.size + m ≤ 20001∧Hid (Below w.heap.size w wr)) (fun t _ _=>(intOf t).toNat)
 case atStart=>exact ⟨n,_,rfl,hn,rfl,by unfold Hid;rw [decDigits_split,ofNat_eq],by show 1 + n ≤ 20001;omega,(Below.refl _ _).alloc (Nat.le_refl _) _⟩
 case round=>
  clear cv hm hm'
  obtain ⟨m,x,rfl,hm20,rfl,HD,hsz,HB⟩:=hrel
  by_cases h10:m < 10
  ·have E:Hid (x.data.toList=Lib.decDigits n):=by unfold Hid;rw [unhide HD,ahead,if_pos h10];rfl
   go_wp2
   go_ret
   exact ⟨x,rfl,E,unhide HB⟩
  ·have cv:=fun W=>conv1 W (48 + (m:Int) / 10 % 10) (by omega) (by omega)
   have hq0:0 ≤ (m:Int) / 10 % 10:=by omega
   have hq1:(m:Int) / 10 % 10 ≤ 9:=by omega
   have sb:=(unhide HB).size
   have E:Hid (Lib.decDigits n=ahead (m / 10) ++ ((⟨#[dig (48 + (m:Int) / 10 % 10)]⟩:ByteArray) ++ x).data.toList):=by
    unfold Hid
    rw [unhide HD,append_list]
    conv=>lhs;rw [ahead,if_neg h10,decDigits_split (m / 10)]
    rw [show (48 + (m:Int) / 10 % 10)=48 + ((m / 10:Nat):Int) % 10 from by omega,ofNat_eq]
    simp
   go_wp2
   go_roundw
   case rel=>exact ⟨m / 10,_,by go_num,by omega,rfl,E,by rw [size_dig];omega,(unhide HB).alloc sb _⟩
   case measure=>simp [intOf];omega
end Rd
end Go.Proofs.YtceahffmenbibaaGreatDoor
namespace Go.Proofs.YtceahffmenbibaaGreatDoor
namespace Rd
open Go Go.RowKit Go.Deep
def inV (b:Nat) (xs:List Int):Value:=.slice (some ⟨b,0,none⟩) xs.length xs.length
def intAt (xs:List Int) (q:Nat):Value:=.int .i64 (xs.getD q 0)
def outAt (cl:List (List Int)) (B:Nat→Nat) (k j:Nat):Value:=if j < k then inV (B j) (cl.getD j []) else .slice none 0 0
def partAt (xs:List Int) (last:Bool) (p q:Nat):Value:=if last && decide (p ≤ q) then .int .i64 0 else intAt xs q
structure Mem (te ti:TypeId) (base CB:Nat) (cl:List (List Int)) (w0 wr:World) (k:Nat) (B:Nat→Nat) (p:Nat):Prop where
 outer:wr.rowIs CB te cl.length (outAt cl B k)
 inner:∀ j,j < k→CB < B j∧wr.rowIs (B j) ti (cl.getD j []).length (partAt (cl.getD j []) (j + 1 == k) p)
 incr:∀ j j',j < j'→j' < k→B j < B j'
 below:Below base w0 wr
 basele:base ≤ CB
theorem Mem.later {te ti:TypeId} {base CB:Nat} {cl:List (List Int)} {w0 wr wr':World} {k:Nat} {B:Nat→Nat} {p:Nat} (h:Mem te ti base CB cl w0 wr k B p) (hb:Below wr.heap.size wr wr'):Mem te ti base CB cl w0 wr' k B p where
 outer:=h.outer.of_block (hb.block _ h.outer.lt)
 inner:=fun j hj=>⟨(h.inner j hj).1,(h.inner j hj).2.of_block (hb.block _ (h.inner j hj).2.lt)⟩
 incr:=h.incr
 below:=h.below.trans (hb.mono (by have:=h.outer.lt;have:=h.basele;omega))
 basele:=h.basele
theorem partAt_full {xs:List Int} {b:Bool} {p q:Nat} (h:q < p):partAt xs b p q=intAt xs q:=by
 unfold partAt
 rw [if_neg (by simp;intro _;omega)]
theorem partAt_false {xs:List Int} {p q:Nat}:partAt xs false p q=intAt xs q:=by unfold partAt;rfl
theorem Mem.push {te ti:TypeId} {base CB:Nat} {cl:List (List Int)} {w0 wr:World} {k:Nat} {B:Nat→Nat} {p:Nat} (h:Mem te ti base CB cl w0 wr k B p) (hk:k < cl.length)
  (hp:∀ j,j + 1=k→(cl.getD j []).length ≤ p) (e:Nat) (he:e=(cl.getD k []).length):
  Mem te ti base CB cl w0 ((wr.setCell ⟨CB,k,none⟩ (.slice (some ⟨wr.heap.size,0,none⟩) e e)).alloc (.cells (madeCells #[.int .i64 0] e) ti)) (k + 1) (fun j=>if j=k then wr.heap.size else B j) 0 where
 outer:=by
  subst he
  refine ((h.outer.set k _).alloc _).congr fun i hi=>?_
  unfold outAt inV
  by_cases e:i=k
  ·subst e;simp
  ·by_cases e':i < k
   ·simp [e,e',show i < k + 1 by omega]
   ·simp [e,e',show ¬ i < k + 1 by omega]
 inner:=fun j hj=>by
  subst he
  by_cases e:j=k
  ·subst e
   simp only [if_true]
   refine ⟨h.outer.lt,?_⟩
   have hr:=World.rowIs_made (wr.setCell ⟨CB,j,none⟩ (.slice (some ⟨wr.heap.size,0,none⟩) (cl.getD j []).length (cl.getD j []).length)) (.int .i64 0) (cl.getD j []).length ti
   rw [show (wr.setCell ⟨CB,j,none⟩ (.slice (some ⟨wr.heap.size,0,none⟩) (cl.getD j []).length (cl.getD j []).length)).heap.size=wr.heap.size from by simp [World.setCell]] at hr
   exact hr.congr fun i hi=>by simp [partAt]
  ·have hj':j < k:=by omega
   simp only [e,if_false]
   refine ⟨(h.inner j hj').1,?_⟩
   have:=((h.inner j hj').2.setOther (a:=⟨CB,k,none⟩) (by have:=(h.inner j hj').1;simp;omega) (.slice (some ⟨wr.heap.size,0,none⟩) (cl.getD k []).length (cl.getD k []).length)).alloc (.cells (madeCells #[.int .i64 0] (cl.getD k []).length) ti)
   refine this.congr fun q hq=>?_
   have ne:(j + 1 == k + 1)=false:=by simp;omega
   rw [ne,partAt_false]
   by_cases e2:j + 1=k
   ·exact partAt_full (by have:=hp j e2;omega)
   ·have:(j + 1 == k)=false:=by simpa using e2
    rw [this,partAt_false]
 incr:=fun j j' h1 h2=>by
  by_cases e:j'=k
  ·subst e
   have:¬ j=j':=by omega
   simp only [if_true,this,if_false]
   exact (h.inner j h1).2.lt
  ·have:¬ j=k:=by omega
   simp only [e,this,if_false]
   exact h.incr j j' h1 (by omega)
 below:=(h.below.setCell (by exact h.basele) _).alloc (by have:=h.outer.lt;have:=h.basele;simp [World.setCell];omega) _
 basele:=h.basele
theorem Mem.put {te ti:TypeId} {base CB:Nat} {cl:List (List Int)} {w0 wr:World} {k:Nat} {B:Nat→Nat} {p:Nat} (h:Mem te ti base CB cl w0 wr (k + 1) B p) (x:Int) (hx:x=(cl.getD k []).getD p 0):
  Mem te ti base CB cl w0 (wr.setCell ⟨B k,p,none⟩ (.int .i64 x)) (k + 1) B (p + 1) where
 outer:=h.outer.setOther (by have:=(h.inner k (by omega)).1;simp;omega) _
 inner:=fun j hj=>by
  refine ⟨(h.inner j hj).1,?_⟩
  by_cases e:j=k
  ·subst e
   refine ((h.inner j hj).2.set p _).congr fun q hq=>?_
   have ee:(j + 1 == j + 1)=true:=by simp
   rw [ee]
   by_cases e2:q=p
   ·subst e2
    simp [partAt,intAt,hx]
    intro h;omega
   ·simp only [e2,if_false]
    unfold partAt
    by_cases e3:p ≤ q
    ·simp [e3,show p + 1 ≤ q by omega]
    ·simp [e3,show ¬ p + 1 ≤ q by omega]
  ·have hj':j < k:=by omega
   refine ((h.inner j hj).2.setOther (a:=⟨B k,p,none⟩) (by have:=h.incr j k hj' (by omega);simp;omega) _).congr fun q hq=>?_
   have ne:(j + 1 == k + 1)=false:=by simp;omega
   rw [ne,partAt_false,partAt_false]
 incr:=h.incr
 below:=h.below.setCell (by have:=(h.inner k (by omega)).1;have:=h.basele;simp;omega) _
 basele:=h.basele
structure Lists (te ti:TypeId) (base:Nat) (w:World) (v:Value) (cl:List (List Int)):Prop where
 ex:∃ (CB:Nat) (B:Nat→Nat),v=.slice (some ⟨CB,0,none⟩) cl.length cl.length∧base ≤ CB∧w.rowIs CB te cl.length (fun j=>inV (B j) (cl.getD j []))∧
  (∀ j,j < cl.length→CB < B j∧w.rowIs (B j) ti (cl.getD j []).length (intAt (cl.getD j [])))∧∀ j j',j < j'→j' < cl.length→B j < B j'
theorem Lists.mono {te ti:TypeId} {base base':Nat} {w:World} {v:Value} {cl:List (List Int)} (h:Lists te ti base w v cl) (hb:base' ≤ base):Lists te ti base' w v cl:=by
 obtain ⟨CB,B,h1,h2,h3⟩:=h.ex
 exact ⟨CB,B,h1,by omega,h3⟩
theorem Mem.lists {te ti:TypeId} {base CB:Nat} {cl:List (List Int)} {w0 wr:World} {B:Nat→Nat} {p:Nat} (h:Mem te ti base CB cl w0 wr cl.length B p) (hp:∀ j,j + 1=cl.length→(cl.getD j []).length ≤ p):
  Lists te ti base wr (.slice (some ⟨CB,0,none⟩) cl.length cl.length) cl:=
 ⟨CB,B,rfl,h.basele,h.outer.congr fun i hi=>by simp [outAt,hi],fun j hj=>⟨(h.inner j hj).1,(h.inner j hj).2.congr fun q hq=>by
  by_cases e:j + 1=cl.length
  ·exact partAt_full (by have:=hp j e;omega)
  ·have:(j + 1 == cl.length)=false:=by simpa using e
   rw [this,partAt_false]⟩,h.incr⟩
end Rd
end Go.Proofs.YtceahffmenbibaaGreatDoor
