/- Rprog3 Rcount Rparse Rmake Rread. -/
import Derived.Test.YtceahffmenbibaaGreatDoorJ10
import Derived.Test.YtceahffmenbibaaGreatDoorJ00
import Derived.Test.YtceahffmenbibaaGreatDoorRows
import Derived.WalkSmall
import Derived.Lib.LaidTab
import Derived.Lib.SmallJoins
import Derived.Shelf.SlSorted.Search
import Derived.Deep.RegionWith
import Derived.Deep.QuietTactic
import Derived.BigQuiet
set_option linter.unusedVariables false
set_option linter.unusedSimpArgs false
set_option maxHeartbeats 2000000
namespace Go.Proofs.YtceahffmenbibaaGreatDoor
namespace Rd
section
open Go Go.RowKit Go.Proofs
abbrev kg:Bs:=[112,32,99,110,102,32]
def qQ (l:Bs):Option (Bs × Bs × Bs):=
 if ended l && Lib.hasPrefix (line l) kg && (Lib.cut (Lib.trimPrefix (line l) kg) [32]).2.2 && gJ (Lib.cut (Lib.trimPrefix (line l) kg) [32]).1 && gJ (Lib.cut (Lib.trimPrefix (line l) kg) [32]).2.1
 then some ((Lib.cut (Lib.trimPrefix (line l) kg) [32]).1,(Lib.cut (Lib.trimPrefix (line l) kg) [32]).2.1,rest l) else none
theorem N9 (l a:Bs):(Lib.cut l a).1.length <= l.length:=by unfold Lib.cut;split <;> simp;omega
theorem NZ (l a:Bs):(Lib.cut l a).2.1.length <= l.length:=by unfold Lib.cut;split <;> simp
theorem Dz (l p:Bs):(Lib.trimPrefix l p).length <= l.length:=by unfold Lib.trimPrefix;split <;> simp
theorem Fp {l y t a b:Bs} (c:y=if ended l then line l else l) (d:t=Lib.trimPrefix y kg) (f:a=(Lib.cut t [32]).1) (e:b=(Lib.cut t [32]).2.1):
  (qQ l).isSome=(ended l && Lib.hasPrefix y kg && (Lib.cut t [32]).2.2 && gJ a && gJ b):=by
 unfold qQ
 cases g:ended l with
 | false=>rfl
 | true=>
  rw [g,if_pos rfl] at c;subst c d f e;cases (true && Lib.hasPrefix (line l) kg && (Lib.cut (Lib.trimPrefix (line l) kg) [32]).2.2 && gJ (Lib.cut (Lib.trimPrefix (line l) kg) [32]).1 && gJ (Lib.cut (Lib.trimPrefix (line l) kg) [32]).2.1) <;> rfl
theorem Hz {l y z t a b:Bs} (e:y=if ended l then line l else l) (d:z=if ended l then rest l else []) (g:t=Lib.trimPrefix y kg) (i:a=(Lib.cut t [32]).1) (h:b=(Lib.cut t [32]).2.1):
  ∀ o,qQ l=some o->o=(a,b,z):=by
 intro o c;unfold qQ at c
 cases f:ended l with
 | false=>rw [f] at c;simp at c
 | true=>
  rw [f,if_pos rfl] at e d;subst e d g i h;split at c
  ·exact (Option.some.inj c).symm
  ·cases c
theorem yG (s:ByteArray) (m:Int) (w:World) (q:s.size <= 20000) (r:w.cell? ⟨0,0,none⟩=some (.int .i64 m)):
  Calls Tryz.prog 61 #[.string s] w fun e J=>(∃ n,J=w.drewN n)/\∃ a b z:ByteArray,e=.returned (.tuple #[.string a,.string b,.string z,.bool (qQ s.data.toList).isSome])/\
   (∀ o,qQ s.data.toList=some o->o=(a.data.toList,b.data.toList,z.data.toList))/\a.size <= 20000/\b.size <= 20000/\z.size <= 20000:=by
 go_enter Tryz.func61,Tryz.ntmps61
 go_wp2_with fail
 refine (NY s m _ q r).mono ?_;rintro e T ⟨y,z,rfl,d,p,V,rfl⟩;have K:y.size <= 20000:=by
  rw [oh d.out];split
  ·have:=Nh s.data.toList;simp at this;omega
  ·simpa using q
 have c:z.size <= 20000:=by
  rw [oh p.out];split
  ·simp [rest];omega
  ·simp
 go_wp2_with fail
 refine (Tryz.strings_CutPrefix y _ _).mono ?_;rintro e S ⟨rfl,rfl⟩;obtain ⟨t,f⟩:∃ t:ByteArray,t=⟨(Lib.trimPrefix y.data.toList (⟨#[112,32,99,110,102,32]⟩:ByteArray).data.toList).toArray⟩:=⟨_,rfl⟩;rw [<- f];have j:Hid (t.data.toList=Lib.trimPrefix y.data.toList kg):=by unfold Hid;rw [f]
 clear f;have L:t.size <= 20000:=by rw [oh j.out];have:=Dz y.data.toList kg;simp at this;omega
 cases C:Lib.hasPrefix y.data.toList (⟨#[112,32,99,110,102,32]⟩:ByteArray).data.toList
 all_goals
  have N:=hide C;clear C;go_wp2_with fail
  refine (Tryz.strings_Cut t _ m _ (by omega) (by exact r)).mono ?_;rintro e R ⟨rfl,U,rfl⟩;obtain ⟨a,i⟩:∃ a:ByteArray,a=⟨(Lib.cut t.data.toList (⟨#[32]⟩:ByteArray).data.toList).1.toArray⟩:=⟨_,rfl⟩;obtain ⟨b,h⟩:∃ b:ByteArray,b=⟨(Lib.cut t.data.toList (⟨#[32]⟩:ByteArray).data.toList).2.1.toArray⟩:=⟨_,rfl⟩;rw [<- i,<- h];have l:Hid (a.data.toList=(Lib.cut t.data.toList [32]).1):=by unfold Hid;rw [i]
  have k:Hid (b.data.toList=(Lib.cut t.data.toList [32]).2.1):=by unfold Hid;rw [h]
  clear i h;have has:a.size <= 20000:=by rw [oh l.out];have:=N9 t.data.toList [32];simp at this;omega
  have g:b.size <= 20000:=by rw [oh k.out];have:=NZ t.data.toList [32];simp at this;omega
  cases B:(Lib.cut t.data.toList (⟨#[32]⟩:ByteArray).data.toList).2.2
  all_goals
   have M:=hide B;clear B;cases D:ended s.data.toList
   all_goals
    have O:=hide D;clear D;cases x:gJ a.data.toList
    all_goals
     have I:=hide x;clear x;cases u:gJ b.data.toList
     all_goals
      have H:=hide u;clear u
      go_wp2_with (first | (go_at_call_of 105 (Value.string a);refine (kC a _ (by unfold maxLen;omega)).mono ?_;rintro e Q ⟨rfl,rfl⟩;rw [I.out]) | (go_at_call_of 105 (Value.string b);refine (kC b _ (by unfold maxLen;omega)).mono ?_;rintro e P ⟨rfl,rfl⟩;rw [H.out]))
      have E:=Fp d.out j.out l.out k.out;rw [O.out,show Lib.hasPrefix y.data.toList kg=_ from N.out,show (Lib.cut t.data.toList [32]).2.2=_ from M.out,I.out,H.out] at E;refine bodyPost_ret (v:=.tuple #[.string a,.string b,.string z,.bool (qQ s.data.toList).isSome]) (by rw [E];simp [results,Tryz.results61,go_sem]) rfl ⟨⟨_,rfl⟩,a,b,z,rfl,Hz d.out p.out j.out l.out k.out,has,g,c⟩
def bss (T:List ByteArray):List Bs:=T.map fun x=>x.data.toList
theorem Oo {T:List ByteArray} {k:Nat} (h:k < T.length):bss (T.take (k + 1))=bss (T.take k) ++ [T[k].data.toList]:=by
 rw [List.take_succ_eq_append_getElem h];unfold bss;rw [List.map_append];rfl
theorem wV (T:List Bs) (t:Bs):zeros (T ++ [t])=zeros T + if zero t then 1 else 0:=by
 unfold zeros;rw [List.filter_append];cases h:zero t <;> simp [h]
theorem AJ (T:List Bs) (t:Bs):lits (T ++ [t])=lits T + if zero t then 0 else 1:=by
 unfold lits;rw [List.filter_append];cases h:zero t <;> simp [h]
theorem xM (v:Bs) (T:List Bs) (t:Bs):kK v (T ++ [t])=(kK v T && (zero t || iV v t)):=by
 unfold kK;rw [List.all_append];simp
theorem sS (T:List Bs):zeros T <= T.length:=by unfold zeros;exact List.length_filter_le _ _
theorem I4 (T:List Bs):lits T <= T.length:=by unfold lits;exact List.length_filter_le _ _
theorem Ka {v:Bs} {T:List ByteArray} {k:Nat} (a:k < T.length) (h:(zero T[k].data.toList || iV v T[k].data.toList)=false):kK v (bss T)=false:=by
 rw [Bool.eq_false_iff];intro b;have:=List.all_eq_true.1 b T[k].data.toList (by simp only [bss,List.mem_map];exact ⟨T[k],List.getElem_mem a,rfl⟩);rw [h] at this;cases this
def jr (T:List Bs):Bool:=T.isEmpty || T.getLast? == some [48]
abbrev Dl (v:ByteArray) (c l:Nat) (a:Option Addr) (n:Nat):Array Value:=#[.string v,.int .i64 c,.int .i64 l,.slice a n n]
theorem wG (T:List ByteArray) (v:ByteArray) (A:Nat) (w:World) (O:T.length <= 20000) (u:∀ x ∈ T,x.size <= 20000) (M:v.size <= 20000) (R:A < w.heap.size)
  (s:∀ j (h:j < T.length),w.cell? ⟨A,j,none⟩=some (.string T[j])):
  Calls Tryz.prog 62 #[.slice (some ⟨A,0,none⟩) T.length T.length,.string v] w fun e C=>Below w.heap.size w C/\
   ((kK v.data.toList (bss T)=true/\e=.returned (.tuple #[.agg (Dl v (zeros (bss T)) (lits (bss T)) (some ⟨A,0,none⟩) T.length),.bool (jr (bss T))])) \/
    (kK v.data.toList (bss T)=false/\e=.returned (.tuple #[.agg (Dl ⟨#[]⟩ 0 0 none 0),.bool false]))):=by
 have z:=hide s;clear s;have r:=hide u;clear u;go_enter Tryz.func62,Tryz.ntmps62
 go_wp2;go_loopw [15] (fun i wr=>∃ k:Nat,k <= T.length/\i=.int .i64 k/\Hid (kK v.data.toList (bss (T.take k))=true)/\
   wr=(w.alloc (.cells (Dl ⟨#[]⟩ 0 0 none 0) 72)).alloc (.cells (Dl v (zeros (bss (T.take k))) (lits (bss (T.take k))) (some ⟨A,0,none⟩) T.length) 72)) (fun i _=>T.length - (intOf i).toNat)
 case atStart=>exact ⟨0,zl,rfl,rfl,rfl⟩
 case round=>
  obtain ⟨k,P,rfl,b,rfl⟩:=hrel;have L:=sS (bss (T.take k));have K:=I4 (bss (T.take k));have J:(bss (T.take k)).length <= k:=by simp [bss];omega
  by_cases c:k < T.length
  ·have q:=z.out k c;have n:=r.out T[k] (List.getElem_mem c);have S:=hide (Oo c);obtain ⟨t,f⟩:∃ t,t=T[k]:=⟨_,rfl⟩;rw [<- f] at q n S
   have I:Hid ((zero t.data.toList || iV v.data.toList t.data.toList)=false->kK v.data.toList (bss T)=false):=fun h=>Ka c (by rw [<- f];exact h)
   clear f
   cases y:(t.toList == [48]) with
   | true=>
    have Z:Hid (zero t.data.toList=true):=by unfold Hid zero;rw [<- ByteArray.toList_eq];exact y
    go_wp2;go_roundw
    case rel=>
     refine ⟨k + 1,by omega,by go_num,?_,?_⟩
     ·unfold Hid;rw [S.out,xM,b.out,Z.out];rfl
     ·rw [S.out,wV,AJ,Z.out];rfl
    case measure=>simp [intOf];omega
   | false=>
    have Z:Hid (zero t.data.toList=false):=by unfold Hid zero;rw [<- ByteArray.toList_eq];exact y
    cases m:iV v.data.toList t.data.toList with
    | true=>
     have g:=hide m;clear m;go_wp2_with fail
     refine (oo t v _ (by unfold maxLen;omega) (by unfold maxLen;omega)).mono ?_;rintro e B ⟨rfl,rfl⟩;rw [g.out];go_wp2;go_roundw
     case rel=>
      refine ⟨k + 1,by omega,by go_num,?_,?_⟩
      ·unfold Hid;rw [S.out,xM,b.out,Z.out,g.out];rfl
      ·rw [S.out,wV,AJ,Z.out];rfl
     case measure=>simp [intOf];omega
    | false=>
     have g:=hide m;clear m;go_wp2_with fail
     refine (oo t v _ (by unfold maxLen;omega) (by unfold maxLen;omega)).mono ?_;rintro e B ⟨rfl,rfl⟩;rw [g.out];go_wp2;have o:=I.out (by rw [Z.out,g.out];rfl);exact bodyPost_ret (v:=.tuple #[.agg (Dl ⟨#[]⟩ 0 0 none 0),.bool false]) (by simp [results,Tryz.results62,go_sem]) rfl ⟨(bR.alloc lr _).alloc (by simp) _,.inr ⟨o,rfl⟩⟩
  ·have e:k=T.length:=by omega
   subst e;have a:=b.out;rw [List.take_of_length_le lr] at a ⊢;have d:=hide a;clear a b;by_cases l:T.length=0
   ·have G:((T.length:Int) == 0)=true:=by simp [l]
    have E:Hid (jr (bss T)=true):=by unfold Hid jr bss;rw [List.eq_nil_of_length_eq_zero l];rfl
    clear l;go_wp2;exact bodyPost_ret (v:=.tuple #[.agg (Dl v (zeros (bss T)) (lits (bss T)) (some ⟨A,0,none⟩) T.length),.bool (jr (bss T))]) (by rw [E.out];simp [results,Tryz.results62,go_sem]) rfl
     ⟨(bR.alloc lr _).alloc (by simp) _,.inl ⟨d.out,rfl⟩⟩
   ·have G:((T.length:Int) == 0)=false:=by rw [beq_eq_false_iff_ne];omega
    have q:=z.out (T.length - 1) (by omega);have Q:((T.length:Int) - 1).toNat=T.length - 1:=by omega
    have E:Hid (jr (bss T)=(T[T.length - 1].toList == [48])):=by
     unfold Hid jr;have p:(bss T) ≠ []:=by intro h;apply l;have:=congrArg List.length h;simpa [bss] using this
     have D:(bss T).getLast? = some T[T.length - 1].data.toList:=by
      rw [List.getLast?_eq_getElem?];simp [bss];exact ⟨T[T.length - 1],List.getElem?_eq_getElem (by omega),rfl⟩
     rw [D];have H:(bss T).isEmpty=false:=by simpa using p
     rw [H,ByteArray.toList_eq];simp
    obtain ⟨t,f⟩:∃ t,t=T[T.length - 1]:=⟨_,rfl⟩;rw [<- f] at q E;clear f;have N:0 < T.length:=by omega
    go_wp2;exact bodyPost_ret (v:=.tuple #[.agg (Dl v (zeros (bss T)) (lits (bss T)) (some ⟨A,0,none⟩) T.length),.bool (jr (bss T))]) (by rw [E.out];simp [results,Tryz.results62,go_sem]) rfl
     ⟨(bR.alloc lr _).alloc (by simp) _,.inl ⟨d.out,rfl⟩⟩
def pw : String := Rows.lubysRow.named.getD 1 ""
theorem Am:Tryz.prog.globalNamed pw=some 1:=by kernel_rfl
def kJ (w:World):Prop:=(∃ m,w.cell? ⟨0,0,none⟩=some (.int .i64 m))/\Lib.TabIs Tryz.prog w pw .u64 Lib.pow10Tab/\4 <= w.heap.size
theorem kJ.below {B:Nat} {w w':World} (e:4 <= B) (h:Below B w w') (c:kJ w):kJ w':=by
 obtain ⟨⟨m,b⟩,a,d⟩:=c;have:=h.size;refine ⟨⟨m,?_⟩,var?_below h Am (by omega) a,by omega⟩;rw [h.cell (p:=⟨0,0,none⟩) (by show (0:Nat) < B;omega)];exact b
theorem kJ.later {w w':World} (h:Below w.heap.size w w') (a:kJ w):kJ w':=kJ.below a.2.2 h a
theorem yg (n:Nat) (d:n <= 20000) (w:World) (b:kJ w):
  Calls Tryz.prog 36 #[.int .i64 n] w fun e a=>∃ x:ByteArray,e=.returned (.string x)/\Hid (x.data.toList=Lib.decDigits n)/\Below w.heap.size w a:=by
 refine (Any.strconv_Itoa Tryz.Nq n (by omega) (by omega) w b.2.1).mono ?_;rintro e a ⟨rfl,k,c,rfl⟩;refine ⟨_,rfl,?_,below_grown_sl _ _ _ _ lr⟩;unfold Hid Lib.itoa;rw [if_neg (by omega)];simp
theorem NJ (w:World):PredAt Tryz.prog 64 #[] encR kF w:=fun W r _=>by
 refine (Kw r W).mono ?_;rintro e a ⟨rfl,rfl⟩;exact ⟨rfl,0,rfl⟩
theorem Ho (s:ByteArray) (w:World) (l:s.size <= 20000):
  Calls Tryz.prog 63 #[.string s,.func (.func 64) #[] #[]] w fun e b=>∃ (A:Nat) (T:List ByteArray),e=.returned (.slice (some ⟨A,0,none⟩) T.length T.length)/\
   Hid (bss T=toks s.data.toList)/\w.heap.size <= A/\A < b.heap.size/\Hid (∀ j (h:j < T.length),b.cell? ⟨A,j,none⟩=some (.string T[j]))/\Below w.heap.size w b/\T.length <= 20000/\Hid (∀ x ∈ T,x.size <= 20000):=by
 refine (Tryz.strings_FieldsFunc 64 #[] (enters_of Tryz.func64 (by kernel_rfl) rfl) kF s w (by omega) (NJ w)).mono ?_;rintro e b ⟨A,rfl,k,a,i⟩;have d:=EP s;have c:=LH s.data.toList;rw [<- d] at c;refine ⟨A,Lib.goFieldsP kF s,rfl,d,k,(a.lt A rfl).2,fun j h=>?_,i,?_,fun x f=>?_⟩
 ·have:=a.cells (g:=A) rfl j (.string (Lib.goFieldsP kF s)[j]) (by simp [h]);simpa [Addr.add_lit] using this
 ·have:=c.1;simp at this;omega
 ·have:=c.2 x.data.toList (List.mem_map.2 ⟨x,f,rfl⟩);simp at this;omega
def iO (s:Bs):Option (Bs × List Bs):=
 match (iY (s.length + 1) s).bind qQ with
 | none=>none
 | some (v,c,r)=>if kK v (toks r) && jr (toks r) && Lib.decDigits (zeros (toks r)) == c then some (v,toks r) else none
def OJ (s:Bs) (w w':World) (e:Ending):Prop:=
 (iO s=none/\e=.returned (.tuple #[.agg (Dl ⟨#[]⟩ 0 0 none 0),.bool false])) \/
 ∃ (v:ByteArray) (T:List ByteArray) (A:Nat),iO s=some (v.data.toList,bss T)/\e=.returned (.tuple #[.agg (Dl v (zeros (bss T)) (lits (bss T)) (some ⟨A,0,none⟩) T.length),.bool true])/\
  w.heap.size <= A/\A < w'.heap.size/\(∀ j (h:j < T.length),w'.cell? ⟨A,j,none⟩=some (.string T[j]))/\T.length <= 20000/\(∀ x ∈ T,x.size <= 20000)/\v.size <= 20000
theorem GJ {s:Bs} (h:iY (s.length + 1) s=none):iO s=none:=by unfold iO;rw [h];rfl
theorem J2 {s x:Bs} (h:iY (s.length + 1) s=some x) (a:(qQ x).isSome=false):iO s=none:=by
 have:qQ x=none:=by simpa using a
 unfold iO;rw [h];simp [this]
theorem GI {s x v c r:Bs} (h:iY (s.length + 1) s=some x) (d:(qQ x).isSome=true) (b:∀ o,qQ x=some o->o=(v,c,r)):
  iO s=if kK v (toks r) && jr (toks r) && Lib.decDigits (zeros (toks r)) == c then some (v,toks r) else none:=by
 obtain ⟨o,a⟩:=Option.isSome_iff_exists.1 d;have:=b o a;subst this;unfold iO;rw [h];simp [a]
theorem mJ {B:Nat} {a w:World} (h:Below B a w) (n:Nat):Below B a (w.drewN n):=h.trans ⟨rfl,rfl,rfl,lr,fun _ _=>rfl⟩
theorem uk {w:World} {b i A j:Nat} {v:Value} (h:A ≠ b):(w.setCell ⟨b,i,none⟩ v).cell? ⟨A,j,none⟩=w.cell? ⟨A,j,none⟩:=
 World.cell?_of_block (Below.heap_setCell _ _ _ _ h)
theorem xz (s:ByteArray):s.data.toList.length=s.size:=by simp
theorem vC {w w':World} (h:Below w.heap.size w w') (d c b a:Value):
  Below w.heap.size w ((((w'.setCell ⟨w.heap.size,0,none⟩ d).setCell ⟨w.heap.size,1,none⟩ c).setCell ⟨w.heap.size,2,none⟩ b).setCell ⟨w.heap.size,3,none⟩ a):=
 (((h.setCell lr _).setCell lr _).setCell lr _).setCell lr _
theorem J3 (s:ByteArray) (w:World) (hs:s.size <= 20000) (hg:kJ w):
  Calls Tryz.prog 34 #[.string s] w fun e V=>Below w.heap.size w V/\OJ s.data.toList w V e:=by
 have HG:=hide hg;obtain ⟨⟨m,hm⟩,_,ab⟩:=hg;have n:∀ o,(w.alloc o).cell? ⟨0,0,none⟩=some (.int .i64 m):=fun o=>by rw [World.cell?_alloc_lt _ _ _ (by show (0:Nat) < w.heap.size;omega)];exact hm
 clear hm;go_enter Tryz.func34,Tryz.ntmps34
 go_wp2_with fail
 refine (uH s m _ hs (n _)).mono ?_
 rintro e w1 ⟨⟨n1,rfl⟩,x,⟨B,rfl⟩ | ⟨B,hx,rfl⟩⟩
 ·have r:Hid (iO s.data.toList=none):=GJ (by rw [xz];exact B);clear B n;go_wp2;exact bodyPost_ret (v:=.tuple #[.agg (Dl ⟨#[]⟩ 0 0 none 0),.bool false]) (by simp [results,Tryz.results34,go_sem]) rfl ⟨vC (mJ (bR.alloc lr _) _) _ _ _ _,.inl ⟨r.out,rfl⟩⟩
 ·go_wp2_with fail
  refine (yG x m _ hx (by exact n _)).mono ?_;rintro e w2 ⟨⟨n2,rfl⟩,a,b,z,rfl,S,ha,hb,hz⟩
  cases P:(qQ x.data.toList).isSome with
  | false=>
   have r:Hid (iO s.data.toList=none):=J2 (by rw [xz];exact B) P;clear B n S P;go_wp2;exact bodyPost_ret (v:=.tuple #[.agg (Dl ⟨#[]⟩ 0 0 none 0),.bool false]) (by simp [results,Tryz.results34,go_sem]) rfl ⟨vC (mJ (bR.alloc lr _) _) _ _ _ _,.inl ⟨r.out,rfl⟩⟩
  | true=>
   have r:=hide (GI (s:=s.data.toList) (by rw [xz];exact B) P S);clear B n S P;go_wp2_with fail
   refine (Ho z _ hz).mono ?_;rintro e R ⟨A,T,rfl,hT,hA,I,k,q,hn,E⟩;rw [<- hT.out] at r;clear hT;have b3:Hid (Below w.heap.size w R):=(mJ (bR.alloc lr _) _).trans (q.mono (by simp));have s3:=q.size;simp at s3 hA;have kept:∀ j,R.cell? ⟨w.heap.size,j,none⟩=(#[Value.string ⟨#[]⟩,.int .i64 0,.int .i64 0,.slice none 0 0]:Array Value)[j]? := fun j=>by
    rw [q.cell (p:=⟨w.heap.size,j,none⟩) (by simp)];exact World.cell?_alloc_at _ _ _ _ rfl
   have u:∀ j,R.frozen? ⟨w.heap.size,j,none⟩=false:=fun j=>by
    rw [q.frozen (p:=⟨w.heap.size,j,none⟩) (by simp)];simp [go_sem]
   clear q;go_wp2_with fail
   refine (wG T a A _ hn E.out ha I k.out).mono ?_;rintro e f ⟨d,H⟩;have Q:Hid (Below w.heap.size w f):=b3.out.trans (d.mono (by omega));have s4:=d.size;have N:f.cell? ⟨w.heap.size,0,none⟩=some (.string ⟨#[]⟩):=(d.cell (p:=⟨w.heap.size,0,none⟩) (by show w.heap.size < _;omega)).trans (kept 0);have M:f.cell? ⟨w.heap.size,1,none⟩=some (.int .i64 0):=(d.cell (p:=⟨w.heap.size,1,none⟩) (by show w.heap.size < _;omega)).trans (kept 1);have L:f.cell? ⟨w.heap.size,2,none⟩=some (.int .i64 0):=(d.cell (p:=⟨w.heap.size,2,none⟩) (by show w.heap.size < _;omega)).trans (kept 2);have K:f.cell? ⟨w.heap.size,3,none⟩=some (.slice none 0 0):=(d.cell (p:=⟨w.heap.size,3,none⟩) (by show w.heap.size < _;omega)).trans (kept 3);have f4:∀ j,f.frozen? ⟨w.heap.size,j,none⟩=false:=fun j=>(d.frozen (p:=⟨w.heap.size,j,none⟩) (by show w.heap.size < _;omega)).trans (u j)
   have J:Hid (∀ j (h:j < T.length),f.cell? ⟨A,j,none⟩=some (.string T[j])):=fun j h=>(d.cell (p:=⟨A,j,none⟩) I).trans (k.out j h)
   have i:w.heap.size < f.heap.size:=by omega
   clear kept u d k b3
   rcases H with ⟨g,rfl⟩ | ⟨g,rfl⟩
   ·cases O:jr (bss T) with
    | false=>
     have C:Hid (iO s.data.toList=none):=by unfold Hid;rw [r.out,g,O];rfl
     clear r g O;go_wp2;exact bodyPost_ret (v:=.tuple #[.agg (Dl ⟨#[]⟩ 0 0 none 0),.bool false]) (by simp [results,Tryz.results34,go_sem,N,M,L,K,i]) rfl ⟨(vC Q.out _ _ _ _).alloc (by simp;omega) _,.inl ⟨C.out,rfl⟩⟩
    | true=>
     have t:Hid (iO s.data.toList=if Lib.decDigits (zeros (bss T)) == b.data.toList then some (a.data.toList,bss T) else none):=by unfold Hid;rw [r.out,g,O];rfl
     clear r g O;have zl:=sS (bss T);have aa:(bss T).length=T.length:=by simp [bss]
     go_wp2_with fail
     refine (yg (zeros (bss T)) (by omega) _ ((kJ.later Q.out HG.out).later (bR.alloc lr _))).mono ?_;rintro e l ⟨y,rfl,hy,c⟩;have b5:Hid (Below w.heap.size w l):=Q.out.trans ((bR.alloc (by omega) _).trans (c.mono (by simp;omega)));have s5:=c.size;simp at s5;have Z:l.cell? ⟨w.heap.size,0,none⟩=some (.string ⟨#[]⟩):=(c.cell (p:=⟨w.heap.size,0,none⟩) (by simp;omega)).trans ((World.cell?_alloc_lt _ _ _ (by exact i)).trans N);have Y:l.cell? ⟨w.heap.size,1,none⟩=some (.int .i64 0):=(c.cell (p:=⟨w.heap.size,1,none⟩) (by simp;omega)).trans ((World.cell?_alloc_lt _ _ _ (by exact i)).trans M);have X:l.cell? ⟨w.heap.size,2,none⟩=some (.int .i64 0):=(c.cell (p:=⟨w.heap.size,2,none⟩) (by simp;omega)).trans ((World.cell?_alloc_lt _ _ _ (by exact i)).trans L);have W:l.cell? ⟨w.heap.size,3,none⟩=some (.slice none 0 0):=(c.cell (p:=⟨w.heap.size,3,none⟩) (by simp;omega)).trans ((World.cell?_alloc_lt _ _ _ (by exact i)).trans K);have f5:∀ j,l.frozen? ⟨w.heap.size,j,none⟩=false:=fun j=>(c.frozen (p:=⟨w.heap.size,j,none⟩) (by simp;omega)).trans (by simp [go_sem,i,f4])
     have t0:l.cell? ⟨f.heap.size,0,none⟩=some (.string a):=(c.cell (p:=⟨f.heap.size,0,none⟩) (by simp)).trans (World.cell?_alloc_at _ _ _ _ rfl);have t1:l.cell? ⟨f.heap.size,1,none⟩=some (.int .i64 (zeros (bss T))):=(c.cell (p:=⟨f.heap.size,1,none⟩) (by simp)).trans (World.cell?_alloc_at _ _ _ _ rfl);have t2:l.cell? ⟨f.heap.size,2,none⟩=some (.int .i64 (lits (bss T))):=(c.cell (p:=⟨f.heap.size,2,none⟩) (by simp)).trans (World.cell?_alloc_at _ _ _ _ rfl);have t3:l.cell? ⟨f.heap.size,3,none⟩=some (.slice (some ⟨A,0,none⟩) T.length T.length):=(c.cell (p:=⟨f.heap.size,3,none⟩) (by simp)).trans (World.cell?_alloc_at _ _ _ _ rfl);have U:Hid (∀ j (h:j < T.length),l.cell? ⟨A,j,none⟩=some (.string T[j])):=fun j h=>(c.cell (p:=⟨A,j,none⟩) (by simp;omega)).trans ((World.cell?_alloc_lt _ _ _ (by show A < _;omega)).trans (J.out j h))
     clear c N M L K f4 J
     cases D:(!y.toList == b.toList) with
     | true=>
      have C:Hid (iO s.data.toList=none):=by
       unfold Hid;rw [t.out,<- hy.out];rw [ByteArray.toList_eq,ByteArray.toList_eq] at D;simp at D;simp [D]
      clear t;go_wp2;exact bodyPost_ret (v:=.tuple #[.agg (Dl ⟨#[]⟩ 0 0 none 0),.bool false]) (by simp [results,Tryz.results34,go_sem,Z,Y,X,W]) rfl ⟨vC b5.out _ _ _ _,.inl ⟨C.out,rfl⟩⟩
     | false=>
      have C:Hid (iO s.data.toList=some (a.data.toList,bss T)):=by
       unfold Hid;rw [t.out,<- hy.out];rw [ByteArray.toList_eq,ByteArray.toList_eq] at D;simp at D;simp [D]
      clear t;go_wp2;refine bodyPost_ret (v:=.tuple #[.agg (Dl a (zeros (bss T)) (lits (bss T)) (some ⟨A,0,none⟩) T.length),.bool true]) (by simp [results,Tryz.results34,go_sem,Z,Y,X,W]) rfl ⟨vC b5.out _ _ _ _,.inr ⟨a,T,A,C.out,rfl,by omega,by simp;omega,fun j h=>?_,hn,E.out,ha⟩⟩;rw [uk (by omega),uk (by omega),uk (by omega),uk (by omega)];exact U.out j h
   ·have C:Hid (iO s.data.toList=none):=by unfold Hid;rw [r.out,g];rfl
    clear r g;go_wp2;exact bodyPost_ret (v:=.tuple #[.agg (Dl ⟨#[]⟩ 0 0 none 0),.bool false]) (by simp [results,Tryz.results34,go_sem,N,M,L,K,i]) rfl ⟨(vC Q.out _ _ _ _).alloc (by simp;omega) _,.inl ⟨C.out,rfl⟩⟩
end
section
open Go Go.RowKit Go.Proofs Go.Deep
theorem uF (t:ByteArray) (n:Int) (w:World) (b:t.size <= 18) (h:Lib.atoi t.data.toList=some n):
  Calls Tryz.prog 37 #[.string t] w fun e a=>e=.returned (.int .i64 n)/\Below w.heap.size w a:=by
 have H:=hide h;clear h;go_enter Tryz.func37,Tryz.ntmps37
 go_wp2_with fail
 refine (Tryz.strconv_Atoi t n b H.out _).mono ?_;rintro e c ⟨rfl,s,rfl⟩;go_wp2;go_ret;exact ⟨rfl,Joins.below_bytesWorld _ _ _ _ lr⟩
theorem Ey:∀ (c:List ByteArray) (i:Nat),0 < zeros (bss c)->Lib.idxFromS c ⟨#[48]⟩ i=((i + ((bss c).takeWhile nz).length:Nat):Int)
 | [],i,h=>by simp [bss,zeros] at h
 | z :: r,i,h=>by
  have e:(z=(⟨#[48]⟩:ByteArray))↔zero z.data.toList=true:=by
   unfold zero;constructor
   ·intro h;subst h;rfl
   ·intro h;have f:z.data.toList=[48]:=by simpa using h
    exact ByteArray.ext (Array.toList_inj.1 f)
  have d:bss (z :: r)=z.data.toList :: bss r:=rfl;unfold Lib.idxFromS;by_cases b:zero z.data.toList=true
  ·rw [if_pos (e.2 b),d];simp [nz,b]
  ·have a:zero z.data.toList=false:=by simpa using b
   rw [if_neg (fun h=>b (e.1 h)),Ey r (i + 1) (by rw [d,o9,a] at h;simpa using h),d];simp [nz,a];omega
theorem Tryz.Rb:(Tryz.prog.info? 3).map (fun i=>(i.zero,i.size,i.bytes))=some (some (.int .i64 0),1,8):=by kernel_rfl
theorem Tryz.Nw:(Tryz.prog.info? 43).map (fun i=>(i.zero,i.size,i.bytes))=some (some (.slice none 0 0),1,24):=by kernel_rfl
def Ag (T:List Bs):Prop:=∀ t ∈ T,zero t=false->Lib.atoi t=some (eQ t)/\t.length <= 18
theorem Jh:∀ (c:Nat) (T:List Bs) (j:Nat),((cls c T).getD j []).length <= T.length
 | 0,T,j=>by simp [cls]
 | c + 1,T,0=>by
  simp only [cls,List.getD_cons_zero,List.length_map];exact (List.takeWhile_prefix _).length_le
 | c + 1,T,j + 1=>by
  simp only [cls,List.getD_cons_succ];have:=Jh c (T.drop ((T.takeWhile nz).length + 1)) j;simp only [List.length_drop] at this;omega
structure Cut (T:List ByteArray) (C:Nat) (cl:List (List Int)) (k off:Nat):Prop where
 le:off <= T.length
 zs:zeros (bss (T.drop off))=C - k
 cs:cls (C - k) (bss (T.drop off))=cl.drop k
structure RQ (T:List ByteArray) (C:Nat) (cl:List (List Int)) (k off e:Nat):Prop where
 idx:((bss (T.drop off)).takeWhile nz).length=e
 lt:off + e < T.length
 len:(cl.getD k []).length=e
 lits:∀ q (h:off + q < T.length),q < e->zero (T[off + q]).data.toList=false/\eQ (T[off + q]).data.toList=(cl.getD k []).getD q 0
 next:Cut T C cl (k + 1) (off + e + 1)
theorem FK (T:List ByteArray) (n:Nat):bss (T.drop n)=(bss T).drop n:=by simp [bss,List.map_drop]
theorem Cut.step {T:List ByteArray} {C:Nat} {b:List (List Int)} {k off:Nat} (h:Cut T C b k off) (r:k < C):RQ T C b k off ((bss (T.drop off)).takeWhile nz).length:=by
 have m:0 < zeros (bss (T.drop off)):=by rw [h.zs];omega
 obtain ⟨R,l,j,s,p⟩:=Fj m;have c:=h.cs;rw [show C - k=(C - (k + 1)) + 1 by omega,cls,j] at c;have f:b.getD k []=((bss (T.drop off)).takeWhile nz).map eQ:=by
  rw [List.getD_eq_getElem?_getD];have:(b.drop k)[0]? = b[k]? := by simp
  rw [<- this,<- c];rfl
 have hd:b.drop (k + 1)=cls (C - (k + 1)) R:=by
  have:(b.drop k).drop 1=b.drop (k + 1):=by rw [List.drop_drop]
  rw [<- this,<- c];rfl
 have e:=congrArg List.length l;simp only [List.length_append,List.length_cons] at e;have o:(bss (T.drop off)).length=T.length - off:=by simp [bss]
 have i:bss (T.drop (off + ((bss (T.drop off)).takeWhile nz).length + 1))=R:=by
  rw [FK,Nat.add_assoc,<- List.drop_drop,<- FK,j]
 refine ⟨rfl,by omega,by rw [f];simp,?_,⟨by omega,by rw [i];have:=h.zs;omega,by rw [i,hd]⟩⟩;intro q n g;have a:(bss (T.drop off))[q]? = some (T[off + q]).data.toList:=by
  simp [bss,n]
 have d:((bss (T.drop off)).takeWhile nz)[q]? = some (T[off + q]).data.toList:=by
  rw [l,List.getElem?_append_left g] at a;exact a
 refine ⟨p _ (List.mem_of_getElem? d),?_⟩;rw [f,List.getD_eq_getElem?_getD,List.getElem?_map,d];rfl
theorem TF {T:List ByteArray} {C:Nat} {a:List (List Int)} {k off:Nat} (h:Cut T C a k off) (b:k < C):Lib.idxOfS ((T.drop off).take (T.length - off)) ⟨#[48]⟩=((((bss (T.drop off)).takeWhile nz).length:Nat):Int):=by
 rw [List.take_of_length_le (by simp)];unfold Lib.idxOfS;rw [Ey _ 0 (by rw [h.zs];omega)];simp
theorem wD (v:ByteArray) (T:List ByteArray) (A:Nat) (w:World) (hn:T.length <= 20000) (hA:A < w.heap.size)
  (hc:∀ j (h:j < T.length),w.cell? ⟨A,j,none⟩=some (.string T[j])) (hs:Ag (bss T)):
  Calls Tryz.prog 38 #[.agg (Dl v (zeros (bss T)) (lits (bss T)) (some ⟨A,0,none⟩) T.length)] w fun e X=>∃ u,e=.returned u/\Below w.heap.size w X/\
   Lists 43 3 w.heap.size X u (cls (zeros (bss T)) (bss T)):=by
 have HC:=hide hc;clear hc;have HS:=hide hs;clear hs;have zl:=sS (bss T);have L:(bss T).length=T.length:=by simp [bss]
 obtain ⟨C,E⟩:∃ C,C=zeros (bss T):=⟨_,rfl⟩;obtain ⟨b,f⟩:∃ b,b=cls (zeros (bss T)) (bss T):=⟨_,rfl⟩;have r:Hid (b.length=C):=by unfold Hid;rw [f,E];exact sM _ _
 have S:Hid (b=cls C (bss T)):=by unfold Hid;rw [f,E]
 have HZ:=hide E;rw [<- f,<- E];have aa:C <= 20000:=by omega
 have G:∀ j,Hid ((b.getD j []).length <= 20000):=fun j=>by
  unfold Hid;rw [f];have:=Jh (zeros (bss T)) (bss T) j;omega
 clear E f zl L;have O:=run_make_row' (P:=Tryz.prog) 32 43 (.slice none 0 0) 24 Tryz.underlying32 Tryz.Nw rfl .i64 .i64 C (by omega) (by omega);go_enter Tryz.func38,Tryz.ntmps38
 go_wp2;have M0:Hid (Mem 43 3 w.heap.size (w.heap.size + 1) b w ((w.alloc (.cells (Dl v C (lits (bss T)) (some ⟨A,0,none⟩) T.length) 72)).alloc (.cells (madeCells #[.slice none 0 0] C) 43)) 0 (fun _=>0) 20001):=by
  refine ⟨?_,fun j m=>absurd m (Nat.not_lt_zero _),fun j j' _ h=>absurd h (Nat.not_lt_zero _),(bR.alloc lr _).alloc (by simp) _,by omega⟩;rw [r.out];have hr:=World.rowIs_made (w.alloc (.cells (Dl v C (lits (bss T)) (some ⟨A,0,none⟩) T.length) 72)) (.slice none 0 0) C 43;simp only [World.size_alloc] at hr;exact hr.congr fun i hi=>by simp [vO]
 go_loopw [4,16] (fun t i wr=>∃ (k off:Nat) (B:Nat->Nat) (R:Option Addr),k <= C/\i=.int .i64 k/\t=.slice R (T.length - off) (T.length - off)/\(off < T.length->R=some ⟨A,off,none⟩)/\
   Hid (Cut T C b k off)/\Hid (Mem 43 3 w.heap.size (w.heap.size + 1) b w wr k B 20001)) (fun _ i _=>C - (intOf i).toNat)
 case atStart=>exact ⟨0,0,fun _=>0,some ⟨A,0,none⟩,zl,rfl,rfl,fun _=>rfl,⟨zl,HZ.out.symm,S.out.symm⟩,M0⟩
 case round=>
  clear M0 O;obtain ⟨k,off,B,R,hk,rfl,rfl,D,hcut,a⟩:=hrel;by_cases c:k < C
  ·have N:=hide (hcut.out.step c);have I:=hide (TF hcut.out c);obtain ⟨e,he⟩:∃ e,e=((bss (T.drop off)).takeWhile nz).length:=⟨_,rfl⟩;rw [<- he] at N I;clear he;have n1:=N.out.lt;have z:=D (by omega);subst z;have cC:=a.out.outer.cell (i:=k) (by rw [r.out];exact c);rw [show vO b B k k=.slice none 0 0 from by simp [vO]] at cC;have fC:=a.out.outer.frozen k;have lC:=a.out.outer.lt;clear D;go_wp2_with fail
   refine (Tryz.slices_Index_string A off (T.length - off) (T.length - off) (T.drop off) _ _ (by simp) (by omega) ?_).mono ?_
   ·intro j m;rw [a.out.below.cell (p:=⟨A,off + j,none⟩) hA];have y:off + j < T.length:=by simp at m;omega
    rw [HC.out (off + j) y];simp [List.getD_eq_getElem?_getD,y]
   rintro K l ⟨rfl,rfl⟩;rw [I.out];have M:=run_make_row' (P:=Tryz.prog) 43 3 (.int .i64 0) 8 Tryz.underlying43 Tryz.Rb rfl .i64 .i64 e (by omega) (by omega);go_wp2;have M1:Hid (Mem 43 3 w.heap.size (w.heap.size + 1) b w ((l.setCell ⟨w.heap.size + 1,k,none⟩ (.slice (some ⟨l.heap.size,0,none⟩) e e)).alloc (.cells (madeCells #[.int .i64 0] e) 3)) (k + 1) (fun j=>if j=k then l.heap.size else B j) 0):=
    a.out.push (by rw [r.out];exact c) (fun j m=>by
     have:=jd (G j);omega) e N.out.len.symm
   clear M cC fC;go_loopw [30] (fun i wr=>∃ p:Nat,p <= e/\i=.int .i64 p/\Hid (Mem 43 3 w.heap.size (w.heap.size + 1) b w wr (k + 1) (fun j=>if j=k then l.heap.size else B j) p)) (fun i _=>e - (intOf i).toNat)
   case atStart=>exact ⟨0,zl,rfl,M1⟩
   case round=>
    clear M1;obtain ⟨p,hp,rfl,n⟩:=hrel;by_cases s:p < e
    ·have cO:=n.out.outer.cell (i:=k) (by rw [r.out];exact c);rw [show vO b (fun j=>if j=k then l.heap.size else B j) (k + 1) k=.slice (some ⟨l.heap.size,0,none⟩) e e from by simp [vO,Vm];exact N.out.len] at cO;have d:=(n.out.inner k (by omega)).2;simp only [if_true] at d;have cI:=d.cell (i:=p) (by rw [N.out.len];exact s);rw [show partAt (b.getD k []) (k + 1 == k + 1) p p=.int .i64 0 from by simp [partAt]] at cI;have fI:=d.frozen p;have lI:=d.lt;have lO:=n.out.outer.lt;clear d;have o:off + p < T.length:=by omega
     have cT:wr.cell? ⟨A,off + p,none⟩=some (.string T[off + p]):=by
      rw [n.out.below.cell (p:=⟨A,off + p,none⟩) hA];exact HC.out (off + p) o
     obtain ⟨W,V⟩:=N.out.lits p o s;obtain ⟨H,Z⟩:=HS.out (T[off + p]).data.toList (by simp only [bss,List.mem_map];exact ⟨_,List.getElem_mem o,rfl⟩) W;rw [V] at H;have Y:(T[off + p]).size <= 18:=by simpa using Z
     obtain ⟨t,ht⟩:∃ t,t=T[off + p]:=⟨_,rfl⟩;rw [<- ht] at cT H Y;have S1:=hide H;clear ht H Z W V;obtain ⟨x,Q⟩:∃ x,x=(b.getD k []).getD p 0:=⟨_,rfl⟩;rw [<- Q] at S1;have HX:=hide Q;clear Q;have ab:A < wr.heap.size:=by have:=n.out.below.size;omega
     go_wp2;go_region_with ((go_at_call 37;refine (uF t x _ Y S1.out).mono ?_;rintro e2 w2 ⟨rfl,g⟩;have d1:=(g.cell (p:=⟨l.heap.size,p,none⟩) lI).trans cI;have d2:=(g.frozen (p:=⟨l.heap.size,p,none⟩) lI).trans fI;have d3:=(g.cell (p:=⟨w.heap.size + 1,k,none⟩) lO).trans cO;have U:=hide g;clear g))
     all_goals
      go_wp2;go_roundw
      case rel=>
       refine ⟨p + 1,by omega,by go_num,?_⟩;have m2:=(n.out.later ((Below.refl _ wr).drew.trans U.out)).put x HX.out;simp only [if_true] at m2;exact m2
      case measure=>simp [intOf];omega
    ·have K:p=e:=by omega
     subst K;have nx:=hide N.out.next;have ML:Hid (Mem 43 3 w.heap.size (w.heap.size + 1) b w wr (k + 1) (fun j=>if j=k then l.heap.size else B j) 20001):=by
      have h:=n.out;refine ⟨h.outer,fun j m=>⟨(h.inner j m).1,(h.inner j m).2.congr fun q hq=>?_⟩,h.gY,h.below,h.lW⟩;by_cases e:j=k
      ·subst e;rw [N.out.len] at hq;rw [nL hq,nL (by omega)]
      ·have:(j + 1 == k + 1)=false:=by simp;omega
       rw [this,iN,iN]
     go_wp2;refine ⟨⟨k + 1,off + p + 1,_,(if T.length - off=p + 1 then some { block:=A,off:=off } else some { block:=A,off:=off + (p + 1) }),by omega,by go_num,?_,fun h=>?_,nx.out,ML.out⟩,by simp [intOf];omega⟩
     ·rw [show T.length - (off + p + 1)=T.length - off - (p + 1) by omega]
     ·rw [if_neg (by omega),show off + (p + 1)=off + p + 1 by omega]
  ·have K:k=C:=by omega
   subst K;have J:=a.out;rw [<- r.out] at J;have LL:=hide (J.lists (fun j m=>by have:=jd (G j);omega));have HB:=hide J.below;clear J;rw [r.out] at LL;go_wp2;go_ret;exact ⟨_,rfl,HB.out,LL.out⟩
def pX (s:Bs):Int × List (List Int) × Int:=
 if 20000 < s.length then (0,[],1)
 else match iO s with
  | none=>(0,[],2)
  | some (v,T)=>if above v [53,48] || decide (700 < lits T) then (0,[],1) else (fZ v,cls (zeros T) T,0)
theorem Ed {s v:Bs} {T:List Bs} (h:iO s=some (v,T)):gJ v=true/\kK v T=true/\jr T=true:=by
 unfold iO at h
 cases d:(iY (s.length + 1) s).bind qQ with
 | none=>rw [d] at h;simp at h
 | some o=>
  obtain ⟨f,c,r⟩:=o;rw [d] at h;simp only at h;split at h
  ·rename_i b;simp only [Option.some.injEq,Prod.mk.injEq] at h;obtain ⟨rfl,rfl⟩:=h;simp only [Bool.and_eq_true] at b;refine ⟨?_,b.1.1,b.1.2⟩;obtain ⟨x,_,a⟩:=Option.bind_eq_some_iff.1 d;unfold qQ at a;split at a
   ·rename_i e;simp only [Bool.and_eq_true] at e;simp only [Option.some.injEq,Prod.mk.injEq] at a;rw [<- a.1];exact e.1.2
   ·cases a
  ·cases h
theorem Mf {v:Bs} {T:List Bs} (h:kK v T=true) (e:v.length <= 2):Ag T:=by
 intro t d c;have:=List.all_eq_true.1 h t d;rw [c,Bool.false_or] at this;have a:(strip t).length <= 2:=by
  have b:=this;unfold iV at b;simp only [Bool.and_eq_true,Bool.not_eq_true'] at b;have:=jF b.2;omega
 refine ⟨FU this (by omega),?_⟩;unfold strip at a;split at a
 ·simp at a;omega
 ·omega
theorem Hd (w:World):Calls Tryz.prog 36 #[.int .i64 50] w fun e a=>e=.returned (.string ⟨#[53,48]⟩)/\a=w:=by
 refine (Tryz.strconv_Itoa_small 50 (by omega) w).mono ?_;rintro e a ⟨rfl,rfl⟩;exact ⟨by rw [show Lib.decDigits 50=[53,48] from by decide +kernel],rfl⟩
theorem uV (v:ByteArray) (b:Bool) (w:World) (d:v.size <= 20000) (c:above v.data.toList [53,48]=b):
  Calls Tryz.prog 35 #[.string v,.string ⟨#[53,48]⟩] w fun e a=>e=.returned (.bool b)/\a=w:=by
 refine (vW v ⟨#[53,48]⟩ w (by unfold maxLen;omega) (by decide)).mono ?_;rintro e a ⟨rfl,rfl⟩;exact ⟨by rw [show above v.data.toList (⟨#[53,48]⟩:ByteArray).data.toList=b from c],rfl⟩
def Ry (r:Int × List (List Int) × Int) (w w':World) (e:Ending):Prop:=
 ∃ u,e=.returned (.tuple #[.int .i64 r.1,u,.int .i64 r.2.2])/\((r.2.1=[]/\u=.slice none 0 0)\/Lists 43 3 w.heap.size w' u r.2.1)
theorem tN (s:ByteArray) (w:World) (N:s.size <= maxLen) (D:kJ w):
  Calls Tryz.prog 18 #[.string s] w fun e C=>Below w.heap.size w C/\Ry (pX s.data.toList) w C e:=by
 unfold maxLen at N;by_cases x:20000 < s.size
 ·have E:Hid (pX s.data.toList=(0,[],1)):=by unfold Hid pX;rw [if_pos (by simpa using x)]
  go_enter Tryz.func18,Tryz.ntmps18
  go_wp2;go_ret3
  exact ⟨bR,_,by rw [E.out];rfl,.inl ⟨by rw [E.out],rfl⟩⟩
 ·have P:¬ (20000:Int) < (s.size:Int):=by omega
  have S:=hide D;clear D;go_enter Tryz.func18,Tryz.ntmps18
  go_wp2_with fail
  refine (J3 s w (by omega) S.out).mono ?_
  rintro e n ⟨b,⟨f,rfl⟩ | ⟨v,T,A,f,rfl,hA,t,G,O,H,r⟩⟩
  ·have E:Hid (pX s.data.toList=(0,[],2)):=by unfold Hid pX;rw [if_neg (by simpa using x),f]
   clear f;go_wp2;go_ret3;exact ⟨b.alloc (by exact b.size) _,_,by rw [E.out];rfl,.inl ⟨by rw [E.out],rfl⟩⟩
  ·have g:Hid (pX s.data.toList=if above v.data.toList [53,48] || decide (700 < lits (bss T)) then (0,[],1) else (fZ v.data.toList,cls (zeros (bss T)) (bss T),0)):=by
    unfold Hid pX;rw [if_neg (by simpa using x),f]
   obtain ⟨J,I,Q⟩:=Ed f;have W:=hide J;have V:=hide I;have U:=hide G;have HT:=hide H;have c:=hide b;have q:=b.size;clear f J I Q G H b;have zl:=sS (bss T);have ll:=I4 (bss T);have K:(bss T).length=T.length:=by simp [bss]
   cases l:above v.data.toList [53,48] with
   | true=>
    have E:Hid (pX s.data.toList=(0,[],1)):=by unfold Hid;rw [g.out,l];rfl
    have d:=hide l;clear l g;go_wp2
    go_quiet ((first | (go_at_call 36;exact Calls.quiet_of_same (Hd _)) | (go_at_call 35;exact Calls.quiet_of_same (uV v true _ r d.out))))
    go_wp2;go_ret3
    exact ⟨mJ (c.out.alloc q _) _,_,by rw [E.out];rfl,.inl ⟨by rw [E.out],rfl⟩⟩
   | false=>
    have d:=hide l;clear l;by_cases o:700 < lits (bss T)
    ·have E:Hid (pX s.data.toList=(0,[],1)):=by unfold Hid;rw [g.out,d.out];simp [o]
     have hd:decide ((700:Int) < (lits (bss T):Int))=true:=by simp;omega
     clear o g;go_wp2
     go_quiet ((first | (go_at_call 36;exact Calls.quiet_of_same (Hd _)) | (go_at_call 35;exact Calls.quiet_of_same (uV v false _ r d.out))))
     go_wp2;go_ret3
     exact ⟨mJ (c.out.alloc q _) _,_,by rw [E.out];rfl,.inl ⟨by rw [E.out],rfl⟩⟩
    ·have E:Hid (pX s.data.toList=(fZ v.data.toList,cls (zeros (bss T)) (bss T),0)):=by unfold Hid;rw [g.out,d.out];simp [o]
     have hd:decide ((700:Int) < (lits (bss T):Int))=false:=by simp;omega
     have L:v.size <= 2:=by have:=jF d.out;simpa using this
     have Y:=hide (FQ W.out (by simp;omega));have R:=hide (Mf V.out (by simpa using L));clear o g;go_wp2
     go_quiet ((first | (go_at_call 36;exact Calls.quiet_of_same (Hd _)) | (go_at_call 35;exact Calls.quiet_of_same (uV v false _ r d.out))))
     go_wp2;go_region_with (first
      |(go_at_call 37;refine (uF v (fZ v.data.toList) _ (by omega) Y.out).mono ?_;rintro e2 B ⟨rfl,a⟩;have d0:=a.cell (p:=⟨n.heap.size,0,none⟩) (by simp);have d1:=a.cell (p:=⟨n.heap.size,1,none⟩) (by simp);have d2:=a.cell (p:=⟨n.heap.size,2,none⟩) (by simp);have d3:=a.cell (p:=⟨n.heap.size,3,none⟩) (by simp);have Z:Hid (A < B.heap.size):=(by have:=a.size;simp at this;unfold Hid;omega);have X:Hid (∀ j (h:j < T.length),B.cell? ⟨A,j,none⟩=some (.string T[j])):=fun j h=>(a.cell (p:=⟨A,j,none⟩) (by simp;omega)).trans ((World.cell?_alloc_lt _ _ _ (by exact t)).trans (U.out j h));have m:=hide a;clear a)
      |(go_at_call 38;refine (wD v T A _ O (by exact Z.out) (by exact X.out) R.out).mono ?_;rintro e3 w3 ⟨u,rfl,k,i⟩;have z:=hide k;have y:=hide i;clear k i))
     all_goals
      go_wp2;go_ret3
      have M:=m.out.size;simp at M;refine ⟨?_,u,by rw [E.out];rfl,.inr ?_⟩
      ·refine Below.trans (Below.trans (mJ (c.out.alloc q _) _) (Below.trans (Below.drew bR) (m.out.mono (by simp;omega)))) (z.out.mono (by omega))
      ·rw [E.out];exact y.out.mono (by omega)
end
end Rd
end Go.Proofs.YtceahffmenbibaaGreatDoor
