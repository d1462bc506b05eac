/- Rparse Rmake Rread Req Cline Tprf Cref9 Cpop Cset Cset2. -/
import Derived.Test.YtceahffmenbibaaGreatDoorH05
import Derived.Test.YtceahffmenbibaaGreatDoorRows
import Derived.Lib.SmallJoins
import Derived.Shelf.SlSorted.Search
import Derived.Shelf.Spec.TrailingZeros
set_option linter.unusedVariables false
set_option linter.unusedSimpArgs false
set_option maxHeartbeats 2000000
set_option maxRecDepth 100000
namespace Go.Proofs.YtceahffmenbibaaGreatDoor
namespace Rd
section
open Go Go.RowKit Go.Proofs
def pw : String := Rows.lubysRow.named.getD 1 ""
theorem Bd:Tryz.prog.globalNamed pw=some 1:=by kernel_rfl
def oQ (w:World):Prop:=(∃ m,w.cell? ⟨0,0,none⟩=some (.int .i64 m))/\Lib.TabIs Tryz.prog w pw .u64 Lib.pow10Tab/\4 <= w.heap.size
theorem oQ.below {B:Nat} {w w':World} (e:4 <= B) (h:Below B w w') (c:oQ w):oQ w':=by
 obtain ⟨⟨m,b⟩,a,d⟩:=c;have:=h.size;refine ⟨⟨m,?_⟩,var?_below h Bd (by omega) a,by omega⟩;rw [h.cell (p:=⟨0,0,none⟩) (by show (0:Nat) < B;omega)];exact b
theorem oQ.later {w w':World} (h:Below w.heap.size w w') (a:oQ w):oQ w':=oQ.below a.2.2 h a
theorem FO (n:Nat) (d:n <= 20000) (w:World) (b:oQ w):
  Calls Tryz.prog 36 #[.int .i64 n] w fun e a=>∃ x:ByteArray,e=.returned (.string x)/\Hid (x.data.toList=Lib.decDigits n)/\Below w.heap.size w a:=by
 refine (Any.strconv_Itoa Tryz.PM n (by omega) (by omega) w b.2.1).mono ?_;rintro e a ⟨rfl,k,c,rfl⟩;refine ⟨_,rfl,?_,below_grown_sl _ _ _ _ lr⟩;unfold Hid Lib.itoa;rw [if_neg (by omega)];simp
theorem Qd (w:World):PredAt Tryz.prog 64 #[] encR kL w:=fun W r _=>by
 refine (MJ r W).mono ?_;rintro e a ⟨rfl,rfl⟩;exact ⟨rfl,0,rfl⟩
theorem Jh (s:ByteArray) (w:World) (l:s.size <= 20000):
  Calls Tryz.prog 63 #[.string s,.func (.func 64) #[] #[]] w fun e b=>∃ (A:Nat) (T:List ByteArray),e=.returned (.slice (some ⟨A,0,none⟩) T.length T.length)/\
   Hid (bss T=toks s.data.toList)/\w.heap.size <= A/\A < b.heap.size/\Hid (∀ j (h:j < T.length),b.cell? ⟨A,j,none⟩=some (.string T[j]))/\Below w.heap.size w b/\T.length <= 20000/\Hid (∀ x ∈ T,x.size <= 20000):=by
 refine (Tryz.strings_FieldsFunc 64 #[] (enters_of Tryz.func64 (by kernel_rfl) rfl) kL s w (by omega) (Qd w)).mono ?_;rintro e b ⟨A,rfl,k,a,i⟩;have d:=Gn s;have c:=NW s.data.toList;rw [<- d] at c;refine ⟨A,Lib.goFieldsP kL s,rfl,d,k,(a.lt A rfl).2,fun j h=>?_,i,?_,fun x f=>?_⟩
 ·have:=a.cells (g:=A) rfl j (.string (Lib.goFieldsP kL s)[j]) (by simp [h]);simpa [Addr.add_lit] using this
 ·have:=c.1;simp at this;omega
 ·have:=c.2 x.data.toList (List.mem_map.2 ⟨x,f,rfl⟩);simp at this;omega
def iW (s:Bs):Option (Bs × List Bs):=
 match (jg (s.length + 1) s).bind qX with
 | none=>none
 | some (v,c,r)=>if kS v (toks r) && jD (toks r) && Lib.decDigits (zeros (toks r)) == c then some (v,toks r) else none
def Ry (s:Bs) (w w':World) (e:Ending):Prop:=
 (iW s=none/\e=.returned (.tuple #[.agg (DW ⟨#[]⟩ 0 0 none 0),.bool false])) \/
 ∃ (v:ByteArray) (T:List ByteArray) (A:Nat),iW s=some (v.data.toList,bss T)/\e=.returned (.tuple #[.agg (DW v (zeros (bss T)) (lits (bss T)) (some ⟨A,0,none⟩) T.length),.bool true])/\
  w.heap.size <= A/\A < w'.heap.size/\(∀ j (h:j < T.length),w'.cell? ⟨A,j,none⟩=some (.string T[j]))/\T.length <= 20000/\(∀ x ∈ T,x.size <= 20000)/\v.size <= 20000
theorem IJ {s:Bs} (h:jg (s.length + 1) s=none):iW s=none:=by unfold iW;rw [h];rfl
theorem LC {s x:Bs} (h:jg (s.length + 1) s=some x) (a:(qX x).isSome=false):iW s=none:=by
 have:qX x=none:=by simpa using a
 unfold iW;rw [h];simp [this]
theorem II {s x v c r:Bs} (h:jg (s.length + 1) s=some x) (d:(qX x).isSome=true) (b:∀ o,qX x=some o->o=(v,c,r)):
  iW s=if kS v (toks r) && jD (toks r) && Lib.decDigits (zeros (toks r)) == c then some (v,toks r) else none:=by
 obtain ⟨o,a⟩:=Option.isSome_iff_exists.1 d;have:=b o a;subst this;unfold iW;rw [h];simp [a]
theorem nu {B:Nat} {a w:World} (h:Below B a w) (n:Nat):Below B a (w.drewN n):=h.trans ⟨rfl,rfl,rfl,lr,fun _ _=>rfl⟩
theorem uJ {w:World} {b i A j:Nat} {v:Value} (h:A ≠ b):(w.setCell ⟨b,i,none⟩ v).cell? ⟨A,j,none⟩=w.cell? ⟨A,j,none⟩:=
 World.cell?_of_block (Below.heap_setCell _ _ _ _ h)
theorem xW (s:ByteArray):s.data.toList.length=s.size:=by simp
theorem vM {w w':World} (h:Below w.heap.size w w') (d c b a:Value):
  Below w.heap.size w ((((w'.setCell ⟨w.heap.size,0,none⟩ d).setCell ⟨w.heap.size,1,none⟩ c).setCell ⟨w.heap.size,2,none⟩ b).setCell ⟨w.heap.size,3,none⟩ a):=
 (((h.setCell lr _).setCell lr _).setCell lr _).setCell lr _
theorem LD (s:ByteArray) (w:World) (hs:s.size <= 20000) (hg:oQ w):
  Calls Tryz.prog 34 #[.string s] w fun e Y=>Below w.heap.size w Y/\Ry s.data.toList w Y e:=by
 have HG:=hide hg;obtain ⟨⟨m,hm⟩,_,ab⟩:=hg;have q:∀ o,(w.alloc o).cell? ⟨0,0,none⟩=some (.int .i64 m):=fun o=>by rw [World.cell?_alloc_lt _ _ _ (by show (0:Nat) < w.heap.size;omega)];exact hm
 clear hm;go_enter Tryz.func34,Tryz.ntmps34
 go_wp2_with fail
 refine (uV s m _ hs (q _)).mono ?_
 rintro e w1 ⟨⟨n1,rfl⟩,x,⟨D,rfl⟩ | ⟨D,hx,rfl⟩⟩
 ·have t:Hid (iW s.data.toList=none):=IJ (by rw [xW];exact D);clear D q;go_wp2;exact bodyPost_ret (v:=.tuple #[.agg (DW ⟨#[]⟩ 0 0 none 0),.bool false]) (by simp [results,Tryz.results34,go_sem]) rfl ⟨vM (nu (bR.alloc lr _) _) _ _ _ _,.inl ⟨t.out,rfl⟩⟩
 ·go_wp2_with fail
  refine (zi x m _ hx (by exact q _)).mono ?_;rintro e w2 ⟨⟨n2,rfl⟩,a,b,z,rfl,W,ha,hb,hz⟩
  cases S:(qX x.data.toList).isSome with
  | false=>
   have t:Hid (iW s.data.toList=none):=LC (by rw [xW];exact D) S;clear D q W S;go_wp2;exact bodyPost_ret (v:=.tuple #[.agg (DW ⟨#[]⟩ 0 0 none 0),.bool false]) (by simp [results,Tryz.results34,go_sem]) rfl ⟨vM (nu (bR.alloc lr _) _) _ _ _ _,.inl ⟨t.out,rfl⟩⟩
  | true=>
   have t:=hide (II (s:=s.data.toList) (by rw [xW];exact D) S W);clear D q W S;go_wp2_with fail
   refine (Jh z _ hz).mono ?_;rintro e V ⟨A,T,rfl,hT,hA,K,k,r,hn,I⟩;rw [<- hT.out] at t;clear hT;have b3:Hid (Below w.heap.size w V):=(nu (bR.alloc lr _) _).trans (r.mono (by simp));have s3:=r.size;simp at s3 hA;have kept:∀ j,V.cell? ⟨w.heap.size,j,none⟩=(#[Value.string ⟨#[]⟩,.int .i64 0,.int .i64 0,.slice none 0 0]:Array Value)[j]? := fun j=>by
    rw [r.cell (p:=⟨w.heap.size,j,none⟩) (by simp)];exact World.cell?_alloc_at _ _ _ _ rfl
   have B:∀ j,V.frozen? ⟨w.heap.size,j,none⟩=false:=fun j=>by
    rw [r.frozen (p:=⟨w.heap.size,j,none⟩) (by simp)];simp [go_sem]
   clear r;go_wp2_with fail
   refine (xe T a A _ hn I.out ha K k.out).mono ?_;rintro e f ⟨d,J⟩;have U:Hid (Below w.heap.size w f):=b3.out.trans (d.mono (by omega));have s4:=d.size;have Q:f.cell? ⟨w.heap.size,0,none⟩=some (.string ⟨#[]⟩):=(d.cell (p:=⟨w.heap.size,0,none⟩) (by show w.heap.size < _;omega)).trans (kept 0);have O:f.cell? ⟨w.heap.size,1,none⟩=some (.int .i64 0):=(d.cell (p:=⟨w.heap.size,1,none⟩) (by show w.heap.size < _;omega)).trans (kept 1);have N:f.cell? ⟨w.heap.size,2,none⟩=some (.int .i64 0):=(d.cell (p:=⟨w.heap.size,2,none⟩) (by show w.heap.size < _;omega)).trans (kept 2);have M:f.cell? ⟨w.heap.size,3,none⟩=some (.slice none 0 0):=(d.cell (p:=⟨w.heap.size,3,none⟩) (by show w.heap.size < _;omega)).trans (kept 3);have f4:∀ j,f.frozen? ⟨w.heap.size,j,none⟩=false:=fun j=>(d.frozen (p:=⟨w.heap.size,j,none⟩) (by show w.heap.size < _;omega)).trans (B j)
   have L:Hid (∀ j (h:j < T.length),f.cell? ⟨A,j,none⟩=some (.string T[j])):=fun j h=>(d.cell (p:=⟨A,j,none⟩) K).trans (k.out j h)
   have i:w.heap.size < f.heap.size:=by omega
   clear kept B d k b3
   rcases J with ⟨g,rfl⟩ | ⟨g,rfl⟩
   ·cases R:jD (bss T) with
    | false=>
     have E:Hid (iW s.data.toList=none):=by unfold Hid;rw [t.out,g,R];rfl
     clear t g R;go_wp2;exact bodyPost_ret (v:=.tuple #[.agg (DW ⟨#[]⟩ 0 0 none 0),.bool false]) (by simp [results,Tryz.results34,go_sem,Q,O,N,M,i]) rfl ⟨(vM U.out _ _ _ _).alloc (by simp;omega) _,.inl ⟨E.out,rfl⟩⟩
    | true=>
     have u:Hid (iW s.data.toList=if Lib.decDigits (zeros (bss T)) == b.data.toList then some (a.data.toList,bss T) else none):=by unfold Hid;rw [t.out,g,R];rfl
     clear t g R;have zl:=tQ (bss T);have aa:(bss T).length=T.length:=by simp [bss]
     go_wp2_with fail
     refine (FO (zeros (bss T)) (by omega) _ ((oQ.later U.out HG.out).later (bR.alloc lr _))).mono ?_;rintro e l ⟨y,rfl,hy,c⟩;have b5:Hid (Below w.heap.size w l):=U.out.trans ((bR.alloc (by omega) _).trans (c.mono (by simp;omega)));have s5:=c.size;simp at s5;have r0:l.cell? ⟨w.heap.size,0,none⟩=some (.string ⟨#[]⟩):=(c.cell (p:=⟨w.heap.size,0,none⟩) (by simp;omega)).trans ((World.cell?_alloc_lt _ _ _ (by exact i)).trans Q);have r1:l.cell? ⟨w.heap.size,1,none⟩=some (.int .i64 0):=(c.cell (p:=⟨w.heap.size,1,none⟩) (by simp;omega)).trans ((World.cell?_alloc_lt _ _ _ (by exact i)).trans O);have r2:l.cell? ⟨w.heap.size,2,none⟩=some (.int .i64 0):=(c.cell (p:=⟨w.heap.size,2,none⟩) (by simp;omega)).trans ((World.cell?_alloc_lt _ _ _ (by exact i)).trans N);have Z:l.cell? ⟨w.heap.size,3,none⟩=some (.slice none 0 0):=(c.cell (p:=⟨w.heap.size,3,none⟩) (by simp;omega)).trans ((World.cell?_alloc_lt _ _ _ (by exact i)).trans M);have f5:∀ j,l.frozen? ⟨w.heap.size,j,none⟩=false:=fun j=>(c.frozen (p:=⟨w.heap.size,j,none⟩) (by simp;omega)).trans (by simp [go_sem,i,f4])
     have t0:l.cell? ⟨f.heap.size,0,none⟩=some (.string a):=(c.cell (p:=⟨f.heap.size,0,none⟩) (by simp)).trans (World.cell?_alloc_at _ _ _ _ rfl);have t1:l.cell? ⟨f.heap.size,1,none⟩=some (.int .i64 (zeros (bss T))):=(c.cell (p:=⟨f.heap.size,1,none⟩) (by simp)).trans (World.cell?_alloc_at _ _ _ _ rfl);have t2:l.cell? ⟨f.heap.size,2,none⟩=some (.int .i64 (lits (bss T))):=(c.cell (p:=⟨f.heap.size,2,none⟩) (by simp)).trans (World.cell?_alloc_at _ _ _ _ rfl);have t3:l.cell? ⟨f.heap.size,3,none⟩=some (.slice (some ⟨A,0,none⟩) T.length T.length):=(c.cell (p:=⟨f.heap.size,3,none⟩) (by simp)).trans (World.cell?_alloc_at _ _ _ _ rfl);have X:Hid (∀ j (h:j < T.length),l.cell? ⟨A,j,none⟩=some (.string T[j])):=fun j h=>(c.cell (p:=⟨A,j,none⟩) (by simp;omega)).trans ((World.cell?_alloc_lt _ _ _ (by show A < _;omega)).trans (L.out j h))
     clear c Q O N M f4 L
     cases H:(!y.toList == b.toList) with
     | true=>
      have E:Hid (iW s.data.toList=none):=by
       unfold Hid;rw [u.out,<- hy.out];rw [ByteArray.toList_eq,ByteArray.toList_eq] at H;simp at H;simp [H]
      clear u;go_wp2;exact bodyPost_ret (v:=.tuple #[.agg (DW ⟨#[]⟩ 0 0 none 0),.bool false]) (by simp [results,Tryz.results34,go_sem,r0,r1,r2,Z]) rfl ⟨vM b5.out _ _ _ _,.inl ⟨E.out,rfl⟩⟩
     | false=>
      have E:Hid (iW s.data.toList=some (a.data.toList,bss T)):=by
       unfold Hid;rw [u.out,<- hy.out];rw [ByteArray.toList_eq,ByteArray.toList_eq] at H;simp at H;simp [H]
      clear u;go_wp2;refine bodyPost_ret (v:=.tuple #[.agg (DW a (zeros (bss T)) (lits (bss T)) (some ⟨A,0,none⟩) T.length),.bool true]) (by simp [results,Tryz.results34,go_sem,r0,r1,r2,Z]) rfl ⟨vM b5.out _ _ _ _,.inr ⟨a,T,A,E.out,rfl,by omega,by simp;omega,fun j h=>?_,hn,I.out,ha⟩⟩;rw [uJ (by omega),uJ (by omega),uJ (by omega),uJ (by omega)];exact X.out j h
   ·have E:Hid (iW s.data.toList=none):=by unfold Hid;rw [t.out,g];rfl
    clear t g;go_wp2;exact bodyPost_ret (v:=.tuple #[.agg (DW ⟨#[]⟩ 0 0 none 0),.bool false]) (by simp [results,Tryz.results34,go_sem,Q,O,N,M,i]) rfl ⟨(vM U.out _ _ _ _).alloc (by simp;omega) _,.inl ⟨E.out,rfl⟩⟩
end
section
open Go Go.RowKit Go.Proofs Go.Deep
theorem uS (t:ByteArray) (n:Int) (w:World) (b:t.size <= 18) (h:Lib.atoi t.data.toList=some n):
  Calls Tryz.prog 37 #[.string t] w fun e a=>e=.returned (.int .i64 n)/\Below w.heap.size w a:=by
 have H:=hide h;clear h;go_enter Tryz.func37,Tryz.ntmps37
 go_wp2_with fail
 refine (Tryz.strconv_Atoi t n b H.out _).mono ?_;rintro e c ⟨rfl,s,rfl⟩;go_wp2;go_ret;exact ⟨rfl,Joins.below_bytesWorld _ _ _ _ lr⟩
theorem FV:∀ (c:List ByteArray) (i:Nat),0 < zeros (bss c)->Lib.idxFromS c ⟨#[48]⟩ i=((i + ((bss c).takeWhile nz).length:Nat):Int)
 | [],i,h=>by simp [bss,zeros] at h
 | z :: r,i,h=>by
  have e:(z=(⟨#[48]⟩:ByteArray))↔zero z.data.toList=true:=by
   unfold zero;constructor
   ·intro h;subst h;rfl
   ·intro h;have f:z.data.toList=[48]:=by simpa using h
    exact ByteArray.ext (Array.toList_inj.1 f)
  have d:bss (z :: r)=z.data.toList :: bss r:=rfl;unfold Lib.idxFromS;by_cases b:zero z.data.toList=true
  ·rw [if_pos (e.2 b),d];simp [nz,b]
  ·have a:zero z.data.toList=false:=by simpa using b
   rw [if_neg (fun h=>b (e.1 h)),FV r (i + 1) (by rw [d,pK,a] at h;simpa using h),d];simp [nz,a];omega
theorem Tryz.Uu:(Tryz.prog.info? 3).map (fun i=>(i.zero,i.size,i.bytes))=some (some (.int .i64 0),1,8):=by kernel_rfl
theorem Tryz.PT:(Tryz.prog.info? 43).map (fun i=>(i.zero,i.size,i.bytes))=some (some (.slice none 0 0),1,24):=by kernel_rfl
def AY (T:List Bs):Prop:=∀ t ∈ T,zero t=false->Lib.atoi t=some (fD t)/\t.length <= 18
theorem Kr:∀ (c:Nat) (T:List Bs) (j:Nat),((cls c T).getD j []).length <= T.length
 | 0,T,j=>by simp [cls]
 | c + 1,T,0=>by
  simp only [cls,List.getD_cons_zero,List.length_map];exact (List.takeWhile_prefix _).length_le
 | c + 1,T,j + 1=>by
  simp only [cls,List.getD_cons_succ];have:=Kr c (T.drop ((T.takeWhile nz).length + 1)) j;simp only [List.length_drop] at this;omega
structure Cut (T:List ByteArray) (C:Nat) (cl:List (List Int)) (k off:Nat):Prop where
 le:off <= T.length
 zs:zeros (bss (T.drop off))=C - k
 cs:cls (C - k) (bss (T.drop off))=cl.drop k
structure UU (T:List ByteArray) (C:Nat) (cl:List (List Int)) (k off e:Nat):Prop where
 idx:((bss (T.drop off)).takeWhile nz).length=e
 lt:off + e < T.length
 len:(cl.getD k []).length=e
 lits:∀ q (h:off + q < T.length),q < e->zero (T[off + q]).data.toList=false/\fD (T[off + q]).data.toList=(cl.getD k []).getD q 0
 next:Cut T C cl (k + 1) (off + e + 1)
theorem GU (T:List ByteArray) (n:Nat):bss (T.drop n)=(bss T).drop n:=by simp [bss,List.map_drop]
theorem Cut.step {T:List ByteArray} {C:Nat} {b:List (List Int)} {k off:Nat} (h:Cut T C b k off) (s:k < C):UU T C b k off ((bss (T.drop off)).takeWhile nz).length:=by
 have m:0 < zeros (bss (T.drop off)):=by rw [h.zs];omega
 obtain ⟨R,l,j,t,r⟩:=GA m;have c:=h.cs;rw [show C - k=(C - (k + 1)) + 1 by omega,cls,j] at c;have f:b.getD k []=((bss (T.drop off)).takeWhile nz).map fD:=by
  rw [List.getD_eq_getElem?_getD];have:(b.drop k)[0]? = b[k]? := by simp
  rw [<- this,<- c];rfl
 have hd:b.drop (k + 1)=cls (C - (k + 1)) R:=by
  have:(b.drop k).drop 1=b.drop (k + 1):=by rw [List.drop_drop]
  rw [<- this,<- c];rfl
 have e:=congrArg List.length l;simp only [List.length_append,List.length_cons] at e;have p:(bss (T.drop off)).length=T.length - off:=by simp [bss]
 have i:bss (T.drop (off + ((bss (T.drop off)).takeWhile nz).length + 1))=R:=by
  rw [GU,Nat.add_assoc,<- List.drop_drop,<- GU,j]
 refine ⟨rfl,by omega,by rw [f];simp,?_,⟨by omega,by rw [i];have:=h.zs;omega,by rw [i,hd]⟩⟩;intro q o g;have a:(bss (T.drop off))[q]? = some (T[off + q]).data.toList:=by
  simp [bss,o]
 have d:((bss (T.drop off)).takeWhile nz)[q]? = some (T[off + q]).data.toList:=by
  rw [l,List.getElem?_append_left g] at a;exact a
 refine ⟨r _ (List.mem_of_getElem? d),?_⟩;rw [f,List.getD_eq_getElem?_getD,List.getElem?_map,d];rfl
theorem We {T:List ByteArray} {C:Nat} {a:List (List Int)} {k off:Nat} (h:Cut T C a k off) (b:k < C):Lib.idxOfS ((T.drop off).take (T.length - off)) ⟨#[48]⟩=((((bss (T.drop off)).takeWhile nz).length:Nat):Int):=by
 rw [List.take_of_length_le (by simp)];unfold Lib.idxOfS;rw [FV _ 0 (by rw [h.zs];omega)];simp
theorem wV (v:ByteArray) (T:List ByteArray) (A:Nat) (w:World) (hn:T.length <= 20000) (hA:A < w.heap.size)
  (hc:∀ j (h:j < T.length),w.cell? ⟨A,j,none⟩=some (.string T[j])) (hs:AY (bss T)):
  Calls Tryz.prog 38 #[.agg (DW v (zeros (bss T)) (lits (bss T)) (some ⟨A,0,none⟩) T.length)] w fun e Y=>∃ u,e=.returned u/\Below w.heap.size w Y/\
   Lists 43 3 w.heap.size Y u (cls (zeros (bss T)) (bss T)):=by
 have HC:=hide hc;clear hc;have HS:=hide hs;clear hs;have zl:=tQ (bss T);have M:(bss T).length=T.length:=by simp [bss]
 obtain ⟨C,G⟩:∃ C,C=zeros (bss T):=⟨_,rfl⟩;obtain ⟨b,f⟩:∃ b,b=cls (zeros (bss T)) (bss T):=⟨_,rfl⟩;have s:Hid (b.length=C):=by unfold Hid;rw [f,G];exact tH _ _
 have U:Hid (b=cls C (bss T)):=by unfold Hid;rw [f,G]
 have HZ:=hide G;rw [<- f,<- G];have aa:C <= 20000:=by omega
 have H:∀ j,Hid ((b.getD j []).length <= 20000):=fun j=>by
  unfold Hid;rw [f];have:=Kr (zeros (bss T)) (bss T) j;omega
 clear G f zl M;have Q:=run_make_row' (P:=Tryz.prog) 32 43 (.slice none 0 0) 24 Tryz.underlying32 Tryz.PT rfl .i64 .i64 C (by omega) (by omega);go_enter Tryz.func38,Tryz.ntmps38
 go_wp2;have M0:Hid (Mem 43 3 w.heap.size (w.heap.size + 1) b w ((w.alloc (.cells (DW v C (lits (bss T)) (some ⟨A,0,none⟩) T.length) 72)).alloc (.cells (madeCells #[.slice none 0 0] C) 43)) 0 (fun _=>0) 20001):=by
  refine ⟨?_,fun j m=>absurd m (Nat.not_lt_zero _),fun j j' _ h=>absurd h (Nat.not_lt_zero _),(bR.alloc lr _).alloc (by simp) _,by omega⟩;rw [s.out];have hr:=World.rowIs_made (w.alloc (.cells (DW v C (lits (bss T)) (some ⟨A,0,none⟩) T.length) 72)) (.slice none 0 0) C 43;simp only [World.size_alloc] at hr;exact hr.congr fun i hi=>by simp [wh]
 go_loopw [4,16] (fun t i wr=>∃ (k off:Nat) (B:Nat->Nat) (S:Option Addr),k <= C/\i=.int .i64 k/\t=.slice S (T.length - off) (T.length - off)/\(off < T.length->S=some ⟨A,off,none⟩)/\
   Hid (Cut T C b k off)/\Hid (Mem 43 3 w.heap.size (w.heap.size + 1) b w wr k B 20001)) (fun _ i _=>C - (intOf i).toNat)
 case atStart=>exact ⟨0,0,fun _=>0,some ⟨A,0,none⟩,zl,rfl,rfl,fun _=>rfl,⟨zl,HZ.out.symm,U.out.symm⟩,M0⟩
 case round=>
  clear M0 Q;obtain ⟨k,off,B,S,hk,rfl,rfl,E,hcut,a⟩:=hrel;by_cases c:k < C
  ·have N:=hide (hcut.out.step c);have I:=hide (We hcut.out c);obtain ⟨e,he⟩:∃ e,e=((bss (T.drop off)).takeWhile nz).length:=⟨_,rfl⟩;rw [<- he] at N I;clear he;have n1:=N.out.lt;have D:=E (by omega);subst D;have cC:=a.out.outer.cell (i:=k) (by rw [s.out];exact c);rw [show wh b B k k=.slice none 0 0 from by simp [wh]] at cC;have fC:=a.out.outer.frozen k;have lC:=a.out.outer.lt;clear E;go_wp2_with fail
   refine (Tryz.slices_Index_string A off (T.length - off) (T.length - off) (T.drop off) _ _ (by simp) (by omega) ?_).mono ?_
   ·intro j m;rw [a.out.below.cell (p:=⟨A,off + j,none⟩) hA];have z:off + j < T.length:=by simp at m;omega
    rw [HC.out (off + j) z];simp [List.getD_eq_getElem?_getD,z]
   rintro L l ⟨rfl,rfl⟩;rw [I.out];have O:=run_make_row' (P:=Tryz.prog) 43 3 (.int .i64 0) 8 Tryz.underlying43 Tryz.Uu rfl .i64 .i64 e (by omega) (by omega);go_wp2;have M1:Hid (Mem 43 3 w.heap.size (w.heap.size + 1) b w ((l.setCell ⟨w.heap.size + 1,k,none⟩ (.slice (some ⟨l.heap.size,0,none⟩) e e)).alloc (.cells (madeCells #[.int .i64 0] e) 3)) (k + 1) (fun j=>if j=k then l.heap.size else B j) 0):=
    a.out.push (by rw [s.out];exact c) (fun j m=>by
     have:=jU (H j);omega) e N.out.len.symm
   clear O cC fC;go_loopw [30] (fun i wr=>∃ p:Nat,p <= e/\i=.int .i64 p/\Hid (Mem 43 3 w.heap.size (w.heap.size + 1) b w wr (k + 1) (fun j=>if j=k then l.heap.size else B j) p)) (fun i _=>e - (intOf i).toNat)
   case atStart=>exact ⟨0,zl,rfl,M1⟩
   case round=>
    clear M1;obtain ⟨p,hp,rfl,o⟩:=hrel;by_cases y:p < e
    ·have cO:=o.out.outer.cell (i:=k) (by rw [s.out];exact c);rw [show wh b (fun j=>if j=k then l.heap.size else B j) (k + 1) k=.slice (some ⟨l.heap.size,0,none⟩) e e from by simp [wh,Yg];exact N.out.len] at cO;have d:=(o.out.inner k (by omega)).2;simp only [if_true] at d;have cI:=d.cell (i:=p) (by rw [N.out.len];exact y);rw [show partAt (b.getD k []) (k + 1 == k + 1) p p=.int .i64 0 from by simp [partAt]] at cI;have fI:=d.frozen p;have lI:=d.lt;have lO:=o.out.outer.lt;clear d;have r:off + p < T.length:=by omega
     have cT:wr.cell? ⟨A,off + p,none⟩=some (.string T[off + p]):=by
      rw [o.out.below.cell (p:=⟨A,off + p,none⟩) hA];exact HC.out (off + p) r
     obtain ⟨X,W⟩:=N.out.lits p r y;obtain ⟨J,s2⟩:=HS.out (T[off + p]).data.toList (by simp only [bss,List.mem_map];exact ⟨_,List.getElem_mem r,rfl⟩) X;rw [W] at J;have Z:(T[off + p]).size <= 18:=by simpa using s2
     obtain ⟨t,ht⟩:∃ t,t=T[off + p]:=⟨_,rfl⟩;rw [<- ht] at cT J Z;have S1:=hide J;clear ht J s2 X W;obtain ⟨x,R⟩:∃ x,x=(b.getD k []).getD p 0:=⟨_,rfl⟩;rw [<- R] at S1;have HX:=hide R;clear R;have ab:A < wr.heap.size:=by have:=o.out.below.size;omega
     go_wp2;go_region_with ((go_at_call 37;refine (uS t x _ Z S1.out).mono ?_;rintro e2 w2 ⟨rfl,g⟩;have d1:=(g.cell (p:=⟨l.heap.size,p,none⟩) lI).trans cI;have d2:=(g.frozen (p:=⟨l.heap.size,p,none⟩) lI).trans fI;have d3:=(g.cell (p:=⟨w.heap.size + 1,k,none⟩) lO).trans cO;have V:=hide g;clear g))
     all_goals
      go_wp2;go_roundw
      case rel=>
       refine ⟨p + 1,by omega,by go_num,?_⟩;have m2:=(o.out.later ((Below.refl _ wr).drew.trans V.out)).put x HX.out;simp only [if_true] at m2;exact m2
      case measure=>simp [intOf];omega
    ·have L:p=e:=by omega
     subst L;have nx:=hide N.out.next;have ML:Hid (Mem 43 3 w.heap.size (w.heap.size + 1) b w wr (k + 1) (fun j=>if j=k then l.heap.size else B j) 20001):=by
      have h:=o.out;refine ⟨h.outer,fun j m=>⟨(h.inner j m).1,(h.inner j m).2.congr fun q hq=>?_⟩,h.iC,h.below,h.mh⟩;by_cases e:j=k
      ·subst e;rw [N.out.len] at hq;rw [og hq,og (by omega)]
      ·have:(j + 1 == k + 1)=false:=by simp;omega
       rw [this,iV,iV]
     go_wp2;refine ⟨⟨k + 1,off + p + 1,_,(if T.length - off=p + 1 then some { block:=A,off:=off } else some { block:=A,off:=off + (p + 1) }),by omega,by go_num,?_,fun h=>?_,nx.out,ML.out⟩,by simp [intOf];omega⟩
     ·rw [show T.length - (off + p + 1)=T.length - off - (p + 1) by omega]
     ·rw [if_neg (by omega),show off + (p + 1)=off + p + 1 by omega]
  ·have L:k=C:=by omega
   subst L;have K:=a.out;rw [<- s.out] at K;have LL:=hide (K.lists (fun j m=>by have:=jU (H j);omega));have HB:=hide K.below;clear K;rw [s.out] at LL;go_wp2;go_ret;exact ⟨_,rfl,HB.out,LL.out⟩
def qh (s:Bs):Int × List (List Int) × Int:=
 if 20000 < s.length then (0,[],1)
 else match iW s with
  | none=>(0,[],2)
  | some (v,T)=>if above v [53,48] || decide (700 < lits T) then (0,[],1) else (gU v,cls (zeros T) T,0)
theorem EL {s v:Bs} {T:List Bs} (h:iW s=some (v,T)):gY v=true/\kS v T=true/\jD T=true:=by
 unfold iW at h
 cases d:(jg (s.length + 1) s).bind qX with
 | none=>rw [d] at h;simp at h
 | some o=>
  obtain ⟨f,c,r⟩:=o;rw [d] at h;simp only at h;split at h
  ·rename_i b;simp only [Option.some.injEq,Prod.mk.injEq] at h;obtain ⟨rfl,rfl⟩:=h;simp only [Bool.and_eq_true] at b;refine ⟨?_,b.1.1,b.1.2⟩;obtain ⟨x,_,a⟩:=Option.bind_eq_some_iff.1 d;unfold qX at a;split at a
   ·rename_i e;simp only [Bool.and_eq_true] at e;simp only [Option.some.injEq,Prod.mk.injEq] at a;rw [<- a.1];exact e.1.2
   ·cases a
  ·cases h
theorem Oi {v:Bs} {T:List Bs} (h:kS v T=true) (e:v.length <= 2):AY T:=by
 intro t d c;have:=List.all_eq_true.1 h t d;rw [c,Bool.false_or] at this;have a:(strip t).length <= 2:=by
  have b:=this;unfold jC at b;simp only [Bool.and_eq_true,Bool.not_eq_true'] at b;have:=lu b.2;omega
 refine ⟨G6 this (by omega),?_⟩;unfold strip at a;split at a
 ·simp at a;omega
 ·omega
theorem I7 (w:World):Calls Tryz.prog 36 #[.int .i64 50] w fun e a=>e=.returned (.string ⟨#[53,48]⟩)/\a=w:=by
 refine (Tryz.strconv_Itoa_small 50 (by omega) w).mono ?_;rintro e a ⟨rfl,rfl⟩;exact ⟨by rw [show Lib.decDigits 50=[53,48] from by decide +kernel],rfl⟩
theorem vE (v:ByteArray) (b:Bool) (w:World) (d:v.size <= 20000) (c:above v.data.toList [53,48]=b):
  Calls Tryz.prog 35 #[.string v,.string ⟨#[53,48]⟩] w fun e a=>e=.returned (.bool b)/\a=w:=by
 refine (wH v ⟨#[53,48]⟩ w (by unfold maxLen;omega) (by decide)).mono ?_;rintro e a ⟨rfl,rfl⟩;exact ⟨by rw [show above v.data.toList (⟨#[53,48]⟩:ByteArray).data.toList=b from c],rfl⟩
def UM (r:Int × List (List Int) × Int) (w w':World) (e:Ending):Prop:=
 ∃ u,e=.returned (.tuple #[.int .i64 r.1,u,.int .i64 r.2.2])/\((r.2.1=[]/\u=.slice none 0 0)\/Lists 43 3 w.heap.size w' u r.2.1)
theorem yg (s:ByteArray) (w:World) (Q:s.size <= maxLen) (H:oQ w):
  Calls Tryz.prog 18 #[.string s] w fun e G=>Below w.heap.size w G/\UM (qh s.data.toList) w G e:=by
 unfold maxLen at Q;by_cases y:20000 < s.size
 ·have E:Hid (qh s.data.toList=(0,[],1)):=by unfold Hid qh;rw [if_pos (by simpa using y)]
  go_enter Tryz.func18,Tryz.ntmps18
  go_wp2;go_ret3
  exact ⟨bR,_,by rw [E.out];rfl,.inl ⟨by rw [E.out],rfl⟩⟩
 ·have S:¬ (20000:Int) < (s.size:Int):=by omega
  have W:=hide H;clear H;go_enter Tryz.func18,Tryz.ntmps18
  go_wp2_with fail
  refine (LD s w (by omega) W.out).mono ?_
  rintro e o ⟨b,⟨f,rfl⟩ | ⟨v,T,A,f,rfl,hA,x,I,R,J,t⟩⟩
  ·have E:Hid (qh s.data.toList=(0,[],2)):=by unfold Hid qh;rw [if_neg (by simpa using y),f]
   clear f;go_wp2;go_ret3;exact ⟨b.alloc (by exact b.size) _,_,by rw [E.out];rfl,.inl ⟨by rw [E.out],rfl⟩⟩
  ·have g:Hid (qh s.data.toList=if above v.data.toList [53,48] || decide (700 < lits (bss T)) then (0,[],1) else (gU v.data.toList,cls (zeros (bss T)) (bss T),0)):=by
    unfold Hid qh;rw [if_neg (by simpa using y),f]
   obtain ⟨L,K,U⟩:=EL f;have Z:=hide L;have Y:=hide K;have X:=hide I;have HT:=hide J;have c:=hide b;have r:=b.size;clear f L K U I J b;have zl:=tQ (bss T);have ll:=Kc (bss T);have M:(bss T).length=T.length:=by simp [bss]
   cases l:above v.data.toList [53,48] with
   | true=>
    have E:Hid (qh s.data.toList=(0,[],1)):=by unfold Hid;rw [g.out,l];rfl
    have d:=hide l;clear l g;go_wp2
    go_quiet ((first | (go_at_call 36;exact Calls.quiet_of_same (I7 _)) | (go_at_call 35;exact Calls.quiet_of_same (vE v true _ t d.out))))
    go_wp2;go_ret3
    exact ⟨nu (c.out.alloc r _) _,_,by rw [E.out];rfl,.inl ⟨by rw [E.out],rfl⟩⟩
   | false=>
    have d:=hide l;clear l;by_cases q:700 < lits (bss T)
    ·have E:Hid (qh s.data.toList=(0,[],1)):=by unfold Hid;rw [g.out,d.out];simp [q]
     have hd:decide ((700:Int) < (lits (bss T):Int))=true:=by simp;omega
     clear q g;go_wp2
     go_quiet ((first | (go_at_call 36;exact Calls.quiet_of_same (I7 _)) | (go_at_call 35;exact Calls.quiet_of_same (vE v false _ t d.out))))
     go_wp2;go_ret3
     exact ⟨nu (c.out.alloc r _) _,_,by rw [E.out];rfl,.inl ⟨by rw [E.out],rfl⟩⟩
    ·have E:Hid (qh s.data.toList=(gU v.data.toList,cls (zeros (bss T)) (bss T),0)):=by unfold Hid;rw [g.out,d.out];simp [q]
     have hd:decide ((700:Int) < (lits (bss T):Int))=false:=by simp;omega
     have N:v.size <= 2:=by have:=lu d.out;simpa using this
     have AT:=hide (G5 Z.out (by simp;omega));have V:=hide (Oi Y.out (by simpa using N));clear q g;go_wp2
     go_quiet ((first | (go_at_call 36;exact Calls.quiet_of_same (I7 _)) | (go_at_call 35;exact Calls.quiet_of_same (vE v false _ t d.out))))
     go_wp2;go_region_with (first
      |(go_at_call 37;refine (uS v (gU v.data.toList) _ (by omega) AT.out).mono ?_;rintro e2 D ⟨rfl,a⟩;have d0:=a.cell (p:=⟨o.heap.size,0,none⟩) (by simp);have d1:=a.cell (p:=⟨o.heap.size,1,none⟩) (by simp);have d2:=a.cell (p:=⟨o.heap.size,2,none⟩) (by simp);have d3:=a.cell (p:=⟨o.heap.size,3,none⟩) (by simp);have A2:Hid (A < D.heap.size):=(by have:=a.size;simp at this;unfold Hid;omega);have C2:Hid (∀ j (h:j < T.length),D.cell? ⟨A,j,none⟩=some (.string T[j])):=fun j h=>(a.cell (p:=⟨A,j,none⟩) (by simp;omega)).trans ((World.cell?_alloc_lt _ _ _ (by exact x)).trans (X.out j h));have m:=hide a;clear a)
      |(go_at_call 38;refine (wV v T A _ R (by exact A2.out) (by exact C2.out) V.out).mono ?_;rintro e3 w3 ⟨u,rfl,k,i⟩;have B:=hide k;have z:=hide i;clear k i))
     all_goals
      go_wp2;go_ret3
      have O:=m.out.size;simp at O;refine ⟨?_,u,by rw [E.out];rfl,.inr ?_⟩
      ·refine Below.trans (Below.trans (nu (c.out.alloc r _) _) (Below.trans (Below.drew bR) (m.out.mono (by simp;omega)))) (B.out.mono (by omega))
      ·rw [E.out];exact z.out.mono (by omega)
end
section
open Go
def eT (c:UInt8):Bs->List Bs
 | []=>[[]]
 | x :: l=>if x == c then [] :: eT c l else match eT c l with | h :: t=>(x :: h) :: t | []=>[[x]]
theorem kU (c:UInt8) (l:Bs):∃ h t,eT c l=h :: t:=by
 cases l with
 | nil=>exact ⟨_,_,rfl⟩
 | cons x l=>
  unfold eT;split
  ·exact ⟨_,_,rfl⟩
  ·split
   ·exact ⟨_,_,rfl⟩
   ·exact ⟨_,_,rfl⟩
def ug (c:UInt8) (st:List Bs × Bs) (x:UInt8):List Bs × Bs:=if x == c then (st.1 ++ [st.2],[]) else (st.1,st.2 ++ [x])
theorem Cm (c:UInt8) (l:Bs):Cn c l=l.foldl (ug c) ([],[]):=rfl
def uM (cur:Bs):List Bs->List Bs
 | h :: t=>(cur ++ h) :: t
 | []=>[cur]
theorem sN (c:UInt8):∀ (l:Bs) (b:List Bs) (a:Bs),(l.foldl (ug c) (b,a)).1 ++ [(l.foldl (ug c) (b,a)).2]=b ++ uM a (eT c l)
 | [],b,a=>by simp [eT,uM]
 | x :: l,b,a=>by
  simp only [List.foldl_cons]
  cases h:(x == c) with
  | true=>
   simp only [ug,h,if_true];rw [sN c l];obtain ⟨f,d,e⟩:=kU c l;simp [eT,h,uM,e]
  | false=>
   simp only [ug,h,Bool.false_eq_true,if_false];rw [sN c l];obtain ⟨f,d,e⟩:=kU c l;simp [eT,h,uM,e]
theorem rG (c:UInt8) (l:Bs):splitB c l=eT c l:=by
 have:=sN c l [] [];unfold splitB;rw [Cm,this];obtain ⟨b,a,e⟩:=kU c l;simp [uM,e]
theorem qE {c:UInt8}:∀ {l h:Bs} {t:List Bs},eT c l=h :: t->t ≠ []->∃ a,l=h ++ c :: a/\eT c a=t
 | [],h,t,e,ht=>by simp [eT] at e;exact absurd e.2.symm (fun x=>ht x.symm)
 | x :: l,h,t,e,ht=>by
  unfold eT at e
  cases b:(x == c) with
  | true=>
   rw [b,if_pos rfl] at e;simp only [List.cons.injEq] at e;have g:x=c:=by simpa using b
   exact ⟨l,by rw [<- e.1,g];rfl,e.2⟩
  | false=>
   rw [b,if_neg (by simp)] at e;obtain ⟨i,f,d⟩:=kU c l;rw [d] at e;simp only [List.cons.injEq] at e;obtain ⟨a,k,j⟩:=qE (l:=l) (h:=i) (t:=f) d (by rw [e.2];exact ht);exact ⟨a,by rw [k,<- e.1];rfl,by rw [j,e.2]⟩
def upto (c:UInt8) (l:Bs):Bs:=l.takeWhile (fun x=>!(x == c))
def hasB (c:UInt8) (l:Bs):Bool:=decide ((upto c l).length < l.length)
theorem lK (c:UInt8):∀ (l:Bs),eT c l=if hasB c l then upto c l :: eT c (l.drop ((upto c l).length + 1)) else [l]
 | []=>rfl
 | x :: l=>by
  rw [show eT c (x :: l)=if x == c then [] :: eT c l else match eT c l with | h :: t=>(x :: h) :: t | []=>[[x]] from rfl]
  cases b:(x == c) with
  | true=>
   have e:upto c (x :: l)=[]:=by simp [upto,b]
   have a:hasB c (x :: l)=true:=by unfold hasB;rw [e];simp
   rw [a,e];rfl
  | false=>
   have e:upto c (x :: l)=x :: upto c l:=by simp [upto,b]
   have a:hasB c (x :: l)=hasB c l:=by unfold hasB;rw [e];simp
   rw [a,e,if_neg (by simp),lK c l];cases hasB c l <;> rfl
theorem index_one (c:UInt8):∀ (l:Bs),Lib.index l [c]=if hasB c l then ((upto c l).length:Int) else -1
 | []=>by simp [Lib.index,upto,hasB]
 | x :: r=>by
  have b:=index_one c r;by_cases h:x=c
  ·subst h;simp [Lib.index,upto,hasB,List.isPrefixOf]
  ·have f:¬ c=x:=fun e=>h e.symm
   have d:(x == c)=false:=by simpa using h
   unfold Lib.index;rw [show List.isPrefixOf [c] (x :: r)=false from by simp [List.isPrefixOf,f],b];have a:upto c (x :: r)=x :: upto c r:=by simp [upto,d]
   have g:hasB c (x :: r)=hasB c r:=by unfold hasB;rw [a];simp
   rw [g,a];cases hasB c r <;> simp
theorem Dx (c:UInt8) (l:Bs):Lib.cut l [c]=if hasB c l then (upto c l,l.drop ((upto c l).length + 1),true) else (l,[],false):=by
 unfold Lib.cut;rw [index_one];cases h:hasB c l
 ·simp
 ·have a:l.take (upto c l).length=upto c l:=by
   have:=List.takeWhile_prefix (l:=l) (p:=fun x=>!(x == c));exact (List.prefix_iff_eq_take.1 this).symm
  simp [a]
theorem qC {p:UInt8->Bool}:∀ (l:Bs),(∀ c ∈ l,p c=true)->l.takeWhile p=l
 | [],_=>rfl
 | a :: l,h=>by rw [List.takeWhile_cons,if_pos (h a (by simp)),qC l (fun c b=>h c (by simp [b]))]
theorem LU {l:Bs} (h:gY l=true):hasB 32 l=false:=by
 have hd:=(nD h).1;have:upto 32 l=l:=by
  unfold upto;refine qC l fun x a=>?_
  have:=List.all_eq_true.1 hd x a;simp [qj] at this;simp [<- UInt8.toNat_inj];omega
 unfold hasB;rw [this];simp
theorem EK (d:Bs):uq d=if Lib.hasPrefix d kD && (Lib.cut (Lib.trimPrefix d kD) [32]).2.2 && gY (Lib.cut (Lib.trimPrefix d kD) [32]).1 && gY (Lib.cut (Lib.trimPrefix d kD) [32]).2.1
  then some ((Lib.cut (Lib.trimPrefix d kD) [32]).1,(Lib.cut (Lib.trimPrefix d kD) [32]).2.1) else none:=by
 unfold uq;rw [rG]
 cases g:Lib.hasPrefix d kD with
 | true=>
  have h:Lib.trimPrefix d kD=d.drop 6:=by unfold Lib.trimPrefix;rw [g];rfl
  obtain ⟨n,j⟩:=List.isPrefixOf_iff_prefix.1 (show kD.isPrefixOf d=true from g);have hd:d.drop 6=n:=by rw [<- j];rfl
  rw [h,hd];have m:eT 32 d=[112] :: [99,110,102] :: eT 32 n:=by
   obtain ⟨r,l,e⟩:=kU 32 n;rw [<- j];simp [eT,e,kD]
  rw [m,Dx,lK]
  cases y:hasB 32 n with
  | true=>
   simp only [if_true];rw [lK]
   cases f:hasB 32 (n.drop ((upto 32 n).length + 1)) with
   | true=>
    simp only [if_true];obtain ⟨r,l,e⟩:=kU 32 ((n.drop ((upto 32 n).length + 1)).drop ((upto 32 (n.drop ((upto 32 n).length + 1))).length + 1));rw [e];have:gY (n.drop ((upto 32 n).length + 1))=false:=by
     rw [Bool.eq_false_iff];intro o;rw [LU o] at f;cases f
    simp [this]
   | false=>
    simp
  | false=>
   simp
 | false=>
  simp only [Bool.false_and];split
  ·rename_i a b v c i;split
   ·rename_i k;exfalso;simp only [Bool.and_eq_true,beq_iff_eq] at k;obtain ⟨⟨⟨q,p⟩,_⟩,_⟩:=k;subst q p;obtain ⟨x,u,t⟩:=qE i (by simp);obtain ⟨w,s,z⟩:=qE t (by simp);rw [u,s] at g;simp [Lib.hasPrefix,kD,List.isPrefixOf] at g
   ·rfl
  ·rfl
theorem Tt (r:Bs):uq (99 :: r)=none:=by
 rw [EK];have:Lib.hasPrefix (99 :: r) kD=false:=by simp [Lib.hasPrefix,kD,List.isPrefixOf]
 rw [this];rfl
theorem FY:∀ (f:Nat) (l:Bs),l.length < f->(jg f l).bind qX=pE f l
 | 0,l,h=>by omega
 | f + 1,l,h=>by
  unfold jg pE;rw [F5]
  cases d:(l.head? == some 99) with
  | true=>
   have c:l.head? = some 99:=by simpa using d
   simp only [if_true]
   cases e:ended l with
   | false=>rfl
   | true=>
    simp only [Bool.true_and,if_true]
    cases a:comment (line l) with
    | true=>
     simp only [if_true];exact FY f _ (by have:=EA e;omega)
    | false=>
     obtain ⟨r,b⟩:=VX c;rw [b,Tt];rfl
  | false=>
   simp only [Bool.false_eq_true,if_false,Option.bind_some];unfold qX
   cases e:ended l with
   | false=>rfl
   | true=>
    simp only [Bool.true_and,if_true];have a:comment (line l)=false:=by
     rw [Bool.eq_false_iff];intro a;have:∃ r,line l=99 :: r:=by
      unfold comment at a;simp only [Bool.or_eq_true,beq_iff_eq] at a
      rcases a with a | a
      ·exact ⟨[],a⟩
      ·obtain ⟨t,g⟩:=List.isPrefixOf_iff_prefix.1 (show List.isPrefixOf [99,32] (line l)=true from a);exact ⟨32 :: t,by rw [<- g];rfl⟩
     obtain ⟨r,b⟩:=this;have:=Mq b;rw [this] at d;simp at d
    rw [a,EK];simp only [Bool.false_eq_true,if_false];split <;> rfl
theorem Cz (s:Bs):qh s=lM s:=by
 unfold qh lM iW;by_cases h:20000 < s.length
 ·rw [if_pos h,if_pos h]
 ·rw [if_neg h,if_neg h,FY (s.length + 1) s (by omega)]
  cases pE (s.length + 1) s with
  | none=>rfl
  | some o=>
   obtain ⟨v,c,r⟩:=o;simp only;unfold body;rw [OX,vJ,Ju _ (toks r) rfl];show _=_
   rw [show (List.isEmpty (toks r) || (toks r).getLast? == some [48])=jD (toks r) from rfl]
   cases kS v (toks r) with
   | false=>rfl
   | true=>
    generalize jD (toks r)=a;generalize (Lib.decDigits (zeros (toks r)) == c)=b2;cases a <;> cases b2 <;> rfl
theorem yM (v:Bs):∀ (T:List Bs) (z:Bs),mE v (T ++ [z])=if zero z && T.all (jC v) then some (T.map fD) else none
 | [],z=>by
  show mE v [z]=_
  unfold mE;cases zero z <;> rfl
 | t :: r,z=>by
  have c:=yM v r z;obtain ⟨a,b,e⟩:∃ a b,r ++ [z]=a :: b:=by cases r <;> exact ⟨_,_,rfl⟩
  have:mE v ((t :: r) ++ [z])=if jC v t then (mE v (r ++ [z])).map (fD t :: ·) else none:=by
   rw [List.cons_append,e];rfl
  rw [this,c];cases f:jC v t <;> cases g:zero z <;> cases d:r.all (jC v) <;> simp [f,d]
def qi (v:Bs):Nat->Bs->Option Cl
 | 0,_=>none
 | f + 1,s=>if s == [48] then some [] else if hasB 32 s && jC v (upto 32 s) then (qi v f (s.drop ((upto 32 s).length + 1))).map (fD (upto 32 s) :: ·) else none
theorem F6 {c:UInt8} {s:Bs} (h:hasB c s=true):(s.drop ((upto c s).length + 1)).length < s.length:=by
 unfold hasB at h;simp at h;simp;omega
theorem yL (v:Bs):∀ (f:Nat) (s:Bs),s.length < f->qi v f s=mE v (eT 32 s)
 | 0,s,h=>by omega
 | f + 1,s,h=>by
  unfold qi;rw [lK]
  cases c:hasB 32 s with
  | true=>
   have g:=yL v f (s.drop ((upto 32 s).length + 1)) (by have:=F6 c;omega);have d:(s == [48])=false:=by
    rw [beq_eq_false_iff_ne];intro e;rw [e] at c;revert c;decide
   rw [d,g];obtain ⟨a,b,e⟩:=kU 32 (s.drop ((upto 32 s).length + 1));simp only [Bool.false_eq_true,if_false,if_true,Bool.true_and];rw [e];rfl
  | false=>
   simp only [Bool.false_and,Bool.false_eq_true,if_false];unfold mE zero;rfl
def PE (v:Bs) (l:Bs):Option (Bool × Cl):=
 if Lib.hasPrefix l [100,32] then (qi v (l.length + 1) (l.drop 2)).map fun c=>(true,c) else (qi v (l.length + 1) l).map fun c=>(false,c)
theorem OJ (l:Bs):Lib.hasPrefix l [100,32]=(hasB 32 l && (upto 32 l == [100])):=by
 unfold Lib.hasPrefix
 match l with
 | []=>rfl
 | [a]=>
  by_cases d:a=32
  ·subst d;decide
  ·have e:upto 32 [a]=[a]:=by simp [upto,d]
   have:hasB 32 [a]=false:=by unfold hasB;rw [e];simp
   rw [this];simp [List.isPrefixOf]
 | a :: b :: r=>
  by_cases d:a=32
  ·subst d;have e:upto 32 (32 :: b :: r)=[]:=by simp [upto]
   rw [e];simp [List.isPrefixOf]
  ·by_cases f:b=32
   ·subst f;have e:upto 32 (a :: 32 :: r)=[a]:=by simp [upto,d]
    have i:hasB 32 (a :: 32 :: r)=true:=by unfold hasB;rw [e];simp
    rw [e,i];by_cases c:a=100
    ·subst c;simp [List.isPrefixOf]
    ·have:¬ (100:UInt8)=a:=fun e=>c e.symm
     have h:((100:UInt8) == a)=false:=by simpa using this
     have g:(a == (100:UInt8))=false:=by simpa using c
     simp [List.isPrefixOf,h,g]
   ·have e:upto 32 (a :: b :: r)=a :: b :: upto 32 r:=by simp [upto,d,f]
    have:¬ (32:UInt8)=b:=fun e=>f e.symm
    rw [e];simp [List.isPrefixOf,this]
theorem PD (v l:Bs):PE v l=oq v l:=by
 unfold PE oq;rw [rG,OJ,yL v _ l (by omega),lK 32 l]
 cases b:hasB 32 l with
 | true=>
  simp only [Bool.true_and,if_true,List.head?_cons,List.tail_cons,Option.some.injEq];by_cases a:upto 32 l=[100]
  ·rw [if_pos (by simpa using a),if_pos a,yL v _ (l.drop 2) (by simp;omega),a];rfl
  ·rw [if_neg (by simpa using a),if_neg a]
 | false=>
  simp only [Bool.false_and,Bool.false_eq_true,if_false,List.head?_cons,List.tail_cons,Option.some.injEq];by_cases a:l=[100]
  ·rw [if_pos a];subst a;rfl
  ·rw [if_neg a]
theorem mZ {c:UInt8} (h:qj c=true):∃ d,d < 10/\c=UInt8.ofNat (48 + d):=by
 unfold qj at h;simp only [Bool.and_eq_true,decide_eq_true_eq] at h;refine ⟨c.toNat - 48,by omega,?_⟩;rw [<- UInt8.toNat_inj];simp;omega
theorem Ty:∀ V,V < 51->∀ d,d < 10->([UInt8.ofNat (48 + d)] == [48])=false->above [UInt8.ofNat (48 + d)] (Lib.decDigits V)=false->1 <= gU [UInt8.ofNat (48 + d)]/\gU [UInt8.ofNat (48 + d)] <= 50:=by decide +kernel
def NQ (V d e:Nat):Bool:=!gY [UInt8.ofNat (48 + d),UInt8.ofNat (48 + e)] || above [UInt8.ofNat (48 + d),UInt8.ofNat (48 + e)] (Lib.decDigits V) || (decide (1 <= gU [UInt8.ofNat (48 + d),UInt8.ofNat (48 + e)]) && decide (gU [UInt8.ofNat (48 + d),UInt8.ofNat (48 + e)] <= 50))
theorem Sw:((List.range 51).all fun V=>(List.range 10).all fun d=>(List.range 10).all fun e=>NQ V d e)=true:=by decide +kernel
theorem Sv (V:Nat) (b:V < 51) (d:Nat) (hd:d < 10) (e:Nat) (a:e < 10) (f:gY [UInt8.ofNat (48 + d),UInt8.ofNat (48 + e)]=true) (c:above [UInt8.ofNat (48 + d),UInt8.ofNat (48 + e)] (Lib.decDigits V)=false):1 <= gU [UInt8.ofNat (48 + d),UInt8.ofNat (48 + e)]/\gU [UInt8.ofNat (48 + d),UInt8.ofNat (48 + e)] <= 50:=by
 have:=List.all_eq_true.1 (List.all_eq_true.1 (List.all_eq_true.1 Sw V (List.mem_range.2 b)) d (List.mem_range.2 hd)) e (List.mem_range.2 a);unfold NQ at this;rw [f,c] at this;simpa using this
theorem Qp:∀ V,V < 51->(Lib.decDigits V).length <= 2:=by decide +kernel
theorem Bw {V:Nat} (q:V <= 50) {t:Bs} (h:jC (Lib.decDigits V) t=true):1 <= gU (strip t)/\gU (strip t) <= 50/\(strip t).length <= 2:=by
 unfold jC at h;simp only [Bool.and_eq_true,Bool.not_eq_true'] at h;obtain ⟨⟨o,p⟩,m⟩:=h;have k:=Nat.le_trans (lu m) (Qp V (by omega));obtain ⟨hd,j⟩:=nD o;generalize strip t=x at *
 match x,k with
 | [],_=>exact absurd rfl j
 | [a],_=>
  obtain ⟨d,f,rfl⟩:=mZ (by simpa using hd);obtain ⟨i,g⟩:=Ty V (by omega) d f p m;exact ⟨i,g,by simp⟩
 | [a,b],_=>
  simp only [List.all_cons,List.all_nil,Bool.and_true,Bool.and_eq_true] at hd;obtain ⟨d,f,rfl⟩:=mZ hd.1;obtain ⟨e,l,rfl⟩:=mZ hd.2;obtain ⟨i,g⟩:=Sv V (by omega) d f e l o m;exact ⟨i,g,by simp⟩
 | a :: b :: c :: r,k=>simp at k
theorem Py {V:Nat} (a:V <= 50) {t:Bs} (h:jC (Lib.decDigits V) t=true):jG (fD t):=by
 obtain ⟨c,b,_⟩:=Bw a h;unfold fD jG;split
 ·right;omega
 ·left;omega
theorem Di {V:Nat} (f:V <= 50):∀ {T:List Bs} {c:Cl},mE (Lib.decDigits V) T=some c->∀ l ∈ c,jG l
 | [],c,h=>by simp [mE] at h
 | [t],c,h=>by
  unfold mE at h;split at h
  ·cases h;intro l e;simp at e
  ·cases h
 | t :: b :: r,c,h=>by
  have:mE (Lib.decDigits V) (t :: b :: r)=if jC (Lib.decDigits V) t then (mE (Lib.decDigits V) (b :: r)).map (fD t :: ·) else none:=rfl
  rw [this] at h;split at h
  ·rename_i e;obtain ⟨d,hd,rfl⟩:=Option.map_eq_some_iff.1 h;intro l a
   rcases List.mem_cons.1 a with rfl | a
   ·exact Py f e
   ·exact Di f hd l a
  ·cases h
theorem TZ {V:Nat} (a:V <= 50) {l:Bs} {g:Bool} {c:Cl} (h:oq (Lib.decDigits V) l=some (g,c)):∀ l ∈ c,jG l:=by
 unfold oq at h;split at h
 ·obtain ⟨d,hd,e⟩:=Option.map_eq_some_iff.1 h;cases e;exact Di a hd
 ·obtain ⟨d,hd,e⟩:=Option.map_eq_some_iff.1 h;cases e;exact Di a hd
end
end Rd
end Go.Proofs.YtceahffmenbibaaGreatDoor
namespace Go.Proofs.YtceahffmenbibaaGreatDoor
namespace So
section
open Rd
section
theorem Be:∀ (n:Nat) (l:List Bool),l.length < n->gM n l % 2=0
 | 0,l,h=>by omega
 | n + 1,[],_=>rfl
 | n + 1,b :: r,h=>by
  have a:r.length < n:=by simpa using h
  have c:=Be n r a;obtain ⟨m,rfl⟩:∃ m,n=m + 1:=⟨n - 1,by omega⟩;simp only [gM];cases b
  ·simp;omega
  ·simp only [if_true];rw [Nat.pow_succ];omega
theorem EH {n len k:Nat} {ch:List Nat} (h:Hu ch len) {d:Nat} (hd:d < ch.length) (a:len <= n) (b:ch[d] + 1 < n) (c:2 * k <= gM n (bits len ch)):2 * (k + 1) <= gM n (bits (ch[d] + 1) (ch.take d)):=by
 have f:=IE (n:=n) h hd a;have e:=Be n (bits (ch[d] + 1) (ch.take d)) (by rw [zC];exact b);omega
theorem EJ {n len k:Nat} {ch:List Nat} (h:∀ p ∈ ch,p < len) (a:len < n) (b:k <= gM n (bits len ch)):k <= gM n (bits (len + 1) ch):=by
 rw [wL h];have:=Lr n (bits len ch) (by rw [zC];exact a);omega
theorem EI {n len k:Nat} {ch:List Nat} (h:∀ p ∈ ch,p < len) (a:k <= gM n (bits len ch)):k <= gM n (bits (len + 1) (ch ++ [len])):=by
 rw [GV h,sP];exact a
variable {n:Nat} {tr ch:List Nat} {lev:Nat->Nat} {C:iQ} {P:Nat}
theorem Qw (z:qA C tr lev P) (s:vO C tr lev) (f:jh n tr ch lev) (D:wQ n C) {a:Nat} {c:xw} (d:C a=some c) (h:c.kind ≠ 2) (k:∀ y ∈ c.lits,op y ∈ tr):P + 2 <= tr.length:=by
 match e:c.lits with
 | []=>
  obtain ⟨x,b,_⟩:=s a c d h (by rw [e];simp);rw [e] at b;cases b
 | [y]=>
  obtain ⟨x,b,l,_⟩:=s a c d h (by rw [e];simp);rw [e] at b;cases b
  exact (f.nE l (k y (by rw [e];simp))).elim
 | p :: q :: r=>
  obtain ⟨b,l⟩:=z a c p q r d h e;have u:=k p (by rw [e];simp);have t:=k q (by rw [e];simp);obtain ⟨i,B,v⟩:=List.mem_iff_getElem.1 u;obtain ⟨j,A,m⟩:=List.mem_iff_getElem.1 t;have F:P <= i:=by
   rcases Nat.lt_or_ge i P with g | g
   ·exact (f.nE (b i B g v).1 t).elim
   ·exact g
  have E:P <= j:=by
   rcases Nat.lt_or_ge j P with g | g
   ·exact (f.nE (l j A g m).1 u).elim
   ·exact g
  have o:=D.vars a c d;rw [e] at o;have w:i ≠ j:=fun g=>by
   subst g;rw [v] at m;have:=OZ m;subst this;simp at o
  omega
theorem Lt {m:Nat} {AB:List Nat} {vC:Nat->Nat} (d:jh n tr ch lev) (b:jh n AB ch vC) (h:tr.length <= AB.length) (f:m <= gM n (bits tr.length ch)):m <= gM n (bits AB.length ch):=by
 have a:∀ j,tr.length + j <= n->m <= gM n (bits (tr.length + j) ch):=by
  intro j
  induction j with
  | zero=>intro _;exact f
  | succ j ih=>
   intro i;have c:∀ p ∈ ch,p < tr.length + j:=fun p e=>by have:=d.iC.2 p e;omega
   have g:tr.length + j < n:=by omega
   exact EJ c g (ih (by omega))
 have c:=b.len;have:=a (AB.length - tr.length) (by omega)
 rwa [show tr.length + (AB.length - tr.length)=AB.length by omega] at this
def gQ (g:Bool) (c:List Nat):Bs:=(if g then [100,32] else []) ++ c.flatMap (fun x=>Lib.itoa (wr x) ++ [32]) ++ [48]
def rC (c:UInt8) (l:Bs):Prop:=∀ x ∈ l,(x == c)=false
theorem vW {c:UInt8}:∀ {a:Bs},rC c a->eT c a=[a]
 | [],_=>rfl
 | x :: a,h=>by
  unfold eT;rw [h x (by simp),vW (a:=a) (fun y b=>h y (by simp [b]))];rfl
theorem mQ {c:UInt8}:∀ {a:Bs} (r:Bs),rC c a->eT c (a ++ c :: r)=a :: eT c r
 | [],r,_=>by
  show eT c (c :: r)=_
  rw [show eT c (c :: r)=if c == c then [] :: eT c r else match eT c r with | h :: t=>(c :: h) :: t | []=>[[c]] from rfl,if_pos (by simp)]
 | x :: a,r,h=>by
  show eT c (x :: (a ++ c :: r))=_
  rw [show eT c (x :: (a ++ c :: r))=if x == c then [] :: eT c (a ++ c :: r) else match eT c (a ++ c :: r) with | h :: t=>(x :: h) :: t | []=>[[x]] from rfl,h x (by simp),mQ (a:=a) r (fun y b=>h y (by simp [b]))];rfl
theorem PS:∀ V,V < 51->∀ k,k < V->jC (Lib.decDigits V) (Lib.decDigits (k + 1))=true/\jC (Lib.decDigits V) (45 :: Lib.decDigits (k + 1))=true:=by
 decide +kernel
theorem PR:∀ k,k < 50->fD (Lib.decDigits (k + 1))=(k:Int) + 1/\fD (45 :: Lib.decDigits (k + 1))=-((k:Int) + 1)/\(Lib.decDigits (k + 1)).all (fun b=>!(b == 32) && !(b == 10) && !(b == 45) && !(b == 100) && !(b == 9))=true/\(Lib.decDigits (k + 1)).length <= 2/\zero (Lib.decDigits (k + 1))=false:=by
 decide +kernel
theorem Un (x:Nat):Lib.itoa (wr x)=if x % 2=0 then Lib.decDigits (x / 2 + 1) else 45 :: Lib.decDigits (x / 2 + 1):=by
 unfold wr Lib.itoa;by_cases h:x % 2=0
 ·rw [if_pos h,if_pos h,if_neg (by omega)]
  congr 1
 ·rw [if_neg h,if_neg h,if_pos (by omega)]
  congr 2
theorem mg {V x:Nat} (p:V <= 50) (o:x < 2 * V):jC (Lib.decDigits V) (Lib.itoa (wr x))=true/\fD (Lib.itoa (wr x))=wr x/\rC 32 (Lib.itoa (wr x))/\rC 10 (Lib.itoa (wr x))/\rC 100 (Lib.itoa (wr x))/\rC 9 (Lib.itoa (wr x))/\(Lib.itoa (wr x)).length <= 3/\zero (Lib.itoa (wr x))=false/\Lib.itoa (wr x) ≠ []:=by
 have l:x / 2 < V:=by omega
 obtain ⟨d,k⟩:=PS V (by omega) (x / 2) l;obtain ⟨j,i,g,m,f⟩:=PR (x / 2) (by omega);have c:=List.all_eq_true.1 g;rw [Un];by_cases h:x % 2=0
 ·rw [if_pos h];refine ⟨d,by rw [j];unfold wr;rw [if_pos h],fun b a=>?_,fun b a=>?_,fun b a=>?_,fun b a=>?_,by omega,f,fun e=>by rw [e] at d;simp [jC,strip,gY] at d⟩
  all_goals
   have:=c b a;simp at this ⊢;simp [this]
 ·rw [if_neg h];refine ⟨k,by rw [i];unfold wr;rw [if_neg h],fun b a=>?_,fun b a=>?_,fun b a=>?_,fun b a=>?_,by simp;omega,by simp [zero],by simp⟩
  all_goals
   rcases List.mem_cons.1 a with rfl | a
   ·decide
   ·have:=c b a;simp at this ⊢;simp [this]
theorem sM {V:Nat} (a:V <= 50):∀ {c:List Nat},(∀ x ∈ c,x < 2 * V)->eT 32 (c.flatMap (fun x=>Lib.itoa (wr x) ++ [32]) ++ [48])=c.map (fun x=>Lib.itoa (wr x)) ++ [[48]]
 | [],_=>by decide
 | x :: c,h=>by
  rw [List.flatMap_cons,List.append_assoc,List.append_assoc,List.singleton_append,mQ _ (mg a (h x (by simp))).2.2.1,sM a (fun y b=>h y (by simp [b]))];rfl
theorem Bv {V:Nat} (b:V <= 50) {c:List Nat} (h:∀ x ∈ c,x < 2 * V):mE (Lib.decDigits V) (c.map (fun x=>Lib.itoa (wr x)) ++ [[48]])=some (c.map wr):=by
 rw [yM,if_pos]
 ·rw [List.map_map]
  congr 1
  exact List.map_congr_left fun x a=>(mg b (h x a)).2.1
 ·rw [show zero [48]=true from rfl,Bool.true_and,List.all_map,List.all_eq_true];exact fun x a=>(mg b (h x a)).1
theorem Kh {V:Nat} (a:V <= 50) (g:Bool) {c:List Nat} (h:∀ x ∈ c,x < 2 * V):oq (Lib.decDigits V) (gQ g c)=some (g,c.map wr):=by
 unfold oq gQ;rw [rG]
 cases g with
 | true=>
  rw [if_pos rfl,List.append_assoc,show ([100,32]:Bs) ++ (c.flatMap (fun x=>Lib.itoa (wr x) ++ [32]) ++ [48])=[100] ++ 32 :: (c.flatMap (fun x=>Lib.itoa (wr x) ++ [32]) ++ [48]) from rfl,mQ _ (by intro x b;simp at b;subst b;decide),sM a h];rw [if_pos (by rw [List.head?_cons]),List.tail_cons,Bv a h];rfl
 | false=>
  have d:((if false=true then [100,32] else []) ++ c.flatMap (fun x=>Lib.itoa (wr x) ++ [32]) ++ [48]:Bs)=c.flatMap (fun x=>Lib.itoa (wr x) ++ [32]) ++ [48]:=rfl;rw [d,sM a h,if_neg,Bv a h]
  ·rfl
  cases c with
  | nil=>decide
  | cons x c=>
   rw [List.map_cons,List.cons_append,List.head?_cons];intro e;have:=(mg a (h x (by simp))).2.2.2.2.1;rw [Option.some.inj e] at this;have:=this 100 (by simp);simp at this
theorem vB {V:Nat} (e:V <= 50) (g:Bool) {c:List Nat} (h:∀ x ∈ c,x < 2 * V):rC 10 (gQ g c):=by
 unfold gQ;intro b a
 rcases List.mem_append.1 a with a | a
 ·rcases List.mem_append.1 a with a | a
  ·cases g
   ·simp at a
   ·simp at a;rcases a with rfl | rfl <;> decide
  ·obtain ⟨x,d,a⟩:=List.mem_flatMap.1 a
   rcases List.mem_append.1 a with a | a
   ·exact (mg e (h x d)).2.2.2.1 b a
   ·simp at a;subst a;decide
 ·simp at a;subst a;decide
def dK (ls:List (Bool × List Nat)):Bs:=ls.flatMap fun l=>gQ l.1 l.2 ++ [10]
theorem oo (a:List (Bool × List Nat)) (g:Bool) (c:List Nat):dK (a ++ [(g,c)])=dK a ++ (gQ g c ++ [10]):=by
 unfold dK;rw [List.flatMap_append];simp
end
end
end So
end Go.Proofs.YtceahffmenbibaaGreatDoor
namespace Go.Proofs.YtceahffmenbibaaGreatDoor
namespace Rd
section
open Go Go.RowKit Go.Deep
def U4 (d:Nat):Bool:=(Lib.decDigits d == [UInt8.ofNat (48 + d)]) && decide (gU [UInt8.ofNat (48 + d)]=(d:Int))
theorem LP:((List.range 10).all U4)=true:=by decide +kernel
def U0 (d e:Nat):Bool:=!gY [UInt8.ofNat (48 + d),UInt8.ofNat (48 + e)] || above [UInt8.ofNat (48 + d),UInt8.ofNat (48 + e)] [53,48] || ((Lib.decDigits (10 * d + e) == [UInt8.ofNat (48 + d),UInt8.ofNat (48 + e)]) && decide (gU [UInt8.ofNat (48 + d),UInt8.ofNat (48 + e)]=((10 * d + e:Nat):Int)) && decide (10 * d + e <= 50))
theorem KO:((List.range 10).all fun d=>(List.range 10).all fun e=>U0 d e)=true:=by decide +kernel
theorem Vq {v:Bs} (h:gY v=true) (k:above v [53,48]=false):∃ V:Nat,V <= 50/\v=Lib.decDigits V/\gU v=(V:Int):=by
 have i:=lu k;obtain ⟨hd,g⟩:=nD h
 match v,i with
 | [],_=>exact absurd rfl g
 | [a],_=>
  obtain ⟨d,f,rfl⟩:=mZ (by simpa using hd);have:=List.all_eq_true.1 LP d (List.mem_range.2 f);unfold U4 at this;simp only [Bool.and_eq_true,beq_iff_eq,decide_eq_true_eq] at this;exact ⟨d,by omega,this.1.symm,this.2⟩
 | [a,b],_=>
  simp only [List.all_cons,List.all_nil,Bool.and_true,Bool.and_eq_true] at hd;obtain ⟨d,f,rfl⟩:=mZ hd.1;obtain ⟨e,j,rfl⟩:=mZ hd.2;have:=List.all_eq_true.1 (List.all_eq_true.1 KO d (List.mem_range.2 f)) e (List.mem_range.2 j);unfold U0 at this;rw [h,k] at this;simp only [Bool.not_true,Bool.false_or,Bool.and_eq_true,beq_iff_eq,decide_eq_true_eq] at this;exact ⟨10 * d + e,this.2,this.1.1.symm,this.1.2⟩
 | a :: b :: c :: r,i=>simp at i
theorem Am (v:Bs) (T:List Bs) (h:kS v T=true):∀ (d:List (List Int) × List Int),(∀ c ∈ d.1,∀ l ∈ c,∃ t,jC v t=true/\l=fD t)->(∀ l ∈ d.2,∃ t,jC v t=true/\l=fD t)->
  (∀ c ∈ (T.foldl fo d).1,∀ l ∈ c,∃ t,jC v t=true/\l=fD t)/\(∀ l ∈ (T.foldl fo d).2,∃ t,jC v t=true/\l=fD t):=by
 induction T with
 | nil=>intro d f e;exact ⟨f,e⟩
 | cons t r ih=>
  intro d f e;simp only [kS,List.all_cons,Bool.and_eq_true] at h;refine ih h.2 (fo d t) ?_ ?_
  ·intro c b;unfold fo at b;split at b
   ·rcases List.mem_append.1 b with b | b
    ·exact f c b
    ·simp at b;rw [b];exact e
   ·exact f c b
  ·intro l a;unfold fo at a;split at a
   ·simp at a
   ·rename_i g
    rcases List.mem_append.1 a with a | a
    ·exact e l a
    ·simp at a;have:=h.1;simp only [Bool.not_eq_true] at g;rw [g,Bool.false_or] at this;exact ⟨t,this,a⟩
theorem Ua (T:List Bs):∀ (b:List (List Int) × List Int) (n:Nat),(∀ c ∈ b.1,c.length <= n)->b.2.length <= n->(∀ c ∈ (T.foldl fo b).1,c.length <= n + T.length)/\(T.foldl fo b).2.length <= n + T.length:=by
 induction T with
 | nil=>intro b n e f;exact ⟨e,f⟩
 | cons t r ih=>
  intro b n e f;have d:(∀ c ∈ (fo b t).1,c.length <= n + 1)/\(fo b t).2.length <= n + 1:=by
   unfold fo;split
   ·refine ⟨fun c a=>?_,by simp⟩
    rcases List.mem_append.1 a with a | a
    ·have:=e c a;omega
    ·simp at a;rw [a];omega
   ·exact ⟨fun c a=>by have:=e c a;omega,by simp;omega⟩
  have:=ih (fo b t) (n + 1) d.1 d.2;simp only [List.foldl_cons,List.length_cons];exact ⟨fun c a=>by have:=this.1 c a;omega,by have:=this.2;omega⟩
theorem AO:∀ (l w:Bs),(iB w l).length <= l.length + 1
 | [],w=>by unfold iB;split <;> simp
 | c :: r,w=>by
  unfold iB;have:=AO r;split
  ·split
   ·have:=this [];simp;omega
   ·have:=this [];simp;omega
  ·have:=this (w ++ [c]);simp;omega
theorem BL:∀ (f:Nat) {l v c r:Bs},pE f l=some (v,c,r)->r.length <= l.length
 | 0,l,v,c,r,h=>by simp [pE] at h
 | f + 1,l,v,c,r,h=>by
  unfold pE at h;split at h
  ·split at h
   ·have:=BL f h;have b:(rest l).length <= l.length:=by unfold rest;simp
    omega
   ·obtain ⟨x,a,e⟩:=Option.map_eq_some_iff.1 h;simp only [Prod.mk.injEq] at e;rw [<- e.2.2];unfold rest;simp
  ·cases h
theorem Oz {s:Bs} (h:(lM s).2.2=0):∃ V:Nat,V <= 50/\(lM s).1=(V:Int)/\(∀ c ∈ (lM s).2.1,∀ l ∈ c,jG l)/\(lM s).2.1.length <= 20001/\∀ c ∈ (lM s).2.1,c.length <= 20001:=by
 unfold lM at h ⊢;split at h
 ·simp at h
 ·rename_i k;rw [if_neg k];split at h
  ·simp at h
  ·rename_i v c r f;have j:=BK _ f;have w:=BL _ f;unfold body at h ⊢;split at h
   ·rename_i e;rw [if_pos e];split at h
    ·rename_i o;rw [if_pos o];split at h
     ·simp at h
     ·rename_i a;rw [if_neg a];simp only [Bool.or_eq_true,not_or,Bool.not_eq_true] at a;obtain ⟨V,g,q,p⟩:=Vq j a.1;have i:(toks r).length <= 20001:=by have:=AO r [];unfold toks;omega
      have u:=(zw (toks r)).1;refine ⟨V,g,p,?_,Nat.le_trans u i,?_⟩
      ·intro d hd l m;obtain ⟨t,b,rfl⟩:=(Am v (toks r) e ([],[]) (by simp) (by simp)).1 d hd l m;rw [q] at b;exact Py g b
      ·intro d hd;have:=(Ua (toks r) ([],[]) 0 (by simp) (by simp)).1 d hd;omega
    ·simp at h
   ·simp at h
end
def sG:Nat->Nat->Nat
 | 0,_=>0
 | f + 1,x=>x % 2 + sG f (x / 2)
def pc (x:Nat):Nat:=sG 64 x
theorem jL:∀ (f x:Nat),x < 2 ^ f->sG f x=0->x=0
 | 0,x,h,_=>by simp at h;omega
 | f + 1,x,h,h0=>by
  unfold sG at h0;have:=jL f (x / 2) (by rw [Nat.pow_succ] at h;omega) (by omega);omega
theorem yj (f:Nat):sG f 0=0:=by
 induction f with
 | zero=>rfl
 | succ f ih=>unfold sG;simpa using ih
theorem oJ (x:Nat):x.testBit 0=decide (x % 2=1):=by simp [Nat.testBit_zero]
theorem CJ:∀ (f x:Nat),x < 2 ^ f->sG f x=1->∀ i j,x.testBit i=true->x.testBit j=true->i=j
 | 0,x,h,h0=>by simp [sG] at h0
 | f + 1,x,h,h0=>by
  unfold sG at h0;have c:x / 2 < 2 ^ f:=by rw [Nat.pow_succ] at h;omega
  intro i j b a
  rcases Nat.mod_two_eq_zero_or_one x with e | e
  ·have d:=CJ f (x / 2) c (by omega)
   cases i with
   | zero=>rw [oJ] at b;simp at b;omega
   | succ i=>
    cases j with
    | zero=>rw [oJ] at a;simp at a;omega
    | succ j=>rw [Nat.testBit_succ] at b a;rw [d i j b a]
  ·have z:=jL f (x / 2) c (by omega)
   cases i with
   | zero=>
    cases j with
    | zero=>rfl
    | succ j=>rw [Nat.testBit_succ,z] at a;simp at a
   | succ i=>rw [Nat.testBit_succ,z] at b;simp at b
theorem CG:∀ (f x:Nat),x < 2 ^ f->2 <= sG f x->∃ i j,i ≠ j/\x.testBit i=true/\x.testBit j=true
 | 0,x,h,h0=>by simp [sG] at h0
 | f + 1,x,h,h0=>by
  unfold sG at h0;have b:x / 2 < 2 ^ f:=by rw [Nat.pow_succ] at h;omega
  by_cases g:2 <= sG f (x / 2)
  ·obtain ⟨i,j,d,a,c⟩:=CG f (x / 2) b g;exact ⟨i + 1,j + 1,by omega,by rw [Nat.testBit_succ];exact a,by rw [Nat.testBit_succ];exact c⟩
  ·have e:x % 2=1:=by omega
   have:x / 2 ≠ 0:=by intro z;rw [z,yj] at h0;omega
   obtain ⟨i,a⟩:=oh.1 this;exact ⟨0,i + 1,by omega,by rw [oJ];simpa using e,by rw [Nat.testBit_succ];exact a⟩
def Key.size (s:Key):Nat:=pc s.1 + pc s.2
theorem uW {s:Key} (c:s.ok) (h:s.size=0):s=(0,0):=by
 unfold Key.size pc at h;have e:=jL 64 s.1 c.1 (by omega);have d:=jL 64 s.2 c.2 (by omega);obtain ⟨a,b⟩:=s;simp only at e d;rw [e,d]
theorem sF:Key.size (0,0)=0:=by decide
theorem uh {s:Key} (c:s.ok) (h:s.size=1):∃ l,dY l/\s=single l:=by
 have g:s ≠ (0,0):=by intro e;rw [e,sF] at h;cases h
 obtain ⟨l,b⟩:=(kF s).1 g;have f:=Key.Kn c b;refine ⟨l,f,kH fun x=>?_⟩;rw [dh (dD f)]
 cases a:s.has x with
 | false=>
  symm;simp;intro e;rw [e,b] at a;cases a
 | true=>
  symm;simp
  unfold Key.size pc at h
  rcases iy x with rfl | ⟨i,rfl⟩ | ⟨i,rfl⟩
  ·rw [jA] at a;cases a
  ·rcases iy l with rfl | ⟨j,rfl⟩ | ⟨j,rfl⟩
   ·rw [jA] at b;cases b
   ·rw [gm] at a b;have d:sG 64 s.1 ≠ 0:=fun e=>by rw [jL 64 s.1 c.1 e] at a;simp at a
    rw [CJ 64 s.1 c.1 (by omega) i j a b]
   ·rw [gm] at a;rw [gq] at b;have d:sG 64 s.1 ≠ 0:=fun e=>by rw [jL 64 s.1 c.1 e] at a;simp at a
    have k:sG 64 s.2 ≠ 0:=fun e=>by rw [jL 64 s.2 c.2 e] at b;simp at b
    omega
  ·rcases iy l with rfl | ⟨j,rfl⟩ | ⟨j,rfl⟩
   ·rw [jA] at b;cases b
   ·rw [gq] at a;rw [gm] at b;have d:sG 64 s.1 ≠ 0:=fun e=>by rw [jL 64 s.1 c.1 e] at b;simp at b
    have k:sG 64 s.2 ≠ 0:=fun e=>by rw [jL 64 s.2 c.2 e] at a;simp at a
    omega
   ·rw [gq] at a b;have d:sG 64 s.2 ≠ 0:=fun e=>by rw [jL 64 s.2 c.2 e] at a;simp at a
    rw [CJ 64 s.2 c.2 (by omega) i j a b]
theorem size_two {s:Key} (g:s.ok) (h:2 <= s.size):∃ a b,a ≠ b/\s.has a=true/\s.has b=true:=by
 unfold Key.size pc at h;by_cases l:2 <= sG 64 s.1
 ·obtain ⟨i,j,f,d,c⟩:=CG 64 s.1 g.1 l;exact ⟨(i:Int) + 1,(j:Int) + 1,by omega,by rw [gm];exact d,by rw [gm];exact c⟩
 ·by_cases k:2 <= sG 64 s.2
  ·obtain ⟨i,j,f,d,c⟩:=CG 64 s.2 g.2 k;exact ⟨-((i:Int) + 1),-((j:Int) + 1),by omega,by rw [gq];exact d,by rw [gq];exact c⟩
  ·have o:s.1 ≠ 0:=fun e=>by rw [e,yj] at l h;omega
   have m:s.2 ≠ 0:=fun e=>by rw [e,yj] at k h;omega
   obtain ⟨i,d⟩:=oh.1 o;obtain ⟨j,c⟩:=oh.1 m;exact ⟨(i:Int) + 1,-((j:Int) + 1),by omega,by rw [gm];exact d,by rw [gq];exact c⟩
theorem qG {s:Key} (f:s.ok) (h:2 <= s.size) {l:Int} (d:l ≠ 0):s.wo (single l) ≠ (0,0):=by
 obtain ⟨a,b,c,i,g⟩:=size_two f h;rw [kF];by_cases e:a=l
 ·refine ⟨b,?_⟩;rw [kK,g,dh d];simp;intro j;exact c (by rw [e,j])
 ·exact ⟨a,by rw [kK,i,dh d];simpa using e⟩
theorem pG (a y m M:Nat) (b:a < 256) (c:m < 256):(a + 256 * y) &&& (m + 256 * M)=(a &&& m) + 256 * (y &&& M):=by
 have d:(a &&& m) < 2 ^ 8:=Nat.lt_of_le_of_lt Nat.and_le_left b;rw [Nat.add_comm a,Nat.add_comm m,Nat.add_comm (a &&& m)];refine Nat.eq_of_testBit_eq fun i=>?_
 rw [Nat.testBit_and,show 256=2 ^ 8 from rfl,Nat.testBit_two_pow_mul_add _ b,Nat.testBit_two_pow_mul_add _ c,Nat.testBit_two_pow_mul_add _ d];split <;> simp [Nat.testBit_and]
def rep (c:Nat):Nat->Nat
 | 0=>0
 | n + 1=>c + 256 * rep c n
theorem yf (c n:Nat):rep c (n + 1)=c + 256 * rep c n:=rfl
def p1 (n x:Nat):Nat:=(x / 2 &&& rep 85 n) + (x &&& rep 85 n)
def p2 (n x:Nat):Nat:=(p1 n x / 4 &&& rep 51 n) + (p1 n x &&& rep 51 n)
def p3 (n x:Nat):Nat:=(p2 n x / 16 + p2 n x) &&& rep 15 n
def g1 (a:Nat):Nat:=(a / 2 &&& 85) + (a &&& 85)
def g2 (a:Nat):Nat:=(g1 a / 4 &&& 51) + (g1 a &&& 51)
theorem Tx (n a y:Nat) (c:a < 256):p1 (n + 1) (a + 256 * y)=g1 a + 256 * p1 n y:=by
 have e:(a + 256 * y) / 2=(a / 2 + 128 * (y % 2)) + 256 * (y / 2):=by omega
 have k:∀ a,a < 256->∀ b,b < 2->((a / 2 + 128 * b) &&& 85)=(a / 2 &&& 85):=by decide +kernel
 unfold p1 g1;rw [yf,e,pG _ _ _ _ (by omega) (by omega),pG _ _ _ _ c (by omega),k a c _ (by omega)];omega
theorem XD:∀ a,a < 256->g1 a < 256:=by decide +kernel
theorem JY (n a y:Nat) (c:a < 256):p2 (n + 1) (a + 256 * y)=g2 a + 256 * p2 n y:=by
 have d:=XD a c;have k:∀ a,a < 256->∀ b,b < 4->((a / 4 + 64 * b) &&& 51)=(a / 4 &&& 51):=by decide +kernel
 have e:(g1 a + 256 * p1 n y) / 4=(g1 a / 4 + 64 * (p1 n y % 4)) + 256 * (p1 n y / 4):=by omega
 unfold p2;rw [Tx n a y c];unfold g2;rw [yf,e,pG _ _ _ _ (by omega) (by omega),pG _ _ _ _ d (by omega),k _ d _ (by omega)];omega
theorem Va:∀ a,a < 256->g2 a < 256/\g2 a % 16 < 5/\g2 a <= 68/\∀ b,b < 5->((g2 a / 16 + 16 * b + g2 a) &&& 15)=sG 8 a:=by decide +kernel
theorem VJ (n x:Nat):p2 n x % 16 < 5:=by
 cases n with
 | zero=>unfold p2 rep;simp
 | succ n=>
  have e:x=x % 256 + 256 * (x / 256):=by omega
  rw [e,JY n _ _ (by omega)];have:=(Va (x % 256) (by omega)).2.1;omega
theorem Tw (n a y:Nat) (b:a < 256):p3 (n + 1) (a + 256 * y)=sG 8 a + 256 * p3 n y:=by
 obtain ⟨h,g,f,d⟩:=Va a b;have c:=VJ n y;have e:(g2 a + 256 * p2 n y) / 16 + (g2 a + 256 * p2 n y)=(g2 a / 16 + 16 * (p2 n y % 16) + g2 a) + 256 * (p2 n y / 16 + p2 n y):=by omega
 unfold p3;rw [JY n a y b,e];rw [yf,pG _ _ _ _ (by omega) (by omega),d _ c]
theorem kW (n x:Nat):sG (n + 8) x=sG 8 (x % 256) + sG n (x / 256):=by
 have e:sG n (x / 2 / 2 / 2 / 2 / 2 / 2 / 2 / 2)=sG n (x / 256):=by congr 1;omega
 simp only [sG];rw [e];omega
theorem nZ (x:Nat):sG 8 x <= 8:=by simp only [sG];omega
theorem OT (x:Nat) (h:x < wide):∃ j i g f e d c b:Nat,j <= 8/\i <= 8/\g <= 8/\f <= 8/\e <= 8/\d <= 8/\c <= 8/\b <= 8/\
  p3 8 x=j + 256 * (i + 256 * (g + 256 * (f + 256 * (e + 256 * (d + 256 * (c + 256 * b))))))/\pc x=j + i + g + f + e + d + c + b:=by
 unfold wide at h;have a:∀ n y,p3 (n + 1) y=sG 8 (y % 256) + 256 * p3 n (y / 256):=fun n y=>by
  conv=>lhs;rw [show y=y % 256 + 256 * (y / 256) by omega]
  exact Tw n _ _ (by omega)
 have z:∀ y,p3 0 y=0:=fun y=>by unfold p3 rep;simp
 refine ⟨_,_,_,_,_,_,_,_,nZ (x % 256),nZ (x / 256 % 256),nZ (x / 256 / 256 % 256),nZ (x / 256 / 256 / 256 % 256),nZ (x / 256 / 256 / 256 / 256 % 256),nZ (x / 256 / 256 / 256 / 256 / 256 % 256),nZ (x / 256 / 256 / 256 / 256 / 256 / 256 % 256),nZ (x / 256 / 256 / 256 / 256 / 256 / 256 / 256 % 256),?_,?_⟩
 ·rw [a 7,a 6,a 5,a 4,a 3,a 2,a 1,a 0,z,Nat.mul_zero,Nat.add_zero]
 ·unfold pc;rw [kW 56 x,kW 48 (x / 256),kW 40 (x / 256 / 256),kW 32 (x / 256 / 256 / 256),kW 24 (x / 256 / 256 / 256 / 256),kW 16 (x / 256 / 256 / 256 / 256 / 256),kW 8 (x / 256 / 256 / 256 / 256 / 256 / 256)];rw [show x / 256 / 256 / 256 / 256 / 256 / 256 / 256 % 256=x / 256 / 256 / 256 / 256 / 256 / 256 / 256 from Nat.mod_eq_of_lt (by omega)];omega
theorem CF (x B z D:Nat) (h:x < wide) (o:B=p3 8 x + p3 8 x / 256) (m:z=B + B / 65536) (l:D=z + z / 4294967296):
  D % 128=pc x/\B < wide/\z < wide/\D < 9223372036854775808/\p3 8 x < wide/\pc x <= 64:=by
 obtain ⟨E,y,q,k,j,i,g,f,N,M,L,K,J,I,H,G,e,w⟩:=OT x h;have d:B=(E + y) + 256 * ((y + q) + 256 * ((q + k) + 256 * ((k + j) + 256 * ((j + i) + 256 * ((i + g) + 256 * ((g + f) + 256 * f)))))):=by rw [o,e];omega
 have p:z=(E + y + q + k) + 256 * ((y + q + k + j) + 256 * ((q + k + j + i) + 256 * ((k + j + i + g) + 256 * ((j + i + g + f) + 256 * ((i + g + f) + 256 * ((g + f) + 256 * f)))))):=by rw [m,d];omega
 obtain ⟨A,a⟩:∃ A,A=(E + y + q + k) + 256 * ((y + q + k + j) + 256 * ((q + k + j + i) + 256 * (k + j + i + g))):=⟨_,rfl⟩;obtain ⟨v,b⟩:∃ v,v=(j + i + g + f) + 256 * ((i + g + f) + 256 * ((g + f) + 256 * f)):=⟨_,rfl⟩;have c:z=A + 4294967296 * v:=by rw [p,a,b];clear e d o m l p a b;omega
 have u:A < 4294967296:=by rw [a];clear e d o m l p a b c;omega
 have r:z / 4294967296=v:=by rw [c];clear e d o m l p a b c;omega
 have s:D=A + v + 4294967296 * v:=by rw [l,r,c];clear e d o m l p a b c u r;omega
 have t:A + v=(E + y + q + k + j + i + g + f) + 256 * ((y + q + k + j + i + g + f) + 256 * ((q + k + j + i + g + f) + 256 * (k + j + i + g + f))):=by rw [a,b];clear e d o m l p a b c u r s;omega
 have F:v < 268435456:=by rw [b];clear e d o m l p a b c u r s t;omega
 unfold wide;refine ⟨?_,?_,?_,?_,?_,?_⟩
 ·rw [s,t,w];clear e d o m l p a b c u r s t w;omega
 ·rw [d];clear e d o m l p a b c u r s t w;omega
 ·rw [c];clear e d o m l p a b c r s t w;omega
 ·rw [s,t];clear e d o m l p a b c u r s t w;omega
 ·rw [e];clear e d o m l p a b c u r s t w;omega
 ·rw [w];clear e d o m l p a b c u r s t w;omega
section
open Go Go.RowKit
def dC (s:Key):Value:=.agg #[.int .u64 (s.1:Int),.int .u64 (s.2:Int)]
theorem Jy {B:Nat} {a w:World} (h:Below B a w) (e:B <= w.heap.size) (d c b:Obj):Below B a (((w.alloc d).alloc c).alloc b):=
 ((h.alloc e d).alloc (by simp;omega) c).alloc (by simp;omega) b
theorem tJ {B:Nat} {a w:World} (h:Below B a w) (d:B <= w.heap.size) (c b:Obj):Below B a ((w.alloc c).alloc b):=
 (h.alloc d c).alloc (by simp;omega) b
theorem qm (a b:Nat) (c:a < wide) (g:b < wide):bits .andNot .u64 (a:Int) (b:Int)=((andNot a b:Nat):Int):=by
 unfold wide at c g;have j:(BitVec.ofInt 64 (a:Int)).toNat=a:=by
  rw [BitVec.ofInt_natCast,BitVec.toNat_ofNat];exact Nat.mod_eq_of_lt (by omega)
 have h:(BitVec.ofInt 64 (b:Int)).toNat=b:=by
  rw [BitVec.ofInt_natCast,BitVec.toNat_ofNat];exact Nat.mod_eq_of_lt (by omega)
 have e:(BitVec.ofInt 64 (a:Int) &&& ~~~ BitVec.ofInt 64 (b:Int)).toNat=andNot a b:=by
  refine Nat.eq_of_testBit_eq fun i=>?_
  rw [nC,BitVec.testBit_toNat,BitVec.getLsbD_and,BitVec.getLsbD_not,<- BitVec.testBit_toNat,<- BitVec.testBit_toNat,j,h];by_cases f:i < 64
  ·simp [f]
  ·have:a.testBit i=false:=Nat.testBit_lt_two_pow (Nat.lt_of_lt_of_le (show a < 2 ^ 64 from c) (Nat.pow_le_pow_right (n:=2) (by decide) (show 64 <= i by omega)));simp [this]
 show IntKind.u64.wrap ((BitVec.ofInt 64 (a:Int) &&& ~~~ BitVec.ofInt 64 (b:Int)).toNat:Int)=_
 have d:=vN (a:=a) (b:=b) c;unfold wide at d;rw [e,IntKind.wrap_u64];omega
theorem ig (s t:Key) (w:World) (b:s.ok) (a:t.ok):
  Calls Tryz.prog 75 #[dC s,dC t] w fun e c=>e=.returned (dC (s.un t))/\Below w.heap.size w c:=by
 unfold dC Key.un;rw [<- bits_or_u64_nat s.1 t.1 b.1 a.1,<- bits_or_u64_nat s.2 t.2 b.2 a.2];go_enter Tryz.func75,Tryz.ntmps75
 go_wp2;exact bodyPost_ret (v:=.agg #[.int .u64 (bits .or .u64 s.1 t.1),.int .u64 (bits .or .u64 s.2 t.2)]) (by simp [results,Tryz.results75,go_sem]) rfl ⟨rfl,Jy bR lr _ _ _⟩
theorem jm (s t:Key) (w:World) (b:s.ok) (a:t.ok):
  Calls Tryz.prog 114 #[dC s,dC t] w fun e c=>e=.returned (dC (s.wo t))/\Below w.heap.size w c:=by
 unfold dC Key.wo;rw [<- qm s.1 t.1 b.1 a.1,<- qm s.2 t.2 b.2 a.2];go_enter Tryz.func114,Tryz.ntmps114
 go_wp2;exact bodyPost_ret (v:=.agg #[.int .u64 (bits .andNot .u64 s.1 t.1),.int .u64 (bits .andNot .u64 s.2 t.2)]) (by simp [results,Tryz.results114,go_sem]) rfl ⟨rfl,Jy bR lr _ _ _⟩
theorem oK (s:Key) (w:World):
  Calls Tryz.prog 118 #[dC s] w fun e a=>e=.returned (dC s.op)/\Below w.heap.size w a:=by
 unfold dC Key.op;go_enter Tryz.func118,Tryz.ntmps118
 go_wp2;exact bodyPost_ret (v:=.agg #[.int .u64 (s.2:Int),.int .u64 (s.1:Int)]) (by simp [results,Tryz.results118,go_sem]) rfl ⟨rfl,tJ bR lr _ _⟩
def jW (s:Key):Bool:=decide (s=(0,0))
theorem Jm (s:Key):(((s.1 ||| s.2:Nat):Int) == 0)=jW s:=by
 unfold jW;rw [Bool.eq_iff_iff];simp only [beq_iff_eq,decide_eq_true_eq];rw [<- BQ];omega
theorem ou (s:Key) (w:World) (a:s.ok):
  Calls Tryz.prog 74 #[dC s] w fun e b=>e=.returned (.bool (jW s))/\Below w.heap.size w b:=by
 rw [<- Jm,<- bits_or_u64_nat s.1 s.2 a.1 a.2];unfold dC;go_enter Tryz.func74,Tryz.ntmps74
 go_wp2;go_ret
 exact ⟨rfl,bR.alloc lr _⟩
def sH (s t:Key):Bool:=(s.1 &&& t.1) ||| (s.2 &&& t.2) != 0
theorem Bp (s t:Key):sH s t=true↔∃ l,s.has l=true/\t.has l=true:=by
 rw [<- Mg];unfold sH;simp
theorem vk (s t:Key) (w:World) (a:s.ok) (b:t.ok):
  Calls Tryz.prog 168 #[dC s,dC t] w fun e c=>e=.returned (.bool (sH s t))/\Below w.heap.size w c:=by
 have e:sH s t=(bits .or .u64 (bits .and .u64 s.1 t.1) (bits .and .u64 s.2 t.2) != 0):=by
  rw [bits_and_u64_nat s.1 t.1 a.1 b.1,bits_and_u64_nat s.2 t.2 a.2 b.2,bits_or_u64_nat _ _ (Nat.lt_of_le_of_lt Nat.and_le_left a.1) (Nat.lt_of_le_of_lt Nat.and_le_left a.2)];unfold sH;rw [Bool.eq_iff_iff];simp only [bne_iff_ne,ne_eq];omega
 rw [e];unfold dC;go_enter Tryz.func168,Tryz.ntmps168
 go_wp2;go_ret
 exact ⟨rfl,tJ bR lr _ _⟩
def oO (s:Key):Bool:=s.1 &&& s.2 != 0
theorem zy (s:Key):oO s=true↔∃ l,s.has l=true/\s.has (-l)=true:=by
 rw [<- Nc];unfold oO;simp
theorem GQ (s:Key) (w:World) (a:s.ok):
  Calls Tryz.prog 166 #[dC s] w fun e b=>e=.returned (.bool (oO s))/\Below w.heap.size w b:=by
 have e:oO s=(bits .and .u64 s.1 s.2 != 0):=by
  rw [bits_and_u64_nat s.1 s.2 a.1 a.2];unfold oO;rw [Bool.eq_iff_iff];simp only [bne_iff_ne,ne_eq];omega
 rw [e];unfold dC;go_enter Tryz.func166,Tryz.ntmps166
 go_wp2;go_ret
 exact ⟨rfl,bR.alloc lr _⟩
theorem Kb {x:Nat} (a:x ≠ 0) (h:x < wide):bits .and .u64 (x:Int) (IntKind.u64.wrap (-(x:Int)))=((2 ^ Lib.ctz 64 x:Nat):Int):=by
 have b:IntKind.u64.wrap (-(x:Int))=((18446744073709551616 - x:Nat):Int):=by unfold wide at h;rw [IntKind.wrap_u64];omega
 rw [b,bits_and_u64_nat x _ h (by omega)]
 congr 1
 exact (Lib.lowest_bit 64 x a h).1
theorem VM (x c:Int) (w:World) (a:(x == 0)=true) (y:Int) (k:bits .and .u64 y (IntKind.u64.wrap (-y))=c):
  Calls Tryz.prog 158 #[.agg #[.int .u64 x,.int .u64 y]] w fun e b=>e=.returned (.agg #[.int .u64 0,.int .u64 c])/\Below w.heap.size w b:=by
 have d:(x != 0)=false:=by simpa using a
 clear a;go_enter Tryz.func158,Tryz.ntmps158
 go_wp2;exact bodyPost_ret (v:=.agg #[.int .u64 0,.int .u64 c]) (by simp [results,Tryz.results158,go_sem,k]) rfl ⟨rfl,tJ bR lr _ _⟩
theorem VN (x c:Int) (w:World) (b:(x != 0)=true) (y:Int) (k:bits .and .u64 x (IntKind.u64.wrap (-x))=c):
  Calls Tryz.prog 158 #[.agg #[.int .u64 x,.int .u64 y]] w fun e a=>e=.returned (.agg #[.int .u64 c,.int .u64 0])/\Below w.heap.size w a:=by
 go_enter Tryz.func158,Tryz.ntmps158
 go_wp2;exact bodyPost_ret (v:=.agg #[.int .u64 c,.int .u64 0]) (by simp [results,Tryz.results158,go_sem,k]) rfl ⟨rfl,tJ bR lr _ _⟩
theorem xy (s:Key) (w:World) (c:s.ok) (g:s ≠ (0,0)):
  Calls Tryz.prog 158 #[dC s] w fun e d=>e=.returned (dC s.one)/\Below w.heap.size w d:=by
 unfold Key.one;by_cases h:s.1=0
 ·have f:s.2 ≠ 0:=by
   intro e;apply g;obtain ⟨a,b⟩:=s;simp only at h e;rw [h,e]
  rw [if_neg (by simpa using h)];exact VM _ _ w (by rw [h];rfl) _ (Kb f c.2)
 ·rw [if_pos h];exact VN _ _ w (by simpa using h) _ (Kb h c.1)
theorem Sr (x k a:Nat) (w:World) (f:((x:Int) == 0)=false)
  (b:IntKind.u64.wrap (bits BinOp.and IntKind.u64 (x:Int) (IntKind.u64.wrap (-(x:Int))) * 285870213051353865) / 288230376151711744=(a:Int))
  (hi:a < 64) (g:k < 64) (c:w.cell? ⟨5,a,none⟩=some (.int .u8 k)):
  Calls Tryz.prog 228 #[.int .u64 x] w fun e d=>e=.returned (.int .i64 k)/\w=d:=by
 go_enter Tryz.func228,Tryz.ntmps228
 go_wp2_with (simp only [b])
 go_ret
 exact ⟨rfl,rfl⟩
theorem NN (x:Nat) (w:World) (d:x < wide) (h:x ≠ 0) (j:TabAt 5 Lib.deBruijn64tab w):
  Calls Tryz.prog 228 #[.int .u64 x] w fun e i=>e=.returned (.int .i64 (Lib.ctz 64 x))/\w=i:=by
 obtain ⟨c,f⟩:=Lib.lowest_bit 64 x h d;obtain ⟨g,b⟩:=Lib.deBruijn64_at _ f;have a:=j _ g;rw [b] at a;exact Sr x _ _ w (by simp;omega) (tz64_key x _ d h c) g f a
theorem LM (x f d c b a h g:Int) (w:World)
  (q:IntKind.u64.wrap (bits .and .u64 (x / 2) 6148914691236517205 + bits .and .u64 x 6148914691236517205)=f)
  (p:IntKind.u64.wrap (bits .and .u64 (f / 4) 3689348814741910323 + bits .and .u64 f 3689348814741910323)=d)
  (o:bits .and .u64 (IntKind.u64.wrap (d / 16 + d)) 1085102592571150095=c)
  (m:IntKind.u64.wrap (c + c / 256)=b) (l:IntKind.u64.wrap (b + b / 65536)=a) (k:IntKind.u64.wrap (a + a / 4294967296)=h)
  (j:bits .and .i64 (wrap64 h) 127=g):
  Calls Tryz.prog 160 #[.int .u64 x] w fun e i=>e=.returned (.int .i64 g)/\w=i:=by
 go_enter Tryz.func160,Tryz.ntmps160
 go_wp2_with (simp only [q,p,o,m,l,k,j])
 go_ret
 exact ⟨rfl,rfl⟩
theorem xK (n:Int) (c:0 <= n) (a:n < 2 ^ 63):IntKind.i64.wrap n=n:=by
 have b:n < 9223372036854775808:=a;rw [IntKind.wrap_i64];omega
theorem TN (z:Nat) (h:z < 9223372036854775808):bits .and .i64 (z:Int) 127=((z % 128:Nat):Int):=by
 have:=(bits_nat .i64 63 (by decide) xK z 127 h (by decide)).1;rw [show ((127:Nat):Int)=127 from rfl] at this;rw [this]
 congr 1
 exact Nat.and_two_pow_sub_one_eq_mod z 7
theorem O5 (x:Nat) (w:World) (d:x < wide):
  Calls Tryz.prog 160 #[.int .u64 x] w fun e f=>e=.returned (.int .i64 (pc x))/\w=f:=by
 obtain ⟨c,j⟩:∃ z,z=p3 8 x + p3 8 x / 256:=⟨_,rfl⟩;obtain ⟨b,i⟩:∃ z,z=c + c / 65536:=⟨_,rfl⟩;obtain ⟨a,h⟩:∃ z,z=b + b / 4294967296:=⟨_,rfl⟩;obtain ⟨o,t,s,p,u,_⟩:=CF x c b a d j i h;have r:p1 8 x <= 12297829382473034410:=by
  have m:(x / 2 &&& rep 85 8) <= rep 85 8:=Nat.and_le_right;have l:(x &&& rep 85 8) <= rep 85 8:=Nat.and_le_right;have k:rep 85 8=6148914691236517205:=by decide
  unfold p1;omega
 have q:p2 8 x <= 7378697629483820646:=by
  have m:(p1 8 x / 4 &&& rep 51 8) <= rep 51 8:=Nat.and_le_right;have l:(p1 8 x &&& rep 51 8) <= rep 51 8:=Nat.and_le_right;have k:rep 51 8=3689348814741910323:=by decide
  unfold p2;omega
 unfold wide at *
 refine LM x (p1 8 x:Nat) (p2 8 x:Nat) (p3 8 x:Nat) (c:Nat) (b:Nat) (a:Nat) (pc x:Nat) w ?_ ?_ ?_ ?_ ?_ ?_ ?_
 ·rw [show (x:Int) / 2=((x / 2:Nat):Int) by omega,show (6148914691236517205:Int)=((6148914691236517205:Nat):Int) from rfl,bits_and_u64_nat _ _ (by omega) (by omega),bits_and_u64_nat _ _ d (by omega),IntKind.wrap_u64];have:p1 8 x=(x / 2 &&& 6148914691236517205) + (x &&& 6148914691236517205):=rfl;omega
 ·rw [show ((p1 8 x:Nat):Int) / 4=((p1 8 x / 4:Nat):Int) by omega,show (3689348814741910323:Int)=((3689348814741910323:Nat):Int) from rfl,bits_and_u64_nat _ _ (by omega) (by omega),bits_and_u64_nat _ _ (by omega) (by omega),IntKind.wrap_u64];have:p2 8 x=(p1 8 x / 4 &&& 3689348814741910323) + (p1 8 x &&& 3689348814741910323):=rfl;omega
 ·have e:IntKind.u64.wrap (((p2 8 x:Nat):Int) / 16 + (p2 8 x:Nat))=((p2 8 x / 16 + p2 8 x:Nat):Int):=by rw [IntKind.wrap_u64];omega
  rw [e,show (1085102592571150095:Int)=((1085102592571150095:Nat):Int) from rfl,bits_and_u64_nat _ _ (by omega) (by omega)];rfl
 ·rw [IntKind.wrap_u64];omega
 ·rw [IntKind.wrap_u64];omega
 ·rw [IntKind.wrap_u64];omega
 ·rw [<- o];have g:wrap64 (a:Int)=(a:Int):=by unfold wrap64;omega
  rw [g,TN a p]
theorem GZ {B:Nat} {a w:World} (h:Below B a w) (n:Nat):Below B a (w.drewN n):=h.trans ⟨rfl,rfl,rfl,lr,fun _ _=>rfl⟩
theorem Bj (x:Nat) (w:World) (b:x < wide):
  Calls Tryz.prog 160 #[.int .u64 x] w fun e a=>e=.returned (.int .i64 (pc x))/\a=w:=
 (O5 x w b).mono fun e a h=>⟨h.1,h.2.symm⟩
theorem jq (s:Key) (w:World) (d:s.ok):
  Calls Tryz.prog 110 #[dC s] w fun e h=>e=.returned (.int .i64 (s.size:Nat))/\Below w.heap.size w h:=by
 have o:pc s.1 <= 64:=(CF s.1 _ _ _ d.1 rfl rfl rfl).2.2.2.2.2;have m:pc s.2 <= 64:=(CF s.2 _ _ _ d.2 rfl rfl rfl).2.2.2.2.2;obtain ⟨g,f⟩:=d;obtain ⟨a,b⟩:=s;have j:=fun w=>Bj a w g
 have i:=fun w=>Bj b w f
 simp only at o m;unfold dC Key.size;simp only;generalize pc a=l at *
 generalize pc b=k at *
 clear g f;go_enter Tryz.func110,Tryz.ntmps110
 go_wp2;generalize c:w.alloc (.cells #[.int .u64 (a:Int),.int .u64 (b:Int)] 84)=W
 have r:W.cell? ⟨w.heap.size,0,none⟩=some (.int .u64 (a:Int)):=by rw [<- c];simp
 have q:W.cell? ⟨w.heap.size,1,none⟩=some (.int .u64 (b:Int)):=by rw [<- c];simp
 have p:=hide c;clear c
 go_quiet ((go_at_call 160;first | with_reducible exact Calls.quiet_of_same (j _) | with_reducible exact Calls.quiet_of_same (i _)))
 go_wp2;go_ret
 refine ⟨?_,?_⟩
 ·show Ending.returned (.int .i64 ((l:Int) + (k:Int)))=_
  rw [<- Int.natCast_add]
 ·refine GZ ?_ _;rw [<- p.out];exact bR.alloc lr _
theorem AR {g:Nat} {a:List Nat} {w:World} (h:TabAt g a w) (o:Obj):TabAt g a (w.alloc o):=by
 intro j b;have:=h j b;rw [<- this];exact ((Below.refl w.heap.size w).alloc lr o).cell (p:=⟨g,j,none⟩) (block_lt_of_cell this)
theorem Ko (k:Nat) (a:k < 64):Lib.ctz 64 (2 ^ k)=k:=by
 have c:2 ^ k ≠ 0:=Nat.ne_of_gt (Nat.two_pow_pos k);have b:2 ^ k < wide:=show 2 ^ k < 2 ^ 64 from Nat.pow_lt_pow_right (by decide) a
 have:=(Dh c b).1;rw [Nat.testBit_two_pow] at this;simpa using (of_decide_eq_true this).symm
theorem OM (a b:Nat) (w:World) (f:a < wide) (i:((a:Int) != 0)=true) (k:Nat) (l:k < 64) (e:Lib.ctz 64 a=k) (g:TabAt 5 Lib.deBruijn64tab w):
  Calls Tryz.prog 199 #[.agg #[.int .u64 (a:Int),.int .u64 (b:Int)]] w fun e h=>e=.returned (.int .i64 k)/\Below w.heap.size w h:=by
 have d:a ≠ 0:=by intro e;subst e;simp at i
 have c:=fun o=>NN a (w.alloc o) f d (AR g o)
 rw [e] at c;clear g d f e;go_enter Tryz.func199,Tryz.ntmps199
 go_wp2_with fail
 refine (c _).mono ?_;rintro m j ⟨rfl,rfl⟩;go_wp2;go_ret;exact ⟨rfl,bR.alloc lr _⟩
theorem OL (a b:Nat) (w:World) (f:b < wide) (l:((a:Int) != 0)=false) (c:b ≠ 0) (k:Nat) (j:k < 64) (e:Lib.ctz 64 b=k) (g:TabAt 5 Lib.deBruijn64tab w):
  Calls Tryz.prog 199 #[.agg #[.int .u64 (a:Int),.int .u64 (b:Int)]] w fun e h=>e=.returned (.int .i64 (64 + k:Nat))/\Below w.heap.size w h:=by
 have d:=fun o=>NN b (w.alloc o) f c (AR g o)
 rw [e] at d;clear g c f e;go_enter Tryz.func199,Tryz.ntmps199
 go_wp2_with fail
 refine (d _).mono ?_;rintro m i ⟨rfl,rfl⟩;go_wp2;go_ret;exact ⟨by show Ending.returned (.int .i64 (64 + (k:Int)))=_;rw [Int.natCast_add];rfl,bR.alloc lr _⟩
theorem Bf (l:Int) (w:World) (d:dY l) (a:TabAt 5 Lib.deBruijn64tab w):
  Calls Tryz.prog 199 #[dC (single l)] w fun e b=>e=.returned (.int .i64 (place l:Nat))/\Below w.heap.size w b:=by
 unfold dC single place
 rcases d with h | h
 ·rw [if_neg (by omega),if_pos (by omega)];have c:2 ^ (l.toNat - 1) ≠ 0:=Nat.ne_of_gt (Nat.two_pow_pos _);exact OM _ _ w (show _ < 2 ^ 64 from Nat.pow_lt_pow_right (by decide) (by omega)) (by rw [bne_iff_ne];exact_mod_cast c) _ (by omega) (Ko _ (by omega)) a
 ·rw [if_pos (by omega),if_neg (by omega)];exact OL _ _ w (show _ < 2 ^ 64 from Nat.pow_lt_pow_right (by decide) (by omega)) rfl (Nat.ne_of_gt (Nat.two_pow_pos _)) _ (by omega) (Ko _ (by omega)) a
theorem xX (l:Int) (w:World) (c:dY l):
  Calls Tryz.prog 73 #[.int .i64 l] w fun e b=>e=.returned (dC (single l))/\Below w.heap.size w b:=by
 unfold dC single
 rcases c with h | h
 ·obtain ⟨k,rfl⟩:∃ k:Nat,l=(k:Int) + 1:=⟨(l - 1).toNat,by omega⟩;have a:2 ^ k < 18446744073709551616:=show 2 ^ k < 2 ^ 64 from Nat.pow_lt_pow_right (by decide) (by omega)
  have e:IntKind.u64.wrap (2 ^ k)=((2 ^ k:Nat):Int):=by
   rw [IntKind.wrap_u64,show (2:Int) ^ k=((2 ^ k:Nat):Int) by simp];generalize 2 ^ k=z at a ⊢;omega
  rw [if_neg (by omega),show ((k:Int) + 1).toNat - 1=k by omega,<- e];clear e a;go_enter Tryz.func73,Tryz.ntmps73
  go_wp2;exact bodyPost_ret (v:=.agg #[.int .u64 (IntKind.u64.wrap (2 ^ k)),.int .u64 0]) (by simp [results,Tryz.results73,go_sem]) rfl ⟨rfl,bR.alloc lr _⟩
 ·obtain ⟨k,rfl⟩:∃ k:Nat,l=-((k:Int) + 1):=⟨(-l - 1).toNat,by omega⟩;have a:2 ^ k < 18446744073709551616:=show 2 ^ k < 2 ^ 64 from Nat.pow_lt_pow_right (by decide) (by omega)
  have e:IntKind.u64.wrap (2 ^ k)=((2 ^ k:Nat):Int):=by
   rw [IntKind.wrap_u64,show (2:Int) ^ k=((2 ^ k:Nat):Int) by simp];generalize 2 ^ k=z at a ⊢;omega
  rw [if_pos (by omega),show (-(-((k:Int) + 1))).toNat - 1=k by omega,<- e];clear e a;go_enter Tryz.func73,Tryz.ntmps73
  go_wp2;exact bodyPost_ret (v:=.agg #[.int .u64 0,.int .u64 (IntKind.u64.wrap (2 ^ k))]) (by simp [results,Tryz.results73,go_sem]) rfl ⟨rfl,bR.alloc lr _⟩
end
end Rd
end Go.Proofs.YtceahffmenbibaaGreatDoor
