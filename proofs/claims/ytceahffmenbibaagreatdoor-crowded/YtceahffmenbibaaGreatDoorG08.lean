/- Rparse Rmake Rread Req Cline Tprf Cref9. -/
import Derived.Test.YtceahffmenbibaaGreatDoorG07
import Derived.Test.YtceahffmenbibaaGreatDoorG00
import Derived.Test.YtceahffmenbibaaGreatDoorRows
import Derived.WalkSmall
import Derived.Lib.LaidTab
import Derived.Lib.SmallJoins
import Derived.Shelf.SlSorted.Search
import Derived.Deep.RegionWith
import Derived.Deep.QuietTactic
import Derived.BigQuiet
import Derived.Outline
import Derived.Test.YtceahffmenbibaaGreatDoorG04
set_option linter.unusedVariables false
set_option linter.unusedSimpArgs false
set_option maxHeartbeats 2000000
namespace Go.Proofs.YtceahffmenbibaaGreatDoor
namespace Rd
section
open Go Go.RowKit Go.Proofs
def pw : String := Rows.lubysRow.named.getD 1 ""
theorem vH:Tryz.prog.globalNamed pw=some 1:=by kernel_rfl
def o5 (w:World):Prop:=(∃ m,w.cell? ⟨0,0,none⟩=some (.int .i64 m))/\Lib.TabIs Tryz.prog w pw .u64 Lib.pow10Tab/\4 <= w.heap.size
theorem o5.below {B:Nat} {w w':World} (e:4 <= B) (h:Below B w w') (c:o5 w):o5 w':=by
 obtain ⟨⟨m,b⟩,a,d⟩:=c;have:=h.size;refine ⟨⟨m,?_⟩,var?_below h vH (by omega) a,by omega⟩
 rw [h.cell (p:=⟨0,0,none⟩) (by show (0:Nat) < B;omega)];exact b
theorem o5.later {w w':World} (h:Below w.heap.size w w') (a:o5 w):o5 w':=o5.below a.2.2 h a
theorem Gb (n:Nat) (d:n <= 20000) (w:World) (b:o5 w):
  Calls Tryz.prog 36 #[.int .i64 n] w fun e a=>∃ x:ByteArray,e=.returned (.string x)/\Hid (x.data.toList=Lib.decDigits n)/\Below w.heap.size w a:=by
 refine (Any.strconv_Itoa Tryz.Qb n (by omega) (by omega) w b.2.1).mono ?_
 rintro e a ⟨rfl,k,c,rfl⟩;refine ⟨_,rfl,?_,below_grown_sl _ _ _ _ lr⟩;unfold Hid Lib.itoa;rw [if_neg (by omega)]
 simp
theorem Qr (w:World):PredAt Tryz.prog 64 #[] encR kN w:=fun W r _=>by
 refine (Nh r W).mono ?_;rintro e a ⟨rfl,rfl⟩;exact ⟨rfl,0,rfl⟩
theorem Js (s:ByteArray) (w:World) (l:s.size <= 20000):
  Calls Tryz.prog 63 #[.string s,.func (.func 64) #[] #[]] w fun e b=>∃ (A:Nat) (T:List ByteArray),e=.returned (.slice (some ⟨A,0,none⟩) T.length T.length)/\
   Hid (bss T=toks s.data.toList)/\w.heap.size <= A/\A < b.heap.size/\Hid (∀ j (h:j < T.length),b.cell? ⟨A,j,none⟩=some (.string T[j]))/\Below w.heap.size w b/\T.length <= 20000/\Hid (∀ x ∈ T,x.size <= 20000):=by
 refine (Tryz.strings_FieldsFunc 64 #[] (enters_of Tryz.func64 (by kernel_rfl) rfl) kN s w (by omega) (Qr w)).mono ?_
 rintro e b ⟨A,rfl,k,a,i⟩;have d:=Gz s;have c:=Oq s.data.toList;rw [<- d] at c;refine ⟨A,Lib.goFieldsP kN s,rfl,d,k,(a.lt A rfl).2,fun j h=>?_,i,?_,fun x f=>?_⟩
 ·have:=a.cells (g:=A) rfl j (.string (Lib.goFieldsP kN s)[j]) (by simp [h])
  simpa [Addr.add_lit] using this
 ·have:=c.1;simp at this;omega
 ·have:=c.2 x.data.toList (List.mem_map.2 ⟨x,f,rfl⟩);simp at this;omega
def iX (s:Bs):Option (Bs × List Bs):=
 match (jh (s.length + 1) s).bind rC with
 | none=>none
 | some (v,c,r)=>if kU v (toks r) && jF (toks r) && Lib.decDigits (zeros (toks r)) == c then some (v,toks r) else none
def RZ (s:Bs) (w w':World) (e:Ending):Prop:=
 (iX s=none/\e=.returned (.tuple #[.agg (Eg ⟨#[]⟩ 0 0 none 0),.bool false])) \/
 ∃ (v:ByteArray) (T:List ByteArray) (A:Nat),iX s=some (v.data.toList,bss T)/\e=.returned (.tuple #[.agg (Eg v (zeros (bss T)) (lits (bss T)) (some ⟨A,0,none⟩) T.length),.bool true])/\
  w.heap.size <= A/\A < w'.heap.size/\(∀ j (h:j < T.length),w'.cell? ⟨A,j,none⟩=some (.string T[j]))/\T.length <= 20000/\(∀ x ∈ T,x.size <= 20000)/\v.size <= 20000
theorem IZ {s:Bs} (h:jh (s.length + 1) s=none):iX s=none:=by unfold iX;rw [h];rfl
theorem Mh {s x:Bs} (h:jh (s.length + 1) s=some x) (a:(rC x).isSome=false):iX s=none:=by
 have:rC x=none:=by simpa using a
 unfold iX;rw [h];simp [this]
theorem IY {s x v c r:Bs} (h:jh (s.length + 1) s=some x) (d:(rC x).isSome=true) (b:∀ o,rC x=some o->o=(v,c,r)):
  iX s=if kU v (toks r) && jF (toks r) && Lib.decDigits (zeros (toks r)) == c then some (v,toks r) else none:=by
 obtain ⟨o,a⟩:=Option.isSome_iff_exists.1 d;have:=b o a;subst this;unfold iX;rw [h];simp [a]
theorem nC {B:Nat} {a w:World} (h:Below B a w) (n:Nat):Below B a (w.drewN n):=h.trans ⟨rfl,rfl,rfl,lr,fun _ _=>rfl⟩
theorem uW {w:World} {b i A j:Nat} {v:Value} (h:A ≠ b):(w.setCell ⟨b,i,none⟩ v).cell? ⟨A,j,none⟩=w.cell? ⟨A,j,none⟩:=
 World.cell?_of_block (Below.heap_setCell _ _ _ _ h)
theorem yu (s:ByteArray):s.data.toList.length=s.size:=by simp
theorem vZ {w w':World} (h:Below w.heap.size w w') (d c b a:Value):
  Below w.heap.size w ((((w'.setCell ⟨w.heap.size,0,none⟩ d).setCell ⟨w.heap.size,1,none⟩ c).setCell ⟨w.heap.size,2,none⟩ b).setCell ⟨w.heap.size,3,none⟩ a):=
 (((h.setCell lr _).setCell lr _).setCell lr _).setCell lr _
theorem Mi (s:ByteArray) (w:World) (hs:s.size <= 20000) (hg:o5 w):
  Calls Tryz.prog 34 #[.string s] w fun e Y=>Below w.heap.size w Y/\RZ s.data.toList w Y e:=by
 have HG:=hide hg;obtain ⟨⟨m,hm⟩,_,ab⟩:=hg;have q:∀ o,(w.alloc o).cell? ⟨0,0,none⟩=some (.int .i64 m):=fun o=>by rw [World.cell?_alloc_lt _ _ _ (by show (0:Nat) < w.heap.size;omega)];exact hm
 clear hm;go_enter Tryz.func34,Tryz.ntmps34
 go_wp2_with fail
 refine (vD s m _ hs (q _)).mono ?_
 rintro e w1 ⟨⟨n1,rfl⟩,x,⟨D,rfl⟩ | ⟨D,hx,rfl⟩⟩
 ·have t:Hid (iX s.data.toList=none):=IZ (by rw [yu];exact D)
  clear D q;go_wp2;exact bodyPost_ret (v:=.tuple #[.agg (Eg ⟨#[]⟩ 0 0 none 0),.bool false]) (by simp [results,Tryz.results34,go_sem]) rfl ⟨vZ (nC (bR.alloc lr _) _) _ _ _ _,.inl ⟨t.out,rfl⟩⟩
 ·go_wp2_with fail
  refine (zD x m _ hx (by exact q _)).mono ?_
  rintro e w2 ⟨⟨n2,rfl⟩,a,b,z,rfl,W,ha,hb,hz⟩
  cases S:(rC x.data.toList).isSome with
  | false=>
   have t:Hid (iX s.data.toList=none):=Mh (by rw [yu];exact D) S
   clear D q W S;go_wp2;exact bodyPost_ret (v:=.tuple #[.agg (Eg ⟨#[]⟩ 0 0 none 0),.bool false]) (by simp [results,Tryz.results34,go_sem]) rfl ⟨vZ (nC (bR.alloc lr _) _) _ _ _ _,.inl ⟨t.out,rfl⟩⟩
  | true=>
   have t:=hide (IY (s:=s.data.toList) (by rw [yu];exact D) S W)
   clear D q W S;go_wp2_with fail
   refine (Js z _ hz).mono ?_;rintro e V ⟨A,T,rfl,hT,hA,K,k,r,hn,I⟩;rw [<- hT.out] at t;clear hT;have b3:Hid (Below w.heap.size w V):=(nC (bR.alloc lr _) _).trans (r.mono (by simp))
   have s3:=r.size;simp at s3 hA;have kept:∀ j,V.cell? ⟨w.heap.size,j,none⟩=(#[Value.string ⟨#[]⟩,.int .i64 0,.int .i64 0,.slice none 0 0]:Array Value)[j]? := fun j=>by
    rw [r.cell (p:=⟨w.heap.size,j,none⟩) (by simp)]
    exact World.cell?_alloc_at _ _ _ _ rfl
   have B:∀ j,V.frozen? ⟨w.heap.size,j,none⟩=false:=fun j=>by
    rw [r.frozen (p:=⟨w.heap.size,j,none⟩) (by simp)]
    simp [go_sem]
   clear r;go_wp2_with fail
   refine (xA T a A _ hn I.out ha K k.out).mono ?_;rintro e f ⟨d,J⟩;have U:Hid (Below w.heap.size w f):=b3.out.trans (d.mono (by omega))
   have s4:=d.size;have Q:f.cell? ⟨w.heap.size,0,none⟩=some (.string ⟨#[]⟩):=(d.cell (p:=⟨w.heap.size,0,none⟩) (by show w.heap.size < _;omega)).trans (kept 0)
   have O:f.cell? ⟨w.heap.size,1,none⟩=some (.int .i64 0):=(d.cell (p:=⟨w.heap.size,1,none⟩) (by show w.heap.size < _;omega)).trans (kept 1)
   have N:f.cell? ⟨w.heap.size,2,none⟩=some (.int .i64 0):=(d.cell (p:=⟨w.heap.size,2,none⟩) (by show w.heap.size < _;omega)).trans (kept 2)
   have M:f.cell? ⟨w.heap.size,3,none⟩=some (.slice none 0 0):=(d.cell (p:=⟨w.heap.size,3,none⟩) (by show w.heap.size < _;omega)).trans (kept 3)
   have f4:∀ j,f.frozen? ⟨w.heap.size,j,none⟩=false:=fun j=>(d.frozen (p:=⟨w.heap.size,j,none⟩) (by show w.heap.size < _;omega)).trans (B j)
   have L:Hid (∀ j (h:j < T.length),f.cell? ⟨A,j,none⟩=some (.string T[j])):=fun j h=>(d.cell (p:=⟨A,j,none⟩) K).trans (k.out j h)
   have i:w.heap.size < f.heap.size:=by omega
   clear kept B d k b3
   rcases J with ⟨g,rfl⟩ | ⟨g,rfl⟩
   ·cases R:jF (bss T) with
    | false=>
     have E:Hid (iX s.data.toList=none):=by unfold Hid;rw [t.out,g,R];rfl
     clear t g R;go_wp2;exact bodyPost_ret (v:=.tuple #[.agg (Eg ⟨#[]⟩ 0 0 none 0),.bool false]) (by simp [results,Tryz.results34,go_sem,Q,O,N,M,i]) rfl ⟨(vZ U.out _ _ _ _).alloc (by simp;omega) _,.inl ⟨E.out,rfl⟩⟩
    | true=>
     have u:Hid (iX s.data.toList=if Lib.decDigits (zeros (bss T)) == b.data.toList then some (a.data.toList,bss T) else none):=by unfold Hid;rw [t.out,g,R];rfl
     clear t g R;have zl:=uq (bss T);have aa:(bss T).length=T.length:=by simp [bss]
     go_wp2_with fail
     refine (Gb (zeros (bss T)) (by omega) _ ((o5.later U.out HG.out).later (bR.alloc lr _))).mono ?_
     rintro e l ⟨y,rfl,hy,c⟩;have b5:Hid (Below w.heap.size w l):=U.out.trans ((bR.alloc (by omega) _).trans (c.mono (by simp;omega)))
     have s5:=c.size;simp at s5;have r0:l.cell? ⟨w.heap.size,0,none⟩=some (.string ⟨#[]⟩):=(c.cell (p:=⟨w.heap.size,0,none⟩) (by simp;omega)).trans ((World.cell?_alloc_lt _ _ _ (by exact i)).trans Q)
     have r1:l.cell? ⟨w.heap.size,1,none⟩=some (.int .i64 0):=(c.cell (p:=⟨w.heap.size,1,none⟩) (by simp;omega)).trans ((World.cell?_alloc_lt _ _ _ (by exact i)).trans O)
     have r2:l.cell? ⟨w.heap.size,2,none⟩=some (.int .i64 0):=(c.cell (p:=⟨w.heap.size,2,none⟩) (by simp;omega)).trans ((World.cell?_alloc_lt _ _ _ (by exact i)).trans N)
     have Z:l.cell? ⟨w.heap.size,3,none⟩=some (.slice none 0 0):=(c.cell (p:=⟨w.heap.size,3,none⟩) (by simp;omega)).trans ((World.cell?_alloc_lt _ _ _ (by exact i)).trans M)
     have f5:∀ j,l.frozen? ⟨w.heap.size,j,none⟩=false:=fun j=>(c.frozen (p:=⟨w.heap.size,j,none⟩) (by simp;omega)).trans (by simp [go_sem,i,f4])
     have t0:l.cell? ⟨f.heap.size,0,none⟩=some (.string a):=(c.cell (p:=⟨f.heap.size,0,none⟩) (by simp)).trans (World.cell?_alloc_at _ _ _ _ rfl)
     have t1:l.cell? ⟨f.heap.size,1,none⟩=some (.int .i64 (zeros (bss T))):=(c.cell (p:=⟨f.heap.size,1,none⟩) (by simp)).trans (World.cell?_alloc_at _ _ _ _ rfl)
     have t2:l.cell? ⟨f.heap.size,2,none⟩=some (.int .i64 (lits (bss T))):=(c.cell (p:=⟨f.heap.size,2,none⟩) (by simp)).trans (World.cell?_alloc_at _ _ _ _ rfl)
     have t3:l.cell? ⟨f.heap.size,3,none⟩=some (.slice (some ⟨A,0,none⟩) T.length T.length):=(c.cell (p:=⟨f.heap.size,3,none⟩) (by simp)).trans (World.cell?_alloc_at _ _ _ _ rfl)
     have X:Hid (∀ j (h:j < T.length),l.cell? ⟨A,j,none⟩=some (.string T[j])):=fun j h=>(c.cell (p:=⟨A,j,none⟩) (by simp;omega)).trans ((World.cell?_alloc_lt _ _ _ (by show A < _;omega)).trans (L.out j h))
     clear c Q O N M f4 L
     cases H:(!y.toList == b.toList) with
     | true=>
      have E:Hid (iX s.data.toList=none):=by
       unfold Hid;rw [u.out,<- hy.out];rw [ByteArray.toList_eq,ByteArray.toList_eq] at H;simp at H;simp [H]
      clear u;go_wp2;exact bodyPost_ret (v:=.tuple #[.agg (Eg ⟨#[]⟩ 0 0 none 0),.bool false]) (by simp [results,Tryz.results34,go_sem,r0,r1,r2,Z]) rfl ⟨vZ b5.out _ _ _ _,.inl ⟨E.out,rfl⟩⟩
     | false=>
      have E:Hid (iX s.data.toList=some (a.data.toList,bss T)):=by
       unfold Hid;rw [u.out,<- hy.out];rw [ByteArray.toList_eq,ByteArray.toList_eq] at H;simp at H;simp [H]
      clear u;go_wp2;refine bodyPost_ret (v:=.tuple #[.agg (Eg a (zeros (bss T)) (lits (bss T)) (some ⟨A,0,none⟩) T.length),.bool true]) (by simp [results,Tryz.results34,go_sem,r0,r1,r2,Z]) rfl ⟨vZ b5.out _ _ _ _,.inr ⟨a,T,A,E.out,rfl,by omega,by simp;omega,fun j h=>?_,hn,I.out,ha⟩⟩
      rw [uW (by omega),uW (by omega),uW (by omega),uW (by omega)]
      exact X.out j h
   ·have E:Hid (iX s.data.toList=none):=by unfold Hid;rw [t.out,g];rfl
    clear t g;go_wp2;exact bodyPost_ret (v:=.tuple #[.agg (Eg ⟨#[]⟩ 0 0 none 0),.bool false]) (by simp [results,Tryz.results34,go_sem,Q,O,N,M,i]) rfl ⟨(vZ U.out _ _ _ _).alloc (by simp;omega) _,.inl ⟨E.out,rfl⟩⟩
end
section
open Go Go.RowKit Go.Proofs Go.Deep
theorem vw (t:ByteArray) (n:Int) (w:World) (b:t.size <= 18) (h:Lib.atoi t.data.toList=some n):
  Calls Tryz.prog 37 #[.string t] w fun e a=>e=.returned (.int .i64 n)/\Below w.heap.size w a:=by
 have H:=hide h;clear h;go_enter Tryz.func37,Tryz.ntmps37
 go_wp2_with fail
 refine (Tryz.strconv_Atoi t n b H.out _).mono ?_;rintro e c ⟨rfl,s,rfl⟩;go_wp2;go_ret;exact ⟨rfl,Joins.below_bytesWorld _ _ _ _ lr⟩
theorem Gf:∀ (c:List ByteArray) (i:Nat),0 < zeros (bss c)->Lib.idxFromS c ⟨#[48]⟩ i=((i + ((bss c).takeWhile nz).length:Nat):Int)
 | [],i,h=>by simp [bss,zeros] at h
 | z :: r,i,h=>by
  have e:(z=(⟨#[48]⟩:ByteArray))↔zero z.data.toList=true:=by
   unfold zero;constructor
   ·intro h;subst h;rfl
   ·intro h;have f:z.data.toList=[48]:=by simpa using h
    exact ByteArray.ext (Array.toList_inj.1 f)
  have d:bss (z :: r)=z.data.toList :: bss r:=rfl;unfold Lib.idxFromS;by_cases b:zero z.data.toList=true
  ·rw [if_pos (e.2 b),d];simp [nz,b]
  ·have a:zero z.data.toList=false:=by simpa using b
   rw [if_neg (fun h=>b (e.1 h)),Gf r (i + 1) (by rw [d,pV,a] at h;simpa using h),d]
   simp [nz,a];omega
theorem Tryz.UD:(Tryz.prog.info? 3).map (fun i=>(i.zero,i.size,i.bytes))=some (some (.int .i64 0),1,8):=by kernel_rfl
theorem Tryz.Qh:(Tryz.prog.info? 43).map (fun i=>(i.zero,i.size,i.bytes))=some (some (.slice none 0 0),1,24):=by kernel_rfl
def Bn (T:List Bs):Prop:=∀ t ∈ T,zero t=false->Lib.atoi t=some (fF t)/\t.length <= 18
theorem KM:∀ (c:Nat) (T:List Bs) (j:Nat),((cls c T).getD j []).length <= T.length
 | 0,T,j=>by simp [cls]
 | c + 1,T,0=>by
  simp only [cls,List.getD_cons_zero,List.length_map];exact (List.takeWhile_prefix _).length_le
 | c + 1,T,j + 1=>by
  simp only [cls,List.getD_cons_succ];have:=KM c (T.drop ((T.takeWhile nz).length + 1)) j;simp only [List.length_drop] at this;omega
structure Cut (T:List ByteArray) (C:Nat) (cl:List (List Int)) (k off:Nat):Prop where
 le:off <= T.length
 zs:zeros (bss (T.drop off))=C - k
 cs:cls (C - k) (bss (T.drop off))=cl.drop k
structure U2 (T:List ByteArray) (C:Nat) (cl:List (List Int)) (k off e:Nat):Prop where
 idx:((bss (T.drop off)).takeWhile nz).length=e
 lt:off + e < T.length
 len:(cl.getD k []).length=e
 lits:∀ q (h:off + q < T.length),q < e->zero (T[off + q]).data.toList=false/\fF (T[off + q]).data.toList=(cl.getD k []).getD q 0
 next:Cut T C cl (k + 1) (off + e + 1)
theorem Hl (T:List ByteArray) (n:Nat):bss (T.drop n)=(bss T).drop n:=by simp [bss,List.map_drop]
theorem Cut.step {T:List ByteArray} {C:Nat} {b:List (List Int)} {k off:Nat} (h:Cut T C b k off) (s:k < C):U2 T C b k off ((bss (T.drop off)).takeWhile nz).length:=by
 have m:0 < zeros (bss (T.drop off)):=by rw [h.zs];omega
 obtain ⟨R,l,j,t,r⟩:=GU m;have c:=h.cs;rw [show C - k=(C - (k + 1)) + 1 by omega,cls,j] at c
 have f:b.getD k []=((bss (T.drop off)).takeWhile nz).map fF:=by
  rw [List.getD_eq_getElem?_getD];have:(b.drop k)[0]? = b[k]? := by simp
  rw [<- this,<- c];rfl
 have hd:b.drop (k + 1)=cls (C - (k + 1)) R:=by
  have:(b.drop k).drop 1=b.drop (k + 1):=by rw [List.drop_drop]
  rw [<- this,<- c];rfl
 have e:=congrArg List.length l;simp only [List.length_append,List.length_cons] at e;have p:(bss (T.drop off)).length=T.length - off:=by simp [bss]
 have i:bss (T.drop (off + ((bss (T.drop off)).takeWhile nz).length + 1))=R:=by
  rw [Hl,Nat.add_assoc,<- List.drop_drop,<- Hl,j]
 refine ⟨rfl,by omega,by rw [f];simp,?_,⟨by omega,by rw [i];have:=h.zs;omega,by rw [i,hd]⟩⟩
 intro q o g;have a:(bss (T.drop off))[q]? = some (T[off + q]).data.toList:=by
  simp [bss,o]
 have d:((bss (T.drop off)).takeWhile nz)[q]? = some (T[off + q]).data.toList:=by
  rw [l,List.getElem?_append_left g] at a;exact a
 refine ⟨r _ (List.mem_of_getElem? d),?_⟩;rw [f,List.getD_eq_getElem?_getD,List.getElem?_map,d];rfl
theorem Wm {T:List ByteArray} {C:Nat} {a:List (List Int)} {k off:Nat} (h:Cut T C a k off) (b:k < C):Lib.idxOfS ((T.drop off).take (T.length - off)) ⟨#[48]⟩=((((bss (T.drop off)).takeWhile nz).length:Nat):Int):=by
 rw [List.take_of_length_le (by simp)]
 unfold Lib.idxOfS;rw [Gf _ 0 (by rw [h.zs];omega)]
 simp
theorem xu (v:ByteArray) (T:List ByteArray) (A:Nat) (w:World) (hn:T.length <= 20000) (hA:A < w.heap.size)
  (hc:∀ j (h:j < T.length),w.cell? ⟨A,j,none⟩=some (.string T[j])) (hs:Bn (bss T)):
  Calls Tryz.prog 38 #[.agg (Eg v (zeros (bss T)) (lits (bss T)) (some ⟨A,0,none⟩) T.length)] w fun e Y=>∃ u,e=.returned u/\Below w.heap.size w Y/\
   Lists 43 3 w.heap.size Y u (cls (zeros (bss T)) (bss T)):=by
 have HC:=hide hc;clear hc;have HS:=hide hs;clear hs;have zl:=uq (bss T);have M:(bss T).length=T.length:=by simp [bss]
 obtain ⟨C,G⟩:∃ C,C=zeros (bss T):=⟨_,rfl⟩;obtain ⟨b,f⟩:∃ b,b=cls (zeros (bss T)) (bss T):=⟨_,rfl⟩;have s:Hid (b.length=C):=by unfold Hid;rw [f,G];exact ui _ _
 have U:Hid (b=cls C (bss T)):=by unfold Hid;rw [f,G]
 have HZ:=hide G;rw [<- f,<- G];have aa:C <= 20000:=by omega
 have H:∀ j,Hid ((b.getD j []).length <= 20000):=fun j=>by
  unfold Hid;rw [f];have:=KM (zeros (bss T)) (bss T) j;omega
 clear G f zl M;have Q:=run_make_row' (P:=Tryz.prog) 32 43 (.slice none 0 0) 24 Tryz.underlying32 Tryz.Qh rfl .i64 .i64 C (by omega) (by omega)
 go_enter Tryz.func38,Tryz.ntmps38
 go_wp2;have M0:Hid (Mem 43 3 w.heap.size (w.heap.size + 1) b w ((w.alloc (.cells (Eg v C (lits (bss T)) (some ⟨A,0,none⟩) T.length) 72)).alloc (.cells (madeCells #[.slice none 0 0] C) 43)) 0 (fun _=>0) 20001):=by
  refine ⟨?_,fun j m=>absurd m (Nat.not_lt_zero _),fun j j' _ h=>absurd h (Nat.not_lt_zero _),(bR.alloc lr _).alloc (by simp) _,by omega⟩
  rw [s.out];have hr:=World.rowIs_made (w.alloc (.cells (Eg v C (lits (bss T)) (some ⟨A,0,none⟩) T.length) 72)) (.slice none 0 0) C 43;simp only [World.size_alloc] at hr;exact hr.congr fun i hi=>by simp [wN]
 go_loopw [4,16] (fun t i wr=>∃ (k off:Nat) (B:Nat->Nat) (S:Option Addr),k <= C/\i=.int .i64 k/\t=.slice S (T.length - off) (T.length - off)/\(off < T.length->S=some ⟨A,off,none⟩)/\
   Hid (Cut T C b k off)/\Hid (Mem 43 3 w.heap.size (w.heap.size + 1) b w wr k B 20001)) (fun _ i _=>C - (intOf i).toNat)
 case atStart=>exact ⟨0,0,fun _=>0,some ⟨A,0,none⟩,zl,rfl,rfl,fun _=>rfl,⟨zl,HZ.out.symm,U.out.symm⟩,M0⟩
 case round=>
  clear M0 Q;obtain ⟨k,off,B,S,hk,rfl,rfl,E,hcut,a⟩:=hrel;by_cases c:k < C
  ·have N:=hide (hcut.out.step c);have I:=hide (Wm hcut.out c);obtain ⟨e,he⟩:∃ e,e=((bss (T.drop off)).takeWhile nz).length:=⟨_,rfl⟩;rw [<- he] at N I;clear he;have n1:=N.out.lt;have D:=E (by omega)
   subst D;have cC:=a.out.outer.cell (i:=k) (by rw [s.out];exact c)
   rw [show wN b B k k=.slice none 0 0 from by simp [wN]] at cC
   have fC:=a.out.outer.frozen k;have lC:=a.out.outer.lt;clear E;go_wp2_with fail
   refine (Tryz.slices_Index_string A off (T.length - off) (T.length - off) (T.drop off) _ _ (by simp) (by omega) ?_).mono ?_
   ·intro j m;rw [a.out.below.cell (p:=⟨A,off + j,none⟩) hA];have z:off + j < T.length:=by simp at m;omega
    rw [HC.out (off + j) z];simp [List.getD_eq_getElem?_getD,z]
   rintro L l ⟨rfl,rfl⟩;rw [I.out];have O:=run_make_row' (P:=Tryz.prog) 43 3 (.int .i64 0) 8 Tryz.underlying43 Tryz.UD rfl .i64 .i64 e (by omega) (by omega)
   go_wp2;have M1:Hid (Mem 43 3 w.heap.size (w.heap.size + 1) b w ((l.setCell ⟨w.heap.size + 1,k,none⟩ (.slice (some ⟨l.heap.size,0,none⟩) e e)).alloc (.cells (madeCells #[.int .i64 0] e) 3)) (k + 1) (fun j=>if j=k then l.heap.size else B j) 0):=
    a.out.push (by rw [s.out];exact c) (fun j m=>by
     have:=jV (H j);omega) e N.out.len.symm
   clear O cC fC;go_loopw [30] (fun i wr=>∃ p:Nat,p <= e/\i=.int .i64 p/\Hid (Mem 43 3 w.heap.size (w.heap.size + 1) b w wr (k + 1) (fun j=>if j=k then l.heap.size else B j) p)) (fun i _=>e - (intOf i).toNat)
   case atStart=>exact ⟨0,zl,rfl,M1⟩
   case round=>
    clear M1;obtain ⟨p,hp,rfl,o⟩:=hrel;by_cases y:p < e
    ·have cO:=o.out.outer.cell (i:=k) (by rw [s.out];exact c)
     rw [show wN b (fun j=>if j=k then l.heap.size else B j) (k + 1) k=.slice (some ⟨l.heap.size,0,none⟩) e e from by simp [wN,Yp];exact N.out.len] at cO
     have d:=(o.out.inner k (by omega)).2
     simp only [if_true] at d;have cI:=d.cell (i:=p) (by rw [N.out.len];exact y)
     rw [show partAt (b.getD k []) (k + 1 == k + 1) p p=.int .i64 0 from by simp [partAt]] at cI
     have fI:=d.frozen p;have lI:=d.lt;have lO:=o.out.outer.lt;clear d;have r:off + p < T.length:=by omega
     have cT:wr.cell? ⟨A,off + p,none⟩=some (.string T[off + p]):=by
      rw [o.out.below.cell (p:=⟨A,off + p,none⟩) hA];exact HC.out (off + p) r
     obtain ⟨X,W⟩:=N.out.lits p r y;obtain ⟨J,s2⟩:=HS.out (T[off + p]).data.toList (by simp only [bss,List.mem_map];exact ⟨_,List.getElem_mem r,rfl⟩) X
     rw [W] at J;have Z:(T[off + p]).size <= 18:=by simpa using s2
     obtain ⟨t,ht⟩:∃ t,t=T[off + p]:=⟨_,rfl⟩;rw [<- ht] at cT J Z;have S1:=hide J;clear ht J s2 X W;obtain ⟨x,R⟩:∃ x,x=(b.getD k []).getD p 0:=⟨_,rfl⟩;rw [<- R] at S1;have HX:=hide R;clear R;have ab:A < wr.heap.size:=by have:=o.out.below.size;omega
     go_wp2;go_region_with ((go_at_call 37;refine (vw t x _ Z S1.out).mono ?_;rintro e2 w2 ⟨rfl,g⟩;have d1:=(g.cell (p:=⟨l.heap.size,p,none⟩) lI).trans cI;have d2:=(g.frozen (p:=⟨l.heap.size,p,none⟩) lI).trans fI;have d3:=(g.cell (p:=⟨w.heap.size + 1,k,none⟩) lO).trans cO;have V:=hide g;clear g))
     all_goals
      go_wp2;go_roundw
      case rel=>
       refine ⟨p + 1,by omega,by go_num,?_⟩
       have m2:=(o.out.later ((Below.refl _ wr).drew.trans V.out)).put x HX.out;simp only [if_true] at m2;exact m2
      case measure=>simp [intOf];omega
    ·have L:p=e:=by omega
     subst L;have nx:=hide N.out.next;have ML:Hid (Mem 43 3 w.heap.size (w.heap.size + 1) b w wr (k + 1) (fun j=>if j=k then l.heap.size else B j) 20001):=by
      have h:=o.out;refine ⟨h.outer,fun j m=>⟨(h.inner j m).1,(h.inner j m).2.congr fun q hq=>?_⟩,h.iC,h.below,h.mr⟩
      by_cases e:j=k
      ·subst e;rw [N.out.len] at hq;rw [oz hq,oz (by omega)]
      ·have:(j + 1 == k + 1)=false:=by simp;omega
       rw [this,iW,iW]
     go_wp2;refine ⟨⟨k + 1,off + p + 1,_,(if T.length - off=p + 1 then some { block:=A,off:=off } else some { block:=A,off:=off + (p + 1) }),by omega,by go_num,?_,fun h=>?_,nx.out,ML.out⟩,by simp [intOf];omega⟩
     ·rw [show T.length - (off + p + 1)=T.length - off - (p + 1) by omega]
     ·rw [if_neg (by omega),show off + (p + 1)=off + p + 1 by omega]
  ·have L:k=C:=by omega
   subst L;have K:=a.out;rw [<- s.out] at K;have LL:=hide (K.lists (fun j m=>by have:=jV (H j);omega))
   have HB:=hide K.below;clear K;rw [s.out] at LL;go_wp2;go_ret;exact ⟨_,rfl,HB.out,LL.out⟩
def qC (s:Bs):Int × List (List Int) × Int:=
 if 20000 < s.length then (0,[],1)
 else match iX s with
  | none=>(0,[],2)
  | some (v,T)=>if above v [53,48] || decide (700 < lits T) then (0,[],1) else (gV v,cls (zeros T) T,0)
theorem EU {s v:Bs} {T:List Bs} (h:iX s=some (v,T)):gZ v=true/\kU v T=true/\jF T=true:=by
 unfold iX at h
 cases d:(jh (s.length + 1) s).bind rC with
 | none=>rw [d] at h;simp at h
 | some o=>
  obtain ⟨f,c,r⟩:=o;rw [d] at h;simp only at h;split at h
  ·rename_i b;simp only [Option.some.injEq,Prod.mk.injEq] at h;obtain ⟨rfl,rfl⟩:=h;simp only [Bool.and_eq_true] at b;refine ⟨?_,b.1.1,b.1.2⟩;obtain ⟨x,_,a⟩:=Option.bind_eq_some_iff.1 d;unfold rC at a;split at a
   ·rename_i e;simp only [Bool.and_eq_true] at e;simp only [Option.some.injEq,Prod.mk.injEq] at a;rw [<- a.1];exact e.1.2
   ·cases a
  ·cases h
theorem OH {v:Bs} {T:List Bs} (h:kU v T=true) (e:v.length <= 2):Bn T:=by
 intro t d c;have:=List.all_eq_true.1 h t d;rw [c,Bool.false_or] at this;have a:(strip t).length <= 2:=by
  have b:=this;unfold jE at b;simp only [Bool.and_eq_true,Bool.not_eq_true'] at b;have:=lJ b.2;omega
 refine ⟨Ht this (by omega),?_⟩
 unfold strip at a;split at a
 ·simp at a;omega
 ·omega
theorem Ji (w:World):Calls Tryz.prog 36 #[.int .i64 50] w fun e a=>e=.returned (.string ⟨#[53,48]⟩)/\a=w:=by
 refine (Tryz.strconv_Itoa_small 50 (by omega) w).mono ?_
 rintro e a ⟨rfl,rfl⟩;exact ⟨by rw [show Lib.decDigits 50=[53,48] from by decide +kernel],rfl⟩
theorem vR (v:ByteArray) (b:Bool) (w:World) (d:v.size <= 20000) (c:above v.data.toList [53,48]=b):
  Calls Tryz.prog 35 #[.string v,.string ⟨#[53,48]⟩] w fun e a=>e=.returned (.bool b)/\a=w:=by
 refine (wU v ⟨#[53,48]⟩ w (by unfold maxLen;omega) (by decide)).mono ?_
 rintro e a ⟨rfl,rfl⟩;exact ⟨by rw [show above v.data.toList (⟨#[53,48]⟩:ByteArray).data.toList=b from c],rfl⟩
def UZ (r:Int × List (List Int) × Int) (w w':World) (e:Ending):Prop:=
 ∃ u,e=.returned (.tuple #[.int .i64 r.1,u,.int .i64 r.2.2])/\((r.2.1=[]/\u=.slice none 0 0)\/Lists 43 3 w.heap.size w' u r.2.1)
theorem yE (s:ByteArray) (w:World) (Q:s.size <= maxLen) (H:o5 w):
  Calls Tryz.prog 18 #[.string s] w fun e G=>Below w.heap.size w G/\UZ (qC s.data.toList) w G e:=by
 unfold maxLen at Q;by_cases y:20000 < s.size
 ·have E:Hid (qC s.data.toList=(0,[],1)):=by unfold Hid qC;rw [if_pos (by simpa using y)]
  go_enter Tryz.func18,Tryz.ntmps18
  go_wp2;go_ret3
  exact ⟨bR,_,by rw [E.out];rfl,.inl ⟨by rw [E.out],rfl⟩⟩
 ·have S:¬ (20000:Int) < (s.size:Int):=by omega
  have W:=hide H;clear H;go_enter Tryz.func18,Tryz.ntmps18
  go_wp2_with fail
  refine (Mi s w (by omega) W.out).mono ?_
  rintro e o ⟨b,⟨f,rfl⟩ | ⟨v,T,A,f,rfl,hA,x,I,R,J,t⟩⟩
  ·have E:Hid (qC s.data.toList=(0,[],2)):=by unfold Hid qC;rw [if_neg (by simpa using y),f]
   clear f;go_wp2;go_ret3;exact ⟨b.alloc (by exact b.size) _,_,by rw [E.out];rfl,.inl ⟨by rw [E.out],rfl⟩⟩
  ·have g:Hid (qC s.data.toList=if above v.data.toList [53,48] || decide (700 < lits (bss T)) then (0,[],1) else (gV v.data.toList,cls (zeros (bss T)) (bss T),0)):=by
    unfold Hid qC;rw [if_neg (by simpa using y),f]
   obtain ⟨L,K,U⟩:=EU f;have Z:=hide L;have Y:=hide K;have X:=hide I;have HT:=hide J;have c:=hide b;have r:=b.size;clear f L K U I J b;have zl:=uq (bss T);have ll:=Ku (bss T);have M:(bss T).length=T.length:=by simp [bss]
   cases l:above v.data.toList [53,48] with
   | true=>
    have E:Hid (qC s.data.toList=(0,[],1)):=by unfold Hid;rw [g.out,l];rfl
    have d:=hide l;clear l g;go_wp2
    go_quiet ((first | (go_at_call 36;exact Calls.quiet_of_same (Ji _)) | (go_at_call 35;exact Calls.quiet_of_same (vR v true _ t d.out))))
    go_wp2;go_ret3
    exact ⟨nC (c.out.alloc r _) _,_,by rw [E.out];rfl,.inl ⟨by rw [E.out],rfl⟩⟩
   | false=>
    have d:=hide l;clear l;by_cases q:700 < lits (bss T)
    ·have E:Hid (qC s.data.toList=(0,[],1)):=by unfold Hid;rw [g.out,d.out];simp [q]
     have hd:decide ((700:Int) < (lits (bss T):Int))=true:=by simp;omega
     clear q g;go_wp2
     go_quiet ((first | (go_at_call 36;exact Calls.quiet_of_same (Ji _)) | (go_at_call 35;exact Calls.quiet_of_same (vR v false _ t d.out))))
     go_wp2;go_ret3
     exact ⟨nC (c.out.alloc r _) _,_,by rw [E.out];rfl,.inl ⟨by rw [E.out],rfl⟩⟩
    ·have E:Hid (qC s.data.toList=(gV v.data.toList,cls (zeros (bss T)) (bss T),0)):=by unfold Hid;rw [g.out,d.out];simp [q]
     have hd:decide ((700:Int) < (lits (bss T):Int))=false:=by simp;omega
     have N:v.size <= 2:=by have:=lJ d.out;simpa using this
     have AT:=hide (Hr Z.out (by simp;omega))
     have V:=hide (OH Y.out (by simpa using N))
     clear q g;go_wp2
     go_quiet ((first | (go_at_call 36;exact Calls.quiet_of_same (Ji _)) | (go_at_call 35;exact Calls.quiet_of_same (vR v false _ t d.out))))
     go_wp2;go_region_with (first
      |(go_at_call 37;refine (vw v (gV v.data.toList) _ (by omega) AT.out).mono ?_;rintro e2 D ⟨rfl,a⟩;have d0:=a.cell (p:=⟨o.heap.size,0,none⟩) (by simp);have d1:=a.cell (p:=⟨o.heap.size,1,none⟩) (by simp);have d2:=a.cell (p:=⟨o.heap.size,2,none⟩) (by simp);have d3:=a.cell (p:=⟨o.heap.size,3,none⟩) (by simp);have A2:Hid (A < D.heap.size):=(by have:=a.size;simp at this;unfold Hid;omega);have C2:Hid (∀ j (h:j < T.length),D.cell? ⟨A,j,none⟩=some (.string T[j])):=fun j h=>(a.cell (p:=⟨A,j,none⟩) (by simp;omega)).trans ((World.cell?_alloc_lt _ _ _ (by exact x)).trans (X.out j h));have m:=hide a;clear a)
      |(go_at_call 38;refine (xu v T A _ R (by exact A2.out) (by exact C2.out) V.out).mono ?_;rintro e3 w3 ⟨u,rfl,k,i⟩;have B:=hide k;have z:=hide i;clear k i))
     all_goals
      go_wp2;go_ret3
      have O:=m.out.size;simp at O;refine ⟨?_,u,by rw [E.out];rfl,.inr ?_⟩
      ·refine Below.trans (Below.trans (nC (c.out.alloc r _) _) (Below.trans (Below.drew bR) (m.out.mono (by simp;omega)))) (B.out.mono (by omega))
      ·rw [E.out];exact z.out.mono (by omega)
end
section
open Go
def eU (c:UInt8):Bs->List Bs
 | []=>[[]]
 | x :: l=>if x == c then [] :: eU c l else match eU c l with | h :: t=>(x :: h) :: t | []=>[[x]]
theorem kW (c:UInt8) (l:Bs):∃ h t,eU c l=h :: t:=by
 cases l with
 | nil=>exact ⟨_,_,rfl⟩
 | cons x l=>
  unfold eU;split
  ·exact ⟨_,_,rfl⟩
  ·split
   ·exact ⟨_,_,rfl⟩
   ·exact ⟨_,_,rfl⟩
def uA (c:UInt8) (st:List Bs × Bs) (x:UInt8):List Bs × Bs:=if x == c then (st.1 ++ [st.2],[]) else (st.1,st.2 ++ [x])
theorem Cy (c:UInt8) (l:Bs):Cz c l=l.foldl (uA c) ([],[]):=rfl
def uZ (cur:Bs):List Bs->List Bs
 | h :: t=>(cur ++ h) :: t
 | []=>[cur]
theorem tO (c:UInt8):∀ (l:Bs) (b:List Bs) (a:Bs),(l.foldl (uA c) (b,a)).1 ++ [(l.foldl (uA c) (b,a)).2]=b ++ uZ a (eU c l)
 | [],b,a=>by simp [eU,uZ]
 | x :: l,b,a=>by
  simp only [List.foldl_cons]
  cases h:(x == c) with
  | true=>
   simp only [uA,h,if_true];rw [tO c l];obtain ⟨f,d,e⟩:=kW c l;simp [eU,h,uZ,e]
  | false=>
   simp only [uA,h,Bool.false_eq_true,if_false];rw [tO c l];obtain ⟨f,d,e⟩:=kW c l;simp [eU,h,uZ,e]
theorem rX (c:UInt8) (l:Bs):splitB c l=eU c l:=by
 have:=tO c l [] [];unfold splitB;rw [Cy,this];obtain ⟨b,a,e⟩:=kW c l;simp [uZ,e]
theorem qN {c:UInt8}:∀ {l h:Bs} {t:List Bs},eU c l=h :: t->t ≠ []->∃ a,l=h ++ c :: a/\eU c a=t
 | [],h,t,e,ht=>by simp [eU] at e;exact absurd e.2.symm (fun x=>ht x.symm)
 | x :: l,h,t,e,ht=>by
  unfold eU at e
  cases b:(x == c) with
  | true=>
   rw [b,if_pos rfl] at e;simp only [List.cons.injEq] at e;have g:x=c:=by simpa using b
   exact ⟨l,by rw [<- e.1,g];rfl,e.2⟩
  | false=>
   rw [b,if_neg (by simp)] at e
   obtain ⟨i,f,d⟩:=kW c l;rw [d] at e;simp only [List.cons.injEq] at e;obtain ⟨a,k,j⟩:=qN (l:=l) (h:=i) (t:=f) d (by rw [e.2];exact ht)
   exact ⟨a,by rw [k,<- e.1];rfl,by rw [j,e.2]⟩
def upto (c:UInt8) (l:Bs):Bs:=l.takeWhile (fun x=>!(x == c))
def hasB (c:UInt8) (l:Bs):Bool:=decide ((upto c l).length < l.length)
theorem lN (c:UInt8):∀ (l:Bs),eU c l=if hasB c l then upto c l :: eU c (l.drop ((upto c l).length + 1)) else [l]
 | []=>rfl
 | x :: l=>by
  rw [show eU c (x :: l)=if x == c then [] :: eU c l else match eU c l with | h :: t=>(x :: h) :: t | []=>[[x]] from rfl]
  cases b:(x == c) with
  | true=>
   have e:upto c (x :: l)=[]:=by simp [upto,b]
   have a:hasB c (x :: l)=true:=by unfold hasB;rw [e];simp
   rw [a,e];rfl
  | false=>
   have e:upto c (x :: l)=x :: upto c l:=by simp [upto,b]
   have a:hasB c (x :: l)=hasB c l:=by unfold hasB;rw [e];simp
   rw [a,e,if_neg (by simp),lN c l]
   cases hasB c l <;> rfl
theorem index_one (c:UInt8):∀ (l:Bs),Lib.index l [c]=if hasB c l then ((upto c l).length:Int) else -1
 | []=>by simp [Lib.index,upto,hasB]
 | x :: r=>by
  have b:=index_one c r;by_cases h:x=c
  ·subst h;simp [Lib.index,upto,hasB,List.isPrefixOf]
  ·have f:¬ c=x:=fun e=>h e.symm
   have d:(x == c)=false:=by simpa using h
   unfold Lib.index;rw [show List.isPrefixOf [c] (x :: r)=false from by simp [List.isPrefixOf,f],b]
   have a:upto c (x :: r)=x :: upto c r:=by simp [upto,d]
   have g:hasB c (x :: r)=hasB c r:=by unfold hasB;rw [a];simp
   rw [g,a];cases hasB c r <;> simp
theorem DV (c:UInt8) (l:Bs):Lib.cut l [c]=if hasB c l then (upto c l,l.drop ((upto c l).length + 1),true) else (l,[],false):=by
 unfold Lib.cut;rw [index_one];cases h:hasB c l
 ·simp
 ·have a:l.take (upto c l).length=upto c l:=by
   have:=List.takeWhile_prefix (l:=l) (p:=fun x=>!(x == c))
   exact (List.prefix_iff_eq_take.1 this).symm
  simp [a]
theorem qL {p:UInt8->Bool}:∀ (l:Bs),(∀ c ∈ l,p c=true)->l.takeWhile p=l
 | [],_=>rfl
 | a :: l,h=>by rw [List.takeWhile_cons,if_pos (h a (by simp)),qL l (fun c b=>h c (by simp [b]))]
theorem Mo {l:Bs} (h:gZ l=true):hasB 32 l=false:=by
 have hd:=(nH h).1;have:upto 32 l=l:=by
  unfold upto;refine qL l fun x a=>?_
  have:=List.all_eq_true.1 hd x a;simp [qE] at this;simp [<- UInt8.toNat_inj];omega
 unfold hasB;rw [this];simp
theorem ET (d:Bs):uG d=if Lib.hasPrefix d kE && (Lib.cut (Lib.trimPrefix d kE) [32]).2.2 && gZ (Lib.cut (Lib.trimPrefix d kE) [32]).1 && gZ (Lib.cut (Lib.trimPrefix d kE) [32]).2.1
  then some ((Lib.cut (Lib.trimPrefix d kE) [32]).1,(Lib.cut (Lib.trimPrefix d kE) [32]).2.1) else none:=by
 unfold uG;rw [rX]
 cases g:Lib.hasPrefix d kE with
 | true=>
  have h:Lib.trimPrefix d kE=d.drop 6:=by unfold Lib.trimPrefix;rw [g];rfl
  obtain ⟨n,j⟩:=List.isPrefixOf_iff_prefix.1 (show kE.isPrefixOf d=true from g)
  have hd:d.drop 6=n:=by rw [<- j];rfl
  rw [h,hd];have m:eU 32 d=[112] :: [99,110,102] :: eU 32 n:=by
   obtain ⟨r,l,e⟩:=kW 32 n;rw [<- j];simp [eU,e,kE]
  rw [m,DV,lN]
  cases y:hasB 32 n with
  | true=>
   simp only [if_true];rw [lN]
   cases f:hasB 32 (n.drop ((upto 32 n).length + 1)) with
   | true=>
    simp only [if_true];obtain ⟨r,l,e⟩:=kW 32 ((n.drop ((upto 32 n).length + 1)).drop ((upto 32 (n.drop ((upto 32 n).length + 1))).length + 1));rw [e];have:gZ (n.drop ((upto 32 n).length + 1))=false:=by
     rw [Bool.eq_false_iff];intro o;rw [Mo o] at f;cases f
    simp [this]
   | false=>
    simp
  | false=>
   simp
 | false=>
  simp only [Bool.false_and];split
  ·rename_i a b v c i;split
   ·rename_i k;exfalso;simp only [Bool.and_eq_true,beq_iff_eq] at k;obtain ⟨⟨⟨q,p⟩,_⟩,_⟩:=k;subst q p;obtain ⟨x,u,t⟩:=qN i (by simp)
    obtain ⟨w,s,z⟩:=qN t (by simp)
    rw [u,s] at g;simp [Lib.hasPrefix,kE,List.isPrefixOf] at g
   ·rfl
  ·rfl
theorem TE (r:Bs):uG (99 :: r)=none:=by
 rw [ET];have:Lib.hasPrefix (99 :: r) kE=false:=by simp [Lib.hasPrefix,kE,List.isPrefixOf]
 rw [this];rfl
theorem Gh:∀ (f:Nat) (l:Bs),l.length < f->(jh f l).bind rC=pK f l
 | 0,l,h=>by omega
 | f + 1,l,h=>by
  unfold jh pK;rw [Gj]
  cases d:(l.head? == some 99) with
  | true=>
   have c:l.head? = some 99:=by simpa using d
   simp only [if_true]
   cases e:ended l with
   | false=>rfl
   | true=>
    simp only [Bool.true_and,if_true]
    cases a:comment (line l) with
    | true=>
     simp only [if_true];exact Gh f _ (by have:=EK e;omega)
    | false=>
     obtain ⟨r,b⟩:=V8 c;rw [b,TE];rfl
  | false=>
   simp only [Bool.false_eq_true,if_false,Option.bind_some];unfold rC
   cases e:ended l with
   | false=>rfl
   | true=>
    simp only [Bool.true_and,if_true];have a:comment (line l)=false:=by
     rw [Bool.eq_false_iff];intro a;have:∃ r,line l=99 :: r:=by
      unfold comment at a;simp only [Bool.or_eq_true,beq_iff_eq] at a
      rcases a with a | a
      ·exact ⟨[],a⟩
      ·obtain ⟨t,g⟩:=List.isPrefixOf_iff_prefix.1 (show List.isPrefixOf [99,32] (line l)=true from a)
       exact ⟨32 :: t,by rw [<- g];rfl⟩
     obtain ⟨r,b⟩:=this;have:=MM b;rw [this] at d;simp at d
    rw [a,ET];simp only [Bool.false_eq_true,if_false];split <;> rfl
theorem CY (s:Bs):qC s=lT s:=by
 unfold qC lT iX;by_cases h:20000 < s.length
 ·rw [if_pos h,if_pos h]
 ·rw [if_neg h,if_neg h,Gh (s.length + 1) s (by omega)]
  cases pK (s.length + 1) s with
  | none=>rfl
  | some o=>
   obtain ⟨v,c,r⟩:=o;simp only;unfold body;rw [Pq,vW,JJ _ (toks r) rfl];show _=_
   rw [show (List.isEmpty (toks r) || (toks r).getLast? == some [48])=jF (toks r) from rfl]
   cases kU v (toks r) with
   | false=>rfl
   | true=>
    generalize jF (toks r)=a;generalize (Lib.decDigits (zeros (toks r)) == c)=b2;cases a <;> cases b2 <;> rfl
theorem y8 (v:Bs):∀ (T:List Bs) (z:Bs),mH v (T ++ [z])=if zero z && T.all (jE v) then some (T.map fF) else none
 | [],z=>by
  show mH v [z]=_
  unfold mH;cases zero z <;> rfl
 | t :: r,z=>by
  have c:=y8 v r z;obtain ⟨a,b,e⟩:∃ a b,r ++ [z]=a :: b:=by cases r <;> exact ⟨_,_,rfl⟩
  have:mH v ((t :: r) ++ [z])=if jE v t then (mH v (r ++ [z])).map (fF t :: ·) else none:=by
   rw [List.cons_append,e];rfl
  rw [this,c];cases f:jE v t <;> cases g:zero z <;> cases d:r.all (jE v) <;> simp [f,d]
def qD (v:Bs):Nat->Bs->Option Cl
 | 0,_=>none
 | f + 1,s=>if s == [48] then some [] else if hasB 32 s && jE v (upto 32 s) then (qD v f (s.drop ((upto 32 s).length + 1))).map (fF (upto 32 s) :: ·) else none
theorem Gl {c:UInt8} {s:Bs} (h:hasB c s=true):(s.drop ((upto c s).length + 1)).length < s.length:=by
 unfold hasB at h;simp at h;simp;omega
theorem y7 (v:Bs):∀ (f:Nat) (s:Bs),s.length < f->qD v f s=mH v (eU 32 s)
 | 0,s,h=>by omega
 | f + 1,s,h=>by
  unfold qD;rw [lN]
  cases c:hasB 32 s with
  | true=>
   have g:=y7 v f (s.drop ((upto 32 s).length + 1)) (by have:=Gl c;omega)
   have d:(s == [48])=false:=by
    rw [beq_eq_false_iff_ne];intro e;rw [e] at c;revert c;decide
   rw [d,g];obtain ⟨a,b,e⟩:=kW 32 (s.drop ((upto 32 s).length + 1));simp only [Bool.false_eq_true,if_false,if_true,Bool.true_and];rw [e];rfl
  | false=>
   simp only [Bool.false_and,Bool.false_eq_true,if_false];unfold mH zero;rfl
def PZ (v:Bs) (l:Bs):Option (Bool × Cl):=
 if Lib.hasPrefix l [100,32] then (qD v (l.length + 1) (l.drop 2)).map fun c=>(true,c) else (qD v (l.length + 1) l).map fun c=>(false,c)
theorem Pd (l:Bs):Lib.hasPrefix l [100,32]=(hasB 32 l && (upto 32 l == [100])):=by
 unfold Lib.hasPrefix
 match l with
 | []=>rfl
 | [a]=>
  by_cases d:a=32
  ·subst d;decide
  ·have e:upto 32 [a]=[a]:=by simp [upto,d]
   have:hasB 32 [a]=false:=by unfold hasB;rw [e];simp
   rw [this];simp [List.isPrefixOf]
 | a :: b :: r=>
  by_cases d:a=32
  ·subst d;have e:upto 32 (32 :: b :: r)=[]:=by simp [upto]
   rw [e];simp [List.isPrefixOf]
  ·by_cases f:b=32
   ·subst f;have e:upto 32 (a :: 32 :: r)=[a]:=by simp [upto,d]
    have i:hasB 32 (a :: 32 :: r)=true:=by unfold hasB;rw [e];simp
    rw [e,i];by_cases c:a=100
    ·subst c;simp [List.isPrefixOf]
    ·have:¬ (100:UInt8)=a:=fun e=>c e.symm
     have h:((100:UInt8) == a)=false:=by simpa using this
     have g:(a == (100:UInt8))=false:=by simpa using c
     simp [List.isPrefixOf,h,g]
   ·have e:upto 32 (a :: b :: r)=a :: b :: upto 32 r:=by simp [upto,d,f]
    have:¬ (32:UInt8)=b:=fun e=>f e.symm
    rw [e];simp [List.isPrefixOf,this]
theorem PY (v l:Bs):PZ v l=oF v l:=by
 unfold PZ oF;rw [rX,Pd,y7 v _ l (by omega),lN 32 l]
 cases b:hasB 32 l with
 | true=>
  simp only [Bool.true_and,if_true,List.head?_cons,List.tail_cons,Option.some.injEq];by_cases a:upto 32 l=[100]
  ·rw [if_pos (by simpa using a),if_pos a,y7 v _ (l.drop 2) (by simp;omega),a]
   rfl
  ·rw [if_neg (by simpa using a),if_neg a]
 | false=>
  simp only [Bool.false_and,Bool.false_eq_true,if_false,List.head?_cons,List.tail_cons,Option.some.injEq];by_cases a:l=[100]
  ·rw [if_pos a];subst a;rfl
  ·rw [if_neg a]
theorem nu {c:UInt8} (h:qE c=true):∃ d,d < 10/\c=UInt8.ofNat (48 + d):=by
 unfold qE at h;simp only [Bool.and_eq_true,decide_eq_true_eq] at h;refine ⟨c.toNat - 48,by omega,?_⟩
 rw [<- UInt8.toNat_inj];simp;omega
theorem TJ:∀ V,V < 51->∀ d,d < 10->([UInt8.ofNat (48 + d)] == [48])=false->above [UInt8.ofNat (48 + d)] (Lib.decDigits V)=false->1 <= gV [UInt8.ofNat (48 + d)]/\gV [UInt8.ofNat (48 + d)] <= 50:=by decide +kernel
def Oj (V d e:Nat):Bool:=!gZ [UInt8.ofNat (48 + d),UInt8.ofNat (48 + e)] || above [UInt8.ofNat (48 + d),UInt8.ofNat (48 + e)] (Lib.decDigits V) || (decide (1 <= gV [UInt8.ofNat (48 + d),UInt8.ofNat (48 + e)]) && decide (gV [UInt8.ofNat (48 + d),UInt8.ofNat (48 + e)] <= 50))
theorem Tc:((List.range 51).all fun V=>(List.range 10).all fun d=>(List.range 10).all fun e=>Oj V d e)=true:=by decide +kernel
theorem Ta (V:Nat) (b:V < 51) (d:Nat) (hd:d < 10) (e:Nat) (a:e < 10) (f:gZ [UInt8.ofNat (48 + d),UInt8.ofNat (48 + e)]=true) (c:above [UInt8.ofNat (48 + d),UInt8.ofNat (48 + e)] (Lib.decDigits V)=false):1 <= gV [UInt8.ofNat (48 + d),UInt8.ofNat (48 + e)]/\gV [UInt8.ofNat (48 + d),UInt8.ofNat (48 + e)] <= 50:=by
 have:=List.all_eq_true.1 (List.all_eq_true.1 (List.all_eq_true.1 Tc V (List.mem_range.2 b)) d (List.mem_range.2 hd)) e (List.mem_range.2 a);unfold Oj at this;rw [f,c] at this;simpa using this
theorem Q8:∀ V,V < 51->(Lib.decDigits V).length <= 2:=by decide +kernel
theorem BP {V:Nat} (q:V <= 50) {t:Bs} (h:jE (Lib.decDigits V) t=true):1 <= gV (strip t)/\gV (strip t) <= 50/\(strip t).length <= 2:=by
 unfold jE at h;simp only [Bool.and_eq_true,Bool.not_eq_true'] at h;obtain ⟨⟨o,p⟩,m⟩:=h;have k:=Nat.le_trans (lJ m) (Q8 V (by omega))
 obtain ⟨hd,j⟩:=nH o;generalize strip t=x at *
 match x,k with
 | [],_=>exact absurd rfl j
 | [a],_=>
  obtain ⟨d,f,rfl⟩:=nu (by simpa using hd)
  obtain ⟨i,g⟩:=TJ V (by omega) d f p m
  exact ⟨i,g,by simp⟩
 | [a,b],_=>
  simp only [List.all_cons,List.all_nil,Bool.and_true,Bool.and_eq_true] at hd;obtain ⟨d,f,rfl⟩:=nu hd.1;obtain ⟨e,l,rfl⟩:=nu hd.2;obtain ⟨i,g⟩:=Ta V (by omega) d f e l o m
  exact ⟨i,g,by simp⟩
 | a :: b :: c :: r,k=>simp at k
theorem PU {V:Nat} (a:V <= 50) {t:Bs} (h:jE (Lib.decDigits V) t=true):jH (fF t):=by
 obtain ⟨c,b,_⟩:=BP a h;unfold fF jH;split
 ·right;omega
 ·left;omega
theorem Dx {V:Nat} (f:V <= 50):∀ {T:List Bs} {c:Cl},mH (Lib.decDigits V) T=some c->∀ l ∈ c,jH l
 | [],c,h=>by simp [mH] at h
 | [t],c,h=>by
  unfold mH at h;split at h
  ·cases h;intro l e;simp at e
  ·cases h
 | t :: b :: r,c,h=>by
  have:mH (Lib.decDigits V) (t :: b :: r)=if jE (Lib.decDigits V) t then (mH (Lib.decDigits V) (b :: r)).map (fF t :: ·) else none:=rfl
  rw [this] at h;split at h
  ·rename_i e;obtain ⟨d,hd,rfl⟩:=Option.map_eq_some_iff.1 h;intro l a
   rcases List.mem_cons.1 a with rfl | a
   ·exact PU f e
   ·exact Dx f hd l a
  ·cases h
theorem Uh {V:Nat} (a:V <= 50) {l:Bs} {g:Bool} {c:Cl} (h:oF (Lib.decDigits V) l=some (g,c)):∀ l ∈ c,jH l:=by
 unfold oF at h;split at h
 ·obtain ⟨d,hd,e⟩:=Option.map_eq_some_iff.1 h;cases e;exact Dx a hd
 ·obtain ⟨d,hd,e⟩:=Option.map_eq_some_iff.1 h;cases e;exact Dx a hd
end
end Rd
end Go.Proofs.YtceahffmenbibaaGreatDoor
namespace Go.Proofs.YtceahffmenbibaaGreatDoor
namespace So
section
open Rd
section
theorem Bu:∀ (n:Nat) (l:List Bool),l.length < n->gN n l % 2=0
 | 0,l,h=>by omega
 | n + 1,[],_=>rfl
 | n + 1,b :: r,h=>by
  have a:r.length < n:=by simpa using h
  have c:=Bu n r a;obtain ⟨m,rfl⟩:∃ m,n=m + 1:=⟨n - 1,by omega⟩
  simp only [gN];cases b
  ·simp;omega
  ·simp only [if_true];rw [Nat.pow_succ];omega
theorem EP {n len k:Nat} {ch:List Nat} (h:Ii ch len) {d:Nat} (hd:d < ch.length) (a:len <= n) (b:ch[d] + 1 < n) (c:2 * k <= gN n (bits len ch)):2 * (k + 1) <= gN n (bits (ch[d] + 1) (ch.take d)):=by
 have f:=IW (n:=n) h hd a;have e:=Bu n (bits (ch[d] + 1) (ch.take d)) (by rw [zP];exact b)
 omega
theorem ES {n len k:Nat} {ch:List Nat} (h:∀ p ∈ ch,p < len) (a:len < n) (b:k <= gN n (bits len ch)):k <= gN n (bits (len + 1) ch):=by
 rw [wX h];have:=L6 n (bits len ch) (by rw [zP];exact a)
 omega
theorem ER {n len k:Nat} {ch:List Nat} (h:∀ p ∈ ch,p < len) (a:k <= gN n (bits len ch)):k <= gN n (bits (len + 1) (ch ++ [len])):=by
 rw [Hm h,tT];exact a
variable {n:Nat} {tr ch:List Nat} {lev:Nat->Nat} {C:iR} {P:Nat}
theorem Re (z:qI C tr lev P) (s:wm C tr lev) (f:jm n tr ch lev) (D:xk n C) {a:Nat} {c:xJ} (d:C a=some c) (h:c.kind ≠ 2) (k:∀ y ∈ c.lits,op y ∈ tr):P + 2 <= tr.length:=by
 match e:c.lits with
 | []=>
  obtain ⟨x,b,_⟩:=s a c d h (by rw [e];simp)
  rw [e] at b;cases b
 | [y]=>
  obtain ⟨x,b,l,_⟩:=s a c d h (by rw [e];simp)
  rw [e] at b;cases b
  exact (f.nI l (k y (by rw [e];simp))).elim
 | p :: q :: r=>
  obtain ⟨b,l⟩:=z a c p q r d h e;have u:=k p (by rw [e];simp)
  have t:=k q (by rw [e];simp)
  obtain ⟨i,B,v⟩:=List.mem_iff_getElem.1 u;obtain ⟨j,A,m⟩:=List.mem_iff_getElem.1 t;have F:P <= i:=by
   rcases Nat.lt_or_ge i P with g | g
   ·exact (f.nI (b i B g v).1 t).elim
   ·exact g
  have E:P <= j:=by
   rcases Nat.lt_or_ge j P with g | g
   ·exact (f.nI (l j A g m).1 u).elim
   ·exact g
  have o:=D.vars a c d;rw [e] at o;have w:i ≠ j:=fun g=>by
   subst g;rw [v] at m;have:=Pv m;subst this;simp at o
  omega
theorem Mc {m:Nat} {Bc:List Nat} {vP:Nat->Nat} (d:jm n tr ch lev) (b:jm n Bc ch vP) (h:tr.length <= Bc.length) (f:m <= gN n (bits tr.length ch)):m <= gN n (bits Bc.length ch):=by
 have a:∀ j,tr.length + j <= n->m <= gN n (bits (tr.length + j) ch):=by
  intro j
  induction j with
  | zero=>intro _;exact f
  | succ j ih=>
   intro i;have c:∀ p ∈ ch,p < tr.length + j:=fun p e=>by have:=d.iC.2 p e;omega
   have g:tr.length + j < n:=by omega
   exact ES c g (ih (by omega))
 have c:=b.len;have:=a (Bc.length - tr.length) (by omega)
 rwa [show tr.length + (Bc.length - tr.length)=Bc.length by omega] at this
def jd (g:Bool) (c:List Nat):Bs:=(if g then [100,32] else []) ++ c.flatMap (fun x=>Lib.itoa (wr x) ++ [32]) ++ [48]
def rT (c:UInt8) (l:Bs):Prop:=∀ x ∈ l,(x == c)=false
theorem wJ {c:UInt8}:∀ {a:Bs},rT c a->eU c a=[a]
 | [],_=>rfl
 | x :: a,h=>by
  unfold eU;rw [h x (by simp),wJ (a:=a) (fun y b=>h y (by simp [b]))];rfl
theorem mU {c:UInt8}:∀ {a:Bs} (r:Bs),rT c a->eU c (a ++ c :: r)=a :: eU c r
 | [],r,_=>by
  show eU c (c :: r)=_
  rw [show eU c (c :: r)=if c == c then [] :: eU c r else match eU c r with | h :: t=>(c :: h) :: t | []=>[[c]] from rfl,if_pos (by simp)]
 | x :: a,r,h=>by
  show eU c (x :: (a ++ c :: r))=_
  rw [show eU c (x :: (a ++ c :: r))=if x == c then [] :: eU c (a ++ c :: r) else match eU c (a ++ c :: r) with | h :: t=>(x :: h) :: t | []=>[[x]] from rfl,h x (by simp),mU (a:=a) r (fun y b=>h y (by simp [b]))];rfl
theorem Qg:∀ V,V < 51->∀ k,k < V->jE (Lib.decDigits V) (Lib.decDigits (k + 1))=true/\jE (Lib.decDigits V) (45 :: Lib.decDigits (k + 1))=true:=by
 decide +kernel
theorem Qf:∀ k,k < 50->fF (Lib.decDigits (k + 1))=(k:Int) + 1/\fF (45 :: Lib.decDigits (k + 1))=-((k:Int) + 1)/\(Lib.decDigits (k + 1)).all (fun b=>!(b == 32) && !(b == 10) && !(b == 45) && !(b == 100) && !(b == 9))=true/\(Lib.decDigits (k + 1)).length <= 2/\zero (Lib.decDigits (k + 1))=false:=by
 decide +kernel
theorem Ux (x:Nat):Lib.itoa (wr x)=if x % 2=0 then Lib.decDigits (x / 2 + 1) else 45 :: Lib.decDigits (x / 2 + 1):=by
 unfold wr Lib.itoa;by_cases h:x % 2=0
 ·rw [if_pos h,if_pos h,if_neg (by omega)]
  congr 1
 ·rw [if_neg h,if_neg h,if_pos (by omega)]
  congr 2
theorem nK {V x:Nat} (p:V <= 50) (o:x < 2 * V):jE (Lib.decDigits V) (Lib.itoa (wr x))=true/\fF (Lib.itoa (wr x))=wr x/\rT 32 (Lib.itoa (wr x))/\rT 10 (Lib.itoa (wr x))/\rT 100 (Lib.itoa (wr x))/\rT 9 (Lib.itoa (wr x))/\(Lib.itoa (wr x)).length <= 3/\zero (Lib.itoa (wr x))=false/\Lib.itoa (wr x) ≠ []:=by
 have l:x / 2 < V:=by omega
 obtain ⟨d,k⟩:=Qg V (by omega) (x / 2) l
 obtain ⟨j,i,g,m,f⟩:=Qf (x / 2) (by omega)
 have c:=List.all_eq_true.1 g;rw [Ux];by_cases h:x % 2=0
 ·rw [if_pos h];refine ⟨d,by rw [j];unfold wr;rw [if_pos h],fun b a=>?_,fun b a=>?_,fun b a=>?_,fun b a=>?_,by omega,f,fun e=>by rw [e] at d;simp [jE,strip,gZ] at d⟩
  all_goals
   have:=c b a;simp at this ⊢;simp [this]
 ·rw [if_neg h];refine ⟨k,by rw [i];unfold wr;rw [if_neg h],fun b a=>?_,fun b a=>?_,fun b a=>?_,fun b a=>?_,by simp;omega,by simp [zero],by simp⟩
  all_goals
   rcases List.mem_cons.1 a with rfl | a
   ·decide
   ·have:=c b a;simp at this ⊢;simp [this]
theorem tN {V:Nat} (a:V <= 50):∀ {c:List Nat},(∀ x ∈ c,x < 2 * V)->eU 32 (c.flatMap (fun x=>Lib.itoa (wr x) ++ [32]) ++ [48])=c.map (fun x=>Lib.itoa (wr x)) ++ [[48]]
 | [],_=>by decide
 | x :: c,h=>by
  rw [List.flatMap_cons,List.append_assoc,List.append_assoc,List.singleton_append,mU _ (nK a (h x (by simp))).2.2.1,tN a (fun y b=>h y (by simp [b]))]
  rfl
theorem BO {V:Nat} (b:V <= 50) {c:List Nat} (h:∀ x ∈ c,x < 2 * V):mH (Lib.decDigits V) (c.map (fun x=>Lib.itoa (wr x)) ++ [[48]])=some (c.map wr):=by
 rw [y8,if_pos]
 ·rw [List.map_map]
  congr 1
  exact List.map_congr_left fun x a=>(nK b (h x a)).2.1
 ·rw [show zero [48]=true from rfl,Bool.true_and,List.all_map,List.all_eq_true]
  exact fun x a=>(nK b (h x a)).1
theorem Ky {V:Nat} (a:V <= 50) (g:Bool) {c:List Nat} (h:∀ x ∈ c,x < 2 * V):oF (Lib.decDigits V) (jd g c)=some (g,c.map wr):=by
 unfold oF jd;rw [rX]
 cases g with
 | true=>
  rw [if_pos rfl,List.append_assoc,show ([100,32]:Bs) ++ (c.flatMap (fun x=>Lib.itoa (wr x) ++ [32]) ++ [48])=[100] ++ 32 :: (c.flatMap (fun x=>Lib.itoa (wr x) ++ [32]) ++ [48]) from rfl,mU _ (by intro x b;simp at b;subst b;decide),tN a h]
  rw [if_pos (by rw [List.head?_cons]),List.tail_cons,BO a h];rfl
 | false=>
  have d:((if false=true then [100,32] else []) ++ c.flatMap (fun x=>Lib.itoa (wr x) ++ [32]) ++ [48]:Bs)=c.flatMap (fun x=>Lib.itoa (wr x) ++ [32]) ++ [48]:=rfl
  rw [d,tN a h,if_neg,BO a h]
  ·rfl
  cases c with
  | nil=>decide
  | cons x c=>
   rw [List.map_cons,List.cons_append,List.head?_cons];intro e;have:=(nK a (h x (by simp))).2.2.2.2.1
   rw [Option.some.inj e] at this;have:=this 100 (by simp)
   simp at this
theorem vO {V:Nat} (e:V <= 50) (g:Bool) {c:List Nat} (h:∀ x ∈ c,x < 2 * V):rT 10 (jd g c):=by
 unfold jd;intro b a
 rcases List.mem_append.1 a with a | a
 ·rcases List.mem_append.1 a with a | a
  ·cases g
   ·simp at a
   ·simp at a;rcases a with rfl | rfl <;> decide
  ·obtain ⟨x,d,a⟩:=List.mem_flatMap.1 a
   rcases List.mem_append.1 a with a | a
   ·exact (nK e (h x d)).2.2.2.1 b a
   ·simp at a;subst a;decide
 ·simp at a;subst a;decide
def dS (ls:List (Bool × List Nat)):Bs:=ls.flatMap fun l=>jd l.1 l.2 ++ [10]
theorem oD (a:List (Bool × List Nat)) (g:Bool) (c:List Nat):dS (a ++ [(g,c)])=dS a ++ (jd g c ++ [10]):=by
 unfold dS;rw [List.flatMap_append];simp
end
end
end So
end Go.Proofs.YtceahffmenbibaaGreatDoor
namespace Go.Proofs.YtceahffmenbibaaGreatDoor
namespace Rd
section
open Go Go.RowKit Go.Deep
def Vb (d:Nat):Bool:=(Lib.decDigits d == [UInt8.ofNat (48 + d)]) && decide (gV [UInt8.ofNat (48 + d)]=(d:Int))
theorem Ml:((List.range 10).all Vb)=true:=by decide +kernel
def U8 (d e:Nat):Bool:=!gZ [UInt8.ofNat (48 + d),UInt8.ofNat (48 + e)] || above [UInt8.ofNat (48 + d),UInt8.ofNat (48 + e)] [53,48] || ((Lib.decDigits (10 * d + e) == [UInt8.ofNat (48 + d),UInt8.ofNat (48 + e)]) && decide (gV [UInt8.ofNat (48 + d),UInt8.ofNat (48 + e)]=((10 * d + e:Nat):Int)) && decide (10 * d + e <= 50))
theorem Le:((List.range 10).all fun d=>(List.range 10).all fun e=>U8 d e)=true:=by decide +kernel
theorem Vy {v:Bs} (h:gZ v=true) (k:above v [53,48]=false):∃ V:Nat,V <= 50/\v=Lib.decDigits V/\gV v=(V:Int):=by
 have i:=lJ k;obtain ⟨hd,g⟩:=nH h
 match v,i with
 | [],_=>exact absurd rfl g
 | [a],_=>
  obtain ⟨d,f,rfl⟩:=nu (by simpa using hd)
  have:=List.all_eq_true.1 Ml d (List.mem_range.2 f);unfold Vb at this;simp only [Bool.and_eq_true,beq_iff_eq,decide_eq_true_eq] at this;exact ⟨d,by omega,this.1.symm,this.2⟩
 | [a,b],_=>
  simp only [List.all_cons,List.all_nil,Bool.and_true,Bool.and_eq_true] at hd;obtain ⟨d,f,rfl⟩:=nu hd.1;obtain ⟨e,j,rfl⟩:=nu hd.2;have:=List.all_eq_true.1 (List.all_eq_true.1 Le d (List.mem_range.2 f)) e (List.mem_range.2 j);unfold U8 at this;rw [h,k] at this;simp only [Bool.not_true,Bool.false_or,Bool.and_eq_true,beq_iff_eq,decide_eq_true_eq] at this;exact ⟨10 * d + e,this.2,this.1.1.symm,this.1.2⟩
 | a :: b :: c :: r,i=>simp at i
theorem AJ (v:Bs) (T:List Bs) (h:kU v T=true):∀ (d:List (List Int) × List Int),(∀ c ∈ d.1,∀ l ∈ c,∃ t,jE v t=true/\l=fF t)->(∀ l ∈ d.2,∃ t,jE v t=true/\l=fF t)->
  (∀ c ∈ (T.foldl fu d).1,∀ l ∈ c,∃ t,jE v t=true/\l=fF t)/\(∀ l ∈ (T.foldl fu d).2,∃ t,jE v t=true/\l=fF t):=by
 induction T with
 | nil=>intro d f e;exact ⟨f,e⟩
 | cons t r ih=>
  intro d f e;simp only [kU,List.all_cons,Bool.and_eq_true] at h;refine ih h.2 (fu d t) ?_ ?_
  ·intro c b;unfold fu at b;split at b
   ·rcases List.mem_append.1 b with b | b
    ·exact f c b
    ·simp at b;rw [b];exact e
   ·exact f c b
  ·intro l a;unfold fu at a;split at a
   ·simp at a
   ·rename_i g
    rcases List.mem_append.1 a with a | a
    ·exact e l a
    ·simp at a;have:=h.1;simp only [Bool.not_eq_true] at g;rw [g,Bool.false_or] at this;exact ⟨t,this,a⟩
theorem Ui (T:List Bs):∀ (b:List (List Int) × List Int) (n:Nat),(∀ c ∈ b.1,c.length <= n)->b.2.length <= n->(∀ c ∈ (T.foldl fu b).1,c.length <= n + T.length)/\(T.foldl fu b).2.length <= n + T.length:=by
 induction T with
 | nil=>intro b n e f;exact ⟨e,f⟩
 | cons t r ih=>
  intro b n e f;have d:(∀ c ∈ (fu b t).1,c.length <= n + 1)/\(fu b t).2.length <= n + 1:=by
   unfold fu;split
   ·refine ⟨fun c a=>?_,by simp⟩
    rcases List.mem_append.1 a with a | a
    ·have:=e c a;omega
    ·simp at a;rw [a];omega
   ·exact ⟨fun c a=>by have:=e c a;omega,by simp;omega⟩
  have:=ih (fu b t) (n + 1) d.1 d.2;simp only [List.foldl_cons,List.length_cons];exact ⟨fun c a=>by have:=this.1 c a;omega,by have:=this.2;omega⟩
theorem Be:∀ (l w:Bs),(iB w l).length <= l.length + 1
 | [],w=>by unfold iB;split <;> simp
 | c :: r,w=>by
  unfold iB;have:=Be r;split
  ·split
   ·have:=this [];simp;omega
   ·have:=this [];simp;omega
  ·have:=this (w ++ [c]);simp;omega
theorem Cb:∀ (f:Nat) {l v c r:Bs},pK f l=some (v,c,r)->r.length <= l.length
 | 0,l,v,c,r,h=>by simp [pK] at h
 | f + 1,l,v,c,r,h=>by
  unfold pK at h;split at h
  ·split at h
   ·have:=Cb f h;have b:(rest l).length <= l.length:=by unfold rest;simp
    omega
   ·obtain ⟨x,a,e⟩:=Option.map_eq_some_iff.1 h;simp only [Prod.mk.injEq] at e;rw [<- e.2.2];unfold rest;simp
  ·cases h
theorem OV {s:Bs} (h:(lT s).2.2=0):∃ V:Nat,V <= 50/\(lT s).1=(V:Int)/\(∀ c ∈ (lT s).2.1,∀ l ∈ c,jH l)/\(lT s).2.1.length <= 20001/\∀ c ∈ (lT s).2.1,c.length <= 20001:=by
 unfold lT at h ⊢;split at h
 ·simp at h
 ·rename_i k;rw [if_neg k];split at h
  ·simp at h
  ·rename_i v c r f;have j:=Ca _ f;have w:=Cb _ f;unfold body at h ⊢;split at h
   ·rename_i e;rw [if_pos e];split at h
    ·rename_i o;rw [if_pos o];split at h
     ·simp at h
     ·rename_i a;rw [if_neg a];simp only [Bool.or_eq_true,not_or,Bool.not_eq_true] at a;obtain ⟨V,g,q,p⟩:=Vy j a.1;have i:(toks r).length <= 20001:=by have:=Be r [];unfold toks;omega
      have u:=(zL (toks r)).1;refine ⟨V,g,p,?_,Nat.le_trans u i,?_⟩
      ·intro d hd l m;obtain ⟨t,b,rfl⟩:=(AJ v (toks r) e ([],[]) (by simp) (by simp)).1 d hd l m
       rw [q] at b;exact PU g b
      ·intro d hd;have:=(Ui (toks r) ([],[]) 0 (by simp) (by simp)).1 d hd
       omega
    ·simp at h
   ·simp at h
end
end Rd
end Go.Proofs.YtceahffmenbibaaGreatDoor
