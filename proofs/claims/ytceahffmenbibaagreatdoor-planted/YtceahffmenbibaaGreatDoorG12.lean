/- Rcount Rparse Rmake Rread. -/
import Derived.Test.YtceahffmenbibaaGreatDoorG11
import Derived.Test.YtceahffmenbibaaGreatDoorG00
import Derived.Test.YtceahffmenbibaaGreatDoorRows
import Derived.WalkSmall
import Derived.Lib.LaidTab
import Derived.Lib.SmallJoins
import Derived.Shelf.SlSorted.Search
import Derived.Deep.RegionWith
import Derived.Deep.QuietTactic
import Derived.BigQuiet
set_option linter.unusedVariables false
set_option linter.unusedSimpArgs false
set_option maxHeartbeats 2000000
namespace Go.Proofs.YtceahffmenbibaaGreatDoor
namespace Rd
section
open Go Go.RowKit Go.Proofs
def bss (T:List ByteArray):List Bs:=T.map fun x=>x.data.toList
theorem PY {T:List ByteArray} {k:Nat} (h:k < T.length):bss (T.take (k + 1))=bss (T.take k) ++ [T[k].data.toList]:=by
 rw [List.take_succ_eq_append_getElem h];unfold bss;rw [List.map_append];rfl
theorem vG (T:List Bs) (t:Bs):zeros (T ++ [t])=zeros T + if zero t then 1 else 0:=by
 unfold zeros;rw [List.filter_append];cases h:zero t <;> simp [h]
theorem zJ (T:List Bs) (t:Bs):lits (T ++ [t])=lits T + if zero t then 0 else 1:=by
 unfold lits;rw [List.filter_append];cases h:zero t <;> simp [h]
theorem wh (v:Bs) (T:List Bs) (t:Bs):iG v (T ++ [t])=(iG v T && (zero t || jf v t)):=by
 unfold iG;rw [List.all_append];simp
theorem qJ (T:List Bs):zeros T <= T.length:=by unfold zeros;exact List.length_filter_le _ _
theorem IU (T:List Bs):lits T <= T.length:=by unfold lits;exact List.length_filter_le _ _
theorem Kh {v:Bs} {T:List ByteArray} {k:Nat} (hk:k < T.length) (h:(zero T[k].data.toList || jf v T[k].data.toList)=false):iG v (bss T)=false:=by
 rw [Bool.eq_false_iff];intro ha;have:=List.all_eq_true.1 ha T[k].data.toList (by simp only [bss,List.mem_map];exact ⟨T[k],List.getElem_mem hk,rfl⟩)
 rw [h] at this;cases this
def gz (T:List Bs):Bool:=T.isEmpty || T.getLast? == some [48]
abbrev BV (v:ByteArray) (c l:Nat) (a:Option Addr) (n:Nat):Array Value:=#[.string v,.int .i64 c,.int .i64 l,.slice a n n]
theorem uS (T:List ByteArray) (v:ByteArray) (A:Nat) (w:World) (hn:T.length <= 20000) (hT:∀ x ∈ T,x.size <= 20000) (hv:v.size <= 20000) (hA:A < w.heap.size)
  (hc:∀ j (h:j < T.length),w.cell? ⟨A,j,none⟩=some (.string T[j])):
  Calls Tryz.prog 62 #[.slice (some ⟨A,0,none⟩) T.length T.length,.string v] w fun e w'=>Below w.heap.size w w'/\
   ((iG v.data.toList (bss T)=true/\e=.returned (.tuple #[.agg (BV v (zeros (bss T)) (lits (bss T)) (some ⟨A,0,none⟩) T.length),.bool (gz (bss T))])) \/
    (iG v.data.toList (bss T)=false/\e=.returned (.tuple #[.agg (BV ⟨#[]⟩ 0 0 none 0),.bool false]))):=by
 have HC:=hide hc;clear hc;have HTs:=hide hT;clear hT;go_enter Tryz.func62,Tryz.ntmps62
 go_wp2;go_loopw [15] (fun i wr=>∃ k:Nat,k <= T.length/\i=.int .i64 k/\Hid (iG v.data.toList (bss (T.take k))=true)/\
   wr=(w.alloc (.cells (BV ⟨#[]⟩ 0 0 none 0) 72)).alloc (.cells (BV v (zeros (bss (T.take k))) (lits (bss (T.take k))) (some ⟨A,0,none⟩) T.length) 72)) (fun i _=>T.length - (intOf i).toNat)
 case atStart=>exact ⟨0,Nat.zero_le _,rfl,rfl,rfl⟩
 case round=>
  obtain ⟨k,hk,rfl,hok,rfl⟩:=hrel;have z1:=qJ (bss (T.take k));have z2:=IU (bss (T.take k));have z3:(bss (T.take k)).length <= k:=by simp [bss];omega
  by_cases hlt:k < T.length
  ·have ck:=HC.out k hlt;have hsz:=HTs.out T[k] (List.getElem_mem hlt);have S:=hide (PY hlt);obtain ⟨t,ht⟩:∃ t,t=T[k]:=⟨_,rfl⟩;rw [<- ht] at ck hsz S
   have NK:Hid ((zero t.data.toList || jf v.data.toList t.data.toList)=false->iG v.data.toList (bss T)=false):=fun h=>Kh hlt (by rw [<- ht];exact h)
   clear ht
   cases c1:(t.toList == [48]) with
   | true=>
    have Z:Hid (zero t.data.toList=true):=by unfold Hid zero;rw [<- ByteArray.toList_eq];exact c1
    go_wp2;go_roundw
    case rel=>
     refine ⟨k + 1,by omega,by go_num,?_,?_⟩
     ·unfold Hid;rw [S.out,wh,hok.out,Z.out];rfl
     ·rw [S.out,vG,zJ,Z.out];rfl
    case measure=>simp [intOf];omega
   | false=>
    have Z:Hid (zero t.data.toList=false):=by unfold Hid zero;rw [<- ByteArray.toList_eq];exact c1
    cases c2:jf v.data.toList t.data.toList with
    | true=>
     have C2:=hide c2;clear c2;go_wp2_with fail
     refine (pY t v _ (by unfold maxLen;omega) (by unfold maxLen;omega)).mono ?_
     rintro e w1 ⟨rfl,rfl⟩;rw [C2.out];go_wp2;go_roundw
     case rel=>
      refine ⟨k + 1,by omega,by go_num,?_,?_⟩
      ·unfold Hid;rw [S.out,wh,hok.out,Z.out,C2.out];rfl
      ·rw [S.out,vG,zJ,Z.out];rfl
     case measure=>simp [intOf];omega
    | false=>
     have C2:=hide c2;clear c2;go_wp2_with fail
     refine (pY t v _ (by unfold maxLen;omega) (by unfold maxLen;omega)).mono ?_
     rintro e w1 ⟨rfl,rfl⟩;rw [C2.out];go_wp2;have hno:=NK.out (by rw [Z.out,C2.out];rfl)
     exact bodyPost_ret (v:=.tuple #[.agg (BV ⟨#[]⟩ 0 0 none 0),.bool false]) (by simp [results,Tryz.results62,go_sem]) rfl ⟨((Below.refl _ _).alloc (Nat.le_refl _) _).alloc (by simp) _,.inr ⟨hno,rfl⟩⟩
  ·have e:k=T.length:=by omega
   subst e;have hall:=hok.out;rw [List.take_of_length_le (Nat.le_refl _)] at hall ⊢;have HALL:=hide hall;clear hall hok;by_cases h0:T.length=0
   ·have hb:((T.length:Int) == 0)=true:=by simp [h0]
    have E:Hid (gz (bss T)=true):=by unfold Hid gz bss;rw [List.eq_nil_of_length_eq_zero h0];rfl
    clear h0;go_wp2;exact bodyPost_ret (v:=.tuple #[.agg (BV v (zeros (bss T)) (lits (bss T)) (some ⟨A,0,none⟩) T.length),.bool (gz (bss T))]) (by rw [E.out];simp [results,Tryz.results62,go_sem]) rfl
     ⟨((Below.refl _ _).alloc (Nat.le_refl _) _).alloc (by simp) _,.inl ⟨HALL.out,rfl⟩⟩
   ·have hb:((T.length:Int) == 0)=false:=by rw [beq_eq_false_iff_ne];omega
    have ck:=HC.out (T.length - 1) (by omega)
    have he:((T.length:Int) - 1).toNat=T.length - 1:=by omega
    have E:Hid (gz (bss T)=(T[T.length - 1].toList == [48])):=by
     unfold Hid gz;have hne:(bss T) ≠ []:=by intro h;apply h0;have:=congrArg List.length h;simpa [bss] using this
     have hl:(bss T).getLast? = some T[T.length - 1].data.toList:=by
      rw [List.getLast?_eq_getElem?];simp [bss];exact ⟨T[T.length - 1],List.getElem?_eq_getElem (by omega),rfl⟩
     rw [hl];have h1:(bss T).isEmpty=false:=by simpa using hne
     rw [h1,ByteArray.toList_eq];simp
    obtain ⟨t,ht⟩:∃ t,t=T[T.length - 1]:=⟨_,rfl⟩;rw [<- ht] at ck E;clear ht;have hp:0 < T.length:=by omega
    go_wp2;exact bodyPost_ret (v:=.tuple #[.agg (BV v (zeros (bss T)) (lits (bss T)) (some ⟨A,0,none⟩) T.length),.bool (gz (bss T))]) (by rw [E.out];simp [results,Tryz.results62,go_sem]) rfl
     ⟨((Below.refl _ _).alloc (Nat.le_refl _) _).alloc (by simp) _,.inl ⟨HALL.out,rfl⟩⟩
end
section
open Go Go.RowKit Go.Proofs
def pw : String := Rows.lubysRow.named.getD 1 ""
theorem zt:Tryz.prog.globalNamed pw=some 1:=by kernel_rfl
def mZ (w:World):Prop:=(∃ m,w.cell? ⟨0,0,none⟩=some (.int .i64 m))/\Lib.TabIs Tryz.prog w pw .u64 Lib.pow10Tab/\4 <= w.heap.size
theorem mZ.below {B:Nat} {w w':World} (hB:4 <= B) (h:Below B w w') (hg:mZ w):mZ w':=by
 obtain ⟨⟨m,hm⟩,ht,hs⟩:=hg;have:=h.size;refine ⟨⟨m,?_⟩,var?_below h zt (by omega) ht,by omega⟩
 rw [h.cell (p:=⟨0,0,none⟩) (by show (0:Nat) < B;omega)];exact hm
theorem mZ.later {w w':World} (h:Below w.heap.size w w') (hg:mZ w):mZ w':=mZ.below hg.2.2 h hg
theorem D5 (n:Nat) (hn:n <= 20000) (w:World) (hg:mZ w):
  Calls Tryz.prog 36 #[.int .i64 n] w fun e w'=>∃ x:ByteArray,e=.returned (.string x)/\Hid (x.data.toList=Lib.decDigits n)/\Below w.heap.size w w':=by
 refine (Any.strconv_Itoa Tryz.Oq n (by omega) (by omega) w hg.2.1).mono ?_
 rintro e w' ⟨rfl,k,os,rfl⟩;refine ⟨_,rfl,?_,below_grown_sl _ _ _ _ (Nat.le_refl _)⟩;unfold Hid Lib.itoa;rw [if_neg (by omega)]
 simp
theorem Pb (w:World):PredAt Tryz.prog 64 #[] encR iB w:=fun W r _=>by
 refine (KO r W).mono ?_;rintro e w' ⟨rfl,rfl⟩;exact ⟨rfl,0,rfl⟩
theorem Ha (s:ByteArray) (w:World) (hs:s.size <= 20000):
  Calls Tryz.prog 63 #[.string s,.func (.func 64) #[] #[]] w fun e w'=>∃ (A:Nat) (T:List ByteArray),e=.returned (.slice (some ⟨A,0,none⟩) T.length T.length)/\
   Hid (bss T=toks s.data.toList)/\w.heap.size <= A/\A < w'.heap.size/\Hid (∀ j (h:j < T.length),w'.cell? ⟨A,j,none⟩=some (.string T[j]))/\Below w.heap.size w w'/\T.length <= 20000/\Hid (∀ x ∈ T,x.size <= 20000):=by
 refine (Tryz.strings_FieldsFunc 64 #[] (enters_of Tryz.func64 (by kernel_rfl) rfl) iB s w (by omega) (Pb w)).mono ?_
 rintro e w' ⟨A,rfl,hA,hown,hb⟩;have ht:=Et s;have hl:=MJ s.data.toList;rw [<- ht] at hl;refine ⟨A,Lib.goFieldsP iB s,rfl,ht,hA,(hown.lt A rfl).2,fun j h=>?_,hb,?_,fun x hx=>?_⟩
 ·have:=hown.cells (g:=A) rfl j (.string (Lib.goFieldsP iB s)[j]) (by simp [h])
  simpa [Addr.add_lit] using this
 ·have:=hl.1;simp at this;omega
 ·have:=hl.2 x.data.toList (List.mem_map.2 ⟨x,hx,rfl⟩);simp at this;omega
def fo (s:Bs):Option (Bs × List Bs):=
 match (fJ (s.length + 1) s).bind oH with
 | none=>none
 | some (v,c,r)=>if iG v (toks r) && gz (toks r) && Lib.decDigits (zeros (toks r)) == c then some (v,toks r) else none
def Qq (s:Bs) (w w':World) (e:Ending):Prop:=
 (fo s=none/\e=.returned (.tuple #[.agg (BV ⟨#[]⟩ 0 0 none 0),.bool false])) \/
 ∃ (v:ByteArray) (T:List ByteArray) (A:Nat),fo s=some (v.data.toList,bss T)/\e=.returned (.tuple #[.agg (BV v (zeros (bss T)) (lits (bss T)) (some ⟨A,0,none⟩) T.length),.bool true])/\
  w.heap.size <= A/\A < w'.heap.size/\(∀ j (h:j < T.length),w'.cell? ⟨A,j,none⟩=some (.string T[j]))/\T.length <= 20000/\(∀ x ∈ T,x.size <= 20000)/\v.size <= 20000
theorem Gs {s:Bs} (h:fJ (s.length + 1) s=none):fo s=none:=by unfold fo;rw [h];rfl
theorem J7 {s x:Bs} (h:fJ (s.length + 1) s=some x) (h':(oH x).isSome=false):fo s=none:=by
 have:oH x=none:=by simpa using h'
 unfold fo;rw [h];simp [this]
theorem Gr {s x v c r:Bs} (h:fJ (s.length + 1) s=some x) (h':(oH x).isSome=true) (hp:∀ o,oH x=some o->o=(v,c,r)):
  fo s=if iG v (toks r) && gz (toks r) && Lib.decDigits (zeros (toks r)) == c then some (v,toks r) else none:=by
 obtain ⟨o,ho⟩:=Option.isSome_iff_exists.1 h';have:=hp o ho;subst this;unfold fo;rw [h];simp [ho]
theorem jJ {B:Nat} {a w:World} (h:Below B a w) (n:Nat):Below B a (w.drewN n):=h.trans ⟨rfl,rfl,rfl,Nat.le_refl _,fun _ _=>rfl⟩
theorem rP {w:World} {b i A j:Nat} {v:Value} (h:A ≠ b):(w.setCell ⟨b,i,none⟩ v).cell? ⟨A,j,none⟩=w.cell? ⟨A,j,none⟩:=
 World.cell?_of_block (Below.heap_setCell _ _ _ _ h)
theorem vS (s:ByteArray):s.data.toList.length=s.size:=by simp
theorem tH {w w':World} (h:Below w.heap.size w w') (v0 v1 v2 v3:Value):
  Below w.heap.size w ((((w'.setCell ⟨w.heap.size,0,none⟩ v0).setCell ⟨w.heap.size,1,none⟩ v1).setCell ⟨w.heap.size,2,none⟩ v2).setCell ⟨w.heap.size,3,none⟩ v3):=
 (((h.setCell (Nat.le_refl _) _).setCell (Nat.le_refl _) _).setCell (Nat.le_refl _) _).setCell (Nat.le_refl _) _
theorem J8 (s:ByteArray) (w:World) (hs:s.size <= 20000) (hg:mZ w):
  Calls Tryz.prog 34 #[.string s] w fun e w'=>Below w.heap.size w w'/\Qq s.data.toList w w' e:=by
 have HG:=hide hg;obtain ⟨⟨m,hm⟩,_,h16⟩:=hg;have hm1:∀ o,(w.alloc o).cell? ⟨0,0,none⟩=some (.int .i64 m):=fun o=>by rw [World.cell?_alloc_lt _ _ _ (by show (0:Nat) < w.heap.size;omega)];exact hm
 clear hm;go_enter Tryz.func34,Tryz.ntmps34
 go_wp2_with fail
 refine (sF s m _ hs (hm1 _)).mono ?_
 rintro e w1 ⟨⟨n1,rfl⟩,x,⟨hk,rfl⟩ | ⟨hk,hx,rfl⟩⟩
 ·have HP:Hid (fo s.data.toList=none):=Gs (by rw [vS];exact hk)
  clear hk hm1;go_wp2;exact bodyPost_ret (v:=.tuple #[.agg (BV ⟨#[]⟩ 0 0 none 0),.bool false]) (by simp [results,Tryz.results34,go_sem]) rfl ⟨tH (jJ ((Below.refl _ _).alloc (Nat.le_refl _) _) _) _ _ _ _,.inl ⟨HP.out,rfl⟩⟩
 ·go_wp2_with fail
  refine (xA x m _ hx (by exact hm1 _)).mono ?_
  rintro e w2 ⟨⟨n2,rfl⟩,a,b,z,rfl,hp,ha,hb,hz⟩
  cases c1:(oH x.data.toList).isSome with
  | false=>
   have HP:Hid (fo s.data.toList=none):=J7 (by rw [vS];exact hk) c1
   clear hk hm1 hp c1;go_wp2;exact bodyPost_ret (v:=.tuple #[.agg (BV ⟨#[]⟩ 0 0 none 0),.bool false]) (by simp [results,Tryz.results34,go_sem]) rfl ⟨tH (jJ ((Below.refl _ _).alloc (Nat.le_refl _) _) _) _ _ _ _,.inl ⟨HP.out,rfl⟩⟩
  | true=>
   have HP:=hide (Gr (s:=s.data.toList) (by rw [vS];exact hk) c1 hp)
   clear hk hm1 hp c1;go_wp2_with fail
   refine (Ha z _ hz).mono ?_;rintro e w3 ⟨A,T,rfl,hT,hA,hA',hcell,hb3,hn,hsz⟩;rw [<- hT.out] at HP;clear hT;have b3:Hid (Below w.heap.size w w3):=(jJ ((Below.refl _ _).alloc (Nat.le_refl _) _) _).trans (hb3.mono (by simp))
   have s3:=hb3.size;simp at s3 hA;have kept:∀ j,w3.cell? ⟨w.heap.size,j,none⟩=(#[Value.string ⟨#[]⟩,.int .i64 0,.int .i64 0,.slice none 0 0]:Array Value)[j]? := fun j=>by
    rw [hb3.cell (p:=⟨w.heap.size,j,none⟩) (by simp)]
    exact World.cell?_alloc_at _ _ _ _ rfl
   have ZL:∀ j,w3.frozen? ⟨w.heap.size,j,none⟩=false:=fun j=>by
    rw [hb3.frozen (p:=⟨w.heap.size,j,none⟩) (by simp)]
    simp [go_sem]
   clear hb3;go_wp2_with fail
   refine (uS T a A _ hn hsz.out ha hA' hcell.out).mono ?_;rintro e w4 ⟨hb4,hend⟩;have b4:Hid (Below w.heap.size w w4):=b3.out.trans (hb4.mono (by omega))
   have s4:=hb4.size;have q0:w4.cell? ⟨w.heap.size,0,none⟩=some (.string ⟨#[]⟩):=(hb4.cell (p:=⟨w.heap.size,0,none⟩) (by show w.heap.size < _;omega)).trans (kept 0)
   have q1:w4.cell? ⟨w.heap.size,1,none⟩=some (.int .i64 0):=(hb4.cell (p:=⟨w.heap.size,1,none⟩) (by show w.heap.size < _;omega)).trans (kept 1)
   have q2:w4.cell? ⟨w.heap.size,2,none⟩=some (.int .i64 0):=(hb4.cell (p:=⟨w.heap.size,2,none⟩) (by show w.heap.size < _;omega)).trans (kept 2)
   have q3:w4.cell? ⟨w.heap.size,3,none⟩=some (.slice none 0 0):=(hb4.cell (p:=⟨w.heap.size,3,none⟩) (by show w.heap.size < _;omega)).trans (kept 3)
   have f4:∀ j,w4.frozen? ⟨w.heap.size,j,none⟩=false:=fun j=>(hb4.frozen (p:=⟨w.heap.size,j,none⟩) (by show w.heap.size < _;omega)).trans (ZL j)
   have HC4:Hid (∀ j (h:j < T.length),w4.cell? ⟨A,j,none⟩=some (.string T[j])):=fun j h=>(hb4.cell (p:=⟨A,j,none⟩) hA').trans (hcell.out j h)
   have hlt:w.heap.size < w4.heap.size:=by omega
   clear kept ZL hb4 hcell b3
   rcases hend with ⟨hok,rfl⟩ | ⟨hok,rfl⟩
   ·cases c2:gz (bss T) with
    | false=>
     have HN:Hid (fo s.data.toList=none):=by unfold Hid;rw [HP.out,hok,c2];rfl
     clear HP hok c2;go_wp2;exact bodyPost_ret (v:=.tuple #[.agg (BV ⟨#[]⟩ 0 0 none 0),.bool false]) (by simp [results,Tryz.results34,go_sem,q0,q1,q2,q3,hlt]) rfl ⟨(tH b4.out _ _ _ _).alloc (by simp;omega) _,.inl ⟨HN.out,rfl⟩⟩
    | true=>
     have HP2:Hid (fo s.data.toList=if Lib.decDigits (zeros (bss T)) == b.data.toList then some (a.data.toList,bss T) else none):=by unfold Hid;rw [HP.out,hok,c2];rfl
     clear HP hok c2;have zl:=qJ (bss T);have zl':(bss T).length=T.length:=by simp [bss]
     go_wp2_with fail
     refine (D5 (zeros (bss T)) (by omega) _ ((mZ.later b4.out HG.out).later ((Below.refl _ _).alloc (Nat.le_refl _) _))).mono ?_
     rintro e w5 ⟨y,rfl,hy,hb5⟩;have b5:Hid (Below w.heap.size w w5):=b4.out.trans (((Below.refl _ _).alloc (by omega) _).trans (hb5.mono (by simp;omega)))
     have s5:=hb5.size;simp at s5;have r0:w5.cell? ⟨w.heap.size,0,none⟩=some (.string ⟨#[]⟩):=(hb5.cell (p:=⟨w.heap.size,0,none⟩) (by simp;omega)).trans ((World.cell?_alloc_lt _ _ _ (by exact hlt)).trans q0)
     have r1:w5.cell? ⟨w.heap.size,1,none⟩=some (.int .i64 0):=(hb5.cell (p:=⟨w.heap.size,1,none⟩) (by simp;omega)).trans ((World.cell?_alloc_lt _ _ _ (by exact hlt)).trans q1)
     have r2:w5.cell? ⟨w.heap.size,2,none⟩=some (.int .i64 0):=(hb5.cell (p:=⟨w.heap.size,2,none⟩) (by simp;omega)).trans ((World.cell?_alloc_lt _ _ _ (by exact hlt)).trans q2)
     have r3:w5.cell? ⟨w.heap.size,3,none⟩=some (.slice none 0 0):=(hb5.cell (p:=⟨w.heap.size,3,none⟩) (by simp;omega)).trans ((World.cell?_alloc_lt _ _ _ (by exact hlt)).trans q3)
     have f5:∀ j,w5.frozen? ⟨w.heap.size,j,none⟩=false:=fun j=>(hb5.frozen (p:=⟨w.heap.size,j,none⟩) (by simp;omega)).trans (by simp [go_sem,hlt,f4])
     have t0:w5.cell? ⟨w4.heap.size,0,none⟩=some (.string a):=(hb5.cell (p:=⟨w4.heap.size,0,none⟩) (by simp)).trans (World.cell?_alloc_at _ _ _ _ rfl)
     have t1:w5.cell? ⟨w4.heap.size,1,none⟩=some (.int .i64 (zeros (bss T))):=(hb5.cell (p:=⟨w4.heap.size,1,none⟩) (by simp)).trans (World.cell?_alloc_at _ _ _ _ rfl)
     have t2:w5.cell? ⟨w4.heap.size,2,none⟩=some (.int .i64 (lits (bss T))):=(hb5.cell (p:=⟨w4.heap.size,2,none⟩) (by simp)).trans (World.cell?_alloc_at _ _ _ _ rfl)
     have t3:w5.cell? ⟨w4.heap.size,3,none⟩=some (.slice (some ⟨A,0,none⟩) T.length T.length):=(hb5.cell (p:=⟨w4.heap.size,3,none⟩) (by simp)).trans (World.cell?_alloc_at _ _ _ _ rfl)
     have HC5:Hid (∀ j (h:j < T.length),w5.cell? ⟨A,j,none⟩=some (.string T[j])):=fun j h=>(hb5.cell (p:=⟨A,j,none⟩) (by simp;omega)).trans ((World.cell?_alloc_lt _ _ _ (by show A < _;omega)).trans (HC4.out j h))
     clear hb5 q0 q1 q2 q3 f4 HC4
     cases c3:(!y.toList == b.toList) with
     | true=>
      have HN:Hid (fo s.data.toList=none):=by
       unfold Hid;rw [HP2.out,<- hy.out];rw [ByteArray.toList_eq,ByteArray.toList_eq] at c3;simp at c3;simp [c3]
      clear HP2;go_wp2;exact bodyPost_ret (v:=.tuple #[.agg (BV ⟨#[]⟩ 0 0 none 0),.bool false]) (by simp [results,Tryz.results34,go_sem,r0,r1,r2,r3]) rfl ⟨tH b5.out _ _ _ _,.inl ⟨HN.out,rfl⟩⟩
     | false=>
      have HN:Hid (fo s.data.toList=some (a.data.toList,bss T)):=by
       unfold Hid;rw [HP2.out,<- hy.out];rw [ByteArray.toList_eq,ByteArray.toList_eq] at c3;simp at c3;simp [c3]
      clear HP2;go_wp2;refine bodyPost_ret (v:=.tuple #[.agg (BV a (zeros (bss T)) (lits (bss T)) (some ⟨A,0,none⟩) T.length),.bool true]) (by simp [results,Tryz.results34,go_sem,r0,r1,r2,r3]) rfl ⟨tH b5.out _ _ _ _,.inr ⟨a,T,A,HN.out,rfl,by omega,by simp;omega,fun j h=>?_,hn,hsz.out,ha⟩⟩
      rw [rP (by omega),rP (by omega),rP (by omega),rP (by omega)]
      exact HC5.out j h
   ·have HN:Hid (fo s.data.toList=none):=by unfold Hid;rw [HP.out,hok];rfl
    clear HP hok;go_wp2;exact bodyPost_ret (v:=.tuple #[.agg (BV ⟨#[]⟩ 0 0 none 0),.bool false]) (by simp [results,Tryz.results34,go_sem,q0,q1,q2,q3,hlt]) rfl ⟨(tH b4.out _ _ _ _).alloc (by simp;omega) _,.inl ⟨HN.out,rfl⟩⟩
end
section
open Go Go.RowKit Go.Proofs Go.Deep
theorem y9 (t:ByteArray) (n:Int) (w:World) (hl:t.size <= 18) (h:Lib.atoi t.data.toList=some n):
  Calls Tryz.prog 37 #[.string t] w fun e w'=>e=.returned (.int .i64 n)/\Below w.heap.size w w':=by
 have H:=hide h;clear h;go_enter Tryz.func37,Tryz.ntmps37
 go_wp2_with fail
 refine (Tryz.strconv_Atoi t n hl H.out _).mono ?_;rintro e w1 ⟨rfl,s,rfl⟩;go_wp2;go_ret;exact ⟨rfl,Joins.below_bytesWorld _ _ _ _ (Nat.le_refl _)⟩
theorem D8:∀ (zs:List ByteArray) (i:Nat),0 < zeros (bss zs)->Lib.idxFromS zs ⟨#[48]⟩ i=((i + ((bss zs).takeWhile nz).length:Nat):Int)
 | [],i,h=>by simp [bss,zeros] at h
 | z :: r,i,h=>by
  have e:(z=(⟨#[48]⟩:ByteArray))↔zero z.data.toList=true:=by
   unfold zero;constructor
   ·intro h;subst h;rfl
   ·intro h;have h':z.data.toList=[48]:=by simpa using h
    exact ByteArray.ext (Array.toList_inj.1 h')
  have hb:bss (z :: r)=z.data.toList :: bss r:=rfl;unfold Lib.idxFromS;by_cases hz:zero z.data.toList=true
  ·rw [if_pos (e.2 hz),hb];simp [nz,hz]
  ·have hz':zero z.data.toList=false:=by simpa using hz
   rw [if_neg (fun h=>hz (e.1 h)),D8 r (i + 1) (by rw [hb,mg,hz'] at h;simpa using h),hb]
   simp [nz,hz'];omega
theorem Tryz.TW:(Tryz.prog.info? 3).map (fun i=>(i.zero,i.size,i.bytes))=some (some (.int .i64 0),1,8):=by kernel_rfl
theorem Tryz.Oy:(Tryz.prog.info? 43).map (fun i=>(i.zero,i.size,i.bytes))=some (some (.slice none 0 0),1,24):=by kernel_rfl
def zi (T:List Bs):Prop:=∀ t ∈ T,zero t=false->Lib.atoi t=some (dJ t)/\t.length <= 18
theorem Je:∀ (c:Nat) (T:List Bs) (j:Nat),((cls c T).getD j []).length <= T.length
 | 0,T,j=>by simp [cls]
 | c + 1,T,0=>by
  simp only [cls,List.getD_cons_zero,List.length_map];exact (List.takeWhile_prefix _).length_le
 | c + 1,T,j + 1=>by
  simp only [cls,List.getD_cons_succ];have:=Je c (T.drop ((T.takeWhile nz).length + 1)) j;simp only [List.length_drop] at this;omega
structure Cut (T:List ByteArray) (C:Nat) (cl:List (List Int)) (k off:Nat):Prop where
 le:off <= T.length
 zs:zeros (bss (T.drop off))=C - k
 cs:cls (C - k) (bss (T.drop off))=cl.drop k
structure UF (T:List ByteArray) (C:Nat) (cl:List (List Int)) (k off e:Nat):Prop where
 idx:((bss (T.drop off)).takeWhile nz).length=e
 lt:off + e < T.length
 len:(cl.getD k []).length=e
 lits:∀ q (h:off + q < T.length),q < e->zero (T[off + q]).data.toList=false/\dJ (T[off + q]).data.toList=(cl.getD k []).getD q 0
 next:Cut T C cl (k + 1) (off + e + 1)
theorem ET (T:List ByteArray) (n:Nat):bss (T.drop n)=(bss T).drop n:=by simp [bss,List.map_drop]
theorem Cut.step {T:List ByteArray} {C:Nat} {cl:List (List Int)} {k off:Nat} (h:Cut T C cl k off) (hk:k < C):UF T C cl k off ((bss (T.drop off)).takeWhile nz).length:=by
 have hz:0 < zeros (bss (T.drop off)):=by rw [h.zs];omega
 obtain ⟨R,h1,h2,h3,h4⟩:=EI hz;have hcs:=h.cs;rw [show C - k=(C - (k + 1)) + 1 by omega,cls,h2] at hcs
 have hk':cl.getD k []=((bss (T.drop off)).takeWhile nz).map dJ:=by
  rw [List.getD_eq_getElem?_getD];have:(cl.drop k)[0]? = cl[k]? := by simp
  rw [<- this,<- hcs];rfl
 have hd:cl.drop (k + 1)=cls (C - (k + 1)) R:=by
  have:(cl.drop k).drop 1=cl.drop (k + 1):=by rw [List.drop_drop]
  rw [<- this,<- hcs];rfl
 have hlen:=congrArg List.length h1;simp only [List.length_append,List.length_cons] at hlen;have hbl:(bss (T.drop off)).length=T.length - off:=by simp [bss]
 have hR:bss (T.drop (off + ((bss (T.drop off)).takeWhile nz).length + 1))=R:=by
  rw [ET,Nat.add_assoc,<- List.drop_drop,<- ET,h2]
 refine ⟨rfl,by omega,by rw [hk'];simp,?_,⟨by omega,by rw [hR];have:=h.zs;omega,by rw [hR,hd]⟩⟩
 intro q hq hqe;have hget:(bss (T.drop off))[q]? = some (T[off + q]).data.toList:=by
  simp [bss,hq]
 have htw:((bss (T.drop off)).takeWhile nz)[q]? = some (T[off + q]).data.toList:=by
  rw [h1,List.getElem?_append_left hqe] at hget;exact hget
 refine ⟨h4 _ (List.mem_of_getElem? htw),?_⟩;rw [hk',List.getD_eq_getElem?_getD,List.getElem?_map,htw];rfl
theorem Wx {T:List ByteArray} {C:Nat} {cl:List (List Int)} {k off:Nat} (h:Cut T C cl k off) (hk:k < C):Lib.idxOfS ((T.drop off).take (T.length - off)) ⟨#[48]⟩=((((bss (T.drop off)).takeWhile nz).length:Nat):Int):=by
 rw [List.take_of_length_le (by simp)]
 unfold Lib.idxOfS;rw [D8 _ 0 (by rw [h.zs];omega)]
 simp
theorem uN (v:ByteArray) (T:List ByteArray) (A:Nat) (w:World) (hn:T.length <= 20000) (hA:A < w.heap.size)
  (hc:∀ j (h:j < T.length),w.cell? ⟨A,j,none⟩=some (.string T[j])) (hs:zi (bss T)):
  Calls Tryz.prog 38 #[.agg (BV v (zeros (bss T)) (lits (bss T)) (some ⟨A,0,none⟩) T.length)] w fun e w'=>∃ u,e=.returned u/\Below w.heap.size w w'/\
   Lists 43 3 w.heap.size w' u (cls (zeros (bss T)) (bss T)):=by
 have HC:=hide hc;clear hc;have HS:=hide hs;clear hs;have zl:=qJ (bss T);have zl':(bss T).length=T.length:=by simp [bss]
 obtain ⟨C,hC⟩:∃ C,C=zeros (bss T):=⟨_,rfl⟩;obtain ⟨cl,hcl⟩:∃ cl,cl=cls (zeros (bss T)) (bss T):=⟨_,rfl⟩;have HL:Hid (cl.length=C):=by unfold Hid;rw [hcl,hC];exact qF _ _
 have XH:Hid (cl=cls C (bss T)):=by unfold Hid;rw [hcl,hC]
 have HZ:=hide hC;rw [<- hcl,<- hC];have hC':C <= 20000:=by omega
 have HLs:∀ j,Hid ((cl.getD j []).length <= 20000):=fun j=>by
  unfold Hid;rw [hcl];have:=Je (zeros (bss T)) (bss T) j;omega
 clear hC hcl zl zl';have NY:=run_make_row' (P:=Tryz.prog) 32 43 (.slice none 0 0) 24 Tryz.underlying32 Tryz.Oy rfl .i64 .i64 C (by omega) (by omega)
 go_enter Tryz.func38,Tryz.ntmps38
 go_wp2;have M0:Hid (Mem 43 3 w.heap.size (w.heap.size + 1) cl w ((w.alloc (.cells (BV v C (lits (bss T)) (some ⟨A,0,none⟩) T.length) 72)).alloc (.cells (madeCells #[.slice none 0 0] C) 43)) 0 (fun _=>0) 20001):=by
  refine ⟨?_,fun j hj=>absurd hj (Nat.not_lt_zero _),fun j j' _ h=>absurd h (Nat.not_lt_zero _),((Below.refl _ _).alloc (Nat.le_refl _) _).alloc (by simp) _,by omega⟩
  rw [HL.out];have hr:=World.rowIs_made (w.alloc (.cells (BV v C (lits (bss T)) (some ⟨A,0,none⟩) T.length) 72)) (.slice none 0 0) C 43;simp only [World.size_alloc] at hr;exact hr.congr fun i hi=>by simp [uw]
 go_loopw [4,16] (fun t i wr=>∃ (k off:Nat) (B:Nat->Nat) (ao:Option Addr),k <= C/\i=.int .i64 k/\t=.slice ao (T.length - off) (T.length - off)/\(off < T.length->ao=some ⟨A,off,none⟩)/\
   Hid (Cut T C cl k off)/\Hid (Mem 43 3 w.heap.size (w.heap.size + 1) cl w wr k B 20001)) (fun _ i _=>C - (intOf i).toNat)
 case atStart=>exact ⟨0,0,fun _=>0,some ⟨A,0,none⟩,Nat.zero_le _,rfl,rfl,fun _=>rfl,⟨Nat.zero_le _,HZ.out.symm,XH.out.symm⟩,M0⟩
 case round=>
  clear M0 NY;obtain ⟨k,off,B,ao,hk,rfl,rfl,hao,hcut,hmem⟩:=hrel;by_cases hlt:k < C
  ·have N:=hide (hcut.out.step hlt);have I:=hide (Wx hcut.out hlt);obtain ⟨e,he⟩:∃ e,e=((bss (T.drop off)).takeWhile nz).length:=⟨_,rfl⟩;rw [<- he] at N I;clear he;have n1:=N.out.lt;have hao':=hao (by omega)
   subst hao';have cC:=hmem.out.outer.cell (i:=k) (by rw [HL.out];exact hlt)
   rw [show uw cl B k k=.slice none 0 0 from by simp [uw]] at cC
   have fC:=hmem.out.outer.frozen k;have lC:=hmem.out.outer.lt;clear hao;go_wp2_with fail
   refine (Tryz.slices_Index_string A off (T.length - off) (T.length - off) (T.drop off) _ _ (by simp) (by omega) ?_).mono ?_
   ·intro j hj;rw [hmem.out.below.cell (p:=⟨A,off + j,none⟩) hA];have hj':off + j < T.length:=by simp at hj;omega
    rw [HC.out (off + j) hj'];simp [List.getD_eq_getElem?_getD,hj']
   rintro e1 w1 ⟨rfl,rfl⟩;rw [I.out];have UR:=run_make_row' (P:=Tryz.prog) 43 3 (.int .i64 0) 8 Tryz.underlying43 Tryz.TW rfl .i64 .i64 e (by omega) (by omega)
   go_wp2;have M1:Hid (Mem 43 3 w.heap.size (w.heap.size + 1) cl w ((w1.setCell ⟨w.heap.size + 1,k,none⟩ (.slice (some ⟨w1.heap.size,0,none⟩) e e)).alloc (.cells (madeCells #[.int .i64 0] e) 3)) (k + 1) (fun j=>if j=k then w1.heap.size else B j) 0):=
    hmem.out.push (by rw [HL.out];exact hlt) (fun j hj=>by
     have:=gV (HLs j);omega) e N.out.len.symm
   clear UR cC fC;go_loopw [30] (fun i wr=>∃ p:Nat,p <= e/\i=.int .i64 p/\Hid (Mem 43 3 w.heap.size (w.heap.size + 1) cl w wr (k + 1) (fun j=>if j=k then w1.heap.size else B j) p)) (fun i _=>e - (intOf i).toNat)
   case atStart=>exact ⟨0,Nat.zero_le _,rfl,M1⟩
   case round=>
    clear M1;obtain ⟨p,hp,rfl,hm⟩:=hrel;by_cases hpe:p < e
    ·have cO:=hm.out.outer.cell (i:=k) (by rw [HL.out];exact hlt)
     rw [show uw cl (fun j=>if j=k then w1.heap.size else B j) (k + 1) k=.slice (some ⟨w1.heap.size,0,none⟩) e e from by simp [uw,inV];exact N.out.len] at cO
     have hin:=(hm.out.inner k (by omega)).2
     simp only [if_true] at hin;have cI:=hin.cell (i:=p) (by rw [N.out.len];exact hpe)
     rw [show partAt (cl.getD k []) (k + 1 == k + 1) p p=.int .i64 0 from by simp [partAt]] at cI
     have fI:=hin.frozen p;have lI:=hin.lt;have lO:=hm.out.outer.lt;clear hin;have hlT:off + p < T.length:=by omega
     have cT:wr.cell? ⟨A,off + p,none⟩=some (.string T[off + p]):=by
      rw [hm.out.below.cell (p:=⟨A,off + p,none⟩) hA];exact HC.out (off + p) hlT
     obtain ⟨z1,z2⟩:=N.out.lits p hlT hpe;obtain ⟨s1,s2⟩:=HS.out (T[off + p]).data.toList (by simp only [bss,List.mem_map];exact ⟨_,List.getElem_mem hlT,rfl⟩) z1
     rw [z2] at s1;have s3:(T[off + p]).size <= 18:=by simpa using s2
     obtain ⟨t,ht⟩:∃ t,t=T[off + p]:=⟨_,rfl⟩;rw [<- ht] at cT s1 s3;have S1:=hide s1;clear ht s1 s2 z1 z2;obtain ⟨x,hx⟩:∃ x,x=(cl.getD k []).getD p 0:=⟨_,rfl⟩;rw [<- hx] at S1;have HX:=hide hx;clear hx;have hAr:A < wr.heap.size:=by have:=hm.out.below.size;omega
     go_wp2;go_region_with ((go_at_call 37;refine (y9 t x _ s3 S1.out).mono ?_;rintro e2 w2 ⟨rfl,hb2⟩;have d1:=(hb2.cell (p:=⟨w1.heap.size,p,none⟩) lI).trans cI;have d2:=(hb2.frozen (p:=⟨w1.heap.size,p,none⟩) lI).trans fI;have d3:=(hb2.cell (p:=⟨w.heap.size + 1,k,none⟩) lO).trans cO;have HB2:=hide hb2;clear hb2))
     all_goals
      go_wp2;go_roundw
      case rel=>
       refine ⟨p + 1,by omega,by go_num,?_⟩
       have m2:=(hm.out.later ((Below.refl _ wr).drew.trans HB2.out)).put x HX.out;simp only [if_true] at m2;exact m2
      case measure=>simp [intOf];omega
    ·have e1:p=e:=by omega
     subst e1;have nx:=hide N.out.next;have ML:Hid (Mem 43 3 w.heap.size (w.heap.size + 1) cl w wr (k + 1) (fun j=>if j=k then w1.heap.size else B j) 20001):=by
      have h:=hm.out;refine ⟨h.outer,fun j hj=>⟨(h.inner j hj).1,(h.inner j hj).2.congr fun q hq=>?_⟩,h.dX,h.below,h.jg⟩
      by_cases e:j=k
      ·subst e;rw [N.out.len] at hq;rw [kK hq,kK (by omega)]
      ·have:(j + 1 == k + 1)=false:=by simp;omega
       rw [this,eZ,eZ]
     go_wp2;refine ⟨⟨k + 1,off + p + 1,_,(if T.length - off=p + 1 then some { block:=A,off:=off } else some { block:=A,off:=off + (p + 1) }),by omega,by go_num,?_,fun h=>?_,nx.out,ML.out⟩,by simp [intOf];omega⟩
     ·rw [show T.length - (off + p + 1)=T.length - off - (p + 1) by omega]
     ·rw [if_neg (by omega),show off + (p + 1)=off + p + 1 by omega]
  ·have e1:k=C:=by omega
   subst e1;have hl:=hmem.out;rw [<- HL.out] at hl;have LL:=hide (hl.lists (fun j hj=>by have:=gV (HLs j);omega))
   have HB:=hide hl.below;clear hl;rw [HL.out] at LL;go_wp2;go_ret;exact ⟨_,rfl,HB.out,LL.out⟩
end
section
open Go Go.RowKit Go.Proofs Go.Deep
def nu (s:Bs):Int × List (List Int) × Int:=
 if 20000 < s.length then (0,[],1)
 else match fo s with
  | none=>(0,[],2)
  | some (v,T)=>if above v [53,48] || decide (700 < lits T) then (0,[],1) else (dM v,cls (zeros T) T,0)
theorem Di {s v:Bs} {T:List Bs} (h:fo s=some (v,T)):dN v=true/\iG v T=true/\gz T=true:=by
 unfold fo at h
 cases h1:(fJ (s.length + 1) s).bind oH with
 | none=>rw [h1] at h;simp at h
 | some o=>
  obtain ⟨v',c,r⟩:=o;rw [h1] at h;simp only at h;split at h
  ·rename_i hc;simp only [Option.some.injEq,Prod.mk.injEq] at h;obtain ⟨rfl,rfl⟩:=h;simp only [Bool.and_eq_true] at hc;refine ⟨?_,hc.1.1,hc.1.2⟩;obtain ⟨x,_,hx⟩:=Option.bind_eq_some_iff.1 h1;unfold oH at hx;split at hx
   ·rename_i hy;simp only [Bool.and_eq_true] at hy;simp only [Option.some.injEq,Prod.mk.injEq] at hx;rw [<- hx.1];exact hy.1.2
   ·cases hx
  ·cases h
theorem MX {v:Bs} {T:List Bs} (h:iG v T=true) (hv:v.length <= 2):zi T:=by
 intro t ht hz;have:=List.all_eq_true.1 h t ht;rw [hz,Bool.false_or] at this;have hl:(strip t).length <= 2:=by
  have h2:=this;unfold jf at h2;simp only [Bool.and_eq_true,Bool.not_eq_true'] at h2;have:=iN h2.2;omega
 refine ⟨P9 this (by omega),?_⟩
 unfold strip at hl;split at hl
 ·simp at hl;omega
 ·omega
theorem GM (w:World):Calls Tryz.prog 36 #[.int .i64 50] w fun e w'=>e=.returned (.string ⟨#[53,48]⟩)/\w'=w:=by
 refine (Tryz.strconv_Itoa_small 50 (by omega) w).mono ?_
 rintro e w' ⟨rfl,rfl⟩;exact ⟨by rw [show Lib.decDigits 50=[53,48] from by decide +kernel],rfl⟩
theorem sP (v:ByteArray) (b:Bool) (w:World) (hv:v.size <= 20000) (hb:above v.data.toList [53,48]=b):
  Calls Tryz.prog 35 #[.string v,.string ⟨#[53,48]⟩] w fun e w'=>e=.returned (.bool b)/\w'=w:=by
 refine (uC v ⟨#[53,48]⟩ w (by unfold maxLen;omega) (by decide)).mono ?_
 rintro e w' ⟨rfl,rfl⟩;exact ⟨by rw [show above v.data.toList (⟨#[53,48]⟩:ByteArray).data.toList=b from hb],rfl⟩
def Uz (r:Int × List (List Int) × Int) (w w':World) (e:Ending):Prop:=
 ∃ u,e=.returned (.tuple #[.int .i64 r.1,u,.int .i64 r.2.2])/\((r.2.1=[]/\u=.slice none 0 0)\/Lists 43 3 w.heap.size w' u r.2.1)
theorem vW (s:ByteArray) (w:World) (hs:s.size <= maxLen) (hg:mZ w):
  Calls Tryz.prog 18 #[.string s] w fun e w'=>Below w.heap.size w w'/\Uz (nu s.data.toList) w w' e:=by
 unfold maxLen at hs;by_cases h0:20000 < s.size
 ·have E:Hid (nu s.data.toList=(0,[],1)):=by unfold Hid nu;rw [if_pos (by simpa using h0)]
  go_enter Tryz.func18,Tryz.ntmps18
  go_wp2;go_ret3
  exact ⟨Below.refl _ _,_,by rw [E.out];rfl,.inl ⟨by rw [E.out],rfl⟩⟩
 ·have h0':¬ (20000:Int) < (s.size:Int):=by omega
  have HG:=hide hg;clear hg;go_enter Tryz.func18,Tryz.ntmps18
  go_wp2_with fail
  refine (J8 s w (by omega) HG.out).mono ?_
  rintro e w1 ⟨hb1,⟨hp,rfl⟩ | ⟨v,T,A,hp,rfl,hA,hA1,hc,hn,hT,hv⟩⟩
  ·have E:Hid (nu s.data.toList=(0,[],2)):=by unfold Hid nu;rw [if_neg (by simpa using h0),hp]
   clear hp;go_wp2;go_ret3;exact ⟨hb1.alloc (by exact hb1.size) _,_,by rw [E.out];rfl,.inl ⟨by rw [E.out],rfl⟩⟩
  ·have E0:Hid (nu s.data.toList=if above v.data.toList [53,48] || decide (700 < lits (bss T)) then (0,[],1) else (dM v.data.toList,cls (zeros (bss T)) (bss T),0)):=by
    unfold Hid nu;rw [if_neg (by simpa using h0),hp]
   obtain ⟨f1,f2,f3⟩:=Di hp;have F1:=hide f1;have F2:=hide f2;have HC:=hide hc;have HT:=hide hT;have HB1:=hide hb1;have s1:=hb1.size;clear hp f1 f2 f3 hc hT hb1;have zl:=qJ (bss T);have ll:=IU (bss T);have zl':(bss T).length=T.length:=by simp [bss]
   cases c1:above v.data.toList [53,48] with
   | true=>
    have E:Hid (nu s.data.toList=(0,[],1)):=by unfold Hid;rw [E0.out,c1];rfl
    have C1:=hide c1;clear c1 E0;go_wp2
    go_quiet ((first | (go_at_call 36;exact Calls.quiet_of_same (GM _)) | (go_at_call 35;exact Calls.quiet_of_same (sP v true _ hv C1.out))))
    go_wp2;go_ret3
    exact ⟨jJ (HB1.out.alloc s1 _) _,_,by rw [E.out];rfl,.inl ⟨by rw [E.out],rfl⟩⟩
   | false=>
    have C1:=hide c1;clear c1;by_cases c2:700 < lits (bss T)
    ·have E:Hid (nu s.data.toList=(0,[],1)):=by unfold Hid;rw [E0.out,C1.out];simp [c2]
     have hd:decide ((700:Int) < (lits (bss T):Int))=true:=by simp;omega
     clear c2 E0;go_wp2
     go_quiet ((first | (go_at_call 36;exact Calls.quiet_of_same (GM _)) | (go_at_call 35;exact Calls.quiet_of_same (sP v false _ hv C1.out))))
     go_wp2;go_ret3
     exact ⟨jJ (HB1.out.alloc s1 _) _,_,by rw [E.out];rfl,.inl ⟨by rw [E.out],rfl⟩⟩
    ·have E:Hid (nu s.data.toList=(dM v.data.toList,cls (zeros (bss T)) (bss T),0)):=by unfold Hid;rw [E0.out,C1.out];simp [c2]
     have hd:decide ((700:Int) < (lits (bss T):Int))=false:=by simp;omega
     have v2:v.size <= 2:=by have:=iN C1.out;simpa using this
     have AT:=hide (Fe F1.out (by simp;omega))
     have SH:=hide (MX F2.out (by simpa using v2))
     clear c2 E0;go_wp2
     go_quiet ((first | (go_at_call 36;exact Calls.quiet_of_same (GM _)) | (go_at_call 35;exact Calls.quiet_of_same (sP v false _ hv C1.out))))
     go_wp2;go_region_with (first
      |(go_at_call 37;refine (y9 v (dM v.data.toList) _ (by omega) AT.out).mono ?_;rintro e2 w2 ⟨rfl,hb2⟩;have d0:=hb2.cell (p:=⟨w1.heap.size,0,none⟩) (by simp);have d1:=hb2.cell (p:=⟨w1.heap.size,1,none⟩) (by simp);have d2:=hb2.cell (p:=⟨w1.heap.size,2,none⟩) (by simp);have d3:=hb2.cell (p:=⟨w1.heap.size,3,none⟩) (by simp);have A2:Hid (A < w2.heap.size):=(by have:=hb2.size;simp at this;unfold Hid;omega);have C2:Hid (∀ j (h:j < T.length),w2.cell? ⟨A,j,none⟩=some (.string T[j])):=fun j h=>(hb2.cell (p:=⟨A,j,none⟩) (by simp;omega)).trans ((World.cell?_alloc_lt _ _ _ (by exact hA1)).trans (HC.out j h));have HB2:=hide hb2;clear hb2)
      |(go_at_call 38;refine (uN v T A _ hn (by exact A2.out) (by exact C2.out) SH.out).mono ?_;rintro e3 w3 ⟨u,rfl,hb3,hl3⟩;have HB3:=hide hb3;have HL3:=hide hl3;clear hb3 hl3))
     all_goals
      go_wp2;go_ret3
      have s2:=HB2.out.size;simp at s2;refine ⟨?_,u,by rw [E.out];rfl,.inr ?_⟩
      ·refine Below.trans (Below.trans (jJ (HB1.out.alloc s1 _) _) (Below.trans (Below.drew (Below.refl _ _)) (HB2.out.mono (by simp;omega)))) (HB3.out.mono (by omega))
      ·rw [E.out];exact HL3.out.mono (by omega)
end
end Rd
end Go.Proofs.YtceahffmenbibaaGreatDoor
