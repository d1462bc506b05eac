/- Cref10 Phld Vhld Pnew Pchk Vchk. -/
import Derived.Test.YtceahffmenbibaaGreatDoorH09
import Derived.Test.YtceahffmenbibaaGreatDoorH16
set_option linter.unusedVariables false
set_option linter.unusedSimpArgs false
set_option maxHeartbeats 4000000
set_option maxRecDepth 100000
namespace Go.Proofs.YtceahffmenbibaaGreatDoor
namespace Rd
section
open Go Go.RowKit Go.Deep
theorem JS:∀ {L:List Cl} {c:Cl} {L':List Cl},rem L c=some L'->(∀ d ∈ L',d ∈ L)/\L'.length <= L.length
 | [],c,L',h=>by simp [rem] at h
 | d :: r,c,L',h=>by
  unfold rem at h;split at h
  ·cases h;exact ⟨fun x a=>List.mem_cons_of_mem _ a,by simp⟩
  ·obtain ⟨M,b,rfl⟩:=Option.map_eq_some_iff.1 h;obtain ⟨e,f⟩:=JS b;refine ⟨fun x a=>?_,by simp;omega⟩
   rcases List.mem_cons.1 a with rfl | a
   ·exact List.mem_cons_self ..
   ·exact List.mem_cons_of_mem _ (e x a)
section
attribute [local go_sem ↓] Go.wp_at_zero Go.wp_at_succ
def Has (B sb:Nat) (L:List Cl) (N:Nat) (w:World):Prop:=
 ∃ (cv:Value) (mb:Nat) (gone:Int) (u:Key) (wv:Nat->Value) (es:List dN) (wl:Nat->List Nat),fu B sb w cv mb gone u wv es wl/\jX es wl u L/\es.length <= N/\-(N:Int) <= gone/\gone <= (N:Int)/\L.length <= N
variable {B sb N:Nat} {L:List Cl} {c:Cl} {w w':World}
theorem Has.later (h:Has B sb L N w) (f:Below w.heap.size w w'):Has B sb L N w':=by
 obtain ⟨j,e,a,u,b,i,d,g,r⟩:=h;exact ⟨j,e,a,u,b,i,d,g.later f,r⟩
theorem Has.bsize (h:Has B sb L N w):B <= w.heap.size:=by
 obtain ⟨i,f,a,u,d,g,e,b,r⟩:=h;exact b.bsize
theorem Re (a:List dN) (s:Key):(xm a s).length <= a.length + 1:=by
 unfold xm;split <;> simp
theorem Kw (h:Has B sb L N w) (s:nT B w) (g:∀ l ∈ c,jG l) (z:N <= 1500000000000):
  Calls Tryz.prog 68 #[.pointer (some ⟨sb,0,none⟩),dC (setOf c)] w fun e w'=>e=.returned (.tuple #[])/\Below B w w'/\dm w w'/\Has B sb (L ++ [c]) (N + 1) w':=by
 obtain ⟨I,p,i,u,x,H,y,t,a,G,E,D,C⟩:=h;refine (xC (setOf c) w (mR g) a.jI.ok (by omega) (fun k q=>Nat.le_trans (a.gT.len q) (by omega)) ⟨by omega,by omega⟩ (fun e r=>by rw [a.cnt e r];exact Nat.le_trans List.countP_le_length (by omega)) t s).mono ?_;rintro e w' ⟨o,n,m,d,b,v,f,j⟩;refine ⟨o,n,m,d,p,v,_,b,_,_,j,a.add g,Nat.le_trans (Re _ _) (by omega),?_,?_,by simp;omega⟩
 ·rcases f with e | e <;> rw [e] <;> omega
 ·rcases f with e | e <;> rw [e] <;> omega
theorem Tk (h:Has B sb L N w) (z:nT B w) (y:∀ l ∈ c,jG l) (J:N <= 1500000000000):
  Calls Tryz.prog 76 #[.pointer (some ⟨sb,0,none⟩),dC (setOf c)] w fun e w'=>Below B w w'/\dm w w'/\((rem L c=none/\e=.returned (.bool false)/\Has B sb L N w')\/∃ j,rem L c=some j/\e=.returned (.bool true)/\Has B sb j (N + 1) w'):=by
 obtain ⟨Q,I,q,u,G,P,H,E,D,O,M,K,C⟩:=h;refine (IC c w y (by omega) ⟨by omega,by omega⟩ E z D (by omega)).mono ?_;rintro e w' ⟨x,v,t⟩;refine ⟨x,v,?_⟩
 rcases t with ⟨i,o,g,d,p,k,a,f,b,n,m,s,r⟩ | ⟨j,i,o,g,d,p,k,a,f,b,n,m,s,r⟩
 ·exact .inl ⟨i,o,g,d,p,k,a,f,b,n,m,by omega,by omega,by omega,C⟩
 ·exact .inr ⟨j,i,o,g,d,p,k,a,f,b,n,m,by omega,by omega,by omega,by have:=(JS i).2;omega⟩
theorem Ql (g:Bool) (s f:Key) (k:s.ok) (w:World):
  Calls Tryz.prog 43 #[mD g s f] w fun e w'=>e=.returned (.bool (!g && jW s))/\Below w.heap.size w w':=by
 have d:=hide (fun V=>ou s V k);unfold dC at d;unfold mD;obtain ⟨i,a⟩:∃ i,jW s=i:=⟨_,rfl⟩;rw [a] at d ⊢;clear a;go_enter Tryz.func43,Tryz.ntmps43
 cases g with
 | true=>
  have h:Hid (Below w.heap.size w (w.alloc (.cells #[.bool true,.int .u64 (s.1:Int),.int .u64 (s.2:Int),.int .u64 (f.1:Int),.int .u64 (f.2:Int)] 86))):=bR.alloc lr _;go_wp2;go_ret;exact ⟨rfl,h.out⟩
 | false=>
  have h:Hid (Below w.heap.size w (w.alloc (.cells #[.bool false,.int .u64 (s.1:Int),.int .u64 (s.2:Int),.int .u64 (f.1:Int),.int .u64 (f.2:Int)] 86))):=bR.alloc lr _;go_wp2_with fail
  with_reducible refine (d.out _).mono ?_
  rintro m j ⟨rfl,b⟩;simp only [];have l:Hid (Below w.heap.size w j):=h.out.trans (b.mono (by simp));clear b;go_wp2;go_ret;exact ⟨by simp,l.out⟩
end
section
attribute [local go_sem ↓] Go.wp_at_zero Go.wp_at_succ
variable {B sb N:Nat} {L:List Cl} {c:Cl} {w w':World}
theorem Li (h:Has B sb L N w) (v:nT B w) (t:∀ l ∈ c,jG l) (I:N <= 1500000000000) (g:c=[]\/jk L (ve c 0)):
  Calls Tryz.prog 77 #[.pointer (some ⟨sb,0,none⟩),dC (setOf c),dC (eY c)] w fun e w'=>∃ b,e=.returned (.bool b)/\Below B w w'/\dm w w'/\Has B sb L N w'/\(b=true↔jk L (ve c 0)):=by
 obtain ⟨E,s,a,u,G,J,H,D,k,C,z,y,x⟩:=h;refine (FQ c w t (by omega) D v k g).mono ?_;rintro e w' ⟨b,d,i,f,r,q,p,o,j,n,m⟩;exact ⟨b,r,q,p,⟨E,s,a,u,d,i,f,o,k.same j n,by rw [o6 j];exact C,z,y,x⟩,m⟩
def Rm (B sb:Nat) (L:List Cl) (N:Nat) (g:Bool) (c:Cl) (w:World) (e:Ending) (w':World):Prop:=Below B w w'/\dm w w'/\
 ((∃ L',g=true/\rem L c=some L'/\e=.returned (.bool true)/\Has B sb L' (N + 1) w')\/∃ b,g=false/\e=.returned (.bool b)/\(b=true↔jk L (ve c 0))/\(b=true->Has B sb (L ++ [c]) (N + 1) w'))
theorem N9 (g:Bool) (h:Has B sb L N w) (S:nT B w) (Q:∀ l ∈ c,jG l) (C:N <= 1500000000000) (u:g=true->rem L c ≠ none) (v:g=false->c=[]\/jk L (ve c 0)):
  Calls Tryz.prog 42 #[.pointer (some ⟨sb,0,none⟩),mD g (setOf c) (eY c)] w fun e w'=>Rm B sb L N g c w e w':=by
 have Y:=hide h;have X:=hide S;have G:=hide Q;have o:=hide u;have p:=hide v;have x:=h.bsize;have y:Hid (∀ V,Below w.heap.size w V->Calls Tryz.prog 76 #[.pointer (some ⟨sb,0,none⟩),dC (setOf c)] V fun e w'=>Below B w w'/\dm w w'/\((rem L c=none/\e=.returned (.bool false))\/∃ z,rem L c=some z/\e=.returned (.bool true)/\Has B sb z (N + 1) w')):=fun V n=>by
  refine (Tk (Y.out.later n) (X.out.later (n.mono x)) G.out C).mono ?_;rintro e w' ⟨i,d,m⟩;refine ⟨(n.mono x).trans i,(dm.of_below n).trans d,?_⟩
  rcases m with ⟨q,r2,_⟩ | r
  ·exact .inl ⟨q,r2⟩
  ·exact .inr r
 have t:Hid (g=false->∀ V,Below w.heap.size w V->Calls Tryz.prog 77 #[.pointer (some ⟨sb,0,none⟩),dC (setOf c),dC (eY c)] V fun e w'=>∃ b,e=.returned (.bool b)/\Hid (Below B w w'/\dm V w'/\Has B sb L N w'/\nT B w'/\(b=true↔jk L (ve c 0)))):=fun hg V n=>by
  have T:=X.out.later (n.mono x);refine (Li (Y.out.later n) T G.out C (p.out hg)).mono ?_;rintro e w' ⟨b,i,d,m,q4,q5⟩;exact ⟨b,i,(n.mono x).trans d,m,q4,T.later d,q5⟩
 have D:Hid (∀ V,Has B sb L N V->nT B V->Calls Tryz.prog 68 #[.pointer (some ⟨sb,0,none⟩),dC (setOf c)] V fun e w'=>e=.returned (.tuple #[])/\Below B V w'/\dm V w'/\Has B sb (L ++ [c]) (N + 1) w'):=fun V h1 h2=>Kw h1 h2 G.out C
 obtain ⟨s,O⟩:∃ s,setOf c=s:=⟨_,rfl⟩;obtain ⟨f,P⟩:∃ f,eY c=f:=⟨_,rfl⟩;rw [O] at y t D ⊢;rw [P] at t ⊢;unfold dC at y t D;unfold mD;clear h S Q O P u v;go_enter Tryz.func42,Tryz.ntmps42
 go_upto_region 1 with fail
 obtain ⟨W,a⟩:∃ W,W=w.alloc (.cells #[.bool g,.int .u64 (s.1:Int),.int .u64 (s.2:Int),.int .u64 (f.1:Int),.int .u64 (f.2:Int)] 86):=⟨_,rfl⟩;have H:Hid (Below w.heap.size w W):=by rw [a];exact bR.alloc lr _
 have Z:Hid (kP W w.heap.size):=by rw [a];exact qQ _ _ _ (by decide)
 have x0:W.cell? ⟨w.heap.size,0,none⟩=some (.bool g):=by rw [a];simp
 have J:W.cell? ⟨w.heap.size,1,none⟩=some (.int .u64 (s.1:Int)):=by rw [a];simp
 have I:W.cell? ⟨w.heap.size,2,none⟩=some (.int .u64 (s.2:Int)):=by rw [a];simp
 have x3:W.cell? ⟨w.heap.size,3,none⟩=some (.int .u64 (f.1:Int)):=by rw [a];simp
 have x4:W.cell? ⟨w.heap.size,4,none⟩=some (.int .u64 (f.2:Int)):=by rw [a];simp
 rw [<- a];clear a
 cases g with
 | true=>
  have E:=hide (o.out rfl);clear t p o;go_wp2_with fail
  with_reducible refine (y.out _ H.out).mono ?_
  rintro e6 K ⟨i,d,m⟩;have B6:=hide i;have K6:=hide d;clear i d
  rcases m with ⟨q,rfl⟩ | ⟨z,q,rfl,M⟩
  ·exact absurd q E.out
  ·have R:=hide q;have R3:=hide M;clear q M;simp only [];go_wp2;go_ret;exact ⟨B6.out,K6.out,.inl ⟨z,rfl,R.out,rfl,R3.out⟩⟩
 | false=>
  have QJ:=hide (t.out rfl);clear p o t y;go_wp2_with fail
  with_reducible refine (QJ.out _ H.out).mono ?_
  rintro e6 K ⟨b,rfl,k⟩;simp only [];have z1:=(k.out.2.1.cell (j:=1) Z.out).trans J;have z2:=(k.out.2.1.cell (j:=2) Z.out).trans I;have U:Hid (dm w K):=(dm.of_below H.out).trans k.out.2.1;clear x0 J I x3 x4
  cases b with
  | false=>
   have R:Hid (¬ jk L (ve c 0)):=fun h=>by have:=k.out.2.2.2.2.2 h;cases this
   go_wp2;go_ret
   exact ⟨k.out.1,U.out,.inr ⟨false,rfl,rfl,⟨fun h=>(by cases h),fun h=>absurd h R.out⟩,fun h=>(by cases h)⟩⟩
  | true=>
   have R:Hid (jk L (ve c 0)):=k.out.2.2.2.2.1 rfl;go_wp2_with fail
   with_reducible refine (D.out _ k.out.2.2.1 k.out.2.2.2.1).mono ?_
   rintro e7 w7 ⟨rfl,i,d,m⟩;simp only [];have BE:=hide (k.out.1.trans i);have KE:=hide (U.out.trans d);have HE:=hide m;clear i d m;go_wp2;go_ret;exact ⟨BE.out,KE.out,.inr ⟨true,rfl,rfl,⟨fun _=>R.out,fun _=>rfl⟩,fun _=>HE.out⟩⟩
end
section
attribute [local go_sem ↓] Go.wp_at_zero Go.wp_at_succ
theorem EU (a:Nat):Tryz.zeroCells134.setIfInBounds 1 (.map (some a))=(newRow a (0,0)).toArray:=by
 apply Array.toList_inj.1
 rw [Array.toList_setIfInBounds,Tryz.Ce];rfl
def WH (H:Nat) (w:World) (cl:List Cl) (i11:Value) (wr:World):Prop:=
 ∃ i:Nat,i11=.int .i64 i/\i <= cl.length/\Hid (Below H w wr/\Has H (H + 1) (cl.take i) i wr/\nT H wr)
theorem CV (d:List Cl) (v:Value) (w:World) (hv:xD w v d) (r:∀ c ∈ d,∀ l ∈ c,jG l) (O:d.length <= 20001) (m:∀ c ∈ d,c.length <= 20001) (hT:nT w.heap.size w):
  Calls Tryz.prog 39 #[v] w fun e w'=>e=.returned (.pointer (some ⟨w.heap.size + 1,0,none⟩))/\Below w.heap.size w w'/\Has w.heap.size (w.heap.size + 1) d d.length w'/\nT w.heap.size w':=by
 obtain ⟨a,cp,b,rfl,ha,n⟩:=hv;have H:=hide n;have HL:=hide r;have G:=hide m;have s:=@run_makeMap Tryz.prog;clear n r m;go_enter Tryz.func39,Tryz.ntmps39
 go_upto_region 2 with fail
 obtain ⟨Y,q⟩:∃ Y,Y=(w.alloc (.map #[] 0)).alloc (.cells (Tryz.zeroCells134.setIfInBounds 1 (.map (some w.heap.size))) 134):=⟨_,rfl⟩;have I:Hid (Below w.heap.size w Y):=by unfold Hid;rw [q];exact (bR.alloc lr _).alloc (by simp) _
 have U:Hid (fu w.heap.size (w.heap.size + 1) Y (.slice none 0 0) w.heap.size 0 (0,0) (fun _=>.slice none 0 0) [] (fun _=>[])):=by
  unfold Hid;refine fu.fresh ?_ ?_ (by omega) lr
  ·rw [q,EU];have:=heap_alloc_new (w.alloc (.map #[] 0)) (.cells (newRow w.heap.size (0,0)).toArray 134);simpa using this
  ·rw [q];refine (yE w).kept ?_;rw [Below.heap_alloc _ _ _ (by simp)]
 rw [<- q];clear q s;have S:Hid (Below w.heap.size w Y/\Has w.heap.size (w.heap.size + 1) (d.take 0) 0 Y/\nT w.heap.size Y):=
  ⟨I.out,⟨_,_,_,_,_,_,_,U.out,by rw [List.take_zero];exact jX.empty,lr,by omega,by omega,by simp⟩,hT.later I.out⟩
 clear U I;go_wp2;go_loopw [11] (fun i wr=>WH w.heap.size w d i wr) (fun i _=>d.length - (intOf i).toNat)
 case atStart=>exact ⟨0,rfl,zl,S⟩
 case round=>
  clear S;obtain ⟨i,rfl,ad,T⟩:=hrel;by_cases h:i < d.length
  ·have t:=ha (by omega);subst t;obtain ⟨u,g,f⟩:=H.out i h;have y:b < w.heap.size:=block_lt_of_cell g;have ac:=(T.out.1.cell (p:=⟨b,i,none⟩) y).trans g;have J:d.getD i []=d[i]:=by rw [List.getD_eq_getElem?_getD,List.getElem?_eq_getElem h];rfl
   rw [J] at f;have W:Hid (Rw wr u d[i]):=by
    obtain ⟨Z,X,K,e1,e2,e3⟩:=f;refine ⟨Z,X,K,e1,e2,fun j hj=>?_⟩;have:=e3 j hj;rw [T.out.1.cell (p:=⟨K,j,none⟩) (block_lt_of_cell this)];exact this
   have k:Hid (∀ l ∈ d[i],jG l):=HL.out _ (List.getElem_mem _);have D:=hide (Ld d[i] u wr W.out (fun l r=>nL (k.out l r)) (Nat.le_trans (G.out _ (List.getElem_mem _)) (by omega)));have R:Hid (d.take (i + 1)=d.take i ++ [d[i]]):=by
    unfold Hid;rw [List.take_add_one,List.getElem?_eq_getElem h];rfl
   have E:Hid (∀ V,Below wr.heap.size wr V->Calls Tryz.prog 68 #[.pointer (some ⟨w.heap.size + 1,0,none⟩),dC (setOf d[i])] V fun e w'=>e=.returned (.tuple #[])/\Hid (Below w.heap.size w w'/\Has w.heap.size (w.heap.size + 1) (d.take (i + 1)) (i + 1) w'/\nT w.heap.size w')):=fun V x=>by
    have P:=T.out.2.1.bsize;have Q:=T.out.2.2.later (x.mono P);refine (Kw (T.out.2.1.later x) Q k.out (by omega)).mono ?_;rintro e w' ⟨q1,M,q3,q4⟩;exact ⟨q1,(T.out.1.trans (x.mono P)).trans M,by rw [R.out];exact q4,Q.later M⟩
   unfold dC at D E;generalize setOf d[i]=sk at D E;have ab:(0:Int) <= (i:Int):=by omega
   have aa:(i:Int) < (d.length:Int):=by omega
   clear g f W k R J;go_wp2_with fail
   with_reducible refine D.out.mono ?_
   rintro e6 w6 ⟨rfl,o⟩;simp only [];have B6:=hide o;clear o;go_wp2_with fail
   with_reducible refine (E.out _ B6.out).mono ?_
   rintro e7 w7 ⟨rfl,H7⟩;simp only [];go_wp2;go_roundw
   case rel=>exact ⟨i + 1,lL (by omega),by omega,H7⟩
   case measure=>simp [intOf];omega
  ·have ei:i=d.length:=by omega
   subst ei;have z:=T.out;rw [List.take_length] at z;have C:=hide z;clear z;go_wp2;go_ret;exact ⟨rfl,C.out.1,C.out.2.1,C.out.2.2⟩
end
end
section
open Go Go.RowKit Go.Deep Go.Proofs
section
attribute [local go_sem ↓] Go.wp_at_zero Go.wp_at_succ
theorem UB (s:ByteArray) (m:Int) (w:World) (d:s.size <= 17592186044416) (f:w.cell? ⟨0,0,none⟩=some (.int .i64 m)):
  Calls Tryz.prog 40 #[.string s,.string ⟨#[10]⟩] w fun e w'=>∃ x y:ByteArray,e=.returned (.tuple #[.string x,.string y,.bool (hasB 10 s.data.toList)])/\
   Hid (hasB 10 s.data.toList=true->x.data.toList=upto 10 s.data.toList/\y.data.toList=s.data.toList.drop ((upto 10 s.data.toList).length + 1))/\x.size <= s.size/\∃ n,w'=w.drewN n:=by
 refine (En 10 s (by omega) w).mono ?_;rintro e w' ⟨rfl,a⟩;rw [show Lib.cut s.data.toList (⟨#[10]⟩:ByteArray).data.toList=_ from Dx 10 _];cases h:hasB 10 s.data.toList
 ·exact ⟨_,_,rfl,(fun h=>by cases h),by show s.data.toList.toArray.size <= s.size;simp,a⟩
 ·refine ⟨_,_,rfl,fun _=>⟨rfl,rfl⟩,?_,a⟩;show (upto 10 s.data.toList).toArray.size <= s.size
  have b:(upto 10 s.data.toList).length <= s.data.toList.length:=by unfold upto;exact (List.takeWhile_sublist _).length_le
  simp at b ⊢;exact b
theorem Jl {c:Cl} (b:∀ l ∈ c,jG l):jW (setOf c)=c.isEmpty:=by
 unfold jW
 cases c with
 | nil=>rfl
 | cons l r=>
  have h:(setOf (l :: r)).has l=true:=by rw [has_setOf (fun x a=>rU (b x a))];simp
  have:setOf (l :: r) ≠ (0,0):=(kF _).2 ⟨l,h⟩;rw [decide_eq_false this];rfl
end
section
attribute [local go_sem ↓] Go.wp_at_zero Go.wp_at_succ
open Go.Proofs.YtceahffmenbibaaGreatDoor.So (jF dK gQ wr Kh vB rC)
structure Hd (V:Nat) (ls:List (Bool × List Nat)) (x:Bs) (L L':List Cl):Prop where
 tx:x=dK ls ++ [48,10]
 go:jF L (ls.map fun l=>(l.1,l.2.map wr)) L'
 lt:∀ l ∈ ls,∀ x ∈ l.2,x < 2 * V
theorem KL {a r:Bs} (h:rC 10 a):upto 10 (a ++ 10 :: r)=a:=by
 unfold upto;rw [List.takeWhile_append_of_pos (fun x b=>by rw [h x b];rfl)];simp [List.takeWhile_cons]
theorem Hd.line {V:Nat} (A:V <= 50) {m:List (Bool × List Nat)} {x:Bs} {L k:List Cl} (h:Hd V m x L k):
  ∃ g d y,hasB 10 x=true/\x.drop ((upto 10 x).length + 1)=y/\oq (Lib.decDigits V) (upto 10 x)=some (g,d)/\y.length + 2 <= x.length/\x.count 10=1 + y.count 10/\(g=true->rem L d ≠ none)/\(g=false->d=[]\/jk L (ve d 0))/\
   ((g=false/\d=[]/\k=L/\m=[])\/((!g && d.isEmpty)=false/\∃ l r,m=l :: r/\(g=true->∀ M,rem L d=some M->Hd V r y M k)/\(g=false->jk L (ve d 0)/\Hd V r y (L ++ [d]) k))):=by
 obtain ⟨t,i,lt⟩:=h;have j:∀ (g:Bool) (c:List Nat) (y:Bs),(∀ x ∈ c,x < 2 * V)->x=gQ g c ++ 10 :: y->hasB 10 x=true/\x.drop ((upto 10 x).length + 1)=y/\oq (Lib.decDigits V) (upto 10 x)=some (g,c.map wr)/\y.length + 2 <= x.length/\x.count 10=1 + y.count 10:=fun g c y z e=>by
  have f:=vB A g z;have u:upto 10 x=gQ g c:=by rw [e,KL f]
  have F:(gQ g c).length ≠ 0:=by unfold gQ;simp
  refine ⟨?_,?_,by rw [u];exact Kh A g z,by rw [e];simp;omega,?_⟩
  ·unfold hasB;rw [u,e];simp
  ·rw [u,e];simp
  ·rw [e,List.count_append,List.count_cons_self,List.count_eq_zero.2 (fun C=>absurd (f 10 C) (by decide))];omega
 cases m with
 | nil=>
  have i:k=L:=i;obtain ⟨s,q,p,o,n⟩:=j false [] [] (by simp) (by rw [t];rfl);exact ⟨false,[],[],s,q,p,o,n,fun h=>(by cases h),fun _=>.inl rfl,.inl ⟨rfl,rfl,i,rfl⟩⟩
 | cons l r=>
  obtain ⟨g,c⟩:=l;have v:∀ l ∈ r,∀ x ∈ l.2,x < 2 * V:=fun l D=>lt l (by simp [D])
  obtain ⟨s,q,p,o,n⟩:=j g c (dK r ++ [48,10]) (lt (g,c) (by simp)) (by rw [t];unfold dK;rw [List.flatMap_cons];simp);rw [List.map_cons] at i
  cases g with
  | true=>
   obtain ⟨M,g1,g2⟩:=i;exact ⟨true,c.map wr,_,s,q,p,o,n,fun _=>by rw [g1];simp,fun h=>(by cases h),.inr ⟨rfl,_,r,rfl,fun _ G e=>by rw [g1] at e;cases e;exact ⟨rfl,g2,v⟩,fun h=>(by cases h)⟩⟩
  | false=>
   obtain ⟨E,g1,g2⟩:=i
   exact ⟨false,c.map wr,_,s,q,p,o,n,fun h=>(by cases h),fun _=>.inr g1,.inr ⟨by cases c with
    | nil=>exact absurd rfl E
    | cons a b=>rfl,_,r,rfl,fun h=>(by cases h),fun _=>⟨g1,rfl,g2,v⟩⟩⟩
def Ws (B sb n0 V:Nat) (proof:ByteArray) (K:Nat) (L':List Cl) (w2:World) (k10 Zg:Value) (wr:World):Prop:=
 ∃ (k:Nat) (x:ByteArray) (L:List Cl) (ls:List (Bool × List Nat)),k10=.int .i64 k/\Zg=.string x/\x.size + 2 * k <= proof.size/\k + x.data.toList.count 10 <= proof.data.toList.count 10/\k + ls.length=K/\Hid (Below B w2 wr/\Has B sb L (n0 + k) wr/\nT B wr)/\Hid (Hd V ls x.data.toList L L')
def Wq (K:Nat) (L':List Cl) (w:World) (e:Ending) (w':World):Prop:=∃ b:Bool,e=.returned (.tuple #[.int .i64 ((K + 1:Nat):Int),.int .i64 (if b=true then 0 else 4)])/\(b=true↔jk L' [])/\Below w.heap.size w w'
theorem rf (s d:ByteArray) (w:World) (V K:Nat) (o R:List Cl) (ls:List (Bool × List Nat)) (hs:s.size <= maxLen) (hp:d.size <= 17592186044416) (hq:d.data.toList.count 10 <= 1400000000000) (hR:lM s.data.toList=((V:Int),o,0)) (hD:Hd V ls d.data.toList o R) (hK:ls.length=K) (hg:oQ w) (hT:nT w.heap.size w):
  Calls Tryz.prog 20 #[.string s,.string d] w fun e w'=>Wq K R w e w':=by
 have HT:=hide hT;have QR:=hide (yg s w hs hg);rw [Cz,hR] at QR;obtain ⟨V',hV,I,C,O,p⟩:=Oz (s:=s.data.toList) (by rw [hR]);rw [hR] at I C O p;simp only at QR I C O p;obtain rfl:V=V':=by omega
 have HG:=hide hg;have HD:=hide hD;clear hg hT hR I hD;go_enter Tryz.func20,Tryz.ntmps20
 go_wp2_with fail
 with_reducible refine QR.out.mono ?_
 rintro e1 i ⟨ao,u1,rfl,J⟩;simp only [] at J;have B1:=hide ao;have RL:Hid (xD i u1 o):=by
  rcases J with ⟨e1,e2⟩ | h
  ·subst e1 e2;exact EF i
  ·exact h.read
 clear ao J QR;simp only [];have T1:Hid (nT i.heap.size i):=by
  have t:=HT.out.later B1.out;exact ⟨t.1,by have:=t.2;have:=B1.out.size;omega⟩
 have G1:=hide (oQ.later B1.out HG.out);have QN:=hide (CV o u1 i RL.out C O p T1.out);have v:=B1.out.size;have H4:Hid (4 <= i.heap.size):=G1.out.2.2;clear C p RL HT HG;go_wp2_with fail
 with_reducible refine QN.out.mono ?_
 rintro e2 G ⟨rfl,Q,ah,ac⟩;simp only [];have G2:=hide (oQ.later Q G1.out);have B2:Hid (Below w.heap.size w G):=B1.out.trans (Q.mono v);have S0:Hid (Below i.heap.size G G/\Has i.heap.size (i.heap.size + 1) o (o.length + 0) G/\nT i.heap.size G):=⟨bR,ah,ac⟩;generalize i.heap.size=B at S0 H4 v ⊢;clear QN Q ah ac G1 B1 T1;go_wp2;go_loopw [10,11] (fun k t wr=>Ws B (B + 1) o.length V d K R G k t wr) (fun _ t _=>jZ t)
 case atStart=>exact ⟨0,d,o,ls,rfl,rfl,by omega,by omega,by omega,S0,HD⟩
 case round=>
  clear S0 HD hK;obtain ⟨k,x,L,ls,rfl,rfl,aL,aM,P,M,D⟩:=hrel;obtain ⟨g,c,yl,q,ak,hl,aE,aF,ae,al,af⟩:=D.out.line hV;have av:=hide af;have au:=hide ae;have ax:=hide al;have x0:¬ x.size=0:=fun e=>by
   have h1:x.data.toList.length=x.size:=by simp
   omega
  have pe:x.toList.isEmpty=false:=wC x0;have GR:=hide (oQ.below H4.out M.out.1 G2.out);obtain ⟨⟨mx,ag⟩,_,_⟩:=GR.out;have QC:=hide (UB x mx wr (by omega) ag);rw [q] at QC;have u:=TZ hV hl;have QI:Hid (∀ X,Below wr.heap.size wr X->Calls Tryz.prog 36 #[.int .i64 V] X fun e w'=>∃ z:ByteArray,e=.returned (.string z)/\Hid (z.data.toList=Lib.decDigits V)/\Below X.heap.size X w'):=fun X q=>FO V (by omega) X (oQ.later q GR.out)
  have QP:Hid (∀ X (l z:ByteArray),Below wr.heap.size wr X->l.size <= 17592186044416->l.data.toList=upto 10 x.data.toList->z.data.toList=Lib.decDigits V->Calls Tryz.prog 41 #[.string l,.string z] X fun e w'=>Below X.heap.size X w'/\e=.returned (.tuple #[mD g (setOf c) (eY c),.bool true])):=fun X l z q aH aI hz=>by
   obtain ⟨⟨m',aG⟩,_,_⟩:=oQ.later q GR.out;refine (Ad l z V m' X aH hV hz aG).mono ?_;rintro e w' ⟨h1,h2⟩;refine ⟨h1,?_⟩;unfold jS at h2;rw [aI,hl] at h2
   rcases h2 with ⟨h,_⟩ | ⟨g',c',h,rfl⟩
   ·cases h
   ·cases h;rfl
  have QE:Hid (∀ X,Calls Tryz.prog 43 #[mD g (setOf c) (eY c)] X fun e w'=>e=.returned (.bool (!g && c.isEmpty))/\Below X.heap.size X w'):=fun X=>by
   have:=Ql g (setOf c) (eY c) (mR u) X;rw [Jl u] at this;exact this
  have MB:=M.out.2.1.bsize;have QT:Hid (∀ X,Below wr.heap.size wr X->Calls Tryz.prog 42 #[.pointer (some ⟨B + 1,0,none⟩),mD g (setOf c) (eY c)] X fun e w'=>∃ b,e=.returned (.bool b)/\Hid (Below B X w'/\dm X w'/\nT B w')/\Hid (b=false->k=K/\¬ jk R [])/\Hid (b=true->((!g && c.isEmpty)=true->k=K/\jk R [])/\((!g && c.isEmpty)=false->∃ L1 r,k + 1 + r.length=K/\Has B (B + 1) L1 (o.length + (k + 1)) w'/\Hd V r yl L1 R))):=fun X q=>by
   have TX:=M.out.2.2.later (q.mono MB);refine (N9 (c:=c) g (M.out.2.1.later q) TX u (by omega) au.out ax.out).mono ?_;rintro e w' ⟨q1,q2,q3⟩
   rcases av.out with ⟨n1,n2,n3,n4⟩ | ⟨n1,l,r,n2,n3,n4⟩
   ·rcases q3 with ⟨_,H,_⟩ | ⟨b,H,r2,r3,r4⟩
    ·rw [n1] at H;cases H
    ·subst n1 n2 n3 n4;have m:k=K:=by simpa using P
     exact ⟨b,r2,⟨q1,q2,TX.later q1⟩,fun n=>⟨m,fun h=>by rw [r3.2 h] at n;cases n⟩,fun n=>⟨fun _=>⟨m,r3.1 n⟩,fun h=>by simp at h⟩⟩
   ·have m:k + 1 + r.length=K:=by rw [n2] at P;simp at P;omega
    rcases q3 with ⟨M',H,r2,r3,r4⟩ | ⟨b,H,r2,r3,r4⟩
    ·exact ⟨true,r3,⟨q1,q2,TX.later q1⟩,fun n=>(by cases n),fun _=>⟨fun h=>(by rw [n1] at h;cases h),fun _=>⟨M',r,m,r4,n3 H M' r2⟩⟩⟩
    ·obtain ⟨a1,a2⟩:=n4 H;have n:=r3.2 a1;subst n;exact ⟨true,r2,⟨q1,q2,TX.later q1⟩,fun n=>(by cases n),fun _=>⟨fun h=>(by rw [n1] at h;cases h),fun _=>⟨_,r,m,r4 rfl,a2⟩⟩⟩
  obtain ⟨en,aj⟩:∃ en,(!g && c.isEmpty)=en:=⟨_,rfl⟩;rw [aj] at QE QT;obtain ⟨Z,ad⟩:∃ a,setOf c=a:=⟨_,rfl⟩;obtain ⟨fc,ai⟩:∃ a,eY c=a:=⟨_,rfl⟩;rw [ad,ai] at QE QT QP;have BE:Hid (Below w.heap.size w wr):=B2.out.trans (M.out.1.mono v);have sE:=BE.out.size;have M1:=hide M.out.1;have DR:=hide ak;unfold mD at QE QT QP;clear aj ad ai hl u af ae al av au ax M D ak q ag;go_wp2_with fail
  with_reducible refine QC.out.mono ?_
  rintro e3 w3 ⟨l,y,rfl,aw,aK,n3,rfl⟩;simp only [];have B3:Hid (Below wr.heap.size wr (wr.drewN n3)):=dX bR _;generalize wr.drewN n3=w3 at B3 ⊢
  obtain ⟨ab,aa⟩:=aw.out (by first | rfl | trivial);have LE:=hide ab;have YE:Hid (y.data.toList=yl):=aa.trans DR.out;clear QC aw ab aa;go_wp2_with fail
  with_reducible refine (QI.out _ B3.out).mono ?_
  rintro e4 w4 ⟨z,rfl,hz,an⟩;simp only [];have B4:Hid (Below wr.heap.size wr w4):=B3.out.trans (an.mono B3.out.size);clear an;go_wp2_with fail
  with_reducible refine (QP.out _ l z B4.out (by omega) LE.out hz.out).mono ?_
  rintro e5 w5 ⟨am,rfl⟩;have B5:Hid (Below wr.heap.size wr w5):=B4.out.trans (am.mono B4.out.size);clear am QI QP;have BX:Hid (Below wr.heap.size wr (w5.alloc (.cells #[.bool g,.int .u64 (Z.1:Int),.int .u64 (Z.2:Int),.int .u64 (fc.1:Int),.int .u64 (fc.2:Int)] 86))):=B5.out.alloc B5.out.size _;have FX:=hide (qQ w5 #[.bool g,.int .u64 (Z.1:Int),.int .u64 (Z.2:Int),.int .u64 (fc.1:Int),.int .u64 (fc.2:Int)] 86 (by decide));simp only [];go_wp2_with fail
  with_reducible refine (QT.out _ BX.out).mono ?_
  rintro e6 w6 ⟨b,rfl,E,HF,S⟩;simp only [];have B6:Hid (Below w.heap.size w w6):=BE.out.trans ((BX.out.mono sE).trans (E.out.1.mono v))
  cases b with
  | false=>
   obtain ⟨m,hn⟩:=HF.out rfl;subst m;have HN:=hide hn;clear hn HF S;go_wp2;go_ret2;exact ⟨false,rfl,⟨fun h=>(by cases h),fun h=>absurd h HN.out⟩,B6.out⟩
  | true=>
   obtain ⟨aq,ap⟩:=S.out rfl;have Y:=hide aq;have W:=hide ap;have aD:=(E.out.2.1.cell (j:=0) FX.out).trans (by simp:_=some (.bool g));have aC:=(E.out.2.1.cell (j:=1) FX.out).trans (by simp:_=some (.int .u64 (Z.1:Int)));have aB:=(E.out.2.1.cell (j:=2) FX.out).trans (by simp:_=some (.int .u64 (Z.2:Int)));have aA:=(E.out.2.1.cell (j:=3) FX.out).trans (by simp:_=some (.int .u64 (fc.1:Int)));have az:=(E.out.2.1.cell (j:=4) FX.out).trans (by simp:_=some (.int .u64 (fc.2:Int)));clear aq ap S HF
   cases en with
   | true=>
    obtain ⟨m,hn⟩:=Y.out rfl;subst m;have HN:=hide hn;clear hn Y W;go_wp2_with fail
    with_reducible refine (QE.out _).mono ?_
    rintro e7 w7 ⟨rfl,f⟩;simp only [];have B7:Hid (Below w.heap.size w w7):=B6.out.trans (f.mono B6.out.size);clear f;go_wp2;go_ret2;exact ⟨true,rfl,⟨fun _=>HN.out,fun _=>rfl⟩,B7.out⟩
   | false=>
    obtain ⟨L1,r,m,hH,ar⟩:=W.out rfl;have U:=hide hH;have aJ:Hid (Hd V r y.data.toList L1 R):=by unfold Hid;rw [YE.out];exact ar
    have ay:y.size + 2 <= x.size/\k + 1 + y.data.toList.count 10 <= d.data.toList.count 10:=by
     have h1:x.data.toList.length=x.size:=by simp
     have h2:y.data.toList.length=y.size:=by simp
     rw [<- YE.out] at aE aF;omega
    obtain ⟨yz,yc⟩:=ay;clear hH ar Y W;go_wp2_with fail
    with_reducible refine (QE.out _).mono ?_
    rintro e7 w7 ⟨rfl,f⟩;simp only [];have M7:Hid (Below B G w7/\Has B (B + 1) L1 (o.length + (k + 1)) w7/\nT B w7):=
     ⟨(M1.out.trans ((BX.out.mono MB).trans E.out.1)).trans (f.mono U.out.bsize),U.out.later f,E.out.2.2.later (f.mono U.out.bsize)⟩
    clear f aD aC aB aA az;go_wp2;go_roundw
    case rel=>exact ⟨k + 1,y,L1,r,lL (by omega),rfl,by omega,yc,m,M7,aJ⟩
    case measure=>simp [jZ];omega
end
end
end Rd
end Go.Proofs.YtceahffmenbibaaGreatDoor
