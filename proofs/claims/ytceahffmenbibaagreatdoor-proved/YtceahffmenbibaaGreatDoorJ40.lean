/- Ssol2 Kpck Knev Kmts Srsm Kwrf Kwrk Kshb Ksho. -/
import Derived.Test.YtceahffmenbibaaGreatDoorJ38
import Derived.Test.YtceahffmenbibaaGreatDoorJ39
import Derived.Test.YtceahffmenbibaaGreatDoorJ12
import Derived.Laws.ResultCell
import Derived.Test.YtceahffmenbibaaGreatDoorJ28
import Derived.Test.YtceahffmenbibaaGreatDoorJ26
set_option linter.unusedVariables false
set_option linter.unusedSimpArgs false
set_option maxHeartbeats 4000000
set_option maxRecDepth 100000
namespace Go.Proofs.YtceahffmenbibaaGreatDoor
namespace So
section
open Go Go.RowKit Go.Deep Rd
theorem Nf {a:Nat} {w:World} {u:Value} {L:List Cl} (h:(L=[]/\u=.slice none 0 0)\/Lists 43 3 a w u L):Lh (fun g=>w.heap.size <= g) w u L:=by
 rcases h with ⟨rfl,rfl⟩ | h
 ·exact ⟨none,0,0,rfl,fun h=>absurd h (by simp),fun i d=>absurd d (by simp)⟩
 ·obtain ⟨l,B,rfl,hb,c,d,_⟩:=h.ex;refine ⟨some ⟨l,0,none⟩,L.length,l,rfl,fun _=>⟨rfl,c.lt,by have:=c.lt;omega⟩,fun i f=>?_⟩;have b:=(d i f).2;have e:L.getD i []=L[i]:=by simp [List.getD,f]
  rw [e] at b;refine ⟨some ⟨B i,0,none⟩,(L[i]).length,B i,?_,fun _=>rfl,b.lt,by have:=b.lt;omega,fun j k=>?_⟩
  ·have:=c.cell f;rw [e] at this;exact this
  ·have:=b.cell k;rw [this];unfold Rd.kD;simp [List.getD,k]
def OH (n:Nat) (L:List Cl) (mx:Nat):Prop:=∀ (Z:Nat->Prop) (kb:Nat) (w:World) (lv:Value),Lh Z w lv L->nE Z kb w []->Calls Tryz.prog 31 #[.int .i64 (n:Nat),lv,.iface 105 (.pointer (some ⟨kb,0,none⟩))] w fun e w'=>y8 Z kb n L mx w e w'
def uA (n:Nat) (L0:List Cl) (mx:Nat) (p:List UInt8):Prop:=∃ (ls:List (Bool × List Nat)) (L:List Cl),p=dW ls ++ [48,10]/\nW L0 (ls.map fun l=>(l.1,l.2.map wr)) L/\Dq L []/\(∀ l ∈ ls,∀ x ∈ l.2,x < 2 * n)/\p.length <= 250 * mx + 2
def yZ (n:Nat) (L:List Cl) (mx:Nat) (w:World) (e:Ending) (w':World):Prop:=
 Below w.heap.size w w'/\((∃ p,e=.returned (.tuple #[.agg #[.int .i64 2,.slice none 0 0,.string ⟨p.toArray⟩],.int .i64 0])/\uA n L mx p) \/
  ∃ g vals p,e=.returned (.tuple #[.agg #[.int .i64 1,.slice (some ⟨g,0,none⟩) n n,.string ⟨p⟩],.int .i64 0])/\w.heap.size <= g/\w'.rowIs g 4 n (fun v=>.bool (vals v))/\si L vals)
theorem Nt {w w':World} {g n:Nat} {f:Nat->Value} (h:w.rowIs g 4 n f) (b:Lib.OthersKept 5 none w w'):w'.rowIs g 4 n f:=by
 refine h.of_block ?_;obtain ⟨c,a,_⟩:=id h;rw [a];exact b g _ a (by simp) fun i d e=>by cases e
def Us (B n:Nat) (L:List Cl) (mx kb:Nat) (met:Bool) (v:Value) (w0 w:World):Prop:=
 Below w0.heap.size w0 w/\w0.heap.size <= B/\B <= w.heap.size/\∃ l,nE (fun g=>B <= g) kb w l/\((met=false/\v=.slice none 0 0/\uA n L mx l)\/(met=true/\∃ g vals,v=.slice (some ⟨g,0,none⟩) n n/\w0.heap.size <= g/\w.rowIs g 4 n (fun v=>.bool (vals v))/\si L vals))
theorem Us.later {B n:Nat} {L:List Cl} {mx kb:Nat} {met:Bool} {v:Value} {w0 w w':World} (h:Us B n L mx kb met v w0 w) (hb:Below w.heap.size w w'):Us B n L mx kb met v w0 w':=by
 obtain ⟨j,o,m,l,k,i⟩:=h;refine ⟨j.trans (hb.mono j.size),o,Nat.le_trans m hb.size,l,k.later hb,?_⟩
 rcases i with i | ⟨a,g,f,b,c,d,e⟩
 ·exact .inl i
 ·exact .inr ⟨a,g,f,b,c,d.of_block (hb.block g d.lt),e⟩
def Vb (n:Nat) (L:List Cl) (mx:Nat) (met:Bool) (v:Value) (s:ByteArray) (w0 w:World):Prop:=
 yZ n L mx w0 (.returned (.tuple #[.agg #[.int .i64 (if met then 1 else 2),v,.string s],.int .i64 0])) w
theorem Us.taken {B n:Nat} {L:List Cl} {mx kb:Nat} {met:Bool} {v:Value} {w0 w:World} (h:Us B n L mx kb met v w0 w):
  Calls Tryz.prog 33 #[.iface 105 (.pointer (some ⟨kb,0,none⟩))] w fun e b=>∃ s,e=.returned (.string s)/\Vb n L mx met v s w0 b:=by
 obtain ⟨p,o,m,l,f,k⟩:=h;refine (JE B f m).mono ?_;rintro e b ⟨rfl,hb,j⟩;refine ⟨_,rfl,p.trans (hb.mono o),?_⟩
 rcases k with ⟨rfl,rfl,i⟩ | ⟨rfl,g,a,rfl,c,d,e⟩
 ·exact .inl ⟨l,rfl,i⟩
 ·exact .inr ⟨g,a,_,rfl,c,Nt d j,e⟩
theorem Rt {n:Nat} {L:List Cl} {mx:Nat} {w0 m q:World} {u:Value} {kb:Nat} (M:OH n L mx) (hL:Lh (fun g=>m.heap.size <= g) m u L) (hb:Below w0.heap.size w0 m) (f:Below m.heap.size m q) (H:nE (fun g=>m.heap.size <= g) kb q []):
  Calls Tryz.prog 31 #[.int .i64 (n:Nat),u,.iface 105 (.pointer (some ⟨kb,0,none⟩))] q fun e r=>∃ a k met,e=.returned (.tuple #[.slice a k k,.bool met,.nilIface])/\Us m.heap.size n L mx kb met (.slice a k k) w0 r:=by
 have x:Lh (fun g=>m.heap.size <= g) q u L:=by
  obtain ⟨a,c,b,O,y,N⟩:=hL;refine ⟨a,c,b,O,fun h=>⟨(y h).1,Nat.lt_of_lt_of_le (y h).2.1 f.size,(y h).2.2⟩,fun i J=>?_⟩;obtain ⟨R,ci,C,g1,g2,B,Q,P⟩:=N i J;exact ⟨R,ci,C,by rw [f.cell (p:=⟨b,i,none⟩) (block_lt_of_cell g1)];exact g1,g2,Nat.lt_of_lt_of_le B f.size,Q,fun j I=>by rw [f.cell (p:=⟨C,j,none⟩) B];exact P j I⟩
 refine (M _ kb q u x H).mono ?_;rintro e r ⟨K,h⟩;have o:Below m.heap.size q r:=K.below f.size fun g V=>by show ¬ m.heap.size <= g;omega
 have v:Below w0.heap.size w0 r:=hb.trans ((f.trans o).mono hb.size);have t:m.heap.size <= r.heap.size:=Nat.le_trans f.size o.size
 rcases h with ⟨rfl,G,S,w,z,E,D,U⟩ | ⟨g,s,l,rfl,c,d,e,w,z⟩
 ·exact ⟨_,_,_,rfl,v,hb.size,t,_,w,.inl ⟨rfl,rfl,G,S,rfl,z,E,D,by simp;omega⟩⟩
 ·exact ⟨_,_,_,rfl,v,hb.size,t,_,w,.inr ⟨rfl,g,s,rfl,by have:=hb.size;have:=f.size;omega,d,e⟩⟩
theorem Py {n:Nat} {L:List Cl} {mx:Nat} {w c w6:World} {e:Ending} {m:Int} {o:Option Addr} {f:Nat} {q:ByteArray} (h:yZ n L mx (w.alloc (.cells #[Value.int IntKind.i64 0,Value.slice none 0 0,Value.string { data:=#[] }] 28)) e c) (u:c.alloc (.cells #[.int .i64 m,.slice o f f,Value.string q] 28)=w6):
  Hid (∀ l,dD (fun g=>g=w.heap.size) w6 l->yZ n L mx w e l)/\w6.cell? ⟨c.heap.size,0,none⟩=some (.int .i64 m)/\w6.cell? ⟨c.heap.size,1,none⟩=some (.slice o f f)/\w6.cell? ⟨c.heap.size,2,none⟩=some (.string q)/\
  w6.cell? ⟨w.heap.size,0,none⟩=some (.int .i64 0)/\w6.cell? ⟨w.heap.size,1,none⟩=some (.slice none 0 0)/\w6.cell? ⟨w.heap.size,2,none⟩=some (.string ⟨#[]⟩)/\w6.frozen? ⟨w.heap.size,0,none⟩=false/\w6.frozen? ⟨w.heap.size,1,none⟩=false/\w6.frozen? ⟨w.heap.size,2,none⟩=false:=by
 have r:w6.rowIs c.heap.size 28 3 (fun i=>if i=0 then .int .i64 m else if i=1 then .slice o f f else .string q):=by
  rw [<- u]
  exact World.rowIs_alloc c _ _ _ fun i s=>match i,s with
   | 0,_=>rfl
   | 1,_=>rfl
   | 2,_=>rfl
 have d:Below c.heap.size c w6:=by rw [<- u];exact bR.alloc lr _
 have b:Below w.heap.size w (w.alloc (.cells #[Value.int IntKind.i64 0,Value.slice none 0 0,Value.string { data:=#[] }] 28)):=bR.alloc lr _;have k:(w.alloc (.cells #[Value.int IntKind.i64 0,Value.slice none 0 0,Value.string { data:=#[] }] 28)).rowIs w.heap.size 28 3 (fun i=>if i=0 then .int .i64 0 else if i=1 then .slice none 0 0 else .string ⟨#[]⟩):=
  World.rowIs_alloc w _ _ _ fun i s=>match i,s with
   | 0,_=>rfl
   | 1,_=>rfl
   | 2,_=>rfl
 generalize w.alloc (.cells #[Value.int IntKind.i64 0,Value.slice none 0 0,Value.string { data:=#[] }] 28)=D at h b k;have t:=k.of_block (h.1.block _ k.lt);have a:=t.of_block (d.block _ t.lt);refine ⟨fun l v=>⟨?_,?_⟩,r.cell (by omega),r.cell (by omega),r.cell (by omega),a.cell (by omega),a.cell (by omega),a.cell (by omega),a.frozen 0,a.frozen 1,a.frozen 2⟩
 ·have y:Below w.heap.size w w6:=(b.trans (h.1.mono b.size)).trans (d.mono (Nat.le_trans b.size h.1.size));exact y.trans (v.below y.size fun g E e=>by omega)
 ·rcases h.2 with C | ⟨g,j,p,B,A,x,z⟩
  ·exact .inl C
  ·refine .inr ⟨g,j,p,B,Nat.le_trans b.size A,?_,z⟩;have:=x.of_block (d.block _ x.lt);exact this.of_block (v.block g this.lt (by have:=k.lt;omega))
theorem rf {n:Nat} {L:List Cl} {mx:Nat} (s:ByteArray) (w:World) (x:kJ w) (k:s.size <= maxLen) (B:fJ s.data.toList=((n:Int),L,0)) (D:OH n L mx):
  Calls Tryz.prog 17 #[.string s,.int .i64 (-1)] w fun e c=>yZ n L mx w e c:=by
 have P:Hid (∀ W,Below w.heap.size w W->Calls Tryz.prog 18 #[.string s] W fun e c=>∃ u,e=.returned (.tuple #[.int .i64 (n:Nat),u,.int .i64 0])/\Lh (fun g=>c.heap.size <= g) c u L/\Below W.heap.size W c):=fun W N=>by
  refine (tN s W k (kJ.below x.2.2 N x)).mono ?_;rintro e c ⟨hb,u,C,l⟩;rw [wJ,B] at C l;exact ⟨u,C,Nf l,hb⟩
 have O:Hid (∀ (met:Bool) (w:World),Calls Tryz.prog 32 #[.bool met,.nilIface] w fun e c=>∃ h:Int,Hid (h=if met then 1 else 2)/\e=.returned (.int .i64 h)/\Below w.heap.size w c):=fun met w=>(Dv met).mono fun e c ⟨a,b⟩=>⟨_,rfl,a,b⟩
 have Q:=hide D;clear x k B D;go_enter Tryz.func17,Tryz.ntmps17
 go_upto_region 2 with (go_at_call 18;(with_reducible refine (P.out _ (bR.alloc lr _)).mono ?_);rintro e1 y ⟨u,rfl,l,hb⟩;have H:=hide l;have I:=hide hb;have G:=hide (Qg (w:=y) y.heap.size lr);clear l hb;simp only [])
 go_upto_region 5 with (go_at_call 30;(with_reducible refine G.out.mono ?_);rintro e2 w2 ⟨kb,rfl,k,M,hb⟩;have E:=hide (Rt Q.out H.out I.out hb k);clear k M hb G;simp only [])
 go_upto_region 6 with (go_at_call 31;(with_reducible refine E.out.mono ?_);rintro e3 Y ⟨q,f,met,rfl,m⟩;have J:=hide m;clear m E;simp only [])
 clear H I;go_upto_region 7 with (first
  |(go_at_call 32;(with_reducible refine (O.out met _).mono ?_);rintro e4 X ⟨h,j,rfl,hb⟩;have o:=hide (J.out.later hb);clear hb J;simp only [])
  |(go_at_call 33;(with_reducible refine o.out.taken.mono ?_);rintro e5 t ⟨r,rfl,m⟩;have d:=hide m;clear m o;unfold Vb at d;rw [<- j.out] at d;clear j;simp only []))
 have i:t.alloc (.cells #[.int .i64 h,.slice q f f,Value.string r] 28)=t.alloc (.cells #[.int .i64 h,.slice q f f,Value.string r] 28):=rfl;generalize z:t.alloc (.cells #[.int .i64 h,.slice q f f,Value.string r] 28)=K at i ⊢;obtain ⟨R,d0,d1,d2,r0,r1,r2,V,U,S⟩:=Py d.out z;clear d i z;go_wp2;refine bodyPost_ret (v:=.tuple #[.agg #[.int .i64 h,.slice q f f,.string r],.int .i64 0]) ?_ rfl (R.out _ (dD.setCell (dD.setCell (dD.setCell (dD.refl (Z:=fun g=>g=w.heap.size) K) (p:=⟨w.heap.size,0,none⟩) rfl _) (p:=⟨w.heap.size,1,none⟩) rfl _) (p:=⟨w.heap.size,2,none⟩) rfl _));rw [results_cell_tmp rfl];go_simp
end
end So
end Go.Proofs.YtceahffmenbibaaGreatDoor
namespace Go.Proofs.YtceahffmenbibaaGreatDoor
namespace Kp
section
open Go Go.RowKit Go.Deep Rd
def nJ (c:Int) (n:Nat):Nat:=(if c < 0 then -(c + 1) else c).toNat % n
theorem ME (c:Int) (n:Nat) (w:World) (m:-9223372036854775808 <= c) (l:c <= 9223372036854775807) (a:0 < n) (h:n <= 9223372036854775807):
  Calls Tryz.prog 22 #[.int .i64 c,.int .i64 (n:Nat)] w fun e g=>e=.returned (.int .i64 (nJ c n:Nat))/\Below w.heap.size w g:=by
 have k:¬ ((n:Nat):Int)=0:=by omega
 by_cases b:c < 0
 ·have j:IntKind.i64.wrap (c + 1)=c + 1:=by rw [IntKind.wrap_i64];omega
  have i:IntKind.i64.wrap (-(c + 1))=-(c + 1):=by rw [IntKind.wrap_i64];omega
  have f:(-(c + 1)).tmod (n:Int)=((nJ c n:Nat):Int):=by
   unfold nJ;rw [if_pos b,Int.tmod_eq_emod_of_nonneg (by omega)];have:((-(c + 1)).toNat:Int)=-(c + 1):=by omega
   rw [Int.natCast_emod,this]
  have d:IntKind.i64.wrap ((nJ c n:Nat):Int)=((nJ c n:Nat):Int):=by
   have:nJ c n < n:=Nat.mod_lt _ a;rw [IntKind.wrap_i64];omega
  go_enter Tryz.func22,Tryz.ntmps22
  go_wp2;go_ret
  exact ⟨rfl,bR⟩
 ·have f:c.tmod (n:Int)=((nJ c n:Nat):Int):=by
   unfold nJ;rw [if_neg b,Int.tmod_eq_emod_of_nonneg (by omega)];have:(c.toNat:Int)=c:=by omega
   rw [Int.natCast_emod,this]
  have d:IntKind.i64.wrap ((nJ c n:Nat):Int)=((nJ c n:Nat):Int):=by
   have:nJ c n < n:=Nat.mod_lt _ a;rw [IntKind.wrap_i64];omega
  go_enter Tryz.func22,Tryz.ntmps22
  go_wp2;go_ret
  exact ⟨rfl,bR⟩
def Cf (l:List UInt8):Nat:=(l.filter (· == 10)).length
theorem MQ (s:ByteArray) (k:Nat) (a:k < s.size):Cf (s.data.toList.take (k + 1))=Cf (s.data.toList.take k) + if s.data.toList[k]'(by simpa using a)=10 then 1 else 0:=by
 rw [List.take_succ_eq_append_getElem (by simpa using a)];unfold Cf;rw [List.filter_append,List.length_append]
 congr 1
 by_cases h:s.data.toList[k]'(by simpa using a)=10
 ·simp only [List.filter_cons,List.filter_nil,h];rfl
 ·rw [if_neg h,List.filter_cons_of_neg (by simpa using h)];rfl
theorem Tv (l:List UInt8):Cf l <= l.length:=List.length_filter_le _ _
theorem Kk (s:ByteArray) (w:World) (h:s.size <= maxLen):
  Calls Tryz.prog 21 #[.string s] w fun e g=>e=.returned (.int .i64 (Cf s.data.toList:Nat))/\Below w.heap.size w g:=by
 unfold maxLen at h;go_enter Tryz.func21,Tryz.ntmps21
 go_wp2;go_loopw [3,4] (fun n i wr=>∃ k:Nat,k <= s.size/\i=.int .i64 k/\n=.int .i64 (Cf (s.data.toList.take k):Nat)/\Below w.heap.size w wr) (fun _ i _=>s.size - (intOf i).toNat)
 case atStart=>exact ⟨0,zl,rfl,rfl,bR⟩
 case round=>
  obtain ⟨k,m,rfl,rfl,hb⟩:=hrel;have d:=hide hb;clear hb;have j:=Tv (s.data.toList.take k);have l:(s.data.toList.take k).length <= k:=by simp;omega
  by_cases a:k < s.size
  ·have E:=hide (MQ s k a);by_cases f:s[k].toNat=10
   ·have c:((s[k].toNat:Int) == 10)=true:=by simp;omega
    have b:s.data.toList[k]'(by simpa using a)=10:=by
     have:s[k]=s.data.toList[k]'(by simpa using a):=by simp;rfl
     rw [<- this,<- UInt8.toNat_inj];exact f
    go_wp2;go_roundw
    case rel=>exact ⟨k + 1,by omega,by go_num,by rw [E.out,if_pos b];go_num,d.out⟩
    case measure=>simp [intOf];omega
   ·have c:((s[k].toNat:Int) == 10)=false:=by simp;omega
    have b:¬ s.data.toList[k]'(by simpa using a)=10:=fun e=>f (by
     have:s[k]=s.data.toList[k]'(by simpa using a):=by simp;rfl
     rw [this,e];rfl)
    go_wp2;go_roundw
    case rel=>exact ⟨k + 1,by omega,by go_num,by rw [E.out,if_neg b];rfl,d.out⟩
    case measure=>simp [intOf];omega
  ·have e:k=s.size:=by omega
   subst e;go_wp2;go_ret;refine ⟨?_,d.out⟩;rw [List.take_of_length_le (by simp)];rfl
end
section
open Go Rd Go.Proofs.YtceahffmenbibaaGreatDoor.So
theorem sH (a b:List UInt8):Cf (a ++ b)=Cf a + Cf b:=by unfold Cf;rw [List.filter_append,List.length_append]
theorem MU {a:List UInt8} (h:sP 10 a):Cf a=0:=by
 unfold Cf;rw [List.filter_eq_nil_iff.2 (fun x b=>by rw [h x b];simp)];rfl
theorem Ay {V:Nat} (a:V <= 50):∀ (ls:List (Bool × List Nat)),(∀ l ∈ ls,∀ x ∈ l.2,x < 2 * V)->Cf (dW ls)=ls.length
 | [],_=>rfl
 |(g,c) :: ls,h=>by
  have e:dW ((g,c) :: ls)=(nP g c ++ [10]) ++ dW ls:=by unfold dW;rw [List.flatMap_cons]
  rw [e,sH,sH,MU (AP a g (h (g,c) (by simp))),Ay a ls (fun l b=>h l (by simp [b]))];show 0 + 1 + ls.length=_
  simp;omega
theorem qJ {b:List Cl} (a:Dq b []):∀ (ls:List (Bool × List Nat)) (L:List Cl),nW L (ls.map fun l=>(l.1,l.2.map wr)) b->∀ t,¬ Sat t L
 | [],L,h,t,hs=>by
  have h:b=L:=h;subst h;obtain ⟨l,e,_⟩:=BL hs a;cases e
 |(true,c) :: ls,L,h,t,hs=>by
  rw [List.map_cons] at h;obtain ⟨M,g1,g2⟩:=h;exact qJ a ls M g2 t fun d hd=>hs d (Rd.nI g1 d hd)
 |(false,c) :: ls,L,h,t,hs=>by
  rw [List.map_cons] at h;obtain ⟨f,g1,g2⟩:=h;refine qJ a ls _ g2 t fun d hd=>?_
  rcases List.mem_append.1 hd with hd | hd
  ·exact hs d hd
  ·rw [List.mem_singleton.1 hd];exact BL hs g1
theorem qH {n mx:Nat} {L:List Cl} {p:List UInt8} (f:∀ c ∈ L,∀ x ∈ c,pW n x) (h:uA n L mx p):¬ ∃ t,Sat t L:=by
 obtain ⟨a,j,rfl,e,d,i,g⟩:=h;exact fun ⟨t,b⟩=>qJ d a L e t b
theorem zF {n mx:Nat} {L:List Cl} {p s:List UInt8} (b:n <= 50) (d:fJ s=((n:Int),L,0)) (h:uA n L mx p):Rd.Checked s p ((Cf p:Nat),0):=by
 obtain ⟨a,i,rfl,g,f,c,j⟩:=h;unfold Rd.Checked;rw [d,if_pos rfl];have e:Cf (dW a ++ [48,10])=a.length + 1:=by rw [sH,Ay b a c];rfl
 refine ⟨a.length + 1,0,by rw [e];rfl,?_⟩;have:=vk b i (.inl f) a L 0 c g;rw [kN];simpa using this
theorem IX {L:List Cl} {a:Nat->Bool} (h:si L a):∃ t,Sat t L:=⟨_,h⟩
end
section
open Go Go.RowKit Go.Deep Rd Go.Proofs.YtceahffmenbibaaGreatDoor.So
def nR (c:Cl) (vals:Nat->Bool):Bool:=c.any fun x=>vals (x.natAbs - 1) == decide (0 < x)
def jP (L:List Cl) (vals:Nat->Bool):Bool:=L.all fun c=>nR c vals
def Rows (w:World) (lv:Value) (L:List Cl):Prop:=∃ (a:Option Addr) (c b:Nat),lv=.slice a L.length c/\(0 < L.length->a=some ⟨b,0,none⟩)/\∀ i (hi:i < L.length),∃ (ai:Option Addr) (ci bi:Nat),w.cell? ⟨b,i,none⟩=some (.slice ai (L[i]).length ci)/\(0 < (L[i]).length->ai=some ⟨bi,0,none⟩)/\∀ j (hj:j < (L[i]).length),w.cell? ⟨bi,j,none⟩=some (.int .i64 (L[i])[j])
def Sn (w:World) (lv:Value) (L:List Cl) (off:Nat):Prop:=∃ (a:Option Addr) (c b:Nat),lv=.slice a L.length c/\(0 < L.length->a=some ⟨b,off,none⟩)/\∀ i (hi:i < L.length),∃ (ai:Option Addr) (ci bi:Nat),w.cell? ⟨b,off + i,none⟩=some (.slice ai (L[i]).length ci)/\(0 < (L[i]).length->ai=some ⟨bi,0,none⟩)/\∀ j (hj:j < (L[i]).length),w.cell? ⟨bi,j,none⟩=some (.int .i64 (L[i])[j])
theorem Rows.off {w:World} {d:Value} {L:List Cl} (h:Rows w d L):Sn w d L 0:=by
 obtain ⟨a,c,b,j,g,f⟩:=h;exact ⟨a,c,b,j,g,fun i e=>by rw [Nat.zero_add];exact f i e⟩
theorem Kg (w:World) (u:Value) (L:List Cl) (off n g t K:Nat) (a:Nat->Bool) (hL:Sn w u L off) (z:∀ c ∈ L,∀ x ∈ c,pW n x) (D:∀ c ∈ L,c.length <= 20001) (hm:L.length <= 20001) (hn:n <= 50) (B:∀ v,v < n->w.cell? ⟨g,t + v,none⟩=some (.bool (a v))):
  Calls Tryz.prog 24 #[u,.slice (some ⟨g,t,none⟩) n K] w fun e J=>e=.returned (.bool (jP L a))/\Below w.heap.size w J:=by
 obtain ⟨la,lc,lb,rfl,p,l⟩:=hL;have HR:=hide l;have W:=hide z;have HL:=hide D;have X:=hide B;clear l z D B;go_enter Tryz.func24,Tryz.ntmps24
 go_wp2;go_loopw [5] (fun i wr=>∃ k:Nat,k <= L.length/\i=.int .i64 k/\Hid ((L.take k).all (fun c=>nR c a)=true)/\∃ j,w.drewN j=wr) (fun i _=>L.length - (intOf i).toNat)
 case atStart=>exact ⟨0,zl,rfl,rfl,0,rfl⟩
 case round=>
  obtain ⟨k,hk,rfl,G,y,rfl⟩:=hrel;by_cases f:k < L.length
  ·obtain ⟨ai,ci,bi,e1,V,H⟩:=HR.out k f;have U:=p (by omega);subst U;clear p;have S:=HL.out _ (List.getElem_mem f);have s:Hid (∀ x ∈ L[k],pW n x):=W.out _ (List.getElem_mem f);have E3:=hide H;have Y:Hid ((L.take (k + 1)).all (fun c=>nR c a)=nR L[k] a):=by
    unfold Hid;rw [List.take_succ_eq_append_getElem f,List.all_append,G.out];simp
   have HF:Hid (nR L[k] a=false->jP L a=false):=fun h=>by
    unfold jP;rw [List.all_eq_false];exact ⟨_,List.getElem_mem f,by simpa using h⟩
   clear H;generalize L[k]=c at *
   go_wp2;go_loopw [6,7] (fun sm i wr=>∃ q:Nat,q <= c.length/\i=.int .i64 q/\sm=.bool (nR (c.take q) a)/\∃ j,w.drewN j=wr) (fun _ i _=>c.length - (intOf i).toNat)
   case atStart=>exact ⟨0,zl,rfl,rfl,y,rfl⟩
   case round=>
    obtain ⟨q,hq,rfl,rfl,o,rfl⟩:=hrel;by_cases m:q < c.length
    ·have T:=V (by omega);subst T;have e4:=E3.out q m;obtain ⟨R,Q⟩:=s.out _ (List.getElem_mem m)
     have HQ:Hid (nR (c.take (q + 1)) a=(nR (c.take q) a || (a ((c[q]).natAbs - 1) == decide (0 < c[q])))):=by
      unfold Hid nR;rw [List.take_succ_eq_append_getElem m,List.any_append];simp
     have e5:=X.out ((c[q]).natAbs - 1) (by omega);generalize c[q]=x at *
     generalize nR (c.take q) a=sm at *
     have hd:∀ b:Bool,b=decide (0 < x)->(Value.bool (sm || (a (x.natAbs - 1) == b)))=Value.bool (nR (c.take (q + 1)) a):=fun b h=>by rw [HQ.out,h]
     by_cases C:x < 0
     ·have w1:IntKind.i64.wrap (-x)=-x:=by rw [IntKind.wrap_i64];omega
      have I:IntKind.i64.wrap (-x - 1)=((x.natAbs - 1:Nat):Int):=by rw [IntKind.wrap_i64];omega
      have P:x.natAbs - 1 < n:=by omega
      have O:¬ -x < 1:=by omega
      have N:¬ (n:Int) < -x:=by omega
      have M:¬ 0 < x:=by omega
      have d:=hd false (by simp;omega);go_wp2;cases sm
      ·go_region
       all_goals go_wp2
       all_goals go_roundw
       case rel=>exact ⟨q + 1,by omega,by go_num,(by first | exact d | exact hd _ rfl | (rw [<- d];simp)),o + 1,rfl⟩
       case measure=>simp [intOf];omega
      ·go_region
       all_goals go_wp2
       all_goals go_roundw
       case rel=>exact ⟨q + 1,by omega,by go_num,(by first | exact d | exact hd _ rfl | (rw [<- d];simp)),o + 1,rfl⟩
       case measure=>simp [intOf];omega
     ·have I:IntKind.i64.wrap (x - 1)=((x.natAbs - 1:Nat):Int):=by rw [IntKind.wrap_i64];omega
      have P:x.natAbs - 1 < n:=by omega
      have O:¬ x < 1:=by omega
      have N:¬ (n:Int) < x:=by omega
      have M:0 < x:=by omega
      have d:=hd true (by simp;omega);go_wp2;cases sm
      ·go_region
       all_goals go_wp2
       all_goals go_roundw
       case rel=>exact ⟨q + 1,by omega,by go_num,(by first | exact d | exact hd _ rfl | (rw [<- d];simp)),o + 1,rfl⟩
       case measure=>simp [intOf];omega
      ·go_region
       all_goals go_wp2
       all_goals go_roundw
       case rel=>exact ⟨q + 1,by omega,by go_num,(by first | exact d | exact hd _ rfl | (rw [<- d];simp)),o + 1,rfl⟩
       case measure=>simp [intOf];omega
    ·have e:q=c.length:=by omega
     subst e;rw [List.take_length];cases r:nR c a
     ·have E:=hide (HF.out r);go_wp2;go_ret;exact ⟨by rw [E.out];rfl,pU w o⟩
     ·have E:Hid ((L.take (k + 1)).all (fun c=>nR c a)=true):=Y.out.trans r;go_wp2;go_roundw
      case rel=>exact ⟨k + 1,by omega,by go_num,E,o,rfl⟩
      case measure=>simp [intOf];omega
  ·have e:k=L.length:=by omega
   subst e;have E:Hid (jP L a=true):=by
    have:=G.out;rw [List.take_length] at this;exact this
   go_wp2;go_ret
   exact ⟨by rw [E.out];rfl,pU w y⟩
theorem oJ (w:World) (b:Value) (L:List Cl) (n g:Nat) (a:Nat->Bool) (hL:Rows w b L) (h:∀ c ∈ L,∀ x ∈ c,pW n x) (l:∀ c ∈ L,c.length <= 20001) (k:L.length <= 20001) (j:n <= 50) (i:∀ v,v < n->w.cell? ⟨g,v,none⟩=some (.bool (a v))):
  Calls Tryz.prog 24 #[b,.slice (some ⟨g,0,none⟩) n n] w fun e f=>e=.returned (.bool (jP L a))/\Below w.heap.size w f:=
 Kg w b L 0 n g 0 n a hL.off h l k j fun v d=>by rw [Nat.zero_add];exact i v d
end
end Kp
end Go.Proofs.YtceahffmenbibaaGreatDoor
namespace Go.Proofs.YtceahffmenbibaaGreatDoor
namespace So
section
open Go Go.RowKit Go.Deep Rd
section
variable {Z:Nat->Prop} {sb ob hb kb n:Nat} {L0:List Cl} {N0:Nat}
def Small (s:St):Prop:=s.m=s.k/\s.r=1/\s.mo=100
theorem BI {a:Bool} {w:World} {s:St} (b:n <= 6) (h:Main Z sb ob hb kb n L0 N0 a w s):s.k <= 31:=by
 have e:=h.ic;have d:=BS n (bits s.tr.length s.ch);have c:2 ^ n <= 2 ^ 6:=Nat.pow_le_pow_right (by omega) b;omega
theorem DT (l:n <= 6) (I:N0 <= 500000000000):Steps Z sb ob hb kb n L0 N0 Small (fun s=>8 * (32 - s.k) + (7 - s.tr.length)) 31:=by
 intro p w s h q A;obtain ⟨R,t,Q⟩:=A;have H:=BI l h;have r:=h.num;have fin:∀ e b,jv Z sb ob hb kb n L0 N0 w s e b->dD Z w b/\((e=.returned (.tuple #[.int .i64 2,.nilIface])/\rP Z kb n L0 31 b)\/(e=.returned (.tuple #[.int .i64 0,.nilIface])/\∃ a,Main Z sb ob hb kb n L0 N0 false b a/\Ready a/\Small a/\8 * (32 - a.k) + (7 - a.tr.length) < 8 * (32 - s.k) + (7 - s.tr.length)) \/
  (e=.returned (.tuple #[.int .i64 1,.nilIface])/\∃ a,Main Z sb ob hb kb n L0 N0 false b a/\(∀ v,v < n->∃ x ∈ a.tr,x / 2=v)/\a.P=a.tr.length/\a.m <= 31)):=by
  rintro e b ⟨c,⟨rfl,y,L,E,D,C,B,S⟩ | ⟨rfl,a,d,u,g⟩ | ⟨rfl,a,d,g1,g2,i⟩⟩
  ·exact ⟨c,.inl ⟨rfl,y,L,E,D,C,B,by omega⟩⟩
  ·refine ⟨c,.inr (.inl ⟨rfl,a,d,u,?_,?_⟩)⟩
   ·have z:=h.lcm;have o:=BI l d
    rcases g with ⟨g1,g2,i,f,_⟩ | ⟨g1,g2,i,f,j⟩ | ⟨g1,g2,i,f,j⟩
    ·have:=f (by omega);exact ⟨by omega,by omega,by omega⟩
    ·rw [t] at j;have:Lb.lub 1 1=1:=by decide
     omega
    ·exact ⟨by omega,by omega,by omega⟩
   ·have G:=h.pi.dN.len;have F:=d.pi.dN.len;have o:=BI l d
    rcases g with ⟨g1,g2,i,f,_⟩ | ⟨g1,g2,i,f,j⟩ | ⟨g1,g2,i,f,j⟩
    ·omega
    ·rw [t] at j;have:Lb.lub 1 1=1:=by decide
     omega
    ·omega
  ·exact ⟨c,.inr (.inr ⟨rfl,a,d,g1,g2,by omega⟩)⟩
 cases p
 ·refine (LY h q (by omega) (by omega) (by omega) (by omega) (CJ (Z:=Z)) ?_).mono fin;intro a O N M K J;have z:=h.lcm;exact ⟨by omega,by omega⟩
 ·exact (DU h q (by omega) (by omega) (by omega)).mono fin
theorem uL (f:n <= 6) (w:World) (a:Value) (L:List Cl) (hL:Lh Z w a L) (d:∀ c ∈ L,∀ x ∈ c,pW n x) (h:∀ c ∈ L,c.length <= 20001) (g:L.length <= 20001) (i:nE Z kb w []) (j:Aw L <= 500000000000):
  Calls Tryz.prog 31 #[.int .i64 (n:Nat),a,.iface 105 (.pointer (some ⟨kb,0,none⟩))] w fun e b=>y8 Z kb n L 31 w e b:=
 PG (by omega) (by omega) w a L hL d h g i (by omega) Small _ 31 (fun s p o l m k _=>⟨by omega,l,k⟩) (fun _ _ _=>DT f j)
end
end
end So
end Go.Proofs.YtceahffmenbibaaGreatDoor
namespace Go.Proofs.YtceahffmenbibaaGreatDoor
namespace Kp
section
open Go Rd Go.Proofs.YtceahffmenbibaaGreatDoor.So
def Ve:ByteArray:=⟨#[112,32,99,110,102,32,50,32,50,10,49,32,45,50,32,48,10,50,32,48,10]⟩
def Pk:ByteArray:=⟨#[112,32,99,110,102,32,49,32,50,10,49,32,48,10,45,49,32,48,10]⟩
def Ul:ByteArray:=⟨#[112,32,99,110,102,32,49,32,49,10,49,32,48,10]⟩
def OY:ByteArray:=⟨#[48,10]⟩
theorem Ww:fJ Ve.data.toList=(((2:Nat):Int),[[1,-2],[2]],0):=by decide +kernel
theorem We:fJ Pk.data.toList=(((1:Nat):Int),[[1],[-1]],0):=by decide +kernel
theorem Wv:fJ Ul.data.toList=(((1:Nat):Int),[[1]],0):=by decide +kernel
theorem Wd:splitB 10 OY.data.toList=[[48],[]]:=by decide +kernel
theorem Wl:iy (Lib.decDigits 1) [48]=some (false,[]):=Cv (V:=1) (by omega) false (c:=[]) (by simp)
theorem Tg:eH [[1],[-1]] []:=by
 left
 intro M g _ f;have j:M 1:=by
  rcases f [1] (by simp) with ⟨l,d,h⟩ | ⟨a,e,b,hb,c,_⟩
  ·simp at d;subst d;exact h
  ·simp at e hb;rw [e,hb] at c;exact absurd rfl c
 have i:M (-1):=by
  rcases f [-1] (by simp) with ⟨l,d,h⟩ | ⟨a,e,b,hb,c,_⟩
  ·simp at d;subst d;exact h
  ·simp at e hb;rw [e,hb] at c;exact absurd rfl c
 exact g 1 j i
theorem SL:¬ eH [[1]] []:=fun h=>by
 have f:Sat (fun _=>true) [[1]]:=fun c e=>by
  simp at e;subst e;exact ⟨1,by simp,by decide,by decide⟩
 obtain ⟨g,b⟩:=Aj f (by intro d hd l a;simp at hd;subst hd;simp at a;subst a;decide) (by intro l a;cases a) h;obtain ⟨l,a,_⟩:=b [] (by simp);cases a
theorem ck2:Rd.Checked Pk.data.toList OY.data.toList (1,0):=by
 unfold Rd.Checked;rw [We,if_pos rfl,Wd];refine ⟨1,0,rfl,?_⟩;show mg (Lib.decDigits 1) [[1],[-1]] [[48],[]] 0 (1,0)
 unfold mg;rw [if_neg (by simp),Wl];exact ⟨fun h=>absurd Tg h,fun _=>by simp⟩
theorem Wz:Rd.Checked Ul.data.toList OY.data.toList (1,4):=by
 unfold Rd.Checked;rw [Wv,if_pos rfl,Wd];refine ⟨1,4,rfl,?_⟩;show mg (Lib.decDigits 1) [[1]] [[48],[]] 0 (1,4)
 unfold mg;rw [if_neg (by simp),Wl];exact ⟨fun _=>rfl,fun h=>absurd h SL⟩
theorem Wm:∀ c ∈ ([[1,-2],[2]]:List Cl),∀ x ∈ c,pW 2 x:=by
 intro c b x a;unfold pW;simp at b
 rcases b with rfl | rfl <;> simp at a
 ·rcases a with rfl | rfl <;> decide
 ·subst a;decide
theorem Wx:∀ c ∈ ([[1],[-1]]:List Cl),∀ x ∈ c,pW 1 x:=by
 intro c b x a;unfold pW;simp at b
 rcases b with rfl | rfl <;> simp at a <;> subst a <;> decide
theorem Vz:OH 2 [[1,-2],[2]] 31:=fun Z kb w b hL d=>uL (by omega) w b _ hL Wm (by intro c a;simp at a;rcases a with rfl | rfl <;> decide) (by decide) d (by decide)
theorem Vy:OH 1 [[1],[-1]] 31:=fun Z kb w b hL d=>uL (by omega) w b _ hL Wx (by intro c a;simp at a;rcases a with rfl | rfl <;> decide) (by decide) d (by decide)
theorem Vw:∃ t,Sat t [[1,-2],[2]]:=⟨fun _=>true,fun c a=>by
 simp at a
 rcases a with rfl | rfl
 ·exact ⟨1,by simp,by decide,by decide⟩
 ·exact ⟨2,by simp,by decide,by decide⟩⟩
theorem SV:¬ ∃ t,Sat t [[1],[-1]]:=fun ⟨t,h⟩=>by
 obtain ⟨l,b,_,e⟩:=h [1] (by simp);obtain ⟨g,a,_,d⟩:=h [-1] (by simp);simp at b a;subst b;subst a;have f:t 1=true:=e;have c:t 1=false:=d;rw [f] at c;cases c
theorem Uw {a:Nat->Bool} (h:si [[1,-2],[2]] a):a 0=true/\a 1=true:=by
 obtain ⟨l,b,_,e⟩:=h [2] (by simp);simp at b;subst b;have c:a 1=true:=e;obtain ⟨l,b,_,d⟩:=h [1,-2] (by simp);simp at b
 rcases b with rfl | rfl
 ·exact ⟨d,c⟩
 ·have:a 1=false:=d;rw [this] at c;cases c
end
section
open Go Go.RowKit Go.Deep Rd Go.Proofs.YtceahffmenbibaaGreatDoor.So
theorem cell_later {w w':World} {p:Addr} {v:Value} (h:w.cell? p=some v) (hb:Below w.heap.size w w'):w'.cell? p=some v:=by
 rw [hb.cell (p:=p) (block_lt_of_cell h)];exact h
def Rv (w0:World) (g a:Nat) (w:World):Prop:=w.cell? ⟨a,0,none⟩=some (.int .i64 1)/\w.cell? ⟨a,1,none⟩=some (.slice (some ⟨g,0,none⟩) 2 2)/\w.cell? ⟨g,0,none⟩=some (.bool true)/\w.cell? ⟨g,1,none⟩=some (.bool true)/\Below w0.heap.size w0 w
theorem Rv.later {w0 w w':World} {g a:Nat} (h:Rv w0 g a w) (hb:Below w.heap.size w w'):Rv w0 g a w':=
 ⟨cell_later h.1 hb,cell_later h.2.1 hb,cell_later h.2.2.1 hb,cell_later h.2.2.2.1 hb,h.2.2.2.2.trans (hb.mono h.2.2.2.2.size)⟩
theorem Rv.ny {w0 w:World} {g a:Nat} (h:Rv w0 g a w):Below w0.heap.size w0 w:=h.2.2.2.2
theorem three {w:World} {x y z:Value} {t:TypeId}:(w.alloc (.cells #[x,y,z] t)).cell? ⟨w.heap.size,0,none⟩=some x/\(w.alloc (.cells #[x,y,z] t)).cell? ⟨w.heap.size,1,none⟩=some y/\Below w.heap.size w (w.alloc (.cells #[x,y,z] t)):=by
 have r:(w.alloc (.cells #[x,y,z] t)).rowIs w.heap.size t 3 (fun i=>if i=0 then x else if i=1 then y else z):=World.rowIs_alloc w _ _ _ fun i a=>match i,a with
  | 0,_=>rfl
  | 1,_=>rfl
  | 2,_=>rfl
 exact ⟨r.cell (i:=0) (by omega),r.cell (i:=1) (by omega),bR.alloc lr _⟩
theorem SQ {w0 w:World} {g:Nat} {p:Value} {t:TypeId} (e:w.cell? ⟨g,0,none⟩=some (.bool true)) (d:w.cell? ⟨g,1,none⟩=some (.bool true)) (hb:Below w0.heap.size w0 w):Rv w0 g w.heap.size (w.alloc (.cells #[.int .i64 1,.slice (some ⟨g,0,none⟩) 2 2,p] t)):=by
 obtain ⟨c,b,a⟩:=three (w:=w) (x:=.int .i64 1) (y:=.slice (some ⟨g,0,none⟩) 2 2) (z:=p) (t:=t);exact ⟨c,b,cell_later e a,cell_later d a,hb.trans (a.mono hb.size)⟩
theorem Jz (i:World->Prop) (d:∀ {a b:World},i a->Below a.heap.size a b->i b)
  (q:∀ W,i W->Calls Tryz.prog 17 #[.string Ve,.int .i64 (-1)] W fun e c=>∃ (g:Nat) (p:ByteArray),e=.returned (.tuple #[.agg #[.int .i64 1,.slice (some ⟨g,0,none⟩) 2 2,.string p],.int .i64 0])/\c.cell? ⟨g,0,none⟩=some (.bool true)/\c.cell? ⟨g,1,none⟩=some (.bool true)/\Below W.heap.size W c)
  (o:∀ W,i W->Calls Tryz.prog 17 #[.string Pk,.int .i64 (-1)] W fun e c=>∃ (p:ByteArray),e=.returned (.tuple #[.agg #[.int .i64 2,.slice none 0 0,.string p],.int .i64 0])/\Below W.heap.size W c)
  (s:∀ W,i W->Calls Tryz.prog 20 #[.string Pk,.string OY] W fun e c=>e=.returned (.tuple #[.int .i64 1,.int .i64 0])/\Below W.heap.size W c)
  (r:∀ W,i W->Calls Tryz.prog 20 #[.string Ul,.string OY] W fun e c=>e=.returned (.tuple #[.int .i64 1,.int .i64 4])/\Below W.heap.size W c)
  (w:World) (k:i w):
  Calls Tryz.prog 16 #[] w fun e c=>e=.returned (.bool true)/\Below w.heap.size w c:=by
 have B:=hide (q w k);have z:Hid (∀ W,Below w.heap.size w W->Calls Tryz.prog 17 #[.string Pk,.int .i64 (-1)] W fun e c=>∃ (p:ByteArray),e=.returned (.tuple #[.agg #[.int .i64 2,.slice none 0 0,.string p],.int .i64 0])/\Below W.heap.size W c):=fun W hb=>o W (d k hb)
 have v:Hid (∀ W,Below w.heap.size w W->Calls Tryz.prog 20 #[.string Pk,.string OY] W fun e c=>e=.returned (.tuple #[.int .i64 1,.int .i64 0])/\Below W.heap.size W c):=fun W hb=>s W (d k hb)
 have u:Hid (∀ W,Below w.heap.size w W->Calls Tryz.prog 20 #[.string Ul,.string OY] W fun e c=>e=.returned (.tuple #[.int .i64 1,.int .i64 4])/\Below W.heap.size W c):=fun W hb=>r W (d k hb)
 clear q o s r k d;unfold Ve at B;unfold Pk at z v;unfold Ul at u;unfold OY at v u;go_enter Tryz.func16,Tryz.ntmps16
 go_upto_region 1 with fail
 go_upto_region 2 with (go_at_call 17;(with_reducible refine B.out.mono ?_);rintro e1 H ⟨g,p,rfl,J,I,m⟩;have K:=hide m;clear m B;simp only [])
 have C:=hide (SQ (w0:=w) (p:=.string p) (t:=28) J I K.out);clear J I K;generalize H.alloc (.cells #[.int .i64 1,.slice (some ⟨g,0,none⟩) 2 2,.string p] 28)=V at *
 generalize H.heap.size=a at *
 go_upto_region 3 with (go_at_call 17;(with_reducible refine (z.out _ C.out.ny).mono ?_);rintro e3 j ⟨p3,rfl,l⟩;have M:=hide (C.out.later l);clear l C z;simp only [])
 have y:Hid (Rv w g a (j.alloc (.cells #[.int .i64 2,.slice none 0 0,.string p3] 28))/\(j.alloc (.cells #[.int .i64 2,.slice none 0 0,.string p3] 28)).cell? ⟨j.heap.size,0,none⟩=some (.int .i64 2)):=⟨M.out.later three.2.2,three.1⟩;clear M;generalize j.alloc (.cells #[.int .i64 2,.slice none 0 0,.string p3] 28)=U at *
 generalize j.heap.size=b at *
 go_upto_region 4 with (go_at_call 20;(with_reducible refine (v.out _ y.out.1.ny).mono ?_);rintro Y G ⟨rfl,h⟩;have x:Hid (Rv w g a G/\G.cell? ⟨b,0,none⟩=some (.int .i64 2)):=⟨y.out.1.later h,cell_later y.out.2 h⟩;clear h y v;simp only [])
 go_upto_region 5 with (go_at_call 20;(with_reducible refine (u.out _ x.out.1.ny).mono ?_);rintro X E ⟨rfl,f⟩;have L:Hid (Rv w g a E/\E.cell? ⟨b,0,none⟩=some (.int .i64 2)):=⟨x.out.1.later f,cell_later x.out.2 f⟩;clear f x u;simp only [])
 obtain ⟨⟨S,R,Q,P,D⟩,O⟩:=L.out;have N:=hide D;clear D L;go_wp2;go_ret;exact ⟨rfl,N.out⟩
theorem IC {L:List Cl} {n:Nat} {a:Nat->Bool} (f:∀ c ∈ L,∀ x ∈ c,pW n x) (h:si L a):jP L a=true:=by
 unfold jP;rw [List.all_eq_true];intro c e;obtain ⟨l,d,g,b⟩:=h c e;unfold nR;rw [List.any_eq_true];exact ⟨l,d,by simpa using b⟩
theorem Nb {L:List Cl} {a:Nat->Bool} (e:∀ c ∈ L,∀ x ∈ c,x ≠ 0) (h:jP L a=true):si L a:=fun c d=>by
 have:=List.all_eq_true.1 h c d;obtain ⟨l,b,f⟩:=List.any_eq_true.1 this;exact ⟨l,b,e c d l b,by simpa using f⟩
theorem Mj {Z:Nat->Prop} {w:World} {u:Value} {L:List Cl} (h:Lh Z w u L):Rows w u L:=by
 obtain ⟨a,c,b,g,f,e⟩:=h;refine ⟨a,c,b,g,fun h=>(f h).1,fun i d=>?_⟩;obtain ⟨l,ci,k,g1,g2,_,_,j⟩:=e i d;exact ⟨l,ci,k,g1,g2,j⟩
def ShN (w0:World) (p:ByteArray) (a:Nat) (w:World):Prop:=w.cell? ⟨a,0,none⟩=some (.int .i64 2)/\w.cell? ⟨a,1,none⟩=some (.slice none 0 0)/\w.cell? ⟨a,2,none⟩=some (.string p)/\Below w0.heap.size w0 w
theorem ShN.ny {w0 w:World} {p:ByteArray} {a:Nat} (h:ShN w0 p a w):Below w0.heap.size w0 w:=h.2.2.2
theorem ShN.later {w0 w w':World} {p:ByteArray} {a:Nat} (h:ShN w0 p a w) (hb:Below w.heap.size w w'):ShN w0 p a w':=
 ⟨cell_later h.1 hb,cell_later h.2.1 hb,cell_later h.2.2.1 hb,h.2.2.2.trans (hb.mono h.2.2.2.size)⟩
theorem Te {w0 w:World} {p:ByteArray} {t:TypeId} (hb:Below w0.heap.size w0 w):ShN w0 p w.heap.size (w.alloc (.cells #[.int .i64 2,.slice none 0 0,.string p] t)):=by
 have r:(w.alloc (.cells #[.int .i64 2,.slice none 0 0,.string p] t)).rowIs w.heap.size t 3 (fun i=>if i=0 then .int .i64 2 else if i=1 then .slice none 0 0 else .string p):=World.rowIs_alloc w _ _ _ fun i a=>match i,a with
  | 0,_=>rfl
  | 1,_=>rfl
  | 2,_=>rfl
 exact ⟨r.cell (i:=0) (by omega),r.cell (i:=1) (by omega),r.cell (i:=2) (by omega),hb.trans (three.2.2.mono hb.size)⟩
def ShM (w0:World) (n g:Nat) (vals:Nat->Bool) (a:Nat) (w:World):Prop:=w.cell? ⟨a,0,none⟩=some (.int .i64 1)/\w.cell? ⟨a,1,none⟩=some (.slice (some ⟨g,0,none⟩) n n)/\(∀ v,v < n->w.cell? ⟨g,v,none⟩=some (.bool (vals v)))/\Below w0.heap.size w0 w
theorem ShM.ny {w0 w:World} {n g:Nat} {b:Nat->Bool} {a:Nat} (h:ShM w0 n g b a w):Below w0.heap.size w0 w:=h.2.2.2
theorem ShM.later {w0 w w':World} {n g:Nat} {b:Nat->Bool} {a:Nat} (h:ShM w0 n g b a w) (hb:Below w.heap.size w w'):ShM w0 n g b a w':=
 ⟨cell_later h.1 hb,cell_later h.2.1 hb,fun v c=>cell_later (h.2.2.1 v c) hb,h.2.2.2.trans (hb.mono h.2.2.2.size)⟩
theorem Tf {w0 w:World} {p:Value} {n g:Nat} {a:Nat->Bool} {t:TypeId} (c:∀ v,v < n->w.cell? ⟨g,v,none⟩=some (.bool (a v))) (hb:Below w0.heap.size w0 w):ShM w0 n g a w.heap.size (w.alloc (.cells #[.int .i64 1,.slice (some ⟨g,0,none⟩) n n,p] t)):=by
 obtain ⟨e,d,b⟩:=three (w:=w) (x:=.int .i64 1) (y:=.slice (some ⟨g,0,none⟩) n n) (z:=p) (t:=t);exact ⟨e,d,fun v h=>cell_later (c v h) b,hb.trans (b.mono hb.size)⟩
def OE (L:List Cl) (w:World) (e:Ending) (w':World):Prop:=∃ b:Bool,e=.returned (.tuple #[.bool true,.bool b])/\(b=true↔∃ t,Sat t L)/\Below w.heap.size w w'
theorem Mc (r:World->Prop) (o:∀ {a b:World},r a->Below a.heap.size a b->r b) {s:ByteArray} {n mx:Nat} {L:List Cl} (hn:n <= 50) (E:∀ c ∈ L,∀ x ∈ c,pW n x) (hl:∀ c ∈ L,c.length <= 20001) (hm:L.length <= 20001)
  (hS:∀ W,r W->Calls Tryz.prog 17 #[.string s,.int .i64 (-1)] W fun e f=>yZ n L mx W e f)
  (H:∀ W,r W->Calls Tryz.prog 18 #[.string s] W fun e f=>∃ a c,e=.returned (.tuple #[.int .i64 (n:Nat),.slice a L.length c,.int .i64 0])/\Rows f (.slice a L.length c) L/\Below W.heap.size W f)
  (hC:∀ p:List UInt8,uA n L mx p->∀ W,r W->Calls Tryz.prog 20 #[.string s,.string ⟨p.toArray⟩] W fun e f=>e=.returned (.tuple #[.int .i64 (Cf p:Nat),.int .i64 0])/\Below W.heap.size W f)
  (aa:250 * mx + 2 <= 17592186044416) (w:World) (G:r w):
  Calls Tryz.prog 19 #[.string s] w fun e f=>OE L w e f:=by
 have QS:=hide (hS w G);have J:Hid (∀ W,Below w.heap.size w W->Calls Tryz.prog 18 #[.string s] W fun e f=>∃ a c,e=.returned (.tuple #[.int .i64 (n:Nat),.slice a L.length c,.int .i64 0])/\Rows f (.slice a L.length c) L/\Below W.heap.size W f):=fun W hb=>H W (o G hb)
 have X:Hid (∀ p:List UInt8,uA n L mx p->∀ W,Below w.heap.size w W->Calls Tryz.prog 20 #[.string s,.string ⟨p.toArray⟩] W fun e f=>e=.returned (.tuple #[.int .i64 (Cf p:Nat),.int .i64 0])/\Below W.heap.size W f):=fun p u W hb=>hC p u W (o G hb)
 have U:Hid (∀ p:List UInt8,uA n L mx p->∀ W,Calls Tryz.prog 21 #[.string ⟨p.toArray⟩] W fun e f=>e=.returned (.int .i64 (Cf p:Nat))/\Below W.heap.size W f):=fun p u W=>by
  refine Kk ⟨p.toArray⟩ W ?_;obtain ⟨_,_,_,_,_,_,h5⟩:=id u;show p.length <= _
  unfold maxLen;omega
 have QM:Hid (∀ W (a:Option Addr) (c g:Nat) (d:Nat->Bool),si L d->Rows W (.slice a L.length c) L->(∀ v,v < n->W.cell? ⟨g,v,none⟩=some (.bool (d v)))->Calls Tryz.prog 24 #[.slice a L.length c,.slice (some ⟨g,0,none⟩) n n] W fun e f=>e=.returned (.bool true)/\Below W.heap.size W f):=fun W a c g d I H P=>by
  have:=oJ W _ L n g d H E hl hm hn P;rw [IC E I] at this;exact this
 have UN:Hid (∀ p,uA n L mx p->¬ ∃ t,Sat t L):=fun p u=>qH E u
 clear hS H hC G o E hl;go_enter Tryz.func19,Tryz.ntmps19
 go_upto_region 2 with (go_at_call 17;(with_reducible refine QS.out.mono ?_);rintro e1 D ⟨z,⟨p,rfl,hN⟩ | ⟨g,d,p,rfl,Q,l,I⟩⟩ <;> (have K:=hide z;clear z QS;simp only []))
 ·have Y:=hide hN;clear hN;have q:=hide (Te (p:=⟨p.toArray⟩) (t:=28) K.out);have S:=hide (U.out p Y.out);have V:=hide (X.out p Y.out);generalize (⟨p.toArray⟩:ByteArray)=pt at *
  generalize D.alloc (.cells #[.int .i64 2,.slice none 0 0,.string pt] 28)=w2 at *
  generalize D.heap.size=a at *
  clear K U X;go_upto_region 3 with (go_at_call 18;(with_reducible refine (J.out _ q.out.ny).mono ?_);rintro e3 w3 ⟨la,lc,rfl,k,j⟩;have m:=hide (q.out.later j);clear j k q J;simp only [])
  obtain ⟨O,N,C,M⟩:=m.out;clear M;go_wp2_with (first
   |(go_at_call 20;(with_reducible refine (V.out _ m.out.ny).mono ?_);rintro e5 w5 ⟨rfl,i⟩;have B:=hide (m.out.later i);obtain ⟨z0,z1,z2,z3⟩:=B.out;clear z3 i O N C m;simp only [])
   |(go_at_call 21;(with_reducible refine (S.out _).mono ?_);rintro e6 w6 ⟨rfl,y⟩;have A6:=hide (B.out.later y);obtain ⟨x0,x1,x2,x3⟩:=A6.out;clear x3 y z0 z1 z2 B;simp only []))
  go_ret2
  exact ⟨false,rfl,⟨fun h=>(by cases h),fun h=>absurd h (UN.out p Y.out)⟩,A6.out.ny⟩
 ·have HM:=hide I;have q:=hide (Tf (p:=.string ⟨p⟩) (t:=28) (fun v P=>l.cell P) K.out);clear I l Q K U X UN;generalize D.alloc (.cells #[.int .i64 1,.slice (some ⟨g,0,none⟩) n n,.string ⟨p⟩] 28)=w2 at *
  generalize D.heap.size=a at *
  go_upto_region 3 with (go_at_call 18;(with_reducible refine (J.out _ q.out.ny).mono ?_);rintro e3 w3 ⟨la,lc,rfl,k,j⟩;have m:=hide (q.out.later j);have R3:=hide k;clear j k q J;simp only [])
  obtain ⟨O,N,C,M⟩:=m.out;have R:=hide (QM.out w3 la lc g d HM.out R3.out C);clear M C;go_wp2_with (go_at_call 24;(with_reducible refine R.out.mono ?_);rintro e5 w5 ⟨rfl,i⟩;have B:=hide (m.out.later i);clear i O N m R3;simp only [])
  go_ret2
  exact ⟨true,rfl,⟨fun _=>⟨_,HM.out⟩,fun _=>rfl⟩,B.out.ny⟩
structure U5 (s:ByteArray) (n:Nat) (L:List Cl) (mx:Nat):Prop where
 rd:fJ s.data.toList=((n:Int),L,0)
 size:s.size <= maxLen
 n50:n <= 50
 inv:∀ c ∈ L,∀ x ∈ c,pW n x
 len:∀ c ∈ L,c.length <= 20001
 many:L.length <= 20001
 runs:OH n L mx
 big:250 * mx + 2 <= 17592186044416
def vE (w:World):Prop:=kJ w/\jJ w.heap.size w
theorem vE.later {w w':World} (h:vE w) (hb:Below w.heap.size w w'):vE w':=
 ⟨kJ.below h.1.2.2 hb h.1,(h.2.later hb).1,Nat.lt_of_lt_of_le h.2.2 hb.size⟩
theorem Mq {s:ByteArray} {n:Nat} {L:List Cl} {mx:Nat} (h:U5 s n L mx) (w:World) (j:vE w):
  Calls Tryz.prog 18 #[.string s] w fun e d=>∃ a c,e=.returned (.tuple #[.int .i64 (n:Nat),.slice a L.length c,.int .i64 0])/\Rows d (.slice a L.length c) L/\Below w.heap.size w d:=by
 refine (tN s w h.size j.1).mono ?_;rintro e d ⟨hb,u,i,g⟩;rw [wJ,h.rd] at i g;have f:=Mj (Nf g);obtain ⟨a,c,b,rfl,_⟩:=id f;exact ⟨a,c,i,f,hb⟩
theorem KQ {s:ByteArray} {n:Nat} {L:List Cl} {mx:Nat} (h:U5 s n L mx) (i:250 * mx + 2 <= 4294967280) {p:List UInt8} (c:uA n L mx p) (w:World) (d:vE w):
  Calls Tryz.prog 20 #[.string s,.string ⟨p.toArray⟩] w fun e b=>e=.returned (.tuple #[.int .i64 (Cf p:Nat),.int .i64 0])/\Below w.heap.size w b:=by
 have g:(⟨p.toArray⟩:ByteArray).size <= 4294967280:=by
  obtain ⟨_,_,_,_,_,_,k⟩:=id c;show p.length <= _
  omega
 refine (yP s ⟨p.toArray⟩ w h.size (by omega) (Nat.le_trans List.count_le_length (by
  have l:(⟨p.toArray⟩:ByteArray).data.toList.length=(⟨p.toArray⟩:ByteArray).size:=rfl;omega)) d.1 d.2).mono ?_
 rintro e b ⟨hb,a,f,rfl,j⟩;have:=qR j (zF h.n50 h.rd c);cases this
 exact ⟨rfl,hb⟩
theorem JL {s:ByteArray} {n:Nat} {L:List Cl} {mx:Nat} (h:U5 s n L mx) (b:250 * mx + 2 <= 4294967280) (w:World) (f:vE w):
  Calls Tryz.prog 19 #[.string s] w fun e c=>OE L w e c:=
 Mc vE (fun h hb=>h.later hb) h.n50 h.inv h.len h.many (fun W a=>rf (n:=n) (L:=L) (mx:=mx) s W a.1 h.size h.rd h.runs) (fun W a=>Mq h W a) (fun p d W a=>KQ h b d W a) h.big w f
theorem Gi (w:World) (q:vE w):Calls Tryz.prog 16 #[] w fun e d=>e=.returned (.bool true)/\Below w.heap.size w d:=by
 refine Jz vE (fun h hb=>h.later hb) (fun W c=>?_) (fun W c=>?_) (fun W c=>?_) (fun W c=>?_) w q
 ·refine (rf (n:=2) (L:=[[1,-2],[2]]) (mx:=31) Ve W c.1 (by decide) Ww Vz).mono ?_
  rintro e d ⟨hb,⟨p,rfl,o⟩ | ⟨g,j,p,rfl,k,b,m⟩⟩
  ·exact absurd Vw (qH Wm o)
  ·obtain ⟨s,r⟩:=Uw m;refine ⟨g,⟨p⟩,rfl,?_,?_,hb⟩
   ·have:=b.cell (i:=0) (by omega);rw [s] at this;exact this
   ·have:=b.cell (i:=1) (by omega);rw [r] at this;exact this
 ·refine (rf (n:=1) (L:=[[1],[-1]]) (mx:=31) Pk W c.1 (by decide) We Vy).mono ?_
  rintro e d ⟨hb,⟨p,rfl,o⟩ | ⟨g,j,p,rfl,k,b,m⟩⟩
  ·exact ⟨_,rfl,hb⟩
  ·exact absurd (IX m) SV
 ·refine (Bp Pk OY W (by decide) (by decide) c.1 c.2).mono ?_;rintro e d ⟨hb,a,f,rfl,l⟩;cases qR l ck2
  exact ⟨rfl,hb⟩
 ·refine (Bp Ul OY W (by decide) (by decide) c.1 c.2).mono ?_;rintro e d ⟨hb,a,f,rfl,l⟩;cases qR l Wz
  exact ⟨rfl,hb⟩
end
end Kp
end Go.Proofs.YtceahffmenbibaaGreatDoor
