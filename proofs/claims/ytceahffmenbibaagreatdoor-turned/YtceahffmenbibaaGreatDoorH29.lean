/- Ssol2 Kpck Knev Kmts Kwrf Kwrk Kshb. -/
import Derived.Test.YtceahffmenbibaaGreatDoorH27
import Derived.Test.YtceahffmenbibaaGreatDoorH28
set_option linter.unusedVariables false
set_option linter.unusedSimpArgs false
set_option maxHeartbeats 4000000
set_option maxRecDepth 100000
namespace Go.Proofs.YtceahffmenbibaaGreatDoor
namespace So
section
open Go Go.RowKit Go.Deep Rd
theorem Pt {base:Nat} {w:World} {u:Value} {L:List Cl} (h:(L=[]/\u=.slice none 0 0)\/Lists 43 3 base w u L):Nv (fun g=>w.heap.size <= g) w u L:=by
 rcases h with ⟨rfl,rfl⟩ | h
 ·exact ⟨none,0,0,rfl,fun h=>absurd h (by simp),fun i c=>absurd c (by simp)⟩
 ·obtain ⟨k,B,rfl,l,b,c,_⟩:=h.ex;refine ⟨some ⟨k,0,none⟩,L.length,k,rfl,fun _=>⟨rfl,b.lt,by have:=b.lt;omega⟩,fun i d=>?_⟩;have a:=(c i d).2;have e:L.getD i []=L[i]:=by simp [List.getD,d]
  rw [e] at a;refine ⟨some ⟨B i,0,none⟩,(L[i]).length,B i,?_,fun _=>rfl,a.lt,by have:=a.lt;omega,fun j f=>?_⟩
  ·have:=b.cell d;rw [e] at this;exact this
  ·have:=a.cell f;rw [this];unfold Rd.kJ;simp [List.getD,f]
def Rv (n:Nat) (L:List Cl) (mx:Nat):Prop:=∀ (Z:Nat->Prop) (kb:Nat) (w:World) (lv:Value),Nv Z w lv L->nR Z kb w []->Calls Tryz.prog 31 #[.int .i64 (n:Nat),lv,.iface 105 (.pointer (some ⟨kb,0,none⟩))] w fun e w'=>zN Z kb n L mx w e w'
def wO (n:Nat) (L0:List Cl) (mx:Nat) (p:List UInt8):Prop:=∃ (ls:List (Bool × List Nat)) (L:List Cl),p=dK ls ++ [48,10]/\jF L0 (ls.map fun l=>(l.1,l.2.map wr)) L/\D5 L []/\(∀ l ∈ ls,∀ x ∈ l.2,x < 2 * n)/\p.length <= 250 * mx + 2
def zK (n:Nat) (L:List Cl) (mx:Nat) (w:World) (e:Ending) (w':World):Prop:=
 Below w.heap.size w w'/\((∃ p,e=.returned (.tuple #[.agg #[.int .i64 2,.slice none 0 0,.string ⟨p.toArray⟩],.int .i64 0])/\wO n L mx p) \/
  ∃ g vals p,e=.returned (.tuple #[.agg #[.int .i64 1,.slice (some ⟨g,0,none⟩) n n,.string ⟨p⟩],.int .i64 0])/\w.heap.size <= g/\w'.rowIs g 4 n (fun v=>.bool (vals v))/\uN L vals)
theorem PQ {w w':World} {g n:Nat} {f:Nat->Value} (h:w.rowIs g 4 n f) (b:Lib.OthersKept 5 none w w'):w'.rowIs g 4 n f:=by
 refine h.of_block ?_;obtain ⟨c,a,_⟩:=id h;rw [a];exact b g _ a (by simp) fun i d e=>by cases e
def Xb (B n:Nat) (L:List Cl) (mx kb:Nat) (met:Bool) (v:Value) (w0 w:World):Prop:=
 Below w0.heap.size w0 w/\w0.heap.size <= B/\B <= w.heap.size/\∃ l,nR (fun g=>B <= g) kb w l/\((met=false/\v=.slice none 0 0/\wO n L mx l)\/(met=true/\∃ g vals,v=.slice (some ⟨g,0,none⟩) n n/\w0.heap.size <= g/\w.rowIs g 4 n (fun v=>.bool (vals v))/\uN L vals))
theorem Xb.later {B n:Nat} {L:List Cl} {mx k:Nat} {met:Bool} {v:Value} {w0 w w':World} (h:Xb B n L mx k met v w0 w) (i:Below w.heap.size w w'):Xb B n L mx k met v w0 w':=by
 obtain ⟨m,q,p,l,o,j⟩:=h;refine ⟨m.trans (i.mono m.size),q,Nat.le_trans p i.size,l,o.later i,?_⟩
 rcases j with j | ⟨a,g,f,b,c,d,e⟩
 ·exact .inl j
 ·exact .inr ⟨a,g,f,b,c,d.of_block (i.block g d.lt),e⟩
def XY (n:Nat) (L:List Cl) (mx:Nat) (met:Bool) (v:Value) (s:ByteArray) (w0 w:World):Prop:=
 zK n L mx w0 (.returned (.tuple #[.agg #[.int .i64 (if met then 1 else 2),v,.string s],.int .i64 0])) w
theorem Xb.taken {B n:Nat} {L:List Cl} {mx f:Nat} {met:Bool} {v:Value} {w0 w:World} (h:Xb B n L mx f met v w0 w):
  Calls Tryz.prog 33 #[.iface 105 (.pointer (some ⟨f,0,none⟩))] w fun e b=>∃ s,e=.returned (.string s)/\XY n L mx met v s w0 b:=by
 obtain ⟨r,q,p,l,i,o⟩:=h;refine (KT B i p).mono ?_;rintro e b ⟨rfl,m,k⟩;refine ⟨_,rfl,r.trans (m.mono q),?_⟩
 rcases o with ⟨rfl,rfl,j⟩ | ⟨rfl,g,a,rfl,c,d,e⟩
 ·exact .inl ⟨l,rfl,j⟩
 ·exact .inr ⟨g,a,_,rfl,c,PQ d k,e⟩
theorem UG {n:Nat} {L:List Cl} {mx:Nat} {w0 m q:World} {u:Value} {x:Nat} (O:Rv n L mx) (hL:Nv (fun g=>m.heap.size <= g) m u L) (v:Below w0.heap.size w0 m) (f:Below m.heap.size m q) (J:nR (fun g=>m.heap.size <= g) x q []):
  Calls Tryz.prog 31 #[.int .i64 (n:Nat),u,.iface 105 (.pointer (some ⟨x,0,none⟩))] q fun e r=>∃ a k met,e=.returned (.tuple #[.slice a k k,.bool met,.nilIface])/\Xb m.heap.size n L mx x met (.slice a k k) w0 r:=by
 have z:Nv (fun g=>m.heap.size <= g) q u L:=by
  obtain ⟨a,c,b,Q,B,P⟩:=hL;refine ⟨a,c,b,Q,fun h=>⟨(B h).1,Nat.lt_of_lt_of_le (B h).2.1 f.size,(B h).2.2⟩,fun i M=>?_⟩;obtain ⟨U,ci,E,g1,g2,D,S,R⟩:=P i M;exact ⟨U,ci,E,by rw [f.cell (p:=⟨b,i,none⟩) (block_lt_of_cell g1)];exact g1,g2,Nat.lt_of_lt_of_le D f.size,S,fun j K=>by rw [f.cell (p:=⟨E,j,none⟩) D];exact R j K⟩
 refine (O _ x q u z J).mono ?_;rintro e r ⟨N,h⟩;have o:Below m.heap.size q r:=N.below f.size fun g X=>by show ¬ m.heap.size <= g;omega
 have w:Below w0.heap.size w0 r:=v.trans ((f.trans o).mono v.size);have t:m.heap.size <= r.heap.size:=Nat.le_trans f.size o.size
 rcases h with ⟨rfl,I,V,y,C,H,G,W⟩ | ⟨g,s,l,rfl,c,d,e,y,C⟩
 ·exact ⟨_,_,_,rfl,w,v.size,t,_,y,.inl ⟨rfl,rfl,I,V,rfl,C,H,G,by simp;omega⟩⟩
 ·exact ⟨_,_,_,rfl,w,v.size,t,_,y,.inr ⟨rfl,g,s,rfl,by have:=v.size;have:=f.size;omega,d,e⟩⟩
theorem Tc {n:Nat} {L:List Cl} {mx:Nat} {w c w6:World} {e:Ending} {m:Int} {o:Option Addr} {f:Nat} {q:ByteArray} (h:zK n L mx (w.alloc (.cells #[Value.int IntKind.i64 0,Value.slice none 0 0,Value.string { data:=#[] }] 28)) e c) (u:c.alloc (.cells #[.int .i64 m,.slice o f f,Value.string q] 28)=w6):
  Hid (∀ l,dB (fun g=>g=w.heap.size) w6 l->zK n L mx w e l)/\w6.cell? ⟨c.heap.size,0,none⟩=some (.int .i64 m)/\w6.cell? ⟨c.heap.size,1,none⟩=some (.slice o f f)/\w6.cell? ⟨c.heap.size,2,none⟩=some (.string q)/\
  w6.cell? ⟨w.heap.size,0,none⟩=some (.int .i64 0)/\w6.cell? ⟨w.heap.size,1,none⟩=some (.slice none 0 0)/\w6.cell? ⟨w.heap.size,2,none⟩=some (.string ⟨#[]⟩)/\w6.frozen? ⟨w.heap.size,0,none⟩=false/\w6.frozen? ⟨w.heap.size,1,none⟩=false/\w6.frozen? ⟨w.heap.size,2,none⟩=false:=by
 have r:w6.rowIs c.heap.size 28 3 (fun i=>if i=0 then .int .i64 m else if i=1 then .slice o f f else .string q):=by
  rw [<- u]
  exact World.rowIs_alloc c _ _ _ fun i s=>match i,s with
   | 0,_=>rfl
   | 1,_=>rfl
   | 2,_=>rfl
 have d:Below c.heap.size c w6:=by rw [<- u];exact bR.alloc lr _
 have b:Below w.heap.size w (w.alloc (.cells #[Value.int IntKind.i64 0,Value.slice none 0 0,Value.string { data:=#[] }] 28)):=bR.alloc lr _;have k:(w.alloc (.cells #[Value.int IntKind.i64 0,Value.slice none 0 0,Value.string { data:=#[] }] 28)).rowIs w.heap.size 28 3 (fun i=>if i=0 then .int .i64 0 else if i=1 then .slice none 0 0 else .string ⟨#[]⟩):=
  World.rowIs_alloc w _ _ _ fun i s=>match i,s with
   | 0,_=>rfl
   | 1,_=>rfl
   | 2,_=>rfl
 generalize w.alloc (.cells #[Value.int IntKind.i64 0,Value.slice none 0 0,Value.string { data:=#[] }] 28)=D at h b k;have t:=k.of_block (h.1.block _ k.lt);have a:=t.of_block (d.block _ t.lt);refine ⟨fun l v=>⟨?_,?_⟩,r.cell (by omega),r.cell (by omega),r.cell (by omega),a.cell (by omega),a.cell (by omega),a.cell (by omega),a.frozen 0,a.frozen 1,a.frozen 2⟩
 ·have y:Below w.heap.size w w6:=(b.trans (h.1.mono b.size)).trans (d.mono (Nat.le_trans b.size h.1.size));exact y.trans (v.below y.size fun g E e=>by omega)
 ·rcases h.2 with C | ⟨g,j,p,B,A,x,z⟩
  ·exact .inl C
  ·refine .inr ⟨g,j,p,B,Nat.le_trans b.size A,?_,z⟩;have:=x.of_block (d.block _ x.lt);exact this.of_block (v.block g this.lt (by have:=k.lt;omega))
theorem uU {n:Nat} {L:List Cl} {mx:Nat} (s:ByteArray) (w:World) (y:oQ w) (l:s.size <= maxLen) (C:lM s.data.toList=((n:Int),L,0)) (E:Rv n L mx):
  Calls Tryz.prog 17 #[.string s,.int .i64 (-1)] w fun e d=>zK n L mx w e d:=by
 have Q:Hid (∀ W,Below w.heap.size w W->Calls Tryz.prog 18 #[.string s] W fun e d=>∃ u,e=.returned (.tuple #[.int .i64 (n:Nat),u,.int .i64 0])/\Nv (fun g=>d.heap.size <= g) d u L/\Below W.heap.size W d):=fun W O=>by
  refine (yg s W l (oQ.below y.2.2 O y)).mono ?_;rintro e d ⟨c,u,D,m⟩;rw [Cz,C] at D m;exact ⟨u,D,Pt m,c⟩
 have P:Hid (∀ (met:Bool) (w:World),Calls Tryz.prog 32 #[.bool met,.nilIface] w fun e d=>∃ i:Int,Hid (i=if met then 1 else 2)/\e=.returned (.int .i64 i)/\Below w.heap.size w d):=fun met w=>(D8 met).mono fun e d ⟨a,b⟩=>⟨_,rfl,a,b⟩
 have R:=hide E;clear y l C E;go_enter Tryz.func17,Tryz.ntmps17
 go_upto_region 2 with (go_at_call 18;(with_reducible refine (Q.out _ (bR.alloc lr _)).mono ?_);rintro e1 z ⟨u,rfl,m,c⟩;have I:=hide m;have J:=hide c;have H:=hide (TG (w:=z) z.heap.size lr);clear m c;simp only [])
 go_upto_region 5 with (go_at_call 30;(with_reducible refine H.out.mono ?_);rintro e2 w2 ⟨kb,rfl,l,N,c⟩;have G:=hide (UG R.out I.out J.out c l);clear l N c H;simp only [])
 go_upto_region 6 with (go_at_call 31;(with_reducible refine G.out.mono ?_);rintro e3 w3 ⟨r,h,met,rfl,o⟩;have K:=hide o;clear o G;simp only [])
 clear I J;go_upto_region 7 with (first
  |(go_at_call 32;(with_reducible refine (P.out met _).mono ?_);rintro e4 Y ⟨i,k,rfl,c⟩;have q:=hide (K.out.later c);clear c K;simp only [])
  |(go_at_call 33;(with_reducible refine q.out.taken.mono ?_);rintro e5 x ⟨t,rfl,o⟩;have f:=hide o;clear o q;unfold XY at f;rw [<- k.out] at f;clear k;simp only []))
 have j:x.alloc (.cells #[.int .i64 i,.slice r h h,Value.string t] 28)=x.alloc (.cells #[.int .i64 i,.slice r h h,Value.string t] 28):=rfl;generalize B:x.alloc (.cells #[.int .i64 i,.slice r h h,Value.string t] 28)=M at j ⊢;obtain ⟨S,d0,d1,d2,r0,r1,r2,X,V,U⟩:=Tc f.out B;clear f j B;go_wp2;refine bodyPost_ret (v:=.tuple #[.agg #[.int .i64 i,.slice r h h,.string t],.int .i64 0]) ?_ rfl (S.out _ (dB.setCell (dB.setCell (dB.setCell (dB.refl (Z:=fun g=>g=w.heap.size) M) (p:=⟨w.heap.size,0,none⟩) rfl _) (p:=⟨w.heap.size,1,none⟩) rfl _) (p:=⟨w.heap.size,2,none⟩) rfl _));rw [results_cell_tmp rfl];go_simp
end
end So
end Go.Proofs.YtceahffmenbibaaGreatDoor
namespace Go.Proofs.YtceahffmenbibaaGreatDoor
namespace Kp
section
open Go Go.RowKit Go.Deep Rd
def jK (c:Int) (n:Nat):Nat:=(if c < 0 then -(c + 1) else c).toNat % n
theorem yh (c:Int) (n:Nat) (w:World) (m:-9223372036854775808 <= c) (l:c <= 9223372036854775807) (a:0 < n) (h:n <= 9223372036854775807):
  Calls Tryz.prog 22 #[.int .i64 c,.int .i64 (n:Nat)] w fun e g=>e=.returned (.int .i64 (jK c n:Nat))/\Below w.heap.size w g:=by
 have k:¬ ((n:Nat):Int)=0:=by omega
 by_cases b:c < 0
 ·have j:IntKind.i64.wrap (c + 1)=c + 1:=by rw [IntKind.wrap_i64];omega
  have i:IntKind.i64.wrap (-(c + 1))=-(c + 1):=by rw [IntKind.wrap_i64];omega
  have f:(-(c + 1)).tmod (n:Int)=((jK c n:Nat):Int):=by
   unfold jK;rw [if_pos b,Int.tmod_eq_emod_of_nonneg (by omega)];have:((-(c + 1)).toNat:Int)=-(c + 1):=by omega
   rw [Int.natCast_emod,this]
  have d:IntKind.i64.wrap ((jK c n:Nat):Int)=((jK c n:Nat):Int):=by
   have:jK c n < n:=Nat.mod_lt _ a;rw [IntKind.wrap_i64];omega
  go_enter Tryz.func22,Tryz.ntmps22
  go_wp2;go_ret
  exact ⟨rfl,bR⟩
 ·have f:c.tmod (n:Int)=((jK c n:Nat):Int):=by
   unfold jK;rw [if_neg b,Int.tmod_eq_emod_of_nonneg (by omega)];have:(c.toNat:Int)=c:=by omega
   rw [Int.natCast_emod,this]
  have d:IntKind.i64.wrap ((jK c n:Nat):Int)=((jK c n:Nat):Int):=by
   have:jK c n < n:=Nat.mod_lt _ a;rw [IntKind.wrap_i64];omega
  go_enter Tryz.func22,Tryz.ntmps22
  go_wp2;go_ret
  exact ⟨rfl,bR⟩
def Bo (l:List UInt8):Nat:=(l.filter (· == 10)).length
theorem Pg (s:ByteArray) (k:Nat) (a:k < s.size):Bo (s.data.toList.take (k + 1))=Bo (s.data.toList.take k) + if s.data.toList[k]'(by simpa using a)=10 then 1 else 0:=by
 rw [List.take_succ_eq_append_getElem (by simpa using a)];unfold Bo;rw [List.filter_append,List.length_append]
 congr 1
 by_cases h:s.data.toList[k]'(by simpa using a)=10
 ·simp only [List.filter_cons,List.filter_nil,h];rfl
 ·rw [if_neg h,List.filter_cons_of_neg (by simpa using h)];rfl
theorem VQ (l:List UInt8):Bo l <= l.length:=List.length_filter_le _ _
theorem Mo (s:ByteArray) (w:World) (j:s.size <= maxLen):
  Calls Tryz.prog 21 #[.string s] w fun e h=>e=.returned (.int .i64 (Bo s.data.toList:Nat))/\Below w.heap.size w h:=by
 unfold maxLen at j;go_enter Tryz.func21,Tryz.ntmps21
 go_wp2;go_loopw [3,4] (fun n i wr=>∃ k:Nat,k <= s.size/\i=.int .i64 k/\n=.int .i64 (Bo (s.data.toList.take k):Nat)/\Below w.heap.size w wr) (fun _ i _=>s.size - (intOf i).toNat)
 case atStart=>exact ⟨0,zl,rfl,rfl,bR⟩
 case round=>
  obtain ⟨k,o,rfl,rfl,g⟩:=hrel;have d:=hide g;clear g;have l:=VQ (s.data.toList.take k);have m:(s.data.toList.take k).length <= k:=by simp;omega
  by_cases a:k < s.size
  ·have E:=hide (Pg s k a);by_cases f:s[k].toNat=10
   ·have c:((s[k].toNat:Int) == 10)=true:=by simp;omega
    have b:s.data.toList[k]'(by simpa using a)=10:=by
     have:s[k]=s.data.toList[k]'(by simpa using a):=by simp;rfl
     rw [<- this,<- UInt8.toNat_inj];exact f
    go_wp2;go_roundw
    case rel=>exact ⟨k + 1,by omega,by go_num,by rw [E.out,if_pos b];go_num,d.out⟩
    case measure=>simp [intOf];omega
   ·have c:((s[k].toNat:Int) == 10)=false:=by simp;omega
    have b:¬ s.data.toList[k]'(by simpa using a)=10:=fun e=>f (by
     have:s[k]=s.data.toList[k]'(by simpa using a):=by simp;rfl
     rw [this,e];rfl)
    go_wp2;go_roundw
    case rel=>exact ⟨k + 1,by omega,by go_num,by rw [E.out,if_neg b];rfl,d.out⟩
    case measure=>simp [intOf];omega
  ·have e:k=s.size:=by omega
   subst e;go_wp2;go_ret;refine ⟨?_,d.out⟩;rw [List.take_of_length_le (by simp)];rfl
end
section
open Go Rd Go.Proofs.YtceahffmenbibaaGreatDoor.So
theorem sU (a b:List UInt8):Bo (a ++ b)=Bo a + Bo b:=by unfold Bo;rw [List.filter_append,List.length_append]
theorem Ph {a:List UInt8} (h:rC 10 a):Bo a=0:=by
 unfold Bo;rw [List.filter_eq_nil_iff.2 (fun x b=>by rw [h x b];simp)];rfl
theorem Bn {V:Nat} (a:V <= 50):∀ (ls:List (Bool × List Nat)),(∀ l ∈ ls,∀ x ∈ l.2,x < 2 * V)->Bo (dK ls)=ls.length
 | [],_=>rfl
 |(g,c) :: ls,h=>by
  have e:dK ((g,c) :: ls)=(gQ g c ++ [10]) ++ dK ls:=by unfold dK;rw [List.flatMap_cons]
  rw [e,sU,sU,Ph (vB a g (h (g,c) (by simp))),Bn a ls (fun l b=>h l (by simp [b]))];show 0 + 1 + ls.length=_
  simp;omega
theorem qL {b:List Cl} (a:D5 b []):∀ (ls:List (Bool × List Nat)) (L:List Cl),jF L (ls.map fun l=>(l.1,l.2.map wr)) b->∀ t,¬ Sat t L
 | [],L,h,t,hs=>by
  have h:b=L:=h;subst h;obtain ⟨l,e,_⟩:=Cw hs a;cases e
 |(true,c) :: ls,L,h,t,hs=>by
  rw [List.map_cons] at h;obtain ⟨M,g1,g2⟩:=h;exact qL a ls M g2 t fun d hd=>hs d (rJ g1 d hd)
 |(false,c) :: ls,L,h,t,hs=>by
  rw [List.map_cons] at h;obtain ⟨f,g1,g2⟩:=h;refine qL a ls _ g2 t fun d hd=>?_
  rcases List.mem_append.1 hd with hd | hd
  ·exact hs d hd
  ·rw [List.mem_singleton.1 hd];exact Cw hs g1
theorem wD {n mx:Nat} {L:List Cl} {p:List UInt8} (f:∀ c ∈ L,∀ x ∈ c,lW n x) (h:wO n L mx p):¬ ∃ t,Sat t L:=by
 obtain ⟨a,j,rfl,e,d,i,g⟩:=h;exact fun ⟨t,b⟩=>qL d a L e t b
theorem TK {L:List Cl} {a:Nat->Bool} (h:uN L a):∃ t,Sat t L:=⟨_,h⟩
end
section
open Go Go.RowKit Go.Deep Rd Go.Proofs.YtceahffmenbibaaGreatDoor.So
def oz (c:Cl) (vals:Nat->Bool):Bool:=c.any fun x=>vals (x.natAbs - 1) == decide (0 < x)
def tK (L:List Cl) (vals:Nat->Bool):Bool:=L.all fun c=>oz c vals
def Rows (w:World) (lv:Value) (L:List Cl):Prop:=∃ (a:Option Addr) (c b:Nat),lv=.slice a L.length c/\(0 < L.length->a=some ⟨b,0,none⟩)/\∀ i (hi:i < L.length),∃ (ai:Option Addr) (ci bi:Nat),w.cell? ⟨b,i,none⟩=some (.slice ai (L[i]).length ci)/\(0 < (L[i]).length->ai=some ⟨bi,0,none⟩)/\∀ j (hj:j < (L[i]).length),w.cell? ⟨bi,j,none⟩=some (.int .i64 (L[i])[j])
theorem Oo {te l B:Nat} {w:World} {v:Value} {L:List Cl} (h:UO te l B w v L):Rows w v L:=by
 obtain ⟨a,c,b,o,r,n,m⟩:=h.lists;refine ⟨a,c,b,o,n,fun i f=>?_⟩;obtain ⟨u,g1,q,ci,p,g2,s,k,g⟩:=m i f;have e:L.getD i []=L[i]:=by simp [List.getD,f]
 rw [e] at g2 k g;subst g2;exact ⟨q,ci,p,g1,k,fun j d=>by rw [g j d];simp [List.getD,d]⟩
def Vf (w:World) (lv:Value) (L:List Cl) (off:Nat):Prop:=∃ (a:Option Addr) (c b:Nat),lv=.slice a L.length c/\(0 < L.length->a=some ⟨b,off,none⟩)/\∀ i (hi:i < L.length),∃ (ai:Option Addr) (ci bi:Nat),w.cell? ⟨b,off + i,none⟩=some (.slice ai (L[i]).length ci)/\(0 < (L[i]).length->ai=some ⟨bi,0,none⟩)/\∀ j (hj:j < (L[i]).length),w.cell? ⟨bi,j,none⟩=some (.int .i64 (L[i])[j])
theorem Rows.off {w:World} {lv:Value} {L:List Cl} (h:Rows w lv L):Vf w lv L 0:=by
 obtain ⟨a,c,b,g,f,e⟩:=h;exact ⟨a,c,b,g,f,fun i d=>by rw [Nat.zero_add];exact e i d⟩
theorem Mf (w:World) (lv:Value) (L:List Cl) (off n g t J:Nat) (a:Nat->Bool) (hL:Vf w lv L off) (y:∀ c ∈ L,∀ x ∈ c,lW n x) (C:∀ c ∈ L,c.length <= 20001) (hm:L.length <= 20001) (hn:n <= 50) (z:∀ v,v < n->w.cell? ⟨g,t + v,none⟩=some (.bool (a v))):
  Calls Tryz.prog 24 #[lv,.slice (some ⟨g,t,none⟩) n J] w fun e I=>e=.returned (.bool (tK L a))/\Below w.heap.size w I:=by
 obtain ⟨la,lc,lb,rfl,p,l⟩:=hL;have Y:=hide l;have V:=hide y;have HL:=hide C;have W:=hide z;clear l y C z;go_enter Tryz.func24,Tryz.ntmps24
 go_wp2;go_loopw [5] (fun i wr=>∃ k:Nat,k <= L.length/\i=.int .i64 k/\Hid ((L.take k).all (fun c=>oz c a)=true)/\∃ j,w.drewN j=wr) (fun i _=>L.length - (intOf i).toNat)
 case atStart=>exact ⟨0,zl,rfl,rfl,0,rfl⟩
 case round=>
  obtain ⟨k,hk,rfl,D,u,rfl⟩:=hrel;by_cases f:k < L.length
  ·obtain ⟨ai,ci,bi,e1,U,G⟩:=Y.out k f;have T:=p (by omega);subst T;clear p;have R:=HL.out _ (List.getElem_mem f);have s:Hid (∀ x ∈ L[k],lW n x):=V.out _ (List.getElem_mem f);have E3:=hide G;have X:Hid ((L.take (k + 1)).all (fun c=>oz c a)=oz L[k] a):=by
    unfold Hid;rw [List.take_succ_eq_append_getElem f,List.all_append,D.out];simp
   have HF:Hid (oz L[k] a=false->tK L a=false):=fun h=>by
    unfold tK;rw [List.all_eq_false];exact ⟨_,List.getElem_mem f,by simpa using h⟩
   clear G;generalize L[k]=c at *
   go_wp2;go_loopw [6,7] (fun sm i wr=>∃ q:Nat,q <= c.length/\i=.int .i64 q/\sm=.bool (oz (c.take q) a)/\∃ j,w.drewN j=wr) (fun _ i _=>c.length - (intOf i).toNat)
   case atStart=>exact ⟨0,zl,rfl,rfl,u,rfl⟩
   case round=>
    obtain ⟨q,hq,rfl,rfl,o,rfl⟩:=hrel;by_cases m:q < c.length
    ·have S:=U (by omega);subst S;have e4:=E3.out q m;obtain ⟨Q,P⟩:=s.out _ (List.getElem_mem m)
     have Z:Hid (oz (c.take (q + 1)) a=(oz (c.take q) a || (a ((c[q]).natAbs - 1) == decide (0 < c[q])))):=by
      unfold Hid oz;rw [List.take_succ_eq_append_getElem m,List.any_append];simp
     have e5:=W.out ((c[q]).natAbs - 1) (by omega);generalize c[q]=x at *
     generalize oz (c.take q) a=sm at *
     have hd:∀ b:Bool,b=decide (0 < x)->(Value.bool (sm || (a (x.natAbs - 1) == b)))=Value.bool (oz (c.take (q + 1)) a):=fun b h=>by rw [Z.out,h]
     by_cases B:x < 0
     ·have w1:IntKind.i64.wrap (-x)=-x:=by rw [IntKind.wrap_i64];omega
      have H:IntKind.i64.wrap (-x - 1)=((x.natAbs - 1:Nat):Int):=by rw [IntKind.wrap_i64];omega
      have O:x.natAbs - 1 < n:=by omega
      have N:¬ -x < 1:=by omega
      have M:¬ (n:Int) < -x:=by omega
      have K:¬ 0 < x:=by omega
      have d:=hd false (by simp;omega);go_wp2;cases sm
      ·go_region
       all_goals go_wp2
       all_goals go_roundw
       case rel=>exact ⟨q + 1,by omega,by go_num,(by first | exact d | exact hd _ rfl | (rw [<- d];simp)),o + 1,rfl⟩
       case measure=>simp [intOf];omega
      ·go_region
       all_goals go_wp2
       all_goals go_roundw
       case rel=>exact ⟨q + 1,by omega,by go_num,(by first | exact d | exact hd _ rfl | (rw [<- d];simp)),o + 1,rfl⟩
       case measure=>simp [intOf];omega
     ·have H:IntKind.i64.wrap (x - 1)=((x.natAbs - 1:Nat):Int):=by rw [IntKind.wrap_i64];omega
      have O:x.natAbs - 1 < n:=by omega
      have N:¬ x < 1:=by omega
      have M:¬ (n:Int) < x:=by omega
      have K:0 < x:=by omega
      have d:=hd true (by simp;omega);go_wp2;cases sm
      ·go_region
       all_goals go_wp2
       all_goals go_roundw
       case rel=>exact ⟨q + 1,by omega,by go_num,(by first | exact d | exact hd _ rfl | (rw [<- d];simp)),o + 1,rfl⟩
       case measure=>simp [intOf];omega
      ·go_region
       all_goals go_wp2
       all_goals go_roundw
       case rel=>exact ⟨q + 1,by omega,by go_num,(by first | exact d | exact hd _ rfl | (rw [<- d];simp)),o + 1,rfl⟩
       case measure=>simp [intOf];omega
    ·have e:q=c.length:=by omega
     subst e;rw [List.take_length];cases r:oz c a
     ·have E:=hide (HF.out r);go_wp2;go_ret;exact ⟨by rw [E.out];rfl,qc w o⟩
     ·have E:Hid ((L.take (k + 1)).all (fun c=>oz c a)=true):=X.out.trans r;go_wp2;go_roundw
      case rel=>exact ⟨k + 1,by omega,by go_num,E,o,rfl⟩
      case measure=>simp [intOf];omega
  ·have e:k=L.length:=by omega
   subst e;have E:Hid (tK L a=true):=by
    have:=D.out;rw [List.take_length] at this;exact this
   go_wp2;go_ret
   exact ⟨by rw [E.out];rfl,qc w u⟩
theorem vk (w:World) (lv:Value) (L:List Cl) (n g:Nat) (a:Nat->Bool) (hL:Rows w lv L) (f:∀ c ∈ L,∀ x ∈ c,lW n x) (k:∀ c ∈ L,c.length <= 20001) (j:L.length <= 20001) (i:n <= 50) (h:∀ v,v < n->w.cell? ⟨g,v,none⟩=some (.bool (a v))):
  Calls Tryz.prog 24 #[lv,.slice (some ⟨g,0,none⟩) n n] w fun e d=>e=.returned (.bool (tK L a))/\Below w.heap.size w d:=
 Mf w lv L 0 n g 0 n a hL.off f k j i fun v b=>by rw [Nat.zero_add];exact h v b
end
section
open Go Rd Go.Proofs.YtceahffmenbibaaGreatDoor.So
def Xh:ByteArray:=⟨#[112,32,99,110,102,32,50,32,50,10,49,32,45,50,32,48,10,50,32,48,10]⟩
def Su:ByteArray:=⟨#[112,32,99,110,102,32,49,32,50,10,49,32,48,10,45,49,32,48,10]⟩
def Xg:ByteArray:=⟨#[112,32,99,110,102,32,49,32,49,10,49,32,48,10]⟩
def VF:ByteArray:=⟨#[48,10]⟩
theorem Zf:lM Xh.data.toList=(((2:Nat):Int),[[1,-2],[2]],0):=by decide +kernel
theorem Y0:lM Su.data.toList=(((1:Nat):Int),[[1],[-1]],0):=by decide +kernel
theorem Ze:lM Xg.data.toList=(((1:Nat):Int),[[1]],0):=by decide +kernel
theorem Vz:Wy [[1],[-1]] []:=by
 left
 intro M i _ g;have k:M 1:=by
  rcases g [1] (by simp) with ⟨l,d,h⟩ | ⟨a,f,b,e,c,_⟩
  ·simp at d;subst d;exact h
  ·simp at f e;rw [f,e] at c;exact absurd rfl c
 have j:M (-1):=by
  rcases g [-1] (by simp) with ⟨l,d,h⟩ | ⟨a,f,b,e,c,_⟩
  ·simp at d;subst d;exact h
  ·simp at f e;rw [f,e] at c;exact absurd rfl c
 exact i 1 k j
theorem Y6:∀ c ∈ ([[1,-2],[2]]:List Cl),∀ x ∈ c,lW 2 x:=by
 intro c b x a;unfold lW;simp at b
 rcases b with rfl | rfl <;> simp at a
 ·rcases a with rfl | rfl <;> decide
 ·subst a;decide
theorem Zh:∀ c ∈ ([[1],[-1]]:List Cl),∀ x ∈ c,lW 1 x:=by
 intro c b x a;unfold lW;simp at b
 rcases b with rfl | rfl <;> simp at a <;> subst a <;> decide
theorem Yt:∃ t,Sat t [[1,-2],[2]]:=⟨fun _=>true,fun c a=>by
 simp at a
 rcases a with rfl | rfl
 ·exact ⟨1,by simp,by decide,by decide⟩
 ·exact ⟨2,by simp,by decide,by decide⟩⟩
theorem Vr:¬ ∃ t,Sat t [[1],[-1]]:=fun ⟨t,h⟩=>by
 obtain ⟨l,b,_,e⟩:=h [1] (by simp);obtain ⟨g,a,_,d⟩:=h [-1] (by simp);simp at b a;subst b;subst a;have f:t 1=true:=e;have c:t 1=false:=d;rw [f] at c;cases c
theorem Xe {a:Nat->Bool} (h:uN [[1,-2],[2]] a):a 0=true/\a 1=true:=by
 obtain ⟨l,b,_,e⟩:=h [2] (by simp);simp at b;subst b;have c:a 1=true:=e;obtain ⟨l,b,_,d⟩:=h [1,-2] (by simp);simp at b
 rcases b with rfl | rfl
 ·exact ⟨d,c⟩
 ·have:a 1=false:=d;rw [this] at c;cases c
end
section
open Go Go.RowKit Go.Deep Rd Go.Proofs.YtceahffmenbibaaGreatDoor.So
theorem cell_later {w w':World} {p:Addr} {v:Value} (h:w.cell? p=some v) (a:Below w.heap.size w w'):w'.cell? p=some v:=by
 rw [a.cell (p:=p) (block_lt_of_cell h)];exact h
def UH (w0:World) (g a:Nat) (w:World):Prop:=w.cell? ⟨a,0,none⟩=some (.int .i64 1)/\w.cell? ⟨a,1,none⟩=some (.slice (some ⟨g,0,none⟩) 2 2)/\w.cell? ⟨g,0,none⟩=some (.bool true)/\w.cell? ⟨g,1,none⟩=some (.bool true)/\Below w0.heap.size w0 w
theorem UH.later {w0 w w':World} {g a:Nat} (h:UH w0 g a w) (b:Below w.heap.size w w'):UH w0 g a w':=
 ⟨cell_later h.1 b,cell_later h.2.1 b,cell_later h.2.2.1 b,cell_later h.2.2.2.1 b,h.2.2.2.2.trans (b.mono h.2.2.2.2.size)⟩
theorem UH.mO {w0 w:World} {g a:Nat} (h:UH w0 g a w):Below w0.heap.size w0 w:=h.2.2.2.2
theorem three {w:World} {x y z:Value} {t:TypeId}:(w.alloc (.cells #[x,y,z] t)).cell? ⟨w.heap.size,0,none⟩=some x/\(w.alloc (.cells #[x,y,z] t)).cell? ⟨w.heap.size,1,none⟩=some y/\Below w.heap.size w (w.alloc (.cells #[x,y,z] t)):=by
 have r:(w.alloc (.cells #[x,y,z] t)).rowIs w.heap.size t 3 (fun i=>if i=0 then x else if i=1 then y else z):=World.rowIs_alloc w _ _ _ fun i a=>match i,a with
  | 0,_=>rfl
  | 1,_=>rfl
  | 2,_=>rfl
 exact ⟨r.cell (i:=0) (by omega),r.cell (i:=1) (by omega),bR.alloc lr _⟩
theorem Vp {w0 w:World} {g:Nat} {p:Value} {t:TypeId} (f:w.cell? ⟨g,0,none⟩=some (.bool true)) (e:w.cell? ⟨g,1,none⟩=some (.bool true)) (b:Below w0.heap.size w0 w):UH w0 g w.heap.size (w.alloc (.cells #[.int .i64 1,.slice (some ⟨g,0,none⟩) 2 2,p] t)):=by
 obtain ⟨d,c,a⟩:=three (w:=w) (x:=.int .i64 1) (y:=.slice (some ⟨g,0,none⟩) 2 2) (z:=p) (t:=t);exact ⟨d,c,cell_later f a,cell_later e a,b.trans (a.mono b.size)⟩
theorem KJ (i:World->Prop) (d:∀ {a b:World},i a->Below a.heap.size a b->i b)
  (q:∀ W,i W->Calls Tryz.prog 17 #[.string Xh,.int .i64 (-1)] W fun e c=>∃ (g:Nat) (p:ByteArray),e=.returned (.tuple #[.agg #[.int .i64 1,.slice (some ⟨g,0,none⟩) 2 2,.string p],.int .i64 0])/\c.cell? ⟨g,0,none⟩=some (.bool true)/\c.cell? ⟨g,1,none⟩=some (.bool true)/\Below W.heap.size W c)
  (o:∀ W,i W->Calls Tryz.prog 17 #[.string Su,.int .i64 (-1)] W fun e c=>∃ (p:ByteArray),e=.returned (.tuple #[.agg #[.int .i64 2,.slice none 0 0,.string p],.int .i64 0])/\Below W.heap.size W c)
  (s:∀ W,i W->Calls Tryz.prog 20 #[.string Su,.string VF] W fun e c=>e=.returned (.tuple #[.int .i64 1,.int .i64 0])/\Below W.heap.size W c)
  (r:∀ W,i W->Calls Tryz.prog 20 #[.string Xg,.string VF] W fun e c=>e=.returned (.tuple #[.int .i64 1,.int .i64 4])/\Below W.heap.size W c)
  (w:World) (k:i w):
  Calls Tryz.prog 16 #[] w fun e c=>e=.returned (.bool true)/\Below w.heap.size w c:=by
 have B:=hide (q w k);have z:Hid (∀ W,Below w.heap.size w W->Calls Tryz.prog 17 #[.string Su,.int .i64 (-1)] W fun e c=>∃ (p:ByteArray),e=.returned (.tuple #[.agg #[.int .i64 2,.slice none 0 0,.string p],.int .i64 0])/\Below W.heap.size W c):=fun W n=>o W (d k n)
 have v:Hid (∀ W,Below w.heap.size w W->Calls Tryz.prog 20 #[.string Su,.string VF] W fun e c=>e=.returned (.tuple #[.int .i64 1,.int .i64 0])/\Below W.heap.size W c):=fun W n=>s W (d k n)
 have u:Hid (∀ W,Below w.heap.size w W->Calls Tryz.prog 20 #[.string Xg,.string VF] W fun e c=>e=.returned (.tuple #[.int .i64 1,.int .i64 4])/\Below W.heap.size W c):=fun W n=>r W (d k n)
 clear q o s r k d;unfold Xh at B;unfold Su at z v;unfold Xg at u;unfold VF at v u;go_enter Tryz.func16,Tryz.ntmps16
 go_upto_region 1 with fail
 go_upto_region 2 with (go_at_call 17;(with_reducible refine B.out.mono ?_);rintro e1 H ⟨g,p,rfl,J,I,m⟩;have K:=hide m;clear m B;simp only [])
 have C:=hide (Vp (w0:=w) (p:=.string p) (t:=28) J I K.out);clear J I K;generalize H.alloc (.cells #[.int .i64 1,.slice (some ⟨g,0,none⟩) 2 2,.string p] 28)=V at *
 generalize H.heap.size=a at *
 go_upto_region 3 with (go_at_call 17;(with_reducible refine (z.out _ C.out.mO).mono ?_);rintro Z j ⟨p3,rfl,l⟩;have M:=hide (C.out.later l);clear l C z;simp only [])
 have y:Hid (UH w g a (j.alloc (.cells #[.int .i64 2,.slice none 0 0,.string p3] 28))/\(j.alloc (.cells #[.int .i64 2,.slice none 0 0,.string p3] 28)).cell? ⟨j.heap.size,0,none⟩=some (.int .i64 2)):=⟨M.out.later three.2.2,three.1⟩;clear M;generalize j.alloc (.cells #[.int .i64 2,.slice none 0 0,.string p3] 28)=U at *
 generalize j.heap.size=b at *
 go_upto_region 4 with (go_at_call 20;(with_reducible refine (v.out _ y.out.1.mO).mono ?_);rintro Y G ⟨rfl,h⟩;have x:Hid (UH w g a G/\G.cell? ⟨b,0,none⟩=some (.int .i64 2)):=⟨y.out.1.later h,cell_later y.out.2 h⟩;clear h y v;simp only [])
 go_upto_region 5 with (go_at_call 20;(with_reducible refine (u.out _ x.out.1.mO).mono ?_);rintro X E ⟨rfl,f⟩;have L:Hid (UH w g a E/\E.cell? ⟨b,0,none⟩=some (.int .i64 2)):=⟨x.out.1.later f,cell_later x.out.2 f⟩;clear f x u;simp only [])
 obtain ⟨⟨S,R,Q,P,D⟩,O⟩:=L.out;have N:=hide D;clear D L;go_wp2;go_ret;exact ⟨rfl,N.out⟩
theorem Tf {L:List Cl} {n:Nat} {a:Nat->Bool} (f:∀ c ∈ L,∀ x ∈ c,lW n x) (h:uN L a):tK L a=true:=by
 unfold tK;rw [List.all_eq_true];intro c e;obtain ⟨l,d,g,b⟩:=h c e;unfold oz;rw [List.any_eq_true];exact ⟨l,d,by simpa using b⟩
theorem Oq {Z:Nat->Prop} {w:World} {u:Value} {L:List Cl} (h:Nv Z w u L):Rows w u L:=by
 obtain ⟨a,c,b,g,f,e⟩:=h;refine ⟨a,c,b,g,fun h=>(f h).1,fun i d=>?_⟩;obtain ⟨l,ci,k,g1,g2,_,_,j⟩:=e i d;exact ⟨l,ci,k,g1,g2,j⟩
def ShN (w0:World) (p:ByteArray) (a:Nat) (w:World):Prop:=w.cell? ⟨a,0,none⟩=some (.int .i64 2)/\w.cell? ⟨a,1,none⟩=some (.slice none 0 0)/\w.cell? ⟨a,2,none⟩=some (.string p)/\Below w0.heap.size w0 w
theorem ShN.mO {w0 w:World} {p:ByteArray} {a:Nat} (h:ShN w0 p a w):Below w0.heap.size w0 w:=h.2.2.2
theorem ShN.later {w0 w w':World} {p:ByteArray} {a:Nat} (h:ShN w0 p a w) (b:Below w.heap.size w w'):ShN w0 p a w':=
 ⟨cell_later h.1 b,cell_later h.2.1 b,cell_later h.2.2.1 b,h.2.2.2.trans (b.mono h.2.2.2.size)⟩
theorem Vw {w0 w:World} {p:ByteArray} {t:TypeId} (a:Below w0.heap.size w0 w):ShN w0 p w.heap.size (w.alloc (.cells #[.int .i64 2,.slice none 0 0,.string p] t)):=by
 have r:(w.alloc (.cells #[.int .i64 2,.slice none 0 0,.string p] t)).rowIs w.heap.size t 3 (fun i=>if i=0 then .int .i64 2 else if i=1 then .slice none 0 0 else .string p):=World.rowIs_alloc w _ _ _ fun i b=>match i,b with
  | 0,_=>rfl
  | 1,_=>rfl
  | 2,_=>rfl
 exact ⟨r.cell (i:=0) (by omega),r.cell (i:=1) (by omega),r.cell (i:=2) (by omega),a.trans (three.2.2.mono a.size)⟩
def ShM (w0:World) (n g:Nat) (vals:Nat->Bool) (a:Nat) (w:World):Prop:=w.cell? ⟨a,0,none⟩=some (.int .i64 1)/\w.cell? ⟨a,1,none⟩=some (.slice (some ⟨g,0,none⟩) n n)/\(∀ v,v < n->w.cell? ⟨g,v,none⟩=some (.bool (vals v)))/\Below w0.heap.size w0 w
theorem ShM.mO {w0 w:World} {n g:Nat} {b:Nat->Bool} {a:Nat} (h:ShM w0 n g b a w):Below w0.heap.size w0 w:=h.2.2.2
theorem ShM.later {w0 w w':World} {n g:Nat} {b:Nat->Bool} {a:Nat} (h:ShM w0 n g b a w) (c:Below w.heap.size w w'):ShM w0 n g b a w':=
 ⟨cell_later h.1 c,cell_later h.2.1 c,fun v d=>cell_later (h.2.2.1 v d) c,h.2.2.2.trans (c.mono h.2.2.2.size)⟩
theorem Vy {w0 w:World} {p:Value} {n g:Nat} {a:Nat->Bool} {t:TypeId} (d:∀ v,v < n->w.cell? ⟨g,v,none⟩=some (.bool (a v))) (b:Below w0.heap.size w0 w):ShM w0 n g a w.heap.size (w.alloc (.cells #[.int .i64 1,.slice (some ⟨g,0,none⟩) n n,p] t)):=by
 obtain ⟨f,e,c⟩:=three (w:=w) (x:=.int .i64 1) (y:=.slice (some ⟨g,0,none⟩) n n) (z:=p) (t:=t);exact ⟨f,e,fun v h=>cell_later (d v h) c,b.trans (c.mono b.size)⟩
def DK (L:List Cl) (w:World) (e:Ending) (w':World):Prop:=∃ b:Bool,e=.returned (.tuple #[.bool true,.bool b])/\(b=true↔∃ t,Sat t L)/\Below w.heap.size w w'
theorem Oh (r:World->Prop) (o:∀ {a b:World},r a->Below a.heap.size a b->r b) {s:ByteArray} {n mx:Nat} {L:List Cl} (hn:n <= 50) (E:∀ c ∈ L,∀ x ∈ c,lW n x) (hl:∀ c ∈ L,c.length <= 20001) (hm:L.length <= 20001)
  (hS:∀ W,r W->Calls Tryz.prog 17 #[.string s,.int .i64 (-1)] W fun e f=>zK n L mx W e f)
  (H:∀ W,r W->Calls Tryz.prog 18 #[.string s] W fun e f=>∃ a c,e=.returned (.tuple #[.int .i64 (n:Nat),.slice a L.length c,.int .i64 0])/\Rows f (.slice a L.length c) L/\Below W.heap.size W f)
  (hC:∀ p:List UInt8,wO n L mx p->∀ W,r W->Calls Tryz.prog 20 #[.string s,.string ⟨p.toArray⟩] W fun e f=>e=.returned (.tuple #[.int .i64 (Bo p:Nat),.int .i64 0])/\Below W.heap.size W f)
  (aa:250 * mx + 2 <= 17592186044416) (w:World) (G:r w):
  Calls Tryz.prog 19 #[.string s] w fun e f=>DK L w e f:=by
 have QS:=hide (hS w G);have J:Hid (∀ W,Below w.heap.size w W->Calls Tryz.prog 18 #[.string s] W fun e f=>∃ a c,e=.returned (.tuple #[.int .i64 (n:Nat),.slice a L.length c,.int .i64 0])/\Rows f (.slice a L.length c) L/\Below W.heap.size W f):=fun W R=>H W (o G R)
 have Y:Hid (∀ p:List UInt8,wO n L mx p->∀ W,Below w.heap.size w W->Calls Tryz.prog 20 #[.string s,.string ⟨p.toArray⟩] W fun e f=>e=.returned (.tuple #[.int .i64 (Bo p:Nat),.int .i64 0])/\Below W.heap.size W f):=fun p u W R=>hC p u W (o G R)
 have V:Hid (∀ p:List UInt8,wO n L mx p->∀ W,Calls Tryz.prog 21 #[.string ⟨p.toArray⟩] W fun e f=>e=.returned (.int .i64 (Bo p:Nat))/\Below W.heap.size W f):=fun p u W=>by
  refine Mo ⟨p.toArray⟩ W ?_;obtain ⟨_,_,_,_,_,_,h5⟩:=id u;show p.length <= _
  unfold maxLen;omega
 have QM:Hid (∀ W (a:Option Addr) (c g:Nat) (d:Nat->Bool),uN L d->Rows W (.slice a L.length c) L->(∀ v,v < n->W.cell? ⟨g,v,none⟩=some (.bool (d v)))->Calls Tryz.prog 24 #[.slice a L.length c,.slice (some ⟨g,0,none⟩) n n] W fun e f=>e=.returned (.bool true)/\Below W.heap.size W f):=fun W a c g d I H P=>by
  have:=vk W _ L n g d H E hl hm hn P;rw [Tf E I] at this;exact this
 have UN:Hid (∀ p,wO n L mx p->¬ ∃ t,Sat t L):=fun p u=>wD E u
 clear hS H hC G o E hl;go_enter Tryz.func19,Tryz.ntmps19
 go_upto_region 2 with (go_at_call 17;(with_reducible refine QS.out.mono ?_);rintro e1 D ⟨z,⟨p,rfl,hN⟩ | ⟨g,d,p,rfl,Q,l,I⟩⟩ <;> (have K:=hide z;clear z QS;simp only []))
 ·have Z:=hide hN;clear hN;have q:=hide (Vw (p:=⟨p.toArray⟩) (t:=28) K.out);have U:=hide (V.out p Z.out);have X:=hide (Y.out p Z.out);generalize (⟨p.toArray⟩:ByteArray)=pt at *
  generalize D.alloc (.cells #[.int .i64 2,.slice none 0 0,.string pt] 28)=w2 at *
  generalize D.heap.size=a at *
  clear K V Y;go_upto_region 3 with (go_at_call 18;(with_reducible refine (J.out _ q.out.mO).mono ?_);rintro e3 w3 ⟨la,lc,rfl,k,j⟩;have m:=hide (q.out.later j);clear j k q J;simp only [])
  obtain ⟨O,N,C,M⟩:=m.out;clear M;go_wp2_with (first
   |(go_at_call 20;(with_reducible refine (X.out _ m.out.mO).mono ?_);rintro e5 w5 ⟨rfl,i⟩;have B:=hide (m.out.later i);obtain ⟨z0,z1,z2,z3⟩:=B.out;clear z3 i O N C m;simp only [])
   |(go_at_call 21;(with_reducible refine (U.out _).mono ?_);rintro e6 w6 ⟨rfl,y⟩;have A6:=hide (B.out.later y);obtain ⟨x0,x1,x2,x3⟩:=A6.out;clear x3 y z0 z1 z2 B;simp only []))
  go_ret2
  exact ⟨false,rfl,⟨fun h=>(by cases h),fun h=>absurd h (UN.out p Z.out)⟩,A6.out.mO⟩
 ·have HM:=hide I;have q:=hide (Vy (p:=.string ⟨p⟩) (t:=28) (fun v P=>l.cell P) K.out);clear I l Q K V Y UN;generalize D.alloc (.cells #[.int .i64 1,.slice (some ⟨g,0,none⟩) n n,.string ⟨p⟩] 28)=w2 at *
  generalize D.heap.size=a at *
  go_upto_region 3 with (go_at_call 18;(with_reducible refine (J.out _ q.out.mO).mono ?_);rintro e3 w3 ⟨la,lc,rfl,k,j⟩;have m:=hide (q.out.later j);have R3:=hide k;clear j k q J;simp only [])
  obtain ⟨O,N,C,M⟩:=m.out;have S:=hide (QM.out w3 la lc g d HM.out R3.out C);clear M C;go_wp2_with (go_at_call 24;(with_reducible refine S.out.mono ?_);rintro e5 w5 ⟨rfl,i⟩;have B:=hide (m.out.later i);clear i O N m R3;simp only [])
  go_ret2
  exact ⟨true,rfl,⟨fun _=>⟨_,HM.out⟩,fun _=>rfl⟩,B.out.mO⟩
end
end Kp
end Go.Proofs.YtceahffmenbibaaGreatDoor
