/- Ssol2 Kpck Knev Kmts Kwrf Kwrk Kshb Ksho. -/
import Derived.Test.YtceahffmenbibaaGreatDoorG40
import Derived.Test.YtceahffmenbibaaGreatDoorG49
import Derived.Test.YtceahffmenbibaaGreatDoorG13
import Derived.Laws.ResultCell
import Derived.Test.YtceahffmenbibaaGreatDoorG29
import Derived.Test.YtceahffmenbibaaGreatDoorG27
set_option linter.unusedVariables false
set_option linter.unusedSimpArgs false
set_option maxHeartbeats 4000000
set_option maxRecDepth 100000
namespace Go.Proofs.YtceahffmenbibaaGreatDoor
namespace So
section
open Go Go.RowKit Go.Deep Rd
theorem Oe {base:Nat} {w:World} {u:Value} {L:List Cl} (h:(L=[]/\u=.slice none 0 0)\/Lists 43 3 base w u L):Mg (fun g=>w.heap.size <= g) w u L:=by
 rcases h with ⟨rfl,rfl⟩ | h
 ·exact ⟨none,0,0,rfl,fun h=>absurd h (by simp),fun i hi=>absurd hi (by simp)⟩
 ·obtain ⟨CB,B,rfl,hb,ho,hi,_⟩:=h.ex;refine ⟨some ⟨CB,0,none⟩,L.length,CB,rfl,fun _=>⟨rfl,ho.lt,by have:=ho.lt;omega⟩,fun i h1=>?_⟩
  have hr:=(hi i h1).2;have e:L.getD i []=L[i]:=by simp [List.getD,h1]
  rw [e] at hr;refine ⟨some ⟨B i,0,none⟩,(L[i]).length,B i,?_,fun _=>rfl,hr.lt,by have:=hr.lt;omega,fun j hj=>?_⟩
  ·have:=ho.cell h1;rw [e] at this;exact this
  ·have:=hr.cell hj;rw [this];unfold Rd.iA;simp [List.getD,hj]
def Uw (n:Nat) (L:List Cl) (mx:Nat):Prop:=∀ (Z:Nat->Prop) (kb:Nat) (w:World) (lv:Value),Mg Z w lv L->ky Z kb w []->Calls Tryz.prog 31 #[.int .i64 (n:Nat),lv,.iface 105 (.pointer (some ⟨kb,0,none⟩))] w fun e w'=>xR Z kb n L mx w e w'
def xY (n:Nat) (L0:List Cl) (mx:Nat) (p:List UInt8):Prop:=∃ (ls:List (Bool × List Nat)) (L:List Cl),p=bJ ls ++ [48,10]/\iD L0 (ls.map fun l=>(l.1,l.2.map wr)) L/\bH L []/\(∀ l ∈ ls,∀ x ∈ l.2,x < 2 * n)/\p.length <= 250 * mx + 2
def xO (n:Nat) (L:List Cl) (mx:Nat) (w:World) (e:Ending) (w':World):Prop:=
 Below w.heap.size w w'/\((∃ p,e=.returned (.tuple #[.agg #[.int .i64 2,.slice none 0 0,.string ⟨p.toArray⟩],.int .i64 0])/\xY n L mx p) \/
  ∃ g vals p,e=.returned (.tuple #[.agg #[.int .i64 1,.slice (some ⟨g,0,none⟩) n n,.string ⟨p⟩],.int .i64 0])/\w.heap.size <= g/\w'.rowIs g 4 n (fun v=>.bool (vals v))/\qc L vals)
theorem Ov {w w':World} {g n:Nat} {f:Nat->Value} (h:w.rowIs g 4 n f) (hk:Lib.OthersKept 5 none w w'):w'.rowIs g 4 n f:=by
 refine h.of_block ?_;obtain ⟨c,h1,_⟩:=id h;rw [h1];exact hk g _ h1 (by simp) fun c' fz e=>by cases e
def Yq (B n:Nat) (L:List Cl) (mx kb:Nat) (met:Bool) (v:Value) (w0 w:World):Prop:=
 Below w0.heap.size w0 w/\w0.heap.size <= B/\B <= w.heap.size/\∃ l,ky (fun g=>B <= g) kb w l/\((met=false/\v=.slice none 0 0/\xY n L mx l)\/(met=true/\∃ g vals,v=.slice (some ⟨g,0,none⟩) n n/\w0.heap.size <= g/\w.rowIs g 4 n (fun v=>.bool (vals v))/\qc L vals))
theorem Yq.later {B n:Nat} {L:List Cl} {mx kb:Nat} {met:Bool} {v:Value} {w0 w w':World} (h:Yq B n L mx kb met v w0 w) (hb:Below w.heap.size w w'):Yq B n L mx kb met v w0 w':=by
 obtain ⟨h1,h2,h3,l,hs,h4⟩:=h;refine ⟨h1.trans (hb.mono h1.size),h2,Nat.le_trans h3 hb.size,l,hs.later hb,?_⟩
 rcases h4 with h4 | ⟨a,g,vals,b,c,d,e⟩
 ·exact .inl h4
 ·exact .inr ⟨a,g,vals,b,c,d.of_block (hb.block g d.lt),e⟩
def Aft2 (n:Nat) (L:List Cl) (mx:Nat) (met:Bool) (v:Value) (s:ByteArray) (w0 w:World):Prop:=
 xO n L mx w0 (.returned (.tuple #[.agg #[.int .i64 (if met then 1 else 2),v,.string s],.int .i64 0])) w
theorem Yq.taken {B n:Nat} {L:List Cl} {mx kb:Nat} {met:Bool} {v:Value} {w0 w:World} (h:Yq B n L mx kb met v w0 w):
  Calls Tryz.prog 33 #[.iface 105 (.pointer (some ⟨kb,0,none⟩))] w fun e w'=>∃ s,e=.returned (.string s)/\Aft2 n L mx met v s w0 w':=by
 obtain ⟨h1,h2,h3,l,hs,h4⟩:=h;refine (JB B hs h3).mono ?_;rintro e w' ⟨rfl,hb,hk⟩;refine ⟨_,rfl,h1.trans (hb.mono h2),?_⟩
 rcases h4 with ⟨rfl,rfl,hp⟩ | ⟨rfl,g,vals,rfl,c,d,e⟩
 ·exact .inl ⟨l,rfl,hp⟩
 ·exact .inr ⟨g,vals,_,rfl,c,Ov d hk,e⟩
theorem Uu {n:Nat} {L:List Cl} {mx:Nat} {w0 w1 w2:World} {u:Value} {kb:Nat} (hR:Uw n L mx) (hL:Mg (fun g=>w1.heap.size <= g) w1 u L) (hb:Below w0.heap.size w0 w1) (hb2:Below w1.heap.size w1 w2) (hs:ky (fun g=>w1.heap.size <= g) kb w2 []):
  Calls Tryz.prog 31 #[.int .i64 (n:Nat),u,.iface 105 (.pointer (some ⟨kb,0,none⟩))] w2 fun e w'=>∃ a k met,e=.returned (.tuple #[.slice a k k,.bool met,.nilIface])/\Yq w1.heap.size n L mx kb met (.slice a k k) w0 w':=by
 have hL2:Mg (fun g=>w1.heap.size <= g) w2 u L:=by
  obtain ⟨a,c,b,h1,h2,h3⟩:=hL;refine ⟨a,c,b,h1,fun h=>⟨(h2 h).1,Nat.lt_of_lt_of_le (h2 h).2.1 hb2.size,(h2 h).2.2⟩,fun i hi=>?_⟩
  obtain ⟨ai,ci,bi,g1,g2,g3,g4,g5⟩:=h3 i hi;exact ⟨ai,ci,bi,by rw [hb2.cell (p:=⟨b,i,none⟩) (block_lt_of_cell g1)];exact g1,g2,Nat.lt_of_lt_of_le g3 hb2.size,g4,fun j hj=>by rw [hb2.cell (p:=⟨bi,j,none⟩) g3];exact g5 j hj⟩
 refine (hR _ kb w2 u hL2 hs).mono ?_;rintro e w' ⟨hc,h⟩;have hbel:Below w1.heap.size w2 w':=hc.below hb2.size fun g hg=>by show ¬ w1.heap.size <= g;omega
 have hB0:Below w0.heap.size w0 w':=hb.trans ((hb2.trans hbel).mono hb.size);have hsz:w1.heap.size <= w'.heap.size:=Nat.le_trans hb2.size hbel.size
 rcases h with ⟨rfl,ls,L',s1,s2,s3,s4,s5⟩ | ⟨g,vals,l,rfl,c,d,e,s1,s2⟩
 ·exact ⟨_,_,_,rfl,hB0,hb.size,hsz,_,s1,.inl ⟨rfl,rfl,ls,L',rfl,s2,s3,s4,by simp;omega⟩⟩
 ·exact ⟨_,_,_,rfl,hB0,hb.size,hsz,_,s1,.inr ⟨rfl,g,vals,rfl,by have:=hb.size;have:=hb2.size;omega,d,e⟩⟩
theorem R5 {n:Nat} {L:List Cl} {mx:Nat} {w w5 w6:World} {e:Ending} {vd:Int} {va:Option Addr} {vk:Nat} {tx:ByteArray} (h:xO n L mx (w.alloc (Obj.cells #[Value.int IntKind.i64 0,Value.slice none 0 0,Value.string { data:=#[] }] 28)) e w5) (hx:w5.alloc (Obj.cells #[Value.int IntKind.i64 vd,Value.slice va vk vk,Value.string tx] 28)=w6):
  Hid (∀ w7,aC (fun g=>g=w.heap.size) w6 w7->xO n L mx w e w7)/\w6.cell? ⟨w5.heap.size,0,none⟩=some (.int .i64 vd)/\w6.cell? ⟨w5.heap.size,1,none⟩=some (.slice va vk vk)/\w6.cell? ⟨w5.heap.size,2,none⟩=some (.string tx)/\
  w6.cell? ⟨w.heap.size,0,none⟩=some (.int .i64 0)/\w6.cell? ⟨w.heap.size,1,none⟩=some (.slice none 0 0)/\w6.cell? ⟨w.heap.size,2,none⟩=some (.string ⟨#[]⟩)/\w6.frozen? ⟨w.heap.size,0,none⟩=false/\w6.frozen? ⟨w.heap.size,1,none⟩=false/\w6.frozen? ⟨w.heap.size,2,none⟩=false:=by
 have r6:w6.rowIs w5.heap.size 28 3 (fun i=>if i=0 then .int .i64 vd else if i=1 then .slice va vk vk else .string tx):=by
  rw [<- hx]
  exact World.rowIs_alloc w5 _ _ _ fun i hi=>match i,hi with
   | 0,_=>rfl
   | 1,_=>rfl
   | 2,_=>rfl
 have hb6:Below w5.heap.size w5 w6:=by rw [<- hx];exact (Below.refl _ _).alloc (Nat.le_refl _) _
 have hb0:Below w.heap.size w (w.alloc (Obj.cells #[Value.int IntKind.i64 0,Value.slice none 0 0,Value.string { data:=#[] }] 28)):=(Below.refl _ _).alloc (Nat.le_refl _) _;have r0:(w.alloc (Obj.cells #[Value.int IntKind.i64 0,Value.slice none 0 0,Value.string { data:=#[] }] 28)).rowIs w.heap.size 28 3 (fun i=>if i=0 then .int .i64 0 else if i=1 then .slice none 0 0 else .string ⟨#[]⟩):=
  World.rowIs_alloc w _ _ _ fun i hi=>match i,hi with
   | 0,_=>rfl
   | 1,_=>rfl
   | 2,_=>rfl
 generalize w.alloc (Obj.cells #[Value.int IntKind.i64 0,Value.slice none 0 0,Value.string { data:=#[] }] 28)=w0 at h hb0 r0;have r5:=r0.of_block (h.1.block _ r0.lt);have XT:=r5.of_block (hb6.block _ r5.lt);refine ⟨fun w7 hc=>⟨?_,?_⟩,r6.cell (by omega),r6.cell (by omega),r6.cell (by omega),XT.cell (by omega),XT.cell (by omega),XT.cell (by omega),XT.frozen 0,XT.frozen 1,XT.frozen 2⟩
 ·have h1:Below w.heap.size w w6:=(hb0.trans (h.1.mono hb0.size)).trans (hb6.mono (Nat.le_trans hb0.size h.1.size));exact h1.trans (hc.below h1.size fun g hg e=>by omega)
 ·rcases h.2 with h2 | ⟨g,vals,p,h3,h4,h5,h6⟩
  ·exact .inl h2
  ·refine .inr ⟨g,vals,p,h3,Nat.le_trans hb0.size h4,?_,h6⟩;have:=h5.of_block (hb6.block _ h5.lt);exact this.of_block (hc.block g this.lt (by have:=r0.lt;omega))
theorem sD {n:Nat} {L:List Cl} {mx:Nat} (s:ByteArray) (w:World) (hg:mZ w) (hs:s.size <= maxLen) (hr:iQ s.data.toList=((n:Int),L,0)) (hR:Uw n L mx):
  Calls Tryz.prog 17 #[.string s,.int .i64 (-1)] w fun e w'=>xO n L mx w e w':=by
 have QR:Hid (∀ W,Below w.heap.size w W->Calls Tryz.prog 18 #[.string s] W fun e w'=>∃ u,e=.returned (.tuple #[.int .i64 (n:Nat),u,.int .i64 0])/\Mg (fun g=>w'.heap.size <= g) w' u L/\Below W.heap.size W w'):=fun W hW=>by
  refine (vW s W hs (mZ.below hg.2.2 hW hg)).mono ?_;rintro e w' ⟨hb,u,he,hl⟩;rw [Av,hr] at he hl;exact ⟨u,he,Oe hl,hb⟩
 have QV:Hid (∀ (met:Bool) (w:World),Calls Tryz.prog 32 #[.bool met,.nilIface] w fun e w'=>∃ vd:Int,Hid (vd=if met then 1 else 2)/\e=.returned (.int .i64 vd)/\Below w.heap.size w w'):=fun met w=>(Ch met).mono fun e w' ⟨a,b⟩=>⟨_,rfl,a,b⟩
 have HR:=hide hR;clear hg hs hr hR;go_enter Tryz.func17,Tryz.ntmps17
 go_upto_region 2 with (go_at_call 18;(with_reducible refine (QR.out _ ((Below.refl _ _).alloc (Nat.le_refl _) _)).mono ?_);rintro e1 w1 ⟨u,rfl,hl,hb⟩;have HL:=hide hl;have HB:=hide hb;have QN:=hide (Ta (w:=w1) w1.heap.size (Nat.le_refl _));clear hl hb;simp only [])
 go_upto_region 5 with (go_at_call 30;(with_reducible refine QN.out.mono ?_);rintro e2 w2 ⟨kb,rfl,hs,hk,hb⟩;have QU:=hide (Uu HR.out HL.out HB.out hb hs);clear hs hk hb QN;simp only [])
 go_upto_region 6 with (go_at_call 31;(with_reducible refine QU.out.mono ?_);rintro e3 w3 ⟨va,vk,met,rfl,ha⟩;have HA:=hide ha;clear ha QU;simp only [])
 clear HL HB;go_upto_region 7 with (first
  |(go_at_call 32;(with_reducible refine (QV.out met _).mono ?_);rintro e4 w4 ⟨vd,hvd,rfl,hb⟩;have HA4:=hide (HA.out.later hb);clear hb HA;simp only [])
  |(go_at_call 33;(with_reducible refine HA4.out.taken.mono ?_);rintro e5 w5 ⟨tx,rfl,ha⟩;have HA5:=hide ha;clear ha HA4;unfold Aft2 at HA5;rw [<- hvd.out] at HA5;clear hvd;simp only []))
 have hw6:w5.alloc (Obj.cells #[Value.int IntKind.i64 vd,Value.slice va vk vk,Value.string tx] 28)=w5.alloc (Obj.cells #[Value.int IntKind.i64 vd,Value.slice va vk vk,Value.string tx] 28):=rfl;generalize hx:w5.alloc (Obj.cells #[Value.int IntKind.i64 vd,Value.slice va vk vk,Value.string tx] 28)=w6 at hw6 ⊢;obtain ⟨HF,d0,d1,d2,r0,r1,r2,z0,z1,z2⟩:=R5 HA5.out hx;clear HA5 hw6 hx;go_wp2;refine bodyPost_ret (v:=.tuple #[.agg #[.int .i64 vd,.slice va vk vk,.string tx],.int .i64 0]) ?_ rfl (HF.out _ (aC.setCell (aC.setCell (aC.setCell (aC.refl (Z:=fun g=>g=w.heap.size) w6) (p:=⟨w.heap.size,0,none⟩) rfl _) (p:=⟨w.heap.size,1,none⟩) rfl _) (p:=⟨w.heap.size,2,none⟩) rfl _))
 rw [results_cell_tmp rfl];go_simp
end
end So
end Go.Proofs.YtceahffmenbibaaGreatDoor
namespace Go.Proofs.YtceahffmenbibaaGreatDoor
namespace Kp
section
open Go Go.RowKit Go.Deep Rd
def kI (c:Int) (n:Nat):Nat:=(if c < 0 then -(c + 1) else c).toNat % n
theorem Nt (c:Int) (n:Nat) (w:World) (h1:-9223372036854775808 <= c) (h2:c <= 9223372036854775807) (hn:0 < n) (hn2:n <= 9223372036854775807):
  Calls Tryz.prog 22 #[.int .i64 c,.int .i64 (n:Nat)] w fun e w'=>e=.returned (.int .i64 (kI c n:Nat))/\Below w.heap.size w w':=by
 have hz:¬ ((n:Nat):Int)=0:=by omega
 by_cases hc:c < 0
 ·have w1:IntKind.i64.wrap (c + 1)=c + 1:=by rw [IntKind.wrap_i64];omega
  have w2:IntKind.i64.wrap (-(c + 1))=-(c + 1):=by rw [IntKind.wrap_i64];omega
  have w3:(-(c + 1)).tmod (n:Int)=((kI c n:Nat):Int):=by
   unfold kI;rw [if_pos hc,Int.tmod_eq_emod_of_nonneg (by omega)]
   have:((-(c + 1)).toNat:Int)=-(c + 1):=by omega
   rw [Int.natCast_emod,this]
  have w4:IntKind.i64.wrap ((kI c n:Nat):Int)=((kI c n:Nat):Int):=by
   have:kI c n < n:=Nat.mod_lt _ hn;rw [IntKind.wrap_i64];omega
  go_enter Tryz.func22,Tryz.ntmps22
  go_wp2;go_ret
  exact ⟨rfl,Below.refl _ _⟩
 ·have w3:c.tmod (n:Int)=((kI c n:Nat):Int):=by
   unfold kI;rw [if_neg hc,Int.tmod_eq_emod_of_nonneg (by omega)]
   have:(c.toNat:Int)=c:=by omega
   rw [Int.natCast_emod,this]
  have w4:IntKind.i64.wrap ((kI c n:Nat):Int)=((kI c n:Nat):Int):=by
   have:kI c n < n:=Nat.mod_lt _ hn;rw [IntKind.wrap_i64];omega
  go_enter Tryz.func22,Tryz.ntmps22
  go_wp2;go_ret
  exact ⟨rfl,Below.refl _ _⟩
def SS (l:List UInt8):Nat:=(l.filter (· == 10)).length
theorem NQ (s:ByteArray) (k:Nat) (hk:k < s.size):SS (s.data.toList.take (k + 1))=SS (s.data.toList.take k) + if s.data.toList[k]'(by simpa using hk)=10 then 1 else 0:=by
 rw [List.take_succ_eq_append_getElem (by simpa using hk)]
 unfold SS;rw [List.filter_append,List.length_append]
 congr 1
 by_cases h:s.data.toList[k]'(by simpa using hk)=10
 ·simp only [List.filter_cons,List.filter_nil,h];rfl
 ·rw [if_neg h,List.filter_cons_of_neg (by simpa using h)];rfl
theorem Wi (l:List UInt8):SS l <= l.length:=List.length_filter_le _ _
theorem Kt (s:ByteArray) (w:World) (hs:s.size <= maxLen):
  Calls Tryz.prog 21 #[.string s] w fun e w'=>e=.returned (.int .i64 (SS s.data.toList:Nat))/\Below w.heap.size w w':=by
 unfold maxLen at hs;go_enter Tryz.func21,Tryz.ntmps21
 go_wp2;go_loopw [3,4] (fun n i wr=>∃ k:Nat,k <= s.size/\i=.int .i64 k/\n=.int .i64 (SS (s.data.toList.take k):Nat)/\Below w.heap.size w wr) (fun _ i _=>s.size - (intOf i).toNat)
 case atStart=>exact ⟨0,Nat.zero_le _,rfl,rfl,Below.refl _ _⟩
 case round=>
  obtain ⟨k,hk,rfl,rfl,hb⟩:=hrel;have HB:=hide hb;clear hb;have hle:=Wi (s.data.toList.take k);have hl2:(s.data.toList.take k).length <= k:=by simp;omega
  by_cases hlt:k < s.size
  ·have E:=hide (NQ s k hlt);by_cases hc:s[k].toNat=10
   ·have hcc:((s[k].toNat:Int) == 10)=true:=by simp;omega
    have e10:s.data.toList[k]'(by simpa using hlt)=10:=by
     have:s[k]=s.data.toList[k]'(by simpa using hlt):=by simp;rfl
     rw [<- this,<- UInt8.toNat_inj];exact hc
    go_wp2;go_roundw
    case rel=>exact ⟨k + 1,by omega,by go_num,by rw [E.out,if_pos e10];go_num,HB.out⟩
    case measure=>simp [intOf];omega
   ·have hcc:((s[k].toNat:Int) == 10)=false:=by simp;omega
    have e10:¬ s.data.toList[k]'(by simpa using hlt)=10:=fun e=>hc (by
     have:s[k]=s.data.toList[k]'(by simpa using hlt):=by simp;rfl
     rw [this,e];rfl)
    go_wp2;go_roundw
    case rel=>exact ⟨k + 1,by omega,by go_num,by rw [E.out,if_neg e10];rfl,HB.out⟩
    case measure=>simp [intOf];omega
  ·have e:k=s.size:=by omega
   subst e;go_wp2;go_ret;refine ⟨?_,HB.out⟩;rw [List.take_of_length_le (by simp)];rfl
end
section
open Go Rd Go.Proofs.YtceahffmenbibaaGreatDoor.So
theorem nY {L':List Cl} (hR:bH L' []):∀ (ls:List (Bool × List Nat)) (L:List Cl),(∀ c ∈ L,Nz c)->iD L (ls.map fun l=>(l.1,l.2.map wr)) L'->¬ ∃ t,Sat t L
 | [],L,hz,h,⟨t,hs⟩=>by
  have h:L'=L:=h;subst h;obtain ⟨t',hs'⟩:=sH hs hz (by intro l hl;cases hl) hR
  obtain ⟨l,hl,_⟩:=hs' [] (by simp)
  cases hl
 |(true,c) :: ls,L,hz,h,⟨t,hs⟩=>by
  rw [List.map_cons] at h;obtain ⟨M,g1,g2⟩:=h;exact nY hR ls M (fun d hd=>hz d (Au g1 d hd)) g2 ⟨t,fun d hd=>hs d (Au g1 d hd)⟩
 |(false,c) :: ls,L,hz,h,⟨t,hs⟩=>by
  rw [List.map_cons] at h;obtain ⟨g0,g1,g2⟩:=h;have hc:Nz (c.map wr):=fun l hl=>by
   obtain ⟨x,_,rfl⟩:=List.mem_map.1 hl;exact Mi x
  obtain ⟨t',hs'⟩:=sH hs hz hc g1;refine nY hR ls _ (fun d hd=>?_) g2 ⟨t',hs'⟩
  rcases List.mem_append.1 hd with hd | hd
  ·exact hz d hd
  ·rw [List.mem_singleton.1 hd];exact hc
theorem nW {n mx:Nat} {L:List Cl} {p:List UInt8} (hz:∀ c ∈ L,∀ x ∈ c,jo n x) (h:xY n L mx p):¬ ∃ t,Sat t L:=by
 obtain ⟨ls,L',rfl,h1,h2,h3,h4⟩:=h;exact nY h2 ls L (fun c hc x hx=>(hz c hc x hx).1) h1
theorem IM {L:List Cl} {vals:Nat->Bool} (h:qc L vals):∃ t,Sat t L:=⟨_,h⟩
end
section
open Go Go.RowKit Go.Deep Rd Go.Proofs.YtceahffmenbibaaGreatDoor.So
def fF (c:Cl) (vals:Nat->Bool):Bool:=c.any fun x=>vals (x.natAbs - 1) == decide (0 < x)
def jZ (L:List Cl) (vals:Nat->Bool):Bool:=L.all fun c=>fF c vals
def Rows (w:World) (lv:Value) (L:List Cl):Prop:=∃ (a:Option Addr) (c b:Nat),lv=.slice a L.length c/\(0 < L.length->a=some ⟨b,0,none⟩)/\∀ i (hi:i < L.length),∃ (ai:Option Addr) (ci bi:Nat),w.cell? ⟨b,i,none⟩=some (.slice ai (L[i]).length ci)/\(0 < (L[i]).length->ai=some ⟨bi,0,none⟩)/\∀ j (hj:j < (L[i]).length),w.cell? ⟨bi,j,none⟩=some (.int .i64 (L[i])[j])
def Jk (w:World) (lv:Value) (L:List Cl) (off:Nat):Prop:=∃ (a:Option Addr) (c b:Nat),lv=.slice a L.length c/\(0 < L.length->a=some ⟨b,off,none⟩)/\∀ i (hi:i < L.length),∃ (ai:Option Addr) (ci bi:Nat),w.cell? ⟨b,off + i,none⟩=some (.slice ai (L[i]).length ci)/\(0 < (L[i]).length->ai=some ⟨bi,0,none⟩)/\∀ j (hj:j < (L[i]).length),w.cell? ⟨bi,j,none⟩=some (.int .i64 (L[i])[j])
theorem Rows.off {w:World} {lv:Value} {L:List Cl} (h:Rows w lv L):Jk w lv L 0:=by
 obtain ⟨a,c,b,h1,h2,h3⟩:=h;exact ⟨a,c,b,h1,h2,fun i hi=>by rw [Nat.zero_add];exact h3 i hi⟩
theorem zD (w:World) (lv:Value) (L:List Cl) (off n g og vc:Nat) (vals:Nat->Bool) (hL:Jk w lv L off) (hz:∀ c ∈ L,∀ x ∈ c,jo n x) (hl:∀ c ∈ L,c.length <= 20001) (hm:L.length <= 20001) (hn:n <= 50) (hv:∀ v,v < n->w.cell? ⟨g,og + v,none⟩=some (.bool (vals v))):
  Calls Tryz.prog 24 #[lv,.slice (some ⟨g,og,none⟩) n vc] w fun e w'=>e=.returned (.bool (jZ L vals))/\Below w.heap.size w w':=by
 obtain ⟨la,lc,lb,rfl,hla,hrow⟩:=hL;have HR:=hide hrow;have HZ:=hide hz;have HL:=hide hl;have HV:=hide hv;clear hrow hz hl hv;go_enter Tryz.func24,Tryz.ntmps24
 go_wp2;go_loopw [5] (fun i wr=>∃ k:Nat,k <= L.length/\i=.int .i64 k/\Hid ((L.take k).all (fun c=>fF c vals)=true)/\∃ j,w.drewN j=wr) (fun i _=>L.length - (intOf i).toNat)
 case atStart=>exact ⟨0,Nat.zero_le _,rfl,rfl,0,rfl⟩
 case round=>
  obtain ⟨k,hk,rfl,ha,j0,rfl⟩:=hrel;by_cases hlt:k < L.length
  ·obtain ⟨ai,ci,bi,e1,e2,e3⟩:=HR.out k hlt;have ea:=hla (by omega)
   subst ea;clear hla;have hcl:=HL.out _ (List.getElem_mem hlt);have HCZ:Hid (∀ x ∈ L[k],jo n x):=HZ.out _ (List.getElem_mem hlt);have E3:=hide e3;have HT:Hid ((L.take (k + 1)).all (fun c=>fF c vals)=fF L[k] vals):=by
    unfold Hid;rw [List.take_succ_eq_append_getElem hlt,List.all_append,ha.out];simp
   have HF:Hid (fF L[k] vals=false->jZ L vals=false):=fun h=>by
    unfold jZ;rw [List.all_eq_false];exact ⟨_,List.getElem_mem hlt,by simpa using h⟩
   clear e3;generalize L[k]=c at *
   go_wp2;go_loopw [6,7] (fun sm i wr=>∃ q:Nat,q <= c.length/\i=.int .i64 q/\sm=.bool (fF (c.take q) vals)/\∃ j,w.drewN j=wr) (fun _ i _=>c.length - (intOf i).toNat)
   case atStart=>exact ⟨0,Nat.zero_le _,rfl,rfl,j0,rfl⟩
   case round=>
    obtain ⟨q,hq,rfl,rfl,j1,rfl⟩:=hrel;by_cases WG:q < c.length
    ·have ei:=e2 (by omega)
     subst ei;have e4:=E3.out q WG;obtain ⟨hx0,hx1⟩:=HCZ.out _ (List.getElem_mem WG)
     have HQ:Hid (fF (c.take (q + 1)) vals=(fF (c.take q) vals || (vals ((c[q]).natAbs - 1) == decide (0 < c[q])))):=by
      unfold Hid fF;rw [List.take_succ_eq_append_getElem WG,List.any_append];simp
     have e5:=HV.out ((c[q]).natAbs - 1) (by omega)
     generalize c[q]=x at *
     generalize fF (c.take q) vals=sm at *
     have hd:∀ b:Bool,b=decide (0 < x)->(Value.bool (sm || (vals (x.natAbs - 1) == b)))=Value.bool (fF (c.take (q + 1)) vals):=fun b h=>by rw [HQ.out,h]
     by_cases hneg:x < 0
     ·have w1:IntKind.i64.wrap (-x)=-x:=by rw [IntKind.wrap_i64];omega
      have w2:IntKind.i64.wrap (-x - 1)=((x.natAbs - 1:Nat):Int):=by rw [IntKind.wrap_i64];omega
      have i3:x.natAbs - 1 < n:=by omega
      have i4:¬ -x < 1:=by omega
      have i5:¬ (n:Int) < -x:=by omega
      have i6:¬ 0 < x:=by omega
      have hd2:=hd false (by simp;omega)
      go_wp2;cases sm
      ·go_region
       all_goals go_wp2
       all_goals go_roundw
       case rel=>exact ⟨q + 1,by omega,by go_num,(by first | exact hd2 | exact hd _ rfl | (rw [<- hd2];simp)),j1 + 1,rfl⟩
       case measure=>simp [intOf];omega
      ·go_region
       all_goals go_wp2
       all_goals go_roundw
       case rel=>exact ⟨q + 1,by omega,by go_num,(by first | exact hd2 | exact hd _ rfl | (rw [<- hd2];simp)),j1 + 1,rfl⟩
       case measure=>simp [intOf];omega
     ·have w2:IntKind.i64.wrap (x - 1)=((x.natAbs - 1:Nat):Int):=by rw [IntKind.wrap_i64];omega
      have i3:x.natAbs - 1 < n:=by omega
      have i4:¬ x < 1:=by omega
      have i5:¬ (n:Int) < x:=by omega
      have i6:0 < x:=by omega
      have hd2:=hd true (by simp;omega)
      go_wp2;cases sm
      ·go_region
       all_goals go_wp2
       all_goals go_roundw
       case rel=>exact ⟨q + 1,by omega,by go_num,(by first | exact hd2 | exact hd _ rfl | (rw [<- hd2];simp)),j1 + 1,rfl⟩
       case measure=>simp [intOf];omega
      ·go_region
       all_goals go_wp2
       all_goals go_roundw
       case rel=>exact ⟨q + 1,by omega,by go_num,(by first | exact hd2 | exact hd _ rfl | (rw [<- hd2];simp)),j1 + 1,rfl⟩
       case measure=>simp [intOf];omega
    ·have e:q=c.length:=by omega
     subst e;rw [List.take_length];cases hcm:fF c vals
     ·have E:=hide (HF.out hcm);go_wp2;go_ret;exact ⟨by rw [E.out];rfl,mU w j1⟩
     ·have E:Hid ((L.take (k + 1)).all (fun c=>fF c vals)=true):=HT.out.trans hcm
      go_wp2;go_roundw
      case rel=>exact ⟨k + 1,by omega,by go_num,E,j1,rfl⟩
      case measure=>simp [intOf];omega
  ·have e:k=L.length:=by omega
   subst e;have E:Hid (jZ L vals=true):=by
    have:=ha.out;rw [List.take_length] at this;exact this
   go_wp2;go_ret
   exact ⟨by rw [E.out];rfl,mU w j0⟩
theorem zF (w:World) (lv:Value) (L:List Cl) (n g:Nat) (vals:Nat->Bool) (hL:Rows w lv L) (hz:∀ c ∈ L,∀ x ∈ c,jo n x) (hl:∀ c ∈ L,c.length <= 20001) (hm:L.length <= 20001) (hn:n <= 50) (hv:∀ v,v < n->w.cell? ⟨g,v,none⟩=some (.bool (vals v))):
  Calls Tryz.prog 24 #[lv,.slice (some ⟨g,0,none⟩) n n] w fun e w'=>e=.returned (.bool (jZ L vals))/\Below w.heap.size w w':=
 zD w lv L 0 n g 0 n vals hL.off hz hl hm hn fun v hv'=>by rw [Nat.zero_add];exact hv v hv'
end
section
open Go Rd Go.Proofs.YtceahffmenbibaaGreatDoor.So
def tx1:ByteArray:=⟨#[112,32,99,110,102,32,50,32,50,10,49,32,45,50,32,48,10,50,32,48,10]⟩
def VC:ByteArray:=⟨#[112,32,99,110,102,32,49,32,50,10,49,32,48,10,45,49,32,48,10]⟩
def tx3:ByteArray:=⟨#[112,32,99,110,102,32,49,32,49,10,49,32,48,10]⟩
def VX:ByteArray:=⟨#[48,10]⟩
theorem rd1:iQ tx1.data.toList=(((2:Nat):Int),[[1,-2],[2]],0):=by decide +kernel
theorem rd2:iQ VC.data.toList=(((1:Nat):Int),[[1],[-1]],0):=by decide +kernel
theorem rd3:iQ tx3.data.toList=(((1:Nat):Int),[[1]],0):=by decide +kernel
theorem VP:bH [[1],[-1]] []:=by
 left
 intro M hM _ hS;have h1:M 1:=by
  rcases hS [1] (by simp) with ⟨l,hl,h⟩ | ⟨a,ha,b,hb,hab,_⟩
  ·simp at hl;subst hl;exact h
  ·simp at ha hb;rw [ha,hb] at hab;exact absurd rfl hab
 have h2:M (-1):=by
  rcases hS [-1] (by simp) with ⟨l,hl,h⟩ | ⟨a,ha,b,hb,hab,_⟩
  ·simp at hl;subst hl;exact h
  ·simp at ha hb;rw [ha,hb] at hab;exact absurd rfl hab
 exact hM 1 h1 h2
theorem Vw:¬ bH [[1]] []:=fun h=>by
 have hs:Sat (fun _=>true) [[1]]:=fun c hc=>by
  simp at hc;subst hc;exact ⟨1,by simp,by decide,by decide⟩
 obtain ⟨t',hs'⟩:=sH hs (by intro d hd l hl;simp at hd;subst hd;simp at hl;subst hl;decide) (by intro l hl;cases hl) h
 obtain ⟨l,hl,_⟩:=hs' [] (by simp)
 cases hl
theorem in1:∀ c ∈ ([[1,-2],[2]]:List Cl),∀ x ∈ c,jo 2 x:=by
 intro c hc x hx;unfold jo;simp at hc
 rcases hc with rfl | rfl <;> simp at hx
 ·rcases hx with rfl | rfl <;> decide
 ·subst hx;decide
theorem in2:∀ c ∈ ([[1],[-1]]:List Cl),∀ x ∈ c,jo 1 x:=by
 intro c hc x hx;unfold jo;simp at hc
 rcases hc with rfl | rfl <;> simp at hx <;> subst hx <;> decide
theorem sat1:∃ t,Sat t [[1,-2],[2]]:=⟨fun _=>true,fun c hc=>by
 simp at hc
 rcases hc with rfl | rfl
 ·exact ⟨1,by simp,by decide,by decide⟩
 ·exact ⟨2,by simp,by decide,by decide⟩⟩
theorem VB:¬ ∃ t,Sat t [[1],[-1]]:=fun ⟨t,h⟩=>by
 obtain ⟨l,hl,_,h1⟩:=h [1] (by simp)
 obtain ⟨l',hl',_,h2⟩:=h [-1] (by simp)
 simp at hl hl';subst hl;subst hl';have e1:t 1=true:=h1;have e2:t 1=false:=h2;rw [e1] at e2;cases e2
theorem Yt {vals:Nat->Bool} (h:qc [[1,-2],[2]] vals):vals 0=true/\vals 1=true:=by
 obtain ⟨l,hl,_,h2⟩:=h [2] (by simp)
 simp at hl;subst hl;have e2:vals 1=true:=h2;obtain ⟨l,hl,_,h1⟩:=h [1,-2] (by simp)
 simp at hl
 rcases hl with rfl | rfl
 ·exact ⟨h1,e2⟩
 ·have:vals 1=false:=h1;rw [this] at e2;cases e2
end
section
open Go Go.RowKit Go.Deep Rd Go.Proofs.YtceahffmenbibaaGreatDoor.So
theorem cell_later {w w':World} {p:Addr} {v:Value} (h:w.cell? p=some v) (hb:Below w.heap.size w w'):w'.cell? p=some v:=by
 rw [hb.cell (p:=p) (block_lt_of_cell h)];exact h
def Uv (w0:World) (g a:Nat) (w:World):Prop:=w.cell? ⟨a,0,none⟩=some (.int .i64 1)/\w.cell? ⟨a,1,none⟩=some (.slice (some ⟨g,0,none⟩) 2 2)/\w.cell? ⟨g,0,none⟩=some (.bool true)/\w.cell? ⟨g,1,none⟩=some (.bool true)/\Below w0.heap.size w0 w
theorem Uv.later {w0 w w':World} {g a:Nat} (h:Uv w0 g a w) (hb:Below w.heap.size w w'):Uv w0 g a w':=
 ⟨cell_later h.1 hb,cell_later h.2.1 hb,cell_later h.2.2.1 hb,cell_later h.2.2.2.1 hb,h.2.2.2.2.trans (hb.mono h.2.2.2.2.size)⟩
theorem Uv.jK {w0 w:World} {g a:Nat} (h:Uv w0 g a w):Below w0.heap.size w0 w:=h.2.2.2.2
theorem three {w:World} {x y z:Value} {t:TypeId}:(w.alloc (.cells #[x,y,z] t)).cell? ⟨w.heap.size,0,none⟩=some x/\(w.alloc (.cells #[x,y,z] t)).cell? ⟨w.heap.size,1,none⟩=some y/\Below w.heap.size w (w.alloc (.cells #[x,y,z] t)):=by
 have r:(w.alloc (.cells #[x,y,z] t)).rowIs w.heap.size t 3 (fun i=>if i=0 then x else if i=1 then y else z):=World.rowIs_alloc w _ _ _ fun i hi=>match i,hi with
  | 0,_=>rfl
  | 1,_=>rfl
  | 2,_=>rfl
 exact ⟨r.cell (i:=0) (by omega),r.cell (i:=1) (by omega),(Below.refl _ _).alloc (Nat.le_refl _) _⟩
theorem Vz {w0 w:World} {g:Nat} {p:Value} {t:TypeId} (c0:w.cell? ⟨g,0,none⟩=some (.bool true)) (c1:w.cell? ⟨g,1,none⟩=some (.bool true)) (hb:Below w0.heap.size w0 w):Uv w0 g w.heap.size (w.alloc (.cells #[.int .i64 1,.slice (some ⟨g,0,none⟩) 2 2,p] t)):=by
 obtain ⟨h1,h2,h3⟩:=three (w:=w) (x:=.int .i64 1) (y:=.slice (some ⟨g,0,none⟩) 2 2) (z:=p) (t:=t);exact ⟨h1,h2,cell_later c0 h3,cell_later c1 h3,hb.trans (h3.mono hb.size)⟩
theorem Js (Sr:World->Prop) (hSr:∀ {a b:World},Sr a->Below a.heap.size a b->Sr b)
  (hS1:∀ W,Sr W->Calls Tryz.prog 17 #[.string tx1,.int .i64 (-1)] W fun e w'=>∃ (g:Nat) (p:ByteArray),e=.returned (.tuple #[.agg #[.int .i64 1,.slice (some ⟨g,0,none⟩) 2 2,.string p],.int .i64 0])/\w'.cell? ⟨g,0,none⟩=some (.bool true)/\w'.cell? ⟨g,1,none⟩=some (.bool true)/\Below W.heap.size W w')
  (hS2:∀ W,Sr W->Calls Tryz.prog 17 #[.string VC,.int .i64 (-1)] W fun e w'=>∃ (p:ByteArray),e=.returned (.tuple #[.agg #[.int .i64 2,.slice none 0 0,.string p],.int .i64 0])/\Below W.heap.size W w')
  (hC2:∀ W,Sr W->Calls Tryz.prog 20 #[.string VC,.string VX] W fun e w'=>e=.returned (.tuple #[.int .i64 1,.int .i64 0])/\Below W.heap.size W w')
  (hC3:∀ W,Sr W->Calls Tryz.prog 20 #[.string tx3,.string VX] W fun e w'=>e=.returned (.tuple #[.int .i64 1,.int .i64 4])/\Below W.heap.size W w')
  (w:World) (hw:Sr w):
  Calls Tryz.prog 16 #[] w fun e w'=>e=.returned (.bool true)/\Below w.heap.size w w':=by
 have Q1:=hide (hS1 w hw);have Q2:Hid (∀ W,Below w.heap.size w W->Calls Tryz.prog 17 #[.string VC,.int .i64 (-1)] W fun e w'=>∃ (p:ByteArray),e=.returned (.tuple #[.agg #[.int .i64 2,.slice none 0 0,.string p],.int .i64 0])/\Below W.heap.size W w'):=fun W hb=>hS2 W (hSr hw hb)
 have Q3:Hid (∀ W,Below w.heap.size w W->Calls Tryz.prog 20 #[.string VC,.string VX] W fun e w'=>e=.returned (.tuple #[.int .i64 1,.int .i64 0])/\Below W.heap.size W w'):=fun W hb=>hC2 W (hSr hw hb)
 have Q4:Hid (∀ W,Below w.heap.size w W->Calls Tryz.prog 20 #[.string tx3,.string VX] W fun e w'=>e=.returned (.tuple #[.int .i64 1,.int .i64 4])/\Below W.heap.size W w'):=fun W hb=>hC3 W (hSr hw hb)
 clear hS1 hS2 hC2 hC3 hw hSr;unfold tx1 at Q1;unfold VC at Q2 Q3;unfold tx3 at Q4;unfold VX at Q3 Q4;go_enter Tryz.func16,Tryz.ntmps16
 go_upto_region 1 with fail
 go_upto_region 2 with (go_at_call 17;(with_reducible refine Q1.out.mono ?_);rintro e1 w1 ⟨g,p,rfl,c0,c1,hb1⟩;have B1:=hide hb1;clear hb1 Q1;simp only [])
 have A1:=hide (Vz (w0:=w) (p:=.string p) (t:=28) c0 c1 B1.out);clear c0 c1 B1;generalize w1.alloc (.cells #[.int .i64 1,.slice (some ⟨g,0,none⟩) 2 2,.string p] 28)=w2 at *
 generalize w1.heap.size=a at *
 go_upto_region 3 with (go_at_call 17;(with_reducible refine (Q2.out _ A1.out.jK).mono ?_);rintro e3 w3 ⟨p3,rfl,hb3⟩;have A3:=hide (A1.out.later hb3);clear hb3 A1 Q2;simp only [])
 have A4:Hid (Uv w g a (w3.alloc (.cells #[.int .i64 2,.slice none 0 0,.string p3] 28))/\(w3.alloc (.cells #[.int .i64 2,.slice none 0 0,.string p3] 28)).cell? ⟨w3.heap.size,0,none⟩=some (.int .i64 2)):=⟨A3.out.later three.2.2,three.1⟩;clear A3;generalize w3.alloc (.cells #[.int .i64 2,.slice none 0 0,.string p3] 28)=w4 at *
 generalize w3.heap.size=b at *
 go_upto_region 4 with (go_at_call 20;(with_reducible refine (Q3.out _ A4.out.1.jK).mono ?_);rintro e5 w5 ⟨rfl,hb5⟩;have A5:Hid (Uv w g a w5/\w5.cell? ⟨b,0,none⟩=some (.int .i64 2)):=⟨A4.out.1.later hb5,cell_later A4.out.2 hb5⟩;clear hb5 A4 Q3;simp only [])
 go_upto_region 5 with (go_at_call 20;(with_reducible refine (Q4.out _ A5.out.1.jK).mono ?_);rintro e6 w6 ⟨rfl,hb6⟩;have A6:Hid (Uv w g a w6/\w6.cell? ⟨b,0,none⟩=some (.int .i64 2)):=⟨A5.out.1.later hb6,cell_later A5.out.2 hb6⟩;clear hb6 A5 Q4;simp only [])
 obtain ⟨⟨x0,x1,x2,x3,x4⟩,x5⟩:=A6.out;have HX:=hide x4;clear x4 A6;go_wp2;go_ret;exact ⟨rfl,HX.out⟩
end
section
open Go Go.RowKit Go.Deep Rd Go.Proofs.YtceahffmenbibaaGreatDoor.So
theorem Sa {L:List Cl} {n:Nat} {vals:Nat->Bool} (hz:∀ c ∈ L,∀ x ∈ c,jo n x) (h:qc L vals):jZ L vals=true:=by
 unfold jZ;rw [List.all_eq_true];intro c hc;obtain ⟨l,hl,h0,ht⟩:=h c hc;unfold fF;rw [List.any_eq_true];exact ⟨l,hl,by simpa using ht⟩
theorem NZ {L:List Cl} {vals:Nat->Bool} (hz:∀ c ∈ L,∀ x ∈ c,x ≠ 0) (h:jZ L vals=true):qc L vals:=fun c hc=>by
 have:=List.all_eq_true.1 h c hc;obtain ⟨l,hl,ht⟩:=List.any_eq_true.1 this;exact ⟨l,hl,hz c hc l hl,by simpa using ht⟩
theorem Nb {Z:Nat->Prop} {w:World} {u:Value} {L:List Cl} (h:Mg Z w u L):Rows w u L:=by
 obtain ⟨a,c,b,h1,h2,h3⟩:=h;refine ⟨a,c,b,h1,fun h=>(h2 h).1,fun i hi=>?_⟩
 obtain ⟨ai,ci,bi,g1,g2,_,_,g5⟩:=h3 i hi;exact ⟨ai,ci,bi,g1,g2,g5⟩
def ShN (w0:World) (p:ByteArray) (a:Nat) (w:World):Prop:=w.cell? ⟨a,0,none⟩=some (.int .i64 2)/\w.cell? ⟨a,1,none⟩=some (.slice none 0 0)/\w.cell? ⟨a,2,none⟩=some (.string p)/\Below w0.heap.size w0 w
theorem ShN.jK {w0 w:World} {p:ByteArray} {a:Nat} (h:ShN w0 p a w):Below w0.heap.size w0 w:=h.2.2.2
theorem ShN.later {w0 w w':World} {p:ByteArray} {a:Nat} (h:ShN w0 p a w) (hb:Below w.heap.size w w'):ShN w0 p a w':=
 ⟨cell_later h.1 hb,cell_later h.2.1 hb,cell_later h.2.2.1 hb,h.2.2.2.trans (hb.mono h.2.2.2.size)⟩
theorem VI {w0 w:World} {p:ByteArray} {t:TypeId} (hb:Below w0.heap.size w0 w):ShN w0 p w.heap.size (w.alloc (.cells #[.int .i64 2,.slice none 0 0,.string p] t)):=by
 have r:(w.alloc (.cells #[.int .i64 2,.slice none 0 0,.string p] t)).rowIs w.heap.size t 3 (fun i=>if i=0 then .int .i64 2 else if i=1 then .slice none 0 0 else .string p):=World.rowIs_alloc w _ _ _ fun i hi=>match i,hi with
  | 0,_=>rfl
  | 1,_=>rfl
  | 2,_=>rfl
 exact ⟨r.cell (i:=0) (by omega),r.cell (i:=1) (by omega),r.cell (i:=2) (by omega),hb.trans (three.2.2.mono hb.size)⟩
def ShM (w0:World) (n g:Nat) (vals:Nat->Bool) (a:Nat) (w:World):Prop:=w.cell? ⟨a,0,none⟩=some (.int .i64 1)/\w.cell? ⟨a,1,none⟩=some (.slice (some ⟨g,0,none⟩) n n)/\(∀ v,v < n->w.cell? ⟨g,v,none⟩=some (.bool (vals v)))/\Below w0.heap.size w0 w
theorem ShM.jK {w0 w:World} {n g:Nat} {vals:Nat->Bool} {a:Nat} (h:ShM w0 n g vals a w):Below w0.heap.size w0 w:=h.2.2.2
theorem ShM.later {w0 w w':World} {n g:Nat} {vals:Nat->Bool} {a:Nat} (h:ShM w0 n g vals a w) (hb:Below w.heap.size w w'):ShM w0 n g vals a w':=
 ⟨cell_later h.1 hb,cell_later h.2.1 hb,fun v hv=>cell_later (h.2.2.1 v hv) hb,h.2.2.2.trans (hb.mono h.2.2.2.size)⟩
theorem VJ {w0 w:World} {p:Value} {n g:Nat} {vals:Nat->Bool} {t:TypeId} (hv:∀ v,v < n->w.cell? ⟨g,v,none⟩=some (.bool (vals v))) (hb:Below w0.heap.size w0 w):ShM w0 n g vals w.heap.size (w.alloc (.cells #[.int .i64 1,.slice (some ⟨g,0,none⟩) n n,p] t)):=by
 obtain ⟨h1,h2,h3⟩:=three (w:=w) (x:=.int .i64 1) (y:=.slice (some ⟨g,0,none⟩) n n) (z:=p) (t:=t);exact ⟨h1,h2,fun v h=>cell_later (hv v h) h3,hb.trans (h3.mono hb.size)⟩
def Xq (L:List Cl) (w:World) (e:Ending) (w':World):Prop:=∃ b:Bool,e=.returned (.tuple #[.bool true,.bool b])/\(b=true↔∃ t,Sat t L)/\Below w.heap.size w w'
theorem MW (Sr:World->Prop) (hSr:∀ {a b:World},Sr a->Below a.heap.size a b->Sr b) {s:ByteArray} {n mx:Nat} {L:List Cl} (hn:n <= 50) (hz:∀ c ∈ L,∀ x ∈ c,jo n x) (hl:∀ c ∈ L,c.length <= 20001) (hm:L.length <= 20001)
  (hS:∀ W,Sr W->Calls Tryz.prog 17 #[.string s,.int .i64 (-1)] W fun e w'=>xO n L mx W e w')
  (hR:∀ W,Sr W->Calls Tryz.prog 18 #[.string s] W fun e w'=>∃ a c,e=.returned (.tuple #[.int .i64 (n:Nat),.slice a L.length c,.int .i64 0])/\Rows w' (.slice a L.length c) L/\Below W.heap.size W w')
  (hC:∀ p:List UInt8,xY n L mx p->∀ W,Sr W->Calls Tryz.prog 20 #[.string s,.string ⟨p.toArray⟩] W fun e w'=>e=.returned (.tuple #[.int .i64 (SS p:Nat),.int .i64 0])/\Below W.heap.size W w')
  (hmx:250 * mx + 2 <= 17592186044416) (w:World) (hw:Sr w):
  Calls Tryz.prog 19 #[.string s] w fun e w'=>Xq L w e w':=by
 have QS:=hide (hS w hw);have QR:Hid (∀ W,Below w.heap.size w W->Calls Tryz.prog 18 #[.string s] W fun e w'=>∃ a c,e=.returned (.tuple #[.int .i64 (n:Nat),.slice a L.length c,.int .i64 0])/\Rows w' (.slice a L.length c) L/\Below W.heap.size W w'):=fun W hb=>hR W (hSr hw hb)
 have QC:Hid (∀ p:List UInt8,xY n L mx p->∀ W,Below w.heap.size w W->Calls Tryz.prog 20 #[.string s,.string ⟨p.toArray⟩] W fun e w'=>e=.returned (.tuple #[.int .i64 (SS p:Nat),.int .i64 0])/\Below W.heap.size W w'):=fun p hp W hb=>hC p hp W (hSr hw hb)
 have QL:Hid (∀ p:List UInt8,xY n L mx p->∀ W,Calls Tryz.prog 21 #[.string ⟨p.toArray⟩] W fun e w'=>e=.returned (.int .i64 (SS p:Nat))/\Below W.heap.size W w'):=fun p hp W=>by
  refine Kt ⟨p.toArray⟩ W ?_;obtain ⟨_,_,_,_,_,_,h5⟩:=id hp;show p.length <= _
  unfold maxLen;omega
 have QM:Hid (∀ W (a:Option Addr) (c g:Nat) (vals:Nat->Bool),qc L vals->Rows W (.slice a L.length c) L->(∀ v,v < n->W.cell? ⟨g,v,none⟩=some (.bool (vals v)))->Calls Tryz.prog 24 #[.slice a L.length c,.slice (some ⟨g,0,none⟩) n n] W fun e w'=>e=.returned (.bool true)/\Below W.heap.size W w'):=fun W a c g vals hM hR hv=>by
  have:=zF W _ L n g vals hR hz hl hm hn hv;rw [Sa hz hM] at this;exact this
 have UN:Hid (∀ p,xY n L mx p->¬ ∃ t,Sat t L):=fun p hp=>nW hz hp
 clear hS hR hC hw hSr hz hl;go_enter Tryz.func19,Tryz.ntmps19
 go_upto_region 2 with (go_at_call 17;(with_reducible refine QS.out.mono ?_);rintro e1 w1 ⟨hb1,⟨p,rfl,hN⟩ | ⟨g,vals,p,rfl,hgs,hrow,hM⟩⟩ <;> (have B1:=hide hb1;clear hb1 QS;simp only []))
 ·have HN:=hide hN;clear hN;have A1:=hide (VI (p:=⟨p.toArray⟩) (t:=28) B1.out);have QL':=hide (QL.out p HN.out);have QC':=hide (QC.out p HN.out);generalize (⟨p.toArray⟩:ByteArray)=pt at *
  generalize w1.alloc (.cells #[.int .i64 2,.slice none 0 0,.string pt] 28)=w2 at *
  generalize w1.heap.size=a at *
  clear B1 QL QC;go_upto_region 3 with (go_at_call 18;(with_reducible refine (QR.out _ A1.out.jK).mono ?_);rintro e3 w3 ⟨la,lc,rfl,hR3,hb3⟩;have A3:=hide (A1.out.later hb3);clear hb3 hR3 A1 QR;simp only [])
  obtain ⟨y0,y1,y2,y3⟩:=A3.out;clear y3;go_wp2_with (first
   |(go_at_call 20;(with_reducible refine (QC'.out _ A3.out.jK).mono ?_);rintro e5 w5 ⟨rfl,hb5⟩;have A5:=hide (A3.out.later hb5);obtain ⟨z0,z1,z2,z3⟩:=A5.out;clear z3 hb5 y0 y1 y2 A3;simp only [])
   |(go_at_call 21;(with_reducible refine (QL'.out _).mono ?_);rintro e6 w6 ⟨rfl,hb6⟩;have A6:=hide (A5.out.later hb6);obtain ⟨x0,x1,x2,x3⟩:=A6.out;clear x3 hb6 z0 z1 z2 A5;simp only []))
  go_ret2
  exact ⟨false,rfl,⟨fun h=>(by cases h),fun h=>absurd h (UN.out p HN.out)⟩,A6.out.jK⟩
 ·have HM:=hide hM;have A1:=hide (VJ (p:=.string ⟨p⟩) (t:=28) (fun v hv=>hrow.cell hv) B1.out)
  clear hM hrow hgs B1 QL QC UN;generalize w1.alloc (.cells #[.int .i64 1,.slice (some ⟨g,0,none⟩) n n,.string ⟨p⟩] 28)=w2 at *
  generalize w1.heap.size=a at *
  go_upto_region 3 with (go_at_call 18;(with_reducible refine (QR.out _ A1.out.jK).mono ?_);rintro e3 w3 ⟨la,lc,rfl,hR3,hb3⟩;have A3:=hide (A1.out.later hb3);have R3:=hide hR3;clear hb3 hR3 A1 QR;simp only [])
  obtain ⟨y0,y1,y2,y3⟩:=A3.out;have Yg:=hide (QM.out w3 la lc g vals HM.out R3.out y2);clear y3 y2;go_wp2_with (go_at_call 24;(with_reducible refine Yg.out.mono ?_);rintro e5 w5 ⟨rfl,hb5⟩;have A5:=hide (A3.out.later hb5);clear hb5 y0 y1 A3 R3;simp only [])
  go_ret2
  exact ⟨true,rfl,⟨fun _=>⟨_,HM.out⟩,fun _=>rfl⟩,A5.out.jK⟩
end
section
open Go Go.RowKit Go.Deep Rd Go.Proofs.YtceahffmenbibaaGreatDoor.So
structure Txt (s:ByteArray) (n:Nat) (L:List Cl) (mx:Nat):Prop where
 rd:iQ s.data.toList=((n:Int),L,0)
 size:s.size <= maxLen
 n50:n <= 50
 inv:∀ c ∈ L,∀ x ∈ c,jo n x
 len:∀ c ∈ L,c.length <= 20001
 many:L.length <= 20001
 runs:Uw n L mx
 big:250 * mx + 2 <= 17592186044416
def tN (w:World):Prop:=mZ w/\nL w.heap.size w
theorem tN.later {w w':World} (h:tN w) (hb:Below w.heap.size w w'):tN w':=
 ⟨mZ.below h.1.2.2 hb h.1,(h.2.later hb).1,Nat.lt_of_lt_of_le h.2.2 hb.size⟩
theorem Ni {s:ByteArray} {n:Nat} {L:List Cl} {mx:Nat} (h:Txt s n L mx) (w:World) (hg:tN w):
  Calls Tryz.prog 18 #[.string s] w fun e w'=>∃ a c,e=.returned (.tuple #[.int .i64 (n:Nat),.slice a L.length c,.int .i64 0])/\Rows w' (.slice a L.length c) L/\Below w.heap.size w w':=by
 refine (vW s w h.size hg.1).mono ?_;rintro e w' ⟨hb,u,he,hl⟩;rw [Av,h.rd] at he hl;have hr:=Nb (Oe hl);obtain ⟨a,c,b,rfl,_⟩:=id hr;exact ⟨a,c,he,hr,hb⟩
end
end Kp
end Go.Proofs.YtceahffmenbibaaGreatDoor
