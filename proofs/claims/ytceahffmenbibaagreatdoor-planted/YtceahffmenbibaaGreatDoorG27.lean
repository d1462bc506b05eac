/- Ptid Cref9 Phld Uhld Pnew Unew Ustp Pchk Uchk. -/
import Derived.Test.YtceahffmenbibaaGreatDoorG24
import Derived.Laws.Tables
import Derived.Deep.CutRange
import Derived.Test.YtceahffmenbibaaGreatDoorG01
import Derived.Outline
import Derived.Test.YtceahffmenbibaaGreatDoorG13
import Derived.Test.YtceahffmenbibaaGreatDoorG25
import Derived.Test.YtceahffmenbibaaGreatDoorG17
import Derived.Test.YtceahffmenbibaaGreatDoorG26
import Derived.Test.YtceahffmenbibaaGreatDoorG12
set_option linter.unusedVariables false
set_option linter.unusedSimpArgs false
set_option maxHeartbeats 4000000
set_option maxRecDepth 100000
namespace Go.Proofs.YtceahffmenbibaaGreatDoor
namespace Rd
section
open Go Go.RowKit Go.Deep
attribute [local go_sem ↓] Go.wp_at_zero Go.wp_at_succ
theorem Tryz.Rq:Tryz.zeroCells134.toList=[.slice none 0 0,.map none,.int .i64 0,.int .u64 0,.int .u64 0] ++ List.replicate 128 (.slice none 0 0):=by kernel_rfl
def newRow (mb:Nat) (u:Key):List Value:=[.slice none 0 0,.map (some mb),.int .i64 0,.int .u64 (u.1:Int),.int .u64 (u.2:Int)] ++ List.replicate 128 (.slice none 0 0)
theorem Ki (mb:Nat) (u:Key) (i:Nat) (hi:i < 133):(newRow mb u)[i]? = some (gT (.slice none 0 0) mb 0 u (fun _=>.slice none 0 0) i):=by
 unfold newRow
 match i,hi with
 | 0,_=>rfl
 | 1,_=>rfl
 | 2,_=>rfl
 | 3,_=>rfl
 | 4,_=>rfl
 | k + 5,h=>
  rw [List.getElem?_append_right (by simp)]
  simp only [List.length_cons,List.length_nil,Nat.reduceAdd,Nat.add_sub_cancel];rw [List.getElem?_replicate,if_pos (by omega)]
  rfl
theorem Gw (mb:Nat) (u:Key):(newRow mb u).length=133:=by unfold newRow;simp
theorem di.fresh {B fs mb:Nat} {w:World} {u:Key} (hr:w.heap[fs]? = some (.cells (newRow mb u).toArray 134 (0,0))) (hm:gm w mb 0 (fun _=>none)) (hB:B <= fs) (hBm:B <= mb):di B fs w (.slice none 0 0) mb 0 u (fun _=>.slice none 0 0) [] (fun _=>[]) where
 row:=⟨_,hr,by simp [Gw],fun i hi=>by simpa using Ki mb u i hi⟩
 cls:=World.ownsRow_nil _ _ _ _
 map:=hm.congr fun s _=>rfl
 nO:=fun k _=>World.ownsRow_nil _ _ _ _
 apart:=fun k k' _ _ _=>.inl rfl
 fZ:=hB
 Ce:=hBm
end
section
open Go Go.RowKit Go.Deep
def UO (d:Nat):Bool:=(Lib.decDigits d == [UInt8.ofNat (48 + d)]) && decide (dM [UInt8.ofNat (48 + d)]=(d:Int))
theorem Kb:((List.range 10).all UO)=true:=by decide +kernel
def UI (d e:Nat):Bool:=!dN [UInt8.ofNat (48 + d),UInt8.ofNat (48 + e)] || above [UInt8.ofNat (48 + d),UInt8.ofNat (48 + e)] [53,48] || ((Lib.decDigits (10 * d + e) == [UInt8.ofNat (48 + d),UInt8.ofNat (48 + e)]) && decide (dM [UInt8.ofNat (48 + d),UInt8.ofNat (48 + e)]=((10 * d + e:Nat):Int)) && decide (10 * d + e <= 50))
theorem Jw:((List.range 10).all fun d=>(List.range 10).all fun e=>UI d e)=true:=by decide +kernel
theorem VA {v:Bs} (h:dN v=true) (ha:above v [53,48]=false):∃ V:Nat,V <= 50/\v=Lib.decDigits V/\dM v=(V:Int):=by
 have hl:=iN ha;obtain ⟨hd,hne⟩:=jO h
 match v,hl with
 | [],_=>exact absurd rfl hne
 | [a],_=>
  obtain ⟨d,hd1,rfl⟩:=jG (by simpa using hd)
  have:=List.all_eq_true.1 Kb d (List.mem_range.2 hd1);unfold UO at this;simp only [Bool.and_eq_true,beq_iff_eq,decide_eq_true_eq] at this;exact ⟨d,by omega,this.1.symm,this.2⟩
 | [a,b],_=>
  simp only [List.all_cons,List.all_nil,Bool.and_true,Bool.and_eq_true] at hd;obtain ⟨d,hd1,rfl⟩:=jG hd.1;obtain ⟨e,he1,rfl⟩:=jG hd.2;have:=List.all_eq_true.1 (List.all_eq_true.1 Jw d (List.mem_range.2 hd1)) e (List.mem_range.2 he1);unfold UI at this;rw [h,ha] at this;simp only [Bool.not_true,Bool.false_or,Bool.and_eq_true,beq_iff_eq,decide_eq_true_eq] at this;exact ⟨10 * d + e,this.2,this.1.1.symm,this.1.2⟩
 | a :: b :: c :: r,hl=>simp at hl
theorem yK (v:Bs) (T:List Bs) (h:iG v T=true):∀ (st:List (List Int) × List Int),(∀ c ∈ st.1,∀ l ∈ c,∃ t,jf v t=true/\l=dJ t)->(∀ l ∈ st.2,∃ t,jf v t=true/\l=dJ t)->
  (∀ c ∈ (T.foldl bM st).1,∀ l ∈ c,∃ t,jf v t=true/\l=dJ t)/\(∀ l ∈ (T.foldl bM st).2,∃ t,jf v t=true/\l=dJ t):=by
 induction T with
 | nil=>intro st h1 h2;exact ⟨h1,h2⟩
 | cons t r ih=>
  intro st h1 h2;simp only [iG,List.all_cons,Bool.and_eq_true] at h;refine ih h.2 (bM st t) ?_ ?_
  ·intro c hc;unfold bM at hc;split at hc
   ·rcases List.mem_append.1 hc with hc | hc
    ·exact h1 c hc
    ·simp at hc;rw [hc];exact h2
   ·exact h1 c hc
  ·intro l hl;unfold bM at hl;split at hl
   ·simp at hl
   ·rename_i hz
    rcases List.mem_append.1 hl with hl | hl
    ·exact h2 l hl
    ·simp at hl;have:=h.1;simp only [Bool.not_eq_true] at hz;rw [hz,Bool.false_or] at this;exact ⟨t,this,hl⟩
theorem Tv (T:List Bs):∀ (st:List (List Int) × List Int) (n:Nat),(∀ c ∈ st.1,c.length <= n)->st.2.length <= n->(∀ c ∈ (T.foldl bM st).1,c.length <= n + T.length)/\(T.foldl bM st).2.length <= n + T.length:=by
 induction T with
 | nil=>intro st n h1 h2;exact ⟨h1,h2⟩
 | cons t r ih=>
  intro st n h1 h2;have key:(∀ c ∈ (bM st t).1,c.length <= n + 1)/\(bM st t).2.length <= n + 1:=by
   unfold bM;split
   ·refine ⟨fun c hc=>?_,by simp⟩
    rcases List.mem_append.1 hc with hc | hc
    ·have:=h1 c hc;omega
    ·simp at hc;rw [hc];omega
   ·exact ⟨fun c hc=>by have:=h1 c hc;omega,by simp;omega⟩
  have:=ih (bM st t) (n + 1) key.1 key.2;simp only [List.foldl_cons,List.length_cons];exact ⟨fun c hc=>by have:=this.1 c hc;omega,by have:=this.2;omega⟩
theorem y8:∀ (l w:Bs),(dU w l).length <= l.length + 1
 | [],w=>by unfold dU;split <;> simp
 | c :: r,w=>by
  unfold dU;have:=y8 r;split
  ·split
   ·have:=this [];simp;omega
   ·have:=this [];simp;omega
  ·have:=this (w ++ [c]);simp;omega
theorem zR:∀ (f:Nat) {l v c r:Bs},lT f l=some (v,c,r)->r.length <= l.length
 | 0,l,v,c,r,h=>by simp [lT] at h
 | f + 1,l,v,c,r,h=>by
  unfold lT at h;split at h
  ·split at h
   ·have:=zR f h;have h2:(rest l).length <= l.length:=by unfold rest;simp
    omega
   ·obtain ⟨x,hx,e⟩:=Option.map_eq_some_iff.1 h;simp only [Prod.mk.injEq] at e;rw [<- e.2.2];unfold rest;simp
  ·cases h
theorem Nj {s:Bs} (h:(iQ s).2.2=0):∃ V:Nat,V <= 50/\(iQ s).1=(V:Int)/\(∀ c ∈ (iQ s).2.1,∀ l ∈ c,oP l)/\(iQ s).2.1.length <= 20001/\∀ c ∈ (iQ s).2.1,c.length <= 20001:=by
 unfold iQ at h ⊢;split at h
 ·simp at h
 ·rename_i hs;rw [if_neg hs];split at h
  ·simp at h
  ·rename_i v c r hh;have hv:=zQ _ hh;have hr:=zR _ hh;unfold body at h ⊢;split at h
   ·rename_i ho;rw [if_pos ho];split at h
    ·rename_i hc;rw [if_pos hc];split at h
     ·simp at h
     ·rename_i ha;rw [if_neg ha];simp only [Bool.or_eq_true,not_or,Bool.not_eq_true] at ha;obtain ⟨V,hV,e1,e2⟩:=VA hv ha.1;have tl:(toks r).length <= 20001:=by have:=y8 r [];unfold toks;omega
      have cl:=(xE (toks r)).1;refine ⟨V,hV,e2,?_,Nat.le_trans cl tl,?_⟩
      ·intro d hd l hl;obtain ⟨t,ht,rfl⟩:=(yK v (toks r) ho ([],[]) (by simp) (by simp)).1 d hd l hl
       rw [e1] at ht;exact YW hV ht
      ·intro d hd;have:=(Tv (toks r) ([],[]) 0 (by simp) (by simp)).1 d hd
       omega
    ·simp at h
   ·simp at h
end
section
open Go Go.RowKit Go.Deep
attribute [local go_sem ↓] Go.wp_at_zero Go.wp_at_succ
variable {B sb N:Nat} {L:List Cl} {c:Cl} {w w':World}
theorem Qc (es:List aX) (s:Key):(rU es s).length <= es.length + 1:=by
 unfold rU;split <;> simp
theorem Pt (g:Bool) (s f:Key) (hs:s.ok) (w:World):
  Calls Tryz.prog 43 #[vO g s f] w fun e w'=>e=.returned (.bool (!g && mR s))/\Below w.heap.size w w':=by
 have QE:=hide (fun V=>ou s V hs)
 unfold aK at QE;unfold vO;obtain ⟨em,hem⟩:∃ em,mR s=em:=⟨_,rfl⟩;rw [hem] at QE ⊢;clear hem;go_enter Tryz.func43,Tryz.ntmps43
 cases g with
 | true=>
  have BW:Hid (Below w.heap.size w (w.alloc (.cells #[.bool true,.int .u64 (s.1:Int),.int .u64 (s.2:Int),.int .u64 (f.1:Int),.int .u64 (f.2:Int)] 86))):=(Below.refl _ _).alloc (Nat.le_refl _) _;go_wp2;go_ret;exact ⟨rfl,BW.out⟩
 | false=>
  have BW:Hid (Below w.heap.size w (w.alloc (.cells #[.bool false,.int .u64 (s.1:Int),.int .u64 (s.2:Int),.int .u64 (f.1:Int),.int .u64 (f.2:Int)] 86))):=(Below.refl _ _).alloc (Nat.le_refl _) _;go_wp2_with fail
  with_reducible refine (QE.out _).mono ?_
  rintro e6 w6 ⟨rfl,hb6⟩;simp only [];have B6:Hid (Below w.heap.size w w6):=BW.out.trans (hb6.mono (by simp))
  clear hb6;go_wp2;go_ret;exact ⟨by simp,B6.out⟩
end
section
open Go Go.RowKit Go.Deep
attribute [local go_sem ↓] Go.wp_at_zero Go.wp_at_succ
def mY (B sb:Nat) (L:List Cl) (N:Nat) (w:World):Prop:=
 ∃ (cv:Value) (mb:Nat) (gone:Int) (u:Key) (wv:Nat->Value) (es:List aX) (wl:Nat->List Nat),di B sb w cv mb gone u wv es wl/\tO es wl u L/\es.length <= N/\-(N:Int) <= gone/\gone <= (N:Int)/\L.length <= N/\nC es
variable {B sb N:Nat} {L:List Cl} {c:Cl} {w w':World}
theorem mY.later (h:mY B sb L N w) (hb:Below w.heap.size w w'):mY B sb L N w':=by
 obtain ⟨cv,mb,gone,u,wv,es,wl,h1,r⟩:=h;exact ⟨cv,mb,gone,u,wv,es,wl,h1.later hb,r⟩
theorem mY.bsize (h:mY B sb L N w):B <= w.heap.size:=by
 obtain ⟨cv,mb,gone,u,wv,es,wl,h1,r⟩:=h;exact h1.bsize
theorem Su {c:Cl} (h:c.length <= 1) {a b:Int} (ha:a ∈ c) (hb:b ∈ c):a=b:=by
 cases c with
 | nil=>cases ha
 | cons x r=>
  cases r with
  | nil=>
   rw [List.mem_singleton] at ha hb;rw [ha,hb]
  | cons y r=>simp at h
theorem Uh {c:Cl} (hc:∀ l ∈ c,oP l) (h1:c.length <= 1):¬ 2 <= (setOf c).size:=fun h=>by
 obtain ⟨a,b,hab,ha,hb⟩:=size_two (o5 hc) h;have z:=fun x hx=>vg (hc x hx)
 rw [has_setOf z] at ha hb;exact hab (Su h1 (of_decide_eq_true ha) (of_decide_eq_true hb))
theorem nC.add {es:List aX} {s:Key} (h:nC es) (hs:¬ 2 <= s.size):nC (rU es s):=by
 intro e he;unfold rU at he;split at he
 ·rcases List.mem_append.1 he with he | he
  ·exact h e he
  ·rw [List.mem_singleton.1 he];simpa [xg] using hs
 ·rename_i i hl;obtain ⟨hi,_⟩:=jF hl;obtain ⟨j,hj,rfl⟩:=List.mem_iff_getElem.1 he;have hj':j < es.length:=by simpa using hj
  have:=h _ (List.getElem_mem hj');rw [List.getElem_modify];split <;> exact this
theorem add_one (h:mY B sb L N w) (hT:nL B w) (hc:∀ l ∈ c,oP l) (h1:c.length <= 1) (hN:N <= 274877906944):
  Calls Tryz.prog 68 #[.pointer (some ⟨sb,0,none⟩),aK (setOf c)] w fun e w'=>e=.returned (.tuple #[])/\Below B w w'/\aA w w'/\mY B sb (L ++ [c]) (N + 1) w':=by
 obtain ⟨cv,mb,gone,u,wv,es,wl,h1,h2,h3,h4,h5,h6,h7⟩:=h;refine (vz (setOf c) w (o5 hc) h2.nP.ok (by omega) (fun k hk=>Nat.le_trans (h2.qg.len hk) (by omega)) ⟨by omega,by omega⟩ (fun e he=>by rw [h2.cnt e he];exact Nat.le_trans List.countP_le_length (by omega)) h1 hT).mono ?_
 rintro e w' ⟨q1,q2,q3,cv',wv',g',q4,q5⟩;refine ⟨q1,q2,q3,cv',mb,g',_,wv',_,_,q5,h2.add hc,Nat.le_trans (Qc _ _) (by omega),?_,?_,by simp;omega,h7.add (Uh hc (by assumption))⟩
 ·rcases q4 with e | e <;> rw [e] <;> omega
 ·rcases q4 with e | e <;> rw [e] <;> omega
theorem Qb (h:mY B sb L N w) (hT:nL B w) (hN:N <= 274877906944):
  Calls Tryz.prog 68 #[.pointer (some ⟨sb,0,none⟩),aK (0,0)] w fun e w'=>e=.returned (.tuple #[])/\Below B w w'/\aA w w'/\mY B sb (L ++ [[]]) (N + 1) w':=
 add_one (c:=[]) h hT (by intro l hl;cases hl) (by simp) hN
theorem Gi (h:mY B sb L N w) (hT:nL B w) (hN:N <= 274877906944):
  Calls Tryz.prog 77 #[.pointer (some ⟨sb,0,none⟩),aK (0,0),aK (0,0)] w fun e w'=>∃ b,e=.returned (.bool b)/\Below B w w'/\aA w w'/\mY B sb L N w'/\(b=true↔bH L []):=by
 obtain ⟨cv,mb,gone,u,wv,es,wl,h1,h2,h3,h4,h5,h6,h7⟩:=h;refine (Bh [] w (by intro l hl;cases hl) (by omega) h1 hT h2 h7 rfl).mono ?_
 rintro e w' ⟨b,wv',es',iO,q1,q2,q3,q4,q5,q6,q7⟩;exact ⟨b,q1,q2,q3,⟨cv,mb,gone,u,wv',es',iO,q4,h2.same q5 q6,by rw [qU q5];exact h3,h4,h5,h6,h7.sigs q5⟩,q7⟩
theorem JD (h:mY B sb L N w) (hT:nL B w) (hN:N <= 274877906944):
  Calls Tryz.prog 42 #[.pointer (some ⟨sb,0,none⟩),vO false (0,0) (0,0)] w fun e w'=>∃ b,e=.returned (.bool b)/\Below B w w'/\aA w w'/\(b=true↔bH L []):=by
 have HH:=hide h;have HT:=hide hT;have hB:=h.bsize;have QI:Hid (∀ V,Below w.heap.size w V->Calls Tryz.prog 77 #[.pointer (some ⟨sb,0,none⟩),.agg #[.int .u64 0,.int .u64 0],.agg #[.int .u64 0,.int .u64 0]] V fun e w'=>∃ b,e=.returned (.bool b)/\Hid (Below B w w'/\aA V w'/\mY B sb L N w'/\nL B w'/\(b=true↔bH L []))):=fun V hV=>by
  have T:=HT.out.later (hV.mono hB);refine (Gi (HH.out.later hV) T hN).mono ?_;rintro e w' ⟨b,q1,q2,q3,q4,q5⟩;exact ⟨b,q1,(hV.mono hB).trans q2,q3,q4,T.later q2,q5⟩
 have QA:Hid (∀ V,mY B sb L N V->nL B V->Calls Tryz.prog 68 #[.pointer (some ⟨sb,0,none⟩),.agg #[.int .u64 0,.int .u64 0]] V fun e w'=>e=.returned (.tuple #[])/\Below B V w'/\aA V w'/\mY B sb (L ++ [[]]) (N + 1) w'):=fun V h1 h2=>Qb h1 h2 hN
 unfold vO;clear h hT;go_enter Tryz.func42,Tryz.ntmps42
 go_upto_region 1 with fail
 obtain ⟨W,hWd⟩:∃ W,W=w.alloc (Obj.cells #[.bool false,.int .u64 0,.int .u64 0,.int .u64 0,.int .u64 0] 86):=⟨_,rfl⟩;have BW:Hid (Below w.heap.size w W):=by rw [hWd];exact (Below.refl _ _).alloc (Nat.le_refl _) _
 have FW:Hid (iE W w.heap.size):=by rw [hWd];exact oz _ _ _ (by decide)
 have x0:W.cell? ⟨w.heap.size,0,none⟩=some (.bool false):=by rw [hWd];simp
 have x1:W.cell? ⟨w.heap.size,1,none⟩=some (.int .u64 0):=by rw [hWd];simp
 have x2:W.cell? ⟨w.heap.size,2,none⟩=some (.int .u64 0):=by rw [hWd];simp
 have x3:W.cell? ⟨w.heap.size,3,none⟩=some (.int .u64 0):=by rw [hWd];simp
 have x4:W.cell? ⟨w.heap.size,4,none⟩=some (.int .u64 0):=by rw [hWd];simp
 rw [<- hWd];clear hWd;go_wp2_with fail
 with_reducible refine (QI.out _ BW.out).mono ?_
 rintro e6 w6 ⟨b,rfl,H6⟩;simp only [];have z1:=(H6.out.2.1.cell (j:=1) FW.out).trans x1;have z2:=(H6.out.2.1.cell (j:=2) FW.out).trans x2;have KW:Hid (aA w w6):=(aA.of_below BW.out).trans H6.out.2.1;clear x0 x1 x2 x3 x4
 cases b with
 | false=>
  have R:Hid (¬ bH L []):=fun h=>by have:=H6.out.2.2.2.2.2 h;cases this
  go_wp2;go_ret
  exact ⟨false,rfl,H6.out.1,KW.out,⟨fun h=>(by cases h),fun h=>absurd h R.out⟩⟩
 | true=>
  have R:Hid (bH L []):=H6.out.2.2.2.2.1 rfl;go_wp2_with fail
  with_reducible refine (QA.out _ H6.out.2.2.1 H6.out.2.2.2.1).mono ?_
  rintro e7 w7 ⟨rfl,q1,q2,q3⟩;simp only [];have BE:=hide (H6.out.1.trans q1);have KE:=hide (KW.out.trans q2);have HE:=hide q3;clear q1 q2 q3;go_wp2;go_ret;exact ⟨true,rfl,BE.out,KE.out,⟨fun _=>R.out,fun _=>rfl⟩⟩
end
section
open Go Go.RowKit Go.Deep
attribute [local go_sem ↓] Go.wp_at_zero Go.wp_at_succ
theorem Dr (mb:Nat):Tryz.zeroCells134.setIfInBounds 1 (.map (some mb))=(newRow mb (0,0)).toArray:=by
 apply Array.toList_inj.1
 rw [Array.toList_setIfInBounds,Tryz.Rq];rfl
end
section
open Go Go.RowKit Go.Deep
attribute [local go_sem ↓] Go.wp_at_zero Go.wp_at_succ
def UA (H:Nat) (w:World) (cl:List Cl) (i11:Value) (wr:World):Prop:=
 ∃ i:Nat,i11=.int .i64 i/\i <= cl.length/\Hid (Below H w wr/\mY H (H + 1) (cl.take i) i wr/\nL H wr)
theorem AV (cl:List Cl) (v:Value) (w:World) (hv:vC w v cl) (hl:∀ c ∈ cl,∀ l ∈ c,oP l) (hlen:cl.length <= 20001) (hln:∀ c ∈ cl,c.length <= 20001) (hT:nL w.heap.size w) (h1:∀ c ∈ cl,c.length <= 1):
  Calls Tryz.prog 39 #[v] w fun e w'=>e=.returned (.pointer (some ⟨w.heap.size + 1,0,none⟩))/\Below w.heap.size w w'/\mY w.heap.size (w.heap.size + 1) cl cl.length w'/\nL w.heap.size w':=by
 obtain ⟨a,cp,b,rfl,ha,hcl⟩:=hv;have XH:=hide hcl;have HL:=hide hl;have HLN:=hide hln;have H1:=hide h1;have hmm:=@run_makeMap Tryz.prog;clear hcl hl hln h1;go_enter Tryz.func39,Tryz.ntmps39
 go_upto_region 2 with fail
 obtain ⟨Y,hY⟩:∃ Y,Y=(w.alloc (.map #[] 0)).alloc (.cells (Tryz.zeroCells134.setIfInBounds 1 (.map (some w.heap.size))) 134):=⟨_,rfl⟩;have BY:Hid (Below w.heap.size w Y):=by unfold Hid;rw [hY];exact ((Below.refl _ _).alloc (Nat.le_refl _) _).alloc (by simp) _
 have SY:Hid (di w.heap.size (w.heap.size + 1) Y (.slice none 0 0) w.heap.size 0 (0,0) (fun _=>.slice none 0 0) [] (fun _=>[])):=by
  unfold Hid;refine di.fresh ?_ ?_ (by omega) (Nat.le_refl _)
  ·rw [hY,Dr];have:=heap_alloc_new (w.alloc (.map #[] 0)) (.cells (newRow w.heap.size (0,0)).toArray 134);simpa using this
  ·rw [hY];refine (Gz w).kept ?_;rw [Below.heap_alloc _ _ _ (by simp)]
 rw [<- hY];clear hY hmm;have T0:Hid (Below w.heap.size w Y/\mY w.heap.size (w.heap.size + 1) (cl.take 0) 0 Y/\nL w.heap.size Y):=
  ⟨BY.out,⟨_,_,_,_,_,_,_,SY.out,by rw [List.take_zero];exact tO.empty,Nat.le_refl _,by omega,by omega,by simp,fun e he=>by cases he⟩,hT.later BY.out⟩
 clear SY BY;go_wp2;go_loopw [11] (fun i wr=>UA w.heap.size w cl i wr) (fun i _=>cl.length - (intOf i).toNat)
 case atStart=>exact ⟨0,rfl,Nat.zero_le _,T0⟩
 case round=>
  clear T0;obtain ⟨i,rfl,hil,T⟩:=hrel;by_cases hlt:i < cl.length
  ·have ha':=ha (by omega)
   subst ha';obtain ⟨u,hu1,hu2⟩:=XH.out i hlt;have blt:b < w.heap.size:=block_lt_of_cell hu1;have hu3:=(T.out.1.cell (p:=⟨b,i,none⟩) blt).trans hu1;have ud:cl.getD i []=cl[i]:=by rw [List.getD_eq_getElem?_getD,List.getElem?_eq_getElem hlt];rfl
   rw [ud] at hu2;have HU:Hid (Qo wr u cl[i]):=by
    obtain ⟨ra,rc,rb,e1,e2,e3⟩:=hu2;refine ⟨ra,rc,rb,e1,e2,fun j hj=>?_⟩
    have:=e3 j hj;rw [T.out.1.cell (p:=⟨rb,j,none⟩) (block_lt_of_cell this)];exact this
   have c50:Hid (∀ l ∈ cl[i],oP l):=HL.out _ (List.getElem_mem _);have QS:=hide (JM cl[i] u wr HU.out (fun l hl=>wT (c50.out l hl)) (Nat.le_trans (HLN.out _ (List.getElem_mem _)) (by omega)))
   have TK:Hid (cl.take (i + 1)=cl.take i ++ [cl[i]]):=by
    unfold Hid;rw [List.take_add_one,List.getElem?_eq_getElem hlt];rfl
   have QA:Hid (∀ V,Below wr.heap.size wr V->Calls Tryz.prog 68 #[.pointer (some ⟨w.heap.size + 1,0,none⟩),aK (setOf cl[i])] V fun e w'=>e=.returned (.tuple #[])/\Hid (Below w.heap.size w w'/\mY w.heap.size (w.heap.size + 1) (cl.take (i + 1)) (i + 1) w'/\nL w.heap.size w')):=fun V hV=>by
    have hB:=T.out.2.1.bsize;have TV:=T.out.2.2.later (hV.mono hB);refine (add_one (T.out.2.1.later hV) TV c50.out (H1.out _ (List.getElem_mem _)) (by omega)).mono ?_
    rintro e w' ⟨q1,q2,q3,q4⟩;exact ⟨q1,(T.out.1.trans (hV.mono hB)).trans q2,by rw [TK.out];exact q4,TV.later q2⟩
   unfold aK at QS QA;generalize setOf cl[i]=sk at QS QA;have ii0:(0:Int) <= (i:Int):=by omega
   have ii1:(i:Int) < (cl.length:Int):=by omega
   clear hu1 hu2 HU c50 TK ud;go_wp2_with fail
   with_reducible refine QS.out.mono ?_
   rintro e6 w6 ⟨rfl,hb6⟩;simp only [];have B6:=hide hb6;clear hb6;go_wp2_with fail
   with_reducible refine (QA.out _ B6.out).mono ?_
   rintro e7 w7 ⟨rfl,H7⟩;simp only [];go_wp2;go_roundw
   case rel=>exact ⟨i + 1,CO (by omega),by omega,H7⟩
   case measure=>simp [intOf];omega
  ·have ei:i=cl.length:=by omega
   subst ei;have TT:=T.out;rw [List.take_length] at TT;have TH:=hide TT;clear TT;go_wp2;go_ret;exact ⟨rfl,TH.out.1,TH.out.2.1,TH.out.2.2⟩
end
section
open Go Go.RowKit Go.Deep
attribute [local go_sem ↓] Go.wp_at_zero Go.wp_at_succ
theorem Gq (s v:ByteArray) (w:World) (hs:s.data.toList=[48]):
  Calls Tryz.prog 41 #[.string s,.string v] w fun e w'=>Below w.heap.size w w'/\e=.returned (.tuple #[vO false (0,0) (0,0),.bool true]):=by
 obtain rfl:s=⟨#[48]⟩:=by
  obtain ⟨d⟩:=s;exact congrArg ByteArray.mk (Array.toList_inj.1 hs)
 go_enter Tryz.func41,Tryz.ntmps41
 go_wp2_with fail
 refine (Tryz.strings_CutPrefix _ _ _).mono ?_;rintro e1 w1 ⟨rfl,rfl⟩;rw [show (⟨(Lib.trimPrefix (⟨#[48]⟩:ByteArray).data.toList (⟨#[100,32]⟩:ByteArray).data.toList).toArray⟩:ByteArray)=⟨#[48]⟩ from rfl,show Lib.hasPrefix (⟨#[48]⟩:ByteArray).data.toList (⟨#[100,32]⟩:ByteArray).data.toList=false from rfl]
 simp only [];go_wp2_with fail
 obtain ⟨W,hW⟩:∃ W,W=(w.alloc (Obj.cells #[Value.bool false,Value.int IntKind.u64 0,Value.int IntKind.u64 0,Value.int IntKind.u64 0,Value.int IntKind.u64 0] 86)).alloc (Obj.cells #[Value.bool false,Value.int IntKind.u64 0,Value.int IntKind.u64 0,Value.int IntKind.u64 0,Value.int IntKind.u64 0] 86):=⟨_,rfl⟩;rw [<- hW];have BW:Hid (Below w.heap.size w W):=by rw [hW];exact ((Below.refl _ _).alloc (Nat.le_refl _) _).alloc (by simp) _
 have r1:W.rowIs w.heap.size 86 5 (Iw false (0,0) (0,0)):=by
  rw [hW]
  exact World.rowIs.alloc ⟨_,blk_alloc_new _ _,rfl,fun i hi=>by match i,hi with | 0,_=>rfl | 1,_=>rfl | 2,_=>rfl | 3,_=>rfl | 4,_=>rfl⟩ _
 have r2:W.rowIs (w.heap.size + 1) 86 5 (Iw false (0,0) (0,0)):=by
  have:W.rowIs (w.alloc (Obj.cells #[Value.bool false,Value.int IntKind.u64 0,Value.int IntKind.u64 0,Value.int IntKind.u64 0,Value.int IntKind.u64 0] 86)).heap.size 86 5 (Iw false (0,0) (0,0)):=by
   rw [hW]
   exact ⟨_,blk_alloc_new _ _,rfl,fun i hi=>by match i,hi with | 0,_=>rfl | 1,_=>rfl | 2,_=>rfl | 3,_=>rfl | 4,_=>rfl⟩
  simpa using this
 clear hW;have R1:=hide r1;have R2:=hide r2;clear r1 r2;go_loopw [7] (fun t wr=>t=.string ⟨#[48]⟩/\wr=W) (fun _ _=>0)
 case atStart=>exact ⟨rfl,rfl⟩
 case round=>
  obtain ⟨rfl,rfl⟩:=hrel;have c0:=R2.out.cell (i:=0) (by omega)
  have c1:=R2.out.cell (i:=1) (by omega)
  have c2:=R2.out.cell (i:=2) (by omega)
  have c3:=R2.out.cell (i:=3) (by omega)
  have c4:=R2.out.cell (i:=4) (by omega)
  have r0:=R1.out.cell (i:=0) (by omega)
  have r1:=R1.out.cell (i:=1) (by omega)
  have r2:=R1.out.cell (i:=2) (by omega)
  have r3:=R1.out.cell (i:=3) (by omega)
  have r4:=R1.out.cell (i:=4) (by omega)
  have g0:=R1.out.frozen 0;have g1:=R1.out.frozen 1;have g2:=R1.out.frozen 2;have g3:=R1.out.frozen 3;have g4:=R1.out.frozen 4;simp only [Iw] at c0 c1 c2 c3 c4 r0 r1 r2 r3 r4;have hz:(!(⟨#[48]⟩:ByteArray).toList == [48])=false:=by simp [ByteArray.toList_eq]
  have BE:Hid (Below w.heap.size w (((((wr.setCell ⟨w.heap.size,0,none⟩ (.bool false)).setCell ⟨w.heap.size,1,none⟩ (.int .u64 0)).setCell ⟨w.heap.size,2,none⟩ (.int .u64 0)).setCell ⟨w.heap.size,3,none⟩ (.int .u64 0)).setCell ⟨w.heap.size,4,none⟩ (.int .u64 0))):=(((((BW.out.setCell (by simp) _).setCell (by simp) _).setCell (by simp) _).setCell (by simp) _).setCell (by simp) _)
  go_wp2;refine bodyPost_ret (v:=.tuple #[vO false (0,0) (0,0),.bool true]) (by simp [results,Tryz.results41,go_sem,r0,r1,r2,r3,r4,vO]) rfl ⟨BE.out,rfl⟩
end
section
open Go Go.RowKit Go.Deep Go.Proofs
attribute [local go_sem ↓] Go.wp_at_zero Go.wp_at_succ
theorem Ul (s:ByteArray) (m:Int) (w:World) (hs:s.size <= 4294967280) (hm:w.cell? ⟨0,0,none⟩=some (.int .i64 m)):
  Calls Tryz.prog 40 #[.string s,.string ⟨#[10]⟩] w fun e w'=>∃ x y:ByteArray,e=.returned (.tuple #[.string x,.string y,.bool (hasB 10 s.data.toList)])/\
   Hid (hasB 10 s.data.toList=true->x.data.toList=upto 10 s.data.toList/\y.data.toList=s.data.toList.drop ((upto 10 s.data.toList).length + 1))/\x.size <= s.size/\∃ n,w'=w.drewN n:=by
 refine (Tryz.strings_Cut s _ m _ (by omega) hm).mono ?_
 rintro e w' ⟨rfl,hn⟩;rw [show Lib.cut s.data.toList (⟨#[10]⟩:ByteArray).data.toList=_ from Jb 10 _]
 cases h:hasB 10 s.data.toList
 ·exact ⟨_,_,rfl,(fun h=>by cases h),by show s.data.toList.toArray.size <= s.size;simp,hn⟩
 ·refine ⟨_,_,rfl,fun _=>⟨rfl,rfl⟩,?_,hn⟩
  show (upto 10 s.data.toList).toArray.size <= s.size
  have h1:(upto 10 s.data.toList).length <= s.data.toList.length:=by unfold upto;exact (List.takeWhile_sublist _).length_le
  simp at h1 ⊢;exact h1
end
section
open Go Go.RowKit Go.Deep Go.Proofs
attribute [local go_sem ↓] Go.wp_at_zero Go.wp_at_succ
theorem Lu (s proof:ByteArray) (w:World) (V:Nat) (L0:List Cl) (hs:s.size <= maxLen) (hp:proof.size <= 1048576) (hR:iQ s.data.toList=((V:Int),L0,0)) (hL1:∀ c ∈ L0,c.length <= 1) (hx:hasB 10 proof.data.toList=true) (hu:upto 10 proof.data.toList=[48]) (hg:mZ w) (hT:nL w.heap.size w):
  Calls Tryz.prog 20 #[.string s,.string proof] w fun e w'=>∃ b:Bool,e=.returned (.tuple #[.int .i64 1,.int .i64 (if b=true then 0 else 4)])/\(b=true↔bH L0 [])/\Below w.heap.size w w':=by
 have HT:=hide hT;have QR:=hide (vW s w hs hg);rw [Av,hR] at QR;obtain ⟨V',hV,hv1,H50,hl1,hl2⟩:=Nj (s:=s.data.toList) (by rw [hR])
 rw [hR] at hv1 H50 hl1 hl2;simp only at QR hv1 H50 hl1 hl2;obtain rfl:V=V':=by omega
 have HG:=hide hg;clear hg hT hR hv1;go_enter Tryz.func20,Tryz.ntmps20
 go_wp2_with fail
 with_reducible refine QR.out.mono ?_
 rintro e1 w1 ⟨hb1,u1,rfl,hu1⟩;simp only [] at hu1;have B1:=hide hb1;have RL:Hid (vC w1 u1 L0):=by
  rcases hu1 with ⟨e1,e2⟩ | h
  ·subst e1 e2;exact CX w1
  ·exact h.read
 clear hb1 hu1 QR;simp only [];have T1:Hid (nL w1.heap.size w1):=by
  have t:=HT.out.later B1.out;exact ⟨t.1,by have:=t.2;have:=B1.out.size;omega⟩
 have G1:=hide (mZ.later B1.out HG.out);have QN:=hide (AV L0 u1 w1 RL.out H50 hl1 hl2 T1.out hL1);have HBB:=B1.out.size;clear H50 hl2 RL HT HG hL1;go_wp2_with fail
 with_reducible refine QN.out.mono ?_
 rintro e2 w2 ⟨rfl,hb2,WT,ht2⟩;simp only [];have G2:=hide (mZ.later hb2 G1.out);have B2:Hid (Below w.heap.size w w2):=B1.out.trans (hb2.mono HBB);have HH:=hide WT;have TT:=hide ht2;generalize w1.heap.size=B at HH TT HBB ⊢;clear QN hb2 WT ht2 G1 B1 T1;have x0:¬ proof.size=0:=fun e=>by
  have:proof.data.toList=[]:=List.eq_nil_of_length_eq_zero (by simpa using e)
  rw [this] at hx;cases hx
 have pe:proof.toList.isEmpty=false:=uz x0;obtain ⟨⟨mx,hmx⟩,_,_⟩:=G2.out;have QC:=hide (Ul proof mx w2 (by omega) hmx)
 clear hmx;rw [hx] at QC;have QI:Hid (∀ X,Below w2.heap.size w2 X->Calls Tryz.prog 36 #[.int .i64 V] X fun e w'=>∃ z:ByteArray,e=.returned (.string z)/\Hid (z.data.toList=Lib.decDigits V)/\Below X.heap.size X w'):=fun X hX=>D5 V (by omega) X (mZ.later hX G2.out)
 have QP:Hid (∀ X (l z:ByteArray),Below w2.heap.size w2 X->l.size <= 4294967280->l.data.toList=upto 10 proof.data.toList->z.data.toList=Lib.decDigits V->Calls Tryz.prog 41 #[.string l,.string z] X fun e w'=>Below X.heap.size X w'/\e=.returned (.tuple #[.agg #[.bool false,.int .u64 0,.int .u64 0,.int .u64 0,.int .u64 0],.bool true])):=fun X l z hX hls hle hz=>Gq l z X (hle.trans hu)
 have QE:Hid (∀ X,Calls Tryz.prog 43 #[.agg #[.bool false,.int .u64 0,.int .u64 0,.int .u64 0,.int .u64 0]] X fun e w'=>e=.returned (.bool true)/\Below X.heap.size X w'):=fun X=>Pt false (0,0) (0,0) iU X
 have QT:Hid (∀ X,Below w2.heap.size w2 X->Calls Tryz.prog 42 #[.pointer (some ⟨B + 1,0,none⟩),.agg #[.bool false,.int .u64 0,.int .u64 0,.int .u64 0,.int .u64 0]] X fun e w'=>∃ b,e=.returned (.bool b)/\Hid (Below B X w'/\aA X w'/\(b=true↔bH L0 []))):=fun X hX=>by
  refine (JD (HH.out.later hX) (TT.out.later (hX.mono HH.out.bsize)) (by omega)).mono ?_
  rintro e w' ⟨b,q1,q2,q3,q4⟩;exact ⟨b,q1,q2,q3,q4⟩
 have SB:=HH.out.bsize;clear hx hu HH TT hl1;go_wp2;go_loopw [10,11] (fun k t wr=>k=.int .i64 0/\t=.string proof/\wr=w2) (fun _ t _=>oZ t)
 case atStart=>exact ⟨rfl,rfl,rfl⟩
 case round=>
  obtain ⟨rfl,rfl,rfl⟩:=hrel;go_wp2_with fail
  with_reducible refine QC.out.mono ?_
  rintro e3 w3 ⟨l,y,rfl,HLY,lsz,n3,rfl⟩;simp only [];have B3:Hid (Below wr.heap.size wr (wr.drewN n3)):=dK (Below.refl _ _) _;generalize wr.drewN n3=w3 at B3 ⊢;have LE:=hide (HLY.out trivial).1;clear QC HLY;go_wp2_with fail
  with_reducible refine (QI.out _ B3.out).mono ?_
  rintro e4 w4 ⟨z,rfl,hz,hb4⟩;simp only [];have B4:Hid (Below wr.heap.size wr w4):=B3.out.trans (hb4.mono B3.out.size);clear hb4;go_wp2_with fail
  with_reducible refine (QP.out _ l z B4.out (by omega) LE.out hz.out).mono ?_
  rintro e5 w5 ⟨hb5,rfl⟩;have B5:Hid (Below wr.heap.size wr w5):=B4.out.trans (hb5.mono B4.out.size);clear hb5 QI QP;have BX:Hid (Below wr.heap.size wr (w5.alloc (.cells #[.bool false,.int .u64 0,.int .u64 0,.int .u64 0,.int .u64 0] 86))):=B5.out.alloc B5.out.size _;have FX:=hide (oz w5 #[.bool false,.int .u64 0,.int .u64 0,.int .u64 0,.int .u64 0] 86 (by decide))
  simp only [];go_wp2_with fail
  with_reducible refine (QT.out _ BX.out).mono ?_
  rintro e6 w6 ⟨b,rfl,H6⟩;simp only [];have B6:Hid (Below w.heap.size w w6):=B2.out.trans ((BX.out.mono B2.out.size).trans (H6.out.1.mono HBB))
  cases b with
  | false=>
   go_wp2;go_ret2
   exact ⟨false,rfl,H6.out.2.2,B6.out⟩
  | true=>
   have x0':=(H6.out.2.1.cell (j:=0) FX.out).trans (by simp:_=some (.bool false))
   have x1':=(H6.out.2.1.cell (j:=1) FX.out).trans (by simp:_=some (.int .u64 0))
   have x2':=(H6.out.2.1.cell (j:=2) FX.out).trans (by simp:_=some (.int .u64 0))
   have x3':=(H6.out.2.1.cell (j:=3) FX.out).trans (by simp:_=some (.int .u64 0))
   have x4':=(H6.out.2.1.cell (j:=4) FX.out).trans (by simp:_=some (.int .u64 0))
   go_wp2_with fail
   with_reducible refine (QE.out _).mono ?_
   rintro e7 w7 ⟨rfl,ku⟩;simp only [];have B7:Hid (Below w.heap.size w w7):=B6.out.trans (ku.mono B6.out.size);clear ku;go_wp2;go_ret2;exact ⟨true,rfl,⟨fun _=>H6.out.2.2.1 trivial,fun _=>rfl⟩,B7.out⟩
end
end Rd
end Go.Proofs.YtceahffmenbibaaGreatDoor
