/- Kprl. -/
import Derived.Test.YtceahffmenbibaaGreatDoorG42
import Derived.Test.YtceahffmenbibaaGreatDoorKprv
import Derived.Test.YtceahffmenbibaaGreatDoorTord
set_option linter.unusedVariables false
set_option linter.unusedSimpArgs false
namespace Go.Proofs.YtceahffmenbibaaGreatDoor
namespace Kp
open Go Go.RowKit Go.Deep Rd Go.Proofs.YtceahffmenbibaaGreatDoor.So
def Six (L:List Cl):Prop:=(∀ c ∈ L,∀ x ∈ c,InV 6 x)∧(∀ c ∈ L,c.length ≤ 4)∧L.length ≤ 40
theorem six_cla (raw:List Int):Six (clausesOf raw 6 20):=
 ⟨cla_in (by omega),fun c hc=>by
  obtain ⟨r,rfl⟩:=cla_mem hc
  exact cl_len _ _,by have:=cla_len (raw:=raw) (vars:=6) (most:=20);omega⟩
theorem Six.rev {L:List Cl} (h:Six L):Six L.reverse:=
 ⟨fun c hc=>h.1 c (List.mem_reverse.1 hc),fun c hc=>h.2.1 c (List.mem_reverse.1 hc),by rw [List.length_reverse];exact h.2.2⟩
theorem Six.app {L M:List Cl} (h:Six L) (h2:Six M) (hl:(L ++ M).length ≤ 40):Six (L ++ M):=
 ⟨fun c hc=>(List.mem_append.1 hc).elim (h.1 c) (h2.1 c),fun c hc=>(List.mem_append.1 hc).elim (h.2.1 c) (h2.2.1 c),hl⟩
theorem Six.txt {L:List Cl} (h:Six L):Txt ⟨(textB 6 L).toArray⟩ 6 L 31:=txt_six h.1 h.2.1 h.2.2
theorem Six.small {L:List Cl} (h:Six L):(textB 6 L).length ≤ 20000:=by
 have hn:=litN_le L h.2.1
 have ht:=text_len (n:=6) (by omega) (l:=L) (by have:=h.2.2;omega) h.1
 have:=h.2.2
 omega
theorem Six.text {L:List Cl} (h:Six L) (W:World) (v:Value) (hR:Rows W v L):Calls Tryz.prog 25 #[.int .i64 6,v] W fun e w'=>e=.returned (.string ⟨(textB 6 L).toArray⟩)∧Below W.heap.size W w':=
 text_any W v L 6 hR h.1 (fun c hc=>by have:=h.2.1 c hc;omega) (by have:=h.2.2;omega) (by omega) h.small
theorem checked_text {L:List Cl} (h6:Six L) {p:Bs} {n f:Int} (h:Rd.Checked (textB 6 L) p (n,f)):∃ a b:Nat,n=a∧f=b∧chk (Lib.decDigits 6) L (splitB 10 p) 0 (a,b):=by
 have hr:readB (textB 6 L)=(((6:Nat):Int),L,0):=h6.txt.rd
 unfold Rd.Checked at h
 rw [hr,if_pos rfl] at h
 obtain ⟨a,b,e,hc⟩:=h
 simp only [Prod.mk.injEq] at e
 exact ⟨a,b,e.1,e.2,hc⟩
theorem checked_rev {L:List Cl} (h6:Six L) {p:Bs} {n f n' f':Int} (h1:Rd.Checked (textB 6 L) p (n,f)) (h2:Rd.Checked (textB 6 L.reverse) p (n',f')):n'=n∧f'=f:=by
 obtain ⟨a,b,rfl,rfl,c1⟩:=checked_text h6 h1
 obtain ⟨a',b',rfl,rfl,c2⟩:=checked_text h6.rev h2
 have c3:=chk_order _ 0 (a,b) (EqL.of_perm (List.reverse_perm L).symm) c1
 have e:=chk_inj _ _ _ _ _ _ c2 c3
 cases e
 exact ⟨rfl,rfl⟩
theorem checked_never {L:List Cl} (h6:Six L) {p:Bs} {n:Int} (h:Rd.Checked (textB 6 L) p (n,0)):¬ ∃ t,Sat t L:=by
 obtain ⟨a,b,_,hb,c⟩:=checked_text h6 h
 obtain rfl:b=0:=by omega
 exact chk_sat (fun p b c h l hl=>in50_ne (lineB50 (V:=6) (by omega) h l hl)) _ L 0 a (fun d hd l hl=>(h6.1 d hd l hl).1) c
theorem bool_of (p:Prop):∃ b:Bool,b=true↔p:=by
 by_cases h:p
 ·exact ⟨true,fun _=>h,fun _=>rfl⟩
 ·exact ⟨false,fun e=>(by cases e),fun e=>absurd e h⟩
theorem proved_sure (w:World) (hg:Sure w) (raw more:List Int) (rb off rc mb mof mc:Nat) (proof:ByteArray) (hp:proof.size ≤ 1048576)
  (hraw:∀ i (hi:i < raw.length),w.cell? ⟨rb,off + i,none⟩=some (.int .i64 raw[i])) (hr:∀ x ∈ raw,-9223372036854775808 ≤ x∧x ≤ 9223372036854775807) (ra:Option Addr) (hra:0 < raw.length→ra=some ⟨rb,off,none⟩)
  (hmore:∀ i (hi:i < more.length),w.cell? ⟨mb,mof + i,none⟩=some (.int .i64 more[i])) (hm:∀ x ∈ more,-9223372036854775808 ≤ x∧x ≤ 9223372036854775807) (ma:Option Addr) (hma:0 < more.length→ma=some ⟨mb,mof,none⟩):
  Calls Tryz.prog 14 #[.slice ra raw.length rc,.string proof,.slice ma more.length mc] w fun e w'=>e=.returned (.bool true)∧Below w.heap.size w w':=by
 have h6:=six_cla raw
 have m6:=six_cla more
 have hL:=cla_len (raw:=raw) (vars:=6) (most:=20)
 have hM:=cla_len (raw:=more) (vars:=6) (most:=20)
 have a6:=h6.app m6 (by rw [List.length_append];omega)
 obtain ⟨st,hst⟩:=bool_of (∃ t,Sat t (clausesOf raw 6 20))
 obtain ⟨mt,hmt⟩:=bool_of (∃ t,Sat t (clausesOf raw 6 20 ++ clausesOf more 6 20))
 have hC:∀ (xs:List Int) (b o c:Nat) (a:Option Addr),(∀ i (hi:i < xs.length),w.cell? ⟨b,o + i,none⟩=some (.int .i64 xs[i]))→(∀ x ∈ xs,-9223372036854775808 ≤ x∧x ≤ 9223372036854775807)→(0 < xs.length→a=some ⟨b,o,none⟩)→∀ W,Below w.heap.size w W→Calls Tryz.prog 23 #[.slice a xs.length c,.int .i64 6,.int .i64 20] W fun e w'=>∃ v,e=.returned v∧OwnL 43 3 W.heap.size w' v (clausesOf xs 6 20)∧Below W.heap.size W w':=fun xs b o c a h1 h2 h3 W hb=>
  clauses_own W b o c xs 6 20 (fun i hi=>by rw [hb.cell (p:=⟨b,o + i,none⟩) (block_lt_of_cell (h1 i hi))];exact h1 i hi) h2 a h3 (by omega) (by omega) (by omega)
 refine proved_any Sure (fun h hb=>h.later hb) _ _ proof (clausesOf raw 6 20) (clausesOf more 6 20) (fun L=>⟨(textB 6 L).toArray⟩) st mt (fun n f=>Rd.Checked (textB 6 (clausesOf raw 6 20)) proof.data.toList (n,f)) (fun n f=>Rd.Checked (textB 6 (clausesOf raw 6 20).reverse) proof.data.toList (n,f)) w hg hL hM
  (fun W hW=>works_sure W hW) (hC raw rb off rc ra hraw hr hra) (hC more mb mof mc ma hmore hm hma)
  (fun W v g k hR hv=>meets_any W v _ 6 g (bitv k) hR h6.1 (fun c hc=>by have:=h6.2.1 c hc;omega) (by omega) (by omega) hv)
  (fun W v L' hL' hR=>by rcases hL' with rfl | rfl | rfl <;> first | exact h6.text W v hR | exact h6.rev.text W v hR | exact a6.text W v hR)
  (fun W hW=>(check_any _ proof W h6.txt.size hp hW.1 hW.2).mono fun e w' ⟨hb,n,f,he,hc⟩=>⟨n,f,he,hc,hb⟩)
  (fun W hW=>(check_any _ proof W h6.rev.txt.size hp hW.1 hW.2).mono fun e w' ⟨hb,n,f,he,hc⟩=>⟨n,f,he,hc,hb⟩)
  (fun n f n' f' h1 h2=>checked_rev h6 h1 h2) (fun n h=>?_) (fun W hW=>?_) (fun W hW=>?_) (fun h=>?_) (hst.trans (sat_six h6.1))
 ·cases hs:st
  ·rfl
  ·exact absurd (hst.1 hs) (checked_never h6 h)
 ·refine (solve_any (n:=6) (L:=clausesOf raw 6 20) (mx:=31) _ W hW.1 h6.txt.size h6.txt.rd h6.txt.runs).mono ?_
  rintro e w' ⟨hb,⟨p,rfl,hN⟩ | ⟨g,vals,p,rfl,_,_,hM⟩⟩
  ·have e:st=false:=by
    cases hs:st
    ·rfl
    ·exact absurd (hst.1 hs) (never_unsat h6.1 hN)
   subst e
   exact ⟨_,_,_,_,rfl,hb⟩
  ·have e:st=true:=hst.2 (met_sat hM)
   subst e
   exact ⟨_,_,_,_,rfl,hb⟩
 ·refine (shown_any a6.txt W hW).mono ?_
  rintro e w' ⟨b,rfl,hb,hbel⟩
  have:b=mt:=by
   cases b <;> cases mt <;> simp_all
  subst this
  exact ⟨rfl,hbel⟩
 ·obtain ⟨t,ht⟩:=hmt.1 h
  exact hst.2 ⟨t,fun c hc=>ht c (List.mem_append_left _ hc)⟩
end Kp
end Go.Proofs.YtceahffmenbibaaGreatDoor
