/- PrvCard. -/
import Derived.Test.YtceahffmenbibaaGreatDoorCards
import Derived.Test.YtceahffmenbibaaGreatDoorTie
import Derived.Test.YtceahffmenbibaaGreatDoorKprl
import Derived.Test.YtceahffmenbibaaGreatDoorG42
import Derived.Lib.LaidTab
import Derived.ChangeSlices
import Derived.ChangeMaps5
set_option linter.unusedVariables false
set_option linter.unusedSimpArgs false
namespace Go.Proofs.YtceahffmenbibaaGreatDoor
open Go Go.ChangeShapes Go.WideShapes Go.ChangeAt Go.RowKit
set_option maxRecDepth 100000 in
theorem start4 (os:Os):∃ w0:World,w0.os=os∧
  (w0.forCall (fun _ _=>0) ⟨#[],#[.slice none 0 0,.string ⟨#[]⟩,.slice none 0 0],[]⟩).variablesRefB Tryz.prog=true∧
  ((w0.forCall (fun _ _=>0) ⟨#[],#[.slice none 0 0,.string ⟨#[]⟩,.slice none 0 0],[]⟩).heap.toList.drop Tryz.prog.globals.size).take ((begin Tryz.prog (fun _ _=>0) default).world.heap.size - Tryz.prog.globals.size) =
   (begin Tryz.prog (fun _ _=>0) default).world.heap.toList.drop Tryz.prog.globals.size∧
  Input.okWideB Tryz.prog (w0.forCall (fun _ _=>0) ⟨#[],#[.slice none 0 0,.string ⟨#[]⟩,.slice none 0 0],[]⟩) 14 ⟨#[],#[.slice none 0 0,.string ⟨#[]⟩,.slice none 0 0],[]⟩=true∧
  laidMet Tryz.prog Rows.provedUptoRow.laid (w0.forCall (fun _ _=>0) ⟨#[],#[.slice none 0 0,.string ⟨#[]⟩,.slice none 0 0],[]⟩).memory∧
  ∀ (H:Type) (enc:TypeId × Value→H),DataW.whole enc Tryz.prog (w0.forCall (fun _ _=>0) ⟨#[],#[.slice none 0 0,.string ⟨#[]⟩,.slice none 0 0],[]⟩).memory [43,9,43] [] false [Value.slice none 0 0,Value.string ⟨#[]⟩,Value.slice none 0 0] 8=some ([.nil,.lit (.string []),.nil],[],[]):=
 ⟨(let w0:=World.holding Tryz.prog os ⟨#[.cells #[.string synS] 256,.cells #[.string rngS] 256],#[],[]⟩
   let h0:=putCells w0.heap 2 #[.iface 254 (.pointer (some ⟨(World.holding Tryz.prog default ⟨#[],#[],[]⟩).heap.size,0,none⟩))]
   let h1:=putCells h0 3 #[.iface 254 (.pointer (some ⟨(World.holding Tryz.prog default ⟨#[],#[],[]⟩).heap.size + 1,0,none⟩))]
   let h2:=putCells h1 4 (intCells .u8 tab_deBruijn32tab)
   let h3:=putCells h2 5 (intCells .u8 tab_deBruijn64tab)
   let h4:=putCells h3 1 (intCells .u64 tab_uint64pow10)
   { w0 with heap:=h4 }),
  rfl,by kernel_rfl,by kernel_rfl,by kernel_rfl,laidMet_of_run' 8 (by kernel_rfl) (by kernel_rfl),fun _ _=>by kernel_rfl⟩
namespace Pc
open Go Go.ChangeShapes Go.WideShapes Go.ChangeAt Go.RowKit Rd Kp
theorem ints_of {H:Type} {enc:TypeId × Value→H} {w:World} {spare:Nat→Bool} {held:Bool} {fuel:Nat} {a:Option Addr} {len cap:Nat} {x:DataW H × List MemPlace}
  (h:DataW.trod enc Tryz.prog w 0 spare held fuel 43 [.slice a len cap]=some x):∃ (raw:List Int) (rb off:Nat),len=raw.length∧(∀ i (hi:i < raw.length),w.cell? ⟨rb,off + i,none⟩=some (.int .i64 raw[i]))∧(∀ x ∈ raw,-9223372036854775808 ≤ x∧x ≤ 9223372036854775807)∧(0 < raw.length→a=some ⟨rb,off,none⟩):=by
 rcases open_ints Tryz.underlying43 Tryz.underlying3 (by kernel_rfl) h with ⟨hcs,_⟩ | ⟨ad,l,c,zs,hcs,_,hl,hm,hz,hx,hcell,hwf⟩
 ·simp only [List.cons.injEq,Value.slice.injEq,and_true] at hcs
  exact ⟨[],0,0,hcs.2.1,fun i hi=>absurd hi (by simp),fun x hx=>(by cases hx),fun h=>absurd h (by simp)⟩
 ·simp only [List.cons.injEq,Value.slice.injEq,and_true] at hcs
  obtain ⟨rfl,rfl,rfl⟩:=hcs
  have hlz:len ≤ zs.length:=by rw [hz];split <;> omega
  have htl:(zs.take len).length=len:=by simp;omega
  by_cases h0:len=0
  ·subst h0
   exact ⟨[],0,0,rfl,fun i hi=>absurd hi (by simp),fun x hx=>(by cases hx),fun h=>absurd h (by simp)⟩
  ·have hs:ad.spot=none:=by simpa [Addr.add] using World.cell?_spot (hcell 0 (by omega))
   obtain ⟨b,off,spot⟩:=ad
   simp only at hs
   subst hs
   refine ⟨zs.take len,b,off,htl.symm,fun i hi=>?_,fun x hx=>?_,fun _=>rfl⟩
   ·have:=hcell i (by omega)
    rw [List.getElem_take]
    have e:zs.getD i 0=zs[i]'(by omega):=by rw [List.getD_eq_getElem?_getD,List.getElem?_eq_getElem (by omega)];rfl
    rw [e] at this
    simpa [Addr.add_lit] using this
   ·have:=hwf x (List.mem_of_mem_take hx)
    simp only [Lit.wf] at this
    have h2:IntKind.i64.min=-9223372036854775808:=rfl
    have h3:IntKind.i64.max=9223372036854775807:=rfl
    simp [h2,h3] at this
    omega
theorem pwType:(Tryz.prog.globals[1]?).map (·.type)=some 232:=by kernel_rfl
def db : String := Rows.provedUptoRow.named.getD 3 ""
theorem db_global:Tryz.prog.globalNamed db=some 5:=by kernel_rfl
theorem dbType:(Tryz.prog.globals[5]?).map (·.type)=some 268:=by kernel_rfl
theorem glob_of {W:World} (hL:laidMetH Tryz.prog Rows.provedUptoRow.laid W) (hsh:W.ShapedOpen Tryz.prog):Sure W:=by
 obtain ⟨m,hm⟩:∃ m,W.cell? ⟨0,0,none⟩=some (.int .i64 m):=Tryz.laysM219.s1_3 W hsh
 have h:laidMet Tryz.prog Rows.provedUptoRow.laid W:=hL
 obtain ⟨ps,⟨_,_,_,_,_,_,_,_,_,_,⟨g2,t2,cs2,fuel2,p2,q2,hg2,ht2,hvar2,hd2,⟨g',t',cs,fuel,p,q,hg',ht',hvar,hd,_,_⟩,_⟩,_⟩,_⟩:=h
 have T:Lib.TabIs Tryz.prog W db .u8 (Lib.deBruijn64tab.map fun (n:Nat)=>(n:Int)):=by
  obtain rfl:=Option.some.inj (db_global.symm.trans hg2)
  obtain rfl:=Option.some.inj (dbType.symm.trans ht2)
  have:=Lib.cells_of_tab (k:=.u8) (zs:=Lib.deBruijn64tab.map fun (n:Nat)=>(n:Int)) Tryz.underlying268 Tryz.underlying5 (by kernel_rfl) (by kernel_rfl) hd2
  show World.var? _ _ _=_
  rw [← this]
  exact hvar2
 have TA:TabAt 5 Lib.deBruijn64tab W:=fun j hj=>by
  have:=T.cell db_global j (by simpa using hj)
  rw [this]
  congr 2
  rw [List.getD_eq_getElem?_getD,List.getD_eq_getElem?_getD,List.getElem?_map,List.getElem?_eq_getElem hj]
  rfl
 have lt:(5:Nat) < W.heap.size:=block_lt_of_cell (TA 0 (by decide))
 refine ⟨⟨⟨m,hm⟩,?_,by omega⟩,TA,lt⟩
 obtain rfl:=Option.some.inj (pw_global.symm.trans hg')
 obtain rfl:=Option.some.inj (pwType.symm.trans ht')
 have:=Lib.cells_of_tab (k:=.u64) (zs:=Lib.pow10Tab) Tryz.underlying232 Tryz.underlying82 (by kernel_rfl) (by kernel_rfl) hd
 show World.var? _ _ _=_
 rw [← this]
 exact hvar
set_option maxRecDepth 100000 in
theorem contract (H:Type) (enc:TypeId × Value→H) (W:World) (base:Nat) (args:Array Value) (ds gs:List (DataW H)) (before:List MemPlace)
  (hval:∀ (j:Nat) t v,Tryz.f14.params[j]? = some t→args[j]? = some v→Value.okWide Tryz.prog W .any base t v)
  (hW:DataW.Whole enc Tryz.prog Tryz.f14.params.toList Rows.provedSpec.vars false W args.toList ds gs before)
  (hk:Rows.uptoSmall H (ds ++ gs)=true) (hg:Sure W):
  Calls Tryz.prog 14 args W fun e W'=>∃ v,e=.returned v∧Rows.provedSpec.post enc Tryz.prog Tryz.f14 false true false false W args v W':=by
 have hW':=hW
 obtain ⟨p,q,hA0,hV,rfl,hfz,hnd⟩:=hW
 have hA:DataW.TrodAll enc Tryz.prog W 0 (fun _=>true) true Tryz.f14.params.toList args.toList ds p:=hA0
 rw [Tryz.params14] at hA hval
 obtain ⟨v0,vs0,d0,ds0,p0,q0,hargs,rfl,rfl,h0,r0⟩:=trodAll_cons hA
 obtain ⟨v1,vs1,d1,ds1,p1,q1,rfl,rfl,rfl,h1,r1⟩:=trodAll_cons r0
 obtain ⟨v2,vs2,d2,ds2,p2,q2,rfl,rfl,rfl,h2,r2⟩:=trodAll_cons r1
 obtain ⟨rfl,rfl,rfl⟩:=trodAll_nil r2
 obtain rfl:args=#[v0,v1,v2]:=by cases args;simp_all
 obtain ⟨rfl,rfl⟩:=trodVars_none hV
 obtain ⟨a0,len0,cap0,rfl⟩:=okWide_slice Tryz.underlying43 (hval 0 43 v0 rfl rfl)
 obtain ⟨proof,rfl,rfl,rfl,_⟩:=Go.ChangeMaps.open_string Tryz.underlying9 (hval 1 9 v1 rfl rfl) h1
 obtain ⟨a2,len2,cap2,rfl⟩:=okWide_slice Tryz.underlying43 (hval 2 43 v2 rfl rfl)
 have k0:=h0
 have k2:=h2
 have lt0:∀ x ∈ p0,x.block < W.heap.size:=by obtain ⟨m,hm⟩:=k0;exact DataW.trod_lt m _ _ _ hm
 have lt2:∀ x ∈ p2,x.block < W.heap.size:=by obtain ⟨m,hm⟩:=k2;exact DataW.trod_lt m _ _ _ hm
 have hps:proof.size ≤ 1048576:=by
  have h:=of_decide_eq_true hk
  have e:proof.data.toList.length=proof.size:=by simp
  simp only [List.cons_append,List.nil_append,Rows.uptoBulkAll,Rows.uptoBulk] at h
  omega
 have key:∀ {a:Option Addr} {len cap:Nat} {d:DataW H} {ps:List MemPlace},DataW.Trod enc Tryz.prog W 0 (fun _=>true) true 43 (.slice a len cap) d ps→∃ (raw:List Int) (rb off:Nat),len=raw.length∧(∀ i (hi:i < raw.length),W.cell? ⟨rb,off + i,none⟩=some (.int .i64 raw[i]))∧(∀ x ∈ raw,-9223372036854775808 ≤ x∧x ≤ 9223372036854775807)∧(0 < raw.length→a=some ⟨rb,off,none⟩):=fun h=>by
  obtain ⟨fuel,hf⟩:=h
  exact ints_of hf
 obtain ⟨raw,rb,off,hlen,hcell,hrange,hra⟩:=key h0
 obtain ⟨more,mb,mof,hlen2,hcell2,hrange2,hra2⟩:=key h2
 subst hlen hlen2
 clear hA0
 refine (Kp.proved_sure W hg raw more rb off cap0 mb mof cap2 proof hps hcell hrange a0 hra hcell2 hrange2 a2 hra2).mono fun e W' ⟨he,bel⟩=>?_
 subst he
 exact ⟨_,rfl,_,_,_,[],_,[],hW',trodAll_mk1 (shut_bool Tryz.underlying4 _),(trodAll_cons_mk (Below.trod Tryz.laidOut (by kernel_rfl) (of_decide_eq_true (by kernel_rfl)) k0 bel lt0) (trodAll_cons_mk (Below.trod Tryz.laidOut (by kernel_rfl) (of_decide_eq_true (by kernel_rfl)) h1 bel (fun x hx=>by cases hx)) (trodAll_cons_mk (Below.trod Tryz.laidOut (by kernel_rfl) (of_decide_eq_true (by kernel_rfl)) k2 bel lt2) trodAll_mk0))),rfl,bel.frame _,fun h=>by cases h⟩
set_option maxRecDepth 100000 in
theorem lifted (os:Os) (started:os.Started) (H:Type) (enc:TypeId × Value→H) (F:Stop.Interp):
  ReturnsInHanded {} Tryz.checked os 14 .any ((Rows.OpenSpec.upto Rows.provedSpec).preRow enc Tryz.prog Tryz.f14 Rows.provedUptoRow.domain false Rows.provedUptoRow.laid) (((Rows.OpenSpec.upto Rows.provedSpec).at F).post enc Tryz.prog Tryz.f14 false true false false):=by
 obtain ⟨w0,hos,s1,s2,s3,hlaid,hx⟩:=start4 os
 refine returnsInHanded_of_row (C:=Tryz.checked) (s:=Rows.OpenSpec.upto Rows.provedSpec) Tryz.own started (by kernel_rfl) Tryz.func14
  (witness_row_atRef (enc:=enc) (C:=Tryz.checked) false w0 #[.slice none 0 0,.string ⟨#[]⟩,.slice none 0 0] hos s1 s2 s3
   (OpenSpec.preRow_of_cond 8 (hx H enc) (by kernel_rfl) (fun k hk=>by cases hk;kernel_rfl) (by kernel_rfl) hlaid)) ?_
 intro W base args ds gs before hval hW _ hcond _ hL hsh _
 exact contract H enc W base args ds gs before hval hW (hcond _ rfl) (glob_of hL hsh)
theorem said:Rows.ProvedUptoSaid:=
 OpenClaim.holds_of_cond 14 Tryz.f14 rfl rfl rfl rfl rfl rfl rfl ⟨rfl,rfl,rfl,rfl,rfl⟩ rfl rfl rfl rfl rfl (by kernel_rfl) Tryz.func14 (by kernel_rfl)
  (of_decide_eq_true (by kernel_rfl)) (by unfold Func.isWrapper;first | (rw [if_pos (by decide +kernel)];kernel_rfl) | (rw [if_neg (by decide +kernel)];exact ⟨rfl,rfl⟩))
  (fun os started H enc _ F=>by rw [OpenClaim.pre_eq_preRow];exact lifted os started H enc F)
theorem plain (f:FuncId) (fn:Func) (hf:Tryz.pinned.checked.prog.funcNamed Rows.provedUptoRow.func=some f) (hfn:Tryz.pinned.checked.prog.funcs[f]? = some fn):
  true=Tryz.pinned.checked.prog.looks []∧∀ (j:Nat) t,fn.params[j]? = some t→Tryz.pinned.checked.prog.wantsStandIn t=false:=by
 obtain rfl:f=14:=Option.some.inj ((show Tryz.prog.funcNamed Rows.provedUptoRow.func=some 14 by kernel_rfl).symm.trans hf) |>.symm
 obtain rfl:fn=Tryz.f14:=(Option.some.inj (Tryz.func14.symm.trans hfn)).symm
 refine ⟨by kernel_rfl,fun j t ht=>?_⟩
 rw [Tryz.params14] at ht
 have ht2:t=43∨t=9∨t=43:=by simpa using Array.mem_of_getElem? ht
 rcases ht2 with rfl | rfl | rfl
 ·exact (show Tryz.prog.wantsStandIn 43=false by kernel_rfl)
 ·exact (show Tryz.prog.wantsStandIn 9=false by kernel_rfl)
 ·exact (show Tryz.prog.wantsStandIn 43=false by kernel_rfl)
end Pc
theorem provedUpto_holds:Rows.ProvedUptoCardSaid:=
 Claim7.holds_tied_plain_at .later [] _ _ _ _ Pc.said (fun _ h=>by cases h) (by kernel_rfl) (fun _ h=>by cases h) provedUpto_row_tie rfl ⟨rfl,rfl⟩ (by kernel_rfl) rfl Pc.plain (by kernel_rfl)
#print axioms provedUpto_holds
end Go.Proofs.YtceahffmenbibaaGreatDoor
