/- PlaCard. -/
import Derived.Test.YtceahffmenbibaaGreatDoorCards
import Derived.Test.YtceahffmenbibaaGreatDoorTie
import Derived.Test.YtceahffmenbibaaGreatDoorG52
import Derived.Lib.LaidTab
import Derived.ChangeSlices
import Derived.Deep.Grids
set_option linter.unusedVariables false
set_option linter.unusedSimpArgs false
set_option maxRecDepth 100000
namespace Go.Proofs.YtceahffmenbibaaGreatDoor
open Go Go.ChangeShapes Go.WideShapes Go.ChangeAt Go.RowKit
theorem VH (os:Os):∃ w0:World,w0.os=os/\
  (w0.forCall (fun _ _=>0) ⟨#[],#[.slice none 0 0,.slice none 0 0],[]⟩).variablesRefB Tryz.prog=true/\
  ((w0.forCall (fun _ _=>0) ⟨#[],#[.slice none 0 0,.slice none 0 0],[]⟩).heap.toList.drop Tryz.prog.globals.size).take ((begin Tryz.prog (fun _ _=>0) default).world.heap.size - Tryz.prog.globals.size) =
   (begin Tryz.prog (fun _ _=>0) default).world.heap.toList.drop Tryz.prog.globals.size/\
  Input.okWideB Tryz.prog (w0.forCall (fun _ _=>0) ⟨#[],#[.slice none 0 0,.slice none 0 0],[]⟩) 9 ⟨#[],#[.slice none 0 0,.slice none 0 0],[]⟩=true/\
  laidMet Tryz.prog Rows.plantedRow.laid (w0.forCall (fun _ _=>0) ⟨#[],#[.slice none 0 0,.slice none 0 0],[]⟩).memory/\
  ∀ (H:Type) (enc:TypeId × Value->H),DataW.whole enc Tryz.prog (w0.forCall (fun _ _=>0) ⟨#[],#[.slice none 0 0,.slice none 0 0],[]⟩).memory [43,26] [] false [Value.slice none 0 0,Value.slice none 0 0] 8=some ([.nil,.nil],[],[]):=
 ⟨(let w0:=World.holding Tryz.prog os ⟨#[.cells #[.string synS] 256,.cells #[.string rngS] 256],#[],[]⟩
   let h0:=putCells w0.heap 2 #[.iface 254 (.pointer (some ⟨(World.holding Tryz.prog default ⟨#[],#[],[]⟩).heap.size,0,none⟩))]
   let h1:=putCells h0 3 #[.iface 254 (.pointer (some ⟨(World.holding Tryz.prog default ⟨#[],#[],[]⟩).heap.size + 1,0,none⟩))]
   let h2:=putCells h1 4 (intCells .u8 qQ)
   let h3:=putCells h2 5 (intCells .u8 qP)
   let h4:=putCells h3 1 (intCells .u64 uL)
   { w0 with heap:=h4 }),
  rfl,by kernel_rfl,by kernel_rfl,by kernel_rfl,laidMet_of_run' 8 (by kernel_rfl) (by kernel_rfl),fun _ _=>by kernel_rfl⟩
namespace Pl
open Go Go.ChangeShapes Go.WideShapes Go.ChangeAt Go.RowKit Rd Kp
theorem TU {H:Type} {enc:TypeId × Value->H} {w:World} {spare:Nat->Bool} {held:Bool} {fuel:Nat} {a:Option Addr} {len cap:Nat} {x:DataW H × List MemPlace}
  (h:DataW.trod enc Tryz.prog w 0 spare held fuel 43 [.slice a len cap]=some x):∃ (raw:List Int) (rb off:Nat),len=raw.length/\(∀ i (hi:i < raw.length),w.cell? ⟨rb,off + i,none⟩=some (.int .i64 raw[i]))/\(∀ x ∈ raw,-9223372036854775808 <= x/\x <= 9223372036854775807)/\(0 < raw.length->a=some ⟨rb,off,none⟩):=by
 rcases open_ints Tryz.underlying43 Tryz.underlying3 (by kernel_rfl) h with ⟨hcs,_⟩ | ⟨ad,l,c,zs,hcs,_,hl,hm,hz,hx,hcell,hwf⟩
 ·simp only [List.cons.injEq,Value.slice.injEq,and_true] at hcs;exact ⟨[],0,0,hcs.2.1,fun i hi=>absurd hi (by simp),fun x hx=>(by cases hx),fun h=>absurd h (by simp)⟩
 ·simp only [List.cons.injEq,Value.slice.injEq,and_true] at hcs;obtain ⟨rfl,rfl,rfl⟩:=hcs;have hlz:len <= zs.length:=by rw [hz];split <;> omega
  have htl:(zs.take len).length=len:=by simp;omega
  by_cases h0:len=0
  ·subst h0;exact ⟨[],0,0,rfl,fun i hi=>absurd hi (by simp),fun x hx=>(by cases hx),fun h=>absurd h (by simp)⟩
  ·have hs:ad.spot=none:=by simpa [Addr.add] using World.cell?_spot (hcell 0 (by omega))
   obtain ⟨b,off,spot⟩:=ad;simp only at hs;subst hs;refine ⟨zs.take len,b,off,htl.symm,fun i hi=>?_,fun x hx=>?_,fun _=>rfl⟩
   ·have:=hcell i (by omega)
    rw [List.getElem_take];have e:zs.getD i 0=zs[i]'(by omega):=by rw [List.getD_eq_getElem?_getD,List.getElem?_eq_getElem (by omega)];rfl
    rw [e] at this;simpa [Addr.add_lit] using this
   ·have:=hwf x (List.mem_of_mem_take hx);simp only [Lit.wf] at this;have h2:IntKind.i64.min=-9223372036854775808:=rfl;have h3:IntKind.i64.max=9223372036854775807:=rfl;simp [h2,h3] at this;omega
theorem PZ {H:Type} {enc:TypeId × Value->H} {w:World} {held:Bool} {fuel:Nat} {a:Option Addr} {len cap:Nat} {x:DataW H × List MemPlace}
  (h:DataW.trod enc Tryz.prog w 0 (fun _=>true) held fuel 26 [.slice a len cap]=some x):∃ (vs:List Bool) (rb off:Nat),len=vs.length/\vs.length <= cap/\(∀ i (hi:i < vs.length),w.cell? ⟨rb,off + i,none⟩=some (.bool vs[i]))/\(0 < vs.length->a=some ⟨rb,off,none⟩):=by
 rcases Go.Deep.open_bools Tryz.underlying26 Tryz.underlying4 (by kernel_rfl) h with ⟨hcs,_⟩ | ⟨ad,l,c,B,hcs,_,hl,hm,hx,hcell⟩
 ·simp only [List.cons.injEq,Value.slice.injEq,and_true] at hcs;exact ⟨[],0,0,hcs.2.1,by simp,fun i hi=>absurd hi (by simp),fun h=>absurd h (by simp)⟩
 ·simp only [List.cons.injEq,Value.slice.injEq,and_true] at hcs;obtain ⟨rfl,rfl,rfl⟩:=hcs;by_cases h0:len=0
  ·subst h0;exact ⟨[],0,0,rfl,by simp,fun i hi=>absurd hi (by simp),fun h=>absurd h (by simp)⟩
  ·have hs:ad.spot=none:=by simpa [Addr.add] using World.cell?_spot (hcell 0 (by omega))
   obtain ⟨b,off,spot⟩:=ad;simp only at hs;subst hs;refine ⟨(List.range len).map B,b,off,by simp,by simpa using hl,fun i hi=>?_,fun _=>rfl⟩
   simp only [List.length_map,List.length_range] at hi;have:=hcell i (by omega)
   rw [List.getElem_map,List.getElem_range];simpa [Addr.add_lit] using this
theorem VS:(Tryz.prog.globals[1]?).map (·.type)=some 232:=by kernel_rfl
def db : String := Rows.plantedRow.named.getD 3 ""
theorem zW:Tryz.prog.globalNamed db=some 5:=by kernel_rfl
theorem Xh:(Tryz.prog.globals[5]?).map (·.type)=some 268:=by kernel_rfl
theorem Uf {W:World} (hL:laidMetH Tryz.prog Rows.plantedRow.laid W) (hsh:W.ShapedOpen Tryz.prog):tN W:=by
 obtain ⟨m,hm⟩:∃ m,W.cell? ⟨0,0,none⟩=some (.int .i64 m):=Tryz.Oo.s1_3 W hsh;have h:laidMet Tryz.prog Rows.plantedRow.laid W:=hL;obtain ⟨ps,⟨_,_,_,_,_,_,_,_,_,_,⟨g2,t2,cs2,fuel2,p2,q2,hg2,ht2,Zd,hd2,⟨g',t',cs,fuel,p,q,hg',ht',hvar,hd,_,_⟩,_⟩,_⟩,_⟩:=h;have T:Lib.TabIs Tryz.prog W db .u8 (Lib.deBruijn64tab.map fun (n:Nat)=>(n:Int)):=by
  obtain rfl:=Option.some.inj (zW.symm.trans hg2);obtain rfl:=Option.some.inj (Xh.symm.trans ht2);have:=Lib.cells_of_tab (k:=.u8) (zs:=Lib.deBruijn64tab.map fun (n:Nat)=>(n:Int)) Tryz.underlying268 Tryz.underlying5 (by kernel_rfl) (by kernel_rfl) hd2
  show World.var? _ _ _=_
  rw [<- this];exact Zd
 have TA:TabAt 5 Lib.deBruijn64tab W:=fun j hj=>by
  have:=T.cell zW j (by simpa using hj)
  rw [this]
  congr 2
  rw [List.getD_eq_getElem?_getD,List.getD_eq_getElem?_getD,List.getElem?_map,List.getElem?_eq_getElem hj];rfl
 have lt:(5:Nat) < W.heap.size:=block_lt_of_cell (TA 0 (by decide))
 refine ⟨⟨⟨m,hm⟩,?_,by omega⟩,TA,lt⟩
 obtain rfl:=Option.some.inj (zt.symm.trans hg');obtain rfl:=Option.some.inj (VS.symm.trans ht');have:=Lib.cells_of_tab (k:=.u64) (zs:=Lib.pow10Tab) Tryz.underlying232 Tryz.underlying82 (by kernel_rfl) (by kernel_rfl) hd
 show World.var? _ _ _=_
 rw [<- this];exact hvar
theorem contract (H:Type) (enc:TypeId × Value->H) (W:World) (base:Nat) (args:Array Value) (ds gs:List (DataW H)) (before:List MemPlace)
  (hval:∀ (j:Nat) t v,Tryz.f9.params[j]? = some t->args[j]? = some v->Value.okWide Tryz.prog W .any base t v)
  (hW:DataW.Whole enc Tryz.prog Tryz.f9.params.toList Rows.plantedSpec.vars false W args.toList ds gs before) (hg:tN W):
  Calls Tryz.prog 9 args W fun e W'=>∃ v,e=.returned v/\Rows.plantedSpec.post enc Tryz.prog Tryz.f9 false true false false W args v W':=by
 have hW':=hW;obtain ⟨p,q,hA0,hV,rfl,hfz,hnd⟩:=hW;have hA:DataW.TrodAll enc Tryz.prog W 0 (fun _=>true) true Tryz.f9.params.toList args.toList ds p:=hA0
 rw [Tryz.params9] at hA hval;obtain ⟨v0,vs0,d0,ds0,p0,q0,hargs,rfl,rfl,h0,r0⟩:=trodAll_cons hA;obtain ⟨v1,vs1,d1,ds1,p1,q1,rfl,rfl,rfl,h1,r1⟩:=trodAll_cons r0;obtain ⟨rfl,rfl,rfl⟩:=trodAll_nil r1;obtain rfl:args=#[v0,v1]:=by cases args;simp_all
 obtain ⟨rfl,rfl⟩:=trodVars_none hV;obtain ⟨a0,Wt,cap0,rfl⟩:=okWide_slice Tryz.underlying43 (hval 0 43 v0 rfl rfl);obtain ⟨a1,len1,Uq,rfl⟩:=okWide_slice Tryz.underlying26 (hval 1 26 v1 rfl rfl);have k0:=h0;have k1:=h1;have Tj:∀ x ∈ p1,x.block < W.heap.size:=by obtain ⟨m,hm⟩:=k1;exact DataW.trod_lt m _ _ _ hm
 have lt0:∀ x ∈ p0,x.block < W.heap.size:=by obtain ⟨m,hm⟩:=k0;exact DataW.trod_lt m _ _ _ hm
 obtain ⟨raw,rb,off,hlen,hcell,hrange,hra⟩:∃ (raw:List Int) (rb off:Nat),Wt=raw.length/\(∀ i (hi:i < raw.length),W.cell? ⟨rb,off + i,none⟩=some (.int .i64 raw[i]))/\(∀ x ∈ raw,-9223372036854775808 <= x/\x <= 9223372036854775807)/\(0 < raw.length->a0=some ⟨rb,off,none⟩):=by
  obtain ⟨fuel,hf⟩:=h0;exact TU hf
 obtain ⟨vs,vb,vo,hlen1,hcap1,hcell1,hva⟩:∃ (vs:List Bool) (rb off:Nat),len1=vs.length/\vs.length <= Uq/\(∀ i (hi:i < vs.length),W.cell? ⟨rb,off + i,none⟩=some (.bool vs[i]))/\(0 < vs.length->a1=some ⟨rb,off,none⟩):=by
  obtain ⟨fuel,hf⟩:=h1;exact PZ hf
 subst hlen hlen1;clear hA0;refine (Kp.AA W hg rb off cap0 raw hcell hrange a0 hra vb vo Uq vs a1 hva hcap1 hcell1).mono fun e W' ⟨he,jK⟩=>?_
 subst he;exact ⟨_,rfl,_,_,_,[],_,[],hW',trodAll_mk1 (shut_bool Tryz.underlying4 _),(trodAll_cons_mk (Below.trod Tryz.laidOut (by kernel_rfl) (of_decide_eq_true (by kernel_rfl)) k0 jK lt0) (trodAll_cons_mk (Below.trod Tryz.laidOut (by kernel_rfl) (of_decide_eq_true (by kernel_rfl)) k1 jK Tj) trodAll_mk0)),rfl,jK.frame _,fun h=>by cases h⟩
theorem lifted (os:Os) (started:os.Started) (H:Type) (enc:TypeId × Value->H) (F:Stop.Interp):
  ReturnsInHanded {} Tryz.checked os 9 .any ((OpenSpec.ofChange Rows.plantedSpec).preRow enc Tryz.prog Tryz.f9 Rows.plantedRow.domain false Rows.plantedRow.laid) (((OpenSpec.ofChange Rows.plantedSpec).at F).post enc Tryz.prog Tryz.f9 false true false false):=by
 obtain ⟨w0,hos,s1,s2,s3,hlaid,hx⟩:=VH os;refine returnsInHanded_of_row (C:=Tryz.checked) (s:=OpenSpec.ofChange Rows.plantedSpec) Tryz.own started (by kernel_rfl) Tryz.func9
  (witness_row_atRef (enc:=enc) (C:=Tryz.checked) false w0 #[.slice none 0 0,.slice none 0 0] hos s1 s2 s3
   (OpenSpec.preRow_of_cond 8 (hx H enc) (by kernel_rfl) (fun k hk=>by cases hk) (by kernel_rfl) hlaid)) ?_
 intro W base args ds gs before hval hW _ _ _ hL hsh _;exact contract H enc W base args ds gs before hval hW (Uf hL hsh)
theorem said:Rows.PlantedSaid:=
 OpenClaim.holds_of_cond 9 Tryz.f9 rfl rfl rfl rfl rfl rfl rfl ⟨rfl,rfl,rfl,rfl,rfl⟩ rfl rfl rfl rfl rfl (by kernel_rfl) Tryz.func9 (by kernel_rfl)
  (of_decide_eq_true (by kernel_rfl)) (by unfold Func.isWrapper;first | (rw [if_pos (by decide +kernel)];kernel_rfl) | (rw [if_neg (by decide +kernel)];exact ⟨rfl,rfl⟩))
  (fun os started H enc _ F=>by rw [OpenClaim.pre_eq_preRow];exact lifted os started H enc F)
theorem plain (f:FuncId) (fn:Func) (hf:Tryz.pinned.checked.prog.funcNamed Rows.plantedRow.func=some f) (hfn:Tryz.pinned.checked.prog.funcs[f]? = some fn):
  true=Tryz.pinned.checked.prog.looks []/\∀ (j:Nat) t,fn.params[j]? = some t->Tryz.pinned.checked.prog.wantsStandIn t=false:=by
 obtain rfl:f=9:=Option.some.inj ((show Tryz.prog.funcNamed Rows.plantedRow.func=some 9 by kernel_rfl).symm.trans hf) |>.symm
 obtain rfl:fn=Tryz.f9:=(Option.some.inj (Tryz.func9.symm.trans hfn)).symm;refine ⟨by kernel_rfl,fun j t ht=>?_⟩
 rw [Tryz.params9] at ht;have ht2:t=43\/t=26:=by simpa using Array.mem_of_getElem? ht
 rcases ht2 with rfl | rfl
 ·exact (show Tryz.prog.wantsStandIn 43=false by kernel_rfl)
 ·exact (show Tryz.prog.wantsStandIn 26=false by kernel_rfl)
end Pl
theorem planted_holds:Rows.PlantedCardSaid:=
 Claim7.holds_tied_plain_at .later [] _ _ _ _ Pl.said (fun _ h=>by cases h) (by kernel_rfl) (fun _ h=>by cases h) planted_row_tie rfl ⟨rfl,rfl⟩ (by kernel_rfl) rfl Pl.plain (by kernel_rfl)
#print axioms planted_holds
end Go.Proofs.YtceahffmenbibaaGreatDoor
