/- CroCard. -/
import Derived.Test.YtceahffmenbibaaGreatDoorCards
import Derived.Test.YtceahffmenbibaaGreatDoorTie
import Derived.Test.YtceahffmenbibaaGreatDoorG41
import Derived.Test.YtceahffmenbibaaGreatDoorG39
import Derived.Lib.LaidTab
import Derived.ChangeSlices
set_option linter.unusedVariables false
set_option linter.unusedSimpArgs false
set_option maxRecDepth 100000
namespace Go.Proofs.YtceahffmenbibaaGreatDoor
open Go Go.ChangeShapes Go.WideShapes Go.ChangeAt Go.RowKit
theorem VE (os:Os):∃ a:World,a.os=os/\
  (a.forCall (fun _ _=>0) ⟨#[],#[.int .i64 0],[]⟩).variablesRefB Tryz.prog=true/\
  ((a.forCall (fun _ _=>0) ⟨#[],#[.int .i64 0],[]⟩).heap.toList.drop Tryz.prog.globals.size).take ((begin Tryz.prog (fun _ _=>0) default).world.heap.size - Tryz.prog.globals.size) =
   (begin Tryz.prog (fun _ _=>0) default).world.heap.toList.drop Tryz.prog.globals.size/\
  Input.okWideB Tryz.prog (a.forCall (fun _ _=>0) ⟨#[],#[.int .i64 0],[]⟩) 13 ⟨#[],#[.int .i64 0],[]⟩=true/\
  laidMet Tryz.prog Rows.crowdedRow.laid (a.forCall (fun _ _=>0) ⟨#[],#[.int .i64 0],[]⟩).memory/\
  ∀ (H:Type) (enc:TypeId × Value->H),DataW.whole enc Tryz.prog (a.forCall (fun _ _=>0) ⟨#[],#[.int .i64 0],[]⟩).memory [3] [] false [Value.int .i64 0] 8=some ([.lit (.int .i64 0)],[],[]):=
 ⟨(let a:=World.holding Tryz.prog os ⟨#[.cells #[.string Xt] 256,.cells #[.string Xx] 256],#[],[]⟩
   let h0:=putCells a.heap 2 #[.iface 254 (.pointer (some ⟨(World.holding Tryz.prog default ⟨#[],#[],[]⟩).heap.size,0,none⟩))]
   let h1:=putCells h0 3 #[.iface 254 (.pointer (some ⟨(World.holding Tryz.prog default ⟨#[],#[],[]⟩).heap.size + 1,0,none⟩))]
   let h2:=putCells h1 4 (intCells .u8 og)
   let h3:=putCells h2 5 (intCells .u8 nZ)
   let h4:=putCells h3 1 (intCells .u64 qB)
   { a with heap:=h4 }),
  rfl,by kernel_rfl,by kernel_rfl,by kernel_rfl,laidMet_of_run' 8 (by kernel_rfl) (by kernel_rfl),fun _ _=>by kernel_rfl⟩
namespace Cw
open Go Go.ChangeShapes Go.WideShapes Go.ChangeAt Go.RowKit Rd Kp
theorem IV:(Tryz.prog.globals[1]?).map (·.type)=some 232:=by kernel_rfl
def db : String := Rows.crowdedRow.named.getD 3 ""
theorem pO:Tryz.prog.globalNamed db=some 5:=by kernel_rfl
theorem JE:(Tryz.prog.globals[5]?).map (·.type)=some 268:=by kernel_rfl
theorem DK {W:World} (hL:laidMetH Tryz.prog Rows.crowdedRow.laid W) (e:W.ShapedOpen Tryz.prog):rM W:=by
 obtain ⟨m,t⟩:∃ m,W.cell? ⟨0,0,none⟩=some (.int .i64 m):=Tryz.FK.s1_3 W e;have h:laidMet Tryz.prog Rows.crowdedRow.laid W:=hL;obtain ⟨y,⟨_,_,_,_,_,_,_,_,_,_,⟨g2,v,u,l,p2,x,f,c,a,i,⟨z,w,B,r,p,q,g,d,b,hd,_,_⟩,_⟩,_⟩,_⟩:=h;have T:Lib.TabIs Tryz.prog W db .u8 (Lib.deBruijn64tab.map fun (n:Nat)=>(n:Int)):=by
  obtain rfl:=Option.some.inj (pO.symm.trans f);obtain rfl:=Option.some.inj (JE.symm.trans c);have:=Lib.cells_of_tab (k:=.u8) (zs:=Lib.deBruijn64tab.map fun (n:Nat)=>(n:Int)) Tryz.underlying268 Tryz.underlying5 (by kernel_rfl) (by kernel_rfl) i
  show World.var? _ _ _=_
  rw [<- this];exact a
 have s:TabAt 5 Lib.deBruijn64tab W:=fun j o=>by
  have:=T.cell pO j (by simpa using o)
  rw [this]
  congr 2
  rw [List.getD_eq_getElem?_getD,List.getD_eq_getElem?_getD,List.getElem?_map,List.getElem?_eq_getElem o];rfl
 have lt:(5:Nat) < W.heap.size:=block_lt_of_cell (s 0 (by decide))
 refine ⟨⟨⟨m,t⟩,?_,by omega⟩,s,lt⟩
 obtain rfl:=Option.some.inj (vH.symm.trans g);obtain rfl:=Option.some.inj (IV.symm.trans d);have:=Lib.cells_of_tab (k:=.u64) (zs:=Lib.pow10Tab) Tryz.underlying232 Tryz.underlying82 (by kernel_rfl) (by kernel_rfl) hd
 show World.var? _ _ _=_
 rw [<- this];exact b
theorem contract (H:Type) (enc:TypeId × Value->H) (W:World) (base:Nat) (a:Array Value) (u K:List (DataW H)) (b:List MemPlace)
  (c:∀ (j:Nat) t v,Tryz.f13.params[j]? = some t->a[j]? = some v->Value.okWide Tryz.prog W .any base t v)
  (n:DataW.Whole enc Tryz.prog Tryz.f13.params.toList Rows.crowdedSpec.vars false W a.toList u K b) (D:rM W):
  Calls Tryz.prog 13 a W fun e w=>∃ v,e=.returned v/\Rows.crowdedSpec.post enc Tryz.prog Tryz.f13 false true false false W a v w:=by
 have l:=n;obtain ⟨p,q,i,G,rfl,E,C⟩:=n;have o:DataW.TrodAll enc Tryz.prog W 0 (fun _=>true) true Tryz.f13.params.toList a.toList u p:=i
 rw [Tryz.params13] at o c;obtain ⟨m,y,O,L,N,M,k,rfl,rfl,s,z⟩:=trodAll_cons o;obtain ⟨rfl,rfl,rfl⟩:=trodAll_nil z;obtain rfl:a=#[m]:=by cases a;simp_all
 obtain ⟨rfl,rfl⟩:=trodVars_none G;obtain ⟨r,rfl,rfl,rfl,d⟩:=open_int Tryz.underlying3 (c 0 3 m rfl rfl) s;have g:-9223372036854775808 <= r/\r <= 9223372036854775807:=by
  simp only [Lit.wf] at d;have J:IntKind.i64.min=-9223372036854775808:=rfl;have I:IntKind.i64.max=9223372036854775807:=rfl;simp [J,I] at d;omega
 clear i;refine (Kp.DW r g.1 g.2 W D).mono fun e w ⟨he,mq⟩=>?_
 subst he;exact ⟨_,rfl,_,_,_,[],_,[],l,trodAll_mk1 (shut_bool Tryz.underlying4 _),(trodAll_cons_mk (Below.trod Tryz.laidOut (by kernel_rfl) (of_decide_eq_true (by kernel_rfl)) s mq (fun x B=>by cases B)) trodAll_mk0),rfl,mq.frame _,fun h=>by cases h⟩
theorem lifted (os:Os) (a:os.Started) (H:Type) (enc:TypeId × Value->H) (F:Stop.Interp):
  ReturnsInHanded {} Tryz.checked os 13 .any ((OpenSpec.ofChange Rows.crowdedSpec).preRow enc Tryz.prog Tryz.f13 Rows.crowdedRow.domain false Rows.crowdedRow.laid) (((OpenSpec.ofChange Rows.crowdedSpec).at F).post enc Tryz.prog Tryz.f13 false true false false):=by
 obtain ⟨j,i,n,m,l,c,o⟩:=VE os;refine returnsInHanded_of_row (C:=Tryz.checked) (s:=OpenSpec.ofChange Rows.crowdedSpec) Tryz.own a (by kernel_rfl) Tryz.func13
  (witness_row_atRef (enc:=enc) (C:=Tryz.checked) false j #[.int .i64 0] i n m l
   (OpenSpec.preRow_of_cond 8 (o H enc) (by kernel_rfl) (fun k p=>by cases p) (by kernel_rfl) c)) ?_
 intro W e g t r b d q _ _ _ hL h _;exact contract H enc W e g t r b d q (DK hL h)
theorem said:Rows.CrowdedSaid:=
 OpenClaim.holds_of_cond 13 Tryz.f13 rfl rfl rfl rfl rfl rfl rfl ⟨rfl,rfl,rfl,rfl,rfl⟩ rfl rfl rfl rfl rfl (by kernel_rfl) Tryz.func13 (by kernel_rfl)
  (of_decide_eq_true (by kernel_rfl)) (by unfold Func.isWrapper;first | (rw [if_pos (by decide +kernel)];kernel_rfl) | (rw [if_neg (by decide +kernel)];exact ⟨rfl,rfl⟩))
  (fun b a H enc _ F=>by rw [OpenClaim.pre_eq_preRow];exact lifted b a H enc F)
theorem plain (f:FuncId) (b:Func) (d:Tryz.pinned.checked.prog.funcNamed Rows.crowdedRow.func=some f) (a:Tryz.pinned.checked.prog.funcs[f]? = some b):
  true=Tryz.pinned.checked.prog.looks []/\∀ (j:Nat) t,b.params[j]? = some t->Tryz.pinned.checked.prog.wantsStandIn t=false:=by
 obtain rfl:f=13:=Option.some.inj ((show Tryz.prog.funcNamed Rows.crowdedRow.func=some 13 by kernel_rfl).symm.trans d) |>.symm
 obtain rfl:b=Tryz.f13:=(Option.some.inj (Tryz.func13.symm.trans a)).symm;refine ⟨by kernel_rfl,fun j t c=>?_⟩
 rw [Tryz.params13] at c;obtain rfl:t=3:=by simpa using Array.mem_of_getElem? c
 exact (show Tryz.prog.wantsStandIn 3=false by kernel_rfl)
end Cw
theorem crowded_holds:Rows.CrowdedCardSaid:=
 Claim7.holds_tied_plain_at .later [] _ _ _ _ Cw.said (fun _ h=>by cases h) (by kernel_rfl) (fun _ h=>by cases h) crowded_row_tie rfl ⟨rfl,rfl⟩ (by kernel_rfl) rfl Cw.plain (by kernel_rfl)
#print axioms crowded_holds
end Go.Proofs.YtceahffmenbibaaGreatDoor
