/- TurCard. -/
import Derived.Test.YtceahffmenbibaaGreatDoorCards
import Derived.Test.YtceahffmenbibaaGreatDoorTie
import Derived.Test.YtceahffmenbibaaGreatDoorH36
set_option linter.unusedVariables false
set_option linter.unusedSimpArgs false
set_option maxRecDepth 100000
namespace Go.Proofs.YtceahffmenbibaaGreatDoor
open Go Go.ChangeShapes Go.WideShapes Go.ChangeAt Go.RowKit
theorem Vv (os:Os):∃ a:World,a.os=os/\
  (a.forCall (fun _ _=>0) ⟨#[],#[.slice none 0 0,.int .i64 0,.int .i64 0],[]⟩).variablesRefB Tryz.prog=true/\
  ((a.forCall (fun _ _=>0) ⟨#[],#[.slice none 0 0,.int .i64 0,.int .i64 0],[]⟩).heap.toList.drop Tryz.prog.globals.size).take ((begin Tryz.prog (fun _ _=>0) default).world.heap.size - Tryz.prog.globals.size) =
   (begin Tryz.prog (fun _ _=>0) default).world.heap.toList.drop Tryz.prog.globals.size/\
  Input.okWideB Tryz.prog (a.forCall (fun _ _=>0) ⟨#[],#[.slice none 0 0,.int .i64 0,.int .i64 0],[]⟩) 11 ⟨#[],#[.slice none 0 0,.int .i64 0,.int .i64 0],[]⟩=true/\
  laidMet Tryz.prog Rows.turnedRow.laid (a.forCall (fun _ _=>0) ⟨#[],#[.slice none 0 0,.int .i64 0,.int .i64 0],[]⟩).memory/\
  ∀ (H:Type) (enc:TypeId × Value->H),DataW.whole enc Tryz.prog (a.forCall (fun _ _=>0) ⟨#[],#[.slice none 0 0,.int .i64 0,.int .i64 0],[]⟩).memory [43,3,3] [] false [Value.slice none 0 0,Value.int .i64 0,Value.int .i64 0] 8=some ([.nil,.lit (.int .i64 0),.lit (.int .i64 0)],[],[]):=
 ⟨(let a:=World.holding Tryz.prog os ⟨#[.cells #[.string Yp] 256,.cells #[.string Yu] 256],#[],[]⟩
   let h0:=putCells a.heap 2 #[.iface 254 (.pointer (some ⟨(World.holding Tryz.prog default ⟨#[],#[],[]⟩).heap.size,0,none⟩))]
   let h1:=putCells h0 3 #[.iface 254 (.pointer (some ⟨(World.holding Tryz.prog default ⟨#[],#[],[]⟩).heap.size + 1,0,none⟩))]
   let h2:=putCells h1 4 (intCells .u8 uf)
   let h3:=putCells h2 5 (intCells .u8 tZ)
   let h4:=putCells h3 1 (intCells .u64 wT)
   { a with heap:=h4 }),
  rfl,by kernel_rfl,by kernel_rfl,by kernel_rfl,laidMet_of_run' 8 (by kernel_rfl) (by kernel_rfl),fun _ _=>by kernel_rfl⟩
namespace Tu
open Go Go.ChangeShapes Go.WideShapes Go.ChangeAt Go.RowKit Rd Kp
theorem Ut {H:Type} {enc:TypeId × Value->H} {w:World} {j:Nat->Bool} {o:Bool} {p:Nat} {a:Option Addr} {len cap:Nat} {x:DataW H × List MemPlace}
  (h:DataW.trod enc Tryz.prog w 0 j o p 43 [.slice a len cap]=some x):∃ (d:List Int) (t off:Nat),len=d.length/\(∀ i (n:i < d.length),w.cell? ⟨t,off + i,none⟩=some (.int .i64 d[i]))/\(∀ x ∈ d,-9223372036854775808 <= x/\x <= 9223372036854775807)/\(0 < d.length->a=some ⟨t,off,none⟩):=by
 rcases open_ints Tryz.underlying43 Tryz.underlying3 (by kernel_rfl) h with ⟨f,_⟩ | ⟨v,l,c,m,f,_,F,E,y,k,g,q⟩
 ·simp only [List.cons.injEq,Value.slice.injEq,and_true] at f;exact ⟨[],0,0,f.2.1,fun i n=>absurd n (by simp),fun x k=>(by cases k),fun h=>absurd h (by simp)⟩
 ·simp only [List.cons.injEq,Value.slice.injEq,and_true] at f;obtain ⟨rfl,rfl,rfl⟩:=f;have z:len <= m.length:=by rw [y];split <;> omega
  have r:(m.take len).length=len:=by simp;omega
  by_cases D:len=0
  ·subst D;exact ⟨[],0,0,rfl,fun i n=>absurd n (by simp),fun x k=>(by cases k),fun h=>absurd h (by simp)⟩
  ·have u:v.spot=none:=by simpa [Addr.add] using World.cell?_spot (g 0 (by omega))
   obtain ⟨b,off,s⟩:=v;simp only at u;subst u;refine ⟨m.take len,b,off,r.symm,fun i n=>?_,fun x k=>?_,fun _=>rfl⟩
   ·have:=g i (by omega);rw [List.getElem_take];have e:m.getD i 0=m[i]'(by omega):=by rw [List.getD_eq_getElem?_getD,List.getElem?_eq_getElem (by omega)];rfl
    rw [e] at this;simpa [Addr.add_lit] using this
   ·have:=q x (List.mem_of_mem_take k);simp only [Lit.wf] at this;have C:IntKind.i64.min=-9223372036854775808:=rfl;have B:IntKind.i64.max=9223372036854775807:=rfl;simp [C,B] at this;omega
theorem VC:(Tryz.prog.globals[1]?).map (·.type)=some 232:=by kernel_rfl
def db : String := Rows.turnedRow.named.getD 3 ""
theorem BZ:Tryz.prog.globalNamed db=some 5:=by kernel_rfl
theorem Wm:(Tryz.prog.globals[5]?).map (·.type)=some 268:=by kernel_rfl
theorem Ux {W:World} (hL:laidMetH Tryz.prog Rows.turnedRow.laid W) (e:W.ShapedOpen Tryz.prog):tL W:=by
 obtain ⟨m,t⟩:∃ m,W.cell? ⟨0,0,none⟩=some (.int .i64 m):=Tryz.PL.s1_3 W e;have h:laidMet Tryz.prog Rows.turnedRow.laid W:=hL;obtain ⟨y,⟨_,_,_,_,_,_,_,_,_,_,⟨g2,v,u,l,p2,x,f,c,a,i,⟨z,w,B,r,p,q,g,d,b,hd,_,_⟩,_⟩,_⟩,_⟩:=h;have T:Lib.TabIs Tryz.prog W db .u8 (Lib.deBruijn64tab.map fun (n:Nat)=>(n:Int)):=by
  obtain rfl:=Option.some.inj (BZ.symm.trans f);obtain rfl:=Option.some.inj (Wm.symm.trans c);have:=Lib.cells_of_tab (k:=.u8) (zs:=Lib.deBruijn64tab.map fun (n:Nat)=>(n:Int)) Tryz.underlying268 Tryz.underlying5 (by kernel_rfl) (by kernel_rfl) i;show World.var? _ _ _=_
  rw [<- this];exact a
 have s:TabAt 5 Lib.deBruijn64tab W:=fun j o=>by
  have:=T.cell BZ j (by simpa using o);rw [this]
  congr 2
  rw [List.getD_eq_getElem?_getD,List.getD_eq_getElem?_getD,List.getElem?_map,List.getElem?_eq_getElem o];rfl
 have lt:(5:Nat) < W.heap.size:=block_lt_of_cell (s 0 (by decide));refine ⟨⟨⟨m,t⟩,?_,by omega⟩,s,lt⟩;obtain rfl:=Option.some.inj (Bd.symm.trans g);obtain rfl:=Option.some.inj (VC.symm.trans d);have:=Lib.cells_of_tab (k:=.u64) (zs:=Lib.pow10Tab) Tryz.underlying232 Tryz.underlying82 (by kernel_rfl) (by kernel_rfl) hd;show World.var? _ _ _=_
 rw [<- this];exact b
theorem contract (H:Type) (enc:TypeId × Value->H) (W:World) (base:Nat) (a:Array Value) (V gs:List (DataW H)) (l:List MemPlace)
  (c:∀ (j:Nat) t v,Tryz.f11.params[j]? = some t->a[j]? = some v->Value.okWide Tryz.prog W .any base t v)
  (P:DataW.Whole enc Tryz.prog Tryz.f11.params.toList Rows.turnedSpec.vars false W a.toList V gs l) (hg:tL W):
  Calls Tryz.prog 11 a W fun e Y=>∃ v,e=.returned v/\Rows.turnedSpec.post enc Tryz.prog Tryz.f11 false true false false W a v Y:=by
 have K:=P;obtain ⟨p,q,y,hV,rfl,ad,ac⟩:=P;have Q:DataW.TrodAll enc Tryz.prog W 0 (fun _=>true) true Tryz.f11.params.toList a.toList V p:=y;rw [Tryz.params11] at Q c;obtain ⟨N,ab,d0,ag,p0,q0,J,rfl,rfl,S,r0⟩:=trodAll_cons Q;obtain ⟨M,aa,d1,af,p1,q1,rfl,rfl,rfl,R,r1⟩:=trodAll_cons r0;obtain ⟨L,Z,d2,ae,p2,q2,rfl,rfl,rfl,C,r2⟩:=trodAll_cons r1;obtain ⟨rfl,rfl,rfl⟩:=trodAll_nil r2;obtain rfl:a=#[N,M,L]:=by cases a;simp_all
 obtain ⟨rfl,rfl⟩:=trodVars_none hV;obtain ⟨X,V5,z,rfl⟩:=okWide_slice Tryz.underlying43 (c 0 43 N rfl rfl);have o:∀ r:Int,(Lit.int .i64 r).wf=true->-9223372036854775808 <= r/\r <= 9223372036854775807:=fun r d=>by
  simp only [Lit.wf] at d;have C:IntKind.i64.min=-9223372036854775808:=rfl;have h3:IntKind.i64.max=9223372036854775807:=rfl;simp [C,h3] at d;omega
 obtain ⟨r,rfl,rfl,rfl,d⟩:=open_int Tryz.underlying3 (c 1 3 M rfl rfl) R;obtain ⟨k,rfl,rfl,rfl,G⟩:=open_int Tryz.underlying3 (c 2 3 L rfl rfl) C;have s:=o r d;have w:=o k G;have O:=S;have D:∀ x ∈ p0,x.block < W.heap.size:=by obtain ⟨m,hm⟩:=O;exact DataW.trod_lt m _ _ _ hm
 obtain ⟨b,B,off,u,n,g,I⟩:∃ (b:List Int) (B off:Nat),V5=b.length/\(∀ i (hi:i < b.length),W.cell? ⟨B,off + i,none⟩=some (.int .i64 b[i]))/\(∀ x ∈ b,-9223372036854775808 <= x/\x <= 9223372036854775807)/\(0 < b.length->X=some ⟨B,off,none⟩):=by
  obtain ⟨U,hf⟩:=S;exact Ut hf
 subst u;clear y;refine (Kp.Eb W hg B off z b n g X I r k s.1 s.2 w.1 w.2).mono fun e Y ⟨he,mO⟩=>?_
 subst he;exact ⟨_,rfl,_,_,_,[],_,[],K,trodAll_mk1 (shut_bool Tryz.underlying4 _),(trodAll_cons_mk (Below.trod Tryz.laidOut (by kernel_rfl) (of_decide_eq_true (by kernel_rfl)) O mO D) (trodAll_cons_mk (Below.trod Tryz.laidOut (by kernel_rfl) (of_decide_eq_true (by kernel_rfl)) R mO (fun x E=>by cases E)) (trodAll_cons_mk (Below.trod Tryz.laidOut (by kernel_rfl) (of_decide_eq_true (by kernel_rfl)) C mO (fun x E=>by cases E)) trodAll_mk0))),rfl,mO.frame _,fun h=>by cases h⟩
theorem lifted (os:Os) (a:os.Started) (H:Type) (enc:TypeId × Value->H) (F:Stop.Interp):
  ReturnsInHanded {} Tryz.checked os 11 .any ((OpenSpec.ofChange Rows.turnedSpec).preRow enc Tryz.prog Tryz.f11 Rows.turnedRow.domain false Rows.turnedRow.laid) (((OpenSpec.ofChange Rows.turnedSpec).at F).post enc Tryz.prog Tryz.f11 false true false false):=by
 obtain ⟨j,i,n,m,l,c,o⟩:=Vv os;refine returnsInHanded_of_row (C:=Tryz.checked) (s:=OpenSpec.ofChange Rows.turnedSpec) Tryz.own a (by kernel_rfl) Tryz.func11
  (witness_row_atRef (enc:=enc) (C:=Tryz.checked) false j #[.slice none 0 0,.int .i64 0,.int .i64 0] i n m l
   (OpenSpec.preRow_of_cond 8 (o H enc) (by kernel_rfl) (fun k p=>by cases p) (by kernel_rfl) c)) ?_
 intro W e g t r b d q _ _ _ hL h _;exact contract H enc W e g t r b d q (Ux hL h)
theorem said:Rows.TurnedSaid:=
 OpenClaim.holds_of_cond 11 Tryz.f11 rfl rfl rfl rfl rfl rfl rfl ⟨rfl,rfl,rfl,rfl,rfl⟩ rfl rfl rfl rfl rfl (by kernel_rfl) Tryz.func11 (by kernel_rfl)
  (of_decide_eq_true (by kernel_rfl)) (by unfold Func.isWrapper;first | (rw [if_pos (by decide +kernel)];kernel_rfl) | (rw [if_neg (by decide +kernel)];exact ⟨rfl,rfl⟩))
  (fun b a H enc _ F=>by rw [OpenClaim.pre_eq_preRow];exact lifted b a H enc F)
theorem plain (f:FuncId) (c:Func) (e:Tryz.pinned.checked.prog.funcNamed Rows.turnedRow.func=some f) (b:Tryz.pinned.checked.prog.funcs[f]? = some c):
  true=Tryz.pinned.checked.prog.looks []/\∀ (j:Nat) t,c.params[j]? = some t->Tryz.pinned.checked.prog.wantsStandIn t=false:=by
 obtain rfl:f=11:=Option.some.inj ((show Tryz.prog.funcNamed Rows.turnedRow.func=some 11 by kernel_rfl).symm.trans e) |>.symm;obtain rfl:c=Tryz.f11:=(Option.some.inj (Tryz.func11.symm.trans b)).symm;refine ⟨by kernel_rfl,fun j t d=>?_⟩;rw [Tryz.params11] at d;have a:t=43\/t=3\/t=3:=by simpa using Array.mem_of_getElem? d
 rcases a with rfl | rfl | rfl
 ·exact (show Tryz.prog.wantsStandIn 43=false by kernel_rfl)
 ·exact (show Tryz.prog.wantsStandIn 3=false by kernel_rfl)
 ·exact (show Tryz.prog.wantsStandIn 3=false by kernel_rfl)
end Tu
theorem turned_holds:Rows.TurnedCardSaid:=
 Claim7.holds_tied_plain_at .later [] _ _ _ _ Tu.said (fun _ h=>by cases h) (by kernel_rfl) (fun _ h=>by cases h) turned_row_tie rfl ⟨rfl,rfl⟩ (by kernel_rfl) rfl Tu.plain (by kernel_rfl)
#print axioms turned_holds
end Go.Proofs.YtceahffmenbibaaGreatDoor
