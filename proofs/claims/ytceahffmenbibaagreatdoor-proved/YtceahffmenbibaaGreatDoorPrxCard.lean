/- PrxCard. -/
import Derived.Test.YtceahffmenbibaaGreatDoorCards
import Derived.Test.YtceahffmenbibaaGreatDoorTie
import Derived.Test.YtceahffmenbibaaGreatDoorJ42
import Derived.Lib.LaidTab
import Derived.ChangeSlices
import Derived.ChangeMaps5
set_option linter.unusedVariables false
set_option linter.unusedSimpArgs false
set_option maxRecDepth 100000
namespace Go.Proofs.YtceahffmenbibaaGreatDoor
open Go Go.ChangeShapes Go.WideShapes Go.ChangeAt Go.RowKit
theorem Td (os:Os):∃ a:World,a.os=os/\
  (a.forCall (fun _ _=>0) ⟨#[],#[.slice none 0 0,.string ⟨#[]⟩,.slice none 0 0],[]⟩).variablesRefB Tryz.prog=true/\
  ((a.forCall (fun _ _=>0) ⟨#[],#[.slice none 0 0,.string ⟨#[]⟩,.slice none 0 0],[]⟩).heap.toList.drop Tryz.prog.globals.size).take ((begin Tryz.prog (fun _ _=>0) default).world.heap.size - Tryz.prog.globals.size) =
   (begin Tryz.prog (fun _ _=>0) default).world.heap.toList.drop Tryz.prog.globals.size/\
  Input.okWideB Tryz.prog (a.forCall (fun _ _=>0) ⟨#[],#[.slice none 0 0,.string ⟨#[]⟩,.slice none 0 0],[]⟩) 14 ⟨#[],#[.slice none 0 0,.string ⟨#[]⟩,.slice none 0 0],[]⟩=true/\
  laidMet Tryz.prog Rows.provedRow.laid (a.forCall (fun _ _=>0) ⟨#[],#[.slice none 0 0,.string ⟨#[]⟩,.slice none 0 0],[]⟩).memory/\
  ∀ (H:Type) (enc:TypeId × Value->H),DataW.whole enc Tryz.prog (a.forCall (fun _ _=>0) ⟨#[],#[.slice none 0 0,.string ⟨#[]⟩,.slice none 0 0],[]⟩).memory [43,9,43] [] false [Value.slice none 0 0,Value.string ⟨#[]⟩,Value.slice none 0 0] 8=some ([.nil,.lit (.string []),.nil],[],[]):=
 ⟨(let a:=World.holding Tryz.prog os ⟨#[.cells #[.string Vt] 256,.cells #[.string VA] 256],#[],[]⟩
   let h0:=putCells a.heap 2 #[.iface 254 (.pointer (some ⟨(World.holding Tryz.prog default ⟨#[],#[],[]⟩).heap.size,0,none⟩))]
   let h1:=putCells h0 3 #[.iface 254 (.pointer (some ⟨(World.holding Tryz.prog default ⟨#[],#[],[]⟩).heap.size + 1,0,none⟩))]
   let h2:=putCells h1 4 (intCells .u8 tF)
   let h3:=putCells h2 5 (intCells .u8 tu)
   let h4:=putCells h3 1 (intCells .u64 wC)
   { a with heap:=h4 }),
  rfl,by kernel_rfl,by kernel_rfl,by kernel_rfl,laidMet_of_run' 8 (by kernel_rfl) (by kernel_rfl),fun _ _=>by kernel_rfl⟩
namespace Pc
open Go Go.ChangeShapes Go.WideShapes Go.ChangeAt Go.RowKit Rd Kp
theorem Ra {H:Type} {enc:TypeId × Value->H} {w:World} {j:Nat->Bool} {o:Bool} {p:Nat} {a:Option Addr} {len cap:Nat} {x:DataW H × List MemPlace}
  (h:DataW.trod enc Tryz.prog w 0 j o p 43 [.slice a len cap]=some x):∃ (d:List Int) (t off:Nat),len=d.length/\(∀ i (n:i < d.length),w.cell? ⟨t,off + i,none⟩=some (.int .i64 d[i]))/\(∀ x ∈ d,-9223372036854775808 <= x/\x <= 9223372036854775807)/\(0 < d.length->a=some ⟨t,off,none⟩):=by
 rcases open_ints Tryz.underlying43 Tryz.underlying3 (by kernel_rfl) h with ⟨f,_⟩ | ⟨v,l,c,m,f,_,F,E,y,k,g,q⟩
 ·simp only [List.cons.injEq,Value.slice.injEq,and_true] at f;exact ⟨[],0,0,f.2.1,fun i n=>absurd n (by simp),fun x k=>(by cases k),fun h=>absurd h (by simp)⟩
 ·simp only [List.cons.injEq,Value.slice.injEq,and_true] at f;obtain ⟨rfl,rfl,rfl⟩:=f;have z:len <= m.length:=by rw [y];split <;> omega
  have r:(m.take len).length=len:=by simp;omega
  by_cases D:len=0
  ·subst D;exact ⟨[],0,0,rfl,fun i n=>absurd n (by simp),fun x k=>(by cases k),fun h=>absurd h (by simp)⟩
  ·have u:v.spot=none:=by simpa [Addr.add] using World.cell?_spot (g 0 (by omega))
   obtain ⟨b,off,s⟩:=v;simp only at u;subst u;refine ⟨m.take len,b,off,r.symm,fun i n=>?_,fun x k=>?_,fun _=>rfl⟩
   ·have:=g i (by omega);rw [List.getElem_take];have e:m.getD i 0=m[i]'(by omega):=by rw [List.getD_eq_getElem?_getD,List.getElem?_eq_getElem (by omega)];rfl
    rw [e] at this;simpa [Addr.add_lit] using this
   ·have:=q x (List.mem_of_mem_take k);simp only [Lit.wf] at this;have C:IntKind.i64.min=-9223372036854775808:=rfl;have B:IntKind.i64.max=9223372036854775807:=rfl;simp [C,B] at this;omega
theorem Ti:(Tryz.prog.globals[1]?).map (·.type)=some 232:=by kernel_rfl
def db : String := Rows.provedRow.named.getD 3 ""
theorem Bi:Tryz.prog.globalNamed db=some 5:=by kernel_rfl
theorem TK:(Tryz.prog.globals[5]?).map (·.type)=some 268:=by kernel_rfl
theorem Rf {W:World} (hL:laidMetH Tryz.prog Rows.provedRow.laid W) (e:W.ShapedOpen Tryz.prog):vE W:=by
 obtain ⟨m,t⟩:∃ m,W.cell? ⟨0,0,none⟩=some (.int .i64 m):=Tryz.Np.s1_3 W e;have h:laidMet Tryz.prog Rows.provedRow.laid W:=hL;obtain ⟨y,⟨_,_,_,_,_,_,_,_,_,_,⟨g2,v,u,l,p2,x,f,c,a,i,⟨z,w,B,r,p,q,g,d,b,hd,_,_⟩,_⟩,_⟩,_⟩:=h;have T:Lib.TabIs Tryz.prog W db .u8 (Lib.deBruijn64tab.map fun (n:Nat)=>(n:Int)):=by
  obtain rfl:=Option.some.inj (Bi.symm.trans f);obtain rfl:=Option.some.inj (TK.symm.trans c);have:=Lib.cells_of_tab (k:=.u8) (zs:=Lib.deBruijn64tab.map fun (n:Nat)=>(n:Int)) Tryz.underlying268 Tryz.underlying5 (by kernel_rfl) (by kernel_rfl) i;show World.var? _ _ _=_
  rw [<- this];exact a
 have s:TabAt 5 Lib.deBruijn64tab W:=fun j o=>by
  have:=T.cell Bi j (by simpa using o);rw [this]
  congr 2
  rw [List.getD_eq_getElem?_getD,List.getD_eq_getElem?_getD,List.getElem?_map,List.getElem?_eq_getElem o];rfl
 have lt:(5:Nat) < W.heap.size:=block_lt_of_cell (s 0 (by decide));refine ⟨⟨⟨m,t⟩,?_,by omega⟩,s,lt⟩;obtain rfl:=Option.some.inj (Am.symm.trans g);obtain rfl:=Option.some.inj (Ti.symm.trans d);have:=Lib.cells_of_tab (k:=.u64) (zs:=Lib.pow10Tab) Tryz.underlying232 Tryz.underlying82 (by kernel_rfl) (by kernel_rfl) hd;show World.var? _ _ _=_
 rw [<- this];exact b
theorem contract (H:Type) (enc:TypeId × Value->H) (W:World) (E:Nat) (b:Array Value) (ds gs:List (DataW H)) (o:List MemPlace)
  (g:∀ (j:Nat) t v,Tryz.f14.params[j]? = some t->b[j]? = some v->Value.okWide Tryz.prog W .any E t v)
  (Z:DataW.Whole enc Tryz.prog Tryz.f14.params.toList Rows.provedSpec.vars false W b.toList ds gs o)
  (hg:vE W):
  Calls Tryz.prog 14 b W fun e W'=>∃ v,e=.returned v/\Rows.provedSpec.post enc Tryz.prog Tryz.f14 false true false false W b v W':=by
 have P:=Z;obtain ⟨p,q,B,hV,rfl,af,ae⟩:=Z;have hA:DataW.TrodAll enc Tryz.prog W 0 (fun _=>true) true Tryz.f14.params.toList b.toList ds p:=B;rw [Tryz.params14] at hA g;obtain ⟨S,ad,d0,ai,p0,q0,O,rfl,rfl,h0,r0⟩:=trodAll_cons hA;obtain ⟨R,ac,d1,ah,p1,q1,rfl,rfl,rfl,h1,r1⟩:=trodAll_cons r0;obtain ⟨Q,ab,d2,ag,p2,q2,rfl,rfl,rfl,h2,r2⟩:=trodAll_cons r1;obtain ⟨rfl,rfl,rfl⟩:=trodAll_nil r2;obtain rfl:b=#[S,R,Q]:=by cases b;simp_all
 obtain ⟨rfl,rfl⟩:=trodVars_none hV;obtain ⟨a0,V,D,rfl⟩:=okWide_slice Tryz.underlying43 (g 0 43 S rfl rfl);obtain ⟨r,rfl,rfl,rfl,M⟩:=Go.ChangeMaps.open_string Tryz.underlying9 (g 1 9 R rfl rfl) h1;obtain ⟨a2,U,C,rfl⟩:=okWide_slice Tryz.underlying43 (g 2 43 Q rfl rfl);have Y:=h0;have X:=h2;have K:∀ x ∈ p0,x.block < W.heap.size:=by obtain ⟨m,N⟩:=Y;exact DataW.trod_lt m _ _ _ N
 have J:∀ x ∈ p2,x.block < W.heap.size:=by obtain ⟨m,N⟩:=X;exact DataW.trod_lt m _ _ _ N
 have w:∀ {a:Option Addr} {len cap:Nat} {d:DataW H} {ps:List MemPlace},DataW.Trod enc Tryz.prog W 0 (fun _=>true) true 43 (.slice a len cap) d ps->∃ (c:List Int) (G off:Nat),len=c.length/\(∀ i (hi:i < c.length),W.cell? ⟨G,off + i,none⟩=some (.int .i64 c[i]))/\(∀ x ∈ c,-9223372036854775808 <= x/\x <= 9223372036854775807)/\(0 < c.length->a=some ⟨G,off,none⟩):=fun h=>by
  obtain ⟨aa,hf⟩:=h;exact Ra hf
 obtain ⟨c,G,off,z,u,l,L⟩:=w h0;obtain ⟨more,mb,I,s,n,k,y⟩:=w h2;subst z s;clear B;refine (Kp.D7 W hg c more G off D mb I C r M u l a0 L n k a2 y).mono fun e W' ⟨he,ny⟩=>?_
 subst he;exact ⟨_,rfl,_,_,_,[],_,[],P,trodAll_mk1 (shut_bool Tryz.underlying4 _),(trodAll_cons_mk (Below.trod Tryz.laidOut (by kernel_rfl) (of_decide_eq_true (by kernel_rfl)) Y ny K) (trodAll_cons_mk (Below.trod Tryz.laidOut (by kernel_rfl) (of_decide_eq_true (by kernel_rfl)) h1 ny (fun x hx=>by cases hx)) (trodAll_cons_mk (Below.trod Tryz.laidOut (by kernel_rfl) (of_decide_eq_true (by kernel_rfl)) X ny J) trodAll_mk0))),rfl,ny.frame _,fun h=>by cases h⟩
theorem lifted (os:Os) (a:os.Started) (H:Type) (enc:TypeId × Value->H) (F:Stop.Interp):
  ReturnsInHanded {} Tryz.checked os 14 .any ((OpenSpec.ofChange Rows.provedSpec).preRow enc Tryz.prog Tryz.f14 Rows.provedRow.domain false Rows.provedRow.laid) (((OpenSpec.ofChange Rows.provedSpec).at F).post enc Tryz.prog Tryz.f14 false true false false):=by
 obtain ⟨j,i,n,m,l,c,o⟩:=Td os;refine returnsInHanded_of_row (C:=Tryz.checked) (s:=OpenSpec.ofChange Rows.provedSpec) Tryz.own a (by kernel_rfl) Tryz.func14
  (witness_row_atRef (enc:=enc) (C:=Tryz.checked) false j #[.slice none 0 0,.string ⟨#[]⟩,.slice none 0 0] i n m l
   (OpenSpec.preRow_of_cond 8 (o H enc) (by kernel_rfl) (fun k p=>by cases p) (by kernel_rfl) c)) ?_
 intro W e g t r b d q _ _ _ hL h _;exact contract H enc W e g t r b d q (Rf hL h)
theorem said:Rows.ProvedSaid:=
 OpenClaim.holds_of_cond 14 Tryz.f14 rfl rfl rfl rfl rfl rfl rfl ⟨rfl,rfl,rfl,rfl,rfl⟩ rfl rfl rfl rfl rfl (by kernel_rfl) Tryz.func14 (by kernel_rfl)
  (of_decide_eq_true (by kernel_rfl)) (by unfold Func.isWrapper;first | (rw [if_pos (by decide +kernel)];kernel_rfl) | (rw [if_neg (by decide +kernel)];exact ⟨rfl,rfl⟩))
  (fun b a H enc _ F=>by rw [OpenClaim.pre_eq_preRow];exact lifted b a H enc F)
theorem plain (f:FuncId) (c:Func) (e:Tryz.pinned.checked.prog.funcNamed Rows.provedRow.func=some f) (b:Tryz.pinned.checked.prog.funcs[f]? = some c):
  true=Tryz.pinned.checked.prog.looks []/\∀ (j:Nat) t,c.params[j]? = some t->Tryz.pinned.checked.prog.wantsStandIn t=false:=by
 obtain rfl:f=14:=Option.some.inj ((show Tryz.prog.funcNamed Rows.provedRow.func=some 14 by kernel_rfl).symm.trans e) |>.symm;obtain rfl:c=Tryz.f14:=(Option.some.inj (Tryz.func14.symm.trans b)).symm;refine ⟨by kernel_rfl,fun j t d=>?_⟩;rw [Tryz.params14] at d;have a:t=43\/t=9\/t=43:=by simpa using Array.mem_of_getElem? d
 rcases a with rfl | rfl | rfl
 ·exact (show Tryz.prog.wantsStandIn 43=false by kernel_rfl)
 ·exact (show Tryz.prog.wantsStandIn 9=false by kernel_rfl)
 ·exact (show Tryz.prog.wantsStandIn 43=false by kernel_rfl)
end Pc
theorem proved_holds:Rows.ProvedCardSaid:=
 Claim7.holds_tied_plain_at .later [] _ _ _ _ Pc.said (fun _ h=>by cases h) (by kernel_rfl) (fun _ h=>by cases h) proved_row_tie rfl ⟨rfl,rfl⟩ (by kernel_rfl) rfl Pc.plain (by kernel_rfl)
#print axioms proved_holds
end Go.Proofs.YtceahffmenbibaaGreatDoor
