/- Kpls Laid. -/
import Derived.Test.YtceahffmenbibaaGreatDoorG48
import Derived.Test.YtceahffmenbibaaGreatDoorG27
import Derived.Test.YtceahffmenbibaaGreatDoorG51
import Derived.Test.YtceahffmenbibaaGreatDoorRows
import Derived.Test.YtceahffmenbibaaGreatDoorChecked
import Derived.WalkKit
import Derived.ProofKit
import Derived.OpenShut
import Derived.Deep.Slices
import Derived.Deep.DeepHandedRow
import Derived.Deep.DeepWitnessRowRef
import Derived.LaidLaws
import Derived.ChangeOld
import Derived.Below
set_option linter.unusedVariables false
set_option linter.unusedSimpArgs false
namespace Go.Proofs.YtceahffmenbibaaGreatDoor
namespace Kp
section
open Go Go.RowKit Go.Deep Rd Go.Proofs.YtceahffmenbibaaGreatDoor.So
def lessons (n:Nat):Nat:=uO n 536870912 24
theorem wN {n:Nat} (hn:n <= 30):lessons n <= 21900000000:=by
 unfold lessons uO;rw [show (2:Nat) ^ 24=16777216 from rfl,show (2:Nat) ^ (24 + 1)=33554432 from rfl]
 omega
theorem qm {n:Nat} {L:List Cl} (hn:n <= 30) (hn0:0 < n) (hz:∀ c ∈ L,∀ x ∈ c,jo n x) (hl:∀ c ∈ L,c.length <= 20001) (hm:L.length <= 20001) (hN:yw L <= 100000000):Uw n L (lessons n):=fun Z kb w lv h1 h2=>by
 have h:=wN hn;have hp:2 ^ n <= 2 ^ 30:=Nat.pow_le_pow_right (by omega) hn
 exact JO hn hn0 (by omega) (by omega) (by decide) w lv L h1 hz hl hm h2 h (by unfold lessons at h;omega)
theorem Ji {s:ByteArray} {V:Nat} {L:List Cl} (hs:s.size <= 1000) (hR:iQ s.data.toList=((V:Int),L,0)) (h1:∀ c ∈ L,c.length <= 1) (w:World) (hg:tN w):
  Calls Tryz.prog 20 #[.string s,.string VX] w fun e w'=>∃ b:Bool,e=.returned (.tuple #[.int .i64 1,.int .i64 (if b=true then 0 else 4)])/\(b=true↔bH L [])/\Below w.heap.size w w':=
 Lu s VX w V L (by unfold maxLen;omega) (by decide) hR h1 (by decide +kernel) (by decide +kernel) hg.1 hg.2
theorem Jr (w:World) (hg:tN w):Calls Tryz.prog 16 #[] w fun e w'=>e=.returned (.bool true)/\Below w.heap.size w w':=by
 refine Js tN (fun h hb=>h.later hb) (fun W hW=>?_) (fun W hW=>?_) (fun W hW=>?_) (fun W hW=>?_) w hg
 ·refine (sD (n:=2) (L:=[[1,-2],[2]]) (mx:=lessons 2) tx1 W hW.1 (by decide) rd1 (qm (by omega) (by omega) in1 (by intro c hc;simp at hc;rcases hc with rfl | rfl <;> decide) (by decide) (by decide))).mono ?_
  rintro e w' ⟨hb,⟨p,rfl,hN⟩ | ⟨g,vals,p,rfl,hgs,hrow,hM⟩⟩
  ·exact absurd sat1 (nW in1 hN)
  ·obtain ⟨e0,e1⟩:=Yt hM;refine ⟨g,⟨p⟩,rfl,?_,?_,hb⟩
   ·have:=hrow.cell (i:=0) (by omega)
    rw [e0] at this;exact this
   ·have:=hrow.cell (i:=1) (by omega)
    rw [e1] at this;exact this
 ·refine (sD (n:=1) (L:=[[1],[-1]]) (mx:=lessons 1) VC W hW.1 (by decide) rd2 (qm (by omega) (by omega) in2 (by intro c hc;simp at hc;rcases hc with rfl | rfl <;> decide) (by decide) (by decide))).mono ?_
  rintro e w' ⟨hb,⟨p,rfl,hN⟩ | ⟨g,vals,p,rfl,hgs,hrow,hM⟩⟩
  ·exact ⟨_,rfl,hb⟩
  ·exact absurd (IM hM) VB
 ·refine (Ji (by decide) rd2 (by decide) W hW).mono ?_
  rintro e w' ⟨b,rfl,hb,hbel⟩;rw [hb.2 VP];exact ⟨rfl,hbel⟩
 ·refine (Ji (by decide) rd3 (by decide) W hW).mono ?_
  rintro e w' ⟨b,rfl,hb,hbel⟩;cases b
  ·exact ⟨rfl,hbel⟩
  ·exact absurd (hb.1 rfl) Vw
theorem JJ {n:Nat} {L:List Cl} (hn:n <= 30) (hn0:0 < n) (hz:∀ c ∈ L,∀ x ∈ c,jo n x) (h4:∀ c ∈ L,c.length <= 4) (hl:L.length <= 100) (hs:∃ t,Sat t L) (w:World) (hg:tN w):
  Calls Tryz.prog 19 #[.string ⟨(dG n L).toArray⟩] w fun e w'=>e=.returned (.tuple #[.bool true,.bool true])/\Below w.heap.size w w':=by
 have hN:=Bd L h4;have ht:=Cn (n:=n) (by omega) (l:=L) (by omega) hz
 have hb:=wN hn;have T:Txt ⟨(dG n L).toArray⟩ n L (lessons n):=by
  refine ⟨?_,?_,by omega,hz,fun c hc=>by have:=h4 c hc;omega,by omega,qm hn hn0 hz (fun c hc=>by have:=h4 c hc;omega) (by omega) (by have:=NP L h4;omega),by omega⟩
  ·exact JV (by omega) (by omega) hz (by omega) (by omega)
  ·show (dG n L).length <= maxLen
   unfold maxLen;omega
 refine (MW tN (fun h hb=>h.later hb) T.n50 T.inv T.len T.many (fun W hW=>sD (n:=n) (L:=L) (mx:=lessons n) _ W hW.1 T.size T.rd T.runs) (fun W hW=>Ni T W hW) (fun p hp=>absurd hs (nW hz hp)) T.big w hg).mono ?_
 rintro e w' ⟨b,rfl,hb,hbel⟩;rw [hb.2 hs];exact ⟨rfl,hbel⟩
theorem Uo (vars:Nat) (r:Int):lW vars r ≠ []:=fun h=>by
 have:=congrArg List.length h;unfold lW at this;rw [fU] at this;simp at this
theorem AA (w:World) (hg:tN w) (rb off rc:Nat) (raw:List Int) (hraw:∀ i (hi:i < raw.length),w.cell? ⟨rb,off + i,none⟩=some (.int .i64 raw[i])) (hr:∀ x ∈ raw,-9223372036854775808 <= x/\x <= 9223372036854775807) (ra:Option Addr) (hra:0 < raw.length->ra=some ⟨rb,off,none⟩)
  (vb vo vc:Nat) (vs:List Bool) (va:Option Addr) (hva:0 < vs.length->va=some ⟨vb,vo,none⟩) (hvc:vs.length <= vc) (hvs:∀ i (hi:i < vs.length),w.cell? ⟨vb,vo + i,none⟩=some (.bool vs[i])):
  Calls Tryz.prog 9 #[.slice ra raw.length rc,.slice va vs.length vc] w fun e w'=>e=.returned (.bool true)/\Below w.heap.size w w':=by
 obtain ⟨n,hn⟩:∃ n,n=if vs.length=0 then 1 else min vs.length 30:=⟨_,rfl⟩
 have hn0:0 < n:=by rw [hn];split <;> omega
 have Zk:n <= 30:=by rw [hn];split <;> omega
 have U6:0 < vs.length->n <= vs.length:=fun h=>by rw [hn,if_neg (by omega)];omega
 obtain ⟨vals,U1⟩:∃ vals:Nat->Bool,vals=fun v=>vs.getD v true:=⟨_,rfl⟩
 have hz:=Xj (raw:=raw) (most:=100) (vars:=n) hn0;have h4:∀ c ∈ bR raw n 100,c.length <= 4:=fun c hc=>by
  obtain ⟨r,rfl⟩:=Bz hc;exact Xk _ _
 have h1:∀ c ∈ bR raw n 100,c ≠ []:=fun c hc=>by
  obtain ⟨r,rfl⟩:=Bz hc;exact Uo _ _
 have hlen:=Un (raw:=raw) (vars:=n) (most:=100);have pz:∀ c ∈ (bR raw n 100).map (dm vals),∀ x ∈ c,jo n x:=fun c hc=>by
  obtain ⟨d,hd,rfl⟩:=List.mem_map.1 hc;exact Dh (hz d hd)
 have p4:∀ c ∈ (bR raw n 100).map (dm vals),c.length <= 4:=fun c hc=>by
  obtain ⟨d,hd,rfl⟩:=List.mem_map.1 hc;rw [zw];exact h4 d hd
 have pl:((bR raw n 100).map (dm vals)).length <= 100:=by rw [List.length_map];exact hlen
 have ps:∃ t,Sat t ((bR raw n 100).map (dm vals)):=by
  refine IM (NZ (vals:=vals) (fun c hc x hx=>(pz c hc x hx).1) ?_)
  unfold jZ;rw [List.all_eq_true];intro c hc;obtain ⟨d,hd,rfl⟩:=List.mem_map.1 hc;exact J4 (h1 d hd) (hz d hd)
 have hN:=Bd _ p4;have ht:=Cn (n:=n) (by omega) (l:=(bR raw n 100).map (dm vals)) (by omega) pz
 refine De tN (fun h hb=>h.later hb) (fun W hW=>Jr W hW) n vals (bR raw n 100) hn0 Zk (fun W hW=>JJ Zk hn0 pz p4 pl ps W hW) w hg rb off rc raw rfl hraw hr ra hra vb vo vc vs.length va hva hvc hn (fun h v hv=>?_) (fun h=>?_) hz h4 h1 hlen (by omega)
 ·have hv':v < vs.length:=by have:=U6 h;omega
  rw [hvs v hv',U1];simp [List.getD,hv']
 ·rw [U1];simp [List.getD,List.eq_nil_of_length_eq_zero h]
end
end Kp
end Go.Proofs.YtceahffmenbibaaGreatDoor
namespace Go.Proofs.YtceahffmenbibaaGreatDoor
open Go Go.ChangeShapes Go.WideShapes Go.ChangeAt Go.RowKit
theorem Tryz.own:ownKnob Tryz.prog.godebug=none:=by kernel_rfl
theorem Tryz.laidOut:laidOutB Tryz.prog=true:=by kernel_rfl
def synS:ByteArray:={ data:=#[105,110,118,97,108,105,100,32,115,121,110,116,97,120] }
def rngS:ByteArray:={ data:=#[118,97,108,117,101,32,111,117,116,32,111,102,32,114,97,110,103,101] }
def putCells (h:Array Obj) (g:Nat) (cs:Array Value):Array Obj:=h.modify g fun
 | .cells _ t frozen=>.cells cs t frozen
 | o=>o
def intCells (k:IntKind) (l:List Int):Array Value:=(l.map fun z=>Value.int k z).toArray
def qQ:List Int:=[0,1,28,2,29,14,24,3,30,22,20,15,25,17,4,8,31,27,13,23,21,19,16,7,26,12,18,6,11,5,10,9]
def qP:List Int:=[0,1,56,2,57,49,28,3,61,58,42,50,38,29,17,4,62,47,59,36,45,43,51,22,53,39,33,30,24,18,12,5,63,55,48,27,60,41,37,16,46,35,44,21,52,32,23,11,54,26,40,15,34,20,31,10,25,14,19,9,13,8,7,6]
def uL:List Int:=[1,10,100,1000,10000,100000,1000000,10000000,100000000,1000000000,10000000000,100000000000,1000000000000,10000000000000,100000000000000,1000000000000000,10000000000000000,100000000000000000,1000000000000000000,10000000000000000000]
end Go.Proofs.YtceahffmenbibaaGreatDoor
