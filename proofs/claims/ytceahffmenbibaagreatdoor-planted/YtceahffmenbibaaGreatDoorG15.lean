/- Pwst. -/
import Derived.Test.YtceahffmenbibaaGreatDoorG14
set_option linter.unusedVariables false
set_option linter.unusedSimpArgs false
namespace Go.Proofs.YtceahffmenbibaaGreatDoor
namespace Rd
section
open Go Go.RowKit Go.Deep
variable {B sb mb:Nat} {w w':World} {cv:Value} {gone:Int} {u:Key} {wv:Nat->Value} {es:List aX} {wl:Nat->List Nat}
theorem Gy (xs:List Nat) (i:Nat):kM (xs.take i)=(kM xs).take i:=by unfold kM;rw [List.map_take]
theorem J9 {w:World} {B e:Nat} {a:Option Addr} {n k cap:Nat} {xs:List Value} (h:w.ownsRow B e 1 (.slice a n cap) n xs) (hk:k <= n):w.ownsRow B e 1 (.slice a k cap) k (xs.take k):=by
 have hl:=h.1;refine ⟨by rw [List.length_take,hl];omega,?_⟩
 rcases h.2 with ⟨e2,h0⟩ | ⟨g,cap',cur,e2,hb,hg,hn,hm,hs,ht⟩
 ·cases e2
  have:k=0:=by omega
  subst this;exact .inl ⟨rfl,rfl⟩
 ·cases e2
  refine .inr ⟨g,cap,cur,rfl,hb,hg,by omega,hm,hs,?_⟩
  rw [<- ht,List.take_take];congr 1;omega
theorem di.cutL {p n cap k0:Nat} {a:Option Addr} (h:di B sb w cv mb gone u wv es wl) (hp:p < 128) (hv:wv p=.slice a n cap) (hk:k0 <= (wl p).length):
  di B sb (w.setCell ⟨sb,5 + p,none⟩ (.slice a k0 cap)) cv mb gone u (fun k=>if k=p then .slice a k0 cap else wv k) es (fun k=>if k=p then (wl p).take k0 else wl k):=by
 have hw:=h.nO p hp;have hn:n=(wl p).length:=by
  obtain ⟨a',c',e⟩:=aH hw;rw [hv] at e;cases e;rfl
 have own:w.ownsRow B 3 1 (.slice a k0 cap) k0 (kM ((wl p).take k0)):=by
  rw [Gy];rw [hv,hn] at hw;exact J9 hw hk
 have blk:(Value.slice a k0 cap).ownBlock=(wv p).ownBlock:=by rw [hv];cases a <;> rfl
 have hl:((wl p).take k0).length=k0:=by rw [List.length_take];omega
 exact {
  row:=(h.row.set (5 + p) _).congr fun i hi=>by
   match i with
   | 0=>rw [if_neg (by omega)];rfl
   | 1=>rw [if_neg (by omega)];rfl
   | 2=>rw [if_neg (by omega)];rfl
   | 3=>rw [if_neg (by omega)];rfl
   | 4=>rw [if_neg (by omega)];rfl
   | k + 5=>
    by_cases e:k=p
    ·subst e;simp [gT,Nat.add_comm]
    ·have:¬ (k + 5=5 + p):=by omega
     simp [gT,this,e]
  cls:=ownsRow_setCell_other h.cls (fun e=>h.eT.2.1 sb e rfl) _
  map:=h.map.kept (Below.heap_setCell _ _ _ _ h.eT.1)
  nO:=fun k hk'=>by
   by_cases e:k=p
   ·subst e;simp only [if_true];rw [hl];exact ownsRow_setCell_other own (fun e=>h.eT.2.2 k hk' sb (by rw [<- blk];exact e) rfl) _
   ·simp only [e,if_false];exact ownsRow_setCell_other (h.nO k hk') (fun e=>h.eT.2.2 k hk' sb e rfl) _
  apart:=fun k k' hk hk' hne=>by
   have e1:∀ x,(if x=p then Value.slice a k0 cap else wv x).ownBlock=(wv x).ownBlock:=fun x=>by
    split
    ·rename_i e;rw [e];exact blk
    ·rfl
   rw [e1,e1];exact h.apart k k' hk hk' hne
  fZ:=h.fZ
  Ce:=h.Ce }
def mix (kl af:List Nat):List Nat:=kl ++ af.drop kl.length
theorem AZ (af:List Nat):mix [] af=af:=rfl
theorem ru {kl af:List Nat}:(mix kl af).take kl.length=kl:=by unfold mix;simp
end
end Rd
end Go.Proofs.YtceahffmenbibaaGreatDoor
