import Derived.Test.YtjoclbeoafeebaaSq
import Derived.Test.YtjoclbeoafeebaaMEu
import Derived.Test.YtjoclbeoafeebaaMem
import Derived.Lib.SmallJoins
import Derived.Lib.ConvBytes
import Derived.BigRegion
import Derived.Test.YtjoclbeoafeebaaMEp
namespace Go.Proofs.Ytjoclbeoafeebaa
set_option linter.unusedVariables false
set_option linter.unusedSimpArgs false
open Go.RowKit
section
variable {R:Rw} {f l a d p q:Nat} {e:Ex}
theorem Qf8{r:Int}(h:rd R f (.lev (l+1)) a d=bad p r)(hl:l<6)(hr:r≠0):rd R (f+1) (.lev l) a d=bad p r:=by
 rw [Qiu (by omega),h,if_neg (show ¬ (bad p r).r=0 from hr)]
 rfl
end
theorem low_pr{R:Rw}{f a d:Nat}(hs:(R.is a [33] || R.is a [45])=false):rd R (f+2) (.lev 6) a d=rd R f .pr a d:=by
 rw [Qee nLe,Qiy hs]
def exT:List Int:=[49,43,50,42,120]
def exF:List Int:=[102,40]
abbrev RT:Rw:=Qax (strOfNums exT) [(3,0,1),(4,1,2),(3,2,3),(4,3,4),(2,4,5)]
abbrev RF:Rw:=Qax (strOfNums exF) [(2,0,1),(4,1,2)]
theorem t0:RT.wd 0=⟨#[49]⟩:=by rfl
theorem t1:RT.wd 1=⟨#[43]⟩:=by rfl
theorem t2:RT.wd 2=⟨#[50]⟩:=by rfl
theorem t3:RT.wd 3=⟨#[42]⟩:=by rfl
theorem t4:RT.wd 4=⟨#[120]⟩:=by rfl
theorem f0:RF.wd 0=⟨#[102]⟩:=by rfl
theorem f1:RF.wd 1=⟨#[40]⟩:=by rfl
theorem f2:RF.wd 2=⟨#[]⟩:=by rfl
theorem isT(R:Rw)(i:Nat)(a:List UInt8)(l:List UInt8){s:ByteArray}(h:R.wd i=s)(hs:s.data.toList=a):R.is i l=(a==l):=by unfold Rw.is;rw [h,ByteArray.toList_eq,hs]
theorem idb_e:idB ⟨#[]⟩=false:=by simp [idB,Ku,bts]
theorem sgn_no{l:Nat}{s:ByteArray}(h:∀ x∈[[124,124],[38,38],[61,61],[60],[43],[45],[(42:UInt8)]],(s.toList==x)=false):Qit l s=false:=by
 simp at h
 unfold Qit
 simp [h]
theorem s5(l:Nat):Qit l (⟨#[]⟩:ByteArray)=false:=sgn_no (by rw [Kt];decide)
theorem nameF2:RF.name 2=(false,⟨#[]⟩,2):=by
 have h:RF.idn 2=false:=by show idB (RF.wd 2)=false;rw [f2];exact idb_e
 unfold Rw.name
 rw [if_pos h]
theorem F2(f:Nat):rd RF (f+9) (.lev 1) 2 1=bad 2 11:=by
 have hi:∀ l,RF.is 2 l=([]==l):=fun l=>isT RF 2 [] l f2 rfl
 have h6:rd RF (f+4) (.lev 6) 2 1=bad 2 11:=by
  rw [low_pr (by rw [hi,hi];decide),Qcf (by decide) (by rw [hi];decide) (by rw [hi];decide) (by rw [hi];decide) (by rw [hi];decide),Qei nameF2 rfl,if_neg (by decide)]
 exact Qf8 (Qf8 (Qf8 (Qf8 (Qf8 h6 (by omega) (by decide)) (by omega) (by decide)) (by omega) (by decide)) (by omega) (by decide)) (by omega) (by decide)
end Go.Proofs.Ytjoclbeoafeebaa
namespace Go.Proofs.Ytjoclbeoafeebaa
set_option linter.unusedVariables false
set_option linter.unusedSimpArgs false
structure Mono (R:Rw):Prop where
 lt:∀ i j,i<j→j≤R.n→R.ps i<R.ps j
theorem Mono.le{R:Rw}(h:Mono R){i j:Nat}(hij:i≤j)(hj:j≤R.n):R.ps i≤R.ps j:=by
 rcases Nat.lt_or_ge i j with h1 | h1
 ·have:=h.lt i j h1 hj;omega
 ·obtain rfl:i=j:=by omega
  omega
open Go.RowKit
theorem Kp.setc{w:World}{G:Nat}{x y:Ex}{lv kv v:Value}(h:Kp w G x lv)(j:Nat)(hj:j<6)(hy:∀ i u,(exC y kv)[i]?=some u→(i=j∧u=v)∨(i≠j∧(exC x lv)[i]?=some u)):Kp (w.setCell ⟨G,j,none⟩ v) G y kv:=by
 refine ⟨fun i u hu=>?_,fun i hi=>by rw [World.frozen?_setCell];exact h.fz i hi,by simpa using h.lt⟩
 rw [Nat.zero_add]
 rcases hy i u hu with ⟨rfl,rfl⟩ | ⟨hne,hu'⟩
 ·obtain ⟨z,hz⟩:=Option.isSome_iff_exists.1 (h.there i hj).1
  rw [Nat.zero_add] at hz
  exact World.cell?_setCell_same _ _ _ hz
 ·rw [World.cell?_setCell_other _ _ _ _ (fun e=>by injection e with _ e1;first | exact hne e1 | exact hne e1.symm)]
  have:=h.cs i u hu'
  rwa [Nat.zero_add] at this
theorem Qah(w:World)(G j:Nat)(v:Value):w.grownBy (w.setCell ⟨G,j,none⟩ v) (some G):=⟨rfl,rfl,rfl,by simp,fun k hk hne=>heap_setCell_other _ _ _ _ (fun e=>hne (by rw [e]))⟩
theorem bel_own{B:Nat}{w w1 w2:World}{r:Option Nat}(h:Below B w w1)(k:w1.grownBy w2 r)(hg:∀ j,r=some j→B≤j)(hB:B≤w1.heap.size):Below B w w2:=
 h.trans ⟨k.os,k.tape,k.output,k.size,fun j hj=>k.block j (by omega) (fun e=>by have:=hg j e.symm;omega)⟩
end Go.Proofs.Ytjoclbeoafeebaa
namespace Go.Proofs.Ytjoclbeoafeebaa
set_option linter.unusedVariables false
set_option linter.unusedSimpArgs false
def Md.sh(c:Int):Md→Md
 | .loop l e=>.loop l (e.sh c)
 | .an acc=>.an (acc.map (Ex.sh c))
 | m=>m
open Go.RowKit
section
variable {P:Program} {ops:Array Oper} {rest:List Oper} {o:Oper} {a:Act} {Q:Exit→Act→World→Prop}
end
end Go.Proofs.Ytjoclbeoafeebaa
