import Derived.Test.YtkjhlgnpohamnaaGreatDoorSq
import Derived.Test.YtkjhlgnpohamnaaGreatDoorMEu
import Derived.Test.YtkjhlgnpohamnaaGreatDoorLent
import Derived.Lib.SmallJoins
import Derived.Lib.ConvBytes
import Derived.BigRegion
import Derived.Test.YtkjhlgnpohamnaaGreatDoorMEp
namespace Go.Proofs.YtkjhlgnpohamnaaGreatDoor
set_option linter.unusedVariables false
set_option linter.unusedSimpArgs false
open Go.RowKit
section
variable {R : Rw} {f l a d p q : Nat} {e : Ex}
theorem up_bad {r : Int} (h : rd R f (.lev (l + 1)) a d = bad p r) (hl : l < 6) (hr : r ≠ 0) : rd R (f + 1) (.lev l) a d = bad p r:=by
 rw [rd_lev (by omega),h,if_neg (show ¬ (bad p r).r = 0 from hr)]
 rfl
end
theorem low_pr {R : Rw} {f a d : Nat} (hs : (R.is a [33] || R.is a [45]) = false) : rd R (f + 2) (.lev 6) a d = rd R f .pr a d:=by
 rw [rd_lev6 nLe,rd_sg_no hs]
def exT : List Int:=[49,43,50,42,120]
def exF : List Int:=[102,40]
abbrev RT : Rw:=rowT (strOfNums exT) [(3,0,1),(4,1,2),(3,2,3),(4,3,4),(2,4,5)]
abbrev RF : Rw:=rowT (strOfNums exF) [(2,0,1),(4,1,2)]
theorem t0 : RT.wd 0 = ⟨#[49]⟩:=by rfl
theorem t1 : RT.wd 1 = ⟨#[43]⟩:=by rfl
theorem t2 : RT.wd 2 = ⟨#[50]⟩:=by rfl
theorem t4 : RT.wd 4 = ⟨#[120]⟩:=by rfl
theorem t5 : RT.wd 5 = ⟨#[]⟩:=by rfl
theorem f0 : RF.wd 0 = ⟨#[102]⟩:=by rfl
theorem f1 : RF.wd 1 = ⟨#[40]⟩:=by rfl
theorem f2 : RF.wd 2 = ⟨#[]⟩:=by rfl
theorem isT (R : Rw) (i : Nat) (a : List UInt8) (l : List UInt8) {s : ByteArray} (h : R.wd i = s) (hs : s.data.toList = a) : R.is i l = (a == l):=by unfold Rw.is; rw [h,ByteArray.toList_eq,hs]
theorem idb_x : idB ⟨#[120]⟩ = true:=by
 simp [idB,kwB,kws,ByteArray.toList_eq,identL,bts,kd]
 decide
theorem idb_f : idB ⟨#[102]⟩ = true:=by
 simp [idB,kwB,kws,ByteArray.toList_eq,identL,bts,kd]
 decide
theorem idb_e : idB ⟨#[]⟩ = false:=by simp [idB,identL,bts]
theorem sgn_no {l : Nat} {s : ByteArray} (h : ∀ x ∈ [[124,124],[38,38],[61,61],[60],[43],[45],[(42 : UInt8)]],(s.toList == x) = false) : sgnL l s = false:=by
 simp at h
 unfold sgnL
 simp [h]
theorem s5 (l : Nat) : sgnL l (⟨#[]⟩ : ByteArray) = false:=sgn_no (by rw [empty_toList]; decide)
theorem name_T4 : RT.name 4 = (true,⟨#[120]⟩,5):=by
 have h : RT.idn 4 = true:=by show idB (RT.wd 4) = true; rw [t4]; exact idb_x
 have h5 : RT.is 5 [46] = false:=by rw [isT RT 5 [] _ t5 rfl]; decide
 unfold Rw.name
 rw [if_neg (by rw [h]; decide),if_neg (by rw [h5]; decide),t4]
theorem T4 (f : Nat) : rd RT (f + 4) (.lev 6) 4 0 = good (eName 4 ⟨#[120]⟩) 5:=by
 have hi : ∀ l,RT.is 4 l = ([120] == l):=fun l => isT RT 4 [120] l t4 rfl
 have hi5 : RT.is 5 [40] = false:=by rw [isT RT 5 [] _ t5 rfl]; decide
 rw [low_pr (by rw [hi,hi]; decide),rd_pr_named (by decide) (by rw [hi]; decide) (by rw [hi]; decide) (by rw [hi]; decide) (by rw [hi]; decide),rd_nm name_T4 rfl,if_pos rfl,if_neg (by show ¬ RT.is 5 [40] = true; rw [hi5]; decide)]
 rfl
theorem nameF2 : RF.name 2 = (false,⟨#[]⟩,2):=by
 have h : RF.idn 2 = false:=by show idB (RF.wd 2) = false; rw [f2]; exact idb_e
 unfold Rw.name
 rw [if_pos h]
theorem nameF0 : RF.name 0 = (true,⟨#[102]⟩,1):=by
 have h : RF.idn 0 = true:=by show idB (RF.wd 0) = true; rw [f0]; exact idb_f
 have h5 : RF.is 1 [46] = false:=by rw [isT RF 1 [40] _ f1 rfl]; decide
 unfold Rw.name
 rw [if_neg (by rw [h]; decide),if_neg (by rw [h5]; decide),f0]
theorem F2 (f : Nat) : rd RF (f + 9) (.lev 1) 2 1 = bad 2 11:=by
 have hi : ∀ l,RF.is 2 l = ([] == l):=fun l => isT RF 2 [] l f2 rfl
 have h6 : rd RF (f + 4) (.lev 6) 2 1 = bad 2 11:=by
  rw [low_pr (by rw [hi,hi]; decide),rd_pr_named (by decide) (by rw [hi]; decide) (by rw [hi]; decide) (by rw [hi]; decide) (by rw [hi]; decide),rd_nm nameF2 rfl,if_neg (by decide)]
 exact up_bad (up_bad (up_bad (up_bad (up_bad h6 (by omega) (by decide)) (by omega) (by decide)) (by omega) (by decide)) (by omega) (by decide)) (by omega) (by decide)
theorem F0 (f : Nat) : rd RF (f + 20) (.lev 1) 0 0 = bad 2 11:=by
 have hi : ∀ l,RF.is 0 l = ([102] == l):=fun l => isT RF 0 [102] l f0 rfl
 have hi1 : RF.is 1 [40] = true:=by rw [isT RF 1 [40] _ f1 rfl]; decide
 have hi2 : RF.is 2 [41] = false:=by rw [isT RF 2 [] _ f2 rfl]; decide
 have har : rd RF (f + 11) .ar 1 0 = bad 2 11:=by
  rw [rd_ar_yes (by decide) hi2,rd_an (F2 f),if_neg (by decide)]
  rfl
 have h6 : rd RF (f + 15) (.lev 6) 0 0 = bad 2 11:=by
  rw [low_pr (f:=f + 13) (by rw [hi,hi]; decide),rd_pr_named (by decide) (by rw [hi]; decide) (by rw [hi]; decide) (by rw [hi]; decide) (by rw [hi]; decide),rd_nm nameF0 har,if_pos rfl,if_pos hi1,if_neg (by decide)]
  rfl
 exact up_bad (up_bad (up_bad (up_bad (up_bad h6 (by omega) (by decide)) (by omega) (by decide)) (by omega) (by decide)) (by omega) (by decide)) (by omega) (by decide)
theorem cell_mark6 (w : World) (C : Array Value) (t : TypeId) (fr : Nat × Nat) (g j : Nat) (hg : g = w.heap.size) : (w.alloc (.cells C t fr)).cell? ⟨g,j,none⟩ = C[j]?:=by
 subst hg
 exact World.cell?_alloc_mark w C t fr j
theorem Sh.mark6 (w : World) (xs : List Value) (e : TypeId) (fr : Nat × Nat) : Sh (w.alloc (.cells xs.toArray e fr)) (w.heap.size + 1) (some ⟨w.heap.size,0,none⟩) xs.length xs:=
 ⟨rfl,fun _ => ⟨w.heap.size,0,rfl,by omega,fun k u hu => by
  rw [Nat.zero_add,cell_mark6 _ _ _ _ _ _ rfl]
  simpa using hu⟩⟩
theorem convC {w : World} {B : Nat} (xs : List Int) (n : Nat) (hn : xs.length = n) (hB : B ≤ w.heap.size) : ∃ wl,(convert 22 22 (.slice (some ⟨w.heap.size,0,none⟩) n n)).run Tryz.prog (w.alloc (.cells (by8 xs).toArray 5)) = .ok (.slice (some ⟨w.heap.size,0,none⟩) n n) wl ∧
  Sh wl wl.heap.size (some ⟨w.heap.size,0,none⟩) n (by8 xs) ∧ Below B w wl:=by
 refine ⟨w.alloc (.cells (by8 xs).toArray 5 (n,n + 1)),?_,?_,bRf.alloc hB _⟩
 ·have h:=Joins.run_convert_bytes_const_at (P:=Tryz.prog) w 22 5 (by8 xs).toArray n n w.heap.size rfl Tryz.underlying22 (by kernel_rfl)
  have hsz : (by8 xs).toArray.size = n:=by simp [by8,hn]
  rw [hsz] at h
  exact h
 ·have:=Sh.mark6 w (by8 xs) 5 (n,n + 1)
  rw [by8_len,hn] at this
  exact this.more (by simp)
end Go.Proofs.YtkjhlgnpohamnaaGreatDoor
namespace Go.Proofs.YtkjhlgnpohamnaaGreatDoor
set_option linter.unusedVariables false
set_option linter.unusedSimpArgs false
structure Mono (R : Rw) : Prop where
 lt : ∀ i j,i < j → j ≤ R.n → R.ps i < R.ps j
theorem Mono.le {R : Rw} (h : Mono R) {i j : Nat} (hij : i ≤ j) (hj : j ≤ R.n) : R.ps i ≤ R.ps j:=by
 rcases Nat.lt_or_ge i j with h1 | h1
 ·have:=h.lt i j h1 hj; omega
 ·obtain rfl : i = j:=by omega
  omega
end Go.Proofs.YtkjhlgnpohamnaaGreatDoor
namespace Go.Proofs.YtkjhlgnpohamnaaGreatDoor
set_option linter.unusedVariables false
set_option linter.unusedSimpArgs false
open Go.RowKit
end Go.Proofs.YtkjhlgnpohamnaaGreatDoor
namespace Go.Proofs.YtkjhlgnpohamnaaGreatDoor
set_option linter.unusedVariables false
set_option linter.unusedSimpArgs false
def Md.sh (c : Int) : Md → Md
 | .loop l e => .loop l (e.sh c)
 | .an acc => .an (acc.map (Ex.sh c))
 | m => m
end Go.Proofs.YtkjhlgnpohamnaaGreatDoor
namespace Go.Proofs.YtkjhlgnpohamnaaGreatDoor
set_option linter.unusedVariables false
set_option linter.unusedSimpArgs false
open Go.RowKit
section
variable {P : Program} {ops : Array Oper} {rest : List Oper} {o : Oper} {a : Act} {Q : Exit → Act → World → Prop}
end
end Go.Proofs.YtkjhlgnpohamnaaGreatDoor
