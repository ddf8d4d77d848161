import Derived.Test.YtkjhlgnpohamnaaGreatDoorSq
import Derived.Test.YtkjhlgnpohamnaaGreatDoorMEu
import Derived.Test.YtkjhlgnpohamnaaGreatDoorLent
import Derived.Lib.SmallJoins
import Derived.Lib.ConvBytes
import Derived.BigRegion
import Derived.Test.YtkjhlgnpohamnaaGreatDoorMEp
namespace Go.Proofs.YtkjhlgnpohamnaaGreatDoor
set_option linter.unusedVariables false
set_option linter.unusedSimpArgs false
open Go.RowKit
section
variable {R : Rw} {f l a d p q : Nat} {e : Ex}
theorem up_bad {r : Int} (h : rd R f (.lev (l + 1)) a d = bad p r) (hl : l < 6) (hr : r ≠ 0) : rd R (f + 1) (.lev l) a d = bad p r:=by
 rw [rd_lev (by omega),h,if_neg (show ¬ (bad p r).r = 0 from hr)]
 rfl
end
theorem low_pr {R : Rw} {f a d : Nat} (hs : (R.is a [33] || R.is a [45]) = false) : rd R (f + 2) (.lev 6) a d = rd R f .pr a d:=by
 rw [rd_lev6 nLe,rd_sg_no hs]
def exT : List Int:=[49,43,50,42,120]
def exF : List Int:=[102,40]
abbrev RT : Rw:=rowT (strOfNums exT) [(3,0,1),(4,1,2),(3,2,3),(4,3,4),(2,4,5)]
abbrev RF : Rw:=rowT (strOfNums exF) [(2,0,1),(4,1,2)]
theorem t0 : RT.wd 0 = ⟨#[49]⟩:=by rfl
theorem t1 : RT.wd 1 = ⟨#[43]⟩:=by rfl
theorem t2 : RT.wd 2 = ⟨#[50]⟩:=by rfl
theorem t4 : RT.wd 4 = ⟨#[120]⟩:=by rfl
theorem t5 : RT.wd 5 = ⟨#[]⟩:=by rfl
theorem f0 : RF.wd 0 = ⟨#[102]⟩:=by rfl
theorem f1 : RF.wd 1 = ⟨#[40]⟩:=by rfl
theorem f2 : RF.wd 2 = ⟨#[]⟩:=by rfl
theorem isT (R : Rw) (i : Nat) (a : List UInt8) (l : List UInt8) {s : ByteArray} (h : R.wd i = s) (hs : s.data.toList = a) : R.is i l = (a == l):=by unfold Rw.is; rw [h,ByteArray.toList_eq,hs]
theorem idb_x : idB ⟨#[120]⟩ = true:=by
 simp [idB,kwB,kws,ByteArray.toList_eq,identL,bts,kd]
 decide
theorem idb_f : idB ⟨#[102]⟩ = true:=by
 simp [idB,kwB,kws,ByteArray.toList_eq,identL,bts,kd]
 decide
theorem idb_e : idB ⟨#[]⟩ = false:=by simp [idB,identL,bts]
theorem sgn_no {l : Nat} {s : ByteArray} (h : ∀ x ∈ [[124,124],[38,38],[61,61],[60],[43],[45],[(42 : UInt8)]],(s.toList == x) = false) : sgnL l s = false:=by
 simp at h
 unfold sgnL
 simp [h]
theorem s5 (l : Nat) : sgnL l (⟨#[]⟩ : ByteArray) = false:=sgn_no (by rw [empty_toList]; decide)
theorem name_T4 : RT.name 4 = (true,⟨#[120]⟩,5):=by
 have h : RT.idn 4 = true:=by show idB (RT.wd 4) = true; rw [t4]; exact idb_x
 have h5 : RT.is 5 [46] = false:=by rw [isT RT 5 [] _ t5 rfl]; decide
 unfold Rw.name
 rw [if_neg (by rw [h]; decide),if_neg (by rw [h5]; decide),t4]
theorem T4 (f : Nat) : rd RT (f + 4) (.lev 6) 4 0 = good (eName 4 ⟨#[120]⟩) 5:=by
 have hi : ∀ l,RT.is 4 l = ([120] == l):=fun l => isT RT 4 [120] l t4 rfl
 have hi5 : RT.is 5 [40] = false:=by rw [isT RT 5 [] _ t5 rfl]; decide
 rw [low_pr (by rw [hi,hi]; decide),rd_pr_named (by decide) (by rw [hi]; decide) (by rw [hi]; decide) (by rw [hi]; decide) (by rw [hi]; decide),rd_nm name_T4 rfl,if_pos rfl,if_neg (by show ¬ RT.is 5 [40] = true; rw [hi5]; decide)]
 rfl
theorem nameF2 : RF.name 2 = (false,⟨#[]⟩,2):=by
 have h : RF.idn 2 = false:=by show idB (RF.wd 2) = false; rw [f2]; exact idb_e
 unfold Rw.name
 rw [if_pos h]
theorem nameF0 : RF.name 0 = (true,⟨#[102]⟩,1):=by
 have h : RF.idn 0 = true:=by show idB (RF.wd 0) = true; rw [f0]; exact idb_f
 have h5 : RF.is 1 [46] = false:=by rw [isT RF 1 [40] _ f1 rfl]; decide
 unfold Rw.name
 rw [if_neg (by rw [h]; decide),if_neg (by rw [h5]; decide),f0]
theorem F2 (f : Nat) : rd RF (f + 9) (.lev 1) 2 1 = bad 2 11:=by
 have hi : ∀ l,RF.is 2 l = ([] == l):=fun l => isT RF 2 [] l f2 rfl
 have h6 : rd RF (f + 4) (.lev 6) 2 1 = bad 2 11:=by
  rw [low_pr (by rw [hi,hi]; decide),rd_pr_named (by decide) (by rw [hi]; decide) (by rw [hi]; decide) (by rw [hi]; decide) (by rw [hi]; decide),rd_nm nameF2 rfl,if_neg (by decide)]
 exact up_bad (up_bad (up_bad (up_bad (up_bad h6 (by omega) (by decide)) (by omega) (by decide)) (by omega) (by decide)) (by omega) (by decide)) (by omega) (by decide)
theorem F0 (f : Nat) : rd RF (f + 20) (.lev 1) 0 0 = bad 2 11:=by
 have hi : ∀ l,RF.is 0 l = ([102] == l):=fun l => isT RF 0 [102] l f0 rfl
 have hi1 : RF.is 1 [40] = true:=by rw [isT RF 1 [40] _ f1 rfl]; decide
 have hi2 : RF.is 2 [41] = false:=by rw [isT RF 2 [] _ f2 rfl]; decide
 have har : rd RF (f + 11) .ar 1 0 = bad 2 11:=by
  rw [rd_ar_yes (by decide) hi2,rd_an (F2 f),if_neg (by decide)]
  rfl
 have h6 : rd RF (f + 15) (.lev 6) 0 0 = bad 2 11:=by
  rw [low_pr (f:=f + 13) (by rw [hi,hi]; decide),rd_pr_named (by decide) (by rw [hi]; decide) (by rw [hi]; decide) (by rw [hi]; decide) (by rw [hi]; decide),rd_nm nameF0 har,if_pos rfl,if_pos hi1,if_neg (by decide)]
  rfl
 exact up_bad (up_bad (up_bad (up_bad (up_bad h6 (by omega) (by decide)) (by omega) (by decide)) (by omega) (by decide)) (by omega) (by decide)) (by omega) (by decide)
theorem cell_mark6 (w : World) (C : Array Value) (t : TypeId) (fr : Nat × Nat) (g j : Nat) (hg : g = w.heap.size) : (w.alloc (.cells C t fr)).cell? ⟨g,j,none⟩ = C[j]?:=by
 subst hg
 exact World.cell?_alloc_mark w C t fr j
theorem Sh.mark6 (w : World) (xs : List Value) (e : TypeId) (fr : Nat × Nat) : Sh (w.alloc (.cells xs.toArray e fr)) (w.heap.size + 1) (some ⟨w.heap.size,0,none⟩) xs.length xs:=
 ⟨rfl,fun _ => ⟨w.heap.size,0,rfl,by omega,fun k u hu => by
  rw [Nat.zero_add,cell_mark6 _ _ _ _ _ _ rfl]
  simpa using hu⟩⟩
theorem convC {w : World} {B : Nat} (xs : List Int) (n : Nat) (hn : xs.length = n) (hB : B ≤ w.heap.size) : ∃ wl,(convert 22 22 (.slice (some ⟨w.heap.size,0,none⟩) n n)).run Tryz.prog (w.alloc (.cells (by8 xs).toArray 5)) = .ok (.slice (some ⟨w.heap.size,0,none⟩) n n) wl ∧
  Sh wl wl.heap.size (some ⟨w.heap.size,0,none⟩) n (by8 xs) ∧ Below B w wl:=by
 refine ⟨w.alloc (.cells (by8 xs).toArray 5 (n,n + 1)),?_,?_,bRf.alloc hB _⟩
 ·have h:=Joins.run_convert_bytes_const_at (P:=Tryz.prog) w 22 5 (by8 xs).toArray n n w.heap.size rfl Tryz.underlying22 (by kernel_rfl)
  have hsz : (by8 xs).toArray.size = n:=by simp [by8,hn]
  rw [hsz] at h
  exact h
 ·have:=Sh.mark6 w (by8 xs) 5 (n,n + 1)
  rw [by8_len,hn] at this
  exact this.more (by simp)
end Go.Proofs.YtkjhlgnpohamnaaGreatDoor
namespace Go.Proofs.YtkjhlgnpohamnaaGreatDoor
set_option linter.unusedVariables false
set_option linter.unusedSimpArgs false
structure Mono (R : Rw) : Prop where
 lt : ∀ i j,i < j → j ≤ R.n → R.ps i < R.ps j
theorem Mono.le {R : Rw} (h : Mono R) {i j : Nat} (hij : i ≤ j) (hj : j ≤ R.n) : R.ps i ≤ R.ps j:=by
 rcases Nat.lt_or_ge i j with h1 | h1
 ·have:=h.lt i j h1 hj; omega
 ·obtain rfl : i = j:=by omega
  omega
end Go.Proofs.YtkjhlgnpohamnaaGreatDoor
namespace Go.Proofs.YtkjhlgnpohamnaaGreatDoor
set_option linter.unusedVariables false
set_option linter.unusedSimpArgs false
open Go.RowKit
end Go.Proofs.YtkjhlgnpohamnaaGreatDoor
namespace Go.Proofs.YtkjhlgnpohamnaaGreatDoor
set_option linter.unusedVariables false
set_option linter.unusedSimpArgs false
theorem bin_sh (c : Int) (s : ByteArray) (x y : Ex) : (eBin s x y).sh c = eBin s (x.sh c) (y.sh c):=by
 unfold eBin
 rw [Ex.sh_eq,Ex.sh_a]
 rfl
theorem un_sh (c a : Int) (s : ByteArray) (x : Ex) : (eUn a s x).sh c = eUn (a + c) s (x.sh c):=by unfold eUn; rw [Ex.sh_eq]; rfl
theorem open_sh (c a : Int) (s : ByteArray) (x : Ex) : (eOpen a s x).sh c = eOpen (a + c) s (x.sh c):=by unfold eOpen; rw [Ex.sh_eq]; rfl
theorem call_sh (c a : Int) (s : ByteArray) (l : List Ex) : (eCall a s l).sh c = eCall (a + c) s (l.map (Ex.sh c)):=by unfold eCall; rw [Ex.sh_eq]
theorem name_sh (c a : Int) (s : ByteArray) : (eName a s).sh c = eName (a + c) s:=by unfold eName; rw [Ex.sh_eq]; rfl
theorem num_sh (c a v : Int) : (eNum a v).sh c = eNum (a + c) v:=by unfold eNum; rw [Ex.sh_eq]; rfl
theorem bool_sh (c a v : Int) : (eBool a v).sh c = eBool (a + c) v:=by unfold eBool; rw [Ex.sh_eq]; rfl
structure Late (R R' : Rw) (c : Int) : Prop where
 wd : ∀ i,R'.wd i = R.wd i
 kd : ∀ i,R'.kd i = R.kd i
 idn : ∀ i,R'.idn i = R.idn i
 ps : ∀ i,R'.ps i = R.ps i + c
def Md.sh (c : Int) : Md → Md
 | .loop l e => .loop l (e.sh c)
 | .an acc => .an (acc.map (Ex.sh c))
 | m => m
def LateR (c : Int) (g g' : Gt) : Prop:=g'.r = g.r ∧ g'.p = g.p ∧ (g.r = 0 → g'.e = g.e.sh c)
def LateM (c : Int) (m : Md) (g g' : Gt) : Prop:=g'.r = g.r ∧ g'.p = g.p ∧ (g.r = 0 → match m with
 | .ar => g'.e.l = g.e.l.map (Ex.sh c)
 | .an _ => g'.e.l = g.e.l.map (Ex.sh c)
 | _ => g'.e = g.e.sh c)
theorem late_badM (c : Int) (m : Md) (p : Nat) {r : Int} (hr : r ≠ 0) : LateM c m (bad p r) (bad p r):=⟨rfl,rfl,fun h => absurd h hr⟩
theorem late_bad (c : Int) (p : Nat) {r : Int} (hr : r ≠ 0) : LateR c (bad p r) (bad p r):=⟨rfl,rfl,fun h => absurd h hr⟩
theorem late_good (c : Int) (e : Ex) (p : Nat) : LateR c (good e p) (good (e.sh c) p):=⟨rfl,rfl,fun _ => rfl⟩
theorem late_hld (c : Int) (e : Ex) (p q : Nat) : LateR c (hld e p q) (hld (e.sh c) p q):=by
 unfold hld
 rw [Ex.sh_ht]
 by_cases h : 32 < e.ht
 ·rw [if_pos h,if_pos h]; exact late_bad c q (by decide)
 ·rw [if_neg h,if_neg h]; exact late_good c e p
theorem late_of_bad {c : Int} {g g' : Gt} (h : LateR c g g') (h0 : g.r ≠ 0) : LateR c (bad g.p g.r) (bad g'.p g'.r):=by
 rw [h.1,h.2.1]; exact late_bad c _ h0
theorem rd_late {R R' : Rw} {c : Int} (hL : Late R R' c) : ∀ (f : Nat) (m : Md) (a d : Nat),LateM c m (rd R f m a d) (rd R' f (m.sh c) a d):=by
 intro f
 have his : ∀ i l,R'.is i l = R.is i l:=fun i l => by unfold Rw.is; rw [hL.wd]
 have hname : ∀ a,R'.name a = R.name a:=fun a => by
  unfold Rw.name
  rw [hL.idn,hL.idn,his,hL.wd,hL.wd]
 induction f with
 | zero => intro m a d; rw [rd_0,rd_0]; exact late_badM c m a (by decide)
 | succ f ih =>
  intro m a d
  cases m with
  | lev l =>
   show LateR c (rd R (f + 1) (.lev l) a d) (rd R' (f + 1) (.lev l) a d)
   by_cases h6 : 6 ≤ l
   ·rw [rd_lev6 h6,rd_lev6 h6]; exact ih .sg a d
   ·rw [rd_lev h6,rd_lev h6]
    have h1 : LateR c (rd R f (.lev (l + 1)) a d) (rd R' f (.lev (l + 1)) a d):=ih (.lev (l + 1)) a d
    have h2:=fun e q => ih (.loop l e) q d
    generalize rd R f (.lev (l + 1)) a d = g at h1 ⊢
    generalize rd R' f (.lev (l + 1)) a d = g' at h1 ⊢
    by_cases h0 : g.r = 0
    ·rw [if_pos h0,if_pos (show g'.r = 0 by rw [h1.1]; exact h0),h1.2.1,h1.2.2 h0]
     exact h2 g.e g.p
    ·rw [if_neg h0,if_neg (show ¬ g'.r = 0 by rw [h1.1]; exact h0)]; exact late_of_bad h1 h0
  | loop l e =>
   show LateR c (rd R (f + 1) (.loop l e) a d) (rd R' (f + 1) (.loop l (e.sh c)) a d)
   simp only [rd]
   rw [hL.wd]
   by_cases hs : sgnL l (R.wd a) = true
   ·rw [if_pos hs,if_pos hs]
    have h1 : LateR c (rd R f (.lev (l + 1)) (a + 1) d) (rd R' f (.lev (l + 1)) (a + 1) d):=ih (.lev (l + 1)) (a + 1) d
    have h2:=fun e q => ih (.loop l e) q d
    generalize rd R f (.lev (l + 1)) (a + 1) d = g at h1 ⊢
    generalize rd R' f (.lev (l + 1)) (a + 1) d = g' at h1 ⊢
    by_cases h0 : g.r = 0
    ·rw [if_pos h0,if_pos (show g'.r = 0 by rw [h1.1]; exact h0),h1.2.1,h1.2.2 h0,← bin_sh]
     have h3:=late_hld c (eBin (R.wd a) e g.e) g.p a
     generalize hld (eBin (R.wd a) e g.e) g.p a = k at h3 ⊢
     generalize hld ((eBin (R.wd a) e g.e).sh c) g.p a = k' at h3 ⊢
     by_cases hk : k.r = 0
     ·rw [if_pos hk,if_pos (show k'.r = 0 by rw [h3.1]; exact hk),h3.2.1,h3.2.2 hk]
      exact h2 k.e k.p
     ·rw [if_neg hk,if_neg (show ¬ k'.r = 0 by rw [h3.1]; exact hk)]; exact late_of_bad h3 hk
    ·rw [if_neg h0,if_neg (show ¬ g'.r = 0 by rw [h1.1]; exact h0)]; exact late_of_bad h1 h0
   ·rw [if_neg hs,if_neg hs]; exact late_good c e a
  | sg =>
   show LateR c (rd R (f + 1) .sg a d) (rd R' (f + 1) .sg a d)
   simp only [rd]
   rw [his,his,hL.wd,hL.ps]
   by_cases hs : (R.is a [33] || R.is a [45]) = true
   ·rw [if_pos hs,if_pos hs]
    by_cases hd : d = 32
    ·rw [if_pos hd,if_pos hd]; exact late_bad c a (by decide)
    ·rw [if_neg hd,if_neg hd]
     have h1 : LateR c (rd R f .sg (a + 1) (d + 1)) (rd R' f .sg (a + 1) (d + 1)):=ih .sg (a + 1) (d + 1)
     generalize rd R f .sg (a + 1) (d + 1) = g at h1 ⊢
     generalize rd R' f .sg (a + 1) (d + 1) = g' at h1 ⊢
     by_cases h0 : g.r = 0
     ·rw [if_pos h0,if_pos (show g'.r = 0 by rw [h1.1]; exact h0),h1.2.1,h1.2.2 h0,← un_sh]; exact late_hld c _ _ _
     ·rw [if_neg h0,if_neg (show ¬ g'.r = 0 by rw [h1.1]; exact h0)]; exact late_of_bad h1 h0
   ·rw [if_neg hs,if_neg hs]; exact ih .pr a d
  | pr =>
   show LateR c (rd R (f + 1) .pr a d) (rd R' (f + 1) .pr a d)
   simp only [rd]
   simp only [hL.kd,hL.wd,hL.ps,his]
   split
   ·cases numB (R.wd a) with
    | some v =>
     show LateR c (good (eNum (R.ps a) v) (a + 1)) (good (eNum (R.ps a + c) v) (a + 1))
     rw [← num_sh]
     exact late_good c _ _
    | none => exact late_bad c a (by decide)
   ·split
    ·rw [← bool_sh]; exact late_good c _ _
    ·split
     ·rw [← bool_sh]; exact late_good c _ _
     ·split
      ·have h1 : LateR c (rd R f .gr a d) (rd R' f .gr a d):=ih .gr a d
       generalize rd R f .gr a d = g at h1 ⊢
       generalize rd R' f .gr a d = g' at h1 ⊢
       by_cases h0 : g.r = 0
       ·rw [if_pos h0,if_pos (show g'.r = 0 by rw [h1.1]; exact h0),h1.2.1,h1.2.2 h0]
        split
        ·exact late_good c _ _
        ·exact late_bad c _ (by decide)
       ·rw [if_neg h0,if_neg (show ¬ g'.r = 0 by rw [h1.1]; exact h0)]; exact late_of_bad h1 h0
      ·split
       ·exact ih .op a d
       ·exact ih .nm a d
  | gr =>
   show LateR c (rd R (f + 1) .gr a d) (rd R' (f + 1) .gr a d)
   simp only [rd]
   rw [his]
   split
   ·split
    ·exact late_bad c a (by decide)
    ·have h1 : LateR c (rd R f (.lev 1) (a + 1) (d + 1)) (rd R' f (.lev 1) (a + 1) (d + 1)):=ih (.lev 1) (a + 1) (d + 1)
     generalize rd R f (.lev 1) (a + 1) (d + 1) = g at h1 ⊢
     generalize rd R' f (.lev 1) (a + 1) (d + 1) = g' at h1 ⊢
     by_cases h0 : g.r = 0
     ·rw [if_pos h0,if_pos (show g'.r = 0 by rw [h1.1]; exact h0),h1.2.1,h1.2.2 h0]; exact late_good c _ _
     ·rw [if_neg h0,if_neg (show ¬ g'.r = 0 by rw [h1.1]; exact h0)]; exact late_of_bad h1 h0
   ·exact late_bad c a (by decide)
  | op =>
   show LateR c (rd R (f + 1) .op a d) (rd R' (f + 1) .op a d)
   simp only [rd]
   have h1 : LateR c (rd R f .gr (a + 1) d) (rd R' f .gr (a + 1) d):=ih .gr (a + 1) d
   generalize rd R f .gr (a + 1) d = g at h1 ⊢
   generalize rd R' f .gr (a + 1) d = g' at h1 ⊢
   by_cases h0 : g.r = 0
   ·rw [if_pos h0,if_pos (show g'.r = 0 by rw [h1.1]; exact h0),h1.2.1,h1.2.2 h0,his,his,his,hL.idn,hL.wd,hL.ps]
    split
    ·split
     ·split
      ·split
       ·rw [← open_sh]; exact late_hld c _ _ _
       ·exact late_bad c _ (by decide)
      ·exact late_bad c _ (by decide)
     ·exact late_bad c _ (by decide)
    ·exact late_bad c _ (by decide)
   ·rw [if_neg h0,if_neg (show ¬ g'.r = 0 by rw [h1.1]; exact h0)]; exact late_of_bad h1 h0
  | nm =>
   show LateR c (rd R (f + 1) .nm a d) (rd R' (f + 1) .nm a d)
   simp only [rd]
   rw [hname,his,hL.ps]
   split
   ·split
    ·have h1 : LateM c .ar (rd R f .ar (R.name a).2.2 d) (rd R' f .ar (R.name a).2.2 d):=ih .ar (R.name a).2.2 d
     generalize rd R f .ar (R.name a).2.2 d = g at h1 ⊢
     generalize rd R' f .ar (R.name a).2.2 d = g' at h1 ⊢
     by_cases h0 : g.r = 0
     ·rw [if_pos h0,if_pos (show g'.r = 0 by rw [h1.1]; exact h0),h1.2.1,(show g'.e.l = g.e.l.map (Ex.sh c) from h1.2.2 h0),← call_sh]; exact late_hld c _ _ _
     ·rw [if_neg h0,if_neg (show ¬ g'.r = 0 by rw [h1.1]; exact h0),h1.1,h1.2.1]; exact late_bad c _ h0
    ·rw [← name_sh]; exact late_good c _ _
   ·exact late_bad c _ (by decide)
  | ar =>
   show LateM c .ar (rd R (f + 1) .ar a d) (rd R' (f + 1) .ar a d)
   simp only [rd]
   rw [his]
   split
   ·exact late_badM c .ar a (by decide)
   ·split
    ·exact ⟨rfl,rfl,fun _ => rfl⟩
    ·exact ih (.an []) (a + 1) (d + 1)
  | an acc =>
   show LateM c (.an acc) (rd R (f + 1) (.an acc) a d) (rd R' (f + 1) (.an (acc.map (Ex.sh c))) a d)
   simp only [rd]
   have h1 : LateR c (rd R f (.lev 1) a d) (rd R' f (.lev 1) a d):=ih (.lev 1) a d
   have h2:=fun k q => ih (.an k) q d
   generalize rd R f (.lev 1) a d = g at h1 ⊢
   generalize rd R' f (.lev 1) a d = g' at h1 ⊢
   by_cases h0 : g.r = 0
   ·rw [if_pos h0,if_pos (show g'.r = 0 by rw [h1.1]; exact h0),h1.2.1,h1.2.2 h0,his,his]
    have he : acc.map (Ex.sh c) ++ [g.e.sh c] = (acc ++ [g.e]).map (Ex.sh c):=by rw [List.map_append]; rfl
    rw [he]
    split
    ·exact h2 (acc ++ [g.e]) (g.p + 1)
    ·split
     ·exact ⟨rfl,rfl,fun _ => rfl⟩
     ·exact late_badM c (.an acc) _ (by decide)
   ·rw [if_neg h0,if_neg (show ¬ g'.r = 0 by rw [h1.1]; exact h0),h1.1,h1.2.1]; exact late_badM c (.an acc) _ h0
end Go.Proofs.YtkjhlgnpohamnaaGreatDoor
namespace Go.Proofs.YtkjhlgnpohamnaaGreatDoor
set_option linter.unusedVariables false
set_option linter.unusedSimpArgs false
open Go.RowKit
theorem wdT_shift (P T : ByteArray) (L : List Tk) (k : Nat) (hk : P.size = k) (hL : ∀ t ∈ L,0 ≤ t.2.1 ∧ 0 ≤ t.2.2) (i : Nat) : wdT (P ++ T) (L.map (shift (k : Int))) i = wdT T L i:=by
 unfold wdT
 rw [List.getElem?_map]
 cases h : L[i]? with
 | none => rfl
 | some t =>
  obtain ⟨h1,h2⟩:=hL t (List.mem_of_getElem? h)
  show (P ++ T).extract (t.2.1 + (k : Int)).toNat (t.2.2 + (k : Int)).toNat = T.extract t.2.1.toNat t.2.2.toNat
  rw [show (t.2.1 + (k : Int)).toNat = k + t.2.1.toNat by omega,show (t.2.2 + (k : Int)).toNat = k + t.2.2.toNat by omega]
  exact ByteArray.extract_append_size_add' hk.symm
theorem find_shift (L : List Tk) (c : Int) : ((L.map (shift c)).find? fun t => t.1 == 5) = ((L.find? fun t => t.1 == 5)).map (shift c):=by
 rw [List.find?_map]
 rfl
theorem isBad_shift (L : List Tk) (c : Int) : isBad (L.map (shift c)) = isBad L:=by
 unfold isBad
 rw [find_shift,Option.isSome_map]
theorem badOf_shift (L : List Tk) (c : Int) (h : isBad L = true) : (badOf (L.map (shift c))).2.1 = (badOf L).2.1 + c:=by
 unfold isBad at h
 unfold badOf
 rw [find_shift]
 obtain ⟨t,ht⟩:=Option.isSome_iff_exists.1 h
 rw [ht]
 rfl
section
variable {P : Program} {ops : Array Oper} {rest : List Oper} {o : Oper} {a : Act} {Q : Exit → Act → World → Prop}
theorem wp_more_g {K : Act → World → Prop} (s x : Operand) (t : TypeId) (ho : o.op = .call { callee:=.builtin .append,args:=#[s,x],argTypes:=#[t,t] })
  {e : TypeId} {bytes : Nat} (hT : RowT P t e 1 bytes) (w : World) (B : Nat) (v : Value) (n : Nat) (xs us : List Value) (hs : a.eval s = v) (hown : Own w B e 1 v n xs)
  (U : Nat) (A : Option Addr) (m c : Nat) (hx : a.eval x = .slice A m c) (hsh : Sh w U A m us) (h1 : ∀ u ∈ us,u.oneCell' = true)
  (hlen : n + m ≤ 1099511627776) (hby : bytes ≤ 64)
  (h : ∀ v' w',Own w' B e 1 v' (n + m) (xs ++ us) → w.grownBy w' v.ownBlock → K (a.put o.dst v') w') :
  o.wp P a w K Q:=by
 obtain ⟨ht,i,z,hi,hz,hsize,hbytes,hzs,hpos⟩:=hT
 have hbb : (n + m) * bytes ≤ 140737488355328:=Nat.le_trans (Nat.mul_le_mul hlen hby) (by decide)
 have hful : ∀ ad : Addr,(∀ k u,us[k]? = some u → w.cell? (ad.add k) = some u) → a.eval x = .slice (some ad) m c → o.wp P a w K Q:=by
  intro ad hc hx'
  refine wp_append_own _ s x t ho B e i z 1 bytes ht hi hz hsize hbytes hzs hpos v n xs hs hown.1 ad m c us hx' (by have:=hsh.len; omega) hc h1
   (by unfold maxLen; omega) hbb hown.2 ?_
  intro v' w' ho' hg' _
  exact h v' w' ⟨ho',Nat.le_trans hown.2 hg'.size⟩ hg'
 rcases Nat.eq_zero_or_pos m with h0 | h0
 ·subst h0
  have hn : us = []:=List.eq_nil_of_length_eq_zero hsh.len
  subst hn
  rcases A with _ | ad
  ·have hrun : (Builtin.append_ #[t,t] o.type #[v,.slice none 0 c]).run P w = .ok v w:=by
    rcases hown.1.2 with ⟨rfl,rfl⟩ | ⟨g,cap,cur,rfl,_,_,hnc,_⟩
    ·simp [Builtin.append_,run_underlying ht,sizeOf,typeInfo,hi,Builtin.lenOf,Builtin.firstCells]
    ·simp [Builtin.append_,run_underlying ht,sizeOf,typeInfo,hi,Builtin.lenOf,Builtin.firstCells,hnc,storeCells]
   unfold Oper.wp
   simp [execOp,ho,resolve,invoke,builtin,hs,hx,hrun,Result.andThen]
   exact h v w (by simpa using hown) (World.grownBy.refl _ _)
  ·exact hful ad (by simp) hx
 ·obtain ⟨b,off,rfl,_,hc⟩:=hsh.2 h0
  refine hful ⟨b,off,none⟩ (fun k u hu => ?_) hx
  rw [Addr.add_lit]
  exact hc k u hu
theorem wpList_more_g (hgd : Region.wanted o (yielded ops a.tmps) = true) (s x : Operand) (t : TypeId) (ho : o.op = .call { callee:=.builtin .append,args:=#[s,x],argTypes:=#[t,t] })
  {e : TypeId} {bytes : Nat} (hT : RowT P t e 1 bytes) (w : World) (B : Nat) (v : Value) (n : Nat) (xs us : List Value) (hs : a.eval s = v) (hown : Own w B e 1 v n xs)
  (U : Nat) (A : Option Addr) (m c : Nat) (hx : a.eval x = .slice A m c) (hsh : Sh w U A m us) (h1 : ∀ u ∈ us,u.oneCell' = true)
  (hlen : n + m ≤ 1099511627776) (hby : bytes ≤ 64)
  (h : ∀ v' w',Own w' B e 1 v' (n + m) (xs ++ us) → w.grownBy w' v.ownBlock → wpList P ops Q rest (a.put o.dst v') w') :
  wpList P ops Q (o :: rest) a w:=
 wpList_wanted hgd fun _ hK => wp_more_g s x t ho hT w B v n xs us hs hown U A m c hx hsh h1 hlen hby fun v' w' h2 h3 => hK _ _ (h v' w' h2 h3)
end
end Go.Proofs.YtkjhlgnpohamnaaGreatDoor
