import Derived.Test.YtkjhlgnpohamnaaGreatDoorMSz
import Derived.Test.YtkjhlgnpohamnaaGreatDoorMEi
namespace Go.Proofs.YtkjhlgnpohamnaaGreatDoor
set_option linter.unusedVariables false
set_option linter.unusedSimpArgs false
structure Win (R R' : Rw) (k : Nat) (c : Int) (N : Nat) : Prop where
 wd : ∀ i,i < N → R'.wd (i + k) = R.wd i
 kd : ∀ i,i < N → R'.kd (i + k) = R.kd i
 idn : ∀ i,i < N → R'.idn (i + k) = R.idn i
 ps : ∀ i,i < N → R'.ps (i + k) = R.ps i + c
section
variable {R R' : Rw} {k N : Nat} {c : Int}
theorem Win.is (h : Win R R' k c N) {i : Nat} (hi : i < N) (l : List UInt8) : R'.is (i + k) l = R.is i l:=by unfold Rw.is; rw [h.wd i hi]
theorem Win.name (h : Win R R' k c N) {a : Nat} (ht : (R.name a).1 = true) (hn : (R.name a).2.2 < N) : R'.name (a + k) = (true,(R.name a).2.1,(R.name a).2.2 + k) ∧ a < (R.name a).2.2:=by
 unfold Rw.name at ht hn ⊢
 by_cases h1 : R.idn a = false
 ·rw [if_pos h1] at ht; cases ht
 ·rw [if_neg h1] at ht hn ⊢
  by_cases h2 : R.is (a + 1) [46] = true
  ·rw [if_pos h2] at ht hn ⊢
   by_cases h3 : R.idn (a + 2) = true
   ·rw [if_pos h3] at ht hn ⊢
    have hn : a + 3 < N:=hn
    rw [h.idn a (by omega),if_neg h1,show a + k + 1 = a + 1 + k by omega,h.is (by omega),if_pos h2,show a + k + 2 = a + 2 + k by omega,h.idn _ (by omega),if_pos h3,h.wd a (by omega),h.wd _ (by omega)]
    exact ⟨by rw [show a + k + 3 = a + 3 + k by omega],by show a < a + 3; omega⟩
   ·rw [if_neg h3] at ht; cases ht
  ·rw [if_neg h2] at ht hn ⊢
   have hn : a + 1 < N:=hn
   rw [h.idn a (by omega),if_neg h1,show a + k + 1 = a + 1 + k by omega,h.is (by omega),if_neg h2,h.wd a (by omega)]
   exact ⟨rfl,Nat.lt_succ_self _⟩
end
def An.sh (c : Int) (x : An) : An:=⟨x.so,x.lk,x.lb,x.fr + c,x.to + c⟩
def St.sh (c : Int) : St → St
 | .mk k a nm ty an e l r => .mk k (a + c) nm ty (if k = 0 then an.sh c else an) (if k = 4 then e else e.sh c) (l.attach.map fun x => x.1.sh c) (r.attach.map fun x => x.1.sh c)
termination_by s => SizeOf.sizeOf s
decreasing_by
 ·exact St.lt_l x.2
 ·exact St.lt_r x.2
section
variable {R R' : Rw} {k N : Nat} {c : Int}
theorem Win.en (hW : Win R R' k c N) {p : Nat} (h0 : 0 < p) (hp : p ≤ N) : R'.en (p + k) = R.en p + c:=by
 unfold Rw.en
 rw [if_neg (by omega),if_neg (by omega),show p + k - 1 = p - 1 + k by omega,hW.ps _ (by omega),hW.wd _ (by omega)]
 omega
end
section
variable {R R' : Rw} {F k N : Nat} {c : Int}
def Ms.strict : Ms → Bool
 | .row _ => false
 | _ => true
def Ms.sh (c : Int) : Ms → Ms
 | .row acc => .row (acc.map (St.sh c))
 | m => m
def Ms.within (N p : Nat) : Ms → Prop
 | .row _ => p < N
 | _ => p ≤ N
end
end Go.Proofs.YtkjhlgnpohamnaaGreatDoor
