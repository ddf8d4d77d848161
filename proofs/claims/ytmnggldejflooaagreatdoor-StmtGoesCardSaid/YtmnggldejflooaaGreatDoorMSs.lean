import Derived.Test.YtmnggldejflooaaGreatDoorSq
import Derived.Test.YtmnggldejflooaaGreatDoorMSz
import Derived.Test.YtmnggldejflooaaGreatDoorMEi
namespace Go.Proofs.YtmnggldejflooaaGreatDoor
set_option linter.unusedVariables false
set_option linter.unusedSimpArgs false
section
variable {R R' : Rw} {k N : Nat} {c : Int}
end
section
variable {R R' : Rw} {k N : Nat} {c : Int}
theorem mu_split {p q : Nat} {r : Int} {a b : ByteArray} (h : mu R (p, r) [a, b] = (q, 0)) : ∃ m, mu R (p, r) [a] = (m, 0) ∧ mu R (m, 0) [b] = (q, 0) := by
 by_cases hr : r = 0
 ·subst hr
  by_cases hi : R.is p a.toList = true
  ·refine ⟨p + 1, ?_, ?_⟩
   ·unfold mu
    rw [if_pos rfl]
    show (if R.is p a.toList = true then _ else _) = _
    rw [if_pos hi]
    rfl
   ·have e : mu R (p, 0) [a, b] = mu R (p + 1, 0) [b] := by
     unfold mu
     rw [if_pos rfl, if_pos rfl]
     show (if R.is p a.toList = true then _ else _) = _
     rw [if_pos hi]
    rw [← e]; exact h
  ·have e : mu R (p, 0) [a, b] = (p, 11) := by
    unfold mu
    rw [if_pos rfl]
    show (if R.is p a.toList = true then _ else _) = _
    rw [if_neg hi]
   rw [e] at h
   injection h with _ h2
   cases h2
 ·rw [muz_bad hr] at h
  injection h with _ h2
  exact absurd h2 hr
theorem let_inv (hR : R.Ok) {F p : Nat} {a : Int} (hp : p ≤ R.n) (h : (letS R F a (p, 0)).2.2 = 0) :
  ∃ q1 v2 q2 q3 v4 q4 v5 q5 q6 v7 q7 q8, mu R (p, 0) [wLet] = (q1, 0) ∧ pnm R (q1, 0) = (v2, q2, 0) ∧ mu R (q2, 0) [wCol] = (q3, 0) ∧ pty R (q3, 0) = (v4, q4, 0) ∧ pmk R (q4, 0) = (v5, q5, 0) ∧ mu R (q5, 0) [wEq] = (q6, 0) ∧ pex R F (q6, 0) = (v7, q7, 0) ∧ mu R (q7, 0) [wSem] = (q8, 0) ∧
   letS R F a (p, 0) = (.mk 0 a v2 v4 v5 v7 [] [], q8, 0) ∧ p < q1 ∧ q1 < q2 ∧ q2 < q3 ∧ q3 < q4 ∧ q4 ≤ q5 ∧ q5 < q6 ∧ q6 ≤ q7 ∧ q7 < q8 ∧ q8 ≤ R.n := by
 unfold letS at h ⊢
 dsimp only at h ⊢
 obtain ⟨q1, r1, e1⟩ : ∃ q r, mu R (p, 0) [wLet] = (q, r) := ⟨_, _, rfl⟩
 rw [e1] at h ⊢
 obtain ⟨v2, q2, r2, e2⟩ : ∃ v q r, pnm R (q1, r1) = (v, q, r) := ⟨_, _, _, rfl⟩
 rw [e2] at h ⊢
 dsimp only at h ⊢
 obtain ⟨q3, r3, e3⟩ : ∃ q r, mu R (q2, r2) [wCol] = (q, r) := ⟨_, _, rfl⟩
 rw [e3] at h ⊢
 obtain ⟨v4, q4, r4, e4⟩ : ∃ v q r, pty R (q3, r3) = (v, q, r) := ⟨_, _, _, rfl⟩
 rw [e4] at h ⊢
 dsimp only at h ⊢
 obtain ⟨v5, q5, r5, e5⟩ : ∃ v q r, pmk R (q4, r4) = (v, q, r) := ⟨_, _, _, rfl⟩
 rw [e5] at h ⊢
 dsimp only at h ⊢
 obtain ⟨q6, r6, e6⟩ : ∃ q r, mu R (q5, r5) [wEq] = (q, r) := ⟨_, _, rfl⟩
 rw [e6] at h ⊢
 obtain ⟨v7, q7, r7, e7⟩ : ∃ v q r, pex R F (q6, r6) = (v, q, r) := ⟨_, _, _, rfl⟩
 rw [e7] at h ⊢
 dsimp only at h ⊢
 obtain ⟨q8, r8, e8⟩ : ∃ q r, mu R (q7, r7) [wSem] = (q, r) := ⟨_, _, rfl⟩
 rw [e8] at h ⊢
 have u1 := mw (R := R) (x := (p, 0)) hR 108 [101, 116] hp
 change Up R 1 (p, 0) (mu R (p, 0) [wLet]) at u1
 rw [e1] at u1
 have u2 := pnm_up hR u1.n
 rw [e2] at u2
 have u3 := mw hR 58 [] u2.n
 change Up R 1 (q2, r2) (mu R (q2, r2) [wCol]) at u3
 rw [e3] at u3
 have u4 := pty_up hR u3.n
 rw [e4] at u4
 have u5 := pmk_up hR u4.n
 rw [e5] at u5
 have u6 := mw hR 61 [] u5.n
 change Up R 1 (q5, r5) (mu R (q5, r5) [wEq]) at u6
 rw [e6] at u6
 have u7 := pex_up hR F u6.n
 rw [e7] at u7
 have u8 := mw hR 59 [] u7.n
 change Up R 1 (q7, r7) (mu R (q7, r7) [wSem]) at u8
 rw [e8] at u8
 obtain ⟨z7, l7⟩ := u8.st h
 obtain ⟨z6, l6⟩ := u7.st z7
 obtain ⟨z5, l5⟩ := u6.st z6
 obtain ⟨z4, l4⟩ := u5.st z5
 obtain ⟨z3, l3⟩ := u4.st z4
 obtain ⟨z2, l2⟩ := u3.st z3
 obtain ⟨z1, l1⟩ := u2.st z2
 obtain ⟨_, l0⟩ := u1.st z1
 have n8 := u8.n
 clear u1 u2 u3 u4 u5 u6 u7 u8
 dsimp only at *
 subst h z7 z6 z5 z4 z3 z2 z1
 exact ⟨q1, v2, q2, q3, v4, q4, v5, q5, q6, v7, q7, q8, rfl, e2, e3, e4, e5, e6, e7, e8, rfl, by omega, by omega, by omega, by omega, by omega, by omega, by omega, by omega, n8⟩
theorem ask_inv (hR : R.Ok) {F p : Nat} {kk a : Int} {x : UInt8} {t : List UInt8} (hp : p ≤ R.n) (h : (askS R F kk a ⟨(x :: t).toArray⟩ (p, 0)).2.2 = 0) :
  ∃ q0 q1 v2 q2 q3, mu R (p, 0) [⟨(x :: t).toArray⟩] = (q0, 0) ∧ mu R (q0, 0) [wPar] = (q1, 0) ∧ pex R F (q1, 0) = (v2, q2, 0) ∧ mu R (q2, 0) [wRap] = (q3, 0) ∧
   askS R F kk a ⟨(x :: t).toArray⟩ (p, 0) = (.mk kk a ⟨#[]⟩ 0 An.nul v2 [] [], q3, 0) ∧ p < q0 ∧ q0 < q1 ∧ q1 ≤ q2 ∧ q2 < q3 ∧ q3 ≤ R.n := by
 unfold askS at h ⊢
 dsimp only at h ⊢
 obtain ⟨q1, r1, e1⟩ : ∃ q r, mu R (p, 0) [⟨(x :: t).toArray⟩, wPar] = (q, r) := ⟨_, _, rfl⟩
 rw [e1] at h ⊢
 obtain ⟨v2, q2, r2, e2⟩ : ∃ v q r, pex R F (q1, r1) = (v, q, r) := ⟨_, _, _, rfl⟩
 rw [e2] at h ⊢
 dsimp only at h ⊢
 obtain ⟨q3, r3, e3⟩ : ∃ q r, mu R (q2, r2) [wRap] = (q, r) := ⟨_, _, rfl⟩
 rw [e3] at h ⊢
 have u1 := mu_up (R := R) hR [⟨(x :: t).toArray⟩, wPar] (fun s hs => by
   rcases List.mem_cons.1 hs with e | hs
   ·exact ⟨x, t, by rw [e, wd1]⟩
   ·exact ⟨40, [], by rw [List.mem_singleton.1 hs]; exact wd1 40 []⟩) (p, 0) hp
 rw [e1] at u1
 have u2 := pex_up hR F u1.n
 rw [e2] at u2
 have u3 := mw hR 41 [] u2.n
 change Up R 1 (q2, r2) (mu R (q2, r2) [wRap]) at u3
 rw [e3] at u3
 obtain ⟨z2, l2⟩ := u3.st h
 obtain ⟨z1, l1⟩ := u2.st z2
 have n3 := u3.n
 have n1 := u1.n
 clear u2 u3
 dsimp only at *
 subst h z2 z1
 obtain ⟨q0, f1, f2⟩ := mu_split e1
 have v1 := mw (R := R) (x := (p, 0)) hR x t hp
 rw [f1] at v1
 have v2' := mw (R := R) (x := (q0, 0)) hR 40 [] v1.n
 change Up R 1 (q0, 0) (mu R (q0, 0) [wPar]) at v2'
 rw [f2] at v2'
 have l3 := (v1.st rfl).2
 have l4 := (v2'.st rfl).2
 dsimp only at l3 l4
 exact ⟨q0, q1, v2, q2, q3, f1, f2, e2, e3, rfl, by omega, by omega, by omega, by omega, n3⟩
theorem do_inv (hR : R.Ok) {p : Nat} {a : Int} (hp : p ≤ R.n) (h : (doS R a (p, 0)).2.2 = 0) :
  ∃ q1 v2 q2 q3, mu R (p, 0) [wDo] = (q1, 0) ∧ pnm R (q1, 0) = (v2, q2, 0) ∧ mu R (q2, 0) [wSem] = (q3, 0) ∧
   doS R a (p, 0) = (.mk 4 a v2 0 An.nul Ex.nul [] [], q3, 0) ∧ p < q1 ∧ q1 < q2 ∧ q2 < q3 ∧ q3 ≤ R.n := by
 unfold doS at h ⊢
 dsimp only at h ⊢
 obtain ⟨q1, r1, e1⟩ : ∃ q r, mu R (p, 0) [wDo] = (q, r) := ⟨_, _, rfl⟩
 rw [e1] at h ⊢
 obtain ⟨v2, q2, r2, e2⟩ : ∃ v q r, pnm R (q1, r1) = (v, q, r) := ⟨_, _, _, rfl⟩
 rw [e2] at h ⊢
 dsimp only at h ⊢
 obtain ⟨q3, r3, e3⟩ : ∃ q r, mu R (q2, r2) [wSem] = (q, r) := ⟨_, _, rfl⟩
 rw [e3] at h ⊢
 have u1 := mw (R := R) (x := (p, 0)) hR 100 [111] hp
 change Up R 1 (p, 0) (mu R (p, 0) [wDo]) at u1
 rw [e1] at u1
 have u2 := pnm_up hR u1.n
 rw [e2] at u2
 have u3 := mw hR 59 [] u2.n
 change Up R 1 (q2, r2) (mu R (q2, r2) [wSem]) at u3
 rw [e3] at u3
 obtain ⟨z2, l2⟩ := u3.st h
 obtain ⟨z1, l1⟩ := u2.st z2
 obtain ⟨_, l0⟩ := u1.st z1
 have n3 := u3.n
 clear u1 u2 u3
 dsimp only at *
 subst h z2 z1
 exact ⟨q1, v2, q2, q3, rfl, e2, e3, rfl, by omega, by omega, by omega, n3⟩
theorem pl_inv (hR : R.Ok) {F p : Nat} {a : Int} (hp : p ≤ R.n) (h : (plS R F a (p, 0)).2.2 = 0) :
  ∃ v1 q1 q2, pex R F (p, 0) = (v1, q1, 0) ∧ p ≤ q1 ∧ q1 < q2 ∧
   ((v1.k = 2 ∧ ∃ v3 q3 q4, mu R (q1, 0) [wEq] = (q2, 0) ∧ pex R F (q2, 0) = (v3, q3, 0) ∧ mu R (q3, 0) [wSem] = (q4, 0) ∧ plS R F a (p, 0) = (.mk 1 a v1.nm 0 An.nul v3 [] [], q4, 0) ∧ q2 ≤ q3 ∧ q3 < q4 ∧ q4 ≤ R.n) ∨
    (¬ v1.k = 2 ∧ v1.k = 3 ∧ mu R (q1, 0) [wSem] = (q2, 0) ∧ plS R F a (p, 0) = (.mk 5 a ⟨#[]⟩ 0 An.nul v1 [] [], q2, 0) ∧ q2 ≤ R.n)) := by
 unfold plS at h ⊢
 dsimp only at h ⊢
 obtain ⟨v1, q1, r1, e1⟩ : ∃ v q r, pex R F (p, 0) = (v, q, r) := ⟨_, _, _, rfl⟩
 rw [e1] at h ⊢
 dsimp only at h ⊢
 have u1 := pex_up (R := R) (x := (p, 0)) hR F hp
 rw [e1] at u1
 have n1 := u1.n
 have l1 := u1.le
 dsimp only at n1 l1
 by_cases hr : r1 = 0
 ·subst hr
  rw [if_pos rfl] at h ⊢
  by_cases h2 : v1.k = 2
  ·rw [if_pos h2] at h ⊢
   obtain ⟨q2, r2, e2⟩ : ∃ q r, mu R (q1, 0) [wEq] = (q, r) := ⟨_, _, rfl⟩
   rw [e2] at h ⊢
   obtain ⟨v3, q3, r3, e3⟩ : ∃ v q r, pex R F (q2, r2) = (v, q, r) := ⟨_, _, _, rfl⟩
   rw [e3] at h ⊢
   dsimp only at h ⊢
   obtain ⟨q4, r4, e4⟩ : ∃ q r, mu R (q3, r3) [wSem] = (q, r) := ⟨_, _, rfl⟩
   rw [e4] at h ⊢
   have u2 := mw (R := R) (x := (q1, 0)) hR 61 [] n1
   change Up R 1 (q1, 0) (mu R (q1, 0) [wEq]) at u2
   rw [e2] at u2
   have u3 := pex_up hR F u2.n
   rw [e3] at u3
   have u4 := mw hR 59 [] u3.n
   change Up R 1 (q3, r3) (mu R (q3, r3) [wSem]) at u4
   rw [e4] at u4
   obtain ⟨z3, l3⟩ := u4.st h
   obtain ⟨z2, l2⟩ := u3.st z3
   obtain ⟨_, l0⟩ := u2.st z2
   have n4 := u4.n
   clear u1 u2 u3 u4
   dsimp only at *
   subst h z3 z2
   exact ⟨v1, q1, q2, rfl, l1, by omega, .inl ⟨h2, v3, q3, q4, e2, e3, e4, rfl, by omega, by omega, n4⟩⟩
  ·rw [if_neg h2] at h ⊢
   by_cases h3 : v1.k = 3
   ·rw [if_pos h3] at h ⊢
    obtain ⟨q2, r2, e2⟩ : ∃ q r, mu R (q1, 0) [wSem] = (q, r) := ⟨_, _, rfl⟩
    rw [e2] at h ⊢
    have u2 := mw (R := R) (x := (q1, 0)) hR 59 [] n1
    change Up R 1 (q1, 0) (mu R (q1, 0) [wSem]) at u2
    rw [e2] at u2
    obtain ⟨_, l0⟩ := u2.st h
    have n2 := u2.n
    dsimp only at *
    subst h
    exact ⟨v1, q1, q2, rfl, l1, by omega, .inr ⟨h2, h3, e2, rfl, n2⟩⟩
   ·rw [if_neg h3] at h
    cases h
 ·rw [if_neg hr] at h
  exact absurd h hr
end
section
variable {R R' : Rw} {F k N : Nat} {c : Int}
def Ms.strict : Ms → Bool
 | .row _ => false
 | _ => true
theorem rs_in (hR : R.Ok) : ∀ (f : Nat) (m : Ms) (p : Nat) (d : Int), p ≤ R.n → (rs R F f m p d).r = 0 → p ≤ (rs R F f m p d).p ∧ (rs R F f m p d).p ≤ R.n ∧ (m.strict = true → p < (rs R F f m p d).p) := by
 intro f
 induction f with
 | zero =>
  intro m p d hp h
  have : rs R F 0 m p d = bads p 99 := by cases m <;> rfl
  rw [this] at h; cases h
 | succ f ih =>
  intro m p d hp h
  cases m with
  | row acc =>
   rw [rs_row] at h ⊢
   by_cases he : endsB R p = true
   ·rw [if_pos he]; exact ⟨Nat.le_refl _, hp, fun h => (by cases h)⟩
   ·rw [if_neg he] at h ⊢
    have h1 := ih .st p d hp
    have h2 := fun acc q hq => ih (.row acc) q d hq
    generalize rs R F f .st p d = g at h h1 ⊢
    by_cases h0 : g.r = 0
    ·rw [if_pos h0] at h ⊢
     obtain ⟨a1, a2, a3⟩ := h1 h0
     obtain ⟨b1, b2, b3⟩ := h2 (acc ++ [g.s]) g.p a2 h
     exact ⟨by omega, b2, fun h => (by cases h)⟩
    ·rw [if_neg h0] at h; exact absurd h h0
  | blk =>
   rw [rs_blk] at h ⊢
   by_cases hb : R.is p [123] = true
   ·rw [if_pos hb] at h ⊢
    by_cases h32 : 32 ≤ d
    ·rw [if_pos h32] at h; cases h
    ·rw [if_neg h32] at h ⊢
     have h1 := ih (.row []) (p + 1) (d + 1) (hR.is_lt hb)
     generalize rs R F f (.row []) (p + 1) (d + 1) = g at h h1 ⊢
     by_cases h0 : g.r = 0
     ·rw [if_pos h0] at h ⊢
      obtain ⟨a1, a2, a3⟩ := h1 h0
      by_cases hk : R.is g.p [125] = true
      ·rw [if_pos hk]
       have := hR.is_lt hk
       exact ⟨by show p ≤ g.p + 1; omega, this, fun _ => by show p < g.p + 1; omega⟩
      ·rw [if_neg hk] at h; cases h
     ·rw [if_neg h0] at h; exact absurd h h0
   ·rw [if_neg hb] at h; cases h
  | st =>
   rw [rs_st] at h ⊢
   have hu := hdS_up hR F hp
   by_cases hr : (hdS R F p).2.2 = 0
   ·rw [if_pos hr] at h ⊢
    have hl : p + 1 ≤ (hdS R F p).2.1 := (hu.st hr).2
    have hn : (hdS R F p).2.1 ≤ R.n := hu.n
    by_cases hk : (hdS R F p).1.k = 2 ∨ (hdS R F p).1.k = 3
    ·rw [if_pos hk] at h ⊢
     have h1 := ih .blk (hdS R F p).2.1 d hn
     have h2 := fun q hq => ih .blk q d hq
     generalize rs R F f .blk (hdS R F p).2.1 d = g at h h1 ⊢
     by_cases h0 : g.r = 0
     ·rw [if_pos h0] at h ⊢
      obtain ⟨a1, a2, a3⟩ := h1 h0
      by_cases he : (hdS R F p).1.k = 2 ∧ R.is g.p lElse = true
      ·rw [if_pos he] at h ⊢
       have h3 := h2 (g.p + 1) (hR.is_lt he.2)
       generalize rs R F f .blk (g.p + 1) d = g2 at h h3 ⊢
       by_cases h00 : g2.r = 0
       ·rw [if_pos h00]
        obtain ⟨b1, b2, b3⟩ := h3 h00
        exact ⟨by show p ≤ g2.p; omega, b2, fun _ => by show p < g2.p; omega⟩
       ·rw [if_neg h00] at h; exact absurd h h00
      ·rw [if_neg he]
       exact ⟨by show p ≤ g.p; omega, a2, fun _ => by show p < g.p; omega⟩
     ·rw [if_neg h0] at h; exact absurd h h0
    ·rw [if_neg hk]
     exact ⟨by show p ≤ (hdS R F p).2.1; omega, hn, fun _ => hl⟩
   ·rw [if_neg hr] at h; exact absurd h hr
end
end Go.Proofs.YtmnggldejflooaaGreatDoor
