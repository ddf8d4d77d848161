import Derived.Test.YtkjhlgnpohamnaaGreatDoorSq
import Derived.Test.YtkjhlgnpohamnaaGreatDoorFiS
import Derived.Test.YtkjhlgnpohamnaaGreatDoorMSs
import Derived.Test.YtkjhlgnpohamnaaGreatDoorFiH
import Derived.Test.YtkjhlgnpohamnaaGreatDoorFiP
import Derived.Test.YtkjhlgnpohamnaaGreatDoorMDp
import Derived.Test.YtkjhlgnpohamnaaGreatDoorStSm
namespace Go.Proofs.YtkjhlgnpohamnaaGreatDoor
set_option linter.unusedVariables false
set_option linter.unusedSimpArgs false
def NmT.sh (c : Int) (n : NmT) : NmT:=⟨n.nm,n.a + c⟩
def VrT.sh (c : Int) (v : VrT) : VrT:=⟨v.nm,v.a + c,v.ty,v.an.sh c⟩
def PrT.sh (c : Int) (p : PrT) : PrT:=⟨p.lo,p.hi,p.a + c⟩
def FnT.sh (c : Int) (f : FnT) : FnT:=⟨f.nm,f.a + c,f.ps.map (VrT.sh c),f.ty,f.an.sh c,f.rs,f.rl.map (NmT.sh c),f.bd.map (St.sh c),f.re.sh c⟩
structure WinF (R R' : Rw) (k : Nat) (c : Int) (N : Nat) : Prop where
 ok : R.Ok
 win : Win R R' k c N
 els : R'.is (N + k) lElse = R.is N lElse
 ends : ∀ i,i < N → endsB R' (i + k) = endsB R i
section
variable {R R' : Rw} {k N : Nat} {c : Int} (hW : WinF R R' k c N) {x : Nat × Int}
include hW
theorem muW (s : ByteArray) (w : UInt8) (t : List UInt8) (hs : s = ⟨(w :: t).toArray⟩) (hx : x.1 ≤ R.n) (h : (mu R x [s]).2 = 0) (hN : (mu R x [s]).1 ≤ N) :
  x.2 = 0 ∧ x.1 < N ∧ (mu R x [s]).1 = x.1 + 1 ∧ mu R' (x.1 + k,0) [s] = ((mu R x [s]).1 + k,0):=by
 subst hs
 have hup:=mw hW.ok w t hx
 obtain ⟨h0,h1⟩:=hup.st h
 obtain ⟨p,r⟩:=x
 dsimp only at h0 h1 hx
 subst h0
 obtain ⟨y,hy⟩ : ∃ y,mu R (p,0) [⟨(w :: t).toArray⟩] = y:=⟨_,rfl⟩
 rw [hy] at h h1 hN ⊢
 obtain ⟨q,r⟩:=y
 dsimp only at h h1 hN
 subst h
 have:=mu_win hW.win (by omega) hy
 exact ⟨rfl,by show p < N; omega,this.2,this.1⟩
theorem fnmW (hx : x.1 ≤ R.n) (h : (fnm R x).2.2 = 0) (hN : (fnm R x).2.1 ≤ N) : x.2 = 0 ∧ fnm R' (x.1 + k,0) = ((fnm R x).1.sh c,((fnm R x).2.1 + k,0)):=by
 obtain ⟨h0,h1⟩:=(fnm_up hW.ok hx).st h
 obtain ⟨p,r⟩:=x
 dsimp only at h0 h1 hx
 subst h0
 refine ⟨rfl,?_⟩
 unfold fnm at h h1 hN ⊢
 rw [if_pos rfl] at h h1 hN ⊢
 rw [if_pos rfl]
 dsimp only at h h1 hN ⊢
 have hp : p < N:=by omega
 rw [hW.win.idn p hp,hW.win.wd p hp,hW.win.ps p hp]
 by_cases hi : R.idn p = true
 ·rw [if_pos hi] at h hN ⊢
  rw [if_pos hi]
  show _ = (NmT.sh c ⟨R.wd p,R.ps p⟩,(p + 1 + k,(0 : Int)))
  rw [show p + k + 1 = p + 1 + k by omega]
  rfl
 ·rw [if_neg hi] at h; cases h
theorem ptyW (hx : x.1 ≤ R.n) (h : (pty R x).2.2 = 0) (hN : (pty R x).2.1 ≤ N) : x.2 = 0 ∧ pty R' (x.1 + k,0) = ((pty R x).1,((pty R x).2.1 + k,0)):=by
 obtain ⟨h0,h1⟩:=(pty_up hW.ok hx).st h
 obtain ⟨p,r⟩:=x
 dsimp only at h0 h1 hx
 subst h0
 refine ⟨rfl,?_⟩
 obtain ⟨y,hy⟩ : ∃ y,pty R (p,0) = y:=⟨_,rfl⟩
 rw [hy] at h h1 hN ⊢
 obtain ⟨v,q,r⟩:=y
 dsimp only at h h1 hN
 subst h
 exact pty_win hW.win (by omega) hy
theorem pmkW (hx : x.1 ≤ R.n) (hp : 0 < x.1) (h : (pmk R x).2.2 = 0) (hN : (pmk R x).2.1 < N) : x.2 = 0 ∧ pmk R' (x.1 + k,0) = ((pmk R x).1.sh c,((pmk R x).2.1 + k,0)):=by
 obtain ⟨h0,h1⟩:=(pmk_up hW.ok hx).st h
 obtain ⟨p,r⟩:=x
 dsimp only at h0 h1 hx hp
 subst h0
 refine ⟨rfl,?_⟩
 obtain ⟨y,hy⟩ : ∃ y,pmk R (p,0) = y:=⟨_,rfl⟩
 rw [hy] at h h1 hN ⊢
 obtain ⟨v,q,r⟩:=y
 dsimp only at h h1 hN
 subst h
 exact pmk_win hW.win hp hN hy
theorem pexW {F : Nat} (hx : x.1 ≤ R.n) (h : (pex R F x).2.2 = 0) (hN : (pex R F x).2.1 < N) : x.2 = 0 ∧ pex R' F (x.1 + k,0) = ((pex R F x).1.sh c,((pex R F x).2.1 + k,0)):=by
 obtain ⟨h0,h1⟩:=(pex_up hW.ok F hx).st h
 obtain ⟨p,r⟩:=x
 dsimp only at h0 h1 hx
 subst h0
 refine ⟨rfl,?_⟩
 obtain ⟨y,hy⟩ : ∃ y,pex R F (p,0) = y:=⟨_,rfl⟩
 rw [hy] at h h1 hN ⊢
 obtain ⟨v,q,r⟩:=y
 dsimp only at h h1 hN
 subst h
 exact pex_win hW.ok hW.win hx hN hy
theorem prowW {F f : Nat} (hx : x.1 ≤ R.n) (h : (prow R F f x).2.2 = 0) (hN : (prow R F f x).2.1 < N) : x.2 = 0 ∧ prow R' F f (x.1 + k,0) = ((prow R F f x).1.map (St.sh c),((prow R F f x).2.1 + k,0)):=by
 obtain ⟨h0,h1⟩:=(prow_up hW.ok F f hx).st h
 obtain ⟨p,r⟩:=x
 dsimp only at h0 h1 hx
 subst h0
 refine ⟨rfl,?_⟩
 unfold prow at h h1 hN ⊢
 rw [if_pos rfl] at h h1 hN ⊢
 rw [if_pos rfl]
 dsimp only at h h1 hN ⊢
 by_cases hr : (rs R F f (.row []) p 1).r = 0
 ·rw [if_pos hr] at h h1 hN ⊢
  obtain ⟨e1,e2,e3⟩:=rs_win hW.ok hW.win hW.els hW.ends f (.row []) p 1 hx hr hN
  change (rs R' F f (.row []) (p + k) 1).r = 0 at e1
  change (rs R' F f (.row []) (p + k) 1).p = _ at e2
  change (rs R' F f (.row []) (p + k) 1).l = _ at e3
  rw [if_pos e1,e2,e3]
 ·rw [if_neg hr] at h; exact absurd h hr
theorem tkW_win (hp : x.1 < N) (h0 : x.2 = 0) (l : List UInt8) : tkW R' (x.1 + k,0) l = tkW R x l:=by
 unfold tkW
 rw [if_pos rfl,if_pos h0]
 exact hW.win.is hp l
theorem fvrW (hx : x.1 ≤ R.n) (h : (fvr R x).2.2 = 0) (hN : (fvr R x).2.1 < N) : x.2 = 0 ∧ fvr R' (x.1 + k,0) = ((fvr R x).1.sh c,((fvr R x).2.1 + k,0)):=by
 unfold fvr at h hN ⊢
 dsimp only at h hN ⊢
 have u1:=fnm_up hW.ok hx
 have u2 : Up R 1 (fnm R x).2 (mu R (fnm R x).2 [wCol]):=mw hW.ok 58 [] u1.n
 have u3:=pty_up hW.ok u2.n
 have u4:=pmk_up hW.ok u3.n
 have s4:=u4.st h
 have s3:=u3.st s4.1
 have s2:=u2.st s3.1
 have s1:=u1.st s2.1
 have l1:=u1.le
 have l2:=u2.le
 have l3:=u3.le
 have l4:=u4.le
 obtain ⟨a1,a2⟩:=fnmW hW hx s2.1 (by omega)
 obtain ⟨_,_,b2,b3⟩:=muW hW wCol 58 [] rfl u1.n s3.1 (by omega)
 obtain ⟨_,c2⟩:=ptyW hW u2.n s4.1 (by omega)
 obtain ⟨_,d2⟩:=pmkW hW u3.n (by omega) h hN
 refine ⟨a1,?_⟩
 rw [a2]
 dsimp only
 rw [b3,c2]
 dsimp only
 rw [d2]
 rfl
theorem fprW (hx : x.1 ≤ R.n) (h : (fpr R x).2.2 = 0) (hN : (fpr R x).2.1 < N) : x.2 = 0 ∧ fpr R' (x.1 + k,0) = ((fpr R x).1.sh c,((fpr R x).2.1 + k,0)):=by
 unfold fpr at h hN ⊢
 dsimp only at h hN ⊢
 have u1:=fnm_up hW.ok hx
 cases hb : tkW R (fnm R x).2 [60] with
 | true =>
  rw [hb,if_pos rfl] at h hN
  dsimp only at h hN
  have u2:=tk_up hW.ok u1.n hb
  have u3:=fnm_up hW.ok u2.n
  have s3:=u3.st h
  have s2:=u2.st s3.1
  have l1:=u1.le
  have l2:=u2.le
  have l3:=u3.le
  have hz : (tkX (fnm R x).2 true).1 = (fnm R x).2.1 + 1:=rfl
  obtain ⟨a1,a2⟩:=fnmW hW hx s2.1 (by omega)
  obtain ⟨_,c2⟩:=fnmW hW u2.n h (by omega)
  refine ⟨a1,?_⟩
  rw [a2]
  dsimp only
  rw [tkW_win hW (by omega) s2.1,hb,if_pos rfl,if_pos rfl]
  have e : tkX ((fnm R x).2.1 + k,0) true = ((tkX (fnm R x).2 true).1 + k,0):=by show ((fnm R x).2.1 + k + 1,(0 : Int)) = ((fnm R x).2.1 + 1 + k,0); rw [show (fnm R x).2.1 + k + 1 = (fnm R x).2.1 + 1 + k by omega]
  rw [e,c2]
  rfl
 | false =>
  rw [hb,if_neg (by decide)] at h hN
  dsimp only at h hN
  obtain ⟨a1,a2⟩:=fnmW hW hx h (by omega)
  refine ⟨a1,?_⟩
  rw [a2]
  dsimp only
  rw [tkW_win hW hN h,hb,if_neg (by decide),if_neg (by decide)]
  rfl
end
def OneW {σ τ : Type} (R : Rw) (k N : Nat) (sh : σ → τ) (one : σ → Nat × Int → σ × (Nat × Int)) (one' : τ → Nat × Int → τ × (Nat × Int)) : Prop:=
 ∀ s (x : Nat × Int),x.1 ≤ R.n → (one s x).2.2 = 0 → (one s x).2.1 < N → x.2 = 0 ∧ one' (sh s) (x.1 + k,0) = (sh (one s x).1,((one s x).2.1 + k,0))
section
variable {R R' : Rw} {k N : Nat} {c : Int} (hW : WinF R R' k c N) {σ τ : Type} {sh : σ → τ} {one : σ → Nat × Int → σ × (Nat × Int)} {one' : τ → Nat × Int → τ × (Nat × Int)}
 (hu : ∀ s (x : Nat × Int),x.1 ≤ R.n → Up R 0 x (one s x).2) (ho : OneW R k N sh one one')
include hW hu ho
theorem lnsLW : ∀ (f : Nat) (s : σ) (p : Nat),p ≤ R.n → (lnsL R one f s (p,0)).2.2 = 0 → (lnsL R one f s (p,0)).2.1 ≤ N → lnsL R' one' f (sh s) (p + k,0) = (sh (lnsL R one f s (p,0)).1,((lnsL R one f s (p,0)).2.1 + k,0)):=by
 intro f
 induction f with
 | zero => intro s p _ _ _; rfl
 | succ f ih =>
  intro s p hp h hN
  cases hb : R.is p [125] with
  | true =>
   have e : lnsL R one (f + 1) s (p,0) = (s,(p + 1,0)):=by
    conv => lhs; unfold lnsL
    rw [if_pos rfl,if_pos hb]
   rw [e] at hN ⊢
   have hpN : p < N:=by have : p + 1 ≤ N:=hN; omega
   conv => lhs; unfold lnsL
   rw [if_pos rfl,hW.win.is hpN,if_pos hb]
   show (sh s,(p + k + 1,(0 : Int))) = (sh s,(p + 1 + k,0))
   rw [show p + k + 1 = p + 1 + k by omega]
  | false =>
   have e : lnsL R one (f + 1) s (p,0) = lnsL R one f (one s (p,0)).1 (mu R (one s (p,0)).2 [wSem]):=by
    conv => lhs; unfold lnsL
    rw [if_pos rfl,if_neg (by rw [hb]; decide)]
   rw [e] at h hN ⊢
   have u1:=hu s (p,0) hp
   have u2 : Up R 1 (one s (p,0)).2 (mu R (one s (p,0)).2 [wSem]):=mw hW.ok 59 [] u1.n
   have u3:=lnsL_up hW.ok hu f (one s (p,0)).1 _ u2.n
   have s3:=u3.st h
   have s2:=u2.st s3.1
   have l1 : p ≤ (one s (p,0)).2.1:=u1.le
   have l3:=u3.le
   have l3' : (mu R (one s (p,0)).2 [wSem]).1 ≤ (lnsL R one f (one s (p,0)).1 (mu R (one s (p,0)).2 [wSem])).2.1:=l3
   have l2' : (one s (p,0)).2.1 + 1 ≤ (mu R (one s (p,0)).2 [wSem]).1:=s2.2
   obtain ⟨_,b1,b2,b3⟩:=muW hW wSem 59 [] rfl u1.n s3.1 (by omega)
   obtain ⟨_,c2⟩:=ho s (p,0) hp s2.1 b1
   conv => lhs; unfold lnsL
   rw [if_pos rfl,hW.win.is (by omega),if_neg (by rw [hb]; decide),c2]
   dsimp only
   rw [b3]
   obtain ⟨z,hz⟩ : ∃ z,mu R (one s (p,0)).2 [wSem] = z:=⟨_,rfl⟩
   have u2n:=u2.n
   have s30:=s3.1
   rw [hz] at h hN s30 u2n ⊢
   obtain ⟨q,r⟩:=z
   dsimp only at s30
   subst s30
   exact ih _ q u2n h hN
theorem lnsW (f : Nat) (s : σ) {x : Nat × Int} (hx : x.1 ≤ R.n) (h : (lns R one f s x).2.2 = 0) (hN : (lns R one f s x).2.1 ≤ N) : x.2 = 0 ∧ lns R' one' f (sh s) (x.1 + k,0) = (sh (lns R one f s x).1,((lns R one f s x).2.1 + k,0)):=by
 unfold lns at h hN ⊢
 have u1 : Up R 1 x (mu R x [wBra]):=mw hW.ok 123 [] hx
 have u2:=lnsL_up hW.ok hu f s _ u1.n
 have s2:=u2.st h
 have l2:=u2.le
 obtain ⟨a1,a2,a3,a4⟩:=muW hW wBra 123 [] rfl hx s2.1 (by omega)
 refine ⟨a1,?_⟩
 rw [a4]
 obtain ⟨z,hz⟩ : ∃ z,mu R x [wBra] = z:=⟨_,rfl⟩
 have s20:=s2.1
 have u1n:=u1.n
 rw [hz] at h hN s20 u1n ⊢
 obtain ⟨q,r⟩:=z
 dsimp only at s20
 subst s20
 exact lnsLW hW hu ho f s q u1n h hN
theorem lstLW : ∀ (f : Nat) (s : σ) (p : Nat),p ≤ R.n → (lstL R one f s (p,0)).2.2 = 0 → (lstL R one f s (p,0)).2.1 < N → lstL R' one' f (sh s) (p + k,0) = (sh (lstL R one f s (p,0)).1,((lstL R one f s (p,0)).2.1 + k,0)):=by
 intro f
 induction f with
 | zero => intro s p _ _ _; rfl
 | succ f ih =>
  intro s p hp h hN
  cases hb : tkW R (p,0) [44] with
  | true =>
   have e : lstL R one (f + 1) s (p,0) = lstL R one f (one s (p + 1,0)).1 (one s (p + 1,0)).2:=by
    conv => lhs; unfold lstL
    rw [if_pos hb]
    rfl
   rw [e] at h hN ⊢
   have u0:=tk_up hW.ok (x:=(p,0)) hp hb
   have u1:=hu s (p + 1,0) u0.n
   have u2:=lstL_up hW.ok hu f (one s (p + 1,0)).1 _ u1.n
   have s2:=u2.st h
   have l1 : p + 1 ≤ (one s (p + 1,0)).2.1:=u1.le
   have l2:=u2.le
   obtain ⟨_,c2⟩:=ho s (p + 1,0) u0.n s2.1 (by omega)
   conv => lhs; unfold lstL
   rw [tkW_win hW (x:=(p,0)) (by show p < N; omega) rfl,hb,if_pos rfl]
   have e2 : tkX (p + k,0) true = (p + 1 + k,(0 : Int)):=by show (p + k + 1,(0 : Int)) = _; rw [show p + k + 1 = p + 1 + k by omega]
   rw [e2,c2]
   obtain ⟨z,hz⟩ : ∃ z,one s (p + 1,0) = z:=⟨_,rfl⟩
   have u1n:=u1.n
   have s20:=s2.1
   rw [hz] at h hN s20 u1n ⊢
   obtain ⟨t,q,r⟩:=z
   dsimp only at s20
   subst s20
   exact ih t q u1n h hN
  | false =>
   have e : lstL R one (f + 1) s (p,0) = (s,(p,0)):=by
    conv => lhs; unfold lstL
    rw [if_neg (by rw [hb]; decide)]
   rw [e] at hN ⊢
   conv => lhs; unfold lstL
   rw [tkW_win hW (x:=(p,0)) hN rfl,hb,if_neg (by decide)]
theorem lstW (w : UInt8) (t : List UInt8) (f : Nat) (s : σ) {x : Nat × Int} (hx : x.1 ≤ R.n) (h : (lst R one ⟨(w :: t).toArray⟩ f s x).2.2 = 0) (hN : (lst R one ⟨(w :: t).toArray⟩ f s x).2.1 ≤ N) : x.2 = 0 ∧ lst R' one' ⟨(w :: t).toArray⟩ f (sh s) (x.1 + k,0) = (sh (lst R one ⟨(w :: t).toArray⟩ f s x).1,((lst R one ⟨(w :: t).toArray⟩ f s x).2.1 + k,0)):=by
 have hx0:=((lst_up hW.ok hu w t f s hx).st h).1
 refine ⟨hx0,?_⟩
 unfold lst at h hN ⊢
 rw [wd1] at h hN ⊢
 cases hb : tkW R x (w :: t) with
 | true =>
  rw [hb,if_pos rfl] at h hN
  rw [if_pos rfl]
  have hpN : x.1 < N:=by have : x.1 + 1 ≤ N:=hN; omega
  rw [tkW_win hW hpN hx0,hb,if_pos rfl]
  show (sh s,(x.1 + k + 1,(0 : Int))) = (sh s,(x.1 + 1 + k,0))
  rw [show x.1 + k + 1 = x.1 + 1 + k by omega]
 | false =>
  rw [hb,if_neg (by decide)] at h hN
  dsimp only at h hN
  have u1:=hu s x hx
  have u2:=lstL_up hW.ok hu f (one s x).1 _ u1.n
  have u3:=mw hW.ok w t u2.n
  have s3:=u3.st h
  have s2:=u2.st s3.1
  have l1:=u1.le
  have l2:=u2.le
  obtain ⟨_,b1,b2,b3⟩:=muW hW _ w t rfl u2.n h hN
  obtain ⟨_,c2⟩:=ho s x hx s2.1 (by omega)
  rw [tkW_win hW (by omega) hx0,hb,if_neg (by decide),if_neg (by decide),c2]
  dsimp only
  have s20:=s2.1
  have u1n:=u1.n
  obtain ⟨z,hz⟩ : ∃ z,one s x = z:=⟨_,rfl⟩
  have s30:=s3.1
  rw [hz] at s20 u1n b1 b2 b3 s30 ⊢
  obtain ⟨v,q,r⟩:=z
  dsimp only at s20
  subst s20
  have:=lstLW hW hu ho f v q u1n s30 b1
  rw [this]
  dsimp only
  rw [b3]
end
section
variable {R R' : Rw} {k N : Nat} {c : Int} (hW : WinF R R' k c N) {x : Nat × Int}
include hW
theorem onNW : OneW R k N (List.map (NmT.sh c)) (onN R) (onN R'):=fun s x hx h hN => by
 unfold onN at h hN ⊢
 obtain ⟨a1,a2⟩:=fnmW hW hx h (Nat.le_of_lt hN)
 exact ⟨a1,by rw [a2]; simp⟩
theorem onVW : OneW R k N (List.map (VrT.sh c)) (onV R) (onV R'):=fun s x hx h hN => by
 unfold onV at h hN ⊢
 dsimp only at h hN ⊢
 by_cases h8 : s.length = 8
 ·rw [if_pos h8] at h
  have:=((fvr_up hW.ok (x:=(x.1,3)) hx).st h).1
  exact absurd (show (3 : Int) = 0 from this) (by decide)
 ·rw [if_neg h8] at h hN ⊢
  rw [List.length_map,if_neg h8]
  obtain ⟨a1,a2⟩:=fvrW hW hx h hN
  exact ⟨a1,by rw [a2]; simp⟩
theorem mu2W (hx : x.1 ≤ R.n) (h : (mu R x [wSem,wKet]).2 = 0) (hN : (mu R x [wSem,wKet]).1 ≤ N) : x.2 = 0 ∧ x.1 < N ∧ mu R' (x.1 + k,0) [wSem,wKet] = ((mu R x [wSem,wKet]).1 + k,0):=by
 obtain ⟨p,r⟩:=x
 obtain ⟨y,hy⟩ : ∃ y,mu R (p,r) [wSem,wKet] = y:=⟨_,rfl⟩
 rw [hy] at h hN ⊢
 obtain ⟨q,s⟩:=y
 dsimp only at h hN
 subst h
 obtain ⟨m,h1,h2⟩:=mu_split hy
 have e1 : (mu R (p,r) [wSem]).2 = 0:=by rw [h1]
 have u1 : Up R 1 (p,r) (mu R (p,r) [wSem]):=mw hW.ok 59 [] hx
 have u1n:=u1.n
 rw [h1] at u1n
 have e2 : (mu R (m,0) [wKet]).2 = 0:=by rw [h2]
 have u2 : Up R 1 (m,0) (mu R (m,0) [wKet]):=mw hW.ok 125 [] u1n
 have l2:=u2.le
 rw [h2] at l2
 obtain ⟨b0,b1,b2,b3⟩:=muW hW wKet 125 [] rfl (x:=(m,0)) u1n e2 (by rw [h2]; exact hN)
 rw [h2] at b3
 obtain ⟨a0,a1,a2,a3⟩:=muW hW wSem 59 [] rfl (x:=(p,r)) hx e1 (by rw [h1]; exact Nat.le_of_lt b1)
 rw [h1] at a3
 dsimp only at a0
 subst a0
 exact ⟨rfl,a1,mu_join a3 b3⟩
theorem ffnW {F f : Nat} (hx : x.1 ≤ R.n) (h : (ffn R F f x).2.2 = 0) (hN : (ffn R F f x).2.1 ≤ N) : x.2 = 0 ∧ ffn R' F f (x.1 + k,0) = ((ffn R F f x).1.sh c,((ffn R F f x).2.1 + k,0)):=by
 have hx0:=((ffn_up hW.ok F f hx).st h).1
 refine ⟨hx0,?_⟩
 obtain ⟨x1,hx1⟩ : ∃ y,mu R x [wFn] = y:=⟨_,rfl⟩
 obtain ⟨y2,hy2⟩ : ∃ y,fnm R x1 = y:=⟨_,rfl⟩
 obtain ⟨x3,hx3⟩ : ∃ y,mu R y2.2 [wPar] = y:=⟨_,rfl⟩
 obtain ⟨y4,hy4⟩ : ∃ y,lst R (onV R) wRap f [] x3 = y:=⟨_,rfl⟩
 obtain ⟨x5,hx5⟩ : ∃ y,mu R y4.2 [wCol] = y:=⟨_,rfl⟩
 obtain ⟨y6,hy6⟩ : ∃ y,pty R x5 = y:=⟨_,rfl⟩
 obtain ⟨y7,hy7⟩ : ∃ y,pmk R y6.2 = y:=⟨_,rfl⟩
 obtain ⟨b,hb⟩ : ∃ y,tkW R y7.2 [47] = y:=⟨_,rfl⟩
 obtain ⟨y10,hy10⟩ : ∃ y : List NmT × (Nat × Int),(if b = true then lst R (onN R) wKet f [] (mu R (tkX y7.2 true) [wBra]) else ([],y7.2)) = y:=⟨_,rfl⟩
 obtain ⟨x11,hx11⟩ : ∃ y,mu R y10.2 [wBra] = y:=⟨_,rfl⟩
 obtain ⟨y12,hy12⟩ : ∃ y,prow R F f x11 = y:=⟨_,rfl⟩
 obtain ⟨x13,hx13⟩ : ∃ y,mu R y12.2 [wRet] = y:=⟨_,rfl⟩
 obtain ⟨y14,hy14⟩ : ∃ y,pex R F x13 = y:=⟨_,rfl⟩
 obtain ⟨x15,hx15⟩ : ∃ y,mu R y14.2 [wSem,wKet] = y:=⟨_,rfl⟩
 have HV : ffn R F f x = (⟨y2.1.nm,y2.1.a,y4.1,y6.1,y7.1,b,y10.1,y12.1,y14.1⟩,x15):=by
  simp only [ffn,hx1,hy2,hx3,hy4,hx5,hy6,hy7,hb,hy10,hx11,hy12,hx13,hy14,hx15]
 rw [HV] at h hN ⊢
 dsimp only at h hN ⊢
 have u1 : Up R 1 x x1:=by rw [← hx1]; exact mw hW.ok 102 [110] hx
 have u2 : Up R 1 x1 y2.2:=by rw [← hy2]; exact fnm_up hW.ok u1.n
 have u3 : Up R 1 y2.2 x3:=by rw [← hx3]; exact mw hW.ok 40 [] u2.n
 have ov : ∀ s (x : Nat × Int),x.1 ≤ R.n → Up R 0 x (onV R s x).2:=fun s x hx => (onV_up hW.ok s hx).weak (Nat.zero_le 1)
 have on : ∀ s (x : Nat × Int),x.1 ≤ R.n → Up R 0 x (onN R s x).2:=fun s x hx => (onN_up hW.ok s hx).weak (Nat.zero_le 1)
 have u4 : Up R 1 x3 y4.2:=by rw [← hy4]; exact lst_up hW.ok ov 41 [] f [] u3.n
 have u5 : Up R 1 y4.2 x5:=by rw [← hx5]; exact mw hW.ok 58 [] u4.n
 have u6 : Up R 1 x5 y6.2:=by rw [← hy6]; exact pty_up hW.ok u5.n
 have u7 : Up R 0 y6.2 y7.2:=by rw [← hy7]; exact pmk_up hW.ok u6.n
 have u10 : Up R 0 y7.2 y10.2:=by
  rw [← hy10]
  cases b with
  | true =>
   rw [if_pos rfl]
   have k1:=tk_up hW.ok u7.n hb
   have k2 : Up R 1 (tkX y7.2 true) (mu R (tkX y7.2 true) [wBra]):=mw hW.ok 123 [] k1.n
   exact ((k1.trans k2).trans (lst_up hW.ok on 125 [] f [] k2.n)).weak (Nat.zero_le _)
  | false =>
   rw [if_neg (by decide)]
   exact Up.refl u7.n
 have u11 : Up R 1 y10.2 x11:=by rw [← hx11]; exact mw hW.ok 123 [] u10.n
 have u12 : Up R 0 x11 y12.2:=by rw [← hy12]; exact prow_up hW.ok F f u11.n
 have u13 : Up R 1 y12.2 x13:=by rw [← hx13]; exact mw hW.ok 114 [101,116,117,114,110] u12.n
 have u14 : Up R 0 x13 y14.2:=by rw [← hy14]; exact pex_up hW.ok F u13.n
 obtain ⟨s14,n14,r15⟩:=mu2W hW u14.n (by rw [hx15]; exact h) (by rw [hx15]; exact hN)
 have s13:=u14.st s14
 have s12:=u13.st s13.1
 have s11:=u12.st s12.1
 have s10:=u11.st s11.1
 have s7:=u10.st s10.1
 have s6:=u7.st s7.1
 have s5:=u6.st s6.1
 have s4:=u5.st s5.1
 have s3:=u4.st s4.1
 have s2:=u3.st s3.1
 have s1:=u2.st s2.1
 have l14:=u14.le
 have l13:=u13.le
 have l12:=u12.le
 have l11:=u11.le
 have l10:=u10.le
 have l7:=u7.le
 have l6:=u6.le
 have l5:=u5.le
 have l4:=u4.le
 have l3:=u3.le
 have l2:=u2.le
 obtain ⟨_,r14⟩:=pexW hW (F:=F) u13.n (by rw [hy14]; exact s14) (by rw [hy14]; exact n14)
 obtain ⟨_,n12,_,r13⟩:=muW hW wRet 114 [101,116,117,114,110] rfl u12.n (by rw [hx13]; exact s13.1) (by rw [hx13]; omega)
 obtain ⟨_,r12⟩:=prowW hW (F:=F) (f:=f) u11.n (by rw [hy12]; exact s12.1) (by rw [hy12]; exact n12)
 obtain ⟨_,n10,_,r11⟩:=muW hW wBra 123 [] rfl u10.n (by rw [hx11]; exact s11.1) (by rw [hx11]; omega)
 obtain ⟨_,r1m,_,r1⟩:=muW hW wFn 102 [110] rfl hx (by rw [hx1]; exact s1.1) (by rw [hx1]; omega)
 obtain ⟨_,r2⟩:=fnmW hW u1.n (by rw [hy2]; exact s2.1) (by rw [hy2]; omega)
 obtain ⟨_,_,_,r3⟩:=muW hW wPar 40 [] rfl u2.n (by rw [hx3]; exact s3.1) (by rw [hx3]; omega)
 obtain ⟨_,r4⟩:=lstW hW ov (onVW hW) 41 [] f [] u3.n (by rw [show (⟨[41].toArray⟩ : ByteArray) = wRap from rfl,hy4]; exact s4.1) (by rw [show (⟨[41].toArray⟩ : ByteArray) = wRap from rfl,hy4]; omega)
 obtain ⟨_,_,_,r5⟩:=muW hW wCol 58 [] rfl u4.n (by rw [hx5]; exact s5.1) (by rw [hx5]; omega)
 obtain ⟨_,r6⟩:=ptyW hW u5.n (by rw [hy6]; exact s6.1) (by rw [hy6]; omega)
 obtain ⟨_,r7⟩:=pmkW hW u6.n (by omega) (by rw [hy7]; exact s7.1) (by rw [hy7]; omega)
 have rb:=tkW_win hW (x:=y7.2) (by omega) s7.1 [47]
 rw [hx1] at r1
 rw [hy2] at r2
 rw [hx3] at r3
 rw [show (⟨[41].toArray⟩ : ByteArray) = wRap from rfl,hy4] at r4
 rw [hx5] at r5
 rw [hy6] at r6
 rw [hy7] at r7
 rw [hb] at rb
 rw [hx11] at r11
 rw [hy12] at r12
 rw [hx13] at r13
 rw [hy14] at r14
 rw [hx15] at r15
 have r10 : (if b = true then lst R' (onN R') wKet f [] (mu R' (tkX (y7.2.1 + k,0) true) [wBra]) else ([],(y7.2.1 + k,0))) = (y10.1.map (NmT.sh c),(y10.2.1 + k,0)):=by
  cases b with
  | true =>
   rw [if_pos rfl] at hy10 ⊢
   have k1:=tk_up hW.ok u7.n hb
   have k2 : Up R 1 (tkX y7.2 true) (mu R (tkX y7.2 true) [wBra]):=mw hW.ok 123 [] k1.n
   have k3:=lst_up hW.ok on 125 [] f [] k2.n
   rw [show (⟨[125].toArray⟩ : ByteArray) = wKet from rfl,hy10] at k3
   have t2:=k3.st s10.1
   have m2:=k3.le
   obtain ⟨_,_,_,q1⟩:=muW hW wBra 123 [] rfl k1.n t2.1 (by omega)
   obtain ⟨_,q2⟩:=lstW hW on (onNW hW) 125 [] f [] k2.n (by rw [show (⟨[125].toArray⟩ : ByteArray) = wKet from rfl,hy10]; exact s10.1) (by rw [show (⟨[125].toArray⟩ : ByteArray) = wKet from rfl,hy10]; omega)
   rw [show (⟨[125].toArray⟩ : ByteArray) = wKet from rfl,hy10] at q2
   have e : tkX (y7.2.1 + k,0) true = ((tkX y7.2 true).1 + k,(0 : Int)):=by show (y7.2.1 + k + 1,(0 : Int)) = (y7.2.1 + 1 + k,0); rw [show y7.2.1 + k + 1 = y7.2.1 + 1 + k by omega]
   rw [e,q1]
   exact q2
  | false =>
   rw [if_neg (by decide)] at hy10 ⊢
   subst hy10
   rfl
 unfold ffn
 dsimp only
 rw [r1]
 rw [r2]
 dsimp only
 rw [r3]
 rw [show lst R' (onV R') wRap f [] (x3.1 + k,0) = _ from r4]
 dsimp only
 rw [r5]
 rw [r6]
 dsimp only
 rw [r7]
 dsimp only
 rw [rb,r10]
 dsimp only
 rw [r11]
 rw [r12]
 dsimp only
 rw [r13]
 rw [r14]
 dsimp only
 rw [r15]
 rfl
def MoT.plus (m m2 : MoT) (c : Int) : MoT:=⟨m.im ++ m2.im.map (NmT.sh c),m.hl || m2.hl,m.la ++ m2.la.map (PrT.sh c),m.he || m2.he,m.ef ++ m2.ef.map (NmT.sh c),m.va ++ m2.va.map (VrT.sh c),m.fn ++ m2.fn.map (FnT.sh c)⟩
end
def clash (m m2 : MoT) : Prop:=(m.hl = true ∧ m2.hl = true) ∨ (m.he = true ∧ m2.he = true)
section
variable {R R' : Rw} {k N : Nat} {c : Int} (hW : WinF R R' k c N)
include hW
theorem onNW' (pre : List NmT) : OneW R k N (fun s => pre ++ s.map (NmT.sh c)) (onN R) (onN R'):=fun s x hx h hN => by
 unfold onN at h hN ⊢
 obtain ⟨a1,a2⟩:=fnmW hW hx h (Nat.le_of_lt hN)
 exact ⟨a1,by rw [a2]; simp⟩
theorem onPW' (pre : List PrT) : OneW R k N (fun s => pre ++ s.map (PrT.sh c)) (onP R) (onP R'):=fun s x hx h hN => by
 unfold onP at h hN ⊢
 obtain ⟨a1,a2⟩:=fprW hW hx h hN
 exact ⟨a1,by rw [a2]; simp⟩
theorem fitW {F f : Nat} (m m0 : MoT) {p : Nat} (hp : p ≤ R.n) (hpN : p < N) (h : (fit R F f m p).2.2 = 0) (hN : (fit R F f m p).2.1 ≤ N) :
  (¬ clash m0 (fit R F f m p).1 → fit R' F f (m0.plus m c) (p + k) = (m0.plus (fit R F f m p).1 c,((fit R F f m p).2.1 + k,0))) ∧
  (clash m0 (fit R F f m p).1 → clash m0 m ∨ (fit R' F f (m0.plus m c) (p + k)).2 = (p + k,11)):=by
 have his : ∀ l,R'.is (p + k) l = R.is p l:=fun l => hW.win.is hpN l
 have ovN : ∀ s (x : Nat × Int),x.1 ≤ R.n → Up R 0 x (onN R s x).2:=fun s x hx => (onN_up hW.ok s hx).weak (Nat.zero_le 1)
 have ovP : ∀ s (x : Nat × Int),x.1 ≤ R.n → Up R 0 x (onP R s x).2:=fun s x hx => (onP_up hW.ok s hx).weak (Nat.zero_le 1)
 unfold fit at h hN ⊢
 rw [his lImp,his lLat,his lEff,his lVar,his lFn]
 by_cases h1 : R.is p lImp = true
 ·rw [if_pos h1] at h hN ⊢
  rw [if_pos h1]
  dsimp only at h hN ⊢
  have u1 : Up R 1 (p,0) (mu R (p,0) [wImp]):=mw hW.ok 105 [109,112,111,114,116] hp
  have u2:=fnm_up hW.ok u1.n
  have u3 : Up R 1 (fnm R (mu R (p,0) [wImp])).2 (mu R (fnm R (mu R (p,0) [wImp])).2 [wSem]):=mw hW.ok 59 [] u2.n
  have s2:=u3.st h
  have s1:=u2.st s2.1
  have l2:=u2.le
  have l3:=u3.le
  obtain ⟨_,_,_,r1⟩:=muW hW wImp 105 [109,112,111,114,116] rfl (x:=(p,0)) hp s1.1 (by omega)
  obtain ⟨_,r2⟩:=fnmW hW u1.n s2.1 (by omega)
  obtain ⟨_,_,_,r3⟩:=muW hW wSem 59 [] rfl u2.n h hN
  refine ⟨fun _ => ?_,fun hc => .inl hc⟩
  dsimp only at r1
  rw [r1,r2]
  dsimp only
  rw [r3]
  unfold MoT.plus
  simp
 ·rw [if_neg h1] at h hN ⊢
  rw [if_neg h1]
  by_cases h2 : R.is p lLat = true
  ·rw [if_pos h2] at h hN ⊢
   rw [if_pos h2]
   dsimp only at h hN ⊢
   have u1 : Up R 1 (p,if m.hl = true then 11 else 0) (mu R (p,if m.hl = true then 11 else 0) [wLat]):=mw hW.ok 108 [97,116,116,105,99,101] hp
   have u2:=lns_up hW.ok ovP f m.la u1.n
   have s2:=u2.st h
   have s1:=u1.st s2.1
   have l2:=u2.le
   have hml : m.hl = false:=by
    cases hq : m.hl with
    | false => rfl
    | true =>
     have:=s1.1
     rw [hq] at this
     exact absurd (show (11 : Int) = 0 from this) (by decide)
   rw [hml] at h hN u1 u2 s1 s2 l2 ⊢
   have e0 : (p,if false = true then (11 : Int) else 0) = (p,0):=rfl
   rw [e0] at h hN u1 u2 s1 s2 l2 ⊢
   cases hm0 : m0.hl with
   | false =>
    refine ⟨fun hc => ?_,fun hc => ?_⟩
    ·obtain ⟨_,_,_,r1⟩:=muW hW wLat 108 [97,116,116,105,99,101] rfl (x:=(p,0)) hp s2.1 (by omega)
     obtain ⟨_,r2⟩:=lnsW hW ovP (onPW' hW m0.la) f m.la u1.n h hN
     have e1 : (m0.plus m c).hl = false:=by show (m0.hl || m.hl) = false; rw [hm0,hml]; rfl
     rw [e1]
     have e2 : (p + k,if false = true then (11 : Int) else 0) = (p + k,0):=rfl
     rw [e2]
     dsimp only at r1
     rw [r1]
     rw [show (m0.plus m c).la = m0.la ++ m.la.map (PrT.sh c) from rfl,r2]
     unfold MoT.plus
     simp [hm0]
    ·rcases hc with hc | hc
     ·rw [hm0] at hc; exact absurd hc.1 (by decide)
     ·exact .inl (.inr hc)
   | true =>
    refine ⟨fun hc => absurd (.inl ⟨hm0,rfl⟩) hc,fun _ => .inr ?_⟩
    have e1 : (m0.plus m c).hl = true:=by show (m0.hl || m.hl) = true; rw [hm0]; rfl
    rw [e1]
    have e2 : (p + k,if true = true then (11 : Int) else 0) = (p + k,11):=rfl
    rw [e2,muz_bad (show ¬ (11 : Int) = 0 by decide)]
    unfold lns
    rw [muz_bad (show ¬ (11 : Int) = 0 by decide),lnsL_end (show ¬ (11 : Int) = 0 by decide)]
  ·rw [if_neg h2] at h hN ⊢
   rw [if_neg h2]
   by_cases h3 : R.is p lEff = true
   ·rw [if_pos h3] at h hN ⊢
    rw [if_pos h3]
    dsimp only at h hN ⊢
    have u1 : Up R 1 (p,if m.he = true then 11 else 0) (mu R (p,if m.he = true then 11 else 0) [wEff]):=mw hW.ok 101 [102,102,101,99,116,115] hp
    have u2:=lns_up hW.ok ovN f m.ef u1.n
    have s2:=u2.st h
    have s1:=u1.st s2.1
    have l2:=u2.le
    have hml : m.he = false:=by
     cases hq : m.he with
     | false => rfl
     | true =>
      have:=s1.1
      rw [hq] at this
      exact absurd (show (11 : Int) = 0 from this) (by decide)
    rw [hml] at h hN u1 u2 s1 s2 l2 ⊢
    have e0 : (p,if false = true then (11 : Int) else 0) = (p,0):=rfl
    rw [e0] at h hN u1 u2 s1 s2 l2 ⊢
    cases hm0 : m0.he with
    | false =>
     refine ⟨fun hc => ?_,fun hc => ?_⟩
     ·obtain ⟨_,_,_,r1⟩:=muW hW wEff 101 [102,102,101,99,116,115] rfl (x:=(p,0)) hp s2.1 (by omega)
      obtain ⟨_,r2⟩:=lnsW hW ovN (onNW' hW m0.ef) f m.ef u1.n h hN
      have e1 : (m0.plus m c).he = false:=by show (m0.he || m.he) = false; rw [hm0,hml]; rfl
      rw [e1]
      have e2 : (p + k,if false = true then (11 : Int) else 0) = (p + k,0):=rfl
      rw [e2]
      dsimp only at r1
      rw [r1]
      rw [show (m0.plus m c).ef = m0.ef ++ m.ef.map (NmT.sh c) from rfl,r2]
      unfold MoT.plus
      simp [hm0]
     ·rcases hc with hc | hc
      ·exact .inl (.inl hc)
      ·rw [hm0] at hc; exact absurd hc.1 (by decide)
    | true =>
     refine ⟨fun hc => absurd (.inr ⟨hm0,rfl⟩) hc,fun _ => .inr ?_⟩
     have e1 : (m0.plus m c).he = true:=by show (m0.he || m.he) = true; rw [hm0]; rfl
     rw [e1]
     have e2 : (p + k,if true = true then (11 : Int) else 0) = (p + k,11):=rfl
     rw [e2,muz_bad (show ¬ (11 : Int) = 0 by decide)]
     unfold lns
     rw [muz_bad (show ¬ (11 : Int) = 0 by decide),lnsL_end (show ¬ (11 : Int) = 0 by decide)]
   ·rw [if_neg h3] at h hN ⊢
    rw [if_neg h3]
    by_cases h4 : R.is p lVar = true
    ·rw [if_pos h4] at h hN ⊢
     rw [if_pos h4]
     dsimp only at h hN ⊢
     have u1 : Up R 1 (p,0) (mu R (p,0) [wVar]):=mw hW.ok 118 [97,114] hp
     have u2:=fvr_up hW.ok u1.n
     have u3 : Up R 1 (fvr R (mu R (p,0) [wVar])).2 (mu R (fvr R (mu R (p,0) [wVar])).2 [wSem]):=mw hW.ok 59 [] u2.n
     have s2:=u3.st h
     have s1:=u2.st s2.1
     have l2:=u2.le
     have l3:=u3.le
     obtain ⟨_,n3,_,r3⟩:=muW hW wSem 59 [] rfl u2.n h hN
     obtain ⟨_,_,_,r1⟩:=muW hW wVar 118 [97,114] rfl (x:=(p,0)) hp s1.1 (by omega)
     obtain ⟨_,r2⟩:=fvrW hW u1.n s2.1 n3
     refine ⟨fun _ => ?_,fun hc => .inl hc⟩
     dsimp only at r1
     rw [r1,r2]
     dsimp only
     rw [r3]
     unfold MoT.plus
     simp
    ·rw [if_neg h4] at h hN ⊢
     rw [if_neg h4]
     by_cases h5 : R.is p lFn = true
     ·rw [if_pos h5] at h hN ⊢
      rw [if_pos h5]
      dsimp only at h hN ⊢
      obtain ⟨_,r1⟩:=ffnW hW (F:=F) (f:=f) (x:=(p,0)) hp h hN
      refine ⟨fun _ => ?_,fun hc => .inl hc⟩
      dsimp only at r1
      rw [r1]
      unfold MoT.plus
      simp
     ·rw [if_neg h5] at h
      cases h
theorem fitsW {F f : Nat} (hlt : ∀ i,i < R.n → i + k < R'.n ∧ i < N) (hnN : R.n ≤ N) (m0 : MoT) : ∀ (g : Nat) (m : MoT) (p : Nat),p ≤ R.n → (fits R F f g m (p,0)).2.2 = 0 → (fits R F f g m (p,0)).2.1 = R.n → ¬ clash m0 m →
  (¬ clash m0 (fits R F f g m (p,0)).1 → ∃ j,j ≤ R.n - p ∧ ∀ g',fits R' F f (g' + j) (m0.plus m c) (p + k,0) = fits R' F f g' (m0.plus (fits R F f g m (p,0)).1 c) (R.n + k,0)) ∧
  (clash m0 (fits R F f g m (p,0)).1 → ∃ j q,j ≤ R.n - p ∧ q < R.n ∧ ∀ g',(fits R' F f (g' + j) (m0.plus m c) (p + k,0)).2 = (q + k,11)):=by
 intro g
 induction g with
 | zero =>
  intro m p hp h hn hcl
  have e : fits R F f 0 m (p,0) = (m,(p,0)):=rfl
  rw [e] at hn ⊢
  have hn : p = R.n:=hn
  subst hn
  exact ⟨fun _ => ⟨0,Nat.zero_le _,fun g' => rfl⟩,fun hc => absurd hc hcl⟩
 | succ g ih =>
  intro m p hp h hn hcl
  by_cases hpe : p = R.n
  ·have e : fits R F f (g + 1) m (p,0) = (m,(p,0)):=fits_end (fun h => h.2 hpe)
   rw [e]
   subst hpe
   exact ⟨fun _ => ⟨0,Nat.zero_le _,fun g' => rfl⟩,fun hc => absurd hc hcl⟩
  ·rw [fits_on hpe] at h hn ⊢
   have u:=fit_up hW.ok F f m hp
   have hn1:=u.n
   obtain ⟨hk1,hk2⟩:=hlt p (by omega)
   have hke : ¬ p + k = R'.n:=by omega
   by_cases h0 : (fit R F f m p).2.2 = 0
   ·have hst:=(u.st h0).2
    have hst : p + 1 ≤ (fit R F f m p).2.1:=hst
    obtain ⟨w1,w2⟩:=fitW hW (F:=F) (f:=f) m m0 hp hk2 h0 (by omega)
    obtain ⟨y,hy⟩ : ∃ y,fit R F f m p = y:=⟨_,rfl⟩
    rw [hy] at h hn h0 hn1 hst w1 w2 ⊢
    obtain ⟨m1,q,r⟩:=y
    dsimp only at h hn h0 hn1 hst w1 w2 ⊢
    subst h0
    by_cases hc1 : clash m0 m1
    ·have w:=(w2 hc1).resolve_left hcl
     have hbad : ∀ g',(fits R' F f (g' + 1) (m0.plus m c) (p + k,0)).2 = (p + k,11):=fun g' => by
      rw [fits_on hke,w]
      rw [fits_end (fun h => absurd (show (11 : Int) = 0 from h.1) (by decide))]
     refine ⟨fun hc => ?_,fun _ => ⟨1,p,by omega,by omega,hbad⟩⟩
     exfalso
     have hkeep : ∀ (g : Nat) (m : MoT) (x : Nat × Int),clash m0 m → clash m0 (fits R F f g m x).1:=by
      intro g
      induction g with
      | zero => intro m x h; exact h
      | succ g ih2 =>
       intro m x h
       by_cases hz : x.2 = 0 ∧ ¬ x.1 = R.n
       ·obtain ⟨p,r⟩:=x
        obtain ⟨hz1,hz2⟩:=hz
        dsimp only at hz1 hz2
        subst hz1
        rw [fits_on hz2]
        refine ih2 _ _ ?_
        unfold fit
        rcases h with h | h
        ·refine .inl ⟨h.1,?_⟩
         (repeat' split) <;> first | exact h.2 | rfl
        ·refine .inr ⟨h.1,?_⟩
         (repeat' split) <;> first | exact h.2 | rfl
       ·rw [fits_end hz]; exact h
     exact hc (hkeep g m1 (q,0) hc1)
    ·obtain ⟨i1,i2⟩:=ih m1 q hn1 h hn hc1
     have w:=w1 hc1
     refine ⟨fun hc => ?_,fun hc => ?_⟩
     ·obtain ⟨j,hj,hg⟩:=i1 hc
      refine ⟨j + 1,by omega,fun g' => ?_⟩
      rw [← Nat.add_assoc,fits_on hke,w]
      exact hg g'
     ·obtain ⟨j,q',hj,hq',hg⟩:=i2 hc
      refine ⟨j + 1,q',by omega,hq',fun g' => ?_⟩
      rw [← Nat.add_assoc,fits_on hke,w]
      exact hg g'
   ·rw [fits_end (fun h => h0 h.1)] at h
    exact absurd h h0
end
def gct : Ms → Gs → Nat
 | .row _,g => cts g.l
 | .blk,g => cts g.l
 | .st,g => g.s.ct
def mct : Ms → Nat
 | .row acc => cts acc
 | _ => 0
theorem rs_cts {R : Rw} (hR : R.Ok) {F : Nat} : ∀ (f : Nat) (m : Ms) (p : Nat) (d : Int),p ≤ R.n → (rs R F f m p d).r = 0 → gct m (rs R F f m p d) + p ≤ mct m + (rs R F f m p d).p:=by
 intro f
 induction f with
 | zero => intro m p d h h0; exact absurd (show (99 : Int) = 0 from h0) (by decide)
 | succ f ih =>
  intro m p d h h0
  cases m with
  | row acc =>
   rw [rs_row] at h0 ⊢
   split at h0
   ·rename_i hc
    rw [if_pos hc]
    exact Nat.le_refl _
   ·rename_i hc
    rw [if_neg hc]
    split at h0
    ·rename_i h1
     rw [if_pos h1]
     have k1 : (rs R F f .st p d).s.ct + p ≤ 0 + (rs R F f .st p d).p:=ih .st p d h h1
     have k2 : cts _ + (rs R F f .st p d).p ≤ cts (acc ++ [(rs R F f .st p d).s]) + _:=ih (.row (acc ++ [(rs R F f .st p d).s])) _ d (rs_le hR f .st p d h).2 h0
     rw [cts_app,cts_cons,cts_nil] at k2
     show cts _ + p ≤ cts acc + _
     omega
    ·exact absurd h0 ‹_›
  | blk =>
   rw [rs_blk] at h0 ⊢
   split at h0
   ·rename_i hc
    rw [if_pos hc]
    have hlt:=hR.is_lt hc
    split at h0
    ·exact absurd (show (12 : Int) = 0 from h0) (by decide)
    ·rename_i hd
     rw [if_neg hd]
     split at h0
     ·rename_i h1
      rw [if_pos h1]
      have k1 : cts _ + (p + 1) ≤ cts [] + (rs R F f (.row []) (p + 1) (d + 1)).p:=ih (.row []) (p + 1) (d + 1) (by omega) h1
      rw [cts_nil] at k1
      split at h0
      ·rename_i h2
       rw [if_pos h2]
       show cts (rs R F f (.row []) (p + 1) (d + 1)).l + p ≤ 0 + ((rs R F f (.row []) (p + 1) (d + 1)).p + 1)
       omega
      ·exact absurd (show (11 : Int) = 0 from h0) (by decide)
     ·exact absurd h0 ‹_›
   ·exact absurd (show (11 : Int) = 0 from h0) (by decide)
  | st =>
   have hn:=hdS_nil R F p
   have hu:=hdS_up hR F h
   rw [rs_st] at h0 ⊢
   split at h0
   ·rename_i hs
    rw [if_pos hs]
    have hu2 : p + 1 ≤ (hdS R F p).2.1:=(hu.st hs).2
    have hu3 : (hdS R F p).2.1 ≤ R.n:=hu.n
    split at h0
    ·rename_i hk
     rw [if_pos hk]
     split at h0
     ·rename_i h1
      rw [if_pos h1]
      have k1 : cts (rs R F f .blk (hdS R F p).2.1 d).l + (hdS R F p).2.1 ≤ 0 + (rs R F f .blk (hdS R F p).2.1 d).p:=ih .blk _ d hu3 h1
      have l1:=(rs_le hR (F:=F) f .blk (hdS R F p).2.1 d hu3).2
      split at h0
      ·rename_i he
       rw [if_pos he]
       have hlt:=hR.is_lt he.2
       split at h0
       ·rename_i h2
        rw [if_pos h2]
        have k2 : cts (rs R F f .blk ((rs R F f .blk (hdS R F p).2.1 d).p + 1) d).l + ((rs R F f .blk (hdS R F p).2.1 d).p + 1) ≤ 0 + (rs R F f .blk ((rs R F f .blk (hdS R F p).2.1 d).p + 1) d).p:=ih .blk _ d (by omega) h2
        show (((hdS R F p).1.setL (rs R F f .blk (hdS R F p).2.1 d).l).setR (rs R F f .blk ((rs R F f .blk (hdS R F p).2.1 d).p + 1) d).l).ct + p ≤ 0 + (rs R F f .blk ((rs R F f .blk (hdS R F p).2.1 d).p + 1) d).p
        rw [St.ct_eq]
        cases hh : (hdS R F p).1
        simp only [St.setL,St.setR,St.l,St.r]
        omega
       ·exact absurd h0 ‹_›
      ·rename_i he
       rw [if_neg he]
       show ((hdS R F p).1.setL (rs R F f .blk (hdS R F p).2.1 d).l).ct + p ≤ 0 + (rs R F f .blk (hdS R F p).2.1 d).p
       rw [St.ct_eq]
       have hnr:=hn.2
       cases hh : (hdS R F p).1
       rw [hh] at hnr
       simp only [St.setL,St.l,St.r] at hnr ⊢
       rw [hnr,cts_nil]
       omega
     ·exact absurd h0 ‹_›
    ·rename_i hk
     rw [if_neg hk]
     show (hdS R F p).1.ct + p ≤ 0 + (hdS R F p).2.1
     rw [St.ct_eq,hn.1,hn.2,cts_nil]
     omega
   ·exact absurd h0 ‹_›
section
variable {R : Rw} {x : Nat × Int}
theorem prow_cts (hR : R.Ok) {F f : Nat} (h : x.1 ≤ R.n) (h0 : (prow R F f x).2.2 = 0) : cts (prow R F f x).1 + x.1 ≤ (prow R F f x).2.1:=by
 unfold prow at h0 ⊢
 split at h0
 ·rename_i hx
  rw [if_pos hx]
  split at h0
  ·rename_i h1
   rw [if_pos h1]
   have k:=rs_cts hR (F:=F) f (.row []) x.1 1 h h1
   show cts (rs R F f (.row []) x.1 1).l + x.1 ≤ (rs R F f (.row []) x.1 1).p
   have k : cts (rs R F f (.row []) x.1 1).l + x.1 ≤ cts [] + (rs R F f (.row []) x.1 1).p:=k
   rw [cts_nil] at k
   omega
  ·exact absurd h0 ‹_›
 ·exact absurd h0 ‹_›
theorem lstV_len (hR : R.Ok) : ∀ (f : Nat) (s : List VrT) (x : Nat × Int),x.1 ≤ R.n → (lstL R (onV R) f s x).2.2 = 0 → (lstL R (onV R) f s x).1.length + x.1 ≤ s.length + (lstL R (onV R) f s x).2.1:=by
 intro f
 induction f with
 | zero => intro s x h h0; exact Nat.le_refl _
 | succ f ih =>
  intro s x h h0
  unfold lstL at h0 ⊢
  split at h0
  ·rename_i hc
   rw [if_pos hc]
   have u1:=tk_up hR h hc
   have u2:=onV_up hR s u1.n
   have u3:=lstL_up hR (fun s x hx => (onV_up hR s hx).weak (Nat.zero_le 1)) f (onV R s (tkX x true)).1 _ u2.n
   have k:=ih _ _ u2.n h0
   have s2:=(u2.st (u3.st h0).1).2
   have l1:=u1.le
   have e : (onV R s (tkX x true)).1.length = s.length + 1:=by unfold onV; simp
   omega
  ·rename_i hc
   rw [if_neg hc]
   exact Nat.le_refl _
theorem lstP_len (hR : R.Ok) {f : Nat} (h : x.1 ≤ R.n) (h0 : (lst R (onV R) wRap f [] x).2.2 = 0) : (lst R (onV R) wRap f [] x).1.length + x.1 ≤ (lst R (onV R) wRap f [] x).2.1:=by
 unfold lst at h0 ⊢
 split at h0
 ·rename_i hc
  rw [if_pos hc]
  show 0 + x.1 ≤ x.1 + 1
  omega
 ·rename_i hc
  rw [if_neg hc]
  have u1:=onV_up hR [] h
  have u2:=lstL_up hR (fun s x hx => (onV_up hR s hx).weak (Nat.zero_le 1)) f (onV R [] x).1 _ u1.n
  have u3 : Up R 1 (lstL R (onV R) f (onV R [] x).1 (onV R [] x).2).2 (mu R (lstL R (onV R) f (onV R [] x).1 (onV R [] x).2).2 [wRap]):=mw hR 41 [] u2.n
  have s3:=u3.st h0
  have k:=lstV_len hR f _ _ u1.n s3.1
  have s1:=(u1.st (u2.st s3.1).1).2
  have e : (onV R [] x).1.length = 1:=by unfold onV; simp
  show (lstL R (onV R) f (onV R [] x).1 (onV R [] x).2).1.length + x.1 ≤ (mu R (lstL R (onV R) f (onV R [] x).1 (onV R [] x).2).2 [wRap]).1
  omega
theorem ffn_mks (hR : R.Ok) {F f : Nat} (h : x.1 ≤ R.n) (h0 : (ffn R F f x).2.2 = 0) : (ffn R F f x).1.mks.length + x.1 ≤ (ffn R F f x).2.1 ∧ cts (ffn R F f x).1.bd + x.1 ≤ (ffn R F f x).2.1:=by
 unfold ffn at h0 ⊢
 have h1:=mw hR 102 [110] h
 have h2:=fnm_up hR h1.n
 have h3:=mw hR 40 [] h2.n
 have h4:=lst_up hR (fun s x hx => (onV_up hR s hx).weak (Nat.zero_le 1)) 41 [] f [] h3.n
 have h5:=mw hR 58 [] h4.n
 have h6:=pty_up hR h5.n
 have h7:=pmk_up hR h6.n
 have hl:=lstP_len hR (f:=f) h3.n
 obtain ⟨ps,hps⟩ : ∃ ps,lst R (onV R) wRap f [] (mu R (fnm R (mu R x [wFn])).2 [wPar]) = ps:=⟨_,rfl⟩
 have hps' : lst R (onV R) ⟨#[41]⟩ f [] (mu R (fnm R (mu R x [wFn])).2 [wPar]) = ps:=hps
 dsimp only at h0 ⊢
 rw [hps] at h0 hl ⊢
 have h4 : Up R 1 (mu R (fnm R (mu R x [wFn])).2 [wPar]) ps.2:=by rw [← hps]; exact h4
 have h5 : Up R 1 ps.2 (mu R ps.2 [wCol]):=mw hR 58 [] h4.n
 have h6:=pty_up hR h5.n
 have h7:=pmk_up hR h6.n
 obtain ⟨z,hz⟩ : ∃ z,pmk R (pty R (mu R ps.2 [wCol])).2 = z:=⟨_,rfl⟩
 rw [hz] at h0 h7 ⊢
 have h8 : Up R 0 z.2 (if tkW R z.2 [47] = true then lst R (onN R) wKet f [] (mu R (tkX z.2 true) [wBra]) else ([],z.2)).2:=by
  cases hb : tkW R z.2 [47] with
  | true =>
   rw [if_pos rfl]
   have k1:=tk_up hR h7.n hb
   have k2:=mw hR 123 [] k1.n
   exact ((k1.trans k2).trans (lst_up hR (fun s x hx => (onN_up hR s hx).weak (Nat.zero_le 1)) 125 [] f [] k2.n)).weak (Nat.zero_le _)
  | false =>
   rw [if_neg (by decide)]
   exact Up.refl h7.n
 obtain ⟨y,hy⟩ : ∃ y,(if tkW R z.2 [47] = true then lst R (onN R) wKet f [] (mu R (tkX z.2 true) [wBra]) else ([],z.2)) = y:=⟨_,rfl⟩
 rw [hy] at h0 h8 ⊢
 have h9 : Up R 1 y.2 (mu R y.2 [wBra]):=mw hR 123 [] h8.n
 have h10:=prow_up hR F f h9.n
 have hc:=prow_cts hR (F:=F) (f:=f) h9.n
 have h11 : Up R 1 (prow R F f (mu R y.2 [wBra])).2 (mu R (prow R F f (mu R y.2 [wBra])).2 [wRet]):=mw hR 114 [101,116,117,114,110] h10.n
 have h12:=pex_up hR F h11.n
 have h13 : Up R 2 (pex R F (mu R (prow R F f (mu R y.2 [wBra])).2 [wRet])).2 (mu R (pex R F (mu R (prow R F f (mu R y.2 [wBra])).2 [wRet])).2 [wSem,wKet]):=mu_up hR [wSem,wKet] (fun s hs => by
  rcases List.mem_cons.1 hs with rfl | hs
  ·exact ⟨59,[],wd1 59 []⟩
  ·rw [List.mem_singleton.1 hs]; exact ⟨125,[],wd1 125 []⟩) _ h12.n
 have s13:=h13.st h0
 have s12:=h12.st s13.1
 have s11:=h11.st s12.1
 have s10:=h10.st s11.1
 have s9:=h9.st s10.1
 have s8:=h8.st s9.1
 have s7:=h7.st s8.1
 have s6:=h6.st s7.1
 have s5:=h5.st s6.1
 have k1:=hl s5.1
 have k2:=hc s11.1
 have l1:=h1.le
 have l2:=h2.le
 have l3:=h3.le
 have hm:=lms_len (prow R F f (mu R y.2 [wBra])).1 _ nLe
 constructor
 ·show (FnT.mks _).length + _ ≤ _
  unfold FnT.mks
  dsimp only
  rw [List.length_append,List.length_append,List.length_map]
  simp only [List.length_singleton]
  omega
 ·omega
theorem fit_mks (hR : R.Ok) {F f : Nat} {m : MoT} {p : Nat} (h : p ≤ R.n) (h0 : (fit R F f m p).2.2 = 0) : (fit R F f m p).1.mks.length + p ≤ m.mks.length + (fit R F f m p).2.1 ∧ ((∀ g ∈ m.fn,cts g.bd ≤ R.n) → ∀ g ∈ (fit R F f m p).1.fn,cts g.bd ≤ R.n):=by
 have hu:=fit_up hR F f m h
 have hst : p + 1 ≤ (fit R F f m p).2.1:=(hu.st h0).2
 have hn : (fit R F f m p).2.1 ≤ R.n:=hu.n
 unfold fit at h0 hst hn ⊢
 split
 ·rename_i h1
  rw [if_pos h1] at hst
  refine ⟨?_,fun h => h⟩
  show m.mks.length + p ≤ _
  dsimp only at hst ⊢
  omega
 ·rename_i h1
  rw [if_neg h1] at h0 hst hn
  split
  ·rename_i h2
   rw [if_pos h2] at hst
   refine ⟨?_,fun h => h⟩
   show m.mks.length + p ≤ _
   dsimp only at hst ⊢
   omega
  ·rename_i h2
   rw [if_neg h2] at h0 hst hn
   split
   ·rename_i h3
    rw [if_pos h3] at hst
    refine ⟨?_,fun h => h⟩
    show m.mks.length + p ≤ _
    dsimp only at hst ⊢
    omega
   ·rename_i h3
    rw [if_neg h3] at h0 hst hn
    split
    ·rename_i h4
     rw [if_pos h4] at hst
     refine ⟨?_,fun h => h⟩
     unfold MoT.mks
     dsimp only at hst ⊢
     rw [List.map_append,List.length_append,List.length_append,List.length_append]
     simp only [List.map_cons,List.map_nil,List.length_singleton]
     omega
    ·rename_i h4
     rw [if_neg h4] at h0 hst hn
     split
     ·rename_i h5
      rw [if_pos h5] at h0 hst hn
      obtain ⟨k1,k2⟩:=ffn_mks hR (F:=F) (f:=f) (x:=(p,0)) h h0
      dsimp only at h0 hst hn k1 k2 ⊢
      refine ⟨?_,fun hq g hg => ?_⟩
      ·unfold MoT.mks
       dsimp only
       rw [List.flatMap_append,List.length_append,List.length_append,List.length_append]
       simp only [List.flatMap_cons,List.flatMap_nil,List.append_nil]
       omega
      ·rcases List.mem_append.1 hg with hg | hg
       ·exact hq g hg
       ·rw [List.mem_singleton.1 hg]; omega
     ·rename_i h5
      rw [if_neg h5] at h0
      cases h0
theorem fits_mks (hR : R.Ok) {F f : Nat} : ∀ (g : Nat) (m : MoT) (p : Nat),p ≤ R.n → (∀ g ∈ m.fn,cts g.bd ≤ R.n) → (fits R F f g m (p,0)).2.2 = 0 →
  (fits R F f g m (p,0)).1.mks.length + p ≤ m.mks.length + R.n ∧ ∀ q ∈ (fits R F f g m (p,0)).1.fn,cts q.bd ≤ R.n:=by
 intro g
 induction g with
 | zero => intro m p h hq _; exact ⟨by show m.mks.length + p ≤ _; omega,hq⟩
 | succ g ih =>
  intro m p h hq h0
  by_cases hp : p = R.n
  ·rw [fits_end (fun e => e.2 hp)]
   exact ⟨by show m.mks.length + p ≤ _; omega,hq⟩
  ·rw [fits_on hp] at h0 ⊢
   have hu:=fit_up hR F f m h
   by_cases h1 : (fit R F f m p).2.2 = 0
   ·obtain ⟨k1,k2⟩:=fit_mks hR (F:=F) (f:=f) (m:=m) h h1
    have hn:=hu.n
    obtain ⟨y,hy⟩ : ∃ y,fit R F f m p = y:=⟨_,rfl⟩
    rw [hy] at h0 h1 k1 k2 hn ⊢
    obtain ⟨m1,q,r⟩:=y
    dsimp only at h0 h1 k1 k2 hn ⊢
    subst h1
    obtain ⟨j1,j2⟩:=ih m1 q hn (k2 hq) h0
    exact ⟨by omega,j2⟩
   ·rw [fits_end (fun h => h1 h.1)] at h0
    exact absurd h0 h1
end
theorem parse_mks {T : ByteArray} {L : List Tk} (hR : (rowT T L).Ok) {n F f : Nat} : (parseM (rowT T L) L n F f).1.mks.length ≤ L.length ∧ ∀ q ∈ (parseM (rowT T L) L n F f).1.fn,cts q.bd ≤ L.length:=by
 have hnul : MoT.nul.mks.length ≤ L.length ∧ ∀ q ∈ MoT.nul.fn,cts q.bd ≤ L.length:=⟨Nat.zero_le _,fun q hq => by cases hq⟩
 unfold parseM
 split
 ·exact hnul
 ·split
  ·exact hnul
  ·split
   ·rename_i h0
    have:=fits_mks hR (F:=F) (f:=f) f MoT.nul 0 (Nat.zero_le _) (fun q hq => by cases hq) h0
    exact ⟨by have h1:=this.1; show (fits (rowT T L) F f f MoT.nul (0,0)).1.mks.length ≤ L.length; have e : MoT.nul.mks.length = 0:=rfl; have e2 : (rowT T L).n = L.length:=rfl; omega,this.2⟩
   ·exact hnul
theorem ms_mk (k a ty : Int) (nm : ByteArray) (an : An) (e : Ex) (l r : List St) : (St.mk k a nm ty an e l r).ms = if k = 0 then [an] else if k = 2 then lms l ++ lms r else if k = 3 then lms l else []:=St.ms_eq _
section
variable {R : Rw} {x : Nat × Int}
def MoT.sz (m : MoT) : Nat:=m.im.length + m.la.length + m.ef.length + m.va.length + m.fn.length
end
end Go.Proofs.YtkjhlgnpohamnaaGreatDoor
namespace Go.Proofs.YtkjhlgnpohamnaaGreatDoor
set_option linter.unusedVariables false
set_option linter.unusedSimpArgs false
open Go.RowKit
theorem plus_nil (m : MoT) (c : Int) : m.plus MoT.nul c = m:=by
 cases m
 simp [MoT.plus,MoT.nul]
theorem fits_all {R : Rw} (hR : R.Ok) {F f : Nat} : ∀ (g : Nat) (m : MoT) (p : Nat),p ≤ R.n → R.n ≤ p + g → (fits R F f g m (p,0)).2.2 = 0 → (fits R F f g m (p,0)).2.1 = R.n:=by
 intro g
 induction g with
 | zero => intro m p h hg h0; show p = R.n; omega
 | succ g ih =>
  intro m p h hg h0
  by_cases hp : p = R.n
  ·rw [fits_end (fun e => e.2 hp)]; exact hp
  ·rw [fits_on hp] at h0 ⊢
   have hu:=fit_up hR F f m h
   by_cases h1 : (fit R F f m p).2.2 = 0
   ·have hn:=hu.n
    have hs : p + 1 ≤ (fit R F f m p).2.1:=(hu.st h1).2
    obtain ⟨y,hy⟩ : ∃ y,fit R F f m p = y:=⟨_,rfl⟩
    rw [hy] at h0 h1 hn hs ⊢
    obtain ⟨m1,q,r⟩:=y
    dsimp only at h0 h1 hn hs ⊢
    subst h1
    exact ih m1 q hn (by omega) h0
   ·rw [fits_end (fun h => h1 h.1)] at h0
    exact absurd h0 h1
def ex10 : List Int:=[118,97,114,32,120,58,32,105,110,116,59]
abbrev L10 : List Tk:=[(2,0,3),(2,4,5),(4,5,6),(2,7,10),(4,10,11)]
theorem live_ex10 : live ex10 0 = L10:=by
 unfold live ex10
 simp [toks_at,toks_end,tk,tl,kd,goes,runB,pairsL,pairB,lv]
abbrev R10 : Rw:=rowT (strOfNums ex10) L10
namespace A10
theorem v0 : R10.wd 0 = ⟨#[118,97,114]⟩:=by rfl
theorem v1 : R10.wd 1 = ⟨#[120]⟩:=by rfl
theorem v2 : R10.wd 2 = ⟨#[58]⟩:=by rfl
theorem v3 : R10.wd 3 = ⟨#[105,110,116]⟩:=by rfl
theorem v4 : R10.wd 4 = ⟨#[59]⟩:=by rfl
end A10
abbrev an10 : An:=⟨false,false,⟨#[]⟩,10,10⟩
abbrev m10 : MoT:=⟨[],false,[],false,[],[⟨⟨#[120]⟩,4,0,an10⟩],[]⟩
theorem fit10 (F f : Nat) : fit R10 F f MoT.nul 0 = (m10,(5,0)):=by
 have e1 : mu R10 (0,0) [wVar] = (1,0):=muz_yes (by rw [isT R10 0 _ _ A10.v0 rfl]; decide)
 have e2 : fnm R10 (1,0) = (⟨⟨#[120]⟩,4⟩,(2,0)):=by
  unfold fnm
  rw [if_pos rfl,if_pos (show R10.idn 1 = true by show idB (R10.wd 1) = true; rw [A10.v1]; exact idb_x),A10.v1]
  rfl
 have e3 : mu R10 (2,0) [wCol] = (3,0):=muz_yes (by rw [isT R10 2 _ _ A10.v2 rfl]; decide)
 have e4 : pty R10 (3,0) = (0,4,0):=by
  unfold pty tyS
  rw [if_pos rfl,if_pos (by rw [isT R10 3 _ _ A10.v3 rfl]; decide)]
 have e5 : pmk R10 (4,0) = (an10,4,0):=by
  unfold pmk markS
  rw [if_pos rfl,if_neg (by rw [isT R10 4 _ _ A10.v4 rfl,isT R10 4 _ _ A10.v4 rfl]; decide)]
  rfl
 have e6 : mu R10 (4,0) [wSem] = (5,0):=muz_yes (by rw [isT R10 4 _ _ A10.v4 rfl]; decide)
 have e7 : fvr R10 (1,0) = (⟨⟨#[120]⟩,4,0,an10⟩,(4,0)):=by
  unfold fvr
  rw [e2]
  dsimp only
  rw [e3,e4]
  dsimp only
  rw [e5]
 unfold fit
 rw [if_neg (by rw [isT R10 0 _ _ A10.v0 rfl]; decide),if_neg (by rw [isT R10 0 _ _ A10.v0 rfl]; decide),if_neg (by rw [isT R10 0 _ _ A10.v0 rfl]; decide),if_pos (by rw [isT R10 0 _ _ A10.v0 rfl]; decide)]
 dsimp only
 rw [e1,e7]
 dsimp only
 rw [e6]
 rfl
theorem parse10 : parseM (rowT (strOfNums ex10) (live ex10 0)) (live ex10 0) 11 1020 100 = (m10,11,0):=by
 rw [live_ex10]
 have h1 : fits R10 1020 100 100 MoT.nul (0,0) = (m10,5,0):=by
  rw [fits_on (show ¬ 0 = R10.n by decide),fit10,fits_end (fun h => h.2 rfl)]
 unfold parseM
 rw [if_neg (by decide),if_neg (by decide),h1]
 rfl
theorem ex10_byt : Byt8 ex10:=fun x hx => by simp [ex10] at hx; omega
theorem one_ans {K : List An} (hs : SrtA K) (h : FlA K m10.mks) : K = [an10]:=
 srtA_one hs (List.pairwise_singleton _ _) h
set_option maxRecDepth 100000 in
set_option maxHeartbeats 1600000 in
theorem awake10_any (w : World) (hv : Vars w) : CP 10 #[] w fun e w' => e = .returned (.bool true) ∧ Below w.heap.size w w':=by
 have hvs:=hv.size
 obtain ⟨wl,hcv,hx,hb⟩:=convC (w:=w) (B:=w.heap.size) ex10 11 rfl nLe
 have hm:=fparse_any _ 11 11 ex10 wl hx ex10_byt (by omega) (by omega) (by unfold maxLen; omega) (hv.under hb hvs) 1020 100 (by omega) (by omega)
 rw [parse10] at hm
 have HM:=Lh hm
 have HB:=Lh hb
 have HMK : Hid (∀ (v : MoV) (W : World),MoSh W (fun b => wl.heap.size ≤ b) m10 v → CP 12 #[moV false false v] W (MkTo m10 W)):=Lh fun v W h => marks_any m10 v W _ h (by decide) (fun f hf => by cases hf)
 unfold FpTo at HM
 unfold MkTo at HMK
 simp only [by8,List.map,ex10] at hcv
 clear hm hb hx hv
 go_enter Tryz.func10,Tryz.ntmps10
 go_wp2_with (first
  | (go_at_call 11; refine HM.out.mono ?_; rintro e w2 ⟨v,rfl,hs2,hb2⟩; have hone:=hs2.one false false; have HS2:=Lh hs2; have HB2:=Lh (bTr HB hb2); clear hs2 hb2; unfold moV; dsimp only)
  | (refine wpList_stV rfl 29 _ _ rfl (G:=w2.heap.size) (off:=0) rfl (us:=moC false false v) (Var.new w2 (moC false false MoV.nul) 29 rfl) rfl info_mo (Nat.le_refl 7) hone ?_; intro w3 ht hs; have bb:=((Tn.alloc (fun k => k = w2.heap.size) w2 (.cells #[.slice none 0 0,.bool false,.slice none 0 0,.bool false,.slice none 0 0,.slice none 0 0,.slice none 0 0] 29)).trans ht).below nLe (by intro k hk e; omega); have HS2:=Lh (HS2.out.under bb); have HB2:=Lh (bTr HB2 bb); have JV:=Lh (show Var w3 w2.heap.size (moC false false v) from hs); clear ht hs bb)
  | (refine wpList_ldW rfl 29 _ rfl w2.heap.size 0 rfl (moC false false v) JV.out.rg Tryz.underlying29 rfl info_mo ?_)
  | (go_at_call 12; refine (HMK.out v _ HS2.out).mono ?_; rintro e w4 ⟨u,K,rfl,hu,hs4,hf4,hb4⟩; obtain rfl:=one_ans hs4 hf4; have HU:=Lh hu; have JV:=Lh (JV.out.under hb4); have HS2:=Lh (HS2.out.under hb4); have HB2:=Lh (bTr HB2 hb4); clear hu hs4 hf4 hb4; refine Hid.out ?_)
  | fail)
 have hml : m10.mks.length = 1:=rfl
 rw [hml] at HU
 obtain ⟨A4,c4,rfl⟩:=HU.out.formA
 obtain ⟨b,off,hA,_,hbl,hrg⟩:=HU.out.elem (f:=anC) (sz:=5) (fun _ => rfl) (k:=0) (x:=an10) rfl (by omega)
 subst hA
 have hva:=HS2.out.va
 obtain ⟨im,la,ef,va,fn⟩:=v
 dsimp only at hva JV
 obtain ⟨A5,c5,rfl⟩:=hva.formA
 have k5:=JV.out.at 5 rfl
 have k0:=hrg 0 _ rfl
 have k3:=hrg 3 _ rfl
 simp only [Nat.zero_mul,Nat.add_zero] at k0 k3
 clear hrg hva HU HS2 HM HMK
 refine Lh ?_
 go_wp2_with fail
 go_ret
 exact ⟨rfl,HB2.out⟩
end Go.Proofs.YtkjhlgnpohamnaaGreatDoor
