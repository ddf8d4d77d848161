import Derived.Test.YtkjhlgnpohamnaaGreatDoorSq
import Derived.Test.YtkjhlgnpohamnaaGreatDoorFiW
namespace Go.Proofs.YtkjhlgnpohamnaaGreatDoor
set_option linter.unusedVariables false
set_option linter.unusedSimpArgs false
structure Laid (T : ByteArray) (R : Rw) : Prop where
 ok : R.Ok
 pos : ∀ i,i < R.n → 0 < (R.wd i).size
 ge : ∀ i,i < R.n → 0 ≤ R.ps i
 on : ∀ i,i < R.n → R.ps i + ((R.wd i).size : Int) ≤ R.ps (i + 1)
 top : R.ps R.n = (T.size : Int)
 txt : ∀ i,i < R.n → R.wd i = T.extract (R.ps i).toNat (R.ps i + ((R.wd i).size : Int)).toNat
theorem Rw.en_s (R : Rw) (p : Nat) : R.en (p + 1) = R.ps p + ((R.wd p).size : Int):=by
 unfold Rw.en
 rw [if_neg (by omega),Nat.add_sub_cancel]
section
variable {T : ByteArray} {R : Rw} (hL : Laid T R)
include hL
theorem Laid.en_ps {p : Nat} (h : p ≤ R.n) (h0 : 0 < p ∨ p < R.n) : R.en p ≤ R.ps p:=by
 unfold Rw.en
 by_cases hp : p = 0
 ·subst hp
  rw [if_pos rfl]
  exact hL.ge 0 (by omega)
 ·rw [if_neg hp]
  have:=hL.on (p - 1) (by omega)
  rwa [show p - 1 + 1 = p by omega] at this
theorem Laid.en_lt {p : Nat} (h : p < R.n) : R.en p < R.en (p + 1):=by
 rw [R.en_s p]
 have:=hL.en_ps (p:=p) (by omega) (.inr h)
 have:=hL.pos p h
 omega
theorem Laid.en_le {p q : Nat} (h : p ≤ q) (hq : q ≤ R.n) : R.en p ≤ R.en q:=by
 induction q with
 | zero =>
  obtain rfl : p = 0:=by omega
  exact Int.le_refl _
 | succ q ih =>
  by_cases e : p = q + 1
  ·subst e; exact Int.le_refl _
  ·have:=ih (by omega) (by omega)
   have:=hL.en_lt (p:=q) (by omega)
   omega
theorem Laid.en_ge {p : Nat} (h : p ≤ R.n) : 0 ≤ R.en p:=by
 have:=hL.en_le (Nat.zero_le p) h
 have e : R.en 0 = 0:=rfl
 omega
theorem Laid.en_top {p : Nat} (h : p ≤ R.n) : R.en p ≤ (T.size : Int):=by
 by_cases h0 : R.n = 0
 ·obtain rfl : p = 0:=by omega
  show (0 : Int) ≤ _
  omega
 ·have:=hL.en_le h nLe
  have:=hL.en_ps (p:=R.n) nLe (.inl (by omega))
  rw [hL.top] at this
  omega
end
def OkA (T : ByteArray) (a : An) : Prop:=0 ≤ a.fr ∧ a.fr ≤ a.to ∧ a.to ≤ (T.size : Int) ∧ T.extract a.fr.toNat a.to.toNat = a.lb ∧ (a.so = true ↔ 0 < a.lb.size)
def Dm (T : ByteArray) (R : Rw) (l : List An) (p q : Nat) : Prop:=(l.map (·.fr)).Nodup ∧ ∀ a ∈ l,OkA T a ∧ R.en p ≤ a.fr ∧ a.fr < R.en q
theorem Dm.nil {T : ByteArray} {R : Rw} (p q : Nat) : Dm T R [] p q:=⟨List.nodup_nil,fun a h => by cases h⟩
theorem Dm.perm {T : ByteArray} {R : Rw} {l k : List An} {p q : Nat} (h : Dm T R l p q) (e : l.Perm k) : Dm T R k p q:=⟨(e.map _).nodup h.1,fun a ha => h.2 a (e.symm.subset ha)⟩
section
variable {T : ByteArray} {R : Rw} (hL : Laid T R) {l k : List An} {p q r : Nat}
include hL
theorem Dm.wide (h : Dm T R l p q) {p' q' : Nat} (h1 : p' ≤ p) (h2 : p ≤ R.n) (h3 : q ≤ q') (h4 : q' ≤ R.n) : Dm T R l p' q':=⟨h.1,fun a ha => by
 have:=h.2 a ha
 have:=hL.en_le h1 h2
 have:=hL.en_le h3 h4
 exact ⟨(h.2 a ha).1,by omega,by omega⟩⟩
theorem Dm.app (h : Dm T R l p q) (h' : Dm T R k q r) (h1 : p ≤ q) (h2 : q ≤ r) (h3 : r ≤ R.n) : Dm T R (l ++ k) p r:=by
 have e1:=hL.en_le h1 (by omega)
 have e2:=hL.en_le h2 h3
 refine ⟨?_,fun a ha => ?_⟩
 ·rw [List.map_append,List.nodup_append]
  refine ⟨h.1,h'.1,fun x hx y hy => ?_⟩
  obtain ⟨a,ha,rfl⟩:=List.mem_map.1 hx
  obtain ⟨b,hb,rfl⟩:=List.mem_map.1 hy
  have:=h.2 a ha
  have:=h'.2 b hb
  show a.fr ≠ b.fr
  omega
 ·rcases List.mem_append.1 ha with ha | ha
  ·have:=h.2 a ha
   exact ⟨this.1,this.2.1,by omega⟩
  ·have:=h'.2 a ha
   exact ⟨this.1,by omega,this.2.2⟩
theorem pmkD {x : Nat × Int} (hx : x.1 ≤ R.n) (h : (pmk R x).2.2 = 0) (hn : (pmk R x).2.1 < R.n) : Dm T R [(pmk R x).1] x.1 ((pmk R x).2.1 + 1):=by
 have hu:=(pmk_up hL.ok hx).le
 obtain ⟨p,z⟩:=x
 dsimp only at hx hu ⊢
 unfold pmk at h hn hu ⊢
 dsimp only at h hn hu ⊢
 split at h
 ·rename_i hz
  rw [if_pos hz] at hn hu ⊢
  unfold markS at h hn hu ⊢
  split at h
  ·rename_i h1
   rw [if_pos h1] at hn hu ⊢
   split at h
   ·rename_i h2
    rw [if_pos h2] at hn hu ⊢
    have hlt:=hL.ok.id_lt h2
    refine ⟨by simp,fun a ha => ?_⟩
    rw [List.mem_singleton.1 ha]
    have e1:=R.en_s (p + 1)
    have e2:=hL.en_ps (p:=p + 1) (by omega) (.inl (by omega))
    have e3:=hL.en_le (show p ≤ p + 1 by omega) (by omega)
    have e4:=hL.pos _ hlt
    have e5:=hL.ge _ hlt
    have e6:=hL.txt _ hlt
    have e7:=hL.en_top (p:=p + 2) (by omega)
    have e8:=hL.en_le (show p + 2 ≤ p + 2 + 1 by omega) (by show p + 2 + 1 ≤ R.n; have : p + 2 < R.n:=hn; omega)
    have e9 : R.en (p + 2) = R.ps (p + 1) + ((R.wd (p + 1)).size : Int):=e1
    refine ⟨⟨e5,by show R.ps (p + 1) ≤ R.en (p + 2); omega,e7,?_,?_⟩,by show R.en p ≤ R.ps (p + 1); omega,by show R.ps (p + 1) < R.en (p + 2 + 1); omega⟩
    ·show T.extract (R.ps (p + 1)).toNat (R.en (p + 2)).toNat = R.wd (p + 1)
     rw [e9,← e6]
    ·exact ⟨fun _ => e4,fun _ => rfl⟩
   ·exact absurd (show (11 : Int) = 0 from h) (by decide)
  ·rename_i h1
   rw [if_neg h1] at hn hu ⊢
   refine ⟨by simp,fun a ha => ?_⟩
   rw [List.mem_singleton.1 ha]
   have hn : p < R.n:=hn
   have e1:=hL.en_lt hn
   refine ⟨⟨hL.en_ge hx,Int.le_refl _,hL.en_top hx,?_,?_⟩,Int.le_refl _,e1⟩
   ·show T.extract (R.en p).toNat (R.en p).toNat = ⟨#[]⟩
    ext1
    simp
   ·show (false = true ↔ 0 < (⟨#[]⟩ : ByteArray).size)
    exact ⟨(fun e => by cases e),fun e => absurd e (by decide)⟩
 ·exact absurd h ‹_›
theorem fvrD {x : Nat × Int} (hx : x.1 ≤ R.n) (h : (fvr R x).2.2 = 0) (hn : (fvr R x).2.1 < R.n) : Dm T R [(fvr R x).1.an] x.1 ((fvr R x).2.1 + 1):=by
 have h1:=fnm_up hL.ok hx
 have h2 : Up R 1 (fnm R x).2 (mu R (fnm R x).2 [wCol]):=mw hL.ok 58 [] h1.n
 have h3:=pty_up hL.ok h2.n
 have h4:=pmk_up hL.ok h3.n
 have l1:=h1.le
 have l2:=h2.le
 have l3:=h3.le
 have l4:=h4.le
 unfold fvr at h hn ⊢
 dsimp only at h hn ⊢
 have:=pmkD hL h3.n h hn
 exact this.wide hL (by omega) (by omega) nLe (by omega)
theorem onV_D (s : List VrT) {x : Nat × Int} (hx : x.1 ≤ R.n) (h : (onV R s x).2.2 = 0) (hn : (onV R s x).2.1 < R.n) : ∃ v : VrT,(onV R s x).1 = s ++ [v] ∧ Dm T R [v.an] x.1 ((onV R s x).2.1 + 1):=by
 unfold onV at h hn ⊢
 by_cases h8 : s.length = 8
 ·rw [if_pos h8] at h
  have:=(fvr_up hL.ok (x:=(x.1,3)) hx).st h
  exact absurd (show (3 : Int) = 0 from this.1) (by decide)
 ·rw [if_neg h8] at h hn ⊢
  exact ⟨_,rfl,fvrD hL hx h hn⟩
theorem lstV_D : ∀ (f : Nat) (s : List VrT) (x : Nat × Int) (p0 : Nat),x.1 < R.n → p0 ≤ x.1 → (lstL R (onV R) f s x).2.2 = 0 → (lstL R (onV R) f s x).2.1 < R.n → Dm T R (s.map (·.an)) p0 (x.1 + 1) → Dm T R ((lstL R (onV R) f s x).1.map (·.an)) p0 ((lstL R (onV R) f s x).2.1 + 1):=by
 intro f
 induction f with
 | zero => intro s x p0 _ _ _ _ h; exact h
 | succ f ih =>
  intro s x p0 hx hp h0 hn hd
  unfold lstL at h0 hn ⊢
  split at h0
  ·rename_i hc
   rw [if_pos hc] at hn ⊢
   have u1:=tk_up hL.ok (Nat.le_of_lt hx) hc
   have u2:=onV_up hL.ok s u1.n
   have u3:=lstL_up hL.ok (fun s x hx => (onV_up hL.ok s hx).weak (Nat.zero_le 1)) f (onV R s (tkX x true)).1 _ u2.n
   have s2:=u3.st h0
   have l1:=u1.le
   have l2:=u2.le
   have l3:=u3.le
   have e1 : (tkX x true).1 = x.1 + 1:=rfl
   obtain ⟨v,hv1,hv2⟩:=onV_D hL s u1.n s2.1 (by omega)
   refine ih _ _ p0 (by omega) (by omega) h0 hn ?_
   rw [hv1,List.map_append]
   exact hd.app hL (by rw [e1] at hv2; exact hv2) (by omega) (by omega) (by omega)
  ·rename_i hc
   rw [if_neg hc]
   exact hd
theorem lstP_D {f : Nat} {x : Nat × Int} (hx : x.1 ≤ R.n) (h0 : (lst R (onV R) wRap f [] x).2.2 = 0) : Dm T R ((lst R (onV R) wRap f [] x).1.map (·.an)) x.1 (lst R (onV R) wRap f [] x).2.1:=by
 unfold lst at h0 ⊢
 split at h0
 ·rename_i hc
  rw [if_pos hc]
  exact Dm.nil _ _
 ·rename_i hc
  rw [if_neg hc]
  have u1:=onV_up hL.ok [] hx
  have u2:=lstL_up hL.ok (fun s x hx => (onV_up hL.ok s hx).weak (Nat.zero_le 1)) f (onV R [] x).1 _ u1.n
  have u3 : Up R 1 (lstL R (onV R) f (onV R [] x).1 (onV R [] x).2).2 (mu R (lstL R (onV R) f (onV R [] x).1 (onV R [] x).2).2 [wRap]):=mw hL.ok 41 [] u2.n
  have s3:=u3.st h0
  have s2:=u2.st s3.1
  have l1:=u1.le
  have l2:=u2.le
  have n3:=u3.n
  have s32:=s3.2
  have hv : Dm T R ((onV R [] x).1.map (·.an)) x.1 ((onV R [] x).2.1 + 1):=by
   obtain ⟨v,hv1,hv2⟩:=onV_D hL [] hx s2.1 (by omega)
   rw [hv1]
   exact hv2
  have:=lstV_D hL f (onV R [] x).1 (onV R [] x).2 x.1 (by omega) l1 s3.1 (by omega) hv
  exact this.wide hL nLe hx (by show _ ≤ (mu R (lstL R (onV R) f (onV R [] x).1 (onV R [] x).2).2 [wRap]).1; omega) n3
theorem hdS_D {F : Nat} (hp : p ≤ R.n) (h : (hdS R F p).2.2 = 0) (hk : (hdS R F p).1.k = 0) : Dm T R [(hdS R F p).1.an] p (hdS R F p).2.1:=by
 unfold hdS at h hk ⊢
 by_cases h1 : R.is p lLet = true
 ·rw [if_pos h1] at h ⊢
  unfold letS at h ⊢
  dsimp only at h ⊢
  have u1 : Up R 1 (p,0) (mu R (p,0) [wLet]):=mw hL.ok 108 [101,116] (x:=(p,0)) hp
  have u2:=pnm_up hL.ok u1.n
  have u3 : Up R 1 (pnm R (mu R (p,0) [wLet])).2 (mu R (pnm R (mu R (p,0) [wLet])).2 [wCol]):=mw hL.ok 58 [] u2.n
  have u4:=pty_up hL.ok u3.n
  have u5:=pmk_up hL.ok u4.n
  have u6 : Up R 1 (pmk R (pty R (mu R (pnm R (mu R (p,0) [wLet])).2 [wCol])).2).2 (mu R (pmk R (pty R (mu R (pnm R (mu R (p,0) [wLet])).2 [wCol])).2).2 [wEq]):=mw hL.ok 61 [] u5.n
  have u7:=pex_up hL.ok F u6.n
  have u8 : Up R 1 (pex R F (mu R (pmk R (pty R (mu R (pnm R (mu R (p,0) [wLet])).2 [wCol])).2).2 [wEq])).2 (mu R (pex R F (mu R (pmk R (pty R (mu R (pnm R (mu R (p,0) [wLet])).2 [wCol])).2).2 [wEq])).2 [wSem]):=mw hL.ok 59 [] u7.n
  have s8:=u8.st h
  have s7:=u7.st s8.1
  have s6:=u6.st s7.1
  have l1 : p ≤ _:=u1.le
  have l2:=u2.le
  have l3:=u3.le
  have l4:=u4.le
  have l5:=u5.le
  have l6:=s6.2
  have l7:=u7.le
  have l8:=u8.le
  have n8:=u8.n
  have:=pmkD hL u4.n s6.1 (by omega)
  exact this.wide hL (by omega) (by omega) (by omega) n8
 ·rw [if_neg h1] at h hk ⊢
  by_cases h2 : R.is p lIf = true
  ·rw [if_pos h2] at hk; exact absurd (show (2 : Int) = 0 from hk) (by decide)
  ·rw [if_neg h2] at h hk ⊢
   by_cases h3 : R.is p lWhile = true
   ·rw [if_pos h3] at hk; exact absurd (show (3 : Int) = 0 from hk) (by decide)
   ·rw [if_neg h3] at h hk ⊢
    by_cases h4 : R.is p lDo = true
    ·rw [if_pos h4] at hk; exact absurd (show (4 : Int) = 0 from hk) (by decide)
    ·rw [if_neg h4] at h hk ⊢
     unfold plS at h hk
     dsimp only at h hk
     by_cases h0 : (pex R F (p,0)).2.2 = 0
     ·rw [if_pos h0] at h hk
      by_cases k2 : (pex R F (p,0)).1.k = 2
      ·rw [if_pos k2] at hk; exact absurd (show (1 : Int) = 0 from hk) (by decide)
      ·rw [if_neg k2] at h hk
       by_cases k3 : (pex R F (p,0)).1.k = 3
       ·rw [if_pos k3] at hk; exact absurd (show (5 : Int) = 0 from hk) (by decide)
       ·rw [if_neg k3] at h; exact absurd (show (11 : Int) = 0 from h) (by decide)
     ·rw [if_neg h0] at h; exact absurd h h0
end
def St.mr : St → List An
 | .mk k a nm ty an e l r => (if k = 0 then [an] else []) ++ (l.attach.map fun x => x.1.mr).flatten ++ (r.attach.map fun x => x.1.mr).flatten
termination_by s => SizeOf.sizeOf s
decreasing_by
 all_goals first | exact St.lt_l x.2 | exact St.lt_r x.2
def lmr (l : List St) : List An:=(l.map St.mr).flatten
theorem St.mr_eq (s : St) : s.mr = (if s.k = 0 then [s.an] else []) ++ lmr s.l ++ lmr s.r:=by
 cases s
 rw [St.mr,List.attach_map_val (f:=St.mr),List.attach_map_val (f:=St.mr)]
 rfl
theorem mr_mk (k a ty : Int) (nm : ByteArray) (an : An) (e : Ex) (l r : List St) : (St.mk k a nm ty an e l r).mr = (if k = 0 then [an] else []) ++ lmr l ++ lmr r:=St.mr_eq _
theorem lmr_nil : lmr [] = []:=rfl
theorem lmr_cons (x : St) (l : List St) : lmr (x :: l) = x.mr ++ lmr l:=rfl
theorem lmr_app (l k : List St) : lmr (l ++ k) = lmr l ++ lmr k:=by simp [lmr]
def DmM (T : ByteArray) (R : Rw) (m : Ms) (p : Nat) (g : Gs) : Prop:=g.r = 0 → match m with
 | .row acc => ∀ p0,p0 ≤ p → lmr acc = lms acc → Dm T R (lms acc) p0 p → lmr g.l = lms g.l ∧ Dm T R (lms g.l) p0 g.p
 | .blk => lmr g.l = lms g.l ∧ Dm T R (lms g.l) p g.p
 | .st => g.s.mr = g.s.ms ∧ Dm T R g.s.ms p g.p
section
variable {T : ByteArray} {R : Rw} (hL : Laid T R)
include hL
theorem rs_D {F : Nat} : ∀ (f : Nat) (m : Ms) (p : Nat) (d : Int),p ≤ R.n → DmM T R m p (rs R F f m p d):=by
 intro f
 induction f with
 | zero => intro m p d h h0; exact absurd (show (99 : Int) = 0 from h0) (by decide)
 | succ f ih =>
  intro m p d h h0
  have hR:=hL.ok
  cases m with
  | row acc =>
   intro p0 hp0 hacc hd
   rw [rs_row] at h0 ⊢
   split at h0
   ·rename_i hc
    rw [if_pos hc]
    exact ⟨hacc,hd⟩
   ·rename_i hc
    rw [if_neg hc]
    split at h0
    ·rename_i h1
     rw [if_pos h1]
     have k1 : (rs R F f .st p d).s.mr = (rs R F f .st p d).s.ms ∧ Dm T R (rs R F f .st p d).s.ms p (rs R F f .st p d).p:=ih .st p d h h1
     have hle:=rs_le hR (F:=F) f .st p d h
     have k2:=ih (.row (acc ++ [(rs R F f .st p d).s])) _ d hle.2 h0 p0 (by omega)
     have e1 : lms (acc ++ [(rs R F f .st p d).s]) = lms acc ++ (rs R F f .st p d).s.ms:=by rw [lms_app]; simp [lms]
     have e2 : lmr (acc ++ [(rs R F f .st p d).s]) = lmr acc ++ (rs R F f .st p d).s.mr:=by rw [lmr_app]; simp [lmr]
     rw [e1,e2,k1.1,hacc] at k2
     exact k2 rfl (hd.app hL k1.2 hp0 hle.1 hle.2)
    ·exact absurd h0 ‹_›
  | blk =>
   show lmr _ = lms _ ∧ _
   rw [rs_blk] at h0 ⊢
   split at h0
   ·rename_i hc
    rw [if_pos hc]
    have hlt:=hR.is_lt hc
    split at h0
    ·exact absurd (show (12 : Int) = 0 from h0) (by decide)
    ·rename_i hd
     rw [if_neg hd]
     split at h0
     ·rename_i h1
      rw [if_pos h1]
      have k1:=ih (.row []) (p + 1) (d + 1) (by omega) h1 (p + 1) nLe rfl (Dm.nil _ _)
      have hle:=rs_le hR (F:=F) f (.row []) (p + 1) (d + 1) (by omega)
      split at h0
      ·rename_i h2
       rw [if_pos h2]
       have hlt2:=hR.is_lt h2
       exact ⟨k1.1,k1.2.wide hL (by omega) (by omega) (by show _ ≤ (rs R F f (.row []) (p + 1) (d + 1)).p + 1; omega) (by show (rs R F f (.row []) (p + 1) (d + 1)).p + 1 ≤ R.n; omega)⟩
      ·exact absurd (show (11 : Int) = 0 from h0) (by decide)
     ·exact absurd h0 ‹_›
   ·exact absurd (show (11 : Int) = 0 from h0) (by decide)
  | st =>
   show St.mr _ = St.ms _ ∧ _
   have hn:=hdS_nil R F p
   have hu:=hdS_up hR F h
   have hD:=hdS_D hL (F:=F) h
   rw [rs_st] at h0 ⊢
   split at h0
   ·rename_i hs
    rw [if_pos hs]
    have hu2 : p + 1 ≤ (hdS R F p).2.1:=(hu.st hs).2
    have hu3 : (hdS R F p).2.1 ≤ R.n:=hu.n
    split at h0
    ·rename_i hk
     rw [if_pos hk]
     split at h0
     ·rename_i h1
      rw [if_pos h1]
      have k1 : lmr (rs R F f .blk (hdS R F p).2.1 d).l = lms (rs R F f .blk (hdS R F p).2.1 d).l ∧ Dm T R (lms (rs R F f .blk (hdS R F p).2.1 d).l) (hdS R F p).2.1 (rs R F f .blk (hdS R F p).2.1 d).p:=ih .blk _ d hu3 h1
      have l1:=rs_le hR (F:=F) f .blk (hdS R F p).2.1 d hu3
      split at h0
      ·rename_i he
       rw [if_pos he]
       have hlt:=hR.is_lt he.2
       split at h0
       ·rename_i h2
        rw [if_pos h2]
        have k2 : lmr (rs R F f .blk ((rs R F f .blk (hdS R F p).2.1 d).p + 1) d).l = lms (rs R F f .blk ((rs R F f .blk (hdS R F p).2.1 d).p + 1) d).l ∧ Dm T R (lms (rs R F f .blk ((rs R F f .blk (hdS R F p).2.1 d).p + 1) d).l) ((rs R F f .blk (hdS R F p).2.1 d).p + 1) (rs R F f .blk ((rs R F f .blk (hdS R F p).2.1 d).p + 1) d).p:=ih .blk _ d (by omega) h2
        have l2:=rs_le hR (F:=F) f .blk ((rs R F f .blk (hdS R F p).2.1 d).p + 1) d (by omega)
        have hk2:=he.1
        have hap:=k1.2.app hL (k2.2.wide hL (Nat.le_succ _) (by omega) nLe l2.2) l1.1 (by omega) l2.2
        generalize (rs R F f .blk ((rs R F f .blk (hdS R F p).2.1 d).p + 1) d) = g2 at k2 l2 hap ⊢
        generalize (rs R F f .blk (hdS R F p).2.1 d) = g1 at k1 k2 l1 l2 hap ⊢
        show (((hdS R F p).1.setL g1.l).setR g2.l).mr = (((hdS R F p).1.setL g1.l).setR g2.l).ms ∧ Dm T R (((hdS R F p).1.setL g1.l).setR g2.l).ms p g2.p
        cases hh : (hdS R F p).1 with
        | mk k a nm ty an e l r =>
         rw [hh] at hk2
         have hk2 : k = 2:=hk2
         subst hk2
         show (St.mk 2 a nm ty an e g1.l g2.l).mr = (St.mk 2 a nm ty an e g1.l g2.l).ms ∧ Dm T R (St.mk 2 a nm ty an e g1.l g2.l).ms p g2.p
         rw [mr_mk,ms_mk,if_neg (show ¬ (2 : Int) = 0 by decide),if_neg (show ¬ (2 : Int) = 0 by decide),if_pos rfl,k1.1,k2.1]
         exact ⟨by simp,hap.wide hL (by omega) (by omega) nLe l2.2⟩
       ·exact absurd h0 ‹_›
      ·rename_i he
       rw [if_neg he]
       have hnr:=hn.2
       generalize (rs R F f .blk (hdS R F p).2.1 d) = g1 at k1 l1 ⊢
       show ((hdS R F p).1.setL g1.l).mr = ((hdS R F p).1.setL g1.l).ms ∧ Dm T R ((hdS R F p).1.setL g1.l).ms p g1.p
       have hdd:=k1.2.wide hL (show p ≤ (hdS R F p).2.1 by omega) (by omega) nLe l1.2
       cases hh : (hdS R F p).1 with
       | mk k a nm ty an e l r =>
        rw [hh] at hnr hk
        have hnr : r = []:=hnr
        have hk : k = 2 ∨ k = 3:=hk
        subst hnr
        show (St.mk k a nm ty an e g1.l []).mr = (St.mk k a nm ty an e g1.l []).ms ∧ Dm T R (St.mk k a nm ty an e g1.l []).ms p g1.p
        rw [mr_mk,ms_mk,k1.1,lmr_nil,lms_nil,List.append_nil,List.append_nil]
        rcases hk with hk | hk
        ·subst hk
         rw [if_neg (show ¬ (2 : Int) = 0 by decide),if_neg (show ¬ (2 : Int) = 0 by decide),if_pos rfl]
         exact ⟨rfl,hdd⟩
        ·subst hk
         rw [if_neg (show ¬ (3 : Int) = 0 by decide),if_neg (show ¬ (3 : Int) = 0 by decide),if_neg (show ¬ (3 : Int) = 2 by decide),if_pos rfl]
         exact ⟨rfl,hdd⟩
     ·exact absurd h0 ‹_›
    ·rename_i hk
     rw [if_neg hk]
     have hdd:=hD hs
     show (hdS R F p).1.mr = (hdS R F p).1.ms ∧ Dm T R (hdS R F p).1.ms p (hdS R F p).2.1
     rw [St.mr_eq,St.ms_eq,hn.1,hn.2,lmr_nil,List.append_nil,List.append_nil]
     by_cases k0 : (hdS R F p).1.k = 0
     ·rw [if_pos k0,if_pos k0]
      exact ⟨rfl,hdd k0⟩
     ·rw [if_neg k0,if_neg k0,if_neg (fun e => hk (.inl e)),if_neg (fun e => hk (.inr e))]
      exact ⟨rfl,Dm.nil _ _⟩
   ·exact absurd h0 ‹_›
theorem prow_D {F f : Nat} {x : Nat × Int} (h : x.1 ≤ R.n) (h0 : (prow R F f x).2.2 = 0) : lmr (prow R F f x).1 = lms (prow R F f x).1 ∧ Dm T R (lms (prow R F f x).1) x.1 (prow R F f x).2.1:=by
 unfold prow at h0 ⊢
 split at h0
 ·rename_i hx
  rw [if_pos hx]
  split at h0
  ·rename_i h1
   rw [if_pos h1]
   exact rs_D hL (F:=F) f (.row []) x.1 1 h h1 x.1 nLe rfl (Dm.nil _ _)
  ·exact absurd h0 ‹_›
 ·exact absurd h0 ‹_›
theorem ffn_D {F f : Nat} {x : Nat × Int} (h : x.1 ≤ R.n) (h0 : (ffn R F f x).2.2 = 0) : lmr (ffn R F f x).1.bd = lms (ffn R F f x).1.bd ∧ Dm T R (ffn R F f x).1.mks x.1 (ffn R F f x).2.1:=by
 have hR:=hL.ok
 unfold ffn at h0 ⊢
 have h1 : Up R 1 x (mu R x [wFn]):=mw hR 102 [110] h
 have h2:=fnm_up hR h1.n
 have h3 : Up R 1 (fnm R (mu R x [wFn])).2 (mu R (fnm R (mu R x [wFn])).2 [wPar]):=mw hR 40 [] h2.n
 have h4:=lst_up hR (fun s x hx => (onV_up hR s hx).weak (Nat.zero_le 1)) 41 [] f [] h3.n
 have hl:=lstP_D hL (f:=f) h3.n
 obtain ⟨ps,hps⟩ : ∃ ps,lst R (onV R) wRap f [] (mu R (fnm R (mu R x [wFn])).2 [wPar]) = ps:=⟨_,rfl⟩
 have hps' : lst R (onV R) ⟨#[41]⟩ f [] (mu R (fnm R (mu R x [wFn])).2 [wPar]) = ps:=hps
 dsimp only at h0 ⊢
 rw [hps] at h0 ⊢
 rw [hps] at hl
 have h4 : Up R 1 (mu R (fnm R (mu R x [wFn])).2 [wPar]) ps.2:=by rw [← hps]; exact h4
 have h5 : Up R 1 ps.2 (mu R ps.2 [wCol]):=mw hR 58 [] h4.n
 have h6:=pty_up hR h5.n
 have h7:=pmk_up hR h6.n
 have hm:=pmkD hL h6.n
 obtain ⟨z,hz⟩ : ∃ z,pmk R (pty R (mu R ps.2 [wCol])).2 = z:=⟨_,rfl⟩
 rw [hz] at h0 h7 hm ⊢
 have h8 : Up R 0 z.2 (if tkW R z.2 [47] = true then lst R (onN R) wKet f [] (mu R (tkX z.2 true) [wBra]) else ([],z.2)).2:=by
  cases hb : tkW R z.2 [47] with
  | true =>
   rw [if_pos rfl]
   have k1:=tk_up hR h7.n hb
   have k2:=mw hR 123 [] k1.n
   exact ((k1.trans k2).trans (lst_up hR (fun s x hx => (onN_up hR s hx).weak (Nat.zero_le 1)) 125 [] f [] k2.n)).weak (Nat.zero_le _)
  | false =>
   rw [if_neg (by decide)]
   exact Up.refl h7.n
 obtain ⟨y,hy⟩ : ∃ y,(if tkW R z.2 [47] = true then lst R (onN R) wKet f [] (mu R (tkX z.2 true) [wBra]) else ([],z.2)) = y:=⟨_,rfl⟩
 rw [hy] at h0 h8 ⊢
 have h9 : Up R 1 y.2 (mu R y.2 [wBra]):=mw hR 123 [] h8.n
 have h10:=prow_up hR F f h9.n
 have hc:=prow_D hL (F:=F) (f:=f) h9.n
 have h11 : Up R 1 (prow R F f (mu R y.2 [wBra])).2 (mu R (prow R F f (mu R y.2 [wBra])).2 [wRet]):=mw hR 114 [101,116,117,114,110] h10.n
 have h12:=pex_up hR F h11.n
 have h13 : Up R 2 (pex R F (mu R (prow R F f (mu R y.2 [wBra])).2 [wRet])).2 (mu R (pex R F (mu R (prow R F f (mu R y.2 [wBra])).2 [wRet])).2 [wSem,wKet]):=mu_up hR [wSem,wKet] (fun s hs => by
  rcases List.mem_cons.1 hs with rfl | hs
  ·exact ⟨59,[],wd1 59 []⟩
  ·rw [List.mem_singleton.1 hs]; exact ⟨125,[],wd1 125 []⟩) _ h12.n
 have s13:=h13.st h0
 have s12:=h12.st s13.1
 have s11:=h11.st s12.1
 have s10:=h10.st s11.1
 have s9:=h9.st s10.1
 have s8:=h8.st s9.1
 have s7:=h7.st s8.1
 have s6:=h6.st s7.1
 have s5:=h5.st s6.1
 have k1:=hl s5.1
 have k2:=hc s11.1
 have l1:=h1.le
 have l2:=h2.le
 have l3:=h3.le
 have l4:=h4.le
 have l5:=h5.le
 have l6:=h6.le
 have l7:=h7.le
 have l8:=h8.le
 have l9:=s9.2
 have l10:=h10.le
 have l11:=h11.le
 have l12:=h12.le
 have l13:=h13.le
 have n13:=h13.n
 have k3:=hm s8.1 (by omega)
 refine ⟨k2.1,?_⟩
 unfold FnT.mks
 dsimp only
 have a1:=k3.app hL (k2.2.wide hL (show z.2.1 + 1 ≤ (mu R y.2 [wBra]).1 by omega) (by omega) nLe (by omega)) (by omega) (by omega) (by omega)
 have a2:=k1.app hL (a1.wide hL (show ps.2.1 ≤ (pty R (mu R ps.2 [wCol])).2.1 by omega) (by omega) nLe (by omega)) (by omega) (by omega) (by omega)
 exact a2.wide hL (by omega) (by omega) (by omega) n13
def AllD (T : ByteArray) (R : Rw) (m : MoT) (p : Nat) : Prop:=Dm T R m.mks 0 p ∧ (∀ g ∈ m.fn,lmr g.bd = lms g.bd) ∧ p ≤ R.n
theorem fit_D {F f : Nat} {m : MoT} {p : Nat} (h : p ≤ R.n) (hm : AllD T R m p) (h0 : (fit R F f m p).2.2 = 0) : AllD T R (fit R F f m p).1 (fit R F f m p).2.1:=by
 have hR:=hL.ok
 have hu:=fit_up hR F f m h
 have hst : p + 1 ≤ (fit R F f m p).2.1:=(hu.st h0).2
 have hn : (fit R F f m p).2.1 ≤ R.n:=hu.n
 have hw : Dm T R m.mks 0 (fit R F f m p).2.1:=hm.1.wide hL nLe (by omega) (by omega) hn
 unfold fit at h0 hst hn hw ⊢
 split
 ·rename_i h1
  rw [if_pos h1] at hw hn
  exact ⟨hw,hm.2.1,hn⟩
 ·rename_i h1
  rw [if_neg h1] at h0 hst hn hw
  split
  ·rename_i h2
   rw [if_pos h2] at hw hn
   exact ⟨hw,hm.2.1,hn⟩
  ·rename_i h2
   rw [if_neg h2] at h0 hst hn hw
   split
   ·rename_i h3
    rw [if_pos h3] at hw hn
    exact ⟨hw,hm.2.1,hn⟩
   ·rename_i h3
    rw [if_neg h3] at h0 hst hn hw
    split
    ·rename_i h4
     rw [if_pos h4] at h0 hst hn hw
     dsimp only at h0 hst hn hw ⊢
     refine ⟨?_,hm.2.1,hn⟩
     have u1:=mw hR 118 [97,114] (x:=(p,0)) h
     have u2:=fvr_up hR u1.n
     have u3:=mw hR 59 [] u2.n
     have s3:=u3.st h0
     have l1 : p ≤ _:=u1.le
     have l2:=u2.le
     have l3:=s3.2
     have n3:=u3.n
     have hv:=fvrD hL u1.n s3.1 (by omega)
     have hv2:=hv.wide hL l1 (by omega) (show _ ≤ (mu R (fvr R (mu R (p,0) [wVar])).2 [wSem]).1 by exact l3) n3
     have hap:=hm.1.app hL hv2 (Nat.zero_le _) (by omega) n3
     refine hap.perm ?_
     unfold MoT.mks
     dsimp only
     rw [List.map_append,List.append_assoc,List.append_assoc]
     exact List.Perm.append_left _ List.perm_append_comm
    ·rename_i h4
     rw [if_neg h4] at h0 hst hn hw
     split
     ·rename_i h5
      rw [if_pos h5] at h0 hst hn hw
      dsimp only at h0 hst hn hw ⊢
      obtain ⟨k1,k2⟩:=ffn_D hL (F:=F) (f:=f) (x:=(p,0)) h h0
      refine ⟨?_,fun g hg => ?_,hn⟩
      ·have hap:=hm.1.app hL k2 (Nat.zero_le _) (by show p ≤ _; omega) hn
       unfold MoT.mks at hap ⊢
       dsimp only
       rw [List.flatMap_append,← List.append_assoc]
       simpa using hap
      ·rcases List.mem_append.1 hg with hg | hg
       ·exact hm.2.1 g hg
       ·rw [List.mem_singleton.1 hg]; exact k1
     ·rename_i h5
      rw [if_neg h5] at h0
      cases h0
theorem fits_D {F f : Nat} : ∀ (g : Nat) (m : MoT) (p : Nat),p ≤ R.n → AllD T R m p → (fits R F f g m (p,0)).2.2 = 0 → AllD T R (fits R F f g m (p,0)).1 (fits R F f g m (p,0)).2.1:=by
 intro g
 induction g with
 | zero => intro m p h hq _; exact hq
 | succ g ih =>
  intro m p h hq h0
  by_cases hp : p = R.n
  ·rw [fits_end (fun e => e.2 hp)]
   exact hq
  ·rw [fits_on hp] at h0 ⊢
   have hu:=fit_up hL.ok F f m h
   by_cases h1 : (fit R F f m p).2.2 = 0
   ·have k1:=fit_D hL h hq h1
    have hn:=hu.n
    obtain ⟨y,hy⟩ : ∃ y,fit R F f m p = y:=⟨_,rfl⟩
    rw [hy] at h0 h1 k1 hn ⊢
    obtain ⟨m1,q,r⟩:=y
    dsimp only at h0 h1 k1 hn ⊢
    subst h1
    exact ih m1 q hn k1 h0
   ·rw [fits_end (fun h => h1 h.1)] at h0
    exact absurd h0 h1
end
theorem toks_apart (bs : List Int) : ∀ (m u : Nat),bs.length - u ≤ m → (toks bs u).Pairwise fun s t => s.2.2 ≤ t.2.1:=by
 intro m
 induction m with
 | zero => intro u h; rw [toks_end (by omega)]; exact List.Pairwise.nil
 | succ m ih =>
  intro u h
  by_cases hu : u < bs.length
  ·rw [toks_at hu]
   have:=tl_pos (bs.drop u)
   refine List.Pairwise.cons (fun t ht => ?_) (ih _ (by omega))
   obtain ⟨v,h1,_,rfl⟩:=mem_toks bs _ _ nLe t ht
   show ((u + tl (bs.drop u) : Nat) : Int) ≤ (v : Int)
   omega
  ·rw [toks_end (by omega)]; exact List.Pairwise.nil
theorem live_laid {T : ByteArray} {bs : List Int} (hb : bts T = bs) : Laid T (rowT T (live bs 0)):=by
 have hs : T.size = bs.length:=by rw [← hb,bts_len]
 have hp : (live bs 0).Pairwise fun s t => s.2.2 ≤ t.2.1:=(toks_apart bs _ 0 nLe).filter _
 have key : ∀ i,i < (live bs 0).length → ∃ v,v < bs.length ∧ (live bs 0)[i]? = some (tk (bs.drop v),(v : Int),((v + tl (bs.drop v) : Nat) : Int)) ∧ (rowT T (live bs 0)).ps i = (v : Int) ∧ (rowT T (live bs 0)).wd i = T.extract v (v + tl (bs.drop v)) ∧ ((rowT T (live bs 0)).wd i).size = tl (bs.drop v):=fun i hi => by
  obtain ⟨v,hv,he⟩:=mem_live (List.getElem_mem hi)
  have hg : (live bs 0)[i]? = some (tk (bs.drop v),(v : Int),((v + tl (bs.drop v) : Nat) : Int)):=by rw [List.getElem?_eq_getElem hi,he]
  have hw : (rowT T (live bs 0)).wd i = T.extract v (v + tl (bs.drop v)):=by
   show wdT T (live bs 0) i = _
   simp only [wdT,hg]
   rfl
  have:=tl_in hv
  refine ⟨v,hv,hg,by simp only [rowT,hg],hw,?_⟩
  rw [hw,ByteArray.size_extract]
  omega
 refine ⟨row_ok _ _,fun i hi => ?_,fun i hi => ?_,fun i hi => ?_,?_,fun i hi => ?_⟩
 ·obtain ⟨v,_,_,_,_,h⟩:=key i hi
  rw [h]
  exact tl_pos _
 ·obtain ⟨v,_,_,h,_,_⟩:=key i hi
  rw [h]
  omega
 ·have hi' : i < (live bs 0).length:=hi
  obtain ⟨v,hv,hg,h1,h2,h3⟩:=key i hi
  rw [h1,h3]
  have hin:=tl_in hv
  rcases Nat.lt_or_ge (i + 1) (live bs 0).length with h | h
  ·obtain ⟨v',hv',hg',h1',_,_⟩:=key (i + 1) h
   rw [h1']
   have:=List.pairwise_iff_getElem.1 hp i (i + 1) hi' h (Nat.lt_succ_self _)
   rw [List.getElem?_eq_getElem hi'] at hg
   rw [List.getElem?_eq_getElem h] at hg'
   injection hg with hg
   injection hg' with hg'
   rw [hg,hg'] at this
   have : ((v + tl (bs.drop v) : Nat) : Int) ≤ (v' : Int):=this
   omega
  ·have : (rowT T (live bs 0)).ps (i + 1) = (T.size : Int):=by simp only [rowT,List.getElem?_eq_none h]
   rw [this,hs]
   omega
 ·show (rowT T (live bs 0)).ps (live bs 0).length = _
  simp only [rowT,List.getElem?_eq_none nLe]
 ·obtain ⟨v,hv,hg,h1,h2,h3⟩:=key i hi
  rw [h1,h3]
  exact h2
theorem parse_D {T : ByteArray} {bs : List Int} (hb : bts T = bs) {n F f : Nat} : ((parseM (rowT T (live bs 0)) (live bs 0) n F f).1.mks.map (·.fr)).Nodup ∧ (∀ a ∈ (parseM (rowT T (live bs 0)) (live bs 0) n F f).1.mks,OkA T a ∧ a.fr < (T.size : Int)) ∧ ∀ g ∈ (parseM (rowT T (live bs 0)) (live bs 0) n F f).1.fn,lmr g.bd = lms g.bd:=by
 have hnul : (MoT.nul.mks.map (·.fr)).Nodup ∧ (∀ a ∈ MoT.nul.mks,OkA T a ∧ a.fr < (T.size : Int)) ∧ ∀ g ∈ MoT.nul.fn,lmr g.bd = lms g.bd:=⟨List.nodup_nil,(fun a h => by cases h),fun q hq => by cases hq⟩
 unfold parseM
 split
 ·exact hnul
 ·split
  ·exact hnul
  ·split
   ·rename_i h0
    have:=fits_D (live_laid hb) (F:=F) (f:=f) f MoT.nul 0 (Nat.zero_le _) ⟨Dm.nil _ _,(fun g h => by cases h),Nat.zero_le _⟩ h0
    exact ⟨this.1.1,fun a ha => ⟨(this.1.2 a ha).1,Int.lt_of_lt_of_le (this.1.2 a ha).2.2 ((live_laid hb).en_top this.2.2)⟩,this.2.1⟩
   ·exact hnul
theorem FlA.mem {A B : List An} (h : FlA A B) {a : An} (ha : a ∈ A) : a ∈ B:=by
 have : a ∈ A.filter (fun x => x.fr == a.fr):=List.mem_filter.2 ⟨ha,by simp⟩
 rw [h.2] at this
 exact (List.mem_filter.1 this).1
theorem FlA.nodup {A B : List An} (h : FlA A B) (hB : (B.map (·.fr)).Nodup) : (A.map (·.fr)).Nodup:=by
 rw [List.nodup_iff_count] at hB ⊢
 intro f
 have e : ∀ L : List An,(L.map (·.fr)).count f = (L.filter (fun x => x.fr == f)).length:=fun L => by
  induction L with
  | nil => rfl
  | cons x L ih =>
   rw [List.map_cons,List.count_cons,ih,List.filter_cons]
   by_cases hx : (x.fr == f) = true
   ·rw [if_pos hx,if_pos hx]; rfl
   ·rw [if_neg hx,if_neg hx]; rfl
 have:=hB f
 rw [e] at this ⊢
 rw [h.2]
 exact this
theorem rises {K B : List An} (hs : SrtA K) (hf : FlA K B) (hB : (B.map (·.fr)).Nodup) : K.Pairwise (fun x y => x.fr < y.fr):=by
 have hn:=hf.nodup hB
 unfold List.Nodup at hn
 rw [List.pairwise_map] at hn
 exact (hs.and hn).imp fun {x y} h => by have:=h.1; have:=h.2; omega
theorem put_srt {O : List An} {x : An} {k : Nat} (hs : SrtA O) (hk : ∀ y ∈ O.take k,y.fr ≤ x.fr) (hd : ∀ y ∈ O.drop k,x.fr < y.fr) : SrtA (O.take k ++ x :: O.drop k) ∧ FlA (O.take k ++ x :: O.drop k) (O ++ [x]):=by
 constructor
 ·unfold SrtA at *
  rw [List.pairwise_append]
  refine ⟨hs.sublist (List.take_sublist _ _),List.Pairwise.cons (fun y hy => Int.le_of_lt (hd y hy)) (hs.sublist (List.drop_sublist _ _)),fun a ha b hb => ?_⟩
  have h1:=hk a ha
  rcases List.mem_cons.1 hb with rfl | hb
  ·exact h1
  ·have:=hd b hb; omega
 ·refine ⟨by simp [List.length_take,List.length_drop]; omega,fun f => ?_⟩
  have e : O ++ [x] = O.take k ++ (O.drop k ++ [x]):=by rw [← List.append_assoc,List.take_append_drop]
  rw [e,List.filter_append,List.filter_append,List.filter_append,List.filter_cons]
  congr 1
  by_cases hx : (x.fr == f) = true
  ·have hx' : x.fr = f:=by simpa using hx
   have hnil : (O.drop k).filter (fun x => x.fr == f) = []:=by
    rw [List.filter_eq_nil_iff]
    intro y hy
    have:=hd y hy
    simp
    omega
   rw [if_pos hx,hnil,List.filter_cons,if_pos hx]
   rfl
  ·rw [if_neg hx,List.filter_cons,if_neg hx]
   simp
theorem FlA.symm {A B : List An} (h : FlA A B) : FlA B A:=⟨h.1.symm,fun f => (h.2 f).symm⟩
theorem FlA.trans {A B C : List An} (h : FlA A B) (k : FlA B C) : FlA A C:=⟨h.1.trans k.1,fun f => (h.2 f).trans (k.2 f)⟩
theorem sort_ex (L : List An) : ∃ K,SrtA K ∧ FlA K L:=by
 have : ∀ n (L : List An),L.length = n → ∃ K,SrtA K ∧ FlA K L:=by
  intro n
  induction n with
  | zero =>
   intro L h
   obtain rfl:=List.eq_nil_of_length_eq_zero h
   exact ⟨[],List.Pairwise.nil,rfl,fun _ => rfl⟩
  | succ n ih =>
   intro L h
   rcases List.eq_nil_or_concat L with rfl | ⟨L,x,rfl⟩
   ·cases h
   ·rw [List.concat_eq_append] at h ⊢
    obtain ⟨K,hs,hf⟩:=ih L (by simpa using h)
    have ht : K.take (K.takeWhile fun y => decide (y.fr ≤ x.fr)).length = K.takeWhile fun y => decide (y.fr ≤ x.fr):=(List.prefix_iff_eq_take.1 (List.takeWhile_prefix _)).symm
    have hd : K.drop (K.takeWhile fun y => decide (y.fr ≤ x.fr)).length = K.dropWhile fun y => decide (y.fr ≤ x.fr):=by
     have h1:=List.takeWhile_append_dropWhile (p:=fun y : An => decide (y.fr ≤ x.fr)) (l:=K)
     have h2:=List.take_append_drop (K.takeWhile fun y => decide (y.fr ≤ x.fr)).length K
     rw [ht] at h2
     exact List.append_cancel_left (h2.trans h1.symm)
    obtain ⟨p1,p2⟩:=put_srt (O:=K) (x:=x) (k:=(K.takeWhile fun y => decide (y.fr ≤ x.fr)).length) hs (fun y hy => by
     rw [ht] at hy
     have:=List.all_takeWhile (p:=fun y : An => decide (y.fr ≤ x.fr)) (l:=K)
     simpa using List.all_eq_true.1 this y hy) (fun y hy => by
     rw [hd] at hy
     have hsub : (K.dropWhile fun y => decide (y.fr ≤ x.fr)).Pairwise fun a b => a.fr ≤ b.fr:=hs.sublist (List.dropWhile_sublist _)
     cases hw : K.dropWhile fun y => decide (y.fr ≤ x.fr) with
     | nil => rw [hw] at hy; cases hy
     | cons z r =>
      have hz : ¬ z.fr ≤ x.fr:=by
       have:=List.head?_dropWhile_not (fun y : An => decide (y.fr ≤ x.fr)) K
       rw [hw] at this
       simpa using this
      rw [hw] at hy hsub
      rcases List.mem_cons.1 hy with rfl | hy
      ·omega
      ·have:=(List.pairwise_cons.1 hsub).1 y hy
       omega)
    refine ⟨_,p1,p2.trans ?_⟩
    exact ⟨by rw [List.length_append,List.length_append,hf.1],fun f => by rw [List.filter_append,List.filter_append,hf.2]⟩
 exact this _ L rfl
end Go.Proofs.YtkjhlgnpohamnaaGreatDoor
namespace Go.Proofs.YtkjhlgnpohamnaaGreatDoor
set_option linter.unusedVariables false
set_option linter.unusedSimpArgs false
open Go.RowKit
def MkL (K : List An) (L : Nat) (w : World) (e : Ending) (w' : World) : Prop:=∃ A c,e = .returned (.slice A L c) ∧ ShV w' (fun b => w.heap.size ≤ b) (.slice A L c) L (ans K) ∧ Below w.heap.size w w'
theorem marks_to {m : MoT} {v : MoV} {w : World} {S : Nat → Prop} {K : List An} {L : Nat} (h : MoSh w S m v) (hN : m.mks.length ≤ 100000) (hC : ∀ f ∈ m.fn,cts f.bd ≤ 2000000) (hs : SrtA K) (hf : FlA K m.mks) (hL : m.mks.length = L) :
  CP 12 #[moV m.hl m.he v] w (MkL K L w):=by
 refine (marks_any m v w S h hN hC).mono ?_
 rintro e w' ⟨u,K',rfl,hu,hs',hf',hb⟩
 obtain ⟨A,c,rfl⟩:=hu.formA
 obtain rfl : K' = K:=srtA_one hs' hs (hf'.trans hf.symm)
 rw [hL] at hu
 exact ⟨A,c,by rw [hL],hu,hb⟩
end Go.Proofs.YtkjhlgnpohamnaaGreatDoor
