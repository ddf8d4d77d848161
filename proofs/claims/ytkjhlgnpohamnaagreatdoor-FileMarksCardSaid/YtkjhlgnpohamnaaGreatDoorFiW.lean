import Derived.Test.YtkjhlgnpohamnaaGreatDoorSq
import Derived.Test.YtkjhlgnpohamnaaGreatDoorFiS
import Derived.Test.YtkjhlgnpohamnaaGreatDoorMSs
import Derived.Test.YtkjhlgnpohamnaaGreatDoorFiH
import Derived.Test.YtkjhlgnpohamnaaGreatDoorFiP
import Derived.Test.YtkjhlgnpohamnaaGreatDoorMDp
import Derived.Test.YtkjhlgnpohamnaaGreatDoorStSm
namespace Go.Proofs.YtkjhlgnpohamnaaGreatDoor
set_option linter.unusedVariables false
set_option linter.unusedSimpArgs false
def NmT.sh (c : Int) (n : NmT) : NmT:=⟨n.nm,n.a + c⟩
def VrT.sh (c : Int) (v : VrT) : VrT:=⟨v.nm,v.a + c,v.ty,v.an.sh c⟩
def PrT.sh (c : Int) (p : PrT) : PrT:=⟨p.lo,p.hi,p.a + c⟩
def FnT.sh (c : Int) (f : FnT) : FnT:=⟨f.nm,f.a + c,f.ps.map (VrT.sh c),f.ty,f.an.sh c,f.rs,f.rl.map (NmT.sh c),f.bd.map (St.sh c),f.re.sh c⟩
structure WinF (R R' : Rw) (k : Nat) (c : Int) (N : Nat) : Prop where
 ok : R.Ok
 win : Win R R' k c N
 els : R'.is (N + k) lElse = R.is N lElse
 ends : ∀ i,i < N → endsB R' (i + k) = endsB R i
section
variable {R R' : Rw} {k N : Nat} {c : Int} (hW : WinF R R' k c N) {x : Nat × Int}
include hW
end
def OneW {σ τ : Type} (R : Rw) (k N : Nat) (sh : σ → τ) (one : σ → Nat × Int → σ × (Nat × Int)) (one' : τ → Nat × Int → τ × (Nat × Int)) : Prop:=
 ∀ s (x : Nat × Int),x.1 ≤ R.n → (one s x).2.2 = 0 → (one s x).2.1 < N → x.2 = 0 ∧ one' (sh s) (x.1 + k,0) = (sh (one s x).1,((one s x).2.1 + k,0))
section
variable {R R' : Rw} {k N : Nat} {c : Int} (hW : WinF R R' k c N) {σ τ : Type} {sh : σ → τ} {one : σ → Nat × Int → σ × (Nat × Int)} {one' : τ → Nat × Int → τ × (Nat × Int)}
 (hu : ∀ s (x : Nat × Int),x.1 ≤ R.n → Up R 0 x (one s x).2) (ho : OneW R k N sh one one')
include hW hu ho
end
section
variable {R R' : Rw} {k N : Nat} {c : Int} (hW : WinF R R' k c N) {x : Nat × Int}
include hW
end
section
variable {R R' : Rw} {k N : Nat} {c : Int} (hW : WinF R R' k c N)
include hW
end
def gct : Ms → Gs → Nat
 | .row _,g => cts g.l
 | .blk,g => cts g.l
 | .st,g => g.s.ct
def mct : Ms → Nat
 | .row acc => cts acc
 | _ => 0
theorem rs_cts {R : Rw} (hR : R.Ok) {F : Nat} : ∀ (f : Nat) (m : Ms) (p : Nat) (d : Int),p ≤ R.n → (rs R F f m p d).r = 0 → gct m (rs R F f m p d) + p ≤ mct m + (rs R F f m p d).p:=by
 intro f
 induction f with
 | zero => intro m p d h h0; exact absurd (show (99 : Int) = 0 from h0) (by decide)
 | succ f ih =>
  intro m p d h h0
  cases m with
  | row acc =>
   rw [rs_row] at h0 ⊢
   split at h0
   ·rename_i hc
    rw [if_pos hc]
    exact Nat.le_refl _
   ·rename_i hc
    rw [if_neg hc]
    split at h0
    ·rename_i h1
     rw [if_pos h1]
     have k1 : (rs R F f .st p d).s.ct + p ≤ 0 + (rs R F f .st p d).p:=ih .st p d h h1
     have k2 : cts _ + (rs R F f .st p d).p ≤ cts (acc ++ [(rs R F f .st p d).s]) + _:=ih (.row (acc ++ [(rs R F f .st p d).s])) _ d (rs_le hR f .st p d h).2 h0
     rw [cts_app,cts_cons,cts_nil] at k2
     show cts _ + p ≤ cts acc + _
     omega
    ·exact absurd h0 ‹_›
  | blk =>
   rw [rs_blk] at h0 ⊢
   split at h0
   ·rename_i hc
    rw [if_pos hc]
    have hlt:=hR.is_lt hc
    split at h0
    ·exact absurd (show (12 : Int) = 0 from h0) (by decide)
    ·rename_i hd
     rw [if_neg hd]
     split at h0
     ·rename_i h1
      rw [if_pos h1]
      have k1 : cts _ + (p + 1) ≤ cts [] + (rs R F f (.row []) (p + 1) (d + 1)).p:=ih (.row []) (p + 1) (d + 1) (by omega) h1
      rw [cts_nil] at k1
      split at h0
      ·rename_i h2
       rw [if_pos h2]
       show cts (rs R F f (.row []) (p + 1) (d + 1)).l + p ≤ 0 + ((rs R F f (.row []) (p + 1) (d + 1)).p + 1)
       omega
      ·exact absurd (show (11 : Int) = 0 from h0) (by decide)
     ·exact absurd h0 ‹_›
   ·exact absurd (show (11 : Int) = 0 from h0) (by decide)
  | st =>
   have hn:=hdS_nil R F p
   have hu:=hdS_up hR F h
   rw [rs_st] at h0 ⊢
   split at h0
   ·rename_i hs
    rw [if_pos hs]
    have hu2 : p + 1 ≤ (hdS R F p).2.1:=(hu.st hs).2
    have hu3 : (hdS R F p).2.1 ≤ R.n:=hu.n
    split at h0
    ·rename_i hk
     rw [if_pos hk]
     split at h0
     ·rename_i h1
      rw [if_pos h1]
      have k1 : cts (rs R F f .blk (hdS R F p).2.1 d).l + (hdS R F p).2.1 ≤ 0 + (rs R F f .blk (hdS R F p).2.1 d).p:=ih .blk _ d hu3 h1
      have l1:=(rs_le hR (F:=F) f .blk (hdS R F p).2.1 d hu3).2
      split at h0
      ·rename_i he
       rw [if_pos he]
       have hlt:=hR.is_lt he.2
       split at h0
       ·rename_i h2
        rw [if_pos h2]
        have k2 : cts (rs R F f .blk ((rs R F f .blk (hdS R F p).2.1 d).p + 1) d).l + ((rs R F f .blk (hdS R F p).2.1 d).p + 1) ≤ 0 + (rs R F f .blk ((rs R F f .blk (hdS R F p).2.1 d).p + 1) d).p:=ih .blk _ d (by omega) h2
        show (((hdS R F p).1.setL (rs R F f .blk (hdS R F p).2.1 d).l).setR (rs R F f .blk ((rs R F f .blk (hdS R F p).2.1 d).p + 1) d).l).ct + p ≤ 0 + (rs R F f .blk ((rs R F f .blk (hdS R F p).2.1 d).p + 1) d).p
        rw [St.ct_eq]
        cases hh : (hdS R F p).1
        simp only [St.setL,St.setR,St.l,St.r]
        omega
       ·exact absurd h0 ‹_›
      ·rename_i he
       rw [if_neg he]
       show ((hdS R F p).1.setL (rs R F f .blk (hdS R F p).2.1 d).l).ct + p ≤ 0 + (rs R F f .blk (hdS R F p).2.1 d).p
       rw [St.ct_eq]
       have hnr:=hn.2
       cases hh : (hdS R F p).1
       rw [hh] at hnr
       simp only [St.setL,St.l,St.r] at hnr ⊢
       rw [hnr,cts_nil]
       omega
     ·exact absurd h0 ‹_›
    ·rename_i hk
     rw [if_neg hk]
     show (hdS R F p).1.ct + p ≤ 0 + (hdS R F p).2.1
     rw [St.ct_eq,hn.1,hn.2,cts_nil]
     omega
   ·exact absurd h0 ‹_›
section
variable {R : Rw} {x : Nat × Int}
theorem prow_cts (hR : R.Ok) {F f : Nat} (h : x.1 ≤ R.n) (h0 : (prow R F f x).2.2 = 0) : cts (prow R F f x).1 + x.1 ≤ (prow R F f x).2.1:=by
 unfold prow at h0 ⊢
 split at h0
 ·rename_i hx
  rw [if_pos hx]
  split at h0
  ·rename_i h1
   rw [if_pos h1]
   have k:=rs_cts hR (F:=F) f (.row []) x.1 1 h h1
   show cts (rs R F f (.row []) x.1 1).l + x.1 ≤ (rs R F f (.row []) x.1 1).p
   have k : cts (rs R F f (.row []) x.1 1).l + x.1 ≤ cts [] + (rs R F f (.row []) x.1 1).p:=k
   rw [cts_nil] at k
   omega
  ·exact absurd h0 ‹_›
 ·exact absurd h0 ‹_›
theorem lstV_len (hR : R.Ok) : ∀ (f : Nat) (s : List VrT) (x : Nat × Int),x.1 ≤ R.n → (lstL R (onV R) f s x).2.2 = 0 → (lstL R (onV R) f s x).1.length + x.1 ≤ s.length + (lstL R (onV R) f s x).2.1:=by
 intro f
 induction f with
 | zero => intro s x h h0; exact Nat.le_refl _
 | succ f ih =>
  intro s x h h0
  unfold lstL at h0 ⊢
  split at h0
  ·rename_i hc
   rw [if_pos hc]
   have u1:=tk_up hR h hc
   have u2:=onV_up hR s u1.n
   have u3:=lstL_up hR (fun s x hx => (onV_up hR s hx).weak (Nat.zero_le 1)) f (onV R s (tkX x true)).1 _ u2.n
   have k:=ih _ _ u2.n h0
   have s2:=(u2.st (u3.st h0).1).2
   have l1:=u1.le
   have e : (onV R s (tkX x true)).1.length = s.length + 1:=by unfold onV; simp
   omega
  ·rename_i hc
   rw [if_neg hc]
   exact Nat.le_refl _
theorem lstP_len (hR : R.Ok) {f : Nat} (h : x.1 ≤ R.n) (h0 : (lst R (onV R) wRap f [] x).2.2 = 0) : (lst R (onV R) wRap f [] x).1.length + x.1 ≤ (lst R (onV R) wRap f [] x).2.1:=by
 unfold lst at h0 ⊢
 split at h0
 ·rename_i hc
  rw [if_pos hc]
  show 0 + x.1 ≤ x.1 + 1
  omega
 ·rename_i hc
  rw [if_neg hc]
  have u1:=onV_up hR [] h
  have u2:=lstL_up hR (fun s x hx => (onV_up hR s hx).weak (Nat.zero_le 1)) f (onV R [] x).1 _ u1.n
  have u3 : Up R 1 (lstL R (onV R) f (onV R [] x).1 (onV R [] x).2).2 (mu R (lstL R (onV R) f (onV R [] x).1 (onV R [] x).2).2 [wRap]):=mw hR 41 [] u2.n
  have s3:=u3.st h0
  have k:=lstV_len hR f _ _ u1.n s3.1
  have s1:=(u1.st (u2.st s3.1).1).2
  have e : (onV R [] x).1.length = 1:=by unfold onV; simp
  show (lstL R (onV R) f (onV R [] x).1 (onV R [] x).2).1.length + x.1 ≤ (mu R (lstL R (onV R) f (onV R [] x).1 (onV R [] x).2).2 [wRap]).1
  omega
theorem ffn_mks (hR : R.Ok) {F f : Nat} (h : x.1 ≤ R.n) (h0 : (ffn R F f x).2.2 = 0) : (ffn R F f x).1.mks.length + x.1 ≤ (ffn R F f x).2.1 ∧ cts (ffn R F f x).1.bd + x.1 ≤ (ffn R F f x).2.1:=by
 unfold ffn at h0 ⊢
 have h1:=mw hR 102 [110] h
 have h2:=fnm_up hR h1.n
 have h3:=mw hR 40 [] h2.n
 have h4:=lst_up hR (fun s x hx => (onV_up hR s hx).weak (Nat.zero_le 1)) 41 [] f [] h3.n
 have h5:=mw hR 58 [] h4.n
 have h6:=pty_up hR h5.n
 have h7:=pmk_up hR h6.n
 have hl:=lstP_len hR (f:=f) h3.n
 obtain ⟨ps,hps⟩ : ∃ ps,lst R (onV R) wRap f [] (mu R (fnm R (mu R x [wFn])).2 [wPar]) = ps:=⟨_,rfl⟩
 have hps' : lst R (onV R) ⟨#[41]⟩ f [] (mu R (fnm R (mu R x [wFn])).2 [wPar]) = ps:=hps
 dsimp only at h0 ⊢
 rw [hps] at h0 hl ⊢
 have h4 : Up R 1 (mu R (fnm R (mu R x [wFn])).2 [wPar]) ps.2:=by rw [← hps]; exact h4
 have h5 : Up R 1 ps.2 (mu R ps.2 [wCol]):=mw hR 58 [] h4.n
 have h6:=pty_up hR h5.n
 have h7:=pmk_up hR h6.n
 obtain ⟨z,hz⟩ : ∃ z,pmk R (pty R (mu R ps.2 [wCol])).2 = z:=⟨_,rfl⟩
 rw [hz] at h0 h7 ⊢
 have h8 : Up R 0 z.2 (if tkW R z.2 [47] = true then lst R (onN R) wKet f [] (mu R (tkX z.2 true) [wBra]) else ([],z.2)).2:=by
  cases hb : tkW R z.2 [47] with
  | true =>
   rw [if_pos rfl]
   have k1:=tk_up hR h7.n hb
   have k2:=mw hR 123 [] k1.n
   exact ((k1.trans k2).trans (lst_up hR (fun s x hx => (onN_up hR s hx).weak (Nat.zero_le 1)) 125 [] f [] k2.n)).weak (Nat.zero_le _)
  | false =>
   rw [if_neg (by decide)]
   exact Up.refl h7.n
 obtain ⟨y,hy⟩ : ∃ y,(if tkW R z.2 [47] = true then lst R (onN R) wKet f [] (mu R (tkX z.2 true) [wBra]) else ([],z.2)) = y:=⟨_,rfl⟩
 rw [hy] at h0 h8 ⊢
 have h9 : Up R 1 y.2 (mu R y.2 [wBra]):=mw hR 123 [] h8.n
 have h10:=prow_up hR F f h9.n
 have hc:=prow_cts hR (F:=F) (f:=f) h9.n
 have h11 : Up R 1 (prow R F f (mu R y.2 [wBra])).2 (mu R (prow R F f (mu R y.2 [wBra])).2 [wRet]):=mw hR 114 [101,116,117,114,110] h10.n
 have h12:=pex_up hR F h11.n
 have h13 : Up R 2 (pex R F (mu R (prow R F f (mu R y.2 [wBra])).2 [wRet])).2 (mu R (pex R F (mu R (prow R F f (mu R y.2 [wBra])).2 [wRet])).2 [wSem,wKet]):=mu_up hR [wSem,wKet] (fun s hs => by
  rcases List.mem_cons.1 hs with rfl | hs
  ·exact ⟨59,[],wd1 59 []⟩
  ·rw [List.mem_singleton.1 hs]; exact ⟨125,[],wd1 125 []⟩) _ h12.n
 have s13:=h13.st h0
 have s12:=h12.st s13.1
 have s11:=h11.st s12.1
 have s10:=h10.st s11.1
 have s9:=h9.st s10.1
 have s8:=h8.st s9.1
 have s7:=h7.st s8.1
 have s6:=h6.st s7.1
 have s5:=h5.st s6.1
 have k1:=hl s5.1
 have k2:=hc s11.1
 have l1:=h1.le
 have l2:=h2.le
 have l3:=h3.le
 have hm:=lms_len (prow R F f (mu R y.2 [wBra])).1 _ nLe
 constructor
 ·show (FnT.mks _).length + _ ≤ _
  unfold FnT.mks
  dsimp only
  rw [List.length_append,List.length_append,List.length_map]
  simp only [List.length_singleton]
  omega
 ·omega
theorem fit_mks (hR : R.Ok) {F f : Nat} {m : MoT} {p : Nat} (h : p ≤ R.n) (h0 : (fit R F f m p).2.2 = 0) : (fit R F f m p).1.mks.length + p ≤ m.mks.length + (fit R F f m p).2.1 ∧ ((∀ g ∈ m.fn,cts g.bd ≤ R.n) → ∀ g ∈ (fit R F f m p).1.fn,cts g.bd ≤ R.n):=by
 have hu:=fit_up hR F f m h
 have hst : p + 1 ≤ (fit R F f m p).2.1:=(hu.st h0).2
 have hn : (fit R F f m p).2.1 ≤ R.n:=hu.n
 unfold fit at h0 hst hn ⊢
 split
 ·rename_i h1
  rw [if_pos h1] at hst
  refine ⟨?_,fun h => h⟩
  show m.mks.length + p ≤ _
  dsimp only at hst ⊢
  omega
 ·rename_i h1
  rw [if_neg h1] at h0 hst hn
  split
  ·rename_i h2
   rw [if_pos h2] at hst
   refine ⟨?_,fun h => h⟩
   show m.mks.length + p ≤ _
   dsimp only at hst ⊢
   omega
  ·rename_i h2
   rw [if_neg h2] at h0 hst hn
   split
   ·rename_i h3
    rw [if_pos h3] at hst
    refine ⟨?_,fun h => h⟩
    show m.mks.length + p ≤ _
    dsimp only at hst ⊢
    omega
   ·rename_i h3
    rw [if_neg h3] at h0 hst hn
    split
    ·rename_i h4
     rw [if_pos h4] at hst
     refine ⟨?_,fun h => h⟩
     unfold MoT.mks
     dsimp only at hst ⊢
     rw [List.map_append,List.length_append,List.length_append,List.length_append]
     simp only [List.map_cons,List.map_nil,List.length_singleton]
     omega
    ·rename_i h4
     rw [if_neg h4] at h0 hst hn
     split
     ·rename_i h5
      rw [if_pos h5] at h0 hst hn
      obtain ⟨k1,k2⟩:=ffn_mks hR (F:=F) (f:=f) (x:=(p,0)) h h0
      dsimp only at h0 hst hn k1 k2 ⊢
      refine ⟨?_,fun hq g hg => ?_⟩
      ·unfold MoT.mks
       dsimp only
       rw [List.flatMap_append,List.length_append,List.length_append,List.length_append]
       simp only [List.flatMap_cons,List.flatMap_nil,List.append_nil]
       omega
      ·rcases List.mem_append.1 hg with hg | hg
       ·exact hq g hg
       ·rw [List.mem_singleton.1 hg]; omega
     ·rename_i h5
      rw [if_neg h5] at h0
      cases h0
theorem fits_mks (hR : R.Ok) {F f : Nat} : ∀ (g : Nat) (m : MoT) (p : Nat),p ≤ R.n → (∀ g ∈ m.fn,cts g.bd ≤ R.n) → (fits R F f g m (p,0)).2.2 = 0 →
  (fits R F f g m (p,0)).1.mks.length + p ≤ m.mks.length + R.n ∧ ∀ q ∈ (fits R F f g m (p,0)).1.fn,cts q.bd ≤ R.n:=by
 intro g
 induction g with
 | zero => intro m p h hq _; exact ⟨by show m.mks.length + p ≤ _; omega,hq⟩
 | succ g ih =>
  intro m p h hq h0
  by_cases hp : p = R.n
  ·rw [fits_end (fun e => e.2 hp)]
   exact ⟨by show m.mks.length + p ≤ _; omega,hq⟩
  ·rw [fits_on hp] at h0 ⊢
   have hu:=fit_up hR F f m h
   by_cases h1 : (fit R F f m p).2.2 = 0
   ·obtain ⟨k1,k2⟩:=fit_mks hR (F:=F) (f:=f) (m:=m) h h1
    have hn:=hu.n
    obtain ⟨y,hy⟩ : ∃ y,fit R F f m p = y:=⟨_,rfl⟩
    rw [hy] at h0 h1 k1 k2 hn ⊢
    obtain ⟨m1,q,r⟩:=y
    dsimp only at h0 h1 k1 k2 hn ⊢
    subst h1
    obtain ⟨j1,j2⟩:=ih m1 q hn (k2 hq) h0
    exact ⟨by omega,j2⟩
   ·rw [fits_end (fun h => h1 h.1)] at h0
    exact absurd h0 h1
end
theorem parse_mks {T : ByteArray} {L : List Tk} (hR : (rowT T L).Ok) {n F f : Nat} : (parseM (rowT T L) L n F f).1.mks.length ≤ L.length ∧ ∀ q ∈ (parseM (rowT T L) L n F f).1.fn,cts q.bd ≤ L.length:=by
 have hnul : MoT.nul.mks.length ≤ L.length ∧ ∀ q ∈ MoT.nul.fn,cts q.bd ≤ L.length:=⟨Nat.zero_le _,fun q hq => by cases hq⟩
 unfold parseM
 split
 ·exact hnul
 ·split
  ·exact hnul
  ·split
   ·rename_i h0
    have:=fits_mks hR (F:=F) (f:=f) f MoT.nul 0 (Nat.zero_le _) (fun q hq => by cases hq) h0
    exact ⟨by have h1:=this.1; show (fits (rowT T L) F f f MoT.nul (0,0)).1.mks.length ≤ L.length; have e : MoT.nul.mks.length = 0:=rfl; have e2 : (rowT T L).n = L.length:=rfl; omega,this.2⟩
   ·exact hnul
theorem ms_mk (k a ty : Int) (nm : ByteArray) (an : An) (e : Ex) (l r : List St) : (St.mk k a nm ty an e l r).ms = if k = 0 then [an] else if k = 2 then lms l ++ lms r else if k = 3 then lms l else []:=St.ms_eq _
section
variable {R : Rw} {x : Nat × Int}
def MoT.sz (m : MoT) : Nat:=m.im.length + m.la.length + m.ef.length + m.va.length + m.fn.length
end
end Go.Proofs.YtkjhlgnpohamnaaGreatDoor
namespace Go.Proofs.YtkjhlgnpohamnaaGreatDoor
set_option linter.unusedVariables false
set_option linter.unusedSimpArgs false
open Go.RowKit
def ex10 : List Int:=[118,97,114,32,120,58,32,105,110,116,59]
abbrev L10 : List Tk:=[(2,0,3),(2,4,5),(4,5,6),(2,7,10),(4,10,11)]
theorem live_ex10 : live ex10 0 = L10:=by
 unfold live ex10
 simp [toks_at,toks_end,tk,tl,kd,goes,runB,pairsL,pairB,lv]
abbrev R10 : Rw:=rowT (strOfNums ex10) L10
namespace A10
theorem v0 : R10.wd 0 = ⟨#[118,97,114]⟩:=by rfl
theorem v1 : R10.wd 1 = ⟨#[120]⟩:=by rfl
theorem v2 : R10.wd 2 = ⟨#[58]⟩:=by rfl
theorem v3 : R10.wd 3 = ⟨#[105,110,116]⟩:=by rfl
theorem v4 : R10.wd 4 = ⟨#[59]⟩:=by rfl
end A10
abbrev an10 : An:=⟨false,false,⟨#[]⟩,10,10⟩
abbrev m10 : MoT:=⟨[],false,[],false,[],[⟨⟨#[120]⟩,4,0,an10⟩],[]⟩
theorem fit10 (F f : Nat) : fit R10 F f MoT.nul 0 = (m10,(5,0)):=by
 have e1 : mu R10 (0,0) [wVar] = (1,0):=muz_yes (by rw [isT R10 0 _ _ A10.v0 rfl]; decide)
 have e2 : fnm R10 (1,0) = (⟨⟨#[120]⟩,4⟩,(2,0)):=by
  unfold fnm
  rw [if_pos rfl,if_pos (show R10.idn 1 = true by show idB (R10.wd 1) = true; rw [A10.v1]; exact idb_x),A10.v1]
  rfl
 have e3 : mu R10 (2,0) [wCol] = (3,0):=muz_yes (by rw [isT R10 2 _ _ A10.v2 rfl]; decide)
 have e4 : pty R10 (3,0) = (0,4,0):=by
  unfold pty tyS
  rw [if_pos rfl,if_pos (by rw [isT R10 3 _ _ A10.v3 rfl]; decide)]
 have e5 : pmk R10 (4,0) = (an10,4,0):=by
  unfold pmk markS
  rw [if_pos rfl,if_neg (by rw [isT R10 4 _ _ A10.v4 rfl,isT R10 4 _ _ A10.v4 rfl]; decide)]
  rfl
 have e6 : mu R10 (4,0) [wSem] = (5,0):=muz_yes (by rw [isT R10 4 _ _ A10.v4 rfl]; decide)
 have e7 : fvr R10 (1,0) = (⟨⟨#[120]⟩,4,0,an10⟩,(4,0)):=by
  unfold fvr
  rw [e2]
  dsimp only
  rw [e3,e4]
  dsimp only
  rw [e5]
 unfold fit
 rw [if_neg (by rw [isT R10 0 _ _ A10.v0 rfl]; decide),if_neg (by rw [isT R10 0 _ _ A10.v0 rfl]; decide),if_neg (by rw [isT R10 0 _ _ A10.v0 rfl]; decide),if_pos (by rw [isT R10 0 _ _ A10.v0 rfl]; decide)]
 dsimp only
 rw [e1,e7]
 dsimp only
 rw [e6]
 rfl
theorem parse10 : parseM (rowT (strOfNums ex10) (live ex10 0)) (live ex10 0) 11 1020 100 = (m10,11,0):=by
 rw [live_ex10]
 have h1 : fits R10 1020 100 100 MoT.nul (0,0) = (m10,5,0):=by
  rw [fits_on (show ¬ 0 = R10.n by decide),fit10,fits_end (fun h => h.2 rfl)]
 unfold parseM
 rw [if_neg (by decide),if_neg (by decide),h1]
 rfl
theorem ex10_byt : Byt8 ex10:=fun x hx => by simp [ex10] at hx; omega
theorem one_ans {K : List An} (hs : SrtA K) (h : FlA K m10.mks) : K = [an10]:=
 srtA_one hs (List.pairwise_singleton _ _) h
set_option maxRecDepth 100000 in
set_option maxHeartbeats 1600000 in
theorem awake10_any (w : World) (hv : Vars w) : CP 10 #[] w fun e w' => e = .returned (.bool true) ∧ Below w.heap.size w w':=by
 have hvs:=hv.size
 obtain ⟨wl,hcv,hx,hb⟩:=convC (w:=w) (B:=w.heap.size) ex10 11 rfl nLe
 have hm:=fparse_any _ 11 11 ex10 wl hx ex10_byt (by omega) (by omega) (by unfold maxLen; omega) (hv.under hb hvs) 1020 100 (by omega) (by omega)
 rw [parse10] at hm
 have HM:=Lh hm
 have HB:=Lh hb
 have HMK : Hid (∀ (v : MoV) (W : World),MoSh W (fun b => wl.heap.size ≤ b) m10 v → CP 12 #[moV false false v] W (MkTo m10 W)):=Lh fun v W h => marks_any m10 v W _ h (by decide) (fun f hf => by cases hf)
 unfold FpTo at HM
 unfold MkTo at HMK
 simp only [by8,List.map,ex10] at hcv
 clear hm hb hx hv
 go_enter Tryz.func10,Tryz.ntmps10
 go_wp2_with (first
  | (go_at_call 11; refine HM.out.mono ?_; rintro e w2 ⟨v,rfl,hs2,hb2⟩; have hone:=hs2.one false false; have HS2:=Lh hs2; have HB2:=Lh (bTr HB hb2); clear hs2 hb2; unfold moV; dsimp only)
  | (refine wpList_stV rfl 29 _ _ rfl (G:=w2.heap.size) (off:=0) rfl (us:=moC false false v) (Var.new w2 (moC false false MoV.nul) 29 rfl) rfl info_mo (Nat.le_refl 7) hone ?_; intro w3 ht hs; have bb:=((Tn.alloc (fun k => k = w2.heap.size) w2 (.cells #[.slice none 0 0,.bool false,.slice none 0 0,.bool false,.slice none 0 0,.slice none 0 0,.slice none 0 0] 29)).trans ht).below nLe (by intro k hk e; omega); have HS2:=Lh (HS2.out.under bb); have HB2:=Lh (bTr HB2 bb); have JV:=Lh (show Var w3 w2.heap.size (moC false false v) from hs); clear ht hs bb)
  | (refine wpList_ldW rfl 29 _ rfl w2.heap.size 0 rfl (moC false false v) JV.out.rg Tryz.underlying29 rfl info_mo ?_)
  | (go_at_call 12; refine (HMK.out v _ HS2.out).mono ?_; rintro e w4 ⟨u,K,rfl,hu,hs4,hf4,hb4⟩; obtain rfl:=one_ans hs4 hf4; have HU:=Lh hu; have JV:=Lh (JV.out.under hb4); have HS2:=Lh (HS2.out.under hb4); have HB2:=Lh (bTr HB2 hb4); clear hu hs4 hf4 hb4; refine Hid.out ?_)
  | fail)
 have hml : m10.mks.length = 1:=rfl
 rw [hml] at HU
 obtain ⟨A4,c4,rfl⟩:=HU.out.formA
 obtain ⟨b,off,hA,_,hbl,hrg⟩:=HU.out.elem (f:=anC) (sz:=5) (fun _ => rfl) (k:=0) (x:=an10) rfl (by omega)
 subst hA
 have hva:=HS2.out.va
 obtain ⟨im,la,ef,va,fn⟩:=v
 dsimp only at hva JV
 obtain ⟨A5,c5,rfl⟩:=hva.formA
 have k5:=JV.out.at 5 rfl
 have k0:=hrg 0 _ rfl
 have k3:=hrg 3 _ rfl
 simp only [Nat.zero_mul,Nat.add_zero] at k0 k3
 clear hrg hva HU HS2 HM HMK
 refine Lh ?_
 go_wp2_with fail
 go_ret
 exact ⟨rfl,HB2.out⟩
end Go.Proofs.YtkjhlgnpohamnaaGreatDoor
