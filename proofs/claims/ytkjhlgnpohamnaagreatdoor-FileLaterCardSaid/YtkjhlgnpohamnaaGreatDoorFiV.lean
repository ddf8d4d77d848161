import Derived.Test.YtkjhlgnpohamnaaGreatDoorSq
import Derived.Test.YtkjhlgnpohamnaaGreatDoorFiU
namespace Go.Proofs.YtkjhlgnpohamnaaGreatDoor
set_option linter.unusedVariables false
set_option linter.unusedSimpArgs false
structure LateN (R R' : Rw) (c : Int) : Prop where
 l : Late R R' c
 n : R'.n = R.n
section
variable {R R' : Rw} {c : Int} (hL : LateN R R' c)
include hL
theorem LateN.is (i : Nat) (l : List UInt8) : R'.is i l = R.is i l:=by unfold Rw.is; rw [hL.l.wd]
theorem LateN.ends (i : Nat) : endsB R' i = endsB R i:=by unfold endsB; rw [hL.is,hL.is,hL.n]
theorem mustP_lt : ∀ (l : List ByteArray) (p : Nat),mustP R' p l = mustP R p l:=by
 intro l
 induction l with
 | nil => intro p; rfl
 | cons s l ih => intro p; unfold mustP; rw [hL.is,ih]
theorem mu_lt (x : Nat × Int) (l : List ByteArray) : mu R' x l = mu R x l:=by unfold mu; rw [mustP_lt hL]
theorem pty_lt (x : Nat × Int) : pty R' x = pty R x:=by unfold pty tyS; simp only [hL.is]
theorem pnm_lt (x : Nat × Int) : pnm R' x = pnm R x:=by unfold pnm nmS; simp only [hL.l.idn,hL.l.wd]
theorem pmk_lt (x : Nat × Int) : (pmk R' x).2 = (pmk R x).2:=by
 unfold pmk markS
 simp only [hL.is,hL.l.idn,hL.l.wd]
 by_cases h0 : x.2 = 0
 ·rw [if_pos h0,if_pos h0]
  by_cases h1 : (R.is x.1 [64,61] || R.is x.1 [64]) = true
  ·rw [if_pos h1,if_pos h1]
   by_cases h2 : R.idn (x.1 + 1) = true
   ·rw [if_pos h2,if_pos h2]
   ·rw [if_neg h2,if_neg h2]
  ·rw [if_neg h1,if_neg h1]
 ·rw [if_neg h0,if_neg h0]
theorem pex_lt (F : Nat) (x : Nat × Int) : (pex R' F x).2 = (pex R F x).2:=by
 unfold pex
 by_cases h0 : x.2 = 0
 ·rw [if_pos h0,if_pos h0]
  have h : LateR c (rd R F (.lev 1) x.1 0) (rd R' F (.lev 1) x.1 0):=rd_late hL.l F (.lev 1) x.1 0
  unfold exS
  dsimp only
  rw [h.1,h.2.1]
 ·rw [if_neg h0,if_neg h0]
theorem pex_k (F : Nat) (x : Nat × Int) (hr : (pex R F x).2.2 = 0) : (pex R' F x).1.k = (pex R F x).1.k:=by
 unfold pex at hr ⊢
 by_cases h0 : x.2 = 0
 ·rw [if_pos h0] at hr
  rw [if_pos h0,if_pos h0]
  have h : LateR c (rd R F (.lev 1) x.1 0) (rd R' F (.lev 1) x.1 0):=rd_late hL.l F (.lev 1) x.1 0
  have he:=h.2.2 hr
  show (rd R' F (.lev 1) x.1 0).e.k = (rd R F (.lev 1) x.1 0).e.k
  rw [he]
  cases (rd R F (.lev 1) x.1 0).e
  rw [Ex.sh_eq]
  rfl
 ·rw [if_neg h0,if_neg h0]
theorem plS_lt (F : Nat) (a a' : Int) (x : Nat × Int) : (plS R' F a' x).2 = (plS R F a x).2 ∧ (plS R' F a' x).1.k = (plS R F a x).1.k:=by
 unfold plS
 dsimp only
 have h1:=pex_lt hL F x
 have h2:=pex_k hL F x
 rw [h1]
 by_cases h0 : (pex R F x).2.2 = 0
 ·rw [if_pos h0,if_pos h0,h2 h0]
  by_cases k2 : (pex R F x).1.k = 2
  ·rw [if_pos k2,if_pos k2]
   exact ⟨by simp only [mu_lt hL,pex_lt hL],rfl⟩
  ·rw [if_neg k2,if_neg k2]
   by_cases k3 : (pex R F x).1.k = 3
   ·rw [if_pos k3,if_pos k3]
    exact ⟨by simp only [mu_lt hL,pex_lt hL],rfl⟩
   ·rw [if_neg k3,if_neg k3]
    exact ⟨rfl,rfl⟩
 ·rw [if_neg h0,if_neg h0]
  exact ⟨rfl,rfl⟩
theorem hdS_lt (F p : Nat) : (hdS R' F p).2 = (hdS R F p).2 ∧ (hdS R' F p).1.k = (hdS R F p).1.k:=by
 unfold hdS
 simp only [hL.is]
 by_cases h1 : R.is p lLet = true
 ·rw [if_pos h1,if_pos h1]
  unfold letS
  exact ⟨by simp only [mu_lt hL,pnm_lt hL,pty_lt hL,pmk_lt hL,pex_lt hL],rfl⟩
 ·rw [if_neg h1,if_neg h1]
  by_cases h2 : R.is p lIf = true
  ·rw [if_pos h2,if_pos h2]
   unfold askS
   exact ⟨by simp only [mu_lt hL,pex_lt hL],rfl⟩
  ·rw [if_neg h2,if_neg h2]
   by_cases h3 : R.is p lWhile = true
   ·rw [if_pos h3,if_pos h3]
    unfold askS
    exact ⟨by simp only [mu_lt hL,pex_lt hL],rfl⟩
   ·rw [if_neg h3,if_neg h3]
    by_cases h4 : R.is p lDo = true
    ·rw [if_pos h4,if_pos h4]
     unfold doS
     exact ⟨by simp only [mu_lt hL,pnm_lt hL],rfl⟩
    ·rw [if_neg h4,if_neg h4]
     exact plS_lt hL F _ _ _
theorem rs_lt (F : Nat) : ∀ (f : Nat),(∀ acc acc' p d,(rs R' F f (.row acc') p d).p = (rs R F f (.row acc) p d).p ∧ (rs R' F f (.row acc') p d).r = (rs R F f (.row acc) p d).r) ∧
  (∀ p d,(rs R' F f .st p d).p = (rs R F f .st p d).p ∧ (rs R' F f .st p d).r = (rs R F f .st p d).r) ∧ (∀ p d,(rs R' F f .blk p d).p = (rs R F f .blk p d).p ∧ (rs R' F f .blk p d).r = (rs R F f .blk p d).r):=by
 intro f
 induction f with
 | zero => exact ⟨fun _ _ _ _ => ⟨rfl,rfl⟩,fun _ _ => ⟨rfl,rfl⟩,fun _ _ => ⟨rfl,rfl⟩⟩
 | succ f ih =>
  obtain ⟨i1,i2,i3⟩:=ih
  refine ⟨fun acc acc' p d => ?_,fun p d => ?_,fun p d => ?_⟩
  ·rw [rs_row,rs_row,hL.ends,(i2 p d).1,(i2 p d).2]
   by_cases h1 : endsB R p = true
   ·rw [if_pos h1,if_pos h1]; exact ⟨rfl,rfl⟩
   ·rw [if_neg h1,if_neg h1]
    by_cases h2 : (rs R F f .st p d).r = 0
    ·rw [if_pos h2,if_pos h2]; exact i1 _ _ _ _
    ·rw [if_neg h2,if_neg h2]; exact ⟨rfl,rfl⟩
  ·rw [rs_st,rs_st]
   have hh:=hdS_lt hL F p
   rw [hh.1,hh.2,(i3 _ _).1,(i3 _ _).2]
   by_cases h0 : (hdS R F p).2.2 = 0
   ·rw [if_pos h0,if_pos h0]
    by_cases h1 : (hdS R F p).1.k = 2 ∨ (hdS R F p).1.k = 3
    ·rw [if_pos h1,if_pos h1]
     by_cases h2 : (rs R F f .blk (hdS R F p).2.1 d).r = 0
     ·rw [if_pos h2,if_pos h2,hL.is]
      by_cases h3 : (hdS R F p).1.k = 2 ∧ R.is (rs R F f .blk (hdS R F p).2.1 d).p lElse = true
      ·rw [if_pos h3,if_pos h3,(i3 _ _).1,(i3 _ _).2]
       by_cases h4 : (rs R F f .blk ((rs R F f .blk (hdS R F p).2.1 d).p + 1) d).r = 0
       ·rw [if_pos h4,if_pos h4]; exact ⟨rfl,rfl⟩
       ·rw [if_neg h4,if_neg h4]; exact ⟨rfl,rfl⟩
      ·rw [if_neg h3,if_neg h3]; exact ⟨rfl,rfl⟩
     ·rw [if_neg h2,if_neg h2]; exact ⟨rfl,rfl⟩
    ·rw [if_neg h1,if_neg h1]; exact ⟨rfl,rfl⟩
   ·rw [if_neg h0,if_neg h0]; exact ⟨rfl,rfl⟩
  ·rw [rs_blk,rs_blk,hL.is,(i1 [] [] _ _).1,(i1 [] [] _ _).2,hL.is]
   by_cases h1 : R.is p [123] = true
   ·rw [if_pos h1,if_pos h1]
    by_cases h2 : 32 ≤ d
    ·rw [if_pos h2,if_pos h2]; exact ⟨rfl,rfl⟩
    ·rw [if_neg h2,if_neg h2]
     by_cases h3 : (rs R F f (.row []) (p + 1) (d + 1)).r = 0
     ·rw [if_pos h3,if_pos h3]
      by_cases h4 : R.is (rs R F f (.row []) (p + 1) (d + 1)).p [125] = true
      ·rw [if_pos h4,if_pos h4]; exact ⟨rfl,rfl⟩
      ·rw [if_neg h4,if_neg h4]; exact ⟨rfl,rfl⟩
     ·rw [if_neg h3,if_neg h3]; exact ⟨rfl,rfl⟩
   ·rw [if_neg h1,if_neg h1]; exact ⟨rfl,rfl⟩
theorem prow_lt (F f : Nat) (x : Nat × Int) : (prow R' F f x).2 = (prow R F f x).2:=by
 unfold prow
 have h:=(rs_lt hL F f).1 [] [] x.1 1
 rw [h.1,h.2]
 by_cases h0 : x.2 = 0
 ·rw [if_pos h0,if_pos h0]
  by_cases h1 : (rs R F f (.row []) x.1 1).r = 0
  ·rw [if_pos h1,if_pos h1]
  ·rw [if_neg h1,if_neg h1]
 ·rw [if_neg h0,if_neg h0]
theorem tkW_lt (x : Nat × Int) (l : List UInt8) : tkW R' x l = tkW R x l:=by unfold tkW; simp only [hL.is]
theorem fnm_lt (x : Nat × Int) : (fnm R' x).2 = (fnm R x).2:=by
 unfold fnm
 simp only [hL.l.idn]
 by_cases h0 : x.2 = 0
 ·rw [if_pos h0,if_pos h0]
  by_cases h1 : R.idn x.1 = true
  ·rw [if_pos h1,if_pos h1]
  ·rw [if_neg h1,if_neg h1]
 ·rw [if_neg h0,if_neg h0]
theorem fvr_lt (x : Nat × Int) : (fvr R' x).2 = (fvr R x).2:=by
 unfold fvr
 simp only [mu_lt hL,pty_lt hL,pmk_lt hL,fnm_lt hL]
theorem fpr_lt (x : Nat × Int) : (fpr R' x).2 = (fpr R x).2:=by
 unfold fpr
 simp only [tkW_lt hL,fnm_lt hL]
 by_cases h0 : tkW R (fnm R x).2 [60] = true
 ·rw [if_pos h0,if_pos h0]
 ·rw [if_neg h0,if_neg h0]
section
variable {σ τ : Type} {P : σ → τ → Prop} {one : σ → Nat × Int → σ × (Nat × Int)} {one' : τ → Nat × Int → τ × (Nat × Int)} (ho : ∀ s s' x,P s s' → P (one s x).1 (one' s' x).1 ∧ (one' s' x).2 = (one s x).2)
include ho
theorem lnsL_lt : ∀ (f : Nat) s s' x,P s s' → (lnsL R' one' f s' x).2 = (lnsL R one f s x).2:=by
 intro f
 induction f with
 | zero => intro s s' x _; rfl
 | succ f ih =>
  intro s s' x h
  obtain ⟨h1,h2⟩:=ho s s' x h
  unfold lnsL
  rw [hL.is,h2,mu_lt hL]
  by_cases h0 : x.2 = 0
  ·rw [if_pos h0,if_pos h0]
   by_cases h3 : R.is x.1 [125] = true
   ·rw [if_pos h3,if_pos h3]
   ·rw [if_neg h3,if_neg h3]; exact ih _ _ _ h1
  ·rw [if_neg h0,if_neg h0]
theorem lns_lt (f : Nat) (s : σ) (s' : τ) (x : Nat × Int) (h : P s s') : (lns R' one' f s' x).2 = (lns R one f s x).2:=by
 unfold lns
 rw [mu_lt hL]
 exact lnsL_lt hL ho f s s' _ h
theorem lstL_lt : ∀ (f : Nat) s s' x,P s s' → (lstL R' one' f s' x).2 = (lstL R one f s x).2:=by
 intro f
 induction f with
 | zero => intro s s' x _; rfl
 | succ f ih =>
  intro s s' x h
  obtain ⟨h1,h2⟩:=ho s s' (tkX x true) h
  unfold lstL
  rw [tkW_lt hL,h2]
  by_cases h0 : tkW R x [44] = true
  ·rw [if_pos h0,if_pos h0]; exact ih _ _ _ h1
  ·rw [if_neg h0,if_neg h0]
theorem lst_lt (e : ByteArray) (f : Nat) (s : σ) (s' : τ) (x : Nat × Int) (h : P s s') : (lst R' one' e f s' x).2 = (lst R one e f s x).2:=by
 unfold lst
 obtain ⟨h1,h2⟩:=ho s s' x h
 rw [tkW_lt hL,h2]
 by_cases h0 : tkW R x e.toList = true
 ·rw [if_pos h0,if_pos h0]
 ·rw [if_neg h0,if_neg h0]
  dsimp only
  rw [mu_lt hL,lstL_lt hL ho f _ _ _ h1]
end
theorem onN_lt (s s' : List NmT) (x : Nat × Int) : (onN R' s' x).2 = (onN R s x).2:=fnm_lt hL x
theorem onP_lt (s s' : List PrT) (x : Nat × Int) : (onP R' s' x).2 = (onP R s x).2:=fpr_lt hL x
theorem onV_lt (s s' : List VrT) (x : Nat × Int) (h : s.length = s'.length) : (onV R s x).1.length = (onV R' s' x).1.length ∧ (onV R' s' x).2 = (onV R s x).2:=by
 unfold onV
 rw [h]
 exact ⟨by simp [h],fvr_lt hL _⟩
theorem ffn_lt (F f : Nat) (x : Nat × Int) : (ffn R' F f x).2 = (ffn R F f x).2:=by
 have h1:=fun z => lst_lt hL (P:=fun (s s' : List VrT) => s.length = s'.length) (one:=onV R) (one':=onV R') (fun s s' x h => onV_lt hL s s' x h) wRap f [] [] z rfl
 have h2:=fun z => lst_lt hL (P:=fun (s s' : List NmT) => True) (one:=onN R) (one':=onN R') (fun s s' x h => ⟨trivial,onN_lt hL s s' x⟩) wKet f [] [] z trivial
 unfold ffn
 simp only [mu_lt hL,fnm_lt hL,h1,pty_lt hL,pmk_lt hL,tkW_lt hL]
 by_cases h0 : tkW R (pmk R (pty R (mu R (lst R (onV R) wRap f [] (mu R (fnm R (mu R x [wFn])).2 [wPar])).2 [wCol])).2).2 [47] = true
 ·rw [if_pos h0,if_pos h0]
  simp only [h2,prow_lt hL,pex_lt hL,mu_lt hL]
 ·rw [if_neg h0,if_neg h0]
  simp only [prow_lt hL,pex_lt hL,mu_lt hL]
theorem fit_lt (F f : Nat) (m m' : MoT) (p : Nat) (h1 : m'.hl = m.hl) (h2 : m'.he = m.he) : (fit R' F f m' p).2 = (fit R F f m p).2 ∧ (fit R' F f m' p).1.hl = (fit R F f m p).1.hl ∧ (fit R' F f m' p).1.he = (fit R F f m p).1.he:=by
 have k1:=fun z => lns_lt hL (P:=fun (s s' : List PrT) => True) (one:=onP R) (one':=onP R') (fun s s' x h => ⟨trivial,onP_lt hL s s' x⟩) f m.la m'.la z trivial
 have k2:=fun z => lns_lt hL (P:=fun (s s' : List NmT) => True) (one:=onN R) (one':=onN R') (fun s s' x h => ⟨trivial,onN_lt hL s s' x⟩) f m.ef m'.ef z trivial
 unfold fit
 simp only [hL.is,mu_lt hL,h1,h2]
 split
 ·exact ⟨by simp only [mu_lt hL,fnm_lt hL],rfl,rfl⟩
 ·split
  ·exact ⟨k1 _,rfl,rfl⟩
  ·split
   ·exact ⟨k2 _,rfl,rfl⟩
   ·split
    ·exact ⟨by simp only [mu_lt hL,fvr_lt hL],rfl,rfl⟩
    ·split
     ·exact ⟨ffn_lt hL F f _,rfl,rfl⟩
     ·exact ⟨rfl,h1,h2⟩
theorem fits_lt (F f : Nat) : ∀ (g : Nat) (m m' : MoT) (x : Nat × Int),m'.hl = m.hl → m'.he = m.he → (fits R' F f g m' x).2 = (fits R F f g m x).2:=by
 intro g
 induction g with
 | zero => intro m m' x _ _; rfl
 | succ g ih =>
  intro m m' x h1 h2
  obtain ⟨k1,k2,k3⟩:=fit_lt hL F f m m' x.1 h1 h2
  unfold fits
  rw [hL.n,k1]
  by_cases h0 : x.2 = 0 ∧ ¬ x.1 = R.n
  ·rw [if_pos h0,if_pos h0]; exact ih _ _ _ k2 k3
  ·rw [if_neg h0,if_neg h0]
theorem LateN.winF (hR : R.Ok) (N : Nat) : WinF R R' 0 c N:=⟨hR,⟨fun i _ => hL.l.wd i,fun i _ => hL.l.kd i,fun i _ => hL.l.idn i,fun i _ => hL.l.ps i⟩,hL.is _ _,fun i _ => hL.ends i⟩
theorem fits_later (hR : R.Ok) {F f : Nat} (hf : R.n + 1 ≤ f) {M : MoT} (h : fits R F f f MoT.nul (0,0) = (M,R.n,0)) : fits R' F f f MoT.nul (0,0) = (MoT.nul.plus M c,R.n,0):=by
 have hc : ∀ m,¬ clash MoT.nul m:=fun m h => by
  rcases h with h | h
  ·exact absurd h.1 (by decide)
  ·exact absurd h.1 (by decide)
 have w:=(fitsW (hL.winF hR (R.n + 1)) (F:=F) (f:=f) (fun i hi => ⟨by rw [hL.n]; exact hi,by omega⟩) (by omega) MoT.nul f MoT.nul 0 (Nat.zero_le _) (by rw [h]) (by rw [h]) (hc _)).1 (by rw [h]; exact hc _)
 rw [h] at w
 obtain ⟨j,hj,hg⟩:=w
 have e:=hg (f - j)
 rw [show f - j + j = f by omega,plus_nil] at e
 dsimp only at e
 rw [e,fits_end (fun h => h.2 (by rw [hL.n]; rfl))]
 rfl
end
theorem late_pre (P T : ByteArray) (L : List Tk) (k : Nat) (hs : P.size = k) (hL : ∀ t ∈ L,0 ≤ t.2.1 ∧ 0 ≤ t.2.2) : LateN (rowT T L) (rowT (P ++ T) (L.map (shift (k : Int)))) (k : Int):=by
 refine ⟨⟨fun i => wdT_shift _ _ _ k hs hL i,fun i => ?_,fun i => ?_,fun i => ?_⟩,?_⟩
 ·show (match (L.map (shift (k : Int)))[i]? with | some t => t.1 | none => 0) = (match L[i]? with | some t => t.1 | none => 0)
  rw [List.getElem?_map]
  cases L[i]? <;> rfl
 ·show idB _ = idB _
  rw [wdT_shift _ _ _ k hs hL i]
 ·show (match (L.map (shift (k : Int)))[i]? with | some t => t.2.1 | none => (((P ++ T).size : Nat) : Int)) = (match L[i]? with | some t => t.2.1 | none => (T.size : Int)) + (k : Int)
  rw [List.getElem?_map]
  cases L[i]? with
  | some t => rfl
  | none =>
   show (((P ++ T).size : Nat) : Int) = (T.size : Int) + (k : Int)
   rw [ByteArray.size_append,hs]
   omega
 ·show (L.map (shift (k : Int))).length = L.length
  rw [List.length_map]
theorem live_note (us : List Int) (h : ∀ u ∈ us,u ≠ 10) : live (35 :: us) 0 = []:=by
 have hk : kd 35 = 1:=by decide
 have hr : runB (goes 1) us = us.length:=by
  clear hk
  induction us with
  | nil => rfl
  | cons x l ih => rw [runB_yes (by simp [goes,h x (List.mem_cons_self)]),ih fun u hu => h u (List.mem_cons_of_mem _ hu)]; rfl
 have htl : tl (35 :: us) = 1 + us.length:=by rw [tl_cons,hk,if_pos (by decide),hr]
 have htk : tk (35 :: us) = 1:=by rw [tk_cons,hk,if_pos (by decide)]
 unfold live
 rw [toks_at (by simp),List.drop_zero,htk,htl,toks_end (by simp; omega)]
 rfl
theorem parseM_later {us bs : List Int} (hu : ∀ u ∈ us,u ≠ 10) (hb : Byt8 bs) (hnu : us.length ≤ 100) (hnb : bs.length ≤ 1500) {F f : Nat} (hf : bs.length + 1 ≤ f) {X : MoT × Int × Int}
  (h : parseM (rowT (strOfNums bs) (live bs 0)) (live bs 0) bs.length F f = X) :
  parseM (rowT (strOfNums (35 :: us ++ 10 :: bs)) (live (35 :: us ++ 10 :: bs) 0)) (live (35 :: us ++ 10 :: bs) 0) (35 :: us ++ 10 :: bs).length F f = (MoT.nul.plus X.1 ((us.length : Int) + 2),X.2.1 + ((us.length : Int) + 2),X.2.2):=by
 have hlv : live (35 :: us ++ 10 :: bs) 0 = (live bs 0).map (shift (((us.length + 2 : Nat)) : Int)):=by
  rw [live_two,live_note us hu,List.nil_append,List.length_cons]
  rfl
 have hT : strOfNums (35 :: us ++ 10 :: bs) = strOfNums (35 :: us ++ [10]) ++ strOfNums bs:=by
  rw [str_append]
  simp
 have hs : (strOfNums (35 :: us ++ [10])).size = us.length + 2:=by rw [str_len]; simp
 have hL : LateN _ _ _:=late_pre (strOfNums (35 :: us ++ [10])) (strOfNums bs) (live bs 0) (us.length + 2) hs (fun t ht => by
  obtain ⟨v,_,rfl⟩:=mem_live ht
  exact ⟨by show (0 : Int) ≤ (v : Int); omega,by show (0 : Int) ≤ ((v + tl (bs.drop v) : Nat) : Int); omega⟩)
 rw [← hT,← hlv] at hL
 have hlen : (35 :: us ++ 10 :: bs).length = bs.length + us.length + 2:=by simp; omega
 have hk : (((us.length + 2 : Nat)) : Int) = (us.length : Int) + 2:=by omega
 have hbad : isBad (live (35 :: us ++ 10 :: bs) 0) = isBad (live bs 0):=by rw [hlv,isBad_shift]
 have hbo:=fun h => badOf_shift (live bs 0) (((us.length + 2 : Nat)) : Int) h
 rw [← hlv] at hbo
 have hll:=live_len bs
 have hnul : MoT.nul.plus MoT.nul ((us.length : Int) + 2) = MoT.nul:=plus_nil _ _
 unfold parseM at h ⊢
 rw [if_neg (show ¬ 16384 < bs.length by omega)] at h
 rw [if_neg (show ¬ 16384 < (35 :: us ++ 10 :: bs).length by omega),hbad]
 rw [hk] at hL hbo
 cases hbd : isBad (live bs 0) with
 | true =>
  rw [hbd,if_pos rfl] at h
  rw [if_pos rfl]
  subst h
  dsimp only
  rw [hnul,hbo hbd]
 | false =>
  rw [hbd,if_neg (by decide)] at h
  rw [if_neg (by decide)]
  have e2:=fits_lt hL F f f MoT.nul MoT.nul (0,0) rfl rfl
  by_cases h0 : (fits (rowT (strOfNums bs) (live bs 0)) F f f MoT.nul (0,0)).2.2 = 0
  ·rw [if_pos h0] at h
   rw [if_pos (by rw [e2]; exact h0)]
   subst h
   have hfin:=fits_all (row_ok (strOfNums bs) (live bs 0)) (F:=F) (f:=f) f MoT.nul 0 (Nat.zero_le _) (by show (live bs 0).length ≤ 0 + f; omega) h0
   have e1:=fits_later hL (row_ok _ _) (F:=F) (f:=f) (by show (live bs 0).length + 1 ≤ f; omega) (M:=(fits (rowT (strOfNums bs) (live bs 0)) F f f MoT.nul (0,0)).1) (Prod.ext rfl (Prod.ext hfin h0))
   rw [e2,hL.l.ps]
   rw [e1]
  ·rw [if_neg h0] at h
   rw [if_neg (by rw [e2]; exact h0),e2,hL.l.ps]
   subst h
   dsimp only
   rw [hnul]
theorem lms_shm (c : Int) : ∀ (n : Nat) (l : List St),cts l ≤ n → lms (l.map (St.sh c)) = (lms l).map (An.sh c):=by
 intro n
 induction n with
 | zero =>
  intro l h
  cases l with
  | nil => rfl
  | cons x l => rw [cts_cons,St.ct_eq] at h; omega
 | succ n ih =>
  intro l h
  cases l with
  | nil => rfl
  | cons x l =>
   rw [cts_cons,St.ct_eq] at h
   have h1:=ih l (by omega)
   have h2:=ih x.l (by omega)
   have h3:=ih x.r (by omega)
   rw [List.map_cons,lms_cons,lms_cons,List.map_append,h1]
   obtain ⟨k,a,nm,ty,an,e,xl,xr⟩:=x
   rw [St.sh_eq,ms_mk,ms_mk]
   simp only [St.l,St.r] at h2 h3
   congr 1
   by_cases k0 : k = 0
   ·rw [if_pos k0,if_pos k0,if_pos k0]; rfl
   ·rw [if_neg k0,if_neg k0]
    by_cases k2 : k = 2
    ·rw [if_pos k2,if_pos k2,List.map_append,h2,h3]
    ·rw [if_neg k2,if_neg k2]
     by_cases k3 : k = 3
     ·rw [if_pos k3,if_pos k3,h2]
     ·rw [if_neg k3,if_neg k3]; rfl
theorem fn_shm (c : Int) (l : List FnT) : (l.map (FnT.sh c)).flatMap FnT.mks = (l.flatMap FnT.mks).map (An.sh c):=by
 induction l with
 | nil => rfl
 | cons x l ih =>
  rw [List.map_cons,List.flatMap_cons,List.flatMap_cons,List.map_append,ih]
  congr 1
  unfold FnT.mks FnT.sh
  dsimp only
  rw [lms_shm c _ _ nLe]
  simp [VrT.sh]
theorem later_mks (m : MoT) (c : Int) : (MoT.nul.plus m c).mks = m.mks.map (An.sh c):=by
 unfold MoT.mks MoT.plus
 dsimp only [MoT.nul]
 rw [List.nil_append,List.nil_append,fn_shm,List.map_append]
 congr 1
 simp [VrT.sh]
theorem srtA_sh {K : List An} (c : Int) (h : SrtA K) : SrtA (K.map (An.sh c)):=by
 unfold SrtA at *
 rw [List.pairwise_map]
 exact h.imp fun {x y} hxy => by show x.fr + c ≤ y.fr + c; omega
theorem flA_sh {A B : List An} (c : Int) (h : FlA A B) : FlA (A.map (An.sh c)) (B.map (An.sh c)):=by
 refine ⟨by rw [List.length_map,List.length_map,h.1],fun f => ?_⟩
 have e : ∀ L : List An,(L.map (An.sh c)).filter (fun x => x.fr == f) = (L.filter (fun x => x.fr == f - c)).map (An.sh c):=fun L => by
  rw [List.filter_map]
  congr 1
  refine List.filter_congr fun x _ => ?_
  show (x.fr + c == f) = (x.fr == f - c)
  rw [Bool.eq_iff_iff]
  simp
  omega
 rw [e,e,h.2]
end Go.Proofs.YtkjhlgnpohamnaaGreatDoor
