import Derived.Test.YtkjhlgnpohamnaaGreatDoorSq
import Derived.Test.YtkjhlgnpohamnaaGreatDoorMSz
import Derived.Test.YtkjhlgnpohamnaaGreatDoorMEi
namespace Go.Proofs.YtkjhlgnpohamnaaGreatDoor
set_option linter.unusedVariables false
set_option linter.unusedSimpArgs false
structure Win (R R' : Rw) (k : Nat) (c : Int) (N : Nat) : Prop where
 wd : ∀ i,i < N → R'.wd (i + k) = R.wd i
 kd : ∀ i,i < N → R'.kd (i + k) = R.kd i
 idn : ∀ i,i < N → R'.idn (i + k) = R.idn i
 ps : ∀ i,i < N → R'.ps (i + k) = R.ps i + c
def WinR (k : Nat) (c : Int) (g g' : Gt) : Prop:=g'.r = 0 ∧ g'.p = g.p + k ∧ g'.e = g.e.sh c
def WinM (k : Nat) (c : Int) (m : Md) (g g' : Gt) : Prop:=g'.r = 0 ∧ g'.p = g.p + k ∧ match m with
 | .ar => g'.e.l = g.e.l.map (Ex.sh c)
 | .an _ => g'.e.l = g.e.l.map (Ex.sh c)
 | _ => g'.e = g.e.sh c
section
variable {R R' : Rw} {k N : Nat} {c : Int}
theorem Win.is (h : Win R R' k c N) {i : Nat} (hi : i < N) (l : List UInt8) : R'.is (i + k) l = R.is i l:=by unfold Rw.is; rw [h.wd i hi]
theorem win_hld {k : Nat} {c : Int} {e : Ex} {p q q' : Nat} (h : (hld e p q).r = 0) : WinR k c (hld e p q) (hld (e.sh c) (p + k) q'):=by
 unfold hld at h ⊢
 rw [Ex.sh_ht]
 by_cases h' : 32 < e.ht
 ·rw [if_pos h'] at h; cases h
 ·rw [if_neg h',if_neg h']; exact ⟨rfl,rfl,rfl⟩
theorem Win.name (h : Win R R' k c N) {a : Nat} (ht : (R.name a).1 = true) (hn : (R.name a).2.2 < N) : R'.name (a + k) = (true,(R.name a).2.1,(R.name a).2.2 + k) ∧ a < (R.name a).2.2:=by
 unfold Rw.name at ht hn ⊢
 by_cases h1 : R.idn a = false
 ·rw [if_pos h1] at ht; cases ht
 ·rw [if_neg h1] at ht hn ⊢
  by_cases h2 : R.is (a + 1) [46] = true
  ·rw [if_pos h2] at ht hn ⊢
   by_cases h3 : R.idn (a + 2) = true
   ·rw [if_pos h3] at ht hn ⊢
    have hn : a + 3 < N:=hn
    rw [h.idn a (by omega),if_neg h1,show a + k + 1 = a + 1 + k by omega,h.is (by omega),if_pos h2,show a + k + 2 = a + 2 + k by omega,h.idn _ (by omega),if_pos h3,h.wd a (by omega),h.wd _ (by omega)]
    exact ⟨by rw [show a + k + 3 = a + 3 + k by omega],by show a < a + 3; omega⟩
   ·rw [if_neg h3] at ht; cases ht
  ·rw [if_neg h2] at ht hn ⊢
   have hn : a + 1 < N:=hn
   rw [h.idn a (by omega),if_neg h1,show a + k + 1 = a + 1 + k by omega,h.is (by omega),if_neg h2,h.wd a (by omega)]
   exact ⟨rfl,Nat.lt_succ_self _⟩
theorem rd_win (hR : R.Ok) (hW : Win R R' k c N) : ∀ (f : Nat) (m : Md) (a d : Nat),a ≤ R.n → (m.there = true → a < R.n) → (rd R f m a d).r = 0 → (rd R f m a d).p < N → WinM k c m (rd R f m a d) (rd R' f (m.sh c) (a + k) d):=by
 intro f
 induction f with
 | zero => intro m a d ha _ h0 _; rw [rd_0] at h0; cases h0
 | succ f ih =>
  intro m a d ha hth h0 hp
  have haN : a < N:=by have:=(rd_in hR (f + 1) m a d ha hth).1; omega
  have his:=fun l => hW.is haN l
  cases m with
  | lev l =>
   show WinR k c (rd R (f + 1) (.lev l) a d) (rd R' (f + 1) (.lev l) (a + k) d)
   by_cases h6 : 6 ≤ l
   ·rw [rd_lev6 h6] at h0 hp ⊢
    rw [rd_lev6 h6]
    exact ih .sg a d ha (fun h => (by cases h)) h0 hp
   ·rw [rd_lev h6] at h0 hp ⊢
    rw [rd_lev h6]
    have i1:=rd_in hR f (.lev (l + 1)) a d ha (fun h => (by cases h))
    have h1:=ih (.lev (l + 1)) a d ha (fun h => (by cases h))
    have h2:=fun e q hq => ih (.loop l e) q d hq (fun h => (by cases h))
    have i2:=fun e q hq => rd_in hR f (.loop l e) q d hq (fun h => (by cases h))
    generalize rd R f (.lev (l + 1)) a d = g at h0 hp i1 h1 ⊢
    by_cases hg : g.r = 0
    ·rw [if_pos hg] at h0 hp ⊢
     obtain ⟨e1,e2,e3⟩:=h1 hg (by have:=(i2 g.e g.p i1.2.1).1; omega)
     change (rd R' f (.lev (l + 1)) (a + k) d).r = 0 at e1
     change (rd R' f (.lev (l + 1)) (a + k) d).p = _ at e2
     change (rd R' f (.lev (l + 1)) (a + k) d).e = _ at e3
     rw [if_pos e1,e2,e3]
     exact h2 g.e g.p i1.2.1 h0 hp
    ·rw [if_neg hg] at h0; exact absurd h0 hg
  | loop l e =>
   show WinR k c (rd R (f + 1) (.loop l e) a d) (rd R' (f + 1) (.loop l (e.sh c)) (a + k) d)
   simp only [rd] at h0 hp ⊢
   rw [hW.wd a haN]
   by_cases hs : sgnL l (R.wd a) = true
   ·rw [if_pos hs] at h0 hp ⊢
    rw [if_pos hs]
    have hlt:=hR.sgnL_lt hs
    have i1:=rd_in hR f (.lev (l + 1)) (a + 1) d hlt (fun h => (by cases h))
    have h1:=ih (.lev (l + 1)) (a + 1) d hlt (fun h => (by cases h))
    have h2:=fun e q hq => ih (.loop l e) q d hq (fun h => (by cases h))
    have i2:=fun e q hq => rd_in hR f (.loop l e) q d hq (fun h => (by cases h))
    generalize rd R f (.lev (l + 1)) (a + 1) d = g at h0 hp i1 h1 ⊢
    by_cases hg : g.r = 0
    ·rw [if_pos hg] at h0 hp ⊢
     rcases hld_p (eBin (R.wd a) e g.e) g.p a with ⟨q1,q2,q3,q4⟩ | ⟨q1,_,_⟩
     ·rw [if_pos q1,q2,q3] at h0 hp ⊢
      obtain ⟨e1,e2,e3⟩:=h1 hg (by have:=(i2 (eBin (R.wd a) e g.e) g.p i1.2.1).1; omega)
      change (rd R' f (.lev (l + 1)) (a + 1 + k) d).r = 0 at e1
      change (rd R' f (.lev (l + 1)) (a + 1 + k) d).p = _ at e2
      change (rd R' f (.lev (l + 1)) (a + 1 + k) d).e = _ at e3
      rw [show a + k + 1 = a + 1 + k by omega,if_pos e1,e2,e3,← bin_sh]
      have hh : hld ((eBin (R.wd a) e g.e).sh c) (g.p + k) (a + k) = good ((eBin (R.wd a) e g.e).sh c) (g.p + k):=by unfold hld; rw [Ex.sh_ht,if_neg (by omega)]
      rw [hh]
      exact h2 _ g.p i1.2.1 h0 hp
     ·rw [if_neg (by rw [q1]; decide)] at h0
      change (hld (eBin (R.wd a) e g.e) g.p a).r = 0 at h0
      rw [q1] at h0; cases h0
    ·rw [if_neg hg] at h0; exact absurd h0 hg
   ·rw [if_neg hs,if_neg hs]; exact ⟨rfl,rfl,rfl⟩
  | sg =>
   show WinR k c (rd R (f + 1) .sg a d) (rd R' (f + 1) .sg (a + k) d)
   simp only [rd] at h0 hp ⊢
   rw [his,his,hW.wd a haN,hW.ps a haN]
   by_cases hs : (R.is a [33] || R.is a [45]) = true
   ·rw [if_pos hs] at h0 hp ⊢
    rw [if_pos hs]
    have hlt : a < R.n:=by
     rcases Bool.or_eq_true_iff.1 hs with h | h
     ·exact hR.is_lt h
     ·exact hR.is_lt h
    by_cases hd : d = 32
    ·rw [if_pos hd] at h0; cases h0
    ·rw [if_neg hd] at h0 hp ⊢
     rw [if_neg hd]
     have h1:=ih .sg (a + 1) (d + 1) hlt (fun h => (by cases h))
     generalize rd R f .sg (a + 1) (d + 1) = g at h0 hp h1 ⊢
     by_cases hg : g.r = 0
     ·rw [if_pos hg] at h0 hp ⊢
      have hpe : (hld (eUn (R.ps a) (R.wd a) g.e) g.p a).p = g.p:=by
       rcases hld_p (eUn (R.ps a) (R.wd a) g.e) g.p a with ⟨_,q2,_⟩ | ⟨q1,_⟩
       ·exact q2
       ·rw [q1] at h0; cases h0
      obtain ⟨e1,e2,e3⟩:=h1 hg (by omega)
      change (rd R' f .sg (a + 1 + k) (d + 1)).r = 0 at e1
      change (rd R' f .sg (a + 1 + k) (d + 1)).p = _ at e2
      change (rd R' f .sg (a + 1 + k) (d + 1)).e = _ at e3
      rw [show a + k + 1 = a + 1 + k by omega,if_pos e1,e2,e3,← un_sh]
      exact win_hld h0
     ·rw [if_neg hg] at h0; exact absurd h0 hg
   ·rw [if_neg hs] at h0 hp ⊢
    rw [if_neg hs]
    exact ih .pr a d ha (fun h => (by cases h)) h0 hp
  | pr =>
   show WinR k c (rd R (f + 1) .pr a d) (rd R' (f + 1) .pr (a + k) d)
   simp only [rd] at h0 hp ⊢
   simp only [hW.kd a haN,hW.wd a haN,hW.ps a haN,his]
   by_cases hk : R.kd a = 3
   ·rw [if_pos hk] at h0 ⊢
    rw [if_pos hk]
    cases hn : numB (R.wd a) with
    | some v =>
     show WinR k c (good (eNum (R.ps a) v) (a + 1)) (good (eNum (R.ps a + c) v) (a + k + 1))
     rw [← num_sh,show a + k + 1 = a + 1 + k by omega]
     exact ⟨rfl,rfl,rfl⟩
    | none => rw [hn] at h0; cases h0
   ·rw [if_neg hk] at h0 hp ⊢
    rw [if_neg hk]
    by_cases h2 : R.is a [116,114,117,101] = true
    ·rw [if_pos h2,if_pos h2,← bool_sh,show a + k + 1 = a + 1 + k by omega]; exact ⟨rfl,rfl,rfl⟩
    ·rw [if_neg h2] at h0 hp ⊢
     rw [if_neg h2]
     by_cases h3 : R.is a [102,97,108,115,101] = true
     ·rw [if_pos h3,if_pos h3,← bool_sh,show a + k + 1 = a + 1 + k by omega]; exact ⟨rfl,rfl,rfl⟩
     ·rw [if_neg h3] at h0 hp ⊢
      rw [if_neg h3]
      by_cases h4 : R.is a [40] = true
      ·rw [if_pos h4] at h0 hp ⊢
       rw [if_pos h4]
       have h1:=ih .gr a d ha (fun h => (by cases h))
       generalize rd R f .gr a d = g at h0 hp h1 ⊢
       by_cases hg : g.r = 0
       ·rw [if_pos hg] at h0 hp ⊢
        by_cases hc : R.is g.p [41] = true
        ·rw [if_pos hc] at h0 hp ⊢
         have hp : g.p + 1 < N:=hp
         obtain ⟨e1,e2,e3⟩:=h1 hg (by omega)
         change (rd R' f .gr (a + k) d).r = 0 at e1
         change (rd R' f .gr (a + k) d).p = _ at e2
         change (rd R' f .gr (a + k) d).e = _ at e3
         rw [if_pos e1,e2,e3,hW.is (by omega),if_pos hc,show g.p + k + 1 = g.p + 1 + k by omega]
         exact ⟨rfl,rfl,rfl⟩
        ·rw [if_neg hc] at h0; cases h0
       ·rw [if_neg hg] at h0; exact absurd h0 hg
      ·rw [if_neg h4] at h0 hp ⊢
       rw [if_neg h4]
       by_cases h5 : R.is a [100,101,99,108,97,115,115,105,102,121] = true
       ·rw [if_pos h5] at h0 hp ⊢
        rw [if_pos h5]
        exact ih .op a d ha (fun _ => hR.is_lt h5) h0 hp
       ·rw [if_neg h5] at h0 hp ⊢
        rw [if_neg h5]
        exact ih .nm a d ha (fun h => (by cases h)) h0 hp
  | gr =>
   show WinR k c (rd R (f + 1) .gr a d) (rd R' (f + 1) .gr (a + k) d)
   simp only [rd] at h0 hp ⊢
   rw [his]
   by_cases hb : R.is a [40] = true
   ·rw [if_pos hb] at h0 hp ⊢
    rw [if_pos hb]
    have hlt:=hR.is_lt hb
    by_cases hd : d = 32
    ·rw [if_pos hd] at h0; cases h0
    ·rw [if_neg hd] at h0 hp ⊢
     rw [if_neg hd]
     have h1:=ih (.lev 1) (a + 1) (d + 1) hlt (fun h => (by cases h))
     generalize rd R f (.lev 1) (a + 1) (d + 1) = g at h0 hp h1 ⊢
     by_cases hg : g.r = 0
     ·rw [if_pos hg] at h0 hp ⊢
      obtain ⟨e1,e2,e3⟩:=h1 hg hp
      change (rd R' f (.lev 1) (a + 1 + k) (d + 1)).r = 0 at e1
      change (rd R' f (.lev 1) (a + 1 + k) (d + 1)).p = _ at e2
      change (rd R' f (.lev 1) (a + 1 + k) (d + 1)).e = _ at e3
      rw [show a + k + 1 = a + 1 + k by omega,if_pos e1,e2,e3]
      exact ⟨rfl,rfl,rfl⟩
     ·rw [if_neg hg] at h0; exact absurd h0 hg
   ·rw [if_neg hb] at h0; cases h0
  | op =>
   show WinR k c (rd R (f + 1) .op a d) (rd R' (f + 1) .op (a + k) d)
   simp only [rd] at h0 hp ⊢
   have h1:=ih .gr (a + 1) d (hth rfl) (fun h => (by cases h))
   generalize rd R f .gr (a + 1) d = g at h0 hp h1 ⊢
   by_cases hg : g.r = 0
   ·rw [if_pos hg] at h0 hp ⊢
    by_cases c1 : R.is g.p [44] = true
    ·rw [if_pos c1] at h0 hp ⊢
     by_cases c2 : R.is (g.p + 1) [64] = true
     ·rw [if_pos c2] at h0 hp ⊢
      by_cases c3 : R.idn (g.p + 2) = true
      ·rw [if_pos c3] at h0 hp ⊢
       by_cases c4 : R.is (g.p + 3) [41] = true
       ·rw [if_pos c4] at h0 hp ⊢
        have hpe : (hld (eOpen (R.ps a) (R.wd (g.p + 2)) g.e) (g.p + 4) a).p = g.p + 4:=by
         rcases hld_p (eOpen (R.ps a) (R.wd (g.p + 2)) g.e) (g.p + 4) a with ⟨_,q2,_⟩ | ⟨q1,_⟩
         ·exact q2
         ·rw [q1] at h0; cases h0
        obtain ⟨e1,e2,e3⟩:=h1 hg (by omega)
        change (rd R' f .gr (a + 1 + k) d).r = 0 at e1
        change (rd R' f .gr (a + 1 + k) d).p = _ at e2
        change (rd R' f .gr (a + 1 + k) d).e = _ at e3
        rw [show a + k + 1 = a + 1 + k by omega,if_pos e1,e2,e3,hW.is (by omega),if_pos c1,show g.p + k + 1 = g.p + 1 + k by omega,hW.is (by omega),if_pos c2,show g.p + k + 2 = g.p + 2 + k by omega,hW.idn _ (by omega),if_pos c3,
         show g.p + k + 3 = g.p + 3 + k by omega,hW.is (by omega),if_pos c4,hW.wd _ (by omega),hW.ps a haN,← open_sh,show g.p + k + 4 = g.p + 4 + k by omega]
        exact win_hld h0
       ·rw [if_neg c4] at h0; cases h0
      ·rw [if_neg c3] at h0; cases h0
     ·rw [if_neg c2] at h0; cases h0
    ·rw [if_neg c1] at h0; cases h0
   ·rw [if_neg hg] at h0; exact absurd h0 hg
  | nm =>
   show WinR k c (rd R (f + 1) .nm a d) (rd R' (f + 1) .nm (a + k) d)
   simp only [rd] at h0 hp ⊢
   have hnl:=hR.name_lt ha
   by_cases hy : (R.name a).1 = true
   ·rw [if_pos hy] at h0 hp ⊢
    by_cases h40 : R.is (R.name a).2.2 [40] = true
    ·rw [if_pos h40] at h0 hp ⊢
     have i1:=rd_in hR f .ar (R.name a).2.2 d hnl.1 (fun _ => hR.is_lt h40)
     have h1:=ih .ar (R.name a).2.2 d hnl.1 (fun _ => hR.is_lt h40)
     generalize rd R f .ar (R.name a).2.2 d = g at h0 hp i1 h1 ⊢
     by_cases hg : g.r = 0
     ·rw [if_pos hg] at h0 hp ⊢
      have hpe : (hld (eCall (R.ps a) (R.name a).2.1 g.e.l) g.p a).p = g.p:=by
       rcases hld_p (eCall (R.ps a) (R.name a).2.1 g.e.l) g.p a with ⟨_,q2,_⟩ | ⟨q1,_⟩
       ·exact q2
       ·rw [q1] at h0; cases h0
      have hgN : g.p < N:=by omega
      obtain ⟨hnm,_⟩:=hW.name hy (by have:=i1.1; omega)
      obtain ⟨e1,e2,e3⟩:=h1 hg hgN
      change (rd R' f .ar ((R.name a).2.2 + k) d).r = 0 at e1
      change (rd R' f .ar ((R.name a).2.2 + k) d).p = _ at e2
      change (rd R' f .ar ((R.name a).2.2 + k) d).e.l = _ at e3
      rw [hnm]
      dsimp only
      rw [if_pos rfl,hW.is (by have:=i1.1; omega),if_pos h40,if_pos e1,e2,e3,hW.ps a haN,← call_sh]
      exact win_hld h0
     ·rw [if_neg hg] at h0; exact absurd h0 hg
    ·rw [if_neg h40] at h0 hp ⊢
     have hp : (R.name a).2.2 < N:=hp
     obtain ⟨hnm,_⟩:=hW.name hy hp
     rw [hnm]
     dsimp only
     rw [if_pos rfl,hW.is hp,if_neg h40,hW.ps a haN,← name_sh]
     exact ⟨rfl,rfl,rfl⟩
   ·rw [if_neg hy] at h0; cases h0
  | ar =>
   show WinM k c .ar (rd R (f + 1) .ar a d) (rd R' (f + 1) .ar (a + k) d)
   simp only [rd] at h0 hp ⊢
   by_cases hd : d = 32
   ·rw [if_pos hd] at h0; cases h0
   ·rw [if_neg hd] at h0 hp ⊢
    rw [if_neg hd]
    by_cases h1 : R.is (a + 1) [41] = true
    ·rw [if_pos h1] at h0 hp ⊢
     have hp : a + 2 < N:=hp
     rw [show a + k + 1 = a + 1 + k by omega,hW.is (by omega),if_pos h1,show a + k + 2 = a + 2 + k by omega]
     exact ⟨rfl,rfl,rfl⟩
    ·rw [if_neg h1] at h0 hp ⊢
     have i1:=rd_in hR f (.an []) (a + 1) (d + 1) (hth rfl) (fun h => (by cases h))
     rw [show a + k + 1 = a + 1 + k by omega,hW.is (by have:=i1.1; omega),if_neg h1]
     exact ih (.an []) (a + 1) (d + 1) (hth rfl) (fun h => (by cases h)) h0 hp
  | an acc =>
   show WinM k c (.an acc) (rd R (f + 1) (.an acc) a d) (rd R' (f + 1) (.an (acc.map (Ex.sh c))) (a + k) d)
   simp only [rd] at h0 hp ⊢
   have i1:=rd_in hR f (.lev 1) a d ha (fun h => (by cases h))
   have h1:=ih (.lev 1) a d ha (fun h => (by cases h))
   have h2:=fun k q hq => ih (.an k) q d hq (fun h => (by cases h))
   have i2:=fun k q hq => rd_in hR f (.an k) q d hq (fun h => (by cases h))
   generalize rd R f (.lev 1) a d = g at h0 hp i1 h1 ⊢
   by_cases hg : g.r = 0
   ·rw [if_pos hg] at h0 hp ⊢
    have he : acc.map (Ex.sh c) ++ [g.e.sh c] = (acc ++ [g.e]).map (Ex.sh c):=by rw [List.map_append]; rfl
    by_cases c1 : R.is g.p [44] = true
    ·rw [if_pos c1] at h0 hp ⊢
     obtain ⟨e1,e2,e3⟩:=h1 hg (by have:=(i2 (acc ++ [g.e]) (g.p + 1) (hR.is_lt c1)).1; omega)
     change (rd R' f (.lev 1) (a + k) d).r = 0 at e1
     change (rd R' f (.lev 1) (a + k) d).p = _ at e2
     change (rd R' f (.lev 1) (a + k) d).e = _ at e3
     rw [if_pos e1,e2,e3,hW.is (by have:=(i2 (acc ++ [g.e]) (g.p + 1) (hR.is_lt c1)).1; omega),if_pos c1,he,show g.p + k + 1 = g.p + 1 + k by omega]
     exact h2 (acc ++ [g.e]) (g.p + 1) (hR.is_lt c1) h0 hp
    ·rw [if_neg c1] at h0 hp ⊢
     by_cases c2 : R.is g.p [41] = true
     ·rw [if_pos c2] at h0 hp ⊢
      have hp : g.p + 1 < N:=hp
      obtain ⟨e1,e2,e3⟩:=h1 hg (by omega)
      change (rd R' f (.lev 1) (a + k) d).r = 0 at e1
      change (rd R' f (.lev 1) (a + k) d).p = _ at e2
      change (rd R' f (.lev 1) (a + k) d).e = _ at e3
      rw [if_pos e1,e2,e3,hW.is (by omega),if_neg c1,hW.is (by omega),if_pos c2,he,show g.p + k + 1 = g.p + 1 + k by omega]
      exact ⟨rfl,rfl,rfl⟩
     ·rw [if_neg c2] at h0; cases h0
   ·rw [if_neg hg] at h0; exact absurd h0 hg
end
def An.sh (c : Int) (x : An) : An:=⟨x.so,x.lk,x.lb,x.fr + c,x.to + c⟩
def St.sh (c : Int) : St → St
 | .mk k a nm ty an e l r => .mk k (a + c) nm ty (if k = 0 then an.sh c else an) (if k = 4 then e else e.sh c) (l.attach.map fun x => x.1.sh c) (r.attach.map fun x => x.1.sh c)
termination_by s => SizeOf.sizeOf s
decreasing_by
 ·exact St.lt_l x.2
 ·exact St.lt_r x.2
theorem St.sh_eq (c k a ty : Int) (nm : ByteArray) (an : An) (e : Ex) (l r : List St) : (St.mk k a nm ty an e l r).sh c = .mk k (a + c) nm ty (if k = 0 then an.sh c else an) (if k = 4 then e else e.sh c) (l.map (St.sh c)) (r.map (St.sh c)):=by
 rw [St.sh,List.attach_map_val (f:=St.sh c),List.attach_map_val (f:=St.sh c)]
theorem St.sh_setL (c : Int) (s : St) (l : List St) : (s.setL l).sh c = (s.sh c).setL (l.map (St.sh c)):=by
 cases s
 unfold St.setL St.k St.a St.nm St.ty St.an St.e St.r
 simp only [St.sh_eq]
theorem St.sh_setR (c : Int) (s : St) (l : List St) : (s.setR l).sh c = (s.sh c).setR (l.map (St.sh c)):=by
 cases s
 unfold St.setR St.k St.a St.nm St.ty St.an St.e St.l
 simp only [St.sh_eq]
theorem St.sh_k (c : Int) (s : St) : (s.sh c).k = s.k:=by cases s; rw [St.sh_eq]; rfl
section
variable {R R' : Rw} {k N : Nat} {c : Int}
theorem mu_win (hW : Win R R' k c N) {p q : Nat} {w : ByteArray} (hp : p < N) (h : mu R (p,0) [w] = (q,0)) : mu R' (p + k,0) [w] = (q + k,0) ∧ q = p + 1:=by
 unfold mu at h ⊢
 rw [if_pos rfl] at h ⊢
 change (if R.is p w.toList = true then _ else _) = _ at h
 show (if R'.is (p + k) w.toList = true then _ else _) = _ ∧ _
 rw [hW.is hp]
 by_cases hi : R.is p w.toList = true
 ·rw [if_pos hi] at h ⊢
  have h : (p + 1,(0 : Int)) = (q,0):=h
  injection h with h1 h2
  subst h1
  exact ⟨by show (p + k + 1,(0 : Int)) = _; rw [show p + k + 1 = p + 1 + k by omega],rfl⟩
 ·rw [if_neg hi] at h
  injection h with _ h2
  cases h2
theorem mu_split {p q : Nat} {r : Int} {a b : ByteArray} (h : mu R (p,r) [a,b] = (q,0)) : ∃ m,mu R (p,r) [a] = (m,0) ∧ mu R (m,0) [b] = (q,0):=by
 by_cases hr : r = 0
 ·subst hr
  by_cases hi : R.is p a.toList = true
  ·refine ⟨p + 1,?_,?_⟩
   ·unfold mu
    rw [if_pos rfl]
    show (if R.is p a.toList = true then _ else _) = _
    rw [if_pos hi]
    rfl
   ·have e : mu R (p,0) [a,b] = mu R (p + 1,0) [b]:=by
     unfold mu
     rw [if_pos rfl,if_pos rfl]
     show (if R.is p a.toList = true then _ else _) = _
     rw [if_pos hi]
    rw [← e]; exact h
  ·have e : mu R (p,0) [a,b] = (p,11):=by
    unfold mu
    rw [if_pos rfl]
    show (if R.is p a.toList = true then _ else _) = _
    rw [if_neg hi]
   rw [e] at h
   injection h with _ h2
   cases h2
 ·rw [muz_bad hr] at h
  injection h with _ h2
  exact absurd h2 hr
theorem mu_join {p q m : Nat} {a b : ByteArray} (h : mu R (p,0) [a] = (m,0)) (h' : mu R (m,0) [b] = (q,0)) : mu R (p,0) [a,b] = (q,0):=by
 by_cases hi : R.is p a.toList = true
 ·have e : mu R (p,0) [a,b] = mu R (p + 1,0) [b]:=by
   unfold mu
   rw [if_pos rfl,if_pos rfl]
   show (if R.is p a.toList = true then _ else _) = _
   rw [if_pos hi]
  have e2 : mu R (p,0) [a] = (p + 1,0):=by
   unfold mu
   rw [if_pos rfl]
   show (if R.is p a.toList = true then _ else _) = _
   rw [if_pos hi]
   rfl
  rw [e2] at h
  injection h with h1 _
  subst h1
  rw [e]; exact h'
 ·have e : mu R (p,0) [a] = (p,11):=by
   unfold mu
   rw [if_pos rfl]
   show (if R.is p a.toList = true then _ else _) = _
   rw [if_neg hi]
  rw [e] at h
  injection h with _ h2
  cases h2
theorem pnm_win (hW : Win R R' k c N) {p q : Nat} {v : ByteArray} (hp : p < N) (h : pnm R (p,0) = (v,q,0)) : pnm R' (p + k,0) = (v,q + k,0):=by
 unfold pnm nmS at h ⊢
 rw [if_pos rfl] at h ⊢
 dsimp only at h ⊢
 rw [hW.idn p hp,hW.wd p hp]
 by_cases hi : R.idn p = true
 ·rw [if_pos hi] at h ⊢
  injection h with h1 h2
  injection h2 with h2 _
  rw [h1,← h2,show p + k + 1 = p + 1 + k by omega]
 ·rw [if_neg hi] at h
  injection h with _ h2
  injection h2 with _ h2
  cases h2
theorem pty_win (hW : Win R R' k c N) {p q : Nat} {v : Int} (hp : p < N) (h : pty R (p,0) = (v,q,0)) : pty R' (p + k,0) = (v,q + k,0):=by
 unfold pty tyS at h ⊢
 rw [if_pos rfl] at h ⊢
 dsimp only at h ⊢
 rw [hW.is hp,hW.is hp]
 by_cases hi : R.is p lInt = true
 ·rw [if_pos hi] at h ⊢
  injection h with h1 h2
  injection h2 with h2 _
  rw [h1,← h2,show p + k + 1 = p + 1 + k by omega]
 ·rw [if_neg hi] at h ⊢
  by_cases hi : R.is p lBool = true
  ·rw [if_pos hi] at h ⊢
   injection h with h1 h2
   injection h2 with h2 _
   rw [h1,← h2,show p + k + 1 = p + 1 + k by omega]
  ·rw [if_neg hi] at h
   injection h with _ h2
   injection h2 with _ h2
   cases h2
theorem Win.en (hW : Win R R' k c N) {p : Nat} (h0 : 0 < p) (hp : p ≤ N) : R'.en (p + k) = R.en p + c:=by
 unfold Rw.en
 rw [if_neg (by omega),if_neg (by omega),show p + k - 1 = p - 1 + k by omega,hW.ps _ (by omega),hW.wd _ (by omega)]
 omega
theorem pmk_win (hW : Win R R' k c N) {p q : Nat} {v : An} (h0 : 0 < p) (hq : q < N) (h : pmk R (p,0) = (v,q,0)) : pmk R' (p + k,0) = (v.sh c,q + k,0):=by
 unfold pmk markS at h ⊢
 rw [if_pos rfl] at h ⊢
 dsimp only at h ⊢
 have hpq : p ≤ q:=by
  split at h
  ·split at h
   ·injection h with _ h2
    injection h2 with h2 _
    omega
   ·injection h with _ h2
    injection h2 with _ h2
    cases h2
  ·injection h with _ h2
   injection h2 with h2 _
   omega
 rw [hW.is (by omega),hW.is (by omega)]
 by_cases ha : (R.is p [64,61] || R.is p [64]) = true
 ·rw [if_pos ha] at h ⊢
  by_cases hi : R.idn (p + 1) = true
  ·rw [if_pos hi] at h
   injection h with h1 h2
   injection h2 with h2 _
   rw [show p + k + 1 = p + 1 + k by omega,hW.idn _ (by omega),if_pos hi,hW.wd _ (by omega),hW.ps _ (by omega),show p + k + 2 = p + 2 + k by omega,hW.en (by omega) (by omega),← h1,← h2]
   rfl
  ·rw [if_neg hi] at h
   injection h with _ h2
   injection h2 with _ h2
   cases h2
 ·rw [if_neg ha] at h ⊢
  injection h with h1 h2
  injection h2 with h2 _
  rw [hW.en h0 (by omega),← h1,← h2]
  rfl
theorem pex_win (hR : R.Ok) (hW : Win R R' k c N) {F p q : Nat} {v : Ex} (hn : p ≤ R.n) (hq : q < N) (h : pex R F (p,0) = (v,q,0)) : pex R' F (p + k,0) = (v.sh c,q + k,0):=by
 unfold pex exS at h ⊢
 rw [if_pos rfl] at h ⊢
 dsimp only at h ⊢
 injection h with h1 h2
 injection h2 with h2 h3
 obtain ⟨e1,e2,e3⟩:=rd_win hR hW F (.lev 1) p 0 hn (fun h => (by cases h)) h3 (by rw [h2]; exact hq)
 change (rd R' F (.lev 1) (p + k) 0).r = 0 at e1
 change (rd R' F (.lev 1) (p + k) 0).p = _ at e2
 change (rd R' F (.lev 1) (p + k) 0).e = _ at e3
 rw [e1,e2,e3,h1,h2]
theorem let_inv (hR : R.Ok) {F p : Nat} {a : Int} (hp : p ≤ R.n) (h : (letS R F a (p,0)).2.2 = 0) :
  ∃ q1 v2 q2 q3 v4 q4 v5 q5 q6 v7 q7 q8,mu R (p,0) [wLet] = (q1,0) ∧ pnm R (q1,0) = (v2,q2,0) ∧ mu R (q2,0) [wCol] = (q3,0) ∧ pty R (q3,0) = (v4,q4,0) ∧ pmk R (q4,0) = (v5,q5,0) ∧ mu R (q5,0) [wEq] = (q6,0) ∧ pex R F (q6,0) = (v7,q7,0) ∧ mu R (q7,0) [wSem] = (q8,0) ∧
   letS R F a (p,0) = (.mk 0 a v2 v4 v5 v7 [] [],q8,0) ∧ p < q1 ∧ q1 < q2 ∧ q2 < q3 ∧ q3 < q4 ∧ q4 ≤ q5 ∧ q5 < q6 ∧ q6 ≤ q7 ∧ q7 < q8 ∧ q8 ≤ R.n:=by
 unfold letS at h ⊢
 dsimp only at h ⊢
 obtain ⟨q1,r1,e1⟩ : ∃ q r,mu R (p,0) [wLet] = (q,r):=⟨_,_,rfl⟩
 rw [e1] at h ⊢
 obtain ⟨v2,q2,r2,e2⟩ : ∃ v q r,pnm R (q1,r1) = (v,q,r):=⟨_,_,_,rfl⟩
 rw [e2] at h ⊢
 dsimp only at h ⊢
 obtain ⟨q3,r3,e3⟩ : ∃ q r,mu R (q2,r2) [wCol] = (q,r):=⟨_,_,rfl⟩
 rw [e3] at h ⊢
 obtain ⟨v4,q4,r4,e4⟩ : ∃ v q r,pty R (q3,r3) = (v,q,r):=⟨_,_,_,rfl⟩
 rw [e4] at h ⊢
 dsimp only at h ⊢
 obtain ⟨v5,q5,r5,e5⟩ : ∃ v q r,pmk R (q4,r4) = (v,q,r):=⟨_,_,_,rfl⟩
 rw [e5] at h ⊢
 dsimp only at h ⊢
 obtain ⟨q6,r6,e6⟩ : ∃ q r,mu R (q5,r5) [wEq] = (q,r):=⟨_,_,rfl⟩
 rw [e6] at h ⊢
 obtain ⟨v7,q7,r7,e7⟩ : ∃ v q r,pex R F (q6,r6) = (v,q,r):=⟨_,_,_,rfl⟩
 rw [e7] at h ⊢
 dsimp only at h ⊢
 obtain ⟨q8,r8,e8⟩ : ∃ q r,mu R (q7,r7) [wSem] = (q,r):=⟨_,_,rfl⟩
 rw [e8] at h ⊢
 have u1:=mw (R:=R) (x:=(p,0)) hR 108 [101,116] hp
 change Up R 1 (p,0) (mu R (p,0) [wLet]) at u1
 rw [e1] at u1
 have u2:=pnm_up hR u1.n
 rw [e2] at u2
 have u3:=mw hR 58 [] u2.n
 change Up R 1 (q2,r2) (mu R (q2,r2) [wCol]) at u3
 rw [e3] at u3
 have u4:=pty_up hR u3.n
 rw [e4] at u4
 have u5:=pmk_up hR u4.n
 rw [e5] at u5
 have u6:=mw hR 61 [] u5.n
 change Up R 1 (q5,r5) (mu R (q5,r5) [wEq]) at u6
 rw [e6] at u6
 have u7:=pex_up hR F u6.n
 rw [e7] at u7
 have u8:=mw hR 59 [] u7.n
 change Up R 1 (q7,r7) (mu R (q7,r7) [wSem]) at u8
 rw [e8] at u8
 obtain ⟨z7,l7⟩:=u8.st h
 obtain ⟨z6,l6⟩:=u7.st z7
 obtain ⟨z5,l5⟩:=u6.st z6
 obtain ⟨z4,l4⟩:=u5.st z5
 obtain ⟨z3,l3⟩:=u4.st z4
 obtain ⟨z2,l2⟩:=u3.st z3
 obtain ⟨z1,l1⟩:=u2.st z2
 obtain ⟨_,l0⟩:=u1.st z1
 have n8:=u8.n
 clear u1 u2 u3 u4 u5 u6 u7 u8
 dsimp only at *
 subst h z7 z6 z5 z4 z3 z2 z1
 exact ⟨q1,v2,q2,q3,v4,q4,v5,q5,q6,v7,q7,q8,rfl,e2,e3,e4,e5,e6,e7,e8,rfl,by omega,by omega,by omega,by omega,by omega,by omega,by omega,by omega,n8⟩
theorem ask_inv (hR : R.Ok) {F p : Nat} {kk a : Int} {x : UInt8} {t : List UInt8} (hp : p ≤ R.n) (h : (askS R F kk a ⟨(x :: t).toArray⟩ (p,0)).2.2 = 0) :
  ∃ q0 q1 v2 q2 q3,mu R (p,0) [⟨(x :: t).toArray⟩] = (q0,0) ∧ mu R (q0,0) [wPar] = (q1,0) ∧ pex R F (q1,0) = (v2,q2,0) ∧ mu R (q2,0) [wRap] = (q3,0) ∧
   askS R F kk a ⟨(x :: t).toArray⟩ (p,0) = (.mk kk a ⟨#[]⟩ 0 An.nul v2 [] [],q3,0) ∧ p < q0 ∧ q0 < q1 ∧ q1 ≤ q2 ∧ q2 < q3 ∧ q3 ≤ R.n:=by
 unfold askS at h ⊢
 dsimp only at h ⊢
 obtain ⟨q1,r1,e1⟩ : ∃ q r,mu R (p,0) [⟨(x :: t).toArray⟩,wPar] = (q,r):=⟨_,_,rfl⟩
 rw [e1] at h ⊢
 obtain ⟨v2,q2,r2,e2⟩ : ∃ v q r,pex R F (q1,r1) = (v,q,r):=⟨_,_,_,rfl⟩
 rw [e2] at h ⊢
 dsimp only at h ⊢
 obtain ⟨q3,r3,e3⟩ : ∃ q r,mu R (q2,r2) [wRap] = (q,r):=⟨_,_,rfl⟩
 rw [e3] at h ⊢
 have u1:=mu_up (R:=R) hR [⟨(x :: t).toArray⟩,wPar] (fun s hs => by
   rcases List.mem_cons.1 hs with e | hs
   ·exact ⟨x,t,by rw [e,wd1]⟩
   ·exact ⟨40,[],by rw [List.mem_singleton.1 hs]; exact wd1 40 []⟩) (p,0) hp
 rw [e1] at u1
 have u2:=pex_up hR F u1.n
 rw [e2] at u2
 have u3:=mw hR 41 [] u2.n
 change Up R 1 (q2,r2) (mu R (q2,r2) [wRap]) at u3
 rw [e3] at u3
 obtain ⟨z2,l2⟩:=u3.st h
 obtain ⟨z1,l1⟩:=u2.st z2
 have n3:=u3.n
 have n1:=u1.n
 clear u2 u3
 dsimp only at *
 subst h z2 z1
 obtain ⟨q0,f1,f2⟩:=mu_split e1
 have v1:=mw (R:=R) (x:=(p,0)) hR x t hp
 rw [f1] at v1
 have v2':=mw (R:=R) (x:=(q0,0)) hR 40 [] v1.n
 change Up R 1 (q0,0) (mu R (q0,0) [wPar]) at v2'
 rw [f2] at v2'
 have l3:=(v1.st rfl).2
 have l4:=(v2'.st rfl).2
 dsimp only at l3 l4
 exact ⟨q0,q1,v2,q2,q3,f1,f2,e2,e3,rfl,by omega,by omega,by omega,by omega,n3⟩
theorem do_inv (hR : R.Ok) {p : Nat} {a : Int} (hp : p ≤ R.n) (h : (doS R a (p,0)).2.2 = 0) :
  ∃ q1 v2 q2 q3,mu R (p,0) [wDo] = (q1,0) ∧ pnm R (q1,0) = (v2,q2,0) ∧ mu R (q2,0) [wSem] = (q3,0) ∧
   doS R a (p,0) = (.mk 4 a v2 0 An.nul Ex.nul [] [],q3,0) ∧ p < q1 ∧ q1 < q2 ∧ q2 < q3 ∧ q3 ≤ R.n:=by
 unfold doS at h ⊢
 dsimp only at h ⊢
 obtain ⟨q1,r1,e1⟩ : ∃ q r,mu R (p,0) [wDo] = (q,r):=⟨_,_,rfl⟩
 rw [e1] at h ⊢
 obtain ⟨v2,q2,r2,e2⟩ : ∃ v q r,pnm R (q1,r1) = (v,q,r):=⟨_,_,_,rfl⟩
 rw [e2] at h ⊢
 dsimp only at h ⊢
 obtain ⟨q3,r3,e3⟩ : ∃ q r,mu R (q2,r2) [wSem] = (q,r):=⟨_,_,rfl⟩
 rw [e3] at h ⊢
 have u1:=mw (R:=R) (x:=(p,0)) hR 100 [111] hp
 change Up R 1 (p,0) (mu R (p,0) [wDo]) at u1
 rw [e1] at u1
 have u2:=pnm_up hR u1.n
 rw [e2] at u2
 have u3:=mw hR 59 [] u2.n
 change Up R 1 (q2,r2) (mu R (q2,r2) [wSem]) at u3
 rw [e3] at u3
 obtain ⟨z2,l2⟩:=u3.st h
 obtain ⟨z1,l1⟩:=u2.st z2
 obtain ⟨_,l0⟩:=u1.st z1
 have n3:=u3.n
 clear u1 u2 u3
 dsimp only at *
 subst h z2 z1
 exact ⟨q1,v2,q2,q3,rfl,e2,e3,rfl,by omega,by omega,by omega,n3⟩
theorem pl_inv (hR : R.Ok) {F p : Nat} {a : Int} (hp : p ≤ R.n) (h : (plS R F a (p,0)).2.2 = 0) :
  ∃ v1 q1 q2,pex R F (p,0) = (v1,q1,0) ∧ p ≤ q1 ∧ q1 < q2 ∧
   ((v1.k = 2 ∧ ∃ v3 q3 q4,mu R (q1,0) [wEq] = (q2,0) ∧ pex R F (q2,0) = (v3,q3,0) ∧ mu R (q3,0) [wSem] = (q4,0) ∧ plS R F a (p,0) = (.mk 1 a v1.nm 0 An.nul v3 [] [],q4,0) ∧ q2 ≤ q3 ∧ q3 < q4 ∧ q4 ≤ R.n) ∨
    (¬ v1.k = 2 ∧ v1.k = 3 ∧ mu R (q1,0) [wSem] = (q2,0) ∧ plS R F a (p,0) = (.mk 5 a ⟨#[]⟩ 0 An.nul v1 [] [],q2,0) ∧ q2 ≤ R.n)):=by
 unfold plS at h ⊢
 dsimp only at h ⊢
 obtain ⟨v1,q1,r1,e1⟩ : ∃ v q r,pex R F (p,0) = (v,q,r):=⟨_,_,_,rfl⟩
 rw [e1] at h ⊢
 dsimp only at h ⊢
 have u1:=pex_up (R:=R) (x:=(p,0)) hR F hp
 rw [e1] at u1
 have n1:=u1.n
 have l1:=u1.le
 dsimp only at n1 l1
 by_cases hr : r1 = 0
 ·subst hr
  rw [if_pos rfl] at h ⊢
  by_cases h2 : v1.k = 2
  ·rw [if_pos h2] at h ⊢
   obtain ⟨q2,r2,e2⟩ : ∃ q r,mu R (q1,0) [wEq] = (q,r):=⟨_,_,rfl⟩
   rw [e2] at h ⊢
   obtain ⟨v3,q3,r3,e3⟩ : ∃ v q r,pex R F (q2,r2) = (v,q,r):=⟨_,_,_,rfl⟩
   rw [e3] at h ⊢
   dsimp only at h ⊢
   obtain ⟨q4,r4,e4⟩ : ∃ q r,mu R (q3,r3) [wSem] = (q,r):=⟨_,_,rfl⟩
   rw [e4] at h ⊢
   have u2:=mw (R:=R) (x:=(q1,0)) hR 61 [] n1
   change Up R 1 (q1,0) (mu R (q1,0) [wEq]) at u2
   rw [e2] at u2
   have u3:=pex_up hR F u2.n
   rw [e3] at u3
   have u4:=mw hR 59 [] u3.n
   change Up R 1 (q3,r3) (mu R (q3,r3) [wSem]) at u4
   rw [e4] at u4
   obtain ⟨z3,l3⟩:=u4.st h
   obtain ⟨z2,l2⟩:=u3.st z3
   obtain ⟨_,l0⟩:=u2.st z2
   have n4:=u4.n
   clear u1 u2 u3 u4
   dsimp only at *
   subst h z3 z2
   exact ⟨v1,q1,q2,rfl,l1,by omega,.inl ⟨h2,v3,q3,q4,e2,e3,e4,rfl,by omega,by omega,n4⟩⟩
  ·rw [if_neg h2] at h ⊢
   by_cases h3 : v1.k = 3
   ·rw [if_pos h3] at h ⊢
    obtain ⟨q2,r2,e2⟩ : ∃ q r,mu R (q1,0) [wSem] = (q,r):=⟨_,_,rfl⟩
    rw [e2] at h ⊢
    have u2:=mw (R:=R) (x:=(q1,0)) hR 59 [] n1
    change Up R 1 (q1,0) (mu R (q1,0) [wSem]) at u2
    rw [e2] at u2
    obtain ⟨_,l0⟩:=u2.st h
    have n2:=u2.n
    dsimp only at *
    subst h
    exact ⟨v1,q1,q2,rfl,l1,by omega,.inr ⟨h2,h3,e2,rfl,n2⟩⟩
   ·rw [if_neg h3] at h
    cases h
 ·rw [if_neg hr] at h
  exact absurd h hr
theorem let_win (hR : R.Ok) (hW : Win R R' k c N) {F p : Nat} {a : Int} (hp : p ≤ R.n) (h : (letS R F a (p,0)).2.2 = 0) (hN : (letS R F a (p,0)).2.1 ≤ N) :
  letS R' F (a + c) (p + k,0) = ((letS R F a (p,0)).1.sh c,(letS R F a (p,0)).2.1 + k,0):=by
 obtain ⟨q1,v2,q2,q3,v4,q4,v5,q5,q6,v7,q7,q8,e1,e2,e3,e4,e5,e6,e7,e8,e9,l1,l2,l3,l4,l5,l6,l7,l8,l9⟩:=let_inv hR hp h
 rw [e9] at hN ⊢
 dsimp only at hN ⊢
 unfold letS
 rw [(mu_win hW (by omega) e1).1,pnm_win hW (by omega) e2]
 dsimp only
 rw [(mu_win hW (by omega) e3).1,pty_win hW (by omega) e4]
 dsimp only
 rw [pmk_win hW (by omega) (by omega) e5]
 dsimp only
 rw [(mu_win hW (by omega) e6).1,pex_win hR hW (by omega) (by omega) e7]
 dsimp only
 rw [(mu_win hW (by omega) e8).1,St.sh_eq]
 rfl
theorem ask_win (hR : R.Ok) (hW : Win R R' k c N) {F p : Nat} {kk a : Int} {x : UInt8} {t : List UInt8} (hk : kk = 2 ∨ kk = 3) (hp : p ≤ R.n) (h : (askS R F kk a ⟨(x :: t).toArray⟩ (p,0)).2.2 = 0) (hN : (askS R F kk a ⟨(x :: t).toArray⟩ (p,0)).2.1 ≤ N) :
  askS R' F kk (a + c) ⟨(x :: t).toArray⟩ (p + k,0) = ((askS R F kk a ⟨(x :: t).toArray⟩ (p,0)).1.sh c,(askS R F kk a ⟨(x :: t).toArray⟩ (p,0)).2.1 + k,0):=by
 obtain ⟨q0,q1,v2,q2,q3,e0,e1,e2,e3,e4,l0,l1,l2,l3,l4⟩:=ask_inv hR hp h
 rw [e4] at hN ⊢
 dsimp only at hN ⊢
 unfold askS
 rw [mu_join (mu_win hW (by omega) e0).1 (mu_win hW (by omega) e1).1,pex_win hR hW (by omega) (by omega) e2]
 dsimp only
 rw [(mu_win hW (by omega) e3).1,St.sh_eq,if_neg (by omega),if_neg (by omega)]
 rfl
theorem do_win (hR : R.Ok) (hW : Win R R' k c N) {p : Nat} {a : Int} (hp : p ≤ R.n) (h : (doS R a (p,0)).2.2 = 0) (hN : (doS R a (p,0)).2.1 ≤ N) :
  doS R' (a + c) (p + k,0) = ((doS R a (p,0)).1.sh c,(doS R a (p,0)).2.1 + k,0):=by
 obtain ⟨q1,v2,q2,q3,e1,e2,e3,e4,l1,l2,l3,l4⟩:=do_inv hR hp h
 rw [e4] at hN ⊢
 dsimp only at hN ⊢
 unfold doS
 rw [(mu_win hW (by omega) e1).1,pnm_win hW (by omega) e2]
 dsimp only
 rw [(mu_win hW (by omega) e3).1,St.sh_eq]
 rfl
theorem Ex.sh_k (c : Int) (e : Ex) : (e.sh c).k = e.k:=by cases e; rw [Ex.sh_eq]; rfl
theorem Ex.sh_nm (c : Int) (e : Ex) : (e.sh c).nm = e.nm:=by cases e; rw [Ex.sh_eq]; rfl
theorem pl_win (hR : R.Ok) (hW : Win R R' k c N) {F p : Nat} {a : Int} (hp : p ≤ R.n) (h : (plS R F a (p,0)).2.2 = 0) (hN : (plS R F a (p,0)).2.1 ≤ N) :
  plS R' F (a + c) (p + k,0) = ((plS R F a (p,0)).1.sh c,(plS R F a (p,0)).2.1 + k,0):=by
 obtain ⟨v1,q1,q2,e1,l1,l2,⟨h2,v3,q3,q4,e2,e3,e4,e5,l3,l4,l5⟩ | ⟨h2,h3,e2,e5,l3⟩⟩:=pl_inv hR hp h
 ·rw [e5] at hN ⊢
  dsimp only at hN ⊢
  unfold plS
  rw [pex_win hR hW hp (by omega) e1]
  dsimp only
  rw [if_pos rfl,if_pos (by rw [Ex.sh_k]; exact h2),(mu_win hW (by omega) e2).1,pex_win hR hW (by omega) (by omega) e3]
  dsimp only
  rw [(mu_win hW (by omega) e4).1,St.sh_eq,Ex.sh_nm]
  rfl
 ·rw [e5] at hN ⊢
  dsimp only at hN ⊢
  unfold plS
  rw [pex_win hR hW hp (by omega) e1]
  dsimp only
  rw [if_pos rfl,if_neg (by rw [Ex.sh_k]; exact h2),if_pos (by rw [Ex.sh_k]; exact h3),(mu_win hW (by omega) e2).1,St.sh_eq]
  rfl
theorem hd_win (hR : R.Ok) (hW : Win R R' k c N) {F p : Nat} (hp : p ≤ R.n) (h : (hdS R F p).2.2 = 0) (hN : (hdS R F p).2.1 ≤ N) :
  hdS R' F (p + k) = ((hdS R F p).1.sh c,(hdS R F p).2.1 + k,0):=by
 have hlt : p < N:=by have:=(hdS_up hR F hp).st h; dsimp only at this; omega
 unfold hdS at h hN ⊢
 simp only [hW.is hlt,hW.ps p hlt]
 by_cases c1 : R.is p lLet = true
 ·rw [if_pos c1] at h hN ⊢
  rw [if_pos c1]
  exact let_win hR hW hp h hN
 ·rw [if_neg c1] at h hN ⊢
  rw [if_neg c1]
  by_cases c2 : R.is p lIf = true
  ·rw [if_pos c2] at h hN ⊢
   rw [if_pos c2]
   exact ask_win hR hW (.inl rfl) hp h hN
  ·rw [if_neg c2] at h hN ⊢
   rw [if_neg c2]
   by_cases c3 : R.is p lWhile = true
   ·rw [if_pos c3] at h hN ⊢
    rw [if_pos c3]
    exact ask_win hR hW (.inr rfl) hp h hN
   ·rw [if_neg c3] at h hN ⊢
    rw [if_neg c3]
    by_cases c4 : R.is p lDo = true
    ·rw [if_pos c4] at h hN ⊢
     rw [if_pos c4]
     exact do_win hR hW hp h hN
    ·rw [if_neg c4] at h hN ⊢
     rw [if_neg c4]
     exact pl_win hR hW hp h hN
end
section
variable {R R' : Rw} {F k N : Nat} {c : Int}
def Ms.strict : Ms → Bool
 | .row _ => false
 | _ => true
theorem rs_in (hR : R.Ok) : ∀ (f : Nat) (m : Ms) (p : Nat) (d : Int),p ≤ R.n → (rs R F f m p d).r = 0 → p ≤ (rs R F f m p d).p ∧ (rs R F f m p d).p ≤ R.n ∧ (m.strict = true → p < (rs R F f m p d).p):=by
 intro f
 induction f with
 | zero =>
  intro m p d hp h
  have : rs R F 0 m p d = bads p 99:=by cases m <;> rfl
  rw [this] at h; cases h
 | succ f ih =>
  intro m p d hp h
  cases m with
  | row acc =>
   rw [rs_row] at h ⊢
   by_cases he : endsB R p = true
   ·rw [if_pos he]; exact ⟨Nat.le_refl _,hp,fun h => (by cases h)⟩
   ·rw [if_neg he] at h ⊢
    have h1:=ih .st p d hp
    have h2:=fun acc q hq => ih (.row acc) q d hq
    generalize rs R F f .st p d = g at h h1 ⊢
    by_cases h0 : g.r = 0
    ·rw [if_pos h0] at h ⊢
     obtain ⟨a1,a2,a3⟩:=h1 h0
     obtain ⟨b1,b2,b3⟩:=h2 (acc ++ [g.s]) g.p a2 h
     exact ⟨by omega,b2,fun h => (by cases h)⟩
    ·rw [if_neg h0] at h; exact absurd h h0
  | blk =>
   rw [rs_blk] at h ⊢
   by_cases hb : R.is p [123] = true
   ·rw [if_pos hb] at h ⊢
    by_cases h32 : 32 ≤ d
    ·rw [if_pos h32] at h; cases h
    ·rw [if_neg h32] at h ⊢
     have h1:=ih (.row []) (p + 1) (d + 1) (hR.is_lt hb)
     generalize rs R F f (.row []) (p + 1) (d + 1) = g at h h1 ⊢
     by_cases h0 : g.r = 0
     ·rw [if_pos h0] at h ⊢
      obtain ⟨a1,a2,a3⟩:=h1 h0
      by_cases hk : R.is g.p [125] = true
      ·rw [if_pos hk]
       have:=hR.is_lt hk
       exact ⟨by show p ≤ g.p + 1; omega,this,fun _ => by show p < g.p + 1; omega⟩
      ·rw [if_neg hk] at h; cases h
     ·rw [if_neg h0] at h; exact absurd h h0
   ·rw [if_neg hb] at h; cases h
  | st =>
   rw [rs_st] at h ⊢
   have hu:=hdS_up hR F hp
   by_cases hr : (hdS R F p).2.2 = 0
   ·rw [if_pos hr] at h ⊢
    have hl : p + 1 ≤ (hdS R F p).2.1:=(hu.st hr).2
    have hn : (hdS R F p).2.1 ≤ R.n:=hu.n
    by_cases hk : (hdS R F p).1.k = 2 ∨ (hdS R F p).1.k = 3
    ·rw [if_pos hk] at h ⊢
     have h1:=ih .blk (hdS R F p).2.1 d hn
     have h2:=fun q hq => ih .blk q d hq
     generalize rs R F f .blk (hdS R F p).2.1 d = g at h h1 ⊢
     by_cases h0 : g.r = 0
     ·rw [if_pos h0] at h ⊢
      obtain ⟨a1,a2,a3⟩:=h1 h0
      by_cases he : (hdS R F p).1.k = 2 ∧ R.is g.p lElse = true
      ·rw [if_pos he] at h ⊢
       have h3:=h2 (g.p + 1) (hR.is_lt he.2)
       generalize rs R F f .blk (g.p + 1) d = g2 at h h3 ⊢
       by_cases h00 : g2.r = 0
       ·rw [if_pos h00]
        obtain ⟨b1,b2,b3⟩:=h3 h00
        exact ⟨by show p ≤ g2.p; omega,b2,fun _ => by show p < g2.p; omega⟩
       ·rw [if_neg h00] at h; exact absurd h h00
      ·rw [if_neg he]
       exact ⟨by show p ≤ g.p; omega,a2,fun _ => by show p < g.p; omega⟩
     ·rw [if_neg h0] at h; exact absurd h h0
    ·rw [if_neg hk]
     exact ⟨by show p ≤ (hdS R F p).2.1; omega,hn,fun _ => hl⟩
   ·rw [if_neg hr] at h; exact absurd h hr
def Ms.sh (c : Int) : Ms → Ms
 | .row acc => .row (acc.map (St.sh c))
 | m => m
def WinS (k : Nat) (c : Int) (m : Ms) (g g' : Gs) : Prop:=g'.r = 0 ∧ g'.p = g.p + k ∧ match m with
 | .st => g'.s = g.s.sh c
 | _ => g'.l = g.l.map (St.sh c)
def Ms.within (N p : Nat) : Ms → Prop
 | .row _ => p < N
 | _ => p ≤ N
theorem rs_win (hR : R.Ok) (hW : Win R R' k c N) (hE : R'.is (N + k) lElse = R.is N lElse) (hX : ∀ i,i < N → endsB R' (i + k) = endsB R i) : ∀ (f : Nat) (m : Ms) (p : Nat) (d : Int),p ≤ R.n → (rs R F f m p d).r = 0 → m.within N (rs R F f m p d).p → WinS k c m (rs R F f m p d) (rs R' F f (m.sh c) (p + k) d):=by
 intro f
 have hE' : ∀ i,i ≤ N → R'.is (i + k) lElse = R.is i lElse:=fun i hi => by
  rcases Nat.lt_or_ge i N with h | h
  ·exact hW.is h lElse
  ·rw [show i = N by omega]; exact hE
 induction f with
 | zero =>
  intro m p d hp h
  have : rs R F 0 m p d = bads p 99:=by cases m <;> rfl
  rw [this] at h; cases h
 | succ f ih =>
  intro m p d hp h hN
  have hin:=rs_in (F:=F) hR (f + 1) m p d hp h
  cases m with
  | row acc =>
   show WinS k c (.row acc) (rs R F (f + 1) (.row acc) p d) (rs R' F (f + 1) (.row (acc.map (St.sh c))) (p + k) d)
   have hN : (rs R F (f + 1) (.row acc) p d).p < N:=hN
   have hpN : p < N:=by omega
   rw [rs_row] at h hN ⊢
   rw [rs_row,hX p hpN]
   by_cases he : endsB R p = true
   ·rw [if_pos he,if_pos he]; exact ⟨rfl,rfl,rfl⟩
   ·rw [if_neg he] at h hN ⊢
    rw [if_neg he]
    have i1:=rs_in (F:=F) hR f .st p d hp
    have i2:=fun acc q hq => rs_in (F:=F) hR f (.row acc) q d hq
    have h1:=ih .st p d hp
    have h2:=fun acc q hq => ih (.row acc) q d hq
    generalize rs R F f .st p d = g at h hN i1 h1 ⊢
    by_cases h0 : g.r = 0
    ·rw [if_pos h0] at h hN ⊢
     obtain ⟨a1,a2,a3⟩:=i1 h0
     have:=(i2 (acc ++ [g.s]) g.p a2 h).1
     obtain ⟨e1,e2,e3⟩:=h1 h0 (show g.p ≤ N by omega)
     change (rs R' F f .st (p + k) d).r = 0 at e1
     change (rs R' F f .st (p + k) d).p = _ at e2
     change (rs R' F f .st (p + k) d).s = _ at e3
     rw [if_pos e1,e2,e3]
     have:=h2 (acc ++ [g.s]) g.p a2 h hN
     have he : (acc ++ [g.s]).map (St.sh c) = acc.map (St.sh c) ++ [g.s.sh c]:=by rw [List.map_append]; rfl
     unfold Ms.sh at this
     dsimp only at this
     rw [he] at this
     exact this
    ·rw [if_neg h0] at h; exact absurd h h0
  | blk =>
   show WinS k c .blk (rs R F (f + 1) .blk p d) (rs R' F (f + 1) .blk (p + k) d)
   have hN : (rs R F (f + 1) .blk p d).p ≤ N:=hN
   have hpN : p < N:=by have:=hin.2.2 rfl; omega
   rw [rs_blk] at h hN ⊢
   rw [rs_blk,hW.is hpN]
   by_cases hb : R.is p [123] = true
   ·rw [if_pos hb] at h hN ⊢
    rw [if_pos hb]
    by_cases h32 : 32 ≤ d
    ·rw [if_pos h32] at h; cases h
    ·rw [if_neg h32] at h hN ⊢
     rw [if_neg h32]
     have h1:=ih (.row []) (p + 1) (d + 1) (hR.is_lt hb)
     generalize rs R F f (.row []) (p + 1) (d + 1) = g at h hN h1 ⊢
     by_cases h0 : g.r = 0
     ·rw [if_pos h0] at h hN ⊢
      by_cases hk : R.is g.p [125] = true
      ·rw [if_pos hk] at hN ⊢
       have hN : g.p + 1 ≤ N:=hN
       obtain ⟨e1,e2,e3⟩:=h1 h0 (show g.p < N by omega)
       change (rs R' F f (.row []) (p + 1 + k) (d + 1)).r = 0 at e1
       change (rs R' F f (.row []) (p + 1 + k) (d + 1)).p = _ at e2
       change (rs R' F f (.row []) (p + 1 + k) (d + 1)).l = _ at e3
       rw [show p + k + 1 = p + 1 + k by omega,if_pos e1,e2,e3,hW.is (by omega),if_pos hk,show g.p + k + 1 = g.p + 1 + k by omega]
       exact ⟨rfl,rfl,rfl⟩
      ·rw [if_neg hk] at h; cases h
     ·rw [if_neg h0] at h; exact absurd h h0
   ·rw [if_neg hb] at h; cases h
  | st =>
   show WinS k c .st (rs R F (f + 1) .st p d) (rs R' F (f + 1) .st (p + k) d)
   have hN : (rs R F (f + 1) .st p d).p ≤ N:=hN
   rw [rs_st] at h hN ⊢
   rw [rs_st]
   have hu:=hdS_up hR F hp
   by_cases hr : (hdS R F p).2.2 = 0
   ·rw [if_pos hr] at h hN ⊢
    have hl : p + 1 ≤ (hdS R F p).2.1:=(hu.st hr).2
    have hn : (hdS R F p).2.1 ≤ R.n:=hu.n
    have hw:=hd_win hR hW (F:=F) hp hr
    by_cases hk : (hdS R F p).1.k = 2 ∨ (hdS R F p).1.k = 3
    ·rw [if_pos hk] at h hN ⊢
     have i1:=rs_in (F:=F) hR f .blk (hdS R F p).2.1 d hn
     have i2:=fun q hq => rs_in (F:=F) hR f .blk q d hq
     have h1:=ih .blk (hdS R F p).2.1 d hn
     have h2:=fun q hq => ih .blk q d hq
     generalize rs R F f .blk (hdS R F p).2.1 d = g at h hN i1 h1 ⊢
     by_cases h0 : g.r = 0
     ·rw [if_pos h0] at h hN ⊢
      obtain ⟨a1,a2,a3⟩:=i1 h0
      by_cases he : (hdS R F p).1.k = 2 ∧ R.is g.p lElse = true
      ·rw [if_pos he] at h hN ⊢
       have i3:=i2 (g.p + 1) (hR.is_lt he.2)
       have h3:=h2 (g.p + 1) (hR.is_lt he.2)
       generalize rs R F f .blk (g.p + 1) d = g2 at h hN i3 h3 ⊢
       by_cases h00 : g2.r = 0
       ·rw [if_pos h00] at hN ⊢
        have hN : g2.p ≤ N:=hN
        obtain ⟨b1,b2,b3⟩:=i3 h00
        obtain ⟨e1,e2,e3⟩:=h1 h0 (show g.p ≤ N by omega)
        obtain ⟨f1,f2,f3⟩:=h3 h00 hN
        have hw:=hw (by omega)
        change (rs R' F f .blk ((hdS R F p).2.1 + k) d).r = 0 at e1
        change (rs R' F f .blk ((hdS R F p).2.1 + k) d).p = _ at e2
        change (rs R' F f .blk ((hdS R F p).2.1 + k) d).l = _ at e3
        change (rs R' F f .blk (g.p + 1 + k) d).r = 0 at f1
        change (rs R' F f .blk (g.p + 1 + k) d).p = _ at f2
        change (rs R' F f .blk (g.p + 1 + k) d).l = _ at f3
        rw [hw]
        dsimp only
        rw [if_pos rfl,if_pos (by rw [St.sh_k]; exact hk),if_pos e1,e2,if_pos ⟨by rw [St.sh_k]; exact he.1,by rw [hE' _ (by omega)]; exact he.2⟩,show g.p + k + 1 = g.p + 1 + k by omega,if_pos f1,f2,e3,f3]
        exact ⟨rfl,rfl,by show _ = St.sh c _; rw [← St.sh_setL,← St.sh_setR]; rfl⟩
       ·rw [if_neg h00] at h; exact absurd h h00
      ·rw [if_neg he] at hN ⊢
       have hN : g.p ≤ N:=hN
       obtain ⟨e1,e2,e3⟩:=h1 h0 hN
       have hw:=hw (by omega)
       change (rs R' F f .blk ((hdS R F p).2.1 + k) d).r = 0 at e1
       change (rs R' F f .blk ((hdS R F p).2.1 + k) d).p = _ at e2
       change (rs R' F f .blk ((hdS R F p).2.1 + k) d).l = _ at e3
       rw [hw]
       dsimp only
       rw [if_pos rfl,if_pos (by rw [St.sh_k]; exact hk),if_pos e1,e2,if_neg (by rw [St.sh_k,hE' _ hN]; exact he),e3]
       exact ⟨rfl,rfl,by show _ = St.sh c _; rw [← St.sh_setL]; rfl⟩
     ·rw [if_neg h0] at h; exact absurd h h0
    ·rw [if_neg hk] at hN ⊢
     rw [hw hN]
     dsimp only
     rw [if_pos rfl,if_neg (by rw [St.sh_k]; exact hk)]
     exact ⟨rfl,rfl,rfl⟩
   ·rw [if_neg hr] at h; exact absurd h hr
end
end Go.Proofs.YtkjhlgnpohamnaaGreatDoor
