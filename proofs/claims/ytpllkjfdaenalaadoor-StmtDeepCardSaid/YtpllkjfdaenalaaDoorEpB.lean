/-
  THE SAME WORDS AT LATER PLACES are read as the same, as many places later; words between brackets likewise, unless they stand too deep then.
-/
import Derived.Test.YtpllkjfdaenalaaDoorEpI
namespace Go.Proofs.YtpllkjfdaenalaaDoor
set_option linter.unusedVariables false
set_option linter.unusedSimpArgs false

theorem Ex.sh_wfx (c : Int) : ∀ e : Ex, e.wfx → (e.sh c).wfx := by
  refine Ex.ind fun k a m nm lb l ih => ?_
  intro h
  have h' := (Ex.wfx_eq _).1 h
  rw [Ex.sh_eq]
  refine (Ex.wfx_eq _).2 ⟨fun hk => ?_, by show (l.map (Ex.sh c)).length ≤ _; rw [List.length_map]; exact h'.2.1, fun x hx => ?_⟩
  · have : l = [] := h'.1 hk
    show l.map (Ex.sh c) = []
    rw [this]; rfl
  · obtain ⟨y, hy, rfl⟩ := List.mem_map.1 hx
    exact ih y hy (h'.2.2 y hy)
theorem Ex.sh_ins (c N : Int) : ∀ e : Ex, e.ins N → (e.sh c).ins (N + c) := by
  refine Ex.ind fun k a m nm lb l ih => ?_
  intro h
  have h' := (Ex.ins_eq _ _).1 h
  rw [Ex.sh_eq]
  refine (Ex.ins_eq _ _).2 fun x hx => ?_
  obtain ⟨y, hy, rfl⟩ := List.mem_map.1 hx
  obtain ⟨h1, h2, h3⟩ := h' y hy
  have h1' : a ≤ y.a := h1
  exact ⟨by show a + c ≤ (y.sh c).a; rw [Ex.sh_a]; omega, by rw [Ex.sh_a]; omega, ih y hy h3⟩
theorem shs_app (c : Int) (l k : List Ex) : (l ++ k).map (Ex.sh c) = l.map (Ex.sh c) ++ k.map (Ex.sh c) := List.map_append
theorem bin_sh (c : Int) (s : ByteArray) (x y : Ex) : (eBin s x y).sh c = eBin s (x.sh c) (y.sh c) := by
  unfold eBin
  rw [Ex.sh_eq, Ex.sh_a]
  rfl
theorem un_sh (c a : Int) (s : ByteArray) (x : Ex) : (eUn a s x).sh c = eUn (a + c) s (x.sh c) := by unfold eUn; rw [Ex.sh_eq]; rfl
theorem open_sh (c a : Int) (s : ByteArray) (x : Ex) : (eOpen a s x).sh c = eOpen (a + c) s (x.sh c) := by unfold eOpen; rw [Ex.sh_eq]; rfl
theorem call_sh (c a : Int) (s : ByteArray) (l : List Ex) : (eCall a s l).sh c = eCall (a + c) s (l.map (Ex.sh c)) := by unfold eCall; rw [Ex.sh_eq]
theorem name_sh (c a : Int) (s : ByteArray) : (eName a s).sh c = eName (a + c) s := by unfold eName; rw [Ex.sh_eq]; rfl
theorem num_sh (c a v : Int) : (eNum a v).sh c = eNum (a + c) v := by unfold eNum; rw [Ex.sh_eq]; rfl
theorem bool_sh (c a v : Int) : (eBool a v).sh c = eBool (a + c) v := by unfold eBool; rw [Ex.sh_eq]; rfl
theorem list_sh (c : Int) (l : List Ex) : ((eList l).sh c).l = l.map (Ex.sh c) := by unfold eList; rw [Ex.sh_eq]; rfl

/-- The same words, c places later. -/
structure Late (R R' : Rw) (c : Int) : Prop where
  wd : ∀ i, R'.wd i = R.wd i
  kd : ∀ i, R'.kd i = R.kd i
  idn : ∀ i, R'.idn i = R.idn i
  ps : ∀ i, R'.ps i = R.ps i + c
def Md.sh (c : Int) : Md → Md
  | .loop l e => .loop l (e.sh c)
  | .an acc => .an (acc.map (Ex.sh c))
  | m => m
def LateR (c : Int) (g g' : Gt) : Prop := g'.r = g.r ∧ g'.p = g.p ∧ (g.r = 0 → g'.e = g.e.sh c)
def LateM (c : Int) (m : Md) (g g' : Gt) : Prop := g'.r = g.r ∧ g'.p = g.p ∧ (g.r = 0 → match m with
  | .ar => g'.e.l = g.e.l.map (Ex.sh c)
  | .an _ => g'.e.l = g.e.l.map (Ex.sh c)
  | _ => g'.e = g.e.sh c)
theorem late_badM (c : Int) (m : Md) (p : Nat) {r : Int} (hr : r ≠ 0) : LateM c m (bad p r) (bad p r) := ⟨rfl, rfl, fun h => absurd h hr⟩
theorem late_bad (c : Int) (p : Nat) {r : Int} (hr : r ≠ 0) : LateR c (bad p r) (bad p r) := ⟨rfl, rfl, fun h => absurd h hr⟩
theorem late_good (c : Int) (e : Ex) (p : Nat) : LateR c (good e p) (good (e.sh c) p) := ⟨rfl, rfl, fun _ => rfl⟩
theorem late_hld (c : Int) (e : Ex) (p q : Nat) : LateR c (hld e p q) (hld (e.sh c) p q) := by
  unfold hld
  rw [Ex.sh_ht]
  by_cases h : 32 < e.ht
  · rw [if_pos h, if_pos h]; exact late_bad c q (by decide)
  · rw [if_neg h, if_neg h]; exact late_good c e p
theorem late_of_bad {c : Int} {g g' : Gt} (h : LateR c g g') (h0 : g.r ≠ 0) : LateR c (bad g.p g.r) (bad g'.p g'.r) := by
  rw [h.1, h.2.1]; exact late_bad c _ h0
theorem rd_late {R R' : Rw} {c : Int} (hL : Late R R' c) : ∀ (f : Nat) (m : Md) (a d : Nat), LateM c m (rd R f m a d) (rd R' f (m.sh c) a d) := by
  intro f
  have his : ∀ i l, R'.is i l = R.is i l := fun i l => by unfold Rw.is; rw [hL.wd]
  have hname : ∀ a, R'.name a = R.name a := fun a => by
    unfold Rw.name
    rw [hL.idn, hL.idn, his, hL.wd, hL.wd]
  induction f with
  | zero => intro m a d; rw [rd_0, rd_0]; exact late_badM c m a (by decide)
  | succ f ih =>
    intro m a d
    cases m with
    | lev l =>
      show LateR c (rd R (f + 1) (.lev l) a d) (rd R' (f + 1) (.lev l) a d)
      by_cases h6 : 6 ≤ l
      · rw [rd_lev6 h6, rd_lev6 h6]; exact ih .sg a d
      · rw [rd_lev h6, rd_lev h6]
        have h1 : LateR c (rd R f (.lev (l + 1)) a d) (rd R' f (.lev (l + 1)) a d) := ih (.lev (l + 1)) a d
        have h2 := fun e q => ih (.loop l e) q d
        generalize rd R f (.lev (l + 1)) a d = g at h1 ⊢
        generalize rd R' f (.lev (l + 1)) a d = g' at h1 ⊢
        by_cases h0 : g.r = 0
        · rw [if_pos h0, if_pos (show g'.r = 0 by rw [h1.1]; exact h0), h1.2.1, h1.2.2 h0]
          exact h2 g.e g.p
        · rw [if_neg h0, if_neg (show ¬ g'.r = 0 by rw [h1.1]; exact h0)]; exact late_of_bad h1 h0
    | loop l e =>
      show LateR c (rd R (f + 1) (.loop l e) a d) (rd R' (f + 1) (.loop l (e.sh c)) a d)
      simp only [rd]
      rw [hL.wd]
      by_cases hs : sgnL l (R.wd a) = true
      · rw [if_pos hs, if_pos hs]
        have h1 : LateR c (rd R f (.lev (l + 1)) (a + 1) d) (rd R' f (.lev (l + 1)) (a + 1) d) := ih (.lev (l + 1)) (a + 1) d
        have h2 := fun e q => ih (.loop l e) q d
        generalize rd R f (.lev (l + 1)) (a + 1) d = g at h1 ⊢
        generalize rd R' f (.lev (l + 1)) (a + 1) d = g' at h1 ⊢
        by_cases h0 : g.r = 0
        · rw [if_pos h0, if_pos (show g'.r = 0 by rw [h1.1]; exact h0), h1.2.1, h1.2.2 h0, ← bin_sh]
          have h3 := late_hld c (eBin (R.wd a) e g.e) g.p a
          generalize hld (eBin (R.wd a) e g.e) g.p a = k at h3 ⊢
          generalize hld ((eBin (R.wd a) e g.e).sh c) g.p a = k' at h3 ⊢
          by_cases hk : k.r = 0
          · rw [if_pos hk, if_pos (show k'.r = 0 by rw [h3.1]; exact hk), h3.2.1, h3.2.2 hk]
            exact h2 k.e k.p
          · rw [if_neg hk, if_neg (show ¬ k'.r = 0 by rw [h3.1]; exact hk)]; exact late_of_bad h3 hk
        · rw [if_neg h0, if_neg (show ¬ g'.r = 0 by rw [h1.1]; exact h0)]; exact late_of_bad h1 h0
      · rw [if_neg hs, if_neg hs]; exact late_good c e a
    | sg =>
      show LateR c (rd R (f + 1) .sg a d) (rd R' (f + 1) .sg a d)
      simp only [rd]
      rw [his, his, hL.wd, hL.ps]
      by_cases hs : (R.is a [33] || R.is a [45]) = true
      · rw [if_pos hs, if_pos hs]
        by_cases hd : d = 32
        · rw [if_pos hd, if_pos hd]; exact late_bad c a (by decide)
        · rw [if_neg hd, if_neg hd]
          have h1 : LateR c (rd R f .sg (a + 1) (d + 1)) (rd R' f .sg (a + 1) (d + 1)) := ih .sg (a + 1) (d + 1)
          generalize rd R f .sg (a + 1) (d + 1) = g at h1 ⊢
          generalize rd R' f .sg (a + 1) (d + 1) = g' at h1 ⊢
          by_cases h0 : g.r = 0
          · rw [if_pos h0, if_pos (show g'.r = 0 by rw [h1.1]; exact h0), h1.2.1, h1.2.2 h0, ← un_sh]; exact late_hld c _ _ _
          · rw [if_neg h0, if_neg (show ¬ g'.r = 0 by rw [h1.1]; exact h0)]; exact late_of_bad h1 h0
      · rw [if_neg hs, if_neg hs]; exact ih .pr a d
    | pr =>
      show LateR c (rd R (f + 1) .pr a d) (rd R' (f + 1) .pr a d)
      simp only [rd]
      simp only [hL.kd, hL.wd, hL.ps, his]
      split
      · cases numB (R.wd a) with
        | some v =>
          show LateR c (good (eNum (R.ps a) v) (a + 1)) (good (eNum (R.ps a + c) v) (a + 1))
          rw [← num_sh]
          exact late_good c _ _
        | none => exact late_bad c a (by decide)
      · split
        · rw [← bool_sh]; exact late_good c _ _
        · split
          · rw [← bool_sh]; exact late_good c _ _
          · split
            · have h1 : LateR c (rd R f .gr a d) (rd R' f .gr a d) := ih .gr a d
              generalize rd R f .gr a d = g at h1 ⊢
              generalize rd R' f .gr a d = g' at h1 ⊢
              by_cases h0 : g.r = 0
              · rw [if_pos h0, if_pos (show g'.r = 0 by rw [h1.1]; exact h0), h1.2.1, h1.2.2 h0]
                split
                · exact late_good c _ _
                · exact late_bad c _ (by decide)
              · rw [if_neg h0, if_neg (show ¬ g'.r = 0 by rw [h1.1]; exact h0)]; exact late_of_bad h1 h0
            · split
              · exact ih .op a d
              · exact ih .nm a d
    | gr =>
      show LateR c (rd R (f + 1) .gr a d) (rd R' (f + 1) .gr a d)
      simp only [rd]
      rw [his]
      split
      · split
        · exact late_bad c a (by decide)
        · have h1 : LateR c (rd R f (.lev 1) (a + 1) (d + 1)) (rd R' f (.lev 1) (a + 1) (d + 1)) := ih (.lev 1) (a + 1) (d + 1)
          generalize rd R f (.lev 1) (a + 1) (d + 1) = g at h1 ⊢
          generalize rd R' f (.lev 1) (a + 1) (d + 1) = g' at h1 ⊢
          by_cases h0 : g.r = 0
          · rw [if_pos h0, if_pos (show g'.r = 0 by rw [h1.1]; exact h0), h1.2.1, h1.2.2 h0]; exact late_good c _ _
          · rw [if_neg h0, if_neg (show ¬ g'.r = 0 by rw [h1.1]; exact h0)]; exact late_of_bad h1 h0
      · exact late_bad c a (by decide)
    | op =>
      show LateR c (rd R (f + 1) .op a d) (rd R' (f + 1) .op a d)
      simp only [rd]
      have h1 : LateR c (rd R f .gr (a + 1) d) (rd R' f .gr (a + 1) d) := ih .gr (a + 1) d
      generalize rd R f .gr (a + 1) d = g at h1 ⊢
      generalize rd R' f .gr (a + 1) d = g' at h1 ⊢
      by_cases h0 : g.r = 0
      · rw [if_pos h0, if_pos (show g'.r = 0 by rw [h1.1]; exact h0), h1.2.1, h1.2.2 h0, his, his, his, hL.idn, hL.wd, hL.ps]
        split
        · split
          · split
            · split
              · rw [← open_sh]; exact late_hld c _ _ _
              · exact late_bad c _ (by decide)
            · exact late_bad c _ (by decide)
          · exact late_bad c _ (by decide)
        · exact late_bad c _ (by decide)
      · rw [if_neg h0, if_neg (show ¬ g'.r = 0 by rw [h1.1]; exact h0)]; exact late_of_bad h1 h0
    | nm =>
      show LateR c (rd R (f + 1) .nm a d) (rd R' (f + 1) .nm a d)
      simp only [rd]
      rw [hname, his, hL.ps]
      split
      · split
        · have h1 : LateM c .ar (rd R f .ar (R.name a).2.2 d) (rd R' f .ar (R.name a).2.2 d) := ih .ar (R.name a).2.2 d
          generalize rd R f .ar (R.name a).2.2 d = g at h1 ⊢
          generalize rd R' f .ar (R.name a).2.2 d = g' at h1 ⊢
          by_cases h0 : g.r = 0
          · rw [if_pos h0, if_pos (show g'.r = 0 by rw [h1.1]; exact h0), h1.2.1, (show g'.e.l = g.e.l.map (Ex.sh c) from h1.2.2 h0), ← call_sh]; exact late_hld c _ _ _
          · rw [if_neg h0, if_neg (show ¬ g'.r = 0 by rw [h1.1]; exact h0), h1.1, h1.2.1]; exact late_bad c _ h0
        · rw [← name_sh]; exact late_good c _ _
      · exact late_bad c _ (by decide)
    | ar =>
      show LateM c .ar (rd R (f + 1) .ar a d) (rd R' (f + 1) .ar a d)
      simp only [rd]
      rw [his]
      split
      · exact late_badM c .ar a (by decide)
      · split
        · exact ⟨rfl, rfl, fun _ => rfl⟩
        · exact ih (.an []) (a + 1) (d + 1)
    | an acc =>
      show LateM c (.an acc) (rd R (f + 1) (.an acc) a d) (rd R' (f + 1) (.an (acc.map (Ex.sh c))) a d)
      simp only [rd]
      have h1 : LateR c (rd R f (.lev 1) a d) (rd R' f (.lev 1) a d) := ih (.lev 1) a d
      have h2 := fun k q => ih (.an k) q d
      generalize rd R f (.lev 1) a d = g at h1 ⊢
      generalize rd R' f (.lev 1) a d = g' at h1 ⊢
      by_cases h0 : g.r = 0
      · rw [if_pos h0, if_pos (show g'.r = 0 by rw [h1.1]; exact h0), h1.2.1, h1.2.2 h0, his, his]
        have he : acc.map (Ex.sh c) ++ [g.e.sh c] = (acc ++ [g.e]).map (Ex.sh c) := by rw [List.map_append]; rfl
        rw [he]
        split
        · exact h2 (acc ++ [g.e]) (g.p + 1)
        · split
          · exact ⟨rfl, rfl, fun _ => rfl⟩
          · exact late_badM c (.an acc) _ (by decide)
      · rw [if_neg h0, if_neg (show ¬ g'.r = 0 by rw [h1.1]; exact h0), h1.1, h1.2.1]; exact late_badM c (.an acc) _ h0
end Go.Proofs.YtpllkjfdaenalaaDoor
