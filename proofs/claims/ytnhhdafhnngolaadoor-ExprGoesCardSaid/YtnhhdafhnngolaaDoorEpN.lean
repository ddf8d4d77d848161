/-
  HEIGHTS, row by row; how many expressions a tree holds; what is read is fine.
-/
import Derived.Test.YtnhhdafhnngolaaDoorEpM
namespace Go.Proofs.YtnhhdafhnngolaaDoor
set_option linter.unusedVariables false
set_option linter.unusedSimpArgs false

def Ex.cnt : Ex → Nat
  | .mk k a m nm lb l => (l.attach.map fun x => x.1.cnt).foldr (· + ·) 0 + 1
termination_by e => SizeOf.sizeOf e
decreasing_by exact Ex.lt_of x.2
def cnts (l : List Ex) : Nat := (l.map Ex.cnt).foldr (· + ·) 0
theorem Ex.cnt_eq (e : Ex) : e.cnt = cnts e.l + 1 := by
  cases e
  rw [Ex.cnt]
  unfold cnts Ex.l
  rw [List.attach_map_val (f := Ex.cnt)]
theorem cnts_nil : cnts [] = 0 := rfl
theorem cnts_cons (x : Ex) (l : List Ex) : cnts (x :: l) = x.cnt + cnts l := rfl
theorem cnts_app (l k : List Ex) : cnts (l ++ k) = cnts l + cnts k := by
  induction l with
  | nil => simp [cnts_nil]
  | cons x l ih => rw [List.cons_append, cnts_cons, cnts_cons, ih]; omega
theorem cnts_len (l : List Ex) : l.length ≤ cnts l := by
  induction l with
  | nil => exact Nat.le_refl _
  | cons x l ih => rw [cnts_cons, List.length_cons, Ex.cnt_eq]; omega
/-- The next row: all parts. -/
def under (F : List Ex) : List Ex := F.flatMap Ex.l
theorem under_cnt (F : List Ex) : cnts (under F) + F.length = cnts F := by
  induction F with
  | nil => rfl
  | cons x F ih =>
    have : under (x :: F) = x.l ++ under F := by simp [under]
    rw [this, cnts_app, cnts_cons, List.length_cons, Ex.cnt_eq]
    omega
theorem under_hts {F : List Ex} (h : F ≠ []) : hts F = hts (under F) + 1 := by
  induction F with
  | nil => exact absurd rfl h
  | cons x F ih =>
    have hu : under (x :: F) = x.l ++ under F := by simp [under]
    rw [hu, hts_app, hts_cons, Ex.ht_eq]
    cases F with
    | nil => simp [under, hts_nil]
    | cons y F =>
      have := ih (by simp)
      omega
theorem under_app (F K : List Ex) : under (F ++ K) = under F ++ under K := by simp [under]
theorem under_one (x : Ex) : under [x] = x.l := by simp [under]
def wfs (F : List Ex) : Prop := ∀ x ∈ F, x.wfx
theorem under_wfs {F : List Ex} (h : wfs F) : wfs (under F) := fun x hx => by
  obtain ⟨y, hy, hxy⟩ := List.mem_flatMap.1 hx
  exact ((y.wfx_eq).1 (h y hy)).2.2 x hxy

/-- What is read is fine: its kinds, its height, how many parts it has. -/
def Fine (e : Ex) : Prop := e.wfx ∧ e.ht ≤ 32
def Md.pre : Md → Prop
  | .loop _ e => Fine e
  | .an acc => ∀ x ∈ acc, Fine x
  | _ => True
def FineR (m : Md) (a : Nat) (g : Gt) : Prop := g.r = 0 → match m with
  | .loop _ e => Fine g.e ∧ g.e.cnt + a ≤ g.p + e.cnt
  | .ar => (∀ x ∈ g.e.l, Fine x) ∧ cnts g.e.l + a + 1 ≤ g.p
  | .an acc => (∀ x ∈ g.e.l, Fine x) ∧ cnts g.e.l + a ≤ g.p + cnts acc
  | _ => Fine g.e ∧ g.e.cnt + a ≤ g.p
theorem fine_leaf {e : Ex} (hl : e.l = []) : Fine e ∧ e.cnt = 1 := by
  refine ⟨⟨(e.wfx_eq).2 ⟨fun _ => hl, by rw [hl]; simp, fun x hx => by rw [hl] at hx; cases hx⟩, ?_⟩, ?_⟩
  · rw [Ex.ht_eq, hl]; decide
  · rw [Ex.cnt_eq, hl]; rfl
theorem fine_of {e : Ex} (hk : ¬ (e.k = 0 ∨ e.k = 1 ∨ e.k = 2)) (hl : ∀ x ∈ e.l, Fine x) (hn : e.l.length ≤ 1000000) : e.wfx :=
  (e.wfx_eq).2 ⟨fun h => absurd h hk, hn, fun x hx => (hl x hx).1⟩
theorem bin_wfx {s : ByteArray} {x y : Ex} (hx : Fine x) (hy : Fine y) : (eBin s x y).wfx := fine_of (show ¬ ((5 : Int) = 0 ∨ (5 : Int) = 1 ∨ (5 : Int) = 2) by decide) (fun z hz => by
  have : z = x ∨ z = y := by simpa [eBin, Ex.l] using hz
  rcases this with rfl | rfl
  · exact hx
  · exact hy) (by simp [eBin, Ex.l])
theorem un_wfx {a : Int} {s : ByteArray} {x : Ex} (hx : Fine x) : (eUn a s x).wfx := fine_of (show ¬ ((4 : Int) = 0 ∨ (4 : Int) = 1 ∨ (4 : Int) = 2) by decide) (fun z hz => by
  have : z = x := by simpa [eUn, Ex.l] using hz
  rw [this]; exact hx) (by simp [eUn, Ex.l])
theorem open_wfx {a : Int} {s : ByteArray} {x : Ex} (hx : Fine x) : (eOpen a s x).wfx := fine_of (show ¬ ((6 : Int) = 0 ∨ (6 : Int) = 1 ∨ (6 : Int) = 2) by decide) (fun z hz => by
  have : z = x := by simpa [eOpen, Ex.l] using hz
  rw [this]; exact hx) (by simp [eOpen, Ex.l])
theorem call_wfx {a : Int} {s : ByteArray} {l : List Ex} (hl : ∀ x ∈ l, Fine x) (hn : l.length ≤ 1000000) : (eCall a s l).wfx := fine_of (show ¬ ((3 : Int) = 0 ∨ (3 : Int) = 1 ∨ (3 : Int) = 2) by decide) hl hn
theorem bin_cnt (s : ByteArray) (x y : Ex) : (eBin s x y).cnt = x.cnt + y.cnt + 1 := by rw [Ex.cnt_eq]; show x.cnt + (y.cnt + 0) + 1 = _; omega
theorem un_cnt (a : Int) (s : ByteArray) (x : Ex) : (eUn a s x).cnt = x.cnt + 1 := by rw [Ex.cnt_eq]; rfl
theorem open_cnt (a : Int) (s : ByteArray) (x : Ex) : (eOpen a s x).cnt = x.cnt + 1 := by rw [Ex.cnt_eq]; rfl
theorem call_cnt (a : Int) (s : ByteArray) (l : List Ex) : (eCall a s l).cnt = cnts l + 1 := by rw [Ex.cnt_eq]; rfl
theorem bad_fine {m : Md} {a p : Nat} {r : Int} (h : r ≠ 0) : FineR m a (bad p r) := fun e => absurd e h
theorem hld_fine {m : Md} {e : Ex} {a p q : Nat} (hm : ∀ g : Gt, FineR m a g = (g.r = 0 → Fine g.e ∧ g.e.cnt + a ≤ g.p)) (hw : e.wfx) (hc : e.cnt + a ≤ p) : FineR m a (hld e p q) := by
  rw [hm]
  intro h0
  rcases hld_p e p q with ⟨_, h2, h3, h4⟩ | ⟨h1, _, _⟩
  · rw [h2, h3]; exact ⟨⟨hw, h4⟩, hc⟩
  · rw [h1] at h0; cases h0
theorem rd_fine {R : Rw} (hR : R.Ok) (hn : R.n ≤ 1000000) : ∀ (f : Nat) (m : Md) (a d : Nat), a ≤ R.n → (m.there = true → a < R.n) → m.pre → FineR m a (rd R f m a d) := by
  intro f
  induction f with
  | zero => intro m a d ha _ _; rw [rd_0]; exact bad_fine (by decide)
  | succ f ih =>
    intro m a d ha hth hpre
    cases m with
    | lev l =>
      by_cases h6 : 6 ≤ l
      · rw [rd_lev6 h6]; exact ih .sg a d ha (fun h => by cases h) trivial
      · rw [rd_lev h6]
        have h1 := rd_in hR f (.lev (l + 1)) a d ha (fun h => by cases h)
        have h2 := ih (.lev (l + 1)) a d ha (fun h => by cases h) trivial
        generalize rd R f (.lev (l + 1)) a d = g at h1 h2 ⊢
        by_cases h0 : g.r = 0
        · rw [if_pos h0]
          have h3 := h2 h0
          have h4 := ih (.loop l g.e) g.p d h1.2.1 (fun h => by cases h) h3.1
          intro hr
          have h5 := h4 hr
          exact ⟨h5.1, by have := h5.2; have := h3.2; omega⟩
        · rw [if_neg h0]; exact bad_fine h0
    | loop l e =>
      simp only [rd]
      by_cases hs : sgnL l (R.wd a) = true
      · rw [if_pos hs]
        have hlt := hR.sgnL_lt hs
        have h1 := rd_in hR f (.lev (l + 1)) (a + 1) d hlt (fun h => by cases h)
        have h2 := ih (.lev (l + 1)) (a + 1) d hlt (fun h => by cases h) trivial
        generalize rd R f (.lev (l + 1)) (a + 1) d = g at h1 h2 ⊢
        by_cases h0 : g.r = 0
        · rw [if_pos h0]
          have h3 := h2 h0
          rcases hld_p (eBin (R.wd a) e g.e) g.p a with ⟨e1, e2, e3, e4⟩ | ⟨e1, e2, e3⟩
          · rw [if_pos e1, e2, e3]
            have h4 := ih (.loop l (eBin (R.wd a) e g.e)) g.p d h1.2.1 (fun h => by cases h) ⟨bin_wfx hpre h3.1, e4⟩
            intro hr
            have h5 := h4 hr
            refine ⟨h5.1, ?_⟩
            have h6 := h5.2
            rw [bin_cnt] at h6
            have := h3.2
            omega
          · rw [if_neg (by rw [e1]; decide), e1]; exact bad_fine (by decide)
        · rw [if_neg h0]; exact bad_fine h0
      · rw [if_neg hs]; exact fun _ => ⟨hpre, by show e.cnt + a ≤ a + e.cnt; omega⟩
    | sg =>
      simp only [rd]
      by_cases hs : (R.is a [33] || R.is a [45]) = true
      · rw [if_pos hs]
        have hlt : a < R.n := by
          rcases Bool.or_eq_true_iff.1 hs with h | h
          · exact hR.is_lt h
          · exact hR.is_lt h
        by_cases hd : d = 32
        · rw [if_pos hd]; exact bad_fine (by decide)
        · rw [if_neg hd]
          have h2 := ih .sg (a + 1) (d + 1) hlt (fun h => by cases h) trivial
          generalize rd R f .sg (a + 1) (d + 1) = g at h2 ⊢
          by_cases h0 : g.r = 0
          · rw [if_pos h0]
            have h3 := h2 h0
            exact hld_fine (m := .sg) (fun _ => rfl) (un_wfx h3.1) (by rw [un_cnt]; have := h3.2; omega)
          · rw [if_neg h0]; exact bad_fine h0
      · rw [if_neg hs]; exact ih .pr a d ha (fun h => by cases h) trivial
    | pr =>
      simp only [rd]
      have hleaf : ∀ e : Ex, e.l = [] → FineR .pr a (good e (a + 1)) := fun e he _ => by
        have := fine_leaf he
        exact ⟨this.1, by rw [show (good e (a + 1)).e = e from rfl, show (good e (a + 1)).p = a + 1 from rfl, this.2]; omega⟩
      split
      · split
        · exact hleaf _ rfl
        · exact bad_fine (by decide)
      · split
        · exact hleaf _ rfl
        · split
          · exact hleaf _ rfl
          · split
            · have h2 := ih .gr a d ha (fun h => by cases h) trivial
              generalize rd R f .gr a d = g at h2 ⊢
              by_cases h0 : g.r = 0
              · rw [if_pos h0]
                have h3 := h2 h0
                split
                · exact fun _ => ⟨h3.1, by show g.e.cnt + a ≤ g.p + 1; have := h3.2; omega⟩
                · exact bad_fine (by decide)
              · rw [if_neg h0]; exact bad_fine h0
            · split
              · rename_i h
                exact ih .op a d ha (fun _ => hR.is_lt h) trivial
              · exact ih .nm a d ha (fun h => by cases h) trivial
    | gr =>
      simp only [rd]
      split
      · rename_i h
        have hlt := hR.is_lt h
        split
        · exact bad_fine (by decide)
        · have h2 := ih (.lev 1) (a + 1) (d + 1) hlt (fun h => by cases h) trivial
          generalize rd R f (.lev 1) (a + 1) (d + 1) = g at h2 ⊢
          by_cases h0 : g.r = 0
          · rw [if_pos h0]
            have h3 := h2 h0
            exact fun _ => ⟨h3.1, by show g.e.cnt + a ≤ g.p; have := h3.2; omega⟩
          · rw [if_neg h0]; exact bad_fine h0
      · exact bad_fine (by decide)
    | op =>
      simp only [rd]
      have hlt := hth rfl
      have h2 := ih .gr (a + 1) d hlt (fun h => by cases h) trivial
      generalize rd R f .gr (a + 1) d = g at h2 ⊢
      by_cases h0 : g.r = 0
      · rw [if_pos h0]
        have h3 := h2 h0
        split
        · split
          · split
            · split
              · exact hld_fine (m := .op) (fun _ => rfl) (open_wfx h3.1) (by rw [open_cnt]; have := h3.2; omega)
              · exact bad_fine (by decide)
            · exact bad_fine (by decide)
          · exact bad_fine (by decide)
        · exact bad_fine (by decide)
      · rw [if_neg h0]; exact bad_fine h0
    | nm =>
      simp only [rd]
      have hnl := hR.name_lt ha
      split
      · rename_i h
        have hlt := hnl.2.2 h
        split
        · rename_i h
          have h1 := rd_in hR f .ar (R.name a).2.2 d hnl.1 (fun _ => hR.is_lt h)
          have h2 := ih .ar (R.name a).2.2 d hnl.1 (fun _ => hR.is_lt h) trivial
          generalize rd R f .ar (R.name a).2.2 d = g at h1 h2 ⊢
          by_cases h0 : g.r = 0
          · rw [if_pos h0]
            have h3 := h2 h0
            have h4 := h3.2
            have h5 := cnts_len g.e.l
            have h6 := h1.2.1
            exact hld_fine (m := .nm) (fun _ => rfl) (call_wfx h3.1 (by omega)) (by rw [call_cnt]; omega)
          · rw [if_neg h0]; exact bad_fine h0
        · intro _
          have := fine_leaf (e := eName (R.ps a) (R.name a).2.1) rfl
          exact ⟨this.1, by show (eName (R.ps a) (R.name a).2.1).cnt + a ≤ (R.name a).2.2; rw [this.2]; omega⟩
      · exact bad_fine (by decide)
    | ar =>
      simp only [rd]
      split
      · exact bad_fine (by decide)
      · split
        · exact fun _ => ⟨(fun x hx => by cases hx), by show 0 + a + 1 ≤ a + 2; omega⟩
        · have h2 := ih (.an []) (a + 1) (d + 1) (hth rfl) (fun h => by cases h) (fun x hx => by cases hx)
          intro hr
          have h3 := h2 hr
          exact ⟨h3.1, by have h4 := h3.2; rw [cnts_nil] at h4; omega⟩
    | an acc =>
      simp only [rd]
      have h1 := rd_in hR f (.lev 1) a d ha (fun h => by cases h)
      have h2 := ih (.lev 1) a d ha (fun h => by cases h) trivial
      generalize rd R f (.lev 1) a d = g at h1 h2 ⊢
      by_cases h0 : g.r = 0
      · rw [if_pos h0]
        have h3 := h2 h0
        have hacc : ∀ x ∈ acc ++ [g.e], Fine x := fun x hx => by
          rcases List.mem_append.1 hx with h | h
          · exact hpre x h
          · rw [List.mem_singleton.1 h]; exact h3.1
        split
        · rename_i h
          have h4 := ih (.an (acc ++ [g.e])) (g.p + 1) d (hR.is_lt h) (fun h => by cases h) hacc
          intro hr
          have h5 := h4 hr
          refine ⟨h5.1, ?_⟩
          have h6 := h5.2
          rw [cnts_app, cnts_cons, cnts_nil] at h6
          have := h3.2
          omega
        · split
          · refine fun _ => ⟨hacc, ?_⟩
            show cnts (acc ++ [g.e]) + a ≤ g.p + 1 + cnts acc
            rw [cnts_app, cnts_cons, cnts_nil]
            have := h3.2
            omega
          · exact bad_fine (by decide)
      · rw [if_neg h0]; exact bad_fine h0
end Go.Proofs.YtnhhdafhnngolaaDoor
