/-
  WHERE PARTS BEGIN: no sooner than the whole, ahead of the end.
-/
import Derived.Test.YtbpmgghonnoooaaDoorEpN
import Derived.Test.YtbpmgghonnoooaaDoorEpT
namespace Go.Proofs.YtbpmgghonnoooaaDoor
set_option linter.unusedVariables false
set_option linter.unusedSimpArgs false

/-- Words begin one behind the other. -/
structure Mono (R : Rw) : Prop where
  lt : ∀ i j, i < j → j ≤ R.n → R.ps i < R.ps j
theorem Mono.le {R : Rw} (h : Mono R) {i j : Nat} (hij : i ≤ j) (hj : j ≤ R.n) : R.ps i ≤ R.ps j := by
  rcases Nat.lt_or_ge i j with h1 | h1
  · have := h.lt i j h1 hj; omega
  · obtain rfl : i = j := by omega
    omega
def InsX (R : Rw) (e : Ex) : Prop := e.ins (R.ps R.n) ∧ e.a < R.ps R.n
def Md.pins (R : Rw) : Md → Nat → Prop
  | .loop _ e, a => InsX R e ∧ e.a < R.ps a
  | .an acc, _ => ∀ x ∈ acc, InsX R x
  | _, _ => True
def InsR (R : Rw) (m : Md) (a : Nat) (g : Gt) : Prop := g.r = 0 → match m with
  | .loop _ e => InsX R g.e ∧ g.e.a = e.a ∧ g.e.a < R.ps g.p
  | .ar => ∀ x ∈ g.e.l, InsX R x ∧ R.ps a ≤ x.a
  | .an acc => ∀ x ∈ g.e.l, InsX R x ∧ (x ∈ acc ∨ R.ps a ≤ x.a)
  | _ => InsX R g.e ∧ R.ps a ≤ g.e.a ∧ g.e.a < R.ps g.p
theorem bad_ins {R : Rw} {m : Md} {a p : Nat} {r : Int} (h : r ≠ 0) : InsR R m a (bad p r) := fun e => absurd e h
theorem hld_ins {R : Rw} {m : Md} {e : Ex} {a p q : Nat} (hm : ∀ g : Gt, InsR R m a g = (g.r = 0 → InsX R g.e ∧ R.ps a ≤ g.e.a ∧ g.e.a < R.ps g.p)) (h : InsX R e ∧ R.ps a ≤ e.a ∧ e.a < R.ps p) : InsR R m a (hld e p q) := by
  rw [hm]
  intro h0
  rcases hld_p e p q with ⟨_, h2, h3, h4⟩ | ⟨h1, _, _⟩
  · rw [h2, h3]; exact h
  · rw [h1] at h0; cases h0
theorem ins_leaf {R : Rw} {e : Ex} (h : e.l = []) (ha : e.a < R.ps R.n) : InsX R e := ⟨(e.ins_eq _).2 (fun x hx => by rw [h] at hx; cases hx), ha⟩
theorem rd_ins {R : Rw} (hR : R.Ok) (hM : Mono R) : ∀ (f : Nat) (m : Md) (a d : Nat), a ≤ R.n → (m.there = true → a < R.n) → m.pins R a → InsR R m a (rd R f m a d) := by
  intro f
  induction f with
  | zero => intro m a d ha _ _; rw [rd_0]; exact bad_ins (by decide)
  | succ f ih =>
    intro m a d ha hth hpre
    cases m with
    | lev l =>
      by_cases h6 : 6 ≤ l
      · rw [rd_lev6 h6]; exact ih .sg a d ha (fun h => by cases h) trivial
      · rw [rd_lev h6]
        have h1 := rd_in hR f (.lev (l + 1)) a d ha (fun h => by cases h)
        have h2 := ih (.lev (l + 1)) a d ha (fun h => by cases h) trivial
        generalize rd R f (.lev (l + 1)) a d = g at h1 h2 ⊢
        by_cases h0 : g.r = 0
        · rw [if_pos h0]
          have h3 := h2 h0
          have h4 := ih (.loop l g.e) g.p d h1.2.1 (fun h => by cases h) ⟨h3.1, h3.2.2⟩
          intro hr
          have h5 := h4 hr
          exact ⟨h5.1, by rw [h5.2.1]; exact h3.2.1, h5.2.2⟩
        · rw [if_neg h0]; exact bad_ins h0
    | loop l e =>
      simp only [rd]
      by_cases hs : sgnL l (R.wd a) = true
      · rw [if_pos hs]
        have hlt := hR.sgnL_lt hs
        have h1 := rd_in hR f (.lev (l + 1)) (a + 1) d hlt (fun h => by cases h)
        have h2 := ih (.lev (l + 1)) (a + 1) d hlt (fun h => by cases h) trivial
        generalize rd R f (.lev (l + 1)) (a + 1) d = g at h1 h2 ⊢
        by_cases h0 : g.r = 0
        · rw [if_pos h0]
          have h3 := h2 h0
          have hb : InsX R (eBin (R.wd a) e g.e) ∧ e.a < R.ps g.p := by
            have hpe : e.a < R.ps a := hpre.2
            have hx : InsX R e := hpre.1
            have h7 := hM.lt a (a + 1) (by omega) hlt
            have h8 := hM.le h1.1 h1.2.1
            have h9 := hM.le h1.2.1 (Nat.le_refl _)
            refine ⟨⟨(Ex.ins_eq _ _).2 fun z hz => ?_, hx.2⟩, by omega⟩
            have : z = e ∨ z = g.e := by simpa [eBin, Ex.l] using hz
            rcases this with rfl | rfl
            · exact ⟨Int.le_refl _, hx.2, hx.1⟩
            · exact ⟨by show e.a ≤ _; have := h3.2.1; omega, h3.1.2, h3.1.1⟩
          rcases hld_p (eBin (R.wd a) e g.e) g.p a with ⟨e1, e2, e3, e4⟩ | ⟨e1, e2, e3⟩
          · rw [if_pos e1, e2, e3]
            have h4 := ih (.loop l (eBin (R.wd a) e g.e)) g.p d h1.2.1 (fun h => by cases h) ⟨hb.1, hb.2⟩
            intro hr
            have h5 := h4 hr
            exact ⟨h5.1, h5.2.1, h5.2.2⟩
          · rw [if_neg (by rw [e1]; decide), e1]; exact bad_ins (by decide)
        · rw [if_neg h0]; exact bad_ins h0
      · rw [if_neg hs]; exact fun _ => ⟨hpre.1, rfl, hpre.2⟩
    | sg =>
      simp only [rd]
      by_cases hs : (R.is a [33] || R.is a [45]) = true
      · rw [if_pos hs]
        have hlt : a < R.n := by
          rcases Bool.or_eq_true_iff.1 hs with h | h
          · exact hR.is_lt h
          · exact hR.is_lt h
        by_cases hd : d = 32
        · rw [if_pos hd]; exact bad_ins (by decide)
        · rw [if_neg hd]
          have h1 := rd_in hR f .sg (a + 1) (d + 1) hlt (fun h => by cases h)
          have h2 := ih .sg (a + 1) (d + 1) hlt (fun h => by cases h) trivial
          generalize rd R f .sg (a + 1) (d + 1) = g at h1 h2 ⊢
          by_cases h0 : g.r = 0
          · rw [if_pos h0]
            have h3 := h2 h0
            have h7 := hM.lt a (a + 1) (by omega) hlt
            have h8 := hM.le h1.1 h1.2.1
            have h9 := hM.le h1.2.1 (Nat.le_refl _)
            refine hld_ins (m := .sg) (fun _ => rfl) ⟨⟨(Ex.ins_eq _ _).2 fun z hz => ?_, by show R.ps a < _; omega⟩, Int.le_refl _, by show R.ps a < _; omega⟩
            have : z = g.e := by simpa [eUn, Ex.l] using hz
            rw [this]
            exact ⟨by show R.ps a ≤ _; have := h3.2.1; omega, h3.1.2, h3.1.1⟩
          · rw [if_neg h0]; exact bad_ins h0
      · rw [if_neg hs]; exact ih .pr a d ha (fun h => by cases h) trivial
    | pr =>
      simp only [rd]
      have hleaf : ∀ e : Ex, e.l = [] → e.a = R.ps a → a < R.n → InsR R .pr a (good e (a + 1)) := fun e he hea hlt _ => by
        have h7 := hM.lt a (a + 1) (by omega) hlt
        have h9 := hM.lt a R.n hlt (Nat.le_refl _)
        exact ⟨ins_leaf he (by show e.a < R.ps R.n; rw [hea]; exact h9), by show R.ps a ≤ e.a; omega, by show e.a < R.ps (a + 1); omega⟩
      split
      · rename_i h
        have hlt := hR.kd_lt h
        split
        · exact hleaf _ rfl rfl hlt
        · exact bad_ins (by decide)
      · split
        · rename_i h; exact hleaf _ rfl rfl (hR.is_lt h)
        · split
          · rename_i h; exact hleaf _ rfl rfl (hR.is_lt h)
          · split
            · have h1 := rd_in hR f .gr a d ha (fun h => by cases h)
              have h2 := ih .gr a d ha (fun h => by cases h) trivial
              generalize rd R f .gr a d = g at h1 h2 ⊢
              by_cases h0 : g.r = 0
              · rw [if_pos h0]
                have h3 := h2 h0
                split
                · rename_i h
                  have hlt := hR.is_lt h
                  have h7 := hM.lt g.p (g.p + 1) (by omega) hlt
                  exact fun _ => ⟨h3.1, h3.2.1, by show g.e.a < R.ps (g.p + 1); have := h3.2.2; omega⟩
                · exact bad_ins (by decide)
              · rw [if_neg h0]; exact bad_ins h0
            · split
              · rename_i h
                exact ih .op a d ha (fun _ => hR.is_lt h) trivial
              · exact ih .nm a d ha (fun h => by cases h) trivial
    | gr =>
      simp only [rd]
      split
      · rename_i h
        have hlt := hR.is_lt h
        split
        · exact bad_ins (by decide)
        · have h2 := ih (.lev 1) (a + 1) (d + 1) hlt (fun h => by cases h) trivial
          generalize rd R f (.lev 1) (a + 1) (d + 1) = g at h2 ⊢
          by_cases h0 : g.r = 0
          · rw [if_pos h0]
            have h3 := h2 h0
            have h7 := hM.lt a (a + 1) (by omega) hlt
            exact fun _ => ⟨h3.1, by show R.ps a ≤ g.e.a; have := h3.2.1; omega, h3.2.2⟩
          · rw [if_neg h0]; exact bad_ins h0
      · exact bad_ins (by decide)
    | op =>
      simp only [rd]
      have hlt := hth rfl
      have h1 := rd_in hR f .gr (a + 1) d hlt (fun h => by cases h)
      have h2 := ih .gr (a + 1) d hlt (fun h => by cases h) trivial
      generalize rd R f .gr (a + 1) d = g at h1 h2 ⊢
      by_cases h0 : g.r = 0
      · rw [if_pos h0]
        have h3 := h2 h0
        split
        · split
          · split
            · split
              · rename_i h
                have hl4 := hR.is_lt h
                have h6 := h1.1
                have h7 := hM.lt a (a + 1) (by omega) hlt
                have h8 := hM.lt a (g.p + 4) (by omega) hl4
                have h9 := hM.lt a R.n hlt (Nat.le_refl _)
                refine hld_ins (m := .op) (fun _ => rfl) ⟨⟨(Ex.ins_eq _ _).2 fun z hz => ?_, by show R.ps a < _; omega⟩, Int.le_refl _, by show R.ps a < _; omega⟩
                have : z = g.e := by simpa [eOpen, Ex.l] using hz
                rw [this]
                exact ⟨by show R.ps a ≤ _; have := h3.2.1; omega, h3.1.2, h3.1.1⟩
              · exact bad_ins (by decide)
            · exact bad_ins (by decide)
          · exact bad_ins (by decide)
        · exact bad_ins (by decide)
      · rw [if_neg h0]; exact bad_ins h0
    | nm =>
      simp only [rd]
      have hnl := hR.name_lt ha
      split
      · rename_i h
        have hlt := hnl.2.2 h
        have h9 := hM.lt a R.n (by omega) (Nat.le_refl _)
        have h8 := hM.lt a (R.name a).2.2 hlt hnl.1
        split
        · rename_i h
          have h1 := rd_in hR f .ar (R.name a).2.2 d hnl.1 (fun _ => hR.is_lt h)
          have h2 := ih .ar (R.name a).2.2 d hnl.1 (fun _ => hR.is_lt h) trivial
          generalize rd R f .ar (R.name a).2.2 d = g at h1 h2 ⊢
          by_cases h0 : g.r = 0
          · rw [if_pos h0]
            have h3 := h2 h0
            have h7 := hM.le h1.1 h1.2.1
            refine hld_ins (m := .nm) (fun _ => rfl) ⟨⟨(Ex.ins_eq _ _).2 fun z hz => ?_, h9⟩, Int.le_refl _, by show R.ps a < _; omega⟩
            have h4 := h3 z hz
            exact ⟨by show R.ps a ≤ _; have := h4.2; omega, h4.1.2, h4.1.1⟩
          · rw [if_neg h0]; exact bad_ins h0
        · intro _
          exact ⟨ins_leaf rfl h9, Int.le_refl _, h8⟩
      · exact bad_ins (by decide)
    | ar =>
      simp only [rd]
      split
      · exact bad_ins (by decide)
      · split
        · exact fun _ x hx => by cases hx
        · have h2 := ih (.an []) (a + 1) (d + 1) (hth rfl) (fun h => by cases h) (fun x hx => by cases hx)
          intro hr x hx
          have h3 := h2 hr x hx
          have h7 := hM.lt a (a + 1) (by omega) (hth rfl)
          rcases h3.2 with h | h
          · cases h
          · exact ⟨h3.1, by omega⟩
    | an acc =>
      simp only [rd]
      have h1 := rd_in hR f (.lev 1) a d ha (fun h => by cases h)
      have h2 := ih (.lev 1) a d ha (fun h => by cases h) trivial
      generalize rd R f (.lev 1) a d = g at h1 h2 ⊢
      by_cases h0 : g.r = 0
      · rw [if_pos h0]
        have h3 := h2 h0
        have hacc : ∀ x ∈ acc ++ [g.e], InsX R x := fun x hx => by
          rcases List.mem_append.1 hx with h | h
          · exact hpre x h
          · rw [List.mem_singleton.1 h]; exact h3.1
        have hsnoc : ∀ x ∈ acc ++ [g.e], x ∈ acc ∨ R.ps a ≤ x.a := fun x hx => by
          rcases List.mem_append.1 hx with h | h
          · exact .inl h
          · rw [List.mem_singleton.1 h]; exact .inr h3.2.1
        split
        · rename_i h
          have hlt := hR.is_lt h
          have h4 := ih (.an (acc ++ [g.e])) (g.p + 1) d hlt (fun h => by cases h) hacc
          intro hr x hx
          have h5 := h4 hr x hx
          have h7 := hM.le (show a ≤ g.p + 1 by have := h1.1; omega) hlt
          rcases h5.2 with h | h
          · exact ⟨h5.1, hsnoc x h⟩
          · exact ⟨h5.1, .inr (by omega)⟩
        · split
          · exact fun _ x hx => ⟨hacc x hx, hsnoc x hx⟩
          · exact bad_ins (by decide)
      · rw [if_neg h0]; exact bad_ins h0

/-- The words of a text begin one behind the other. -/
theorem toks_sorted (bs : List Int) : ∀ (m u : Nat), bs.length - u ≤ m → (toks bs u).Pairwise fun s t => s.2.1 < t.2.1 := by
  intro m
  induction m with
  | zero => intro u h; rw [toks_end (by omega)]; exact List.Pairwise.nil
  | succ m ih =>
    intro u h
    by_cases hu : u < bs.length
    · rw [toks_at hu]
      have := tl_pos (bs.drop u)
      refine List.Pairwise.cons (fun t ht => ?_) (ih _ (by omega))
      obtain ⟨v, h1, _, rfl⟩ := mem_toks bs _ _ (Nat.le_refl _) t ht
      show (u : Int) < (v : Int)
      omega
    · rw [toks_end (by omega)]; exact List.Pairwise.nil
theorem live_mono {T : ByteArray} {bs : List Int} (hb : bts T = bs) : Mono (rowT T (live bs 0)) := by
  have hs : T.size = bs.length := by rw [← hb, bts_len]
  have hp : (live bs 0).Pairwise fun s t => s.2.1 < t.2.1 := (toks_sorted bs _ 0 (Nat.le_refl _)).filter _
  have hget : ∀ i t, (live bs 0)[i]? = some t → (rowT T (live bs 0)).ps i = t.2.1 := fun i t h => by simp only [rowT, h]
  refine ⟨fun i j hij hj => ?_⟩
  have hj' : j ≤ (live bs 0).length := hj
  have hi : i < (live bs 0).length := by omega
  rw [hget i _ (List.getElem?_eq_getElem hi)]
  rcases Nat.lt_or_ge j (live bs 0).length with h | h
  · rw [hget j _ (List.getElem?_eq_getElem h)]
    exact List.pairwise_iff_getElem.1 hp i j hi h hij
  · have : (rowT T (live bs 0)).ps j = (T.size : Int) := by simp only [rowT, List.getElem?_eq_none h]
    rw [this, hs]
    obtain ⟨v, hv, he⟩ := mem_live (List.getElem_mem hi)
    rw [he]
    show (v : Int) < _
    omega
end Go.Proofs.YtbpmgghonnoooaaDoor
