/-
  WORDS BETWEEN BRACKETS are read as the same, a place later, unless they stand too deep then.
-/
import Derived.Test.YtbpmgghonnoooaaDoorEpB
import Derived.Test.YtbpmgghonnoooaaDoorEpE
namespace Go.Proofs.YtbpmgghonnoooaaDoor
set_option linter.unusedVariables false
set_option linter.unusedSimpArgs false

/-- The words of R, a word behind; behind the last one a closing bracket. -/
structure Brk (R R' : Rw) : Prop where
  ok : R.Ok
  wd : ∀ i, i < R.n → R'.wd (i + 1) = R.wd i
  kd : ∀ i, i < R.n → R'.kd (i + 1) = R.kd i
  idn : ∀ i, i < R.n → R'.idn (i + 1) = R.idn i
  ps : ∀ i, i ≤ R.n → R'.ps (i + 1) = R.ps i + 1
  cl : R'.wd (R.n + 1) = ⟨#[41]⟩
  cid : R'.idn (R.n + 1) = false
def BrkM (m : Md) (g g' : Gt) : Prop := g'.r = 12 ∨ (g'.r = 0 ∧ g'.p = g.p + 1 ∧ match m with
  | .ar => g'.e.l = g.e.l.map (Ex.sh 1)
  | .an _ => g'.e.l = g.e.l.map (Ex.sh 1)
  | _ => g'.e = g.e.sh 1)
section
variable {R R' : Rw}
theorem Brk.is_lt (h : Brk R R') {i : Nat} (l : List UInt8) (hi : i < R.n) : R'.is (i + 1) l = R.is i l := by unfold Rw.is; rw [h.wd i hi]
theorem Brk.is_yes (h : Brk R R') {i : Nat} {c : UInt8} {l : List UInt8} (hi : R.is i (c :: l) = true) : R'.is (i + 1) (c :: l) = true := by rw [h.is_lt _ (h.ok.is_lt hi)]; exact hi
theorem Brk.is_no (h : Brk R R') {i : Nat} {l : List UInt8} (hin : i ≤ R.n) (hl : l ≠ [41]) (hi : R.is i l = false) : R'.is (i + 1) l = false := by
  rcases Nat.lt_or_ge i R.n with h1 | h1
  · rw [h.is_lt _ h1]; exact hi
  · obtain rfl : i = R.n := by omega
    unfold Rw.is
    rw [h.cl, ByteArray.toList_eq]
    simpa using Ne.symm hl
theorem Brk.sgn_yes (h : Brk R R') {i l : Nat} (hi : sgnL l (R.wd i) = true) : sgnL l (R'.wd (i + 1)) = true := by rw [h.wd i (h.ok.sgnL_lt hi)]; exact hi
theorem Brk.sgn_no (h : Brk R R') {i l : Nat} (hin : i ≤ R.n) (hi : sgnL l (R.wd i) = false) : sgnL l (R'.wd (i + 1)) = false := by
  rcases Nat.lt_or_ge i R.n with h1 | h1
  · rw [h.wd i h1]; exact hi
  · obtain rfl : i = R.n := by omega
    rw [h.cl]
    exact Go.Proofs.YtbpmgghonnoooaaDoor.sgn_no (by rw [ByteArray.toList_eq]; decide)
theorem Brk.id_no (h : Brk R R') {i : Nat} (hin : i ≤ R.n) (hi : R.idn i = false) : R'.idn (i + 1) = false := by
  rcases Nat.lt_or_ge i R.n with h1 | h1
  · rw [h.idn i h1]; exact hi
  · obtain rfl : i = R.n := by omega
    exact h.cid
theorem brk_hld {m : Md} (hm : ∀ g g' : Gt, BrkM m g g' = (g'.r = 12 ∨ (g'.r = 0 ∧ g'.p = g.p + 1 ∧ g'.e = g.e.sh 1))) (e : Ex) (p q q' : Nat) (h : (hld e p q).r = 0) : BrkM m (hld e p q) (hld (e.sh 1) (p + 1) q') := by
  rw [hm]
  rcases hld_p e p q with ⟨_, h2, h3, h4⟩ | ⟨h1, _, _⟩
  · right
    rw [h2, h3]
    unfold hld
    rw [Ex.sh_ht, if_neg (by omega)]
    exact ⟨rfl, rfl, rfl⟩
  · rw [h1] at h; cases h
theorem brk_12 (m : Md) (g : Gt) (p : Nat) : BrkM m g (bad p 12) := .inl rfl
theorem brk_bad {m : Md} {g g' : Gt} (h : g'.r = 12) (p : Nat) : BrkM m g (bad p g'.r) := .inl h
end
/-- Names. -/
theorem Brk.name {R R' : Rw} (h : Brk R R') {a : Nat} (ha : a ≤ R.n) (hy : (R.name a).1 = true) : R'.name (a + 1) = (true, (R.name a).2.1, (R.name a).2.2 + 1) ∧ (R.name a).2.2 ≤ R.n := by
  refine ⟨?_, (h.ok.name_lt ha).1⟩
  unfold Rw.name at hy ⊢
  by_cases h1 : R.idn a = false
  · rw [if_pos h1] at hy; cases hy
  · have h1' : R.idn a = true := by simpa using h1
    have hlt := h.ok.id_lt h1'
    rw [if_neg h1] at hy
    rw [if_neg h1, h.idn a hlt, h.wd a hlt, if_neg h1]
    by_cases h2 : R.is (a + 1) [46] = true
    · have hlt2 := h.ok.is_lt h2
      rw [if_pos h2] at hy
      rw [if_pos h2, show a + 1 + 1 = (a + 1) + 1 from rfl, if_pos (h.is_yes h2)]
      by_cases h3 : R.idn (a + 2) = true
      · have hlt3 := h.ok.id_lt h3
        rw [if_pos h3, show a + 1 + 2 = (a + 2) + 1 by omega, h.idn _ hlt3, if_pos h3, h.wd _ hlt3]
      · rw [if_neg h3] at hy; cases hy
    · have h2' : R.is (a + 1) [46] = false := by simpa using h2
      have h2'' := h.is_no (i := a + 1) (by omega) (by decide) h2'
      rw [if_neg h2, if_neg (by rw [h2'']; decide)]
theorem rd_brk {R R' : Rw} (hB : Brk R R') : ∀ (f : Nat) (m : Md) (a d : Nat), a ≤ R.n → (m.there = true → a < R.n) → d ≤ 31 → (rd R f m a d).r = 0 → BrkM m (rd R f m a d) (rd R' f (m.sh 1) (a + 1) (d + 1)) := by
  intro f
  have hR := hB.ok
  induction f with
  | zero => intro m a d _ _ _ h; rw [rd_0] at h; cases h
  | succ f ih =>
    intro m a d ha hth hd h0
    cases m with
    | lev l =>
      show BrkM (.lev l) (rd R (f + 1) (.lev l) a d) (rd R' (f + 1) (.lev l) (a + 1) (d + 1))
      by_cases h6 : 6 ≤ l
      · rw [rd_lev6 h6] at h0
        rw [rd_lev6 h6, rd_lev6 h6]
        exact ih .sg a d ha (fun h => by cases h) hd h0
      · rw [rd_lev h6] at h0
        rw [rd_lev h6, rd_lev h6]
        have hin := rd_in hR f (.lev (l + 1)) a d ha (fun h => by cases h)
        have h1 := ih (.lev (l + 1)) a d ha (fun h => by cases h) hd
        have h2 := fun e q hq => ih (.loop l e) q d hq (fun h => by cases h) hd
        generalize rd R f (.lev (l + 1)) a d = g at h0 h1 hin ⊢
        by_cases hg : g.r = 0
        · rw [if_pos hg] at h0 ⊢
          rcases h1 hg with h3 | ⟨h3, h4, h5⟩
          · change (rd R' f (.lev (l + 1)) (a + 1) (d + 1)).r = 12 at h3
            rw [if_neg (show ¬ (rd R' f (.lev (l + 1)) (a + 1) (d + 1)).r = 0 by rw [h3]; decide)]
            exact .inl h3
          · change (rd R' f (.lev (l + 1)) (a + 1) (d + 1)).r = 0 at h3
            change (rd R' f (.lev (l + 1)) (a + 1) (d + 1)).p = g.p + 1 at h4
            change (rd R' f (.lev (l + 1)) (a + 1) (d + 1)).e = g.e.sh 1 at h5
            rw [if_pos h3, h4, h5]
            exact h2 g.e g.p hin.2.1 h0
        · rw [if_neg hg] at h0
          exact absurd h0 hg
    | loop l e =>
      show BrkM (.loop l e) (rd R (f + 1) (.loop l e) a d) (rd R' (f + 1) (.loop l (e.sh 1)) (a + 1) (d + 1))
      cases hs : sgnL l (R.wd a) with
      | false =>
        rw [rd_loop_no hs, rd_loop_no (hB.sgn_no ha hs)]
        exact .inr ⟨rfl, rfl, rfl⟩
      | true =>
        have hlt := hR.sgnL_lt hs
        have hs' := hB.sgn_yes hs
        have hin := rd_in hR f (.lev (l + 1)) (a + 1) d hlt (fun h => by cases h)
        have h1 := ih (.lev (l + 1)) (a + 1) d hlt (fun h => by cases h) hd
        rw [rd_loop_yes hs rfl] at h0
        rw [rd_loop_yes hs rfl, rd_loop_yes hs' rfl, hB.wd a hlt]
        generalize rd R f (.lev (l + 1)) (a + 1) d = g at h0 h1 hin ⊢
        by_cases hg : g.r = 0
        · rw [if_pos hg] at h0 ⊢
          rcases h1 hg with h3 | ⟨h3, h4, h5⟩
          · change (rd R' f (.lev (l + 1)) (a + 1 + 1) (d + 1)).r = 12 at h3
            rw [if_neg (show ¬ (rd R' f (.lev (l + 1)) (a + 1 + 1) (d + 1)).r = 0 by rw [h3]; decide)]
            exact .inl h3
          · change (rd R' f (.lev (l + 1)) (a + 1 + 1) (d + 1)).r = 0 at h3
            change (rd R' f (.lev (l + 1)) (a + 1 + 1) (d + 1)).p = g.p + 1 at h4
            change (rd R' f (.lev (l + 1)) (a + 1 + 1) (d + 1)).e = g.e.sh 1 at h5
            rw [if_pos h3, h4, h5, ← bin_sh]
            rcases hld_p (eBin (R.wd a) e g.e) g.p a with ⟨e1, e2, e3, e4⟩ | ⟨e1, _, _⟩
            · rw [if_pos e1, e2, e3] at h0
              have hh : hld ((eBin (R.wd a) e g.e).sh 1) (g.p + 1) (a + 1) = good ((eBin (R.wd a) e g.e).sh 1) (g.p + 1) := by unfold hld; rw [Ex.sh_ht, if_neg (by omega)]
              rw [if_pos e1, e2, e3, hh]
              exact ih (.loop l (eBin (R.wd a) e g.e)) g.p d hin.2.1 (fun h => by cases h) hd h0
            · rw [if_neg (by rw [e1]; decide)] at h0
              rw [e1] at h0; cases h0
        · rw [if_neg hg] at h0
          exact absurd h0 hg
    | sg =>
      show BrkM .sg (rd R (f + 1) .sg a d) (rd R' (f + 1) .sg (a + 1) (d + 1))
      cases hs : (R.is a [33] || R.is a [45]) with
      | false =>
        obtain ⟨q1, q2⟩ := Bool.or_eq_false_iff.1 hs
        have hs' : (R'.is (a + 1) [33] || R'.is (a + 1) [45]) = false := by rw [hB.is_no ha (by decide) q1, hB.is_no ha (by decide) q2]; rfl
        rw [rd_sg_no hs] at h0
        rw [rd_sg_no hs, rd_sg_no hs']
        exact ih .pr a d ha (fun h => by cases h) hd h0
      | true =>
        have hlt : a < R.n := by
          rcases Bool.or_eq_true_iff.1 hs with h | h
          · exact hR.is_lt h
          · exact hR.is_lt h
        have hs' : (R'.is (a + 1) [33] || R'.is (a + 1) [45]) = true := by rw [hB.is_lt _ hlt, hB.is_lt _ hlt]; exact hs
        by_cases h31 : d + 1 = 32
        · rw [rd_sg_deep hs' h31]; exact brk_12 _ _ _
        · have h1 := ih .sg (a + 1) (d + 1) hlt (fun h => by cases h) (by omega)
          rw [rd_sg_yes hs (by omega) rfl] at h0
          rw [rd_sg_yes hs (by omega) rfl, rd_sg_yes hs' h31 rfl, hB.wd a hlt, hB.ps a ha]
          generalize rd R f .sg (a + 1) (d + 1) = g at h0 h1 ⊢
          by_cases hg : g.r = 0
          · rw [if_pos hg] at h0 ⊢
            rcases h1 hg with h3 | ⟨h3, h4, h5⟩
            · change (rd R' f .sg (a + 1 + 1) (d + 1 + 1)).r = 12 at h3
              rw [if_neg (show ¬ (rd R' f .sg (a + 1 + 1) (d + 1 + 1)).r = 0 by rw [h3]; decide)]
              exact .inl h3
            · change (rd R' f .sg (a + 1 + 1) (d + 1 + 1)).r = 0 at h3
              change (rd R' f .sg (a + 1 + 1) (d + 1 + 1)).p = g.p + 1 at h4
              change (rd R' f .sg (a + 1 + 1) (d + 1 + 1)).e = g.e.sh 1 at h5
              rw [if_pos h3, h4, h5, ← un_sh]
              exact brk_hld (m := .sg) (fun _ _ => rfl) _ _ _ _ h0
          · rw [if_neg hg] at h0
            exact absurd h0 hg
    | pr =>
      show BrkM .pr (rd R (f + 1) .pr a d) (rd R' (f + 1) .pr (a + 1) (d + 1))
      by_cases hk : R.kd a = 3
      · have hlt := hR.kd_lt hk
        have hk' : R'.kd (a + 1) = 3 := by rw [hB.kd a hlt]; exact hk
        rw [rd_pr_num hk] at h0
        rw [rd_pr_num hk, rd_pr_num hk']
        cases hn : numB (R.wd a) with
        | some v =>
          have hn' : numB (R'.wd (a + 1)) = some v := by rw [hB.wd a hlt]; exact hn
          rw [numG_some hn, numG_some hn', hB.ps a ha, ← num_sh]
          exact .inr ⟨rfl, rfl, rfl⟩
        | none => rw [numG_none hn] at h0; cases h0
      · have hk' : a < R.n → ¬ R'.kd (a + 1) = 3 := fun hlt => by rw [hB.kd a hlt]; exact hk
        cases ht : R.is a [116, 114, 117, 101] with
        | true =>
          have hlt := hR.is_lt ht
          rw [rd_pr_true hk ht, rd_pr_true (hk' hlt) (by rw [hB.is_lt _ hlt]; exact ht), hB.ps a ha, ← bool_sh]
          exact .inr ⟨rfl, rfl, rfl⟩
        | false =>
          cases hf : R.is a [102, 97, 108, 115, 101] with
          | true =>
            have hlt := hR.is_lt hf
            rw [rd_pr_false hk ht hf, rd_pr_false (hk' hlt) (by rw [hB.is_lt _ hlt]; exact ht) (by rw [hB.is_lt _ hlt]; exact hf), hB.ps a ha, ← bool_sh]
            exact .inr ⟨rfl, rfl, rfl⟩
          | false =>
            cases hb : R.is a [40] with
            | true =>
              have hlt := hR.is_lt hb
              have hin := rd_in hR f .gr a d ha (fun h => by cases h)
              have h1 := ih .gr a d ha (fun h => by cases h) hd
              have e1 := rd_pr_group (f := f) (d := d) hk ht hf hb
              have e2 := rd_pr_group (f := f) (d := d + 1) (hk' hlt) (by rw [hB.is_lt _ hlt]; exact ht) (by rw [hB.is_lt _ hlt]; exact hf) (hB.is_yes hb)
              rw [e1] at h0
              rw [e1, e2]
              unfold wiG at h0 ⊢
              rw [must_one R _ _ _ tl41] at h0
              rw [must_one R _ _ _ tl41, must_one R' _ _ _ tl41]
              generalize rd R f .gr a d = g at h0 h1 hin ⊢
              by_cases hg : g.r = 0
              · rw [if_pos hg] at h0 ⊢
                by_cases hc : R.is g.p [41] = true
                · rw [if_pos hc] at ⊢
                  rcases h1 hg with h3 | ⟨h3, h4, h5⟩
                  · change (rd R' f .gr (a + 1) (d + 1)).r = 12 at h3
                    rw [if_neg (show ¬ (rd R' f .gr (a + 1) (d + 1)).r = 0 by rw [h3]; decide)]
                    exact .inl h3
                  · change (rd R' f .gr (a + 1) (d + 1)).r = 0 at h3
                    change (rd R' f .gr (a + 1) (d + 1)).p = g.p + 1 at h4
                    change (rd R' f .gr (a + 1) (d + 1)).e = g.e.sh 1 at h5
                    rw [if_pos h3, h4, h5, if_pos (hB.is_yes hc)]
                    exact .inr ⟨rfl, rfl, rfl⟩
                · rw [if_neg hc] at h0; cases h0
              · rw [if_neg hg] at h0
                exact absurd h0 hg
            | false =>
              cases hdc : R.is a [100, 101, 99, 108, 97, 115, 115, 105, 102, 121] with
              | true =>
                have hlt := hR.is_lt hdc
                have e1 := rd_pr_open (f := f) (d := d) hk ht hf hb hdc
                rw [e1] at h0
                rw [e1, rd_pr_open (hk' hlt) (by rw [hB.is_lt _ hlt]; exact ht) (by rw [hB.is_lt _ hlt]; exact hf) (by rw [hB.is_lt _ hlt]; exact hb) (hB.is_yes hdc)]
                exact ih .op a d ha (fun _ => hlt) hd h0
              | false =>
                have e1 := rd_pr_named (f := f) (d := d) hk ht hf hb hdc
                rw [e1] at h0
                have h1 := ih .nm a d ha (fun h => by cases h) hd h0
                rcases Nat.lt_or_ge a R.n with hlt | hge
                · rw [e1, rd_pr_named (hk' hlt) (by rw [hB.is_lt _ hlt]; exact ht) (by rw [hB.is_lt _ hlt]; exact hf) (by rw [hB.is_lt _ hlt]; exact hb) (by rw [hB.is_lt _ hlt]; exact hdc)]
                  exact h1
                · have hin := rd_in hR f .nm a d ha (fun h => by cases h)
                  have := hin.2.2 h0 rfl
                  have := hin.2.1
                  omega
    | gr =>
      show BrkM .gr (rd R (f + 1) .gr a d) (rd R' (f + 1) .gr (a + 1) (d + 1))
      cases hb : R.is a [40] with
      | false => rw [rd_gr_no hb] at h0; cases h0
      | true =>
        have hlt := hR.is_lt hb
        by_cases h31 : d + 1 = 32
        · rw [rd_gr_deep (hB.is_yes hb) h31]; exact brk_12 _ _ _
        · have h1 := ih (.lev 1) (a + 1) (d + 1) hlt (fun h => by cases h) (by omega)
          rw [rd_gr_yes hb (by omega) rfl] at h0
          rw [rd_gr_yes hb (by omega) rfl, rd_gr_yes (hB.is_yes hb) h31 rfl]
          generalize rd R f (.lev 1) (a + 1) (d + 1) = g at h0 h1 ⊢
          by_cases hg : g.r = 0
          · rw [if_pos hg] at h0 ⊢
            rcases h1 hg with h3 | ⟨h3, h4, h5⟩
            · change (rd R' f (.lev 1) (a + 1 + 1) (d + 1 + 1)).r = 12 at h3
              rw [if_neg (show ¬ (rd R' f (.lev 1) (a + 1 + 1) (d + 1 + 1)).r = 0 by rw [h3]; decide)]
              exact .inl h3
            · change (rd R' f (.lev 1) (a + 1 + 1) (d + 1 + 1)).r = 0 at h3
              change (rd R' f (.lev 1) (a + 1 + 1) (d + 1 + 1)).p = g.p + 1 at h4
              change (rd R' f (.lev 1) (a + 1 + 1) (d + 1 + 1)).e = g.e.sh 1 at h5
              rw [if_pos h3, h4, h5]
              exact .inr ⟨rfl, rfl, rfl⟩
          · rw [if_neg hg] at h0
            exact absurd h0 hg
    | op =>
      show BrkM .op (rd R (f + 1) .op a d) (rd R' (f + 1) .op (a + 1) (d + 1))
      have hlt := hth rfl
      have hin := rd_in hR f .gr (a + 1) d hlt (fun h => by cases h)
      have h1 := ih .gr (a + 1) d hlt (fun h => by cases h) hd
      simp only [rd] at h0 ⊢
      rw [hB.ps a ha]
      generalize rd R f .gr (a + 1) d = g at h0 h1 hin ⊢
      by_cases hg : g.r = 0
      · rw [if_pos hg] at h0 ⊢
        rcases h1 hg with h3 | ⟨h3, h4, h5⟩
        · change (rd R' f .gr (a + 1 + 1) (d + 1)).r = 12 at h3
          rw [if_neg (show ¬ (rd R' f .gr (a + 1 + 1) (d + 1)).r = 0 by rw [h3]; decide)]
          exact .inl h3
        · change (rd R' f .gr (a + 1 + 1) (d + 1)).r = 0 at h3
          change (rd R' f .gr (a + 1 + 1) (d + 1)).p = g.p + 1 at h4
          change (rd R' f .gr (a + 1 + 1) (d + 1)).e = g.e.sh 1 at h5
          rw [if_pos h3, h4, h5]
          by_cases c1 : R.is g.p [44] = true
          · rw [if_pos c1] at h0 ⊢
            rw [if_pos (hB.is_yes c1)]
            by_cases c2 : R.is (g.p + 1) [64] = true
            · rw [if_pos c2] at h0 ⊢
              rw [if_pos (show R'.is (g.p + 1 + 1) [64] = true from hB.is_yes c2)]
              by_cases c3 : R.idn (g.p + 2) = true
              · have l3 := hR.id_lt c3
                rw [if_pos c3] at h0 ⊢
                rw [show g.p + 1 + 2 = g.p + 2 + 1 by omega, if_pos (show R'.idn (g.p + 2 + 1) = true by rw [hB.idn _ l3]; exact c3)]
                by_cases c4 : R.is (g.p + 3) [41] = true
                · rw [if_pos c4] at h0 ⊢
                  rw [show g.p + 1 + 3 = g.p + 3 + 1 by omega, if_pos (hB.is_yes c4), hB.wd _ l3, ← open_sh, show g.p + 1 + 4 = g.p + 4 + 1 by omega]
                  exact brk_hld (m := .op) (fun _ _ => rfl) _ _ _ _ h0
                · rw [if_neg c4] at h0; cases h0
              · rw [if_neg c3] at h0; cases h0
            · rw [if_neg c2] at h0; cases h0
          · rw [if_neg c1] at h0; cases h0
      · rw [if_neg hg] at h0
        exact absurd h0 hg
    | nm =>
      show BrkM .nm (rd R (f + 1) .nm a d) (rd R' (f + 1) .nm (a + 1) (d + 1))
      have e1 := rd_nm (f := f) (d := d) (R := R) (a := a) rfl rfl
      rw [e1] at h0
      by_cases hy : (R.name a).1 = true
      · obtain ⟨hn', hkn⟩ := hB.name ha hy
        have e2 := rd_nm (f := f) (d := d + 1) hn' rfl
        rw [e1, e2, if_pos rfl]
        rw [if_pos hy] at h0 ⊢
        by_cases h40 : R.is (R.name a).2.2 [40] = true
        · have h1 := ih .ar (R.name a).2.2 d hkn (fun _ => hR.is_lt h40) hd
          rw [if_pos h40] at h0 ⊢
          rw [if_pos (hB.is_yes h40), hB.ps a ha]
          dsimp only
          generalize rd R f .ar (R.name a).2.2 d = g at h0 h1 ⊢
          by_cases hg : g.r = 0
          · rw [if_pos hg] at h0 ⊢
            rcases h1 hg with h3 | ⟨h3, h4, h5⟩
            · change (rd R' f .ar ((R.name a).2.2 + 1) (d + 1)).r = 12 at h3
              rw [if_neg (show ¬ (rd R' f .ar ((R.name a).2.2 + 1) (d + 1)).r = 0 by rw [h3]; decide)]
              exact .inl h3
            · change (rd R' f .ar ((R.name a).2.2 + 1) (d + 1)).r = 0 at h3
              change (rd R' f .ar ((R.name a).2.2 + 1) (d + 1)).p = g.p + 1 at h4
              change (rd R' f .ar ((R.name a).2.2 + 1) (d + 1)).e.l = g.e.l.map (Ex.sh 1) at h5
              rw [if_pos h3, h4, h5, ← call_sh]
              exact brk_hld (m := .nm) (fun _ _ => rfl) _ _ _ _ h0
          · rw [if_neg hg] at h0
            exact absurd h0 hg
        · have h40' : R.is (R.name a).2.2 [40] = false := by simpa using h40
          have h40'' := hB.is_no hkn (by decide) h40'
          rw [if_neg h40]
          dsimp only
          rw [if_neg (by rw [h40'']; decide), hB.ps a ha, ← name_sh]
          exact .inr ⟨rfl, rfl, rfl⟩
      · rw [if_neg hy] at h0; cases h0
    | ar =>
      show BrkM .ar (rd R (f + 1) .ar a d) (rd R' (f + 1) .ar (a + 1) (d + 1))
      have hlt := hth rfl
      by_cases h31 : d + 1 = 32
      · rw [rd_ar_deep h31]; exact brk_12 _ _ _
      · cases hc : R.is (a + 1) [41] with
        | true =>
          rw [rd_ar_none (by omega) hc, rd_ar_none h31 (hB.is_yes hc)]
          exact .inr ⟨rfl, rfl, rfl⟩
        | false =>
          rw [rd_ar_yes (by omega) hc] at h0
          have h1 := ih (.an []) (a + 1) (d + 1) hlt (fun h => by cases h) (by omega) h0
          have hin := rd_in hR f (.an []) (a + 1) (d + 1) hlt (fun h => by cases h)
          have hlt2 := hin.2.2 h0 rfl
          have hlt3 : a + 1 < R.n := by have := hin.2.1; omega
          rw [rd_ar_yes (by omega) hc, rd_ar_yes h31 (show R'.is (a + 1 + 1) [41] = false by rw [hB.is_lt _ hlt3]; exact hc)]
          exact h1
    | an acc =>
      show BrkM (.an acc) (rd R (f + 1) (.an acc) a d) (rd R' (f + 1) (.an (acc.map (Ex.sh 1))) (a + 1) (d + 1))
      have hin := rd_in hR f (.lev 1) a d ha (fun h => by cases h)
      have h1 := ih (.lev 1) a d ha (fun h => by cases h) hd
      have h2 := fun k q hq => ih (.an k) q d hq (fun h => by cases h) hd
      rw [rd_an rfl] at h0
      rw [rd_an rfl, rd_an rfl]
      generalize rd R f (.lev 1) a d = g at h0 h1 hin ⊢
      by_cases hg : g.r = 0
      · rw [if_pos hg] at h0 ⊢
        rcases h1 hg with h3 | ⟨h3, h4, h5⟩
        · change (rd R' f (.lev 1) (a + 1) (d + 1)).r = 12 at h3
          rw [if_neg (show ¬ (rd R' f (.lev 1) (a + 1) (d + 1)).r = 0 by rw [h3]; decide)]
          exact .inl h3
        · change (rd R' f (.lev 1) (a + 1) (d + 1)).r = 0 at h3
          change (rd R' f (.lev 1) (a + 1) (d + 1)).p = g.p + 1 at h4
          change (rd R' f (.lev 1) (a + 1) (d + 1)).e = g.e.sh 1 at h5
          rw [if_pos h3, h4, h5]
          have he : acc.map (Ex.sh 1) ++ [g.e.sh 1] = (acc ++ [g.e]).map (Ex.sh 1) := by rw [List.map_append]; rfl
          rw [he]
          by_cases c1 : R.is g.p [44] = true
          · rw [if_pos c1] at h0 ⊢
            rw [if_pos (hB.is_yes c1)]
            exact h2 (acc ++ [g.e]) (g.p + 1) (hR.is_lt c1) h0
          · have c1' : R.is g.p [44] = false := by simpa using c1
            rw [if_neg c1] at h0 ⊢
            rw [if_neg (show ¬ R'.is (g.p + 1) [44] = true by rw [hB.is_no hin.2.1 (by decide) c1']; decide)]
            by_cases c2 : R.is g.p [41] = true
            · rw [if_pos c2] at h0 ⊢
              rw [if_pos (hB.is_yes c2)]
              exact .inr ⟨rfl, rfl, rfl⟩
            · rw [if_neg c2] at h0; cases h0
      · rw [if_neg hg] at h0
        exact absurd h0 hg
end Go.Proofs.YtbpmgghonnoooaaDoor
