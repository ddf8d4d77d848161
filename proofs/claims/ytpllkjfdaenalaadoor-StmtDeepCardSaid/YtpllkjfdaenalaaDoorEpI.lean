/-
  WHERE PARTS BEGIN: no sooner than the whole, ahead of the end.
  CONTRACTS OF A CURSOR THAT IS NONE; what Parse's answers are like.
-/
import Derived.Test.YtpllkjfdaenalaaDoorMEp
import Derived.Test.YtpllkjfdaenalaaDoorMEu
import Derived.Test.YtpllkjfdaenalaaDoorEpX
namespace Go.Proofs.YtpllkjfdaenalaaDoor
set_option linter.unusedVariables false
set_option linter.unusedSimpArgs false

/-- Words begin one behind the other. -/
structure Mono (R : Rw) : Prop where
  lt : ∀ i j, i < j → j ≤ R.n → R.ps i < R.ps j
theorem Mono.le {R : Rw} (h : Mono R) {i j : Nat} (hij : i ≤ j) (hj : j ≤ R.n) : R.ps i ≤ R.ps j := by
  rcases Nat.lt_or_ge i j with h1 | h1
  · have := h.lt i j h1 hj; omega
  · obtain rfl : i = j := by omega
    omega
def InsX (R : Rw) (e : Ex) : Prop := e.ins (R.ps R.n) ∧ e.a < R.ps R.n
def Md.pins (R : Rw) : Md → Nat → Prop
  | .loop _ e, a => InsX R e ∧ e.a < R.ps a
  | .an acc, _ => ∀ x ∈ acc, InsX R x
  | _, _ => True
def InsR (R : Rw) (m : Md) (a : Nat) (g : Gt) : Prop := g.r = 0 → match m with
  | .loop _ e => InsX R g.e ∧ g.e.a = e.a ∧ g.e.a < R.ps g.p
  | .ar => ∀ x ∈ g.e.l, InsX R x ∧ R.ps a ≤ x.a
  | .an acc => ∀ x ∈ g.e.l, InsX R x ∧ (x ∈ acc ∨ R.ps a ≤ x.a)
  | _ => InsX R g.e ∧ R.ps a ≤ g.e.a ∧ g.e.a < R.ps g.p
theorem bad_ins {R : Rw} {m : Md} {a p : Nat} {r : Int} (h : r ≠ 0) : InsR R m a (bad p r) := fun e => absurd e h
theorem hld_ins {R : Rw} {m : Md} {e : Ex} {a p q : Nat} (hm : ∀ g : Gt, InsR R m a g = (g.r = 0 → InsX R g.e ∧ R.ps a ≤ g.e.a ∧ g.e.a < R.ps g.p)) (h : InsX R e ∧ R.ps a ≤ e.a ∧ e.a < R.ps p) : InsR R m a (hld e p q) := by
  rw [hm]
  intro h0
  rcases hld_p e p q with ⟨_, h2, h3, h4⟩ | ⟨h1, _, _⟩
  · rw [h2, h3]; exact h
  · rw [h1] at h0; cases h0
theorem ins_leaf {R : Rw} {e : Ex} (h : e.l = []) (ha : e.a < R.ps R.n) : InsX R e := ⟨(e.ins_eq _).2 (fun x hx => by rw [h] at hx; cases hx), ha⟩
theorem rd_ins {R : Rw} (hR : R.Ok) (hM : Mono R) : ∀ (f : Nat) (m : Md) (a d : Nat), a ≤ R.n → (m.there = true → a < R.n) → m.pins R a → InsR R m a (rd R f m a d) := by
  intro f
  induction f with
  | zero => intro m a d ha _ _; rw [rd_0]; exact bad_ins (by decide)
  | succ f ih =>
    intro m a d ha hth hpre
    cases m with
    | lev l =>
      by_cases h6 : 6 ≤ l
      · rw [rd_lev6 h6]; exact ih .sg a d ha (fun h => by cases h) trivial
      · rw [rd_lev h6]
        have h1 := rd_in hR f (.lev (l + 1)) a d ha (fun h => by cases h)
        have h2 := ih (.lev (l + 1)) a d ha (fun h => by cases h) trivial
        generalize rd R f (.lev (l + 1)) a d = g at h1 h2 ⊢
        by_cases h0 : g.r = 0
        · rw [if_pos h0]
          have h3 := h2 h0
          have h4 := ih (.loop l g.e) g.p d h1.2.1 (fun h => by cases h) ⟨h3.1, h3.2.2⟩
          intro hr
          have h5 := h4 hr
          exact ⟨h5.1, by rw [h5.2.1]; exact h3.2.1, h5.2.2⟩
        · rw [if_neg h0]; exact bad_ins h0
    | loop l e =>
      simp only [rd]
      by_cases hs : sgnL l (R.wd a) = true
      · rw [if_pos hs]
        have hlt := hR.sgnL_lt hs
        have h1 := rd_in hR f (.lev (l + 1)) (a + 1) d hlt (fun h => by cases h)
        have h2 := ih (.lev (l + 1)) (a + 1) d hlt (fun h => by cases h) trivial
        generalize rd R f (.lev (l + 1)) (a + 1) d = g at h1 h2 ⊢
        by_cases h0 : g.r = 0
        · rw [if_pos h0]
          have h3 := h2 h0
          have hb : InsX R (eBin (R.wd a) e g.e) ∧ e.a < R.ps g.p := by
            have hpe : e.a < R.ps a := hpre.2
            have hx : InsX R e := hpre.1
            have h7 := hM.lt a (a + 1) (by omega) hlt
            have h8 := hM.le h1.1 h1.2.1
            have h9 := hM.le h1.2.1 (Nat.le_refl _)
            refine ⟨⟨(Ex.ins_eq _ _).2 fun z hz => ?_, hx.2⟩, by omega⟩
            have : z = e ∨ z = g.e := by simpa [eBin, Ex.l] using hz
            rcases this with rfl | rfl
            · exact ⟨Int.le_refl _, hx.2, hx.1⟩
            · exact ⟨by show e.a ≤ _; have := h3.2.1; omega, h3.1.2, h3.1.1⟩
          rcases hld_p (eBin (R.wd a) e g.e) g.p a with ⟨e1, e2, e3, e4⟩ | ⟨e1, e2, e3⟩
          · rw [if_pos e1, e2, e3]
            have h4 := ih (.loop l (eBin (R.wd a) e g.e)) g.p d h1.2.1 (fun h => by cases h) ⟨hb.1, hb.2⟩
            intro hr
            have h5 := h4 hr
            exact ⟨h5.1, h5.2.1, h5.2.2⟩
          · rw [if_neg (by rw [e1]; decide), e1]; exact bad_ins (by decide)
        · rw [if_neg h0]; exact bad_ins h0
      · rw [if_neg hs]; exact fun _ => ⟨hpre.1, rfl, hpre.2⟩
    | sg =>
      simp only [rd]
      by_cases hs : (R.is a [33] || R.is a [45]) = true
      · rw [if_pos hs]
        have hlt : a < R.n := by
          rcases Bool.or_eq_true_iff.1 hs with h | h
          · exact hR.is_lt h
          · exact hR.is_lt h
        by_cases hd : d = 32
        · rw [if_pos hd]; exact bad_ins (by decide)
        · rw [if_neg hd]
          have h1 := rd_in hR f .sg (a + 1) (d + 1) hlt (fun h => by cases h)
          have h2 := ih .sg (a + 1) (d + 1) hlt (fun h => by cases h) trivial
          generalize rd R f .sg (a + 1) (d + 1) = g at h1 h2 ⊢
          by_cases h0 : g.r = 0
          · rw [if_pos h0]
            have h3 := h2 h0
            have h7 := hM.lt a (a + 1) (by omega) hlt
            have h8 := hM.le h1.1 h1.2.1
            have h9 := hM.le h1.2.1 (Nat.le_refl _)
            refine hld_ins (m := .sg) (fun _ => rfl) ⟨⟨(Ex.ins_eq _ _).2 fun z hz => ?_, by show R.ps a < _; omega⟩, Int.le_refl _, by show R.ps a < _; omega⟩
            have : z = g.e := by simpa [eUn, Ex.l] using hz
            rw [this]
            exact ⟨by show R.ps a ≤ _; have := h3.2.1; omega, h3.1.2, h3.1.1⟩
          · rw [if_neg h0]; exact bad_ins h0
      · rw [if_neg hs]; exact ih .pr a d ha (fun h => by cases h) trivial
    | pr =>
      simp only [rd]
      have hleaf : ∀ e : Ex, e.l = [] → e.a = R.ps a → a < R.n → InsR R .pr a (good e (a + 1)) := fun e he hea hlt _ => by
        have h7 := hM.lt a (a + 1) (by omega) hlt
        have h9 := hM.lt a R.n hlt (Nat.le_refl _)
        exact ⟨ins_leaf he (by show e.a < R.ps R.n; rw [hea]; exact h9), by show R.ps a ≤ e.a; omega, by show e.a < R.ps (a + 1); omega⟩
      split
      · rename_i h
        have hlt := hR.kd_lt h
        split
        · exact hleaf _ rfl rfl hlt
        · exact bad_ins (by decide)
      · split
        · rename_i h; exact hleaf _ rfl rfl (hR.is_lt h)
        · split
          · rename_i h; exact hleaf _ rfl rfl (hR.is_lt h)
          · split
            · have h1 := rd_in hR f .gr a d ha (fun h => by cases h)
              have h2 := ih .gr a d ha (fun h => by cases h) trivial
              generalize rd R f .gr a d = g at h1 h2 ⊢
              by_cases h0 : g.r = 0
              · rw [if_pos h0]
                have h3 := h2 h0
                split
                · rename_i h
                  have hlt := hR.is_lt h
                  have h7 := hM.lt g.p (g.p + 1) (by omega) hlt
                  exact fun _ => ⟨h3.1, h3.2.1, by show g.e.a < R.ps (g.p + 1); have := h3.2.2; omega⟩
                · exact bad_ins (by decide)
              · rw [if_neg h0]; exact bad_ins h0
            · split
              · rename_i h
                exact ih .op a d ha (fun _ => hR.is_lt h) trivial
              · exact ih .nm a d ha (fun h => by cases h) trivial
    | gr =>
      simp only [rd]
      split
      · rename_i h
        have hlt := hR.is_lt h
        split
        · exact bad_ins (by decide)
        · have h2 := ih (.lev 1) (a + 1) (d + 1) hlt (fun h => by cases h) trivial
          generalize rd R f (.lev 1) (a + 1) (d + 1) = g at h2 ⊢
          by_cases h0 : g.r = 0
          · rw [if_pos h0]
            have h3 := h2 h0
            have h7 := hM.lt a (a + 1) (by omega) hlt
            exact fun _ => ⟨h3.1, by show R.ps a ≤ g.e.a; have := h3.2.1; omega, h3.2.2⟩
          · rw [if_neg h0]; exact bad_ins h0
      · exact bad_ins (by decide)
    | op =>
      simp only [rd]
      have hlt := hth rfl
      have h1 := rd_in hR f .gr (a + 1) d hlt (fun h => by cases h)
      have h2 := ih .gr (a + 1) d hlt (fun h => by cases h) trivial
      generalize rd R f .gr (a + 1) d = g at h1 h2 ⊢
      by_cases h0 : g.r = 0
      · rw [if_pos h0]
        have h3 := h2 h0
        split
        · split
          · split
            · split
              · rename_i h
                have hl4 := hR.is_lt h
                have h6 := h1.1
                have h7 := hM.lt a (a + 1) (by omega) hlt
                have h8 := hM.lt a (g.p + 4) (by omega) hl4
                have h9 := hM.lt a R.n hlt (Nat.le_refl _)
                refine hld_ins (m := .op) (fun _ => rfl) ⟨⟨(Ex.ins_eq _ _).2 fun z hz => ?_, by show R.ps a < _; omega⟩, Int.le_refl _, by show R.ps a < _; omega⟩
                have : z = g.e := by simpa [eOpen, Ex.l] using hz
                rw [this]
                exact ⟨by show R.ps a ≤ _; have := h3.2.1; omega, h3.1.2, h3.1.1⟩
              · exact bad_ins (by decide)
            · exact bad_ins (by decide)
          · exact bad_ins (by decide)
        · exact bad_ins (by decide)
      · rw [if_neg h0]; exact bad_ins h0
    | nm =>
      simp only [rd]
      have hnl := hR.name_lt ha
      split
      · rename_i h
        have hlt := hnl.2.2 h
        have h9 := hM.lt a R.n (by omega) (Nat.le_refl _)
        have h8 := hM.lt a (R.name a).2.2 hlt hnl.1
        split
        · rename_i h
          have h1 := rd_in hR f .ar (R.name a).2.2 d hnl.1 (fun _ => hR.is_lt h)
          have h2 := ih .ar (R.name a).2.2 d hnl.1 (fun _ => hR.is_lt h) trivial
          generalize rd R f .ar (R.name a).2.2 d = g at h1 h2 ⊢
          by_cases h0 : g.r = 0
          · rw [if_pos h0]
            have h3 := h2 h0
            have h7 := hM.le h1.1 h1.2.1
            refine hld_ins (m := .nm) (fun _ => rfl) ⟨⟨(Ex.ins_eq _ _).2 fun z hz => ?_, h9⟩, Int.le_refl _, by show R.ps a < _; omega⟩
            have h4 := h3 z hz
            exact ⟨by show R.ps a ≤ _; have := h4.2; omega, h4.1.2, h4.1.1⟩
          · rw [if_neg h0]; exact bad_ins h0
        · intro _
          exact ⟨ins_leaf rfl h9, Int.le_refl _, h8⟩
      · exact bad_ins (by decide)
    | ar =>
      simp only [rd]
      split
      · exact bad_ins (by decide)
      · split
        · exact fun _ x hx => by cases hx
        · have h2 := ih (.an []) (a + 1) (d + 1) (hth rfl) (fun h => by cases h) (fun x hx => by cases hx)
          intro hr x hx
          have h3 := h2 hr x hx
          have h7 := hM.lt a (a + 1) (by omega) (hth rfl)
          rcases h3.2 with h | h
          · cases h
          · exact ⟨h3.1, by omega⟩
    | an acc =>
      simp only [rd]
      have h1 := rd_in hR f (.lev 1) a d ha (fun h => by cases h)
      have h2 := ih (.lev 1) a d ha (fun h => by cases h) trivial
      generalize rd R f (.lev 1) a d = g at h1 h2 ⊢
      by_cases h0 : g.r = 0
      · rw [if_pos h0]
        have h3 := h2 h0
        have hacc : ∀ x ∈ acc ++ [g.e], InsX R x := fun x hx => by
          rcases List.mem_append.1 hx with h | h
          · exact hpre x h
          · rw [List.mem_singleton.1 h]; exact h3.1
        have hsnoc : ∀ x ∈ acc ++ [g.e], x ∈ acc ∨ R.ps a ≤ x.a := fun x hx => by
          rcases List.mem_append.1 hx with h | h
          · exact .inl h
          · rw [List.mem_singleton.1 h]; exact .inr h3.2.1
        split
        · rename_i h
          have hlt := hR.is_lt h
          have h4 := ih (.an (acc ++ [g.e])) (g.p + 1) d hlt (fun h => by cases h) hacc
          intro hr x hx
          have h5 := h4 hr x hx
          have h7 := hM.le (show a ≤ g.p + 1 by have := h1.1; omega) hlt
          rcases h5.2 with h | h
          · exact ⟨h5.1, hsnoc x h⟩
          · exact ⟨h5.1, .inr (by omega)⟩
        · split
          · exact fun _ x hx => ⟨hacc x hx, hsnoc x hx⟩
          · exact bad_ins (by decide)
      · rw [if_neg h0]; exact bad_ins h0

/-- The words of a text begin one behind the other. -/
theorem toks_sorted (bs : List Int) : ∀ (m u : Nat), bs.length - u ≤ m → (toks bs u).Pairwise fun s t => s.2.1 < t.2.1 := by
  intro m
  induction m with
  | zero => intro u h; rw [toks_end (by omega)]; exact List.Pairwise.nil
  | succ m ih =>
    intro u h
    by_cases hu : u < bs.length
    · rw [toks_at hu]
      have := tl_pos (bs.drop u)
      refine List.Pairwise.cons (fun t ht => ?_) (ih _ (by omega))
      obtain ⟨v, h1, _, rfl⟩ := mem_toks bs _ _ (Nat.le_refl _) t ht
      show (u : Int) < (v : Int)
      omega
    · rw [toks_end (by omega)]; exact List.Pairwise.nil
theorem live_mono {T : ByteArray} {bs : List Int} (hb : bts T = bs) : Mono (rowT T (live bs 0)) := by
  have hs : T.size = bs.length := by rw [← hb, bts_len]
  have hp : (live bs 0).Pairwise fun s t => s.2.1 < t.2.1 := (toks_sorted bs _ 0 (Nat.le_refl _)).filter _
  have hget : ∀ i t, (live bs 0)[i]? = some t → (rowT T (live bs 0)).ps i = t.2.1 := fun i t h => by simp only [rowT, h]
  refine ⟨fun i j hij hj => ?_⟩
  have hj' : j ≤ (live bs 0).length := hj
  have hi : i < (live bs 0).length := by omega
  rw [hget i _ (List.getElem?_eq_getElem hi)]
  rcases Nat.lt_or_ge j (live bs 0).length with h | h
  · rw [hget j _ (List.getElem?_eq_getElem h)]
    exact List.pairwise_iff_getElem.1 hp i j hi h hij
  · have : (rowT T (live bs 0)).ps j = (T.size : Int) := by simp only [rowT, List.getElem?_eq_none h]
    rw [this, hs]
    obtain ⟨v, hv, he⟩ := mem_live (List.getElem_mem hi)
    rw [he]
    show (v : Int) < _
    omega
end Go.Proofs.YtpllkjfdaenalaaDoor
namespace Go.Proofs.YtpllkjfdaenalaaDoor
set_option linter.unusedVariables false
set_option linter.unusedSimpArgs false
open Go.RowKit

abbrev nilP : Value := .pointer none
set_option maxRecDepth 10000 in
theorem peekN (w : World) : Calls Tryd.prog 28 #[nilP] w fun e w' => e = .returned (.string ⟨#[]⟩) ∧ w = w' := by
  go_enter Tryd.func28, Tryd.ntmps28
  go_wp2
  go_ret
  exact ⟨rfl, rfl⟩
set_option maxRecDepth 10000 in
theorem identN (w : World) : Calls Tryd.prog 29 #[nilP] w fun e w' => e = .returned (.tuple #[.string ⟨#[]⟩, .bool false]) ∧ Below w.heap.size w w' := by
  have HI : Hid (∀ W, Calls Tryd.prog 40 #[.string ⟨#[]⟩] W fun e w' => e = .returned (.bool false) ∧ Below W.heap.size W w') := Lib.hid fun W => by
    have := ident_any ⟨#[]⟩ W
    rwa [idb_e] at this
  go_enter Tryd.func29, Tryd.ntmps29
  go_wp2_with (first
    | (go_at_call 28; refine (peekN _).mono ?_; rintro e w2 ⟨rfl, rfl⟩)
    | (go_at_call 40; refine (HI.out _).mono ?_; rintro e w3 ⟨rfl, b3⟩)
    | fail)
  go_ret2
  exact ⟨rfl, b3⟩
set_option maxRecDepth 10000 in
theorem exprN (w : World) : Calls Tryd.prog 50 #[nilP] w fun e w' => e = .returned (.tuple #[exV Ex.nul (.slice none 0 0), .int .i64 1]) ∧ Below w.heap.size w w' := by
  have hz := zeroEx'
  go_enter Tryd.func50, Tryd.ntmps50
  go_wp2_with (first
    | (refine wpList_stx rfl (.tmp 2) (.tmp 6) rfl w.heap.size rfl (entry_slot w) (e := Ex.nul) (lv := .slice none 0 0) rfl rfl ?_; intro w3 hg3 hs3; have HG3 := Lib.hid hg3; have HS3 := Lib.hid hs3; clear hg3 hs3)
    | fail)
  exact ex_done rfl rfl rfl rfl HS3.out ⟨rfl, bel_fr (entry_below w) HG3.out (Nat.le_refl _) (by rw [entry_size]; omega)⟩
set_option maxRecDepth 10000 in
theorem doneN (w : World) : Calls Tryd.prog 16 #[nilP] w fun e w' => e = .returned (.bool false) ∧ Quiet w w' := by
  go_enter Tryd.func16, Tryd.ntmps16
  go_wp2
  go_quiet (fail)
  go_wp2
  go_ret
  exact ⟨rfl, ⟨_, rfl⟩⟩
set_option maxRecDepth 10000 in
theorem takeN (w : World) : Calls Tryd.prog 19 #[nilP, .string ⟨#[97]⟩] w fun e w' => e = .returned (.bool false) ∧ w = w' := by
  have e0 := empty_toList
  go_enter Tryd.func19, Tryd.ntmps19
  go_wp2_with (first
    | (go_at_call 28; refine (peekN _).mono ?_; rintro e w2 ⟨rfl, rfl⟩)
    | fail)
  go_ret
  exact ⟨rfl, rfl⟩
set_option maxRecDepth 10000 in
theorem tokenN (w : World) : Calls Tryd.prog 26 #[nilP] w (TokTo (0, 0, 0) w) := by
  have hz := zeroTok
  go_enter Tryd.func26, Tryd.ntmps26
  go_wp2
  refine bodyPost_ret (v := .agg #[.int .i64 0, .int .i64 0, .int .i64 0]) ?_ rfl ⟨rfl, (Below.refl _ w).alloc (Nat.le_refl _) _⟩
  have hr : Tryd.f26.results = #[.cell 2 48] := rfl
  have hl := tok_load (w.alloc (.cells #[.int .i64 0, .int .i64 0, .int .i64 0] 48)) w.heap.size 0 (.int .i64 0) (.int .i64 0) (.int .i64 0) (by rw [World.cell?_alloc_at _ _ _ _ rfl]; rfl) (by rw [World.cell?_alloc_at _ _ _ _ rfl]; rfl) (by rw [World.cell?_alloc_at _ _ _ _ rfl]; rfl)
  simp [results, hr, asAddr, hl]
set_option maxRecDepth 10000 in
theorem kindN (w : World) : Calls Tryd.prog 58 #[nilP] w fun e w' => e = .returned (.int .i64 0) ∧ Below w.heap.size w w' := by
  have hf0 := field_tok0
  go_enter Tryd.func58, Tryd.ntmps58
  go_wp2_with (first
    | (go_at_call 26; refine (tokenN _).mono ?_; rintro e w2 ⟨rfl, b2⟩; dsimp only)
    | fail)
  go_ret
  exact ⟨rfl, b2⟩
set_option maxRecDepth 10000 in
theorem posN (w : World) : Calls Tryd.prog 17 #[nilP] w fun e w' => e = .returned (.int .i64 0) ∧ Below w.heap.size w w' := by
  have hf1 := field_tok1
  go_enter Tryd.func17, Tryd.ntmps17
  go_wp2_with (first
    | (go_at_call 26; refine (tokenN _).mono ?_; rintro e w2 ⟨rfl, b2⟩; dsimp only)
    | fail)
  go_ret
  exact ⟨rfl, b2⟩
set_option maxRecDepth 10000 in
theorem endN (w : World) : Calls Tryd.prog 20 #[nilP] w fun e w' => e = .returned (.int .i64 0) ∧ w = w' := by
  go_enter Tryd.func20, Tryd.ntmps20
  go_wp2
  go_ret
  exact ⟨rfl, rfl⟩

/-- What Parse's answer is like. -/
theorem parse_facts {T : ByteArray} {bs : List Int} (hb : bts T = bs) (hn : bs.length ≤ 1000000) (f : Nat) :
    ((parseG (rowT T (live bs 0)) (live bs 0) f).2.2 = 0 → Fine (parseG (rowT T (live bs 0)) (live bs 0) f).1 ∧ (parseG (rowT T (live bs 0)) (live bs 0) f).1.cnt ≤ 1000000 ∧ (parseG (rowT T (live bs 0)) (live bs 0) f).1.ins (bs.length : Int) ∧ 0 ≤ (parseG (rowT T (live bs 0)) (live bs 0) f).1.a ∧ (parseG (rowT T (live bs 0)) (live bs 0) f).1.a < (bs.length : Int)) ∧
    0 ≤ (parseG (rowT T (live bs 0)) (live bs 0) f).2.1 ∧ (parseG (rowT T (live bs 0)) (live bs 0) f).2.1 ≤ (bs.length : Int) := by
  have hs : T.size = bs.length := by rw [← hb, bts_len]
  have hM := live_mono hb
  have hll := live_len bs
  have hok := row_ok T (live bs 0)
  obtain ⟨R, hR⟩ : ∃ R, rowT T (live bs 0) = R := ⟨_, rfl⟩
  have hn' : R.n = (live bs 0).length := by rw [← hR]; rfl
  have hpn : R.ps R.n = (bs.length : Int) := by
    rw [hn', ← hR]
    have : (rowT T (live bs 0)).ps (live bs 0).length = (T.size : Int) := by simp only [rowT, List.getElem?_eq_none (Nat.le_refl _)]
    rw [this]
    omega
  have h0 : 0 ≤ R.ps 0 := by
    rw [← hR]
    cases h : (live bs 0)[0]? with
    | none =>
      have : (rowT T (live bs 0)).ps 0 = (T.size : Int) := by simp only [rowT, h]
      rw [this]
      omega
    | some t =>
      have : (rowT T (live bs 0)).ps 0 = t.2.1 := by simp only [rowT, h]
      rw [this]
      obtain ⟨v, _, rfl⟩ := mem_live (List.mem_of_getElem? h)
      show (0 : Int) ≤ (v : Int)
      omega
  rw [hR] at hM hok ⊢
  have hin := rd_in hok f (.lev 1) 0 0 (Nat.zero_le _) (fun h => by cases h)
  have hfi := rd_fine hok (by omega) f (.lev 1) 0 0 (Nat.zero_le _) (fun h => by cases h) trivial
  have hns := rd_ins hok hM f (.lev 1) 0 0 (Nat.zero_le _) (fun h => by cases h) trivial
  unfold parseG
  generalize rd R f (.lev 1) 0 0 = g at hin hfi hns ⊢
  have hp0 := hM.le (Nat.zero_le g.p) hin.2.1
  have hp1 := hM.le hin.2.1 (Nat.le_refl _)
  by_cases hbd : isBad (live bs 0) = true
  · rw [if_pos hbd]
    refine ⟨(fun h => by cases h), ?_⟩
    unfold isBad at hbd
    unfold badOf
    obtain ⟨t, ht⟩ := Option.isSome_iff_exists.1 hbd
    rw [ht]
    obtain ⟨v, hv, rfl⟩ := mem_live (List.mem_of_find?_eq_some ht)
    exact ⟨by show (0 : Int) ≤ (v : Int); omega, by show (v : Int) ≤ _; omega⟩
  · rw [if_neg hbd]
    by_cases hc : g.r = 0 ∧ g.p ≠ R.n
    · rw [if_pos hc]
      exact ⟨(fun h => by cases h), by show 0 ≤ R.ps g.p; omega, by show R.ps g.p ≤ (bs.length : Int); omega⟩
    · rw [if_neg hc]
      refine ⟨fun h => ?_, by show 0 ≤ R.ps g.p; omega, by show R.ps g.p ≤ _; omega⟩
      have h : g.r = 0 := h
      have h1 := hfi h
      have h2 := hns h
      have h3 := h1.2
      have h4 := hin.2.1
      have h5 := h2.1
      unfold InsX at h5
      rw [hpn] at h5
      exact ⟨h1.1, by show g.e.cnt ≤ _; omega, h5.1, by show 0 ≤ g.e.a; have := h2.2.1; omega, h5.2⟩
end Go.Proofs.YtpllkjfdaenalaaDoor
