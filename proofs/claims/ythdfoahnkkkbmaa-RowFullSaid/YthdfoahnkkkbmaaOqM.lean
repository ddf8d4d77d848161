/-
  THE DOCUMENT'S ORDER, AS PLAIN DATA: names in their order; what is reached by so many turns.
-/
import Derived.Test.YthdfoahnkkkbmaaOrS
namespace Go.Proofs.Ythdfoahnkkkbmaa
set_option linter.unusedVariables false
set_option linter.unusedSimpArgs false

def rput (out : List ByteArray) (s : ByteArray) : List ByteArray := if (opos out s).isSome then out else out ++ [s]
def rstep (out : List ByteArray) (p : OPr) : List ByteArray := if p.2.size = 0 then rput out p.1 else rput (rput out p.1) p.2
def rnames (l : List OPr) : List ByteArray := l.foldl rstep []
theorem rput_old {out : List ByteArray} {s : ByteArray} (h : s ∈ out) : rput out s = out := by
  obtain ⟨i, hi⟩ := opos_mem h
  unfold rput
  rw [hi]
  rfl
theorem rput_new {out : List ByteArray} {s : ByteArray} (h : s ∉ out) : rput out s = out ++ [s] := by
  unfold rput
  rw [opos_none.2 h]
  rfl
theorem rput_le (out : List ByteArray) (s : ByteArray) : out.length ≤ (rput out s).length ∧ (rput out s).length ≤ out.length + 1 := by
  unfold rput
  split <;> simp
theorem rstep_le (out : List ByteArray) (p : OPr) : out.length ≤ (rstep out p).length ∧ (rstep out p).length ≤ out.length + 2 := by
  unfold rstep
  have a := rput_le out p.1
  have b := rput_le (rput out p.1) p.2
  split <;> omega
theorem rnames_snoc (l : List OPr) (p : OPr) : rnames (l ++ [p]) = rstep (rnames l) p := by simp [rnames]
theorem know_rput {o : Od} {s : ByteArray} (hl : o.ns.length ≤ 64) : ((o.know s).2 = true ↔ (rput o.ns s).length ≤ 64) ∧ ((o.know s).2 = true → (o.know s).1.ns = rput o.ns s) := by
  by_cases hs : s ∈ o.ns
  · rw [Od.know_old hs, rput_old hs]
    exact ⟨by simp [hl], fun _ => rfl⟩
  · rw [rput_new hs]
    by_cases h64 : o.ns.length = 64
    · rw [Od.know_full hs h64]
      refine ⟨?_, fun e => Bool.noConfusion e⟩
      simp
      omega
    · rw [Od.know_new hs h64]
      refine ⟨?_, fun _ => rfl⟩
      simp
      omega
/-- What add answers, told by the names alone. -/
theorem add_code {o : Od} (hw : o.Wf) (p : OPr) : ((o.add p).2 = if oBad p = true then 1 else if 64 < (rstep o.ns p).length then 8 else 0) ∧ ((o.add p).2 = 0 → (o.add p).1.ns = rstep o.ns p) := by
  unfold Od.add
  by_cases hb : oBad p = true
  · rw [if_pos hb, if_pos hb]
    exact ⟨rfl, fun e => Nat.noConfusion e⟩
  · rw [if_neg hb, if_neg hb]
    obtain ⟨k1, k2⟩ := know_rput (s := p.1) hw.len
    have a := rput_le (rput o.ns p.1) p.2
    by_cases h1 : (o.know p.1).2 = true
    · have hns := k2 h1
      have hle := k1.1 h1
      rw [if_neg (by rw [h1]; intro h; cases h)]
      unfold rstep
      by_cases h0 : p.2.size = 0
      · rw [if_pos h0, if_pos h0, if_neg (by omega)]
        exact ⟨rfl, fun _ => hns⟩
      · rw [if_neg h0, if_neg h0]
        obtain ⟨m1, m2⟩ := know_rput (o := (o.know p.1).1) (s := p.2) (hw.know _).len
        rw [hns] at m1 m2
        by_cases h2 : ((o.know p.1).1.know p.2).2 = true
        · rw [if_neg (by rw [h2]; intro h; cases h), if_neg (by have := m1.1 h2; omega)]
          exact ⟨rfl, fun _ => m2 h2⟩
        · rw [if_pos (by simpa using h2), if_pos (by have : ¬ _ := fun h => h2 (m1.2 h); omega)]
          exact ⟨rfl, fun e => Nat.noConfusion e⟩
    · have hn : ¬ (rput o.ns p.1).length ≤ 64 := fun h => h1 (k1.2 h)
      rw [if_pos (by simpa using h1)]
      unfold rstep
      by_cases h0 : p.2.size = 0
      · rw [if_pos h0, if_pos (by omega)]
        exact ⟨rfl, fun e => Nat.noConfusion e⟩
      · rw [if_neg h0, if_pos (by omega)]
        exact ⟨rfl, fun e => Nat.noConfusion e⟩
theorem adds_rnames : ∀ {r : List OPr} {o : Od} {i : Nat}, o.Wf → (o.adds r i).2.2 = 0 → (o.adds r i).1.ns = r.foldl rstep o.ns
  | [], _, _, _, _ => rfl
  | p :: r, o, i, hw, h => by
    by_cases e : (o.add p).2 = 0
    · have he : o.adds (p :: r) i = (o.add p).1.adds r (i + 1) := by rw [Od.adds, if_neg (fun h => h e)]
      rw [he] at h ⊢
      rw [adds_rnames (hw.add p) h, List.foldl_cons, (add_code hw p).2 e]
    · rw [Od.adds, if_pos e] at h
      exact absurd h e

/-! ### what is reached -/
def rset (S : Nat → Bool) (j : Nat) : Nat → Bool := fun k => if k = j then true else S k
def rnum (N : List ByteArray) (s : ByteArray) : Nat := (opos N s).getD 0
def rone (N : List ByteArray) (S : Nat → Bool) (p : OPr) : Nat → Bool := if (!(decide (p.2.size = 0)) && S (rnum N p.1)) = true then rset S (rnum N p.2) else S
def rpass (N : List ByteArray) (l : List OPr) (S : Nat → Bool) : Nat → Bool := l.foldl (rone N) S
def rturns (N : List ByteArray) (l : List OPr) (from_ : Nat) : Nat → Nat → Bool
  | 0 => fun k => decide (k = from_)
  | t + 1 => rpass N l (rturns N l from_ t)
section
variable {N : List ByteArray} {l : List OPr}
theorem rone_mono {S : Nat → Bool} {p : OPr} {j : Nat} (h : S j = true) : rone N S p j = true := by
  unfold rone rset
  split
  · dsimp only
    split
    · rfl
    · exact h
  · exact h
theorem rpass_mono : ∀ {l : List OPr} {S : Nat → Bool} {j : Nat}, S j = true → rpass N l S j = true
  | [], _, _, h => h
  | p :: l, S, j, h => rpass_mono (l := l) (rone_mono h)
theorem rpass_hit : ∀ {l : List OPr} {S : Nat → Bool} {p : OPr}, p ∈ l → p.2.size ≠ 0 → S (rnum N p.1) = true → rpass N l S (rnum N p.2) = true
  | q :: l, S, p, hp, h2, h => by
    rcases List.mem_cons.1 hp with rfl | hp
    · refine rpass_mono (l := l) ?_
      unfold rone rset
      rw [if_pos (by simp [h2, h])]
      simp
    · exact rpass_hit (l := l) hp h2 (rone_mono h)
  | [], _, _, hp, _, _ => by cases hp
/-- All names of pairs are in N, each once. -/
structure Rnm (N : List ByteArray) (l : List OPr) : Prop where
  nd : N.Nodup
  men : ∀ s, Men l s → s ∈ N
theorem rnum_lt {s : ByteArray} (h : s ∈ N) : rnum N s < N.length := by
  obtain ⟨i, hi⟩ := opos_mem h
  unfold rnum
  rw [hi]
  exact opos_lt hi
theorem rnum_get {s : ByteArray} (h : s ∈ N) : N[rnum N s]'(rnum_lt h) = s := by
  obtain ⟨i, hi⟩ := opos_mem h
  obtain ⟨h1, h2⟩ := opos_some hi
  have : rnum N s = i := by unfold rnum; rw [hi]; rfl
  simp only [this]
  exact h2
theorem rpass_sound {a : ByteArray} : ∀ {r : List OPr} {S : Nat → Bool}, (∀ p ∈ r, p ∈ l) → Rnm N l → (∀ j (hj : j < N.length), S j = true → Rch l a N[j]) → ∀ j (hj : j < N.length), rpass N r S j = true → Rch l a N[j]
  | [], S, _, _, h, j, hj, hs => h j hj hs
  | p :: r, S, hr, hN, h, j, hj, hs => by
    refine rpass_sound (r := r) (S := rone N S p) (fun q hq => hr q (by simp [hq])) hN (fun k hk hk2 => ?_) j hj hs
    unfold rone rset at hk2
    split at hk2
    · rename_i hc
      simp only [Bool.and_eq_true, Bool.not_eq_true', decide_eq_false_iff_not] at hc
      dsimp only at hk2
      split at hk2
      · rename_i he
        have hp := hr p (by simp)
        have m1 := hN.men _ ⟨p, hp, .inl rfl⟩
        have m2 := hN.men _ ⟨p, hp, .inr ⟨hc.1, rfl⟩⟩
        have := h _ (rnum_lt m1) hc.2
        rw [rnum_get m1] at this
        have e : N[k] = p.2 := by simp only [he]; exact rnum_get m2
        rw [e]
        exact this.trans (.edge hp hc.1)
      · exact h k hk hk2
    · exact h k hk hk2
/-- Nothing more can come. -/
def Rshut (N : List ByteArray) (l : List OPr) (S : Nat → Bool) : Prop := ∀ p ∈ l, p.2.size ≠ 0 → S (rnum N p.1) = true → S (rnum N p.2) = true
theorem rone_shut {S : Nat → Bool} {p : OPr} (h : p.2.size ≠ 0 → S (rnum N p.1) = true → S (rnum N p.2) = true) : rone N S p = S := by
  unfold rone
  split
  · rename_i hc
    simp only [Bool.and_eq_true, Bool.not_eq_true', decide_eq_false_iff_not] at hc
    funext k
    unfold rset
    split
    · rename_i e; rw [e]; exact (h hc.1 hc.2).symm
    · rfl
  · rfl
theorem rpass_shut : ∀ {r : List OPr} {S : Nat → Bool}, (∀ p ∈ r, p.2.size ≠ 0 → S (rnum N p.1) = true → S (rnum N p.2) = true) → rpass N r S = S
  | [], _, _ => rfl
  | p :: r, S, h => by
    show rpass N r (rone N S p) = S
    rw [rone_shut (h p (by simp))]
    exact rpass_shut (r := r) fun q hq => h q (by simp [hq])
theorem rturns_grow (hN : Rnm N l) {f : Nat} (hf : f < N.length) : ∀ t, t + 1 ≤ (List.range N.length).countP (rturns N l f t) ∨ Rshut N l (rturns N l f t)
  | 0 => .inl (by
    have : 0 < (List.range N.length).countP (rturns N l f 0) := List.countP_pos_iff.2 ⟨f, List.mem_range.2 hf, by simp [rturns]⟩
    omega)
  | t + 1 => by
    rcases rturns_grow hN hf t with h | h
    · by_cases hs : Rshut N l (rturns N l f t)
      · refine .inr ?_
        rw [rturns, rpass_shut hs]
        exact hs
      · refine .inl ?_
        have : ∃ p ∈ l, p.2.size ≠ 0 ∧ rturns N l f t (rnum N p.1) = true ∧ rturns N l f t (rnum N p.2) = false := by
          refine Classical.byContradiction fun hn => hs fun p hp h2 h1 => ?_
          cases hx : rturns N l f t (rnum N p.2) with
          | true => rfl
          | false => exact absurd ⟨p, hp, h2, h1, hx⟩ hn
        obtain ⟨p, hp, h2, h1, h3⟩ := this
        have m2 := hN.men _ ⟨p, hp, .inr ⟨h2, rfl⟩⟩
        have := countP_lt (p := rturns N l f t) (q := rturns N l f (t + 1)) (l := List.range N.length) (fun x _ hx => rpass_mono hx) ⟨_, List.mem_range.2 (rnum_lt m2), rpass_hit hp h2 h1, h3⟩
        omega
    · refine .inr ?_
      rw [rturns, rpass_shut h]
      exact h
theorem rturns_mono {f : Nat} {j : Nat} : ∀ t, rturns N l f 0 j = true → rturns N l f t j = true
  | 0, h => h
  | t + 1, h => rpass_mono (rturns_mono t h)
theorem rturns_sound (hN : Rnm N l) {f : Nat} (hf : f < N.length) : ∀ t j (hj : j < N.length), rturns N l f t j = true → Rch l N[f] N[j]
  | 0, j, hj, h => by
    simp [rturns] at h
    subst h
    exact .refl _
  | t + 1, j, hj, h => rpass_sound (fun p hp => hp) hN (fun k hk h => rturns_sound hN hf t k hk h) j hj h
/-- After as many turns as there are names all is reached that can be. -/
theorem rturns_all (hN : Rnm N l) {f : Nat} (hf : f < N.length) {j : Nat} (hj : j < N.length) : rturns N l f N.length j = true ↔ Rch l N[f] N[j] := by
  refine ⟨rturns_sound hN hf _ j hj, fun h => ?_⟩
  have hs : Rshut N l (rturns N l f N.length) := by
    rcases rturns_grow hN hf N.length with h | h
    · have := List.countP_le_length (p := rturns N l f N.length) (l := List.range N.length)
      rw [List.length_range] at this
      omega
    · exact h
  have key : ∀ {s t : ByteArray}, Rch l s t → s ∈ N → rturns N l f N.length (rnum N s) = true → rturns N l f N.length (rnum N t) = true ∧ t ∈ N := by
    intro s t hr
    induction hr with
    | refl => exact fun hm h => ⟨h, hm⟩
    | step hp h2 _ ih => exact fun _ h => ih (hN.men _ ⟨_, hp, .inr ⟨h2, rfl⟩⟩) (hs _ hp h2 h)
  have e : ∀ k (hk : k < N.length), rnum N N[k] = k := fun k hk => by unfold rnum; rw [opos_get hN.nd hk]; rfl
  have := (key h (List.getElem_mem _) (by rw [e f hf]; exact rturns_mono _ (by simp [rturns]))).1
  rwa [e j hj] at this
end
end Go.Proofs.Ythdfoahnkkkbmaa
