/-
  WHAT AN ORDER SAYS: one name is at most another one just if pairs lead from it to that.
-/
import Derived.Test.YtnbgaenajehbkaaOrM
namespace Go.Proofs.Ytnbgaenajehbkaa
set_option linter.unusedVariables false
set_option linter.unusedSimpArgs false

/-- Pairs lead from a to b. -/
inductive Rch (l : List OPr) : ByteArray → ByteArray → Prop
  | refl (a : ByteArray) : Rch l a a
  | step {p : OPr} {b : ByteArray} (hp : p ∈ l) (h2 : p.2.size ≠ 0) (h : Rch l p.2 b) : Rch l p.1 b
theorem Rch.trans {l : List OPr} {a b c : ByteArray} (h : Rch l a b) (k : Rch l b c) : Rch l a c := by
  induction h with
  | refl => exact k
  | step hp h2 _ ih => exact .step hp h2 (ih k)
theorem Rch.edge {l : List OPr} {p : OPr} (hp : p ∈ l) (h2 : p.2.size ≠ 0) : Rch l p.1 p.2 := .step hp h2 (.refl _)
/-- Names of pairs. -/
def Men (l : List OPr) (s : ByteArray) : Prop := ∃ p ∈ l, s = p.1 ∨ (p.2.size ≠ 0 ∧ s = p.2)
theorem Men.snoc {l : List OPr} {p : OPr} {s : ByteArray} : Men (l ++ [p]) s ↔ Men l s ∨ s = p.1 ∨ (p.2.size ≠ 0 ∧ s = p.2) := by
  unfold Men
  constructor
  · rintro ⟨q, hq, h⟩
    rcases List.mem_append.1 hq with hq | hq
    · exact .inl ⟨q, hq, h⟩
    · rw [List.mem_singleton.1 hq] at h; exact .inr h
  · rintro (⟨q, hq, h⟩ | h)
    · exact ⟨q, List.mem_append_left _ hq, h⟩
    · exact ⟨p, by simp, h⟩
def Edg (l : List OPr) (a b : ByteArray) : Prop := ∃ p ∈ l, p.2.size ≠ 0 ∧ a = p.1 ∧ b = p.2
theorem Edg.snoc {l : List OPr} {p : OPr} {a b : ByteArray} : Edg (l ++ [p]) a b ↔ Edg l a b ∨ (p.2.size ≠ 0 ∧ a = p.1 ∧ b = p.2) := by
  unfold Edg
  constructor
  · rintro ⟨q, hq, h⟩
    rcases List.mem_append.1 hq with hq | hq
    · exact .inl ⟨q, hq, h⟩
    · rw [List.mem_singleton.1 hq] at h; exact .inr h
  · rintro (⟨q, hq, h⟩ | h)
    · exact ⟨q, List.mem_append_left _ hq, h⟩
    · exact ⟨p, by simp, h⟩

/-- What is known while pairs P come in. -/
structure Oiv (o : Od) (P : List OPr) : Prop where
  wf : o.Wf
  men : ∀ s, s ∈ o.ns ↔ Men P s
  bits : ∀ i (hi : i < o.ns.length) j, (o.be i).testBit j = true ↔ ∃ hj : j < o.ns.length, i = j ∨ Edg P o.ns[j] o.ns[i]
  bits2 : ∀ i (hi : i < o.ns.length) j, (o.ab i).testBit j = true ↔ ∃ hj : j < o.ns.length, i = j ∨ Edg P o.ns[i] o.ns[j]
theorem Oiv.zero : Oiv Od.zero [] := ⟨Od.Wf.zero, fun s => by simp [Od.zero, Men], fun i hi => absurd hi (by simp [Od.zero]), fun i hi => absurd hi (by simp [Od.zero])⟩
theorem pow_bit (n j : Nat) : (2 ^ n).testBit j = true ↔ n = j := by
  rw [Nat.testBit_two_pow]; simp
theorem opos_eq {l : List ByteArray} {s : ByteArray} {j : Nat} (hd : l.Nodup) (hj : j < l.length) (h : l[j] = s) : opos l s = some j := by
  rw [← h]; exact opos_get hd hj
theorem edg_men {P : List OPr} {a b : ByteArray} (h : Edg P a b) : Men P a ∧ Men P b := by
  obtain ⟨p, hp, h2, rfl, rfl⟩ := h
  exact ⟨⟨p, hp, .inl rfl⟩, ⟨p, hp, .inr ⟨h2, rfl⟩⟩⟩
/-- With one more name (whose pair isn't in P yet). -/
structure Oiw (o : Od) (P : List OPr) (S : ByteArray → Prop) : Prop where
  wf : o.Wf
  men : ∀ s, s ∈ o.ns ↔ Men P s ∨ S s
  bits : ∀ i (hi : i < o.ns.length) j, (o.be i).testBit j = true ↔ ∃ hj : j < o.ns.length, i = j ∨ Edg P o.ns[j] o.ns[i]
  bits2 : ∀ i (hi : i < o.ns.length) j, (o.ab i).testBit j = true ↔ ∃ hj : j < o.ns.length, i = j ∨ Edg P o.ns[i] o.ns[j]
theorem Oiw.know {o : Od} {P : List OPr} {S : ByteArray → Prop} (h : Oiw o P S) (s : ByteArray) (hk : (o.know s).2 = true) : Oiw (o.know s).1 P (fun t => S t ∨ t = s) := by
  by_cases hs : s ∈ o.ns
  · rw [Od.know_old hs]
    refine ⟨h.wf, fun t => ?_, h.bits, h.bits2⟩
    rw [h.men]
    constructor
    · rintro (a | a)
      · exact .inl a
      · exact .inr (.inl a)
    · rintro (a | a | a)
      · exact .inl a
      · exact .inr a
      · rw [a]; exact (h.men s).1 hs
  · by_cases hl : o.ns.length = 64
    · rw [Od.know_full hs hl] at hk; cases hk
    · have hw := h.wf.know s
      rw [Od.know_new hs hl] at hw ⊢
      have hnm : ∀ t, Men P t → t ≠ s := fun t ht e => hs (by rw [← e]; exact (h.men t).2 (.inl ht))
      refine ⟨hw, fun t => ?_, fun i hi j => ?_, fun i hi j => ?_⟩
      · show t ∈ o.ns ++ [s] ↔ _
        rw [List.mem_append, h.men, List.mem_singleton]
        exact or_assoc
      · show (oup o.be o.ns.length (2 ^ o.ns.length) i).testBit j = true ↔ ∃ hj : j < (o.ns ++ [s]).length, i = j ∨ Edg P (o.ns ++ [s])[j] (o.ns ++ [s])[i]
        have hi' : i < o.ns.length + 1 := by simpa using hi
        by_cases e : i = o.ns.length
        · subst e
          rw [oup_same, pow_bit]
          constructor
          · intro e; subst e; exact ⟨by simp, .inl rfl⟩
          · rintro ⟨hj, e | e⟩
            · exact e
            · have := (edg_men e).2
              simp at this
              exact absurd rfl (hnm _ this)
        · have hi2 : i < o.ns.length := by omega
          rw [oup_other _ _ e, h.bits i hi2]
          constructor
          · rintro ⟨hj, e⟩
            refine ⟨by simp; omega, e.imp id fun e => ?_⟩
            rw [List.getElem_append_left hj, List.getElem_append_left hi2]
            exact e
          · rintro ⟨hj, e⟩
            have hj' : j < o.ns.length + 1 := by simpa using hj
            by_cases ej : j = o.ns.length
            · rcases e with e | e
              · omega
              · subst ej
                have := (edg_men e).1
                simp at this
                exact absurd rfl (hnm _ this)
            · have hj2 : j < o.ns.length := by omega
              rw [List.getElem_append_left hj2, List.getElem_append_left hi2] at e
              exact ⟨hj2, e⟩
      · show (oup o.ab o.ns.length (2 ^ o.ns.length) i).testBit j = true ↔ ∃ hj : j < (o.ns ++ [s]).length, i = j ∨ Edg P (o.ns ++ [s])[i] (o.ns ++ [s])[j]
        have hi' : i < o.ns.length + 1 := by simpa using hi
        by_cases e : i = o.ns.length
        · subst e
          rw [oup_same, pow_bit]
          constructor
          · intro e; subst e; exact ⟨by simp, .inl rfl⟩
          · rintro ⟨hj, e | e⟩
            · exact e
            · have := (edg_men e).1
              simp at this
              exact absurd rfl (hnm _ this)
        · have hi2 : i < o.ns.length := by omega
          rw [oup_other _ _ e, h.bits2 i hi2]
          constructor
          · rintro ⟨hj, e⟩
            refine ⟨by simp; omega, e.imp id fun e => ?_⟩
            rw [List.getElem_append_left hj, List.getElem_append_left hi2]
            exact e
          · rintro ⟨hj, e⟩
            have hj' : j < o.ns.length + 1 := by simpa using hj
            by_cases ej : j = o.ns.length
            · rcases e with e | e
              · omega
              · subst ej
                have := (edg_men e).2
                simp at this
                exact absurd rfl (hnm _ this)
            · have hj2 : j < o.ns.length := by omega
              rw [List.getElem_append_left hj2, List.getElem_append_left hi2] at e
              exact ⟨hj2, e⟩
theorem Oiv.add {o : Od} {P : List OPr} (h : Oiv o P) {p : OPr} (he : (o.add p).2 = 0) : Oiv (o.add p).1 (P ++ [p]) := by
  unfold Od.add at he ⊢
  split at he
  · cases he
  · rename_i c1
    rw [if_neg c1]
    split at he
    · cases he
    · rename_i c2
      rw [if_neg c2]
      have k1 : (o.know p.1).2 = true := by simpa using c2
      have w1 : Oiw (o.know p.1).1 P (fun t => False ∨ t = p.1) := Oiw.know (S := fun _ => False) ⟨h.wf, fun s => by rw [h.men]; simp, h.bits, h.bits2⟩ p.1 k1
      split at he
      · rename_i c3
        rw [if_pos c3]
        refine ⟨w1.wf, fun s => ?_, fun i hi j => ?_, fun i hi j => ?_⟩
        · rw [w1.men, Men.snoc]
          simp [c3]
        · rw [w1.bits i hi j]
          simp only [Edg.snoc]
          simp [c3]
        · rw [w1.bits2 i hi j]
          simp only [Edg.snoc]
          simp [c3]
      · rename_i c3
        rw [if_neg c3]
        split at he
        · cases he
        · rename_i c4
          rw [if_neg c4]
          have k2 : ((o.know p.1).1.know p.2).2 = true := by simpa using c4
          have w2 := Oiw.know w1 p.2 k2
          have m1 := Od.know_sub (s := p.2) (Od.know_mem k1)
          have m2 := Od.know_mem k2
          obtain ⟨q, hq⟩ : ∃ q, ((o.know p.1).1.know p.2).1 = q := ⟨_, rfl⟩
          rw [hq] at w2 m1 m2 ⊢
          have n1 := Od.num_lt m1
          have n2 := Od.num_lt m2
          have hl := w2.wf.len
          have g1 : q.ns[q.num p.1]'n1 = p.1 := by have := Od.num_get m1; rw [List.getElem?_eq_getElem n1] at this; exact Option.some.inj this
          have g2 : q.ns[q.num p.2]'n2 = p.2 := by have := Od.num_get m2; rw [List.getElem?_eq_getElem n2] at this; exact Option.some.inj this
          have u1 : ∀ j (hj : j < q.ns.length), q.ns[j] = p.1 ↔ q.num p.1 = j := fun j hj => by
            constructor
            · intro e; exact (List.getElem_inj w2.wf.nd).1 (g1.trans e.symm)
            · intro e; subst e; exact g1
          have u2 : ∀ j (hj : j < q.ns.length), q.ns[j] = p.2 ↔ q.num p.2 = j := fun j hj => by
            constructor
            · intro e; exact (List.getElem_inj w2.wf.nd).1 (g2.trans e.symm)
            · intro e; subst e; exact g2
          refine ⟨w2.wf.edge (by omega) (by omega), fun s => ?_, fun i hi j => ?_, fun i hi j => ?_⟩
          · show s ∈ q.ns ↔ _
            rw [w2.men, Men.snoc]
            simp only [false_or]
            rw [show (p.2.size ≠ 0 ∧ s = p.2) ↔ s = p.2 from ⟨fun h => h.2, fun h => ⟨c3, h⟩⟩]
          · show (oup q.be (q.num p.2) (q.be (q.num p.2) ||| 2 ^ (q.num p.1)) i).testBit j = true ↔ ∃ hj : j < q.ns.length, i = j ∨ Edg (P ++ [p]) q.ns[j] q.ns[i]
            have hi' : i < q.ns.length := hi
            have hb := w2.bits i hi' j
            by_cases e : i = q.num p.2
            · subst e
              rw [oup_same, Nat.testBit_or, Bool.or_eq_true, hb, pow_bit]
              constructor
              · rintro (⟨hj, e⟩ | e)
                · exact ⟨hj, e.imp id fun e => Edg.snoc.2 (.inl e)⟩
                · subst e; exact ⟨n1, .inr (Edg.snoc.2 (.inr ⟨c3, g1, g2⟩))⟩
              · rintro ⟨hj, e | e⟩
                · exact .inl ⟨hj, .inl e⟩
                · rcases Edg.snoc.1 e with e | ⟨_, e, _⟩
                  · exact .inl ⟨hj, .inr e⟩
                  · exact .inr ((u1 j hj).1 e)
            · rw [oup_other _ _ e, hb]
              constructor
              · rintro ⟨hj, e⟩
                exact ⟨hj, e.imp id fun e => Edg.snoc.2 (.inl e)⟩
              · rintro ⟨hj, e' | e'⟩
                · exact ⟨hj, .inl e'⟩
                · rcases Edg.snoc.1 e' with e' | ⟨_, _, e'⟩
                  · exact ⟨hj, .inr e'⟩
                  · exact absurd ((u2 i hi').1 e').symm e
          · show (oup q.ab (q.num p.1) (q.ab (q.num p.1) ||| 2 ^ (q.num p.2)) i).testBit j = true ↔ ∃ hj : j < q.ns.length, i = j ∨ Edg (P ++ [p]) q.ns[i] q.ns[j]
            have hi' : i < q.ns.length := hi
            have hb := w2.bits2 i hi' j
            by_cases e : i = q.num p.1
            · subst e
              rw [oup_same, Nat.testBit_or, Bool.or_eq_true, hb, pow_bit]
              constructor
              · rintro (⟨hj, e⟩ | e)
                · exact ⟨hj, e.imp id fun e => Edg.snoc.2 (.inl e)⟩
                · subst e; exact ⟨n2, .inr (Edg.snoc.2 (.inr ⟨c3, g1, g2⟩))⟩
              · rintro ⟨hj, e | e⟩
                · exact .inl ⟨hj, .inl e⟩
                · rcases Edg.snoc.1 e with e | ⟨_, _, e⟩
                  · exact .inl ⟨hj, .inr e⟩
                  · exact .inr ((u2 j hj).1 e)
            · rw [oup_other _ _ e, hb]
              constructor
              · rintro ⟨hj, e⟩
                exact ⟨hj, e.imp id fun e => Edg.snoc.2 (.inl e)⟩
              · rintro ⟨hj, e' | e'⟩
                · exact ⟨hj, .inl e'⟩
                · rcases Edg.snoc.1 e' with e' | ⟨_, e', _⟩
                  · exact ⟨hj, .inr e'⟩
                  · exact absurd ((u1 i hi').1 e').symm e
theorem Oiv.adds : ∀ {r : List OPr} {o : Od} {P : List OPr} {i : Nat}, Oiv o P → (o.adds r i).2.2 = 0 → Oiv (o.adds r i).1 (P ++ r)
  | [], o, P, i, h, _ => by simpa [Od.adds] using h
  | p :: r, o, P, i, h, he => by
    unfold Od.adds at he ⊢
    by_cases e : (o.add p).2 = 0
    · rw [if_neg (fun h => h e)] at he ⊢
      have := Oiv.adds (h.add e) he
      rw [List.append_assoc] at this
      exact this
    · rw [if_pos e] at he
      exact absurd he e

/-! ### what follows -/
section
variable {n : Nat} {f : Nat → Nat}
theorem ostep_bit {t i j : Nat} (hi : i < n) : (ostep n t f i).testBit j = true ↔ (f i).testBit j = true ∨ ((f i).testBit t = true ∧ (f t).testBit j = true) := by
  unfold ostep
  by_cases h : (f i).testBit t = true
  · rw [if_pos ⟨hi, h⟩, Nat.testBit_or, Bool.or_eq_true]
    simp [h]
  · rw [if_neg (fun e => h e.2)]
    simp [h]
theorem orun_mono {k i j : Nat} (hi : i < n) (h : (orun n f k i).testBit j = true) : (orun n f (k + 1) i).testBit j = true := (ostep_bit hi).2 (.inl h)
theorem orun_base {i j : Nat} (hi : i < n) (h : (f i).testBit j = true) : ∀ k, (orun n f k i).testBit j = true
  | 0 => h
  | k + 1 => orun_mono hi (orun_base hi h k)
theorem orun_through : ∀ (k : Nat), k ≤ n → ∀ t i j, t < k → i < n → (orun n f k i).testBit t = true → (orun n f k t).testBit j = true → (orun n f k i).testBit j = true
  | 0, _, t, _, _, ht, _, _, _ => absurd ht (Nat.not_lt_zero _)
  | k + 1, hk, t, i, j, ht, hi, h1, h2 => by
    have IH := orun_through k (by omega)
    have htn : t < n := by omega
    rw [orun] at h1 h2 ⊢
    rw [ostep_bit hi] at h1 ⊢
    rw [ostep_bit htn] at h2
    rcases Nat.lt_or_ge t k with htk | htk
    · rcases h1 with h1 | ⟨a1, b1⟩
      · rcases h2 with h2 | ⟨a2, b2⟩
        · exact .inl (IH t i j htk hi h1 h2)
        · exact .inr ⟨IH t i k htk hi h1 a2, b2⟩
      · rcases h2 with h2 | ⟨a2, b2⟩
        · exact .inr ⟨a1, IH t k j htk (by omega) b1 h2⟩
        · exact .inr ⟨a1, b2⟩
    · obtain rfl : t = k := by omega
      have a1 : (orun n f t i).testBit t = true := by
        rcases h1 with h1 | ⟨a1, _⟩
        · exact h1
        · exact a1
      have a2 : (orun n f t t).testBit j = true := by
        rcases h2 with h2 | ⟨_, a2⟩
        · exact h2
        · exact a2
      exact .inr ⟨a1, a2⟩
end
theorem Oiv.sound {o : Od} {P : List OPr} (h : Oiv o P) : ∀ (k : Nat), k ≤ o.ns.length → ∀ i (hi : i < o.ns.length) j, (orun o.ns.length o.be k i).testBit j = true → ∃ hj : j < o.ns.length, Rch P o.ns[j] o.ns[i]
  | 0, _, i, hi, j, hb => by
    obtain ⟨hj, e | ⟨p, hp, h2, e1, e2⟩⟩ := (h.bits i hi j).1 hb
    · subst e; exact ⟨hj, .refl _⟩
    · exact ⟨hj, by rw [e1, e2]; exact .edge hp h2⟩
  | k + 1, hk, i, hi, j, hb => by
    rw [orun, ostep_bit hi] at hb
    rcases hb with hb | ⟨h1, h2⟩
    · exact h.sound k (by omega) i hi j hb
    · obtain ⟨_, r1⟩ := h.sound k (by omega) i hi k h1
      obtain ⟨hj, r2⟩ := h.sound k (by omega) k (by omega) j h2
      exact ⟨hj, r2.trans r1⟩
theorem Oiv.complete {o : Od} {P : List OPr} (h : Oiv o P) {s t : ByteArray} (hr : Rch P s t) (ht : t ∈ o.ns) : ∃ i j, ∃ (hi : i < o.ns.length) (hj : j < o.ns.length), o.ns[i] = t ∧ o.ns[j] = s ∧ (orun o.ns.length o.be o.ns.length i).testBit j = true := by
  induction hr with
  | refl a =>
    obtain ⟨i, hi, e⟩ := List.getElem_of_mem ht
    exact ⟨i, i, hi, hi, e, e, orun_base hi ((h.bits i hi i).2 ⟨hi, .inl rfl⟩) _⟩
  | step hp h2 _ ih =>
    rename_i p b _
    obtain ⟨i, j, hi, hj, e1, e2, hb⟩ := ih ht
    have hm : p.1 ∈ o.ns := (h.men _).2 ⟨p, hp, .inl rfl⟩
    obtain ⟨m, hm, e3⟩ := List.getElem_of_mem hm
    have hbm : (orun o.ns.length o.be o.ns.length j).testBit m = true := orun_base hj ((h.bits j hj m).2 ⟨hm, .inr ⟨p, hp, h2, e3, e2⟩⟩) _
    exact ⟨i, m, hi, hm, e1, e3, orun_through _ (Nat.le_refl _) j i m hj hi hb hbm⟩
/-- a is at most b just if pairs lead from it to that. -/
theorem Oiv.most {o : Od} {P : List OPr} (h : Oiv o P) (a b : Nat) : o.fol.most a b = true ↔ ∃ (ha : a < o.ns.length) (hb : b < o.ns.length), Rch P o.ns[a] o.ns[b] := by
  unfold Od.most Od.fol
  simp only [Bool.and_eq_true, decide_eq_true_eq]
  constructor
  · rintro ⟨ha, hb, hbit⟩
    obtain ⟨_, hr⟩ := h.sound _ (Nat.le_refl _) b hb a hbit
    exact ⟨ha, hb, hr⟩
  · rintro ⟨ha, hb, hr⟩
    refine ⟨ha, hb, ?_⟩
    obtain ⟨i, j, hi, hj, e1, e2, hbit⟩ := h.complete hr (List.getElem_mem hb)
    have r1 := (List.getElem_inj h.wf.nd).1 e1
    have r2 := (List.getElem_inj h.wf.nd).1 e2
    subst r1
    subst r2
    exact hbit
theorem Oiv.most_num {o : Od} {P : List OPr} (h : Oiv o P) {s t : ByteArray} (hs : s ∈ o.ns) (ht : t ∈ o.ns) : o.fol.most (o.num s) (o.num t) = true ↔ Rch P s t := by
  rw [h.most]
  have g1 := Od.num_get hs
  have g2 := Od.num_get ht
  have l1 := Od.num_lt hs
  have l2 := Od.num_lt ht
  rw [List.getElem?_eq_getElem l1] at g1
  rw [List.getElem?_eq_getElem l2] at g2
  constructor
  · rintro ⟨_, _, h⟩
    rwa [Option.some.inj g1, Option.some.inj g2] at h
  · intro h
    exact ⟨l1, l2, by rwa [Option.some.inj g1, Option.some.inj g2]⟩
end Go.Proofs.Ytnbgaenajehbkaa
