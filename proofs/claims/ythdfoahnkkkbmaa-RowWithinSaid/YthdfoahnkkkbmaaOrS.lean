/-
  CONTRACT OF Sorted.
  THE SORTED ELEMENTS OF AN ORDER.
-/
import Derived.Test.YthdfoahnkkkbmaaOrN
import Derived.Test.YthdfoahnkkkbmaaOrM
namespace Go.Proofs.Ythdfoahnkkkbmaa
set_option linter.unusedVariables false
set_option linter.unusedSimpArgs false
open Go.RowKit Go.Maps

/-- Is i the next one, where these are done? -/
def opickB (o : Od) (done i : Nat) : Bool := bits .andNot .u64 (o.be i : Int) (done : Int) == (obitN i : Int)
def osrt (o : Od) : Nat → List Nat × Nat
  | 0 => ([], 0)
  | k + 1 => match (List.range o.ns.length).find? (opickB o (osrt o k).2) with
    | some i => ((osrt o k).1 ++ [i], (osrt o k).2 ||| 2 ^ i)
    | none => osrt o k
theorem osrt_len (o : Od) : ∀ k, (osrt o k).1.length ≤ k
  | 0 => Nat.le_refl _
  | k + 1 => by
    have := osrt_len o k
    unfold osrt
    split
    · simp; omega
    · omega
theorem osrt_lt {o : Od} (h : o.Wf) : ∀ k, (osrt o k).2 < 2 ^ 64
  | 0 => by simp [osrt]
  | k + 1 => by
    have := osrt_lt h k
    unfold osrt
    split
    · rename_i i hi
      have hm := List.mem_of_find?_eq_some hi
      have hl := h.len
      have := List.mem_range.1 hm
      exact Nat.or_lt_two_pow (osrt_lt h k) (pow_lt64 (by omega))
    · exact osrt_lt h k
theorem osrt_yes {o : Od} {k i : Nat} (hi : i < o.ns.length) (h : opickB o (osrt o k).2 i = true) (hno : ∀ j, j < i → opickB o (osrt o k).2 j = false) : osrt o (k + 1) = ((osrt o k).1 ++ [i], (osrt o k).2 ||| 2 ^ i) := by
  have : (List.range o.ns.length).find? (opickB o (osrt o k).2) = some i := by
    rw [List.find?_range_eq_some]
    exact ⟨h, List.mem_range.2 hi, fun j hj => by rw [hno j hj]; rfl⟩
  rw [osrt, this]
theorem osrt_no {o : Od} {k : Nat} (hno : ∀ j, j < o.ns.length → opickB o (osrt o k).2 j = false) : osrt o (k + 1) = osrt o k := by
  have : (List.range o.ns.length).find? (opickB o (osrt o k).2) = none := by
    rw [List.find?_range_eq_none]
    exact fun j hj => by rw [hno j hj]; rfl
  rw [osrt, this]
def ints (l : List Nat) : List Value := l.map fun (i : Nat) => Value.int .i64 (i : Int)
theorem ints_snoc (l : List Nat) (i : Nat) : ints (l ++ [i]) = ints l ++ [.int .i64 (i : Int)] := by simp [ints]
theorem rowI : RowT Try.prog 40 3 1 8 := RowT.mk (z := .int .i64 0) Try.underlying40 (by kernel_rfl) rfl (by omega)
def SrtTo (w : World) (l : List Nat) (e : Ending) (w' : World) : Prop := ∃ v, e = .returned v ∧ Own w' w.heap.size 3 1 v l.length (ints l) ∧ Below w.heap.size w w'
section
variable {w : World} {X : Nat → Prop} {g : Nat} {o : Od}
end
end Go.Proofs.Ythdfoahnkkkbmaa
namespace Go.Proofs.Ythdfoahnkkkbmaa
set_option linter.unusedVariables false
set_option linter.unusedSimpArgs false

/-- An order, by its bits alone. -/
structure Osd (o : Od) : Prop where
  wf : o.Wf
  self : ∀ i, i < o.ns.length → (o.be i).testBit i = true
  inn : ∀ i j, i < o.ns.length → (o.be i).testBit j = true → j < o.ns.length
  tr : ∀ i j k, i < o.ns.length → j < o.ns.length → (o.be i).testBit j = true → (o.be j).testBit k = true → (o.be i).testBit k = true
  anti : ∀ i j, i < o.ns.length → j < o.ns.length → (o.be i).testBit j = true → (o.be j).testBit i = true → i = j
theorem Rch.head {l : List OPr} {a b : ByteArray} (h : Rch l a b) : a = b ∨ ∃ p ∈ l, p.2.size ≠ 0 ∧ a = p.1 ∧ Rch l p.2 b := by
  cases h with
  | refl => exact .inl rfl
  | step hp h2 h => exact .inr ⟨_, hp, h2, rfl, h⟩
theorem bad_no {o : Od} : ∀ {r : List OPr} {i : Nat}, o.bad r i = none → ∀ p ∈ r, p.2.size ≠ 0 → o.most (o.num p.2) (o.num p.1) = false
  | [], _, _, p, hp, _ => by cases hp
  | q :: r, i, h, p, hp, h2 => by
    unfold Od.bad at h
    split at h
    · cases h
    · rename_i hc
      rcases List.mem_cons.1 hp with rfl | hp
      · cases hm : o.most (o.num p.2) (o.num p.1) with
        | false => rfl
        | true => exact absurd (by simp [h2, hm]) hc
      · exact bad_no h p hp h2
theorem most_bit {o : Od} {a b : Nat} (ha : a < o.ns.length) (hb : b < o.ns.length) : o.most a b = (o.be b).testBit a := by
  unfold Od.most
  simp [ha, hb]
theorem newO_osd {l : List OPr} {o : Od} (h : (newO l).1 = some o) : Osd o := by
  obtain ⟨he, _, rfl, hb⟩ := newO_some h
  have hv := Oiv.adds Oiv.zero he
  rw [List.nil_append] at hv
  obtain ⟨q, hq⟩ : ∃ q, (Od.zero.adds l 0).1 = q := ⟨_, rfl⟩
  rw [hq] at hv hb ⊢
  have key : ∀ i j, i < q.ns.length → ((q.fol.be i).testBit j = true ↔ ∃ (hj : j < q.ns.length) (hi : i < q.ns.length), Rch l q.ns[j] q.ns[i]) := fun i j hi => by
    constructor
    · intro h
      obtain ⟨hj, hr⟩ := hv.sound _ (Nat.le_refl _) i hi j h
      exact ⟨hj, hi, hr⟩
    · rintro ⟨hj, _, hr⟩
      have := (hv.most j i).2 ⟨hj, hi, hr⟩
      rwa [most_bit (o := q.fol) hj hi] at this
  refine ⟨hv.wf.fol, fun i hi => (key i i hi).2 ⟨hi, hi, .refl _⟩, fun i j hi h => ?_, fun i j k hi hj h1 h2 => ?_, fun i j hi hj h1 h2 => ?_⟩
  · obtain ⟨hj, _⟩ := (key i j hi).1 h
    exact hj
  · obtain ⟨_, _, r1⟩ := (key i j hi).1 h1
    obtain ⟨hk, _, r2⟩ := (key j k hj).1 h2
    exact (key i k hi).2 ⟨hk, hi, r2.trans r1⟩
  · obtain ⟨_, _, r1⟩ := (key i j hi).1 h1
    obtain ⟨_, _, r2⟩ := (key j i hj).1 h2
    rcases r1.head with e | ⟨p, hp, h0, e, r3⟩
    · exact ((List.getElem_inj hv.wf.nd).1 e).symm
    · have m1 : p.1 ∈ q.ns := (hv.men _).2 ⟨p, hp, .inl rfl⟩
      have m2 : p.2 ∈ q.ns := (hv.men _).2 ⟨p, hp, .inr ⟨h0, rfl⟩⟩
      have hf := bad_no hb p hp h0
      have : q.fol.most (q.num p.2) (q.num p.1) = true := (hv.most_num m2 m1).2 (r3.trans (e ▸ r2))
      have hf' : q.fol.most (q.num p.2) (q.num p.1) = false := hf
      rw [this] at hf'
      cases hf'
/-- i may come next: its own bit is left, and no other one. -/
theorem pick_iff {o : Od} (h : Osd o) {D i : Nat} (hD : D < 2 ^ 64) (hi : i < o.ns.length) : opickB o D i = true ↔ D.testBit i = false ∧ ∀ j, (o.be i).testBit j = true → j ≠ i → D.testBit j = true := by
  have hl := h.wf.len
  have hb : o.be i < 18446744073709551616 := h.wf.be i
  have hd : D < 18446744073709551616 := hD
  unfold opickB
  rw [u64_andNot_nat _ _ hb hd]
  have e : ((((o.be i) &&& (18446744073709551615 - D) : Nat) : Int) == (obitN i : Int)) = true ↔ (o.be i) &&& (18446744073709551615 - D) = 2 ^ i := by
    unfold obitN
    rw [beq_iff_eq]
    omega
  rw [e]
  have hbit : ∀ j, ((o.be i) &&& (18446744073709551615 - D)).testBit j = ((o.be i).testBit j && (decide (j < 64) && !(D.testBit j))) := fun j => by
    rw [Nat.testBit_and]
    have : 18446744073709551615 - D = 2 ^ 64 - (D + 1) := by omega
    rw [this, Nat.testBit_two_pow_sub_succ hd]
  constructor
  · intro he
    have hj : ∀ j, ((o.be i).testBit j && (decide (j < 64) && !(D.testBit j))) = decide (i = j) := fun j => by
      rw [← hbit, he, Nat.testBit_two_pow]
    refine ⟨?_, fun j h1 h2 => ?_⟩
    · have := hj i
      rw [h.self i hi] at this
      simp at this
      exact this.2
    · have := hj j
      have hj64 : j < 64 := by have := h.inn i j hi h1; omega
      rw [h1] at this
      have hne : ¬ i = j := fun e => h2 e.symm
      simp [hj64, hne] at this
      exact this
  · rintro ⟨h1, h2⟩
    apply Nat.eq_of_testBit_eq
    intro j
    rw [hbit, Nat.testBit_two_pow]
    by_cases e : i = j
    · subst e
      have : i < 64 := by omega
      simp [h.self i hi, h1, this]
    · rw [decide_eq_false e]
      cases hb : (o.be i).testBit j with
      | false => rfl
      | true => rw [h2 j hb (fun h => e h.symm)]; simp

theorem countP_lt {p q : Nat → Bool} : ∀ {l : List Nat}, (∀ x ∈ l, p x = true → q x = true) → (∃ y ∈ l, q y = true ∧ p y = false) → l.countP p < l.countP q
  | [], _, h => by obtain ⟨y, hy, _⟩ := h; cases hy
  | a :: l, h, hy => by
    have hle : l.countP p ≤ l.countP q := List.countP_mono_left (fun x hx => h x (by simp [hx]))
    by_cases e : ∃ y ∈ l, q y = true ∧ p y = false
    · have := countP_lt (l := l) (fun x hx => h x (by simp [hx])) e
      rw [List.countP_cons, List.countP_cons]
      have ha := h a (by simp)
      cases hp : p a <;> cases hq : q a <;> simp [hp, hq] at ha ⊢ <;> omega
    · obtain ⟨y, hy, h1, h2⟩ := hy
      rcases List.mem_cons.1 hy with rfl | hy
      · rw [List.countP_cons, List.countP_cons, h1, h2]
        simp
        omega
      · exact absurd ⟨y, hy, h1, h2⟩ e
/-- Where one is left, one may come next. -/
theorem pick_some {o : Od} (h : Osd o) {D : Nat} (hD : D < 2 ^ 64) : ∀ (c i : Nat), i < o.ns.length → D.testBit i = false → (List.range o.ns.length).countP (fun x => decide (x ≠ i) && (o.be i).testBit x && !(D.testBit x)) = c → ∃ k, k < o.ns.length ∧ opickB o D k = true := by
  intro c
  induction c using Nat.strongRecOn with
  | _ c ih =>
    intro i hi hd hc
    by_cases hp : opickB o D i = true
    · exact ⟨i, hi, hp⟩
    · have : ∃ j, (o.be i).testBit j = true ∧ j ≠ i ∧ D.testBit j = false := by
        refine Classical.byContradiction fun hn => hp ((pick_iff h hD hi).2 ⟨hd, fun j h1 h2 => ?_⟩)
        cases h3 : D.testBit j with
        | true => rfl
        | false => exact absurd ⟨j, h1, h2, h3⟩ hn
      obtain ⟨j, h1, h2, h3⟩ := this
      have hj := h.inn i j hi h1
      refine ih _ ?_ j hj h3 rfl
      rw [← hc]
      refine countP_lt (fun x _ hx => ?_) ⟨j, List.mem_range.2 hj, by simp [h1, h2, h3], by simp⟩
      simp only [Bool.and_eq_true, decide_eq_true_eq, Bool.not_eq_true'] at hx ⊢
      obtain ⟨⟨x1, x2⟩, x3⟩ := hx
      refine ⟨⟨?_, h.tr i j x hi hj h1 x2⟩, x3⟩
      intro e
      subst e
      exact h2 (h.anti x j hi hj h1 x2).symm

/-- What Sorted has after k rounds. -/
structure Oso (o : Od) (k : Nat) (l : List Nat) (D : Nat) : Prop where
  len : l.length = k
  nd : l.Nodup
  inn : ∀ i ∈ l, i < o.ns.length
  bit : ∀ j, D.testBit j = true ↔ j ∈ l
  low : ∀ a (ha : a < l.length) j, (o.be l[a]).testBit j = true → j = l[a] ∨ ∃ b, ∃ hb : b < l.length, b < a ∧ l[b] = j
  asc : ∀ a (ha : a < l.length) (h0 : 0 < a), l[a] < l[a - 1] → (o.be l[a]).testBit l[a - 1] = true
theorem nodup_nat : ∀ {l m : List Nat}, l.Nodup → (∀ s ∈ l, s ∈ m) → l.length ≤ m.length
  | [], _, _, _ => Nat.zero_le _
  | a :: l, m, hd, hs => by
    obtain ⟨h1, h2⟩ := List.nodup_cons.1 hd
    have ha : a ∈ m := hs a (by simp)
    have := nodup_nat (l := l) (m := m.filter fun x => decide (x ≠ a)) h2 (fun s h => List.mem_filter.2 ⟨hs s (by simp [h]), by simp; intro e; exact h1 (e ▸ h)⟩)
    have hlt : (m.filter fun x => decide (x ≠ a)).length < m.length := List.length_filter_lt_length_iff_exists.2 ⟨a, ha, by simp⟩
    simp only [List.length_cons]
    omega
theorem osrt_oso {o : Od} (h : Osd o) : ∀ k, k ≤ o.ns.length → Oso o k (osrt o k).1 (osrt o k).2
  | 0, _ => ⟨rfl, List.nodup_nil, fun i hi => absurd hi (by simp [osrt]), fun j => by simp [osrt], fun a ha => absurd ha (by simp [osrt]), fun a ha => absurd ha (by simp [osrt])⟩
  | k + 1, hk => by
    have ih := osrt_oso h k (by omega)
    have hD := osrt_lt h.wf k
    -- one is left
    have hleft : ∃ i, i < o.ns.length ∧ (osrt o k).2.testBit i = false := by
      refine Classical.byContradiction fun hn => ?_
      have : ∀ i ∈ List.range o.ns.length, i ∈ (osrt o k).1 := fun i hi => by
        rw [← ih.bit]
        cases hb : (osrt o k).2.testBit i with
        | true => rfl
        | false => exact absurd ⟨i, List.mem_range.1 hi, hb⟩ hn
      have := nodup_nat List.nodup_range this
      rw [List.length_range, ih.len] at this
      omega
    obtain ⟨i, hi, hb⟩ := hleft
    obtain ⟨j, hj, hp⟩ := pick_some h hD _ i hi hb rfl
    have hfind : ∃ m, (List.range o.ns.length).find? (opickB o (osrt o k).2) = some m := by
      cases hf : (List.range o.ns.length).find? (opickB o (osrt o k).2) with
      | some m => exact ⟨m, rfl⟩
      | none =>
        have := List.find?_eq_none.1 hf j (List.mem_range.2 hj)
        exact absurd hp this
    obtain ⟨m, hm⟩ := hfind
    have hstep : osrt o (k + 1) = ((osrt o k).1 ++ [m], (osrt o k).2 ||| 2 ^ m) := by rw [osrt, hm]
    obtain ⟨hpm, hmr, hless⟩ := List.find?_range_eq_some.1 hm
    have hmn := List.mem_range.1 hmr
    obtain ⟨p1, p2⟩ := (pick_iff h hD hmn).1 hpm
    have hnm : m ∉ (osrt o k).1 := fun e => by rw [(ih.bit m).2 e] at p1; cases p1
    obtain ⟨l, hl⟩ : ∃ l, (osrt o k).1 = l := ⟨_, rfl⟩
    obtain ⟨D, hDd⟩ : ∃ D, (osrt o k).2 = D := ⟨_, rfl⟩
    rw [hstep]
    -- the round ahead of this one
    have hlast : ∀ (h0 : 0 < k), ∃ D', D' < 2 ^ 64 ∧ (osrt o k).2 = D' ||| 2 ^ ((osrt o k).1[k - 1]'(by rw [ih.len]; omega)) ∧ ∀ x, x < (osrt o k).1[k - 1]'(by rw [ih.len]; omega) → opickB o D' x = false := fun h0 => by
      obtain ⟨k', rfl⟩ : ∃ k', k = k' + 1 := ⟨k - 1, by omega⟩
      cases hf : (List.range o.ns.length).find? (opickB o (osrt o k').2) with
      | none =>
        have e : osrt o (k' + 1) = osrt o k' := by rw [osrt, hf]
        have := osrt_len o k'
        rw [← e, ih.len] at this
        omega
      | some m' =>
        have e : osrt o (k' + 1) = ((osrt o k').1 ++ [m'], (osrt o k').2 ||| 2 ^ m') := by rw [osrt, hf]
        have hlen : (osrt o k').1.length = k' := by
          have := ih.len
          rw [e] at this
          simp at this
          exact this
        have hg : (osrt o (k' + 1)).1[k' + 1 - 1]'(by rw [ih.len]; omega) = m' := by
          simp only [e]
          rw [List.getElem_append_right (by rw [hlen]; omega)]
          simp [hlen]
        refine ⟨(osrt o k').2, osrt_lt h.wf k', by rw [hg, e], fun x hx => ?_⟩
        rw [hg] at hx
        obtain ⟨_, _, hno⟩ := List.find?_range_eq_some.1 hf
        simpa using hno x hx
    refine ⟨by simp [ih.len], ?_, fun x hx => ?_, fun x => ?_, fun a ha x hx => ?_, fun a ha h0 hlt => ?_⟩
    · rw [List.nodup_append]
      refine ⟨ih.nd, by simp, fun x hx y hy => ?_⟩
      rw [List.mem_singleton.1 hy]
      exact fun e => hnm (e ▸ hx)
    · rcases List.mem_append.1 hx with hx | hx
      · exact ih.inn x hx
      · rw [List.mem_singleton.1 hx]; exact hmn
    · rw [Nat.testBit_or, Bool.or_eq_true, ih.bit, pow_bit, List.mem_append, List.mem_singleton]
      exact or_congr Iff.rfl eq_comm
    · have ha' : a < k + 1 := by simpa [ih.len] using ha
      by_cases ea : a < k
      · have hak : a < (osrt o k).1.length := by rw [ih.len]; exact ea
        dsimp only at hx ⊢
        rw [List.getElem_append_left hak] at hx ⊢
        rcases ih.low a hak x hx with e | ⟨b, hb, hba, e⟩
        · exact .inl e
        · exact .inr ⟨b, by simp; omega, hba, by rw [List.getElem_append_left hb]; exact e⟩
      · obtain rfl : a = k := by omega
        have hg : ((osrt o a).1 ++ [m])[a]'ha = m := by
          rw [List.getElem_append_right (by rw [ih.len]; exact Nat.le_refl _)]
          simp [ih.len]
        dsimp only at hx ⊢
        rw [hg] at hx ⊢
        by_cases e : x = m
        · exact .inl e
        · have := (ih.bit x).1 (p2 x hx e)
          obtain ⟨b, hb, e⟩ := List.getElem_of_mem this
          exact .inr ⟨b, by simp; omega, by rw [ih.len] at hb; exact hb, by rw [List.getElem_append_left hb]; exact e⟩
    · have ha' : a < k + 1 := by simpa [ih.len] using ha
      by_cases ea : a < k
      · have hak : a < (osrt o k).1.length := by rw [ih.len]; exact ea
        dsimp only at hlt ⊢
        rw [List.getElem_append_left hak, List.getElem_append_left (by omega)] at hlt ⊢
        exact ih.asc a hak h0 hlt
      · obtain rfl : a = k := by omega
        have hg : ((osrt o a).1 ++ [m])[a]'ha = m := by
          rw [List.getElem_append_right (by rw [ih.len]; exact Nat.le_refl _)]
          simp [ih.len]
        have hak : a - 1 < (osrt o a).1.length := by rw [ih.len]; omega
        dsimp only at hlt ⊢
        rw [hg, List.getElem_append_left hak] at hlt ⊢
        obtain ⟨D', hD', hd, hno⟩ := hlast h0
        have hn := hno m hlt
        obtain ⟨z, hz⟩ : ∃ z, (osrt o a).1[a - 1] = z := ⟨_, rfl⟩
        rw [hz] at hd hlt ⊢
        -- m couldn't come a round earlier
        cases hbz : (o.be m).testBit z with
        | true => rfl
        | false =>
          have : opickB o D' m = true := by
            rw [pick_iff h hD' hmn]
            rw [hd] at p1 p2
            refine ⟨?_, fun x hx hxm => ?_⟩
            · rw [Nat.testBit_or, Bool.or_eq_false_iff] at p1
              exact p1.1
            · have := p2 x hx hxm
              rw [Nat.testBit_or, Bool.or_eq_true, pow_bit] at this
              rcases this with e | e
              · exact e
              · subst e; rw [hx] at hbz; cases hbz
          rw [hn] at this
          cases this
end Go.Proofs.Ythdfoahnkkkbmaa
