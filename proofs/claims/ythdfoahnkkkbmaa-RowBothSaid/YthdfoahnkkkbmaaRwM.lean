/-
  TABLES OF EFFECTS (layer 16): what New, Set and Names come to; the bits of a set; what is asked of the program's.
-/
import Derived.Test.YthdfoahnkkkbmaaOwG
import Derived.Test.YthdfoahnkkkbmaaOqA
import Derived.Test.YthdfoahnkkkbmaaLtM
namespace Go.Proofs.Ythdfoahnkkkbmaa
set_option linter.unusedVariables false
set_option linter.unusedSimpArgs false
open Go.RowKit

/-! ### New -/
def tbad (ns : List ByteArray) (s : ByteArray) : Nat := if idB s = true then if (opos ns s).isSome = true then 7 else if ns.length = 64 then 8 else 0 else 1
def tadds : List ByteArray → List ByteArray → Nat → Option (List ByteArray) × Nat × Nat
  | ns, [], _ => (some ns, 0, 0)
  | ns, s :: r, k => if tbad ns s = 0 then tadds (ns ++ [s]) r (k + 1) else (none, k, tbad ns s)
def newT (l : List ByteArray) : Option (List ByteArray) × Nat × Nat := tadds [] l 0
theorem tbad_zero {ns : List ByteArray} {s : ByteArray} : tbad ns s = 0 ↔ idB s = true ∧ s ∉ ns ∧ ns.length ≠ 64 := by
  unfold tbad
  constructor
  · intro h
    split at h
    · rename_i h1
      split at h
      · cases h
      · rename_i h2
        split at h
        · cases h
        · rename_i h3
          refine ⟨h1, fun hm => ?_, h3⟩
          obtain ⟨i, hi⟩ := opos_mem hm
          exact h2 (by rw [hi]; rfl)
    · cases h
  · rintro ⟨h1, h2, h3⟩
    rw [if_pos h1, opos_none.2 h2, if_neg (by simp), if_neg h3]
theorem tadds_some : ∀ {l ns ns' : List ByteArray} {k i e : Nat}, tadds ns l k = (some ns', i, e) → ns' = ns ++ l ∧ i = 0 ∧ e = 0 ∧ (ns.Nodup → ns'.Nodup) ∧ (ns.length ≤ 64 → ns'.length ≤ 64)
  | [], ns, ns', k, i, e, h => by
    unfold tadds at h
    cases h
    exact ⟨(List.append_nil _).symm, rfl, rfl, id, id⟩
  | s :: r, ns, ns', k, i, e, h => by
    unfold tadds at h
    by_cases hb : tbad ns s = 0
    · rw [if_pos hb] at h
      obtain ⟨h1, h2, h3, h4, h5⟩ := tadds_some h
      obtain ⟨_, b2, b3⟩ := tbad_zero.1 hb
      refine ⟨by rw [h1]; simp, h2, h3, fun hd => h4 ?_, fun hl => h5 (by simp; omega)⟩
      rw [List.nodup_append]
      exact ⟨hd, by simp, fun a ha b hb => by
        simp at hb
        subst hb
        exact fun e => b2 (e ▸ ha)⟩
    · rw [if_neg hb] at h
      cases h
theorem tadds_none : ∀ {l ns : List ByteArray} {k i e : Nat}, tadds ns l k = (none, i, e) → e ≠ 0
  | [], ns, k, i, e, h => by unfold tadds at h; cases h
  | s :: r, ns, k, i, e, h => by
    unfold tadds at h
    by_cases hb : tbad ns s = 0
    · rw [if_pos hb] at h
      exact tadds_none h
    · rw [if_neg hb] at h
      cases h
      exact hb
theorem tadds_app : ∀ {l ns : List ByteArray} {k : Nat} {r : List ByteArray} {ns' : List ByteArray}, tadds ns l k = (some ns', 0, 0) → tadds ns (l ++ r) k = tadds ns' r (k + l.length)
  | [], ns, k, r, ns', h => by
    unfold tadds at h
    cases h
    rfl
  | s :: l, ns, k, r, ns', h => by
    rw [List.cons_append, tadds]
    rw [tadds] at h
    by_cases hb : tbad ns s = 0
    · rw [if_pos hb] at h ⊢
      rw [tadds_app h, List.length_cons, show k + 1 + l.length = k + (l.length + 1) by omega]
    · rw [if_neg hb] at h
      cases h
theorem newT_some {l ns : List ByteArray} {i e : Nat} (h : newT l = (some ns, i, e)) : ns = l ∧ i = 0 ∧ e = 0 ∧ ns.Nodup ∧ ns.length ≤ 64 := by
  obtain ⟨h1, h2, h3, h4, h5⟩ := tadds_some h
  exact ⟨by simpa using h1, h2, h3, h4 List.nodup_nil, h5 (Nat.zero_le _)⟩
/-! ### Set -/
def tset (ns : List ByteArray) : List ByteArray → Nat → Nat → Nat × Nat × Nat
  | [], x, _ => (x, 0, 0)
  | s :: r, x, k => match opos ns s with
    | none => (0, k, 13)
    | some i => tset ns r (x ||| 2 ^ i) (k + 1)
theorem tset_ok {ns : List ByteArray} (hd : ns.Nodup) : ∀ {l : List ByteArray} {x : Nat} (k : Nat), (∀ s ∈ l, s ∈ ns) → ∃ y, tset ns l x k = (y, 0, 0) ∧ ∀ i, y.testBit i = true ↔ (x.testBit i = true ∨ ∃ hi : i < ns.length, ns[i] ∈ l)
  | [], x, k, _ => ⟨x, rfl, fun i => ⟨.inl, fun h => h.elim id fun ⟨_, h⟩ => (by cases h)⟩⟩
  | s :: r, x, k, h => by
    obtain ⟨j, hj⟩ := opos_mem (h s (by simp))
    obtain ⟨y, hy, hb⟩ := tset_ok hd (l := r) (x := x ||| 2 ^ j) (k + 1) (fun t ht => h t (by simp [ht]))
    refine ⟨y, by rw [tset, hj]; exact hy, fun i => ?_⟩
    rw [hb, Nat.testBit_or, Nat.testBit_two_pow]
    obtain ⟨hj1, hj2⟩ := opos_some hj
    constructor
    · intro h
      rcases h with h | ⟨hi, h⟩
      · simp only [Bool.or_eq_true, decide_eq_true_eq] at h
        rcases h with h | h
        · exact .inl h
        · subst h
          exact .inr ⟨hj1, by rw [hj2]; simp⟩
      · exact .inr ⟨hi, by simp [h]⟩
    · intro h
      rcases h with h | ⟨hi, h⟩
      · exact .inl (by simp [h])
      · rcases List.mem_cons.1 h with h | h
        · left
          have : opos ns s = some i := by rw [← h]; exact opos_get hd hi
          rw [hj] at this
          cases this
          simp
        · exact .inr ⟨hi, h⟩
/-- Where a name isn't there: the first such place. -/
theorem tset_no {ns : List ByteArray} : ∀ {l : List ByteArray} {x : Nat} (k : Nat), ¬ (∀ s ∈ l, s ∈ ns) → ∃ i, i < l.length ∧ tset ns l x k = (0, k + i, 13) ∧ ∀ j (hj : j < i) (hl : j < l.length), l[j] ∈ ns
  | [], x, k, h => absurd (fun s hs => by cases hs) h
  | s :: r, x, k, h => by
    by_cases hs : s ∈ ns
    · obtain ⟨j, hj⟩ := opos_mem hs
      obtain ⟨i, hi, he, hn⟩ := tset_no (l := r) (x := x ||| 2 ^ j) (k + 1) (fun h2 => h fun t ht => by
        rcases List.mem_cons.1 ht with rfl | ht
        · exact hs
        · exact h2 t ht)
      refine ⟨i + 1, by simp; omega, by rw [tset, hj]; show tset ns r _ (k + 1) = _; rw [he, show k + 1 + i = k + (i + 1) by omega], fun j hj hl => ?_⟩
      cases j with
      | zero => exact hs
      | succ j => exact hn j (by omega) (by simp at hl; omega)
    · exact ⟨0, by simp, by rw [tset, opos_none.2 hs]; rfl, fun j hj => absurd hj (by omega)⟩
theorem tset_lt {ns : List ByteArray} (h64 : ns.length ≤ 64) : ∀ {l : List ByteArray} {x : Nat} (k : Nat), x < 2 ^ 64 → (tset ns l x k).1 < 2 ^ 64
  | [], x, k, h => h
  | s :: r, x, k, h => by
    rw [tset]
    cases hp : opos ns s with
    | none => show (0 : Nat) < _; decide
    | some i =>
      have := opos_lt hp
      exact tset_lt h64 (k + 1) (Nat.or_lt_two_pow h (Nat.pow_lt_pow_right (by omega) (by omega)))
/-! ### Names -/
def selN (ns : List ByteArray) (s : Nat) : List ByteArray := ((List.range ns.length).filter fun i => s.testBit i).map fun i => ns.getD i ⟨#[]⟩
theorem selN_mem {ns : List ByteArray} {s : Nat} {t : ByteArray} : t ∈ selN ns s ↔ ∃ i, ∃ hi : i < ns.length, s.testBit i = true ∧ ns[i] = t := by
  unfold selN
  rw [List.mem_map]
  constructor
  · rintro ⟨i, hi, rfl⟩
    obtain ⟨h1, h2⟩ := List.mem_filter.1 hi
    have h1 := List.mem_range.1 h1
    exact ⟨i, h1, h2, by rw [List.getD_eq_getElem?_getD, List.getElem?_eq_getElem h1]; rfl⟩
  · rintro ⟨i, hi, h1, rfl⟩
    exact ⟨i, List.mem_filter.2 ⟨List.mem_range.2 hi, h1⟩, by rw [List.getD_eq_getElem?_getD, List.getElem?_eq_getElem hi]; rfl⟩
/-! ### bits -/
theorem popB_count : ∀ (k x : Nat), popB k x = (List.range k).countP fun i => x.testBit i
  | 0, x => rfl
  | k + 1, x => by
    rw [popB, popB_count k (x / 2), List.range_succ_eq_map, List.countP_cons, List.countP_map]
    have e : (fun i => (x / 2).testBit i) = ((fun i => x.testBit i) ∘ Nat.succ) := by
      funext i
      show (x / 2).testBit i = x.testBit (i + 1)
      rw [Nat.testBit_succ]
    rw [e, Nat.add_comm]
    congr 1
    rw [Nat.testBit_zero]
    rcases Nat.mod_two_eq_zero_or_one x with h | h <;> simp [h]
theorem popB_or_le (k x y : Nat) : popB k (x ||| y) ≤ popB k x + popB k y := by
  rw [popB_count, popB_count, popB_count]
  induction k with
  | zero => simp
  | succ k ih =>
    rw [List.range_succ, List.countP_append, List.countP_append, List.countP_append]
    have : List.countP (fun i => (x ||| y).testBit i) [k] ≤ List.countP (fun i => x.testBit i) [k] + List.countP (fun i => y.testBit i) [k] := by
      simp only [List.countP_cons, List.countP_nil, Nat.testBit_or]
      cases x.testBit k <;> cases y.testBit k <;> simp
    omega
theorem bits_high {n i x : Nat} (h : x < 2 ^ n) (hi : n ≤ i) : x.testBit i = false := Nat.testBit_lt_two_pow (Nat.lt_of_lt_of_le h (Nat.pow_le_pow_right (by omega) hi))
theorem within_iff {a b : Nat} : a &&& b = a ↔ ∀ i, a.testBit i = true → b.testBit i = true := by
  constructor
  · intro h i hi
    have : (a &&& b).testBit i = true := by rw [h]; exact hi
    rw [Nat.testBit_and] at this
    simp at this
    exact this.2
  · intro h
    refine Nat.eq_of_testBit_eq fun i => ?_
    rw [Nat.testBit_and]
    cases e : a.testBit i with
    | false => rfl
    | true => rw [h i e]; rfl
theorem selN_len {ns : List ByteArray} {s : Nat} (h64 : ns.length ≤ 64) (hs : ∀ i, s.testBit i = true → i < ns.length) : (selN ns s).length = popB 64 s := by
  unfold selN
  rw [List.length_map, popB_count, ← List.countP_eq_length_filter]
  have e : List.range 64 = List.range ns.length ++ (List.range (64 - ns.length)).map (ns.length + ·) := by rw [← List.range_add]; congr 1; omega
  rw [e, List.countP_append, List.countP_map]
  have : List.countP ((fun i => s.testBit i) ∘ (ns.length + ·)) (List.range (64 - ns.length)) = 0 := by
    rw [List.countP_eq_zero]
    intro i _ h
    have := hs _ h
    simp only at this
    omega
  omega
/-- A row's set, and the set of that set's names. -/
theorem tset_back {ns l : List ByteArray} (hd : ns.Nodup) (h64 : ns.length ≤ 64) (h : ∀ s ∈ l, s ∈ ns) {x : Nat} (hx : tset ns l 0 0 = (x, 0, 0)) :
    (∀ s ∈ l, s ∈ selN ns x) ∧ tset ns (selN ns x) 0 0 = (x, 0, 0) ∧ (selN ns x).length = popB 64 x ∧ x < 2 ^ 64 := by
  obtain ⟨y, hy, hb⟩ := tset_ok hd (x := 0) 0 h
  have e : x = y := by rw [hx] at hy; cases hy; rfl
  subst e
  have hb : ∀ i, x.testBit i = true ↔ ∃ hi : i < ns.length, ns[i] ∈ l := fun i => by rw [hb]; simp
  have hin : ∀ i, x.testBit i = true → i < ns.length := fun i hi => ((hb i).1 hi).1
  have hlt := tset_lt h64 (l := l) (x := 0) 0 (by decide)
  rw [hx] at hlt
  refine ⟨fun s hs => ?_, ?_, selN_len h64 hin, hlt⟩
  · obtain ⟨i, hi, e⟩ := List.mem_iff_getElem.1 (h s hs)
    exact selN_mem.2 ⟨i, hi, (hb i).2 ⟨hi, by rw [e]; exact hs⟩, e⟩
  · obtain ⟨y, hy, hc⟩ := tset_ok hd (l := selN ns x) (x := 0) 0 (fun s hs => by
      obtain ⟨i, hi, _, e⟩ := selN_mem.1 hs
      rw [← e]
      exact List.getElem_mem _)
    rw [hy]
    have : y = x := by
      refine Nat.eq_of_testBit_eq fun i => ?_
      rw [Bool.eq_iff_iff, hc]
      constructor
      · rintro (h | ⟨hi, h⟩)
        · simp at h
        · obtain ⟨j, hj, h1, e⟩ := selN_mem.1 h
          have := opos_get hd hi
          rw [← e, opos_get hd hj] at this
          cases this
          exact h1
      · intro h
        have hi := hin i h
        exact .inr ⟨hi, selN_mem.2 ⟨i, hi, h, rfl⟩⟩
    rw [this]
/-- Two rows together. -/
theorem tset_both {ns a b : List ByteArray} (hd : ns.Nodup) (ha : ∀ s ∈ a, s ∈ ns) (hb : ∀ s ∈ b, s ∈ ns) {x y : Nat} (hx : tset ns a 0 0 = (x, 0, 0)) (hy : tset ns b 0 0 = (y, 0, 0)) : tset ns (a ++ b) 0 0 = (x ||| y, 0, 0) := by
  obtain ⟨x', e1, h1⟩ := tset_ok hd (x := 0) 0 ha
  obtain ⟨y', e2, h2⟩ := tset_ok hd (x := 0) 0 hb
  obtain ⟨z, e3, h3⟩ := tset_ok hd (l := a ++ b) (x := 0) 0 (fun s hs => by
    rcases List.mem_append.1 hs with h | h
    · exact ha s h
    · exact hb s h)
  rw [hx] at e1
  rw [hy] at e2
  cases e1
  cases e2
  rw [e3]
  have : z = x ||| y := by
    refine Nat.eq_of_testBit_eq fun i => ?_
    rw [Bool.eq_iff_iff, h3, Nat.testBit_or, Bool.or_eq_true, h1, h2]
    simp only [List.mem_append, Nat.zero_testBit]
    constructor
    · rintro (h | ⟨hi, h | h⟩)
      · cases h
      · exact .inl (.inr ⟨hi, h⟩)
      · exact .inr (.inr ⟨hi, h⟩)
    · rintro ((h | ⟨hi, h⟩) | (h | ⟨hi, h⟩))
      · cases h
      · exact .inr ⟨hi, .inl h⟩
      · cases h
      · exact .inr ⟨hi, .inr h⟩
  rw [this]
theorem tset_both_no {ns a b : List ByteArray} (h : ¬ ((∀ s ∈ a, s ∈ ns) ∧ ∀ s ∈ b, s ∈ ns)) : ∃ i, tset ns (a ++ b) 0 0 = (0, i, 13) ∧ i < a.length + b.length ∧ ((∀ s ∈ a, s ∈ ns) → a.length ≤ i) := by
  obtain ⟨i, hi, he, hn⟩ := tset_no (ns := ns) (l := a ++ b) (x := 0) 0 (fun h2 => h ⟨fun s hs => h2 s (by simp [hs]), fun s hs => h2 s (by simp [hs])⟩)
  rw [Nat.zero_add] at he
  refine ⟨i, he, by simpa using hi, fun ha => ?_⟩
  by_cases hl : a.length ≤ i
  · exact hl
  · exfalso
    have hi2 : i < a.length := by omega
    -- the place that is told holds a name that isn't there
    have key : ∀ {l : List ByteArray} {x k : Nat} {i : Nat}, i < l.length → tset ns l x k = (0, k + i, 13) → (∃ hl : i < l.length, l[i] ∉ ns) := by
      intro l
      induction l with
      | nil => intro x k i hi; simp at hi
      | cons s r ih =>
        intro x k i hi h
        rw [tset] at h
        cases hp : opos ns s with
        | none =>
          rw [hp] at h
          injection h with _ h
          injection h with h _
          have : i = 0 := by omega
          subst this
          exact ⟨hi, opos_none.1 hp⟩
        | some j =>
          rw [hp] at h
          cases i with
          | zero =>
            exfalso
            have hge : ∀ {l : List ByteArray} {x k : Nat}, (tset ns l x k).2.2 = 13 → k ≤ (tset ns l x k).2.1 := by
              intro l
              induction l with
              | nil => intro x k h; cases h
              | cons t q ih2 =>
                intro x k h
                rw [tset] at h ⊢
                cases hq : opos ns t with
                | none => exact Nat.le_refl _
                | some m => rw [hq] at h; exact Nat.le_trans (Nat.le_succ k) (ih2 h)
            have := hge (l := r) (x := x ||| 2 ^ j) (k := k + 1) (by
              show (tset ns r (x ||| 2 ^ j) (k + 1)).2.2 = 13
              rw [show tset ns r (x ||| 2 ^ j) (k + 1) = (0, k + 0, 13) from h])
            rw [show tset ns r (x ||| 2 ^ j) (k + 1) = (0, k + 0, 13) from h] at this
            dsimp only at this
            omega
          | succ i =>
            obtain ⟨h1, h2⟩ := ih (x := x ||| 2 ^ j) (k := k + 1) (i := i) (by simp at hi; omega) (by
              rw [show k + 1 + i = k + (i + 1) by omega]
              exact h)
            exact ⟨hi, by simpa using h2⟩
    obtain ⟨h1, h2⟩ := key hi (by rw [Nat.zero_add]; exact he)
    rw [List.getElem_append_left hi2] at h2
    exact h2 (ha _ (List.getElem_mem _))
end Go.Proofs.Ythdfoahnkkkbmaa
