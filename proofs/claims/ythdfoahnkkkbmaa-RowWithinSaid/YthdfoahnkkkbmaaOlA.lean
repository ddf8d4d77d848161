/-
  MATH OF irreducibles: each element of a distributive lattice is the join of those at most it; sets of them.
  MATH OF irreducibles: sets of them, by bits.
  THE EXAMPLES of layers 14 and 15: a lattice of four; two that are none.
-/
import Derived.Test.YthdfoahnkkkbmaaOlM
import Derived.Test.YthdfoahnkkkbmaaOrN
import Derived.Test.YthdfoahnkkkbmaaOlB
namespace Go.Proofs.Ythdfoahnkkkbmaa
set_option linter.unusedVariables false
set_option linter.unusedSimpArgs false
open Go.RowKit

/-- A number by its bits. -/
def bset (p : Nat → Bool) : Nat → Nat
  | 0 => 0
  | k + 1 => bset p k + if p k then 2 ^ k else 0
theorem bset_lt (p : Nat → Bool) : ∀ k, bset p k < 2 ^ k
  | 0 => Nat.zero_lt_one
  | k + 1 => by
    have := bset_lt p k
    unfold bset
    rw [Nat.pow_succ]
    split <;> omega
theorem bset_bit (p : Nat → Bool) : ∀ k i, (bset p k).testBit i = (decide (i < k) && p i)
  | 0, i => by simp [bset]
  | k + 1, i => by
    have ih := bset_bit p k i
    have hlt := bset_lt p k
    unfold bset
    by_cases hk : p k = true
    · rw [if_pos hk, Nat.add_comm]
      rcases Nat.lt_trichotomy i k with h | h | h
      · rw [Nat.testBit_two_pow_add_gt h, ih]
        simp [h, Nat.lt_succ_of_lt h]
      · subst h
        rw [Nat.testBit_two_pow_add_eq, ih]
        simp [hk]
      · have h1 : (2 ^ k + bset p k).testBit i = false := by
          apply Nat.testBit_lt_two_pow
          have : 2 ^ k + bset p k < 2 ^ (k + 1) := by rw [Nat.pow_succ]; omega
          exact Nat.lt_of_lt_of_le this (Nat.pow_le_pow_right (by omega) (by omega))
        rw [h1]
        simp
        omega
    · rw [if_neg hk, Nat.add_zero, ih]
      by_cases h : i < k
      · simp [h, Nat.lt_succ_of_lt h]
      · by_cases h2 : i = k
        · subst h2
          have : p i = false := by simpa using hk
          simp [this]
        · have : ¬ i < k + 1 := by omega
          simp [h, this]
theorem bset_congr {p q : Nat → Bool} {k : Nat} (h : ∀ i, i < k → p i = q i) : bset p k = bset q k := by
  apply Nat.eq_of_testBit_eq
  intro i
  rw [bset_bit, bset_bit]
  by_cases hi : i < k
  · rw [h i hi]
  · simp [hi]
variable {n : Nat} {F : Nat → Nat → Bool} {J M : Nat → Nat → Nat}
/-- What is joined is the least that all are at most. -/
theorem jfold_le (h : Lat n F J M) {k : Nat} (hk : k < n) : ∀ {l : List Nat} {x : Nat}, x < n → (∀ a ∈ l, a < n) → (F (jfold F n l x) k = true ↔ F x k = true ∧ ∀ a ∈ l, F a k = true)
  | [], x, hx, _ => by simp [jfold]
  | a :: l, x, hx, hl => by
    have ha := hl a (by simp)
    have hj := h.std.j hx ha
    have ih := jfold_le h hk (l := l) hj.lt (fun b hb => hl b (by simp [hb]))
    have e : jfold F n (a :: l) x = jfold F n l (jn F n x a) := rfl
    rw [e, ih]
    have T := @Pord.trans _ _ h.ord
    constructor
    · rintro ⟨h1, h2⟩
      refine ⟨T hx hj.lt hk hj.l h1, fun b hb => ?_⟩
      rcases List.mem_cons.1 hb with rfl | hb
      · exact T ha hj.lt hk hj.r h1
      · exact h2 b hb
    · rintro ⟨h1, h2⟩
      exact ⟨hj.least hk h1 (h2 a (by simp)), fun b hb => h2 b (by simp [hb])⟩
theorem jfold_up (h : Lat n F J M) {l : List Nat} {x : Nat} (hx : x < n) (hl : ∀ a ∈ l, a < n) : F x (jfold F n l x) = true ∧ ∀ a ∈ l, F a (jfold F n l x) = true :=
  (jfold_le h (jfold_lt h hx hl) hx hl).1 (h.ord.refl (jfold_lt h hx hl))
theorem jfold_is (h : Lat n F J M) {l : List Nat} {x k : Nat} (hx : x < n) (hl : ∀ a ∈ l, a < n) (hk : k < n) (h1 : F x k = true) (h2 : ∀ a ∈ l, F a k = true) (h3 : F k (jfold F n l x) = true) : jfold F n l x = k :=
  h.ord.anti (jfold_lt h hx hl) hk ((jfold_le h hk hx hl).2 ⟨h1, h2⟩) h3
def bt (F : Nat → Nat → Bool) (n : Nat) : Nat := (botI F n).toNat
theorem Lat.bt_is (h : Lat n F J M) (hn : 0 < n) : bt F n < n ∧ ∀ k, k < n → F (bt F n) k = true := by
  obtain ⟨i, hi, e, hk, _⟩ := h.bot hn
  unfold bt
  rw [e]
  exact ⟨hi, hk⟩
def under (F : Nat → Nat → Bool) (n e : Nat) : List Nat := (List.range n).filter fun i => !decide (i = e) && F i e
theorem mem_under {e a : Nat} : a ∈ under F n e ↔ a < n ∧ a ≠ e ∧ F a e = true := by simp [under, List.mem_filter]
def irrB (F : Nat → Nat → Bool) (n e : Nat) : Bool := !decide (e = bt F n) && !decide (jfold F n (under F n e) (bt F n) = e)
def irr (F : Nat → Nat → Bool) (n : Nat) : List Nat := (List.range n).filter (irrB F n)
theorem mem_irr {e : Nat} : e ∈ irr F n ↔ e < n ∧ e ≠ bt F n ∧ jfold F n (under F n e) (bt F n) ≠ e := by simp [irr, irrB, List.mem_filter]
theorem under_lt {e : Nat} : ∀ a ∈ under F n e, a < n := fun a h => (mem_under.1 h).1
/-- Each element is the least that all irreducibles at most it are at most. -/
theorem irr_join (h : Lat n F J M) (hn : 0 < n) : ∀ (c a : Nat), a < n → (List.range n).countP (fun i => F i a) = c → ∀ k, k < n → (∀ e ∈ irr F n, F e a = true → F e k = true) → F a k = true := by
  intro c
  induction c using Nat.strongRecOn with
  | _ c ih =>
    intro a ha hc k hk hall
    obtain ⟨hb, hbk⟩ := h.bt_is hn
    by_cases hbt : a = bt F n
    · rw [hbt]; exact hbk k hk
    · by_cases hj : jfold F n (under F n a) (bt F n) = a
      · rw [← hj]
        refine (jfold_le h hk hb under_lt).2 ⟨hbk k hk, fun b hbu => ?_⟩
        obtain ⟨hbn, hne, hle⟩ := mem_under.1 hbu
        have T := @Pord.trans _ _ h.ord
        have hlt : (List.range n).countP (fun i => F i b) < c := by
          rw [← hc]
          have hle2 : ∀ i ∈ List.range n, F i b = true → F i a = true := fun i hi h1 => T (List.mem_range.1 hi) hbn ha h1 hle
          have h1 := List.countP_mono_left (l := List.range n) (p := fun i => F i b) (q := fun i => F i a) hle2
          refine Nat.lt_of_le_of_ne h1 fun e => ?_
          have : ∀ (l : List Nat), (∀ i ∈ l, F i b = true → F i a = true) → l.countP (fun i => F i b) = l.countP (fun i => F i a) → ∀ i ∈ l, F i a = true → F i b = true := by
            intro l
            induction l with
            | nil => intro _ _ i hi; cases hi
            | cons x l ih =>
              intro hs he i hi hia
              rw [List.countP_cons, List.countP_cons] at he
              have hm := List.countP_mono_left (l := l) (p := fun i => F i b) (q := fun i => F i a) (fun i hi => hs i (by simp [hi]))
              have hx := hs x (by simp)
              cases e1 : F x b <;> cases e2 : F x a <;> simp [e1, e2] at he hx
              · rcases List.mem_cons.1 hi with rfl | hi
                · rw [e2] at hia; cases hia
                · exact ih (fun i hi => hs i (by simp [hi])) he i hi hia
              · omega
              · rcases List.mem_cons.1 hi with rfl | hi
                · exact e1
                · exact ih (fun i hi => hs i (by simp [hi])) he i hi hia
          have := this _ hle2 e a (List.mem_range.2 ha) (h.ord.refl ha)
          exact hne (h.ord.anti hbn ha hle this)
        exact ih _ hlt b hbn rfl k hk fun e he h1 => hall e he (T (mem_irr.1 he).1 hbn ha h1 hle)
      · exact hall a (mem_irr.2 ⟨ha, hbt, hj⟩) (h.ord.refl ha)
theorem irr_le (h : Lat n F J M) (hn : 0 < n) {a k : Nat} (ha : a < n) (hk : k < n) : F a k = true ↔ ∀ e ∈ irr F n, F e a = true → F e k = true :=
  ⟨fun h1 e he h2 => h.ord.trans (mem_irr.1 he).1 ha hk h2 h1, fun hall => irr_join h hn _ a ha rfl k hk hall⟩
theorem meet_fold (h : Lat n F J M) {e : Nat} (he : e < n) : ∀ {l : List Nat} {x : Nat}, x < n → (∀ a ∈ l, a < n) → mn F n e (jfold F n l x) = jfold F n (l.map (mn F n e)) (mn F n e x)
  | [], x, _, _ => rfl
  | a :: l, x, hx, hl => by
    have ha := hl a (by simp)
    have hj := h.std.j hx ha
    have ih := meet_fold h he (l := l) hj.lt (fun b hb => hl b (by simp [hb]))
    have e1 : jfold F n (a :: l) x = jfold F n l (jn F n x a) := rfl
    have e2 : jfold F n ((a :: l).map (mn F n e)) (mn F n e x) = jfold F n (l.map (mn F n e)) (jn F n (mn F n e x) (mn F n e a)) := rfl
    rw [e1, e2, ih, h.std.d he hx ha]
/-- An irreducible at most a join is at most one of it. -/
theorem irr_prime (h : Lat n F J M) (hn : 0 < n) {e : Nat} (he : e ∈ irr F n) {l : List Nat} (hl : ∀ a ∈ l, a < n) (hle : F e (jfold F n l (bt F n)) = true) : ∃ a ∈ l, F e a = true := by
  obtain ⟨hen, hb0, hu⟩ := mem_irr.1 he
  obtain ⟨hb, hbk⟩ := h.bt_is hn
  have hjl := jfold_lt h hb hl
  have hs := h.std
  refine Classical.byContradiction fun hno => hu ?_
  have hno : ∀ a ∈ l, F e a ≠ true := fun a ha h1 => hno ⟨a, ha, h1⟩
  have hme : mn F n e (jfold F n l (bt F n)) = e := by
    refine hs.meq hen hjl ⟨hen, h.ord.refl hen, hle, fun hk h1 _ => h1⟩
  rw [meet_fold h hen hb hl] at hme
  have hmb : mn F n e (bt F n) = bt F n := hs.meq hen hb ⟨hb, hbk e hen, h.ord.refl hb, fun hk _ h2 => h2⟩
  rw [hmb] at hme
  have hml : ∀ a ∈ l.map (mn F n e), a < n := fun a ha => by
    obtain ⟨b, hb2, rfl⟩ := List.mem_map.1 ha
    exact hs.ml hen (hl b hb2)
  refine jfold_is h hb under_lt hen (hbk e hen) (fun a ha => (mem_under.1 ha).2.2) ?_
  have hju := jfold_lt h hb (under_lt (F := F) (n := n) (e := e))
  have : F (jfold F n (l.map (mn F n e)) (bt F n)) (jfold F n (under F n e) (bt F n)) = true := by
    refine (jfold_le h hju hb hml).2 ⟨hbk _ hju, fun a ha => ?_⟩
    obtain ⟨b, hb2, rfl⟩ := List.mem_map.1 ha
    have hm := hs.m hen (hl b hb2)
    refine (jfold_up h hb under_lt).2 _ (mem_under.2 ⟨hm.lt, fun e1 => hno b hb2 ?_, hm.l⟩)
    have := hm.r
    rw [e1] at this
    exact this
  rw [hme] at this
  exact this
end Go.Proofs.Ythdfoahnkkkbmaa
namespace Go.Proofs.Ythdfoahnkkkbmaa
set_option linter.unusedVariables false
set_option linter.unusedSimpArgs false
open Go.RowKit

variable {n : Nat} {F : Nat → Nat → Bool} {J M : Nat → Nat → Nat}
def ir (F : Nat → Nat → Bool) (n i : Nat) : Nat := (irr F n).getD i 0
theorem ir_mem {i : Nat} (hi : i < (irr F n).length) : ir F n i ∈ irr F n := by
  unfold ir
  rw [List.getD_eq_getElem?_getD, List.getElem?_eq_getElem hi]
  exact List.getElem_mem _
theorem ir_lt {i : Nat} (hi : i < (irr F n).length) : ir F n i < n := (mem_irr.1 (ir_mem hi)).1
theorem mem_ir {e : Nat} (h : e ∈ irr F n) : ∃ i, i < (irr F n).length ∧ ir F n i = e := by
  obtain ⟨i, hi, e1⟩ := List.mem_iff_getElem.1 h
  exact ⟨i, hi, by unfold ir; rw [List.getD_eq_getElem?_getD, List.getElem?_eq_getElem hi]; exact e1⟩
theorem irr_len : (irr F n).length ≤ n := by
  have := List.length_filter_le (irrB F n) (List.range n)
  simpa [irr] using this
def setS (F : Nat → Nat → Bool) (n a : Nat) : Nat := bset (fun i => F (ir F n i) a) (irr F n).length
theorem setS_bit {a i : Nat} : (setS F n a).testBit i = true ↔ i < (irr F n).length ∧ F (ir F n i) a = true := by
  unfold setS
  rw [bset_bit]
  simp
/-- Those of a set, in their order. -/
def selK (F : Nat → Nat → Bool) (n s k : Nat) : List Nat := (List.range k).flatMap fun i => if s.testBit i then [ir F n i] else []
def sel (F : Nat → Nat → Bool) (n s : Nat) : List Nat := selK F n s (irr F n).length
theorem selK_succ (s k : Nat) : selK F n s (k + 1) = selK F n s k ++ if s.testBit k then [ir F n k] else [] := by
  unfold selK
  rw [List.range_succ, List.flatMap_append]
  simp
theorem mem_sel {s x : Nat} : x ∈ sel F n s ↔ ∃ i, i < (irr F n).length ∧ s.testBit i = true ∧ x = ir F n i := by
  unfold sel selK
  rw [List.mem_flatMap]
  constructor
  · rintro ⟨i, hi, hx⟩
    by_cases h : s.testBit i = true
    · rw [if_pos h] at hx
      exact ⟨i, List.mem_range.1 hi, h, List.mem_singleton.1 hx⟩
    · rw [if_neg h] at hx
      cases hx
  · rintro ⟨i, hi, h, rfl⟩
    exact ⟨i, List.mem_range.2 hi, by rw [if_pos h]; exact List.mem_singleton.2 rfl⟩
theorem sel_lt {s : Nat} : ∀ x ∈ sel F n s, x < n := fun x hx => by
  obtain ⟨i, hi, _, rfl⟩ := mem_sel.1 hx
  exact ir_lt hi
def ofS (F : Nat → Nat → Bool) (n s : Nat) : Nat := jfold F n (sel F n s) (bt F n)
def downB (F : Nat → Nat → Bool) (n s i : Nat) : Bool := (List.range (irr F n).length).any fun k => s.testBit k && F (ir F n i) (ir F n k)
def downS (F : Nat → Nat → Bool) (n s : Nat) : Nat := bset (downB F n s) (irr F n).length
theorem downS_bit {s i : Nat} : (downS F n s).testBit i = true ↔ i < (irr F n).length ∧ ∃ k, k < (irr F n).length ∧ s.testBit k = true ∧ F (ir F n i) (ir F n k) = true := by
  unfold downS
  rw [bset_bit]
  simp only [Bool.and_eq_true, decide_eq_true_eq, downB, List.any_eq_true, List.mem_range]
theorem ofS_lt (h : Lat n F J M) (hn : 0 < n) (s : Nat) : ofS F n s < n := jfold_lt h (h.bt_is hn).1 sel_lt
theorem ofS_le (h : Lat n F J M) (hn : 0 < n) {s k : Nat} (hk : k < n) : F (ofS F n s) k = true ↔ ∀ i, i < (irr F n).length → s.testBit i = true → F (ir F n i) k = true := by
  obtain ⟨hb, hbk⟩ := h.bt_is hn
  unfold ofS
  rw [jfold_le h hk hb sel_lt]
  constructor
  · rintro ⟨_, h2⟩ i hi hs
    exact h2 _ (mem_sel.2 ⟨i, hi, hs, rfl⟩)
  · intro h2
    refine ⟨hbk k hk, fun a ha => ?_⟩
    obtain ⟨i, hi, hs, rfl⟩ := mem_sel.1 ha
    exact h2 i hi hs
theorem ir_le (h : Lat n F J M) (hn : 0 < n) {a k : Nat} (ha : a < n) (hk : k < n) : F a k = true ↔ ∀ i, i < (irr F n).length → F (ir F n i) a = true → F (ir F n i) k = true := by
  rw [irr_le h hn ha hk]
  constructor
  · intro h2 i hi h3
    exact h2 _ (ir_mem hi) h3
  · intro h2 e he h3
    obtain ⟨i, hi, rfl⟩ := mem_ir he
    exact h2 i hi h3
/-- Each element is the join of its set. -/
theorem ofS_setS (h : Lat n F J M) (hn : 0 < n) {a : Nat} (ha : a < n) : ofS F n (setS F n a) = a := by
  refine h.ord.anti (ofS_lt h hn _) ha ((ofS_le h hn ha).2 fun i hi hs => (setS_bit.1 hs).2) ?_
  refine (ir_le h hn ha (ofS_lt h hn _)).2 fun i hi h2 => ?_
  exact (ofS_le h hn (ofS_lt h hn _)).1 (h.ord.refl (ofS_lt h hn _)) i hi (setS_bit.2 ⟨hi, h2⟩)
/-- Its set is down. -/
theorem downS_setS (h : Lat n F J M) {a : Nat} (ha : a < n) : downS F n (setS F n a) = setS F n a := by
  apply Nat.eq_of_testBit_eq
  intro i
  rw [Bool.eq_iff_iff, downS_bit, setS_bit]
  constructor
  · rintro ⟨hi, k, hk, h1, h2⟩
    exact ⟨hi, h.ord.trans (ir_lt hi) (ir_lt hk) ha h2 (setS_bit.1 h1).2⟩
  · rintro ⟨hi, h1⟩
    exact ⟨hi, i, hi, setS_bit.2 ⟨hi, h1⟩, h.ord.refl (ir_lt hi)⟩
theorem setS_within (h : Lat n F J M) (hn : 0 < n) {a b : Nat} (ha : a < n) (hb : b < n) : F a b = true ↔ setS F n a &&& setS F n b = setS F n a := by
  rw [ir_le h hn ha hb]
  constructor
  · intro h1
    apply Nat.eq_of_testBit_eq
    intro i
    rw [Nat.testBit_and, Bool.eq_iff_iff, Bool.and_eq_true]
    constructor
    · exact fun h2 => h2.1
    · intro h2
      obtain ⟨hi, h3⟩ := setS_bit.1 h2
      exact ⟨h2, setS_bit.2 ⟨hi, h1 i hi h3⟩⟩
  · intro h1 i hi h2
    have h3 := (setS_bit (a := a)).2 ⟨hi, h2⟩
    rw [← h1, Nat.testBit_and, Bool.and_eq_true] at h3
    exact (setS_bit.1 h3.2).2
theorem setS_inj (h : Lat n F J M) (hn : 0 < n) {a b : Nat} (ha : a < n) (hb : b < n) (e : setS F n a = setS F n b) : a = b := by
  rw [← ofS_setS h hn ha, e, ofS_setS h hn hb]
theorem downS_two (h : Lat n F J M) (s : Nat) : downS F n (downS F n s) = downS F n s := by
  apply Nat.eq_of_testBit_eq
  intro i
  rw [Bool.eq_iff_iff, downS_bit, downS_bit]
  constructor
  · rintro ⟨hi, k, hk, h1, h2⟩
    obtain ⟨_, m, hm, h3, h4⟩ := downS_bit.1 h1
    exact ⟨hi, m, hm, h3, h.ord.trans (ir_lt hi) (ir_lt hk) (ir_lt hm) h2 h4⟩
  · rintro ⟨hi, k, hk, h1, h2⟩
    exact ⟨hi, i, hi, downS_bit.2 ⟨hi, k, hk, h1, h2⟩, h.ord.refl (ir_lt hi)⟩
theorem ofS_downS (h : Lat n F J M) (hn : 0 < n) (s : Nat) : ofS F n (downS F n s) = ofS F n s := by
  have l1 := ofS_lt h hn s
  have l2 := ofS_lt h hn (downS F n s)
  refine h.ord.anti l2 l1 ((ofS_le h hn l1).2 fun i hi hs => ?_) ((ofS_le h hn l2).2 fun i hi hs => ?_)
  · obtain ⟨_, k, hk, h1, h2⟩ := downS_bit.1 hs
    exact h.ord.trans (ir_lt hi) (ir_lt hk) l1 h2 ((ofS_le h hn l1).1 (h.ord.refl l1) k hk h1)
  · exact (ofS_le h hn l2).1 (h.ord.refl l2) i hi (downS_bit.2 ⟨hi, i, hi, hs, h.ord.refl (ir_lt hi)⟩)
/-- A set that is down is that of its join. -/
theorem setS_ofS (h : Lat n F J M) (hn : 0 < n) (s : Nat) : setS F n (ofS F n s) = downS F n s := by
  apply Nat.eq_of_testBit_eq
  intro i
  rw [Bool.eq_iff_iff, downS_bit, setS_bit]
  constructor
  · rintro ⟨hi, h1⟩
    obtain ⟨a, ha, h2⟩ := irr_prime h hn (ir_mem hi) sel_lt h1
    obtain ⟨k, hk, h3, rfl⟩ := mem_sel.1 ha
    exact ⟨hi, k, hk, h3, h2⟩
  · rintro ⟨hi, k, hk, h1, h2⟩
    have l1 := ofS_lt h hn s
    exact ⟨hi, h.ord.trans (ir_lt hi) (ir_lt hk) l1 h2 ((ofS_le h hn l1).1 (h.ord.refl l1) k hk h1)⟩
/-- By how many two sets are apart. -/
def apartK (a b k : Nat) : Nat := (List.range k).countP fun i => a.testBit i != b.testBit i
def apartS (a b : Nat) : Nat := apartK a b 64
theorem apartK_succ (a b k : Nat) : apartK a b (k + 1) = apartK a b k + if a.testBit k != b.testBit k then 1 else 0 := by
  unfold apartK
  rw [List.range_succ, List.countP_append]
  simp [List.countP_cons]
theorem apart_comm (a b : Nat) : apartS a b = apartS b a := by
  unfold apartS apartK
  congr 1
  funext i
  cases a.testBit i <;> cases b.testBit i <;> rfl
theorem apart_tri (a b c : Nat) : ∀ k, apartK a c k ≤ apartK a b k + apartK b c k
  | 0 => by simp [apartK]
  | k + 1 => by
    have := apart_tri a b c k
    rw [apartK_succ, apartK_succ, apartK_succ]
    cases a.testBit k <;> cases b.testBit k <;> cases c.testBit k <;> simp <;> omega
theorem setS_lt (h64 : n ≤ 64) (a : Nat) : setS F n a < 2 ^ 64 :=
  Nat.lt_of_lt_of_le (bset_lt _ _) (Nat.pow_le_pow_right (by omega) (Nat.le_trans irr_len h64))
theorem apart_zero (h : Lat n F J M) (hn : 0 < n) (h64 : n ≤ 64) {a b : Nat} (ha : a < n) (hb : b < n) : apartS (setS F n a) (setS F n b) = 0 ↔ a = b := by
  constructor
  · intro e
    refine setS_inj h hn ha hb (Nat.eq_of_testBit_eq fun i => ?_)
    unfold apartS apartK at e
    rw [List.countP_eq_zero] at e
    by_cases hi : i < 64
    · have := e i (List.mem_range.2 hi)
      simpa using this
    · have hp : ∀ c : Nat, c < 2 ^ 64 → c.testBit i = false := fun c hc => Nat.testBit_lt_two_pow (Nat.lt_of_lt_of_le hc (Nat.pow_le_pow_right (by omega) (by omega)))
      rw [hp _ (setS_lt h64 a), hp _ (setS_lt h64 b)]
  · rintro rfl
    unfold apartS apartK
    rw [List.countP_eq_zero]
    simp
theorem jn_bit (h : Lat n F J M) (hn : 0 < n) {a b i : Nat} (ha : a < n) (hb : b < n) : (setS F n (jn F n a b)).testBit i = ((setS F n a).testBit i || (setS F n b).testBit i) := by
  have hj := h.std.j ha hb
  obtain ⟨ht, htk⟩ := h.bt_is hn
  rw [Bool.eq_iff_iff, Bool.or_eq_true, setS_bit, setS_bit, setS_bit]
  have T := @Pord.trans _ _ h.ord
  constructor
  · rintro ⟨hi, h1⟩
    have e : jfold F n [a, b] (bt F n) = jn F n a b := by
      show jn F n (jn F n (bt F n) a) b = jn F n a b
      rw [(h.std.le ht ha).1 (htk a ha)]
    rw [← e] at h1
    obtain ⟨c, hc, h2⟩ := irr_prime h hn (ir_mem hi) (l := [a, b]) (by intro c hc; simp at hc; rcases hc with rfl | rfl <;> assumption) h1
    simp at hc
    rcases hc with rfl | rfl
    · exact .inl ⟨hi, h2⟩
    · exact .inr ⟨hi, h2⟩
  · rintro (⟨hi, h1⟩ | ⟨hi, h1⟩)
    · exact ⟨hi, T (ir_lt hi) ha hj.lt h1 hj.l⟩
    · exact ⟨hi, T (ir_lt hi) hb hj.lt h1 hj.r⟩
theorem mn_bit (h : Lat n F J M) {a b i : Nat} (ha : a < n) (hb : b < n) : (setS F n (mn F n a b)).testBit i = ((setS F n a).testBit i && (setS F n b).testBit i) := by
  have hm := h.std.m ha hb
  rw [Bool.eq_iff_iff, Bool.and_eq_true, setS_bit, setS_bit, setS_bit]
  have T := @Pord.trans _ _ h.ord
  constructor
  · rintro ⟨hi, h1⟩
    exact ⟨⟨hi, T (ir_lt hi) hm.lt ha h1 hm.l⟩, ⟨hi, T (ir_lt hi) hm.lt hb h1 hm.r⟩⟩
  · rintro ⟨⟨hi, h1⟩, ⟨_, h2⟩⟩
    exact ⟨hi, hm.least (ir_lt hi) h1 h2⟩
theorem apart_jm (h : Lat n F J M) (hn : 0 < n) {a b : Nat} (ha : a < n) (hb : b < n) : apartS (setS F n (jn F n a b)) (setS F n (mn F n a b)) = apartS (setS F n a) (setS F n b) := by
  unfold apartS apartK
  congr 1
  funext i
  rw [jn_bit h hn ha hb, mn_bit h ha hb]
  cases (setS F n a).testBit i <;> cases (setS F n b).testBit i <;> rfl
/-- From the bottom to the top it is as far as there are irreducibles. -/
theorem apart_ends (h : Lat n F J M) (hn : 0 < n) (h64 : n ≤ 64) {t : Nat} (ht : t < n) (htk : ∀ k, k < n → F k t = true) : apartS (setS F n (bt F n)) (setS F n t) = (irr F n).length := by
  obtain ⟨hb, hbk⟩ := h.bt_is hn
  have h1 : ∀ i, ((setS F n (bt F n)).testBit i != (setS F n t).testBit i) = decide (i < (irr F n).length) := fun i => by
    have e1 : (setS F n (bt F n)).testBit i = false := by
      cases e : (setS F n (bt F n)).testBit i with
      | false => rfl
      | true =>
        obtain ⟨hi, h2⟩ := setS_bit.1 e
        exact absurd (h.ord.anti (ir_lt hi) hb h2 (hbk _ (ir_lt hi))) (mem_irr.1 (ir_mem hi)).2.1
    have e2 : (setS F n t).testBit i = decide (i < (irr F n).length) := by
      rw [Bool.eq_iff_iff, setS_bit, decide_eq_true_eq]
      exact ⟨fun h => h.1, fun h => ⟨h, htk _ (ir_lt h)⟩⟩
    rw [e1, e2]
    cases decide (i < (irr F n).length) <;> rfl
  have h2 : ∀ m k, m ≤ k → (List.range k).countP (fun i => decide (i < m)) = m := by
    intro m k hmk
    induction k with
    | zero => have : m = 0 := by omega
              subst this; rfl
    | succ k ih =>
      rw [List.range_succ, List.countP_append]
      rcases Nat.lt_or_ge k m with e | e
      · have : m = k + 1 := by omega
        subst this
        have : (List.range k).countP (fun i => decide (i < k + 1)) = k := by
          have h3 : (List.range k).countP (fun i => decide (i < k + 1)) = (List.range k).length := by
            rw [List.countP_eq_length]
            intro a ha
            have := List.mem_range.1 ha
            simp; omega
          rw [h3, List.length_range]
        rw [this]
        simp
      · rw [ih e]
        have : ¬ k < m := by omega
        simp [this]
  unfold apartS apartK
  rw [show (fun i => (setS F n (bt F n)).testBit i != (setS F n t).testBit i) = (fun i => decide (i < (irr F n).length)) from funext h1]
  exact h2 _ _ (Nat.le_trans irr_len h64)
end Go.Proofs.Ythdfoahnkkkbmaa
namespace Go.Proofs.Ythdfoahnkkkbmaa
set_option linter.unusedVariables false
set_option linter.unusedSimpArgs false
open Go.RowKit Go.Maps

def sbo : ByteArray := ⟨#[98, 111, 116]⟩
def sl : ByteArray := ⟨#[108]⟩
def sr : ByteArray := ⟨#[114]⟩
def sto : ByteArray := ⟨#[116, 111, 112]⟩
def sqL : List OPr := [(sbo, sl), (sbo, sr), (sl, sto), (sr, sto)]
def twL : List OPr := [(oa, ⟨#[]⟩), (ob, ⟨#[]⟩)]
def sqB (o : Od) : Bool := decide (o.ns.length = 4) && ((List.range 4).all fun a => (List.range 4).all fun b => !lbad1 (rmost o) 4 a b && !lbad2 (rmost o) 4 a b) && decide (rjoinI (rmost o) 4 1 2 = 3) && decide (irr (rmost o) 4 = [1, 2]) && decide (setS (rmost o) 4 3 = 3)
def twB (o : Od) : Bool := decide (o.ns.length = 2) && !lbad1 (rmost o) 2 0 0 && lbad1 (rmost o) 2 0 1
theorem sq_k : (newO sqL).1.map sqB = some true := by decide +kernel
theorem tw_k : (newO twL).1.map twB = some true := by decide +kernel
theorem sq_new : ∃ o, (newO sqL).1 = some o ∧ o.ns.length = 4 ∧ LNew o.ns.length (rmost o) 0 0 0 ∧ rjoinI (rmost o) o.ns.length 1 2 = 3 ∧ irr (rmost o) o.ns.length = [1, 2] ∧ setS (rmost o) o.ns.length 3 = 3 := by
  obtain ⟨o, ho, h⟩ := Option.map_eq_some_iff.1 sq_k
  unfold sqB at h
  simp only [Bool.and_eq_true, decide_eq_true_eq] at h
  obtain ⟨⟨⟨⟨h1, h2⟩, h3⟩, h4⟩, h5⟩ := h
  have h6 : ∀ x y, x < 4 → y < 4 → lbad1 (rmost o) 4 x y = false ∧ lbad2 (rmost o) 4 x y = false := fun x y hx hy => by
    have := List.all_eq_true.1 (List.all_eq_true.1 h2 x (List.mem_range.2 hx)) y (List.mem_range.2 hy)
    simpa using this
  refine ⟨o, ho, h1, ?_, ?_, ?_, ?_⟩
  · rw [h1]; exact .ok (by decide) (fun x y hx hy => (h6 x y hx hy).1) (fun x y hx hy => (h6 x y hx hy).2)
  · rw [h1]; exact h3
  · rw [h1]; exact h4
  · rw [h1]; exact h5
theorem tw_new : ∃ o, (newO twL).1 = some o ∧ o.ns.length = 2 ∧ LNew o.ns.length (rmost o) 0 1 17 := by
  obtain ⟨o, ho, h⟩ := Option.map_eq_some_iff.1 tw_k
  unfold twB at h
  simp only [Bool.and_eq_true, decide_eq_true_eq] at h
  obtain ⟨⟨h1, h2⟩, h3⟩ := h
  refine ⟨o, ho, h1, ?_⟩
  rw [h1]
  refine .one ⟨by decide, by decide, h3, fun x y hx hy h => ?_⟩
  have : x = 0 ∧ y = 0 := by omega
  obtain ⟨rfl, rfl⟩ := this
  simpa using h2
/-- Four pairs, in the block that they were just laid in. -/
def o4b (a b c d e f g h : ByteArray) : Obj := .cells #[.string a, .string b, .int .i64 0, .string c, .string d, .int .i64 0, .string e, .string f, .int .i64 0, .string g, .string h, .int .i64 0] 25
theorem pairs_four (w : World) (a b c d e f g h : ByteArray) : ShP (w.alloc (o4b a b c d e f g h)) (w.alloc (o4b a b c d e f g h)).heap.size (some ⟨w.heap.size, 0, none⟩) 4 [((a, b), 0), ((c, d), 0), ((e, f), 0), ((g, h), 0)] := by
  have hb : Blk (w.alloc (o4b a b c d e f g h)) w.heap.size 25 [.string a, .string b, .int .i64 0, .string c, .string d, .int .i64 0, .string e, .string f, .int .i64 0, .string g, .string h, .int .i64 0] := Blk.new _ _ _
  refine ⟨rfl, fun _ => ⟨w.heap.size, 0, rfl, by simp, fun k t ht => ?_⟩⟩
  match k, ht with
  | 0, ht => cases ht; exact ⟨hb.cell 0, hb.cell 1, hb.cell 2⟩
  | 1, ht => cases ht; exact ⟨hb.cell 3, hb.cell 4, hb.cell 5⟩
  | 2, ht => cases ht; exact ⟨hb.cell 6, hb.cell 7, hb.cell 8⟩
  | 3, ht => cases ht; exact ⟨hb.cell 9, hb.cell 10, hb.cell 11⟩
end Go.Proofs.Ythdfoahnkkkbmaa
