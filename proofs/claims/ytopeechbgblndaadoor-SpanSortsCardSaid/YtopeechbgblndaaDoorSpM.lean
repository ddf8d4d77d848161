/-
  THE MATH OF TEXTS THAT ARE CHANGED AT SOME PLACES: which edits may be, what Apply, Back and Place answer, and how these hang together.
-/
import Derived.Test.YtopeechbgblndaaDoorRows
namespace Go.Proofs.YtopeechbgblndaaDoor
set_option linter.unusedVariables false
set_option linter.unusedSimpArgs false

/-- An edit: its From, its To, its Text. -/
abbrev Ed := Int × Int × List Int
/-- The edit of place k is no reason to refuse. -/
def okAt (n : Int) (L : List Ed) (k : Nat) : Prop :=
  ∀ x, L[k]? = some x → (0 ≤ x.1 ∧ x.1 ≤ x.2.1 ∧ x.2.1 ≤ n) ∧ ∀ j y, j + 1 = k → L[j]? = some y → y.2.1 ≤ x.1 ∧ x.1 ≠ y.1
def okAll (n : Int) (L : List Ed) : Prop := ∀ k, k < L.length → okAt n L k
open Classical in
noncomputable def chk (n : Int) (L : List Ed) : Int := if 512 < L.length then 3 else if okAll n L then 0 else 1
theorem chk_long {n : Int} {L : List Ed} (h : 512 < L.length) : chk n L = 3 := if_pos h
theorem chk_ok {n : Int} {L : List Ed} (h : ¬ 512 < L.length) (ho : okAll n L) : chk n L = 0 := by unfold chk; rw [if_neg h, if_pos ho]
theorem chk_bad {n : Int} {L : List Ed} (h : ¬ 512 < L.length) {k : Nat} (hk : k < L.length) (ho : ¬ okAt n L k) : chk n L = 1 := by
  unfold chk; rw [if_neg h, if_neg (fun a => ho (a k hk))]
theorem chk_range (n : Int) (L : List Ed) : chk n L = 0 ∨ chk n L = 1 ∨ chk n L = 3 := by
  unfold chk
  by_cases h : 512 < L.length
  · rw [if_pos h]; omega
  · rw [if_neg h]
    by_cases h' : okAll n L
    · rw [if_pos h']; omega
    · rw [if_neg h']; omega
theorem chk_zero {n : Int} {L : List Ed} (h : chk n L = 0) : L.length ≤ 512 ∧ okAll n L := by
  by_cases h1 : 512 < L.length
  · rw [chk_long h1] at h; omega
  · refine ⟨by omega, ?_⟩
    unfold chk at h
    rw [if_neg h1] at h
    by_cases h' : okAll n L
    · exact h'
    · rw [if_neg h'] at h; omega

/-- The edits stand in order, from place p on, up to n. -/
def WOk (n : Int) : Int → List Ed → Prop
  | _, [] => True
  | p, x :: r => p ≤ x.1 ∧ x.1 ≤ x.2.1 ∧ x.2.1 ≤ n ∧ WOk n x.2.1 r
theorem okAll_tail {n : Int} {x : Ed} {L : List Ed} (h : okAll n (x :: L)) : okAll n L := by
  intro k hk y hy
  have := h (k + 1) (by simp; omega) y (by simpa using hy)
  exact ⟨this.1, fun j z hj hz => this.2 (j + 1) z (by omega) (by simpa using hz)⟩
theorem WOk_of {n p : Int} {L : List Ed} (h : okAll n L) (hp : ∀ x, L[0]? = some x → p ≤ x.1) : WOk n p L := by
  induction L generalizing p with
  | nil => trivial
  | cons x L ih =>
    have h0 := h 0 (by simp) x rfl
    refine ⟨hp x rfl, h0.1.2.1, h0.1.2.2, ih (okAll_tail h) ?_⟩
    intro y hy
    have := h 1 (by have := (List.getElem?_eq_some_iff.1 hy).1; simp; omega) y (by simpa using hy)
    exact (this.2 0 x rfl rfl).1
theorem WOk_zero {n : Int} {L : List Ed} (h : okAll n L) : WOk n 0 L :=
  WOk_of h fun x hx => (h 0 (by have := (List.getElem?_eq_some_iff.1 hx).1; omega) x hx).1.1

/-- Place i of the text, cut between two places. -/
def seg (bs : List Int) (p q : Int) : List Int := (bs.take q.toNat).drop p.toNat
theorem seg_len {bs : List Int} {p q : Int} (h0 : 0 ≤ p) (h1 : p ≤ q) (h2 : q ≤ bs.length) : ((seg bs p q).length : Int) = q - p := by
  unfold seg
  rw [List.length_drop, List.length_take]
  omega
theorem seg_join (bs : List Int) {p q r : Int} (h0 : 0 ≤ p) (h1 : p ≤ q) (h2 : q ≤ r) (h3 : r ≤ bs.length) : seg bs p q ++ seg bs q r = seg bs p r := by
  unfold seg
  have e1 : bs.take q.toNat = (bs.take r.toNat).take q.toNat := by rw [List.take_take, Nat.min_eq_left (by omega)]
  rw [e1]
  have := List.take_append_drop q.toNat (bs.take r.toNat)
  have e2 : ((bs.take r.toNat).take q.toNat ++ (bs.take r.toNat).drop q.toNat).drop p.toNat = ((bs.take r.toNat).take q.toNat).drop p.toNat ++ (bs.take r.toNat).drop q.toNat := by
    rw [List.drop_append_of_le_length]
    rw [List.length_take, List.length_take]
    omega
  rw [← e2, this]
theorem seg_self (bs : List Int) (p : Int) : seg bs p p = [] := by
  unfold seg
  rw [List.drop_eq_nil_iff, List.length_take]
  omega
theorem seg_all (bs : List Int) : seg bs 0 bs.length = bs := by
  unfold seg
  simp

/-- What Apply makes, from a place on. -/
def appl (bs : List Int) : Int → List Ed → List Int
  | p, [] => seg bs p bs.length
  | p, x :: r => seg bs p x.1 ++ x.2.2 ++ appl bs x.2.1 r
theorem appl_len_le (M : Nat) (bs : List Int) (L : List Ed) : ∀ p, (∀ x ∈ L, x.2.2.length ≤ M) → (appl bs p L).length ≤ bs.length * (L.length + 1) + M * L.length := by
  induction L with
  | nil => intro p _; unfold appl seg; rw [List.length_drop, List.length_take]; simp
  | cons x r ih =>
    intro p h
    unfold appl
    have h1 := ih x.2.1 (fun y hy => h y (List.mem_cons_of_mem _ hy))
    have h2 := h x List.mem_cons_self
    have h3 : (seg bs p x.1).length ≤ bs.length := by unfold seg; rw [List.length_drop, List.length_take]; omega
    rw [List.length_append, List.length_append, List.length_cons]
    have : bs.length * (r.length + 1 + 1) = bs.length * (r.length + 1) + bs.length := by rw [Nat.mul_succ]
    have h4 : M * (r.length + 1) = M * r.length + M := by rw [Nat.mul_succ]
    omega
/-- Up to the first edit all is as it was. -/
theorem appl_split {bs : List Int} {p q : Int} {L : List Ed} (h : WOk bs.length q L) (hp : 0 ≤ p) (hpq : p ≤ q) (hq : q ≤ bs.length) : appl bs p L = seg bs p q ++ appl bs q L := by
  cases L with
  | nil => unfold appl; rw [seg_join bs hp hpq hq (by omega)]
  | cons x r =>
    obtain ⟨h1, h2, h3, h4⟩ := h
    unfold appl
    rw [← seg_join bs hp hpq h1 (by omega)]
    simp [List.append_assoc]

/-- By how much longer an edit makes a text. -/
def grow (x : Ed) : Int := x.2.2.length - (x.2.1 - x.1)
/-- What Back tells. -/
def back (bs : List Int) : Int → List Ed → List Ed
  | _, [] => []
  | lon, x :: r => (x.1 + lon, x.1 + lon + x.2.2.length, seg bs x.1 x.2.1) :: back bs (lon + grow x) r
theorem back_len (bs : List Int) (L : List Ed) : ∀ lon, (back bs lon L).length = L.length := by
  induction L with
  | nil => intro; rfl
  | cons x r ih => intro lon; unfold back; simp [ih]

theorem seg_right {pre : List Int} (X : List Int) {p q : Int} (hp : (pre.length : Int) ≤ p) (hq : p ≤ q) : seg (pre ++ X) p q = seg X (p - pre.length) (q - pre.length) := by
  unfold seg
  rw [List.take_append, List.drop_append]
  have e1 : List.drop p.toNat (List.take q.toNat pre) = [] := by
    rw [List.drop_eq_nil_iff, List.length_take]; omega
  rw [e1, List.nil_append, List.length_take]
  congr 2
  · congr 1
    omega
  · omega
theorem seg_left {X : List Int} (Y : List Int) {p q : Int} (hq : q ≤ X.length) : seg (X ++ Y) p q = seg X p q := by
  unfold seg
  rw [List.take_append_of_le_length (by omega)]
theorem seg_whole {X : List Int} {q : Int} (h : (X.length : Int) = q) : seg X 0 q = X := by
  subst h; exact seg_all X

/-- What is changed, and changed back, is as it was; each change back stands at its text. -/
theorem back_all (bs : List Int) (L : List Ed) : ∀ (p lon : Int) (pre : List Int), WOk bs.length p L → 0 ≤ p → p ≤ bs.length → (pre.length : Int) = p + lon →
    let c := pre ++ appl bs p L
    WOk c.length (p + lon) (back bs lon L) ∧ appl c (p + lon) (back bs lon L) = seg bs p bs.length ∧
      ∀ (k : Nat) (x : Ed), L[k]? = some x → ∃ y : Ed, (back bs lon L)[k]? = some y ∧ y.2.2 = seg bs x.1 x.2.1 ∧ seg c y.1 y.2.1 = x.2.2 ∧ 0 ≤ y.1 ∧ y.1 ≤ y.2.1 ∧ y.2.1 ≤ c.length := by
  induction L with
  | nil =>
    intro p lon pre h hp hpn hl
    refine ⟨trivial, ?_, fun k x hk => by simp at hk⟩
    unfold back appl
    have hlen := seg_len (bs := bs) hp hpn (Int.le_refl _)
    unfold appl
    rw [List.length_append, ← hl, seg_right _ (Int.le_refl _) (by omega)]
    rw [show (pre.length : Int) - pre.length = 0 by omega, seg_whole]
    omega
  | cons x r ih =>
    intro p lon pre h hp hpn hl
    obtain ⟨f, t, s⟩ := x
    obtain ⟨h1, h2, h3, h4⟩ := h
    dsimp only at h1 h2 h3 h4
    have hsl := seg_len (bs := bs) hp h1 (by omega : f ≤ bs.length)
    have hlen' : ((pre ++ seg bs p f ++ s).length : Int) = t + (lon + grow (f, t, s)) := by
      unfold grow
      simp only [List.length_append]
      push_cast
      omega
    have ih' := ih t (lon + grow (f, t, s)) (pre ++ seg bs p f ++ s) h4 (by omega) h3 hlen'
    have hc : pre ++ appl bs p ((f, t, s) :: r) = (pre ++ seg bs p f ++ s) ++ appl bs t r := by
      show pre ++ (seg bs p f ++ s ++ appl bs t r) = _
      simp [List.append_assoc]
    rw [hc]
    dsimp only at ih'
    obtain ⟨i1, i2, i3⟩ := ih'
    obtain ⟨c, hcc⟩ : ∃ c, (pre ++ seg bs p f ++ s) ++ appl bs t r = c := ⟨_, rfl⟩
    rw [hcc] at i1 i2 i3 ⊢
    have e0 : t + (lon + grow (f, t, s)) = f + lon + s.length := by unfold grow; dsimp only; omega
    rw [e0] at i1 i2
    have hcl : f + lon + s.length ≤ (c.length : Int) := by
      rw [← hcc, List.length_append]
      rw [e0] at hlen'
      push_cast
      omega
    have hs : seg c (f + lon) (f + lon + s.length) = s := by
      rw [← hcc, List.append_assoc, List.append_assoc, ← List.append_assoc]
      rw [seg_right (pre := pre ++ seg bs p f) _ (by rw [List.length_append]; push_cast; omega) (by omega)]
      have e1 : f + lon - ((pre ++ seg bs p f).length : Int) = 0 := by rw [List.length_append]; push_cast; omega
      have e2 : f + lon + (s.length : Int) - ((pre ++ seg bs p f).length : Int) = s.length := by rw [List.length_append]; push_cast; omega
      rw [e1, e2, seg_left _ (Int.le_refl _), seg_whole rfl]
    have hpf : seg c (p + lon) (f + lon) = seg bs p f := by
      rw [← hcc, List.append_assoc, List.append_assoc]
      rw [seg_right (pre := pre) _ (by omega) (by omega)]
      have e1 : p + lon - (pre.length : Int) = 0 := by omega
      have e2 : f + lon - (pre.length : Int) = f - p := by omega
      rw [e1, e2, seg_left _ (by omega), seg_whole (by omega)]
    refine ⟨⟨by dsimp only; omega, by dsimp only; omega, hcl, i1⟩, ?_, ?_⟩
    · unfold back appl
      dsimp only
      rw [hpf, i2, List.append_assoc, seg_join bs (by omega) h2 h3 (by omega), seg_join bs hp h1 (by omega) (by omega)]
    · intro k x hk
      cases k with
      | zero =>
        cases hk
        exact ⟨_, rfl, rfl, hs, by dsimp only; omega, by dsimp only; omega, hcl⟩
      | succ k =>
        obtain ⟨y, hy, r1⟩ := i3 k x (by simpa using hk)
        exact ⟨y, by unfold back; simpa using hy, r1⟩

/-- Where a byte stands behind Apply. -/
def shiftE (i : Int) : List Ed → Int
  | [] => 0
  | x :: r => (if x.2.1 ≤ i then grow x else 0) + shiftE i r
def takenE (i : Int) (L : List Ed) : Prop := ∃ x ∈ L, x.1 ≤ i ∧ i < x.2.1
theorem shift_none {n p i : Int} {L : List Ed} (h : WOk n p L) (hi : i < p) : shiftE i L = 0 := by
  induction L generalizing p with
  | nil => rfl
  | cons x r ih =>
    obtain ⟨h1, h2, h3, h4⟩ := h
    unfold shiftE
    rw [if_neg (by omega), ih h4 (by omega)]
    omega
theorem shift_none' {n p i : Int} {x : Ed} {r : List Ed} (h : WOk n p (x :: r)) (hi : i < x.1) : shiftE i (x :: r) = 0 := by
  obtain ⟨h1, h2, h3, h4⟩ := h
  unfold shiftE
  rw [if_neg (by omega), shift_none h4 (by omega)]
  omega
/-- The byte of place i stands, behind all, at the place that is told. -/
theorem place_at (bs : List Int) (L : List Ed) : ∀ (p lon : Int) (pre : List Int) (i : Nat), WOk bs.length p L → 0 ≤ p → (pre.length : Int) = p + lon → p ≤ i → i < bs.length → ¬ takenE i L →
    0 ≤ (i : Int) + lon + shiftE i L ∧ p + lon ≤ (i : Int) + lon + shiftE i L ∧ (pre ++ appl bs p L)[((i : Int) + lon + shiftE i L).toNat]? = bs[i]? := by
  induction L with
  | nil =>
    intro p lon pre i h hp hl hi hin ht
    unfold appl seg shiftE
    refine ⟨by omega, by omega, ?_⟩
    rw [List.getElem?_append_right (by omega), List.getElem?_drop]
    rw [List.getElem?_take, if_pos (by omega)]
    congr 1
    omega
  | cons x r ih =>
    intro p lon pre i h hp hl hi hin ht
    obtain ⟨f, t, s⟩ := x
    have h' := h
    obtain ⟨h1, h2, h3, h4⟩ := h'
    dsimp only at h1 h2 h3 h4
    have hsl := seg_len (bs := bs) hp h1 (by omega : f ≤ bs.length)
    by_cases hf : (i : Int) < f
    · rw [shift_none' h hf]
      refine ⟨by omega, by omega, ?_⟩
      show (pre ++ (seg bs p f ++ s ++ appl bs t r))[_]? = _
      rw [List.getElem?_append_right (by omega), List.append_assoc, List.getElem?_append_left (by omega)]
      unfold seg
      rw [List.getElem?_drop, List.getElem?_take, if_pos (by omega)]
      congr 1
      omega
    · have hti : t ≤ (i : Int) := by
        rcases Int.lt_or_le (i : Int) t with h0 | h0
        · exact absurd ⟨(f, t, s), List.mem_cons_self, by dsimp only; omega, h0⟩ ht
        · exact h0
      have hlen' : ((pre ++ seg bs p f ++ s).length : Int) = t + (lon + grow (f, t, s)) := by
        unfold grow
        simp only [List.length_append]
        push_cast
        omega
      obtain ⟨a1, a2, a3⟩ := ih t (lon + grow (f, t, s)) (pre ++ seg bs p f ++ s) i h4 (by omega) hlen' hti hin (fun ⟨x, hx, hh⟩ => ht ⟨x, List.mem_cons_of_mem _ hx, hh⟩)
      have e : (i : Int) + lon + shiftE i ((f, t, s) :: r) = (i : Int) + (lon + grow (f, t, s)) + shiftE i r := by
        conv => lhs; unfold shiftE
        rw [if_pos hti]
        omega
      rw [e]
      have e0 : t + (lon + grow (f, t, s)) = f + lon + s.length := by unfold grow; dsimp only; omega
      refine ⟨a1, by omega, ?_⟩
      rw [← a3]
      show (pre ++ (seg bs p f ++ s ++ appl bs t r))[_]? = _
      simp [List.append_assoc]
theorem place_rise (bs : List Int) (L : List Ed) : ∀ (p lon : Int) (pre : List Int) (i j : Nat), WOk bs.length p L → 0 ≤ p → (pre.length : Int) = p + lon → p ≤ i → i < j → j < bs.length → ¬ takenE i L → ¬ takenE j L →
    (i : Int) + lon + shiftE i L < (j : Int) + lon + shiftE j L := by
  induction L with
  | nil => intro p lon pre i j h hp hl hi hij hj ti tj; unfold shiftE; omega
  | cons x r ih =>
    intro p lon pre i j h hp hl hi hij hj ti tj
    obtain ⟨f, t, s⟩ := x
    have h' := h
    obtain ⟨h1, h2, h3, h4⟩ := h'
    dsimp only at h1 h2 h3 h4
    have hsl := seg_len (bs := bs) hp h1 (by omega : f ≤ bs.length)
    have hlen' : ((pre ++ seg bs p f ++ s).length : Int) = t + (lon + grow (f, t, s)) := by
      unfold grow
      simp only [List.length_append]
      push_cast
      omega
    have e : ∀ k : Nat, t ≤ (k : Int) → (k : Int) + lon + shiftE k ((f, t, s) :: r) = (k : Int) + (lon + grow (f, t, s)) + shiftE k r := fun k hk => by
      conv => lhs; unfold shiftE
      rw [if_pos hk]
      omega
    have hge : ∀ k : Nat, ¬ takenE k ((f, t, s) :: r) → ¬ (k : Int) < f → t ≤ (k : Int) := fun k hk hf => by
      rcases Int.lt_or_le (k : Int) t with h0 | h0
      · exact absurd ⟨(f, t, s), List.mem_cons_self, by dsimp only; omega, h0⟩ hk
      · exact h0
    have ntr : ∀ k : Nat, ¬ takenE k ((f, t, s) :: r) → ¬ takenE k r := fun k hk ⟨x, hx, hh⟩ => hk ⟨x, List.mem_cons_of_mem _ hx, hh⟩
    by_cases hfj : (j : Int) < f
    · rw [shift_none' h hfj, shift_none' h (by dsimp only; omega)]; omega
    · have htj := hge j tj hfj
      have e0 : t + (lon + grow (f, t, s)) = f + lon + s.length := by unfold grow; dsimp only; omega
      by_cases hfi : (i : Int) < f
      · rw [shift_none' h hfi, e j htj]
        have := (place_at bs r t (lon + grow (f, t, s)) (pre ++ seg bs p f ++ s) j h4 (by omega) hlen' htj hj (ntr j tj)).2.1
        omega
      · have hti := hge i ti hfi
        rw [e i hti, e j htj]
        exact ih t _ _ i j h4 (by omega) hlen' hti hij hj (ntr i ti) (ntr j tj)

/-- The edits that put what stands there. -/
def samE (bs : List Int) (L : List Ed) : List Ed := L.map fun x => (x.1, x.2.1, seg bs x.1 x.2.1)
theorem samE_len (bs : List Int) (L : List Ed) : (samE bs L).length = L.length := by simp [samE]
theorem samE_get (bs : List Int) (L : List Ed) (k : Nat) : (samE bs L)[k]? = (L[k]?).map fun x => (x.1, x.2.1, seg bs x.1 x.2.1) := by simp [samE]
theorem samE_ok {n : Int} (bs : List Int) {L : List Ed} (h : okAll n L) : okAll n (samE bs L) := by
  intro k hk x hx
  rw [samE_len] at hk
  rw [samE_get] at hx
  obtain ⟨y, hy, rfl⟩ := Option.map_eq_some_iff.1 hx
  have := h k hk y hy
  refine ⟨this.1, fun j z hj hz => ?_⟩
  rw [samE_get] at hz
  obtain ⟨u, hu, rfl⟩ := Option.map_eq_some_iff.1 hz
  exact this.2 j u hj hu
theorem samE_appl (bs : List Int) (L : List Ed) : ∀ p, WOk bs.length p L → 0 ≤ p → p ≤ bs.length → appl bs p (samE bs L) = seg bs p bs.length := by
  induction L with
  | nil => intro p _ _ _; rfl
  | cons x r ih =>
    intro p h hp hpn
    obtain ⟨h1, h2, h3, h4⟩ := h
    show seg bs p x.1 ++ seg bs x.1 x.2.1 ++ appl bs x.2.1 (samE bs r) = _
    rw [ih _ h4 (by omega) h3, seg_join bs hp h1 h2 h3, seg_join bs hp (by omega) h3 (by omega)]
theorem samE_grow (bs : List Int) {n p : Int} {L : List Ed} (h : WOk n p L) (hp : 0 ≤ p) (hn : n = bs.length) : ∀ x ∈ samE bs L, grow x = 0 := by
  subst hn
  induction L generalizing p with
  | nil => intro x hx; simp [samE] at hx
  | cons x r ih =>
    obtain ⟨h1, h2, h3, h4⟩ := h
    intro y hy
    have hy' : y = (x.1, x.2.1, seg bs x.1 x.2.1) ∨ y ∈ samE bs r := by simpa [samE] using hy
    rcases hy' with rfl | hy'
    · unfold grow
      dsimp only
      rw [seg_len (by omega) h2 h3]
      omega
    · exact ih (by omega) h4 y hy'
theorem shift_zero {i : Int} {L : List Ed} (h : ∀ x ∈ L, grow x = 0) : shiftE i L = 0 := by
  induction L with
  | nil => rfl
  | cons x r ih =>
    unfold shiftE
    rw [ih (fun y hy => h y (List.mem_cons_of_mem _ hy)), h x List.mem_cons_self]
    split <;> rfl
theorem back_same (bs : List Int) {L : List Ed} : ∀ p, WOk bs.length p L → 0 ≤ p → back bs 0 (samE bs L) = samE bs L := by
  induction L with
  | nil => intro _ _ _; rfl
  | cons x r ih =>
    intro p h hp
    have hg : grow (x.1, x.2.1, seg bs x.1 x.2.1) = 0 := samE_grow bs h hp rfl _ (by simp [samE])
    obtain ⟨h1, h2, h3, h4⟩ := h
    have hl := seg_len (bs := bs) (by omega : 0 ≤ x.1) h2 h3
    show (x.1 + 0, x.1 + 0 + (seg bs x.1 x.2.1).length, seg bs x.1 x.2.1) :: back bs (0 + grow (x.1, x.2.1, seg bs x.1 x.2.1)) (samE bs r) = (x.1, x.2.1, seg bs x.1 x.2.1) :: samE bs r
    rw [hg, show (0 : Int) + 0 = 0 by omega, ih _ h4 (by omega), hl]
    congr 2
    · omega
    · congr 1
      omega
end Go.Proofs.YtopeechbgblndaaDoor
