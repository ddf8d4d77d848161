/-
  TOKENS, as numbers: kinds of bytes, a token's kind and length, all tokens of a row of bytes.
-/
import Derived.Test.YtnhhdafhnngolaaDoorMem
namespace Go.Proofs.YtnhhdafhnngolaaDoor
set_option linter.unusedVariables false
set_option linter.unusedSimpArgs false

/-- The kind that a byte begins. -/
def kd (c : Int) : Int :=
  if c ∈ [32, 9, 10, 13] then 0 else if c = 35 then 1 else if c = 95 then 2
  else if c ∈ [40, 41, 123, 125, 44, 59, 58, 46, 60, 43, 45, 42, 33, 61, 64, 47] then 4
  else if (97 ≤ c ∧ c ≤ 122) ∨ (65 ≤ c ∧ c ≤ 90) then 2 else if 48 ≤ c ∧ c ≤ 57 then 3 else 5
/-- Are two bytes one sign? -/
def pairB (a b : Int) : Bool := if a = 61 ∨ a = 64 then b == 61 else if a = 38 ∨ a = 124 then b == a else false
/-- Does a byte go on in a token of kind k? -/
def goes (k x : Int) : Bool := if k = 0 then kd x == 0 else if k = 1 then x != 10 else if k = 2 then kd x == 2 || kd x == 3 else if k = 3 then kd x == 3 else false
def runB (p : Int → Bool) (l : List Int) : Nat := (l.takeWhile p).length
def pairsL (c : Int) : List Int → Bool
  | [] => false
  | d :: _ => pairB c d
/-- The first token's length, its kind. -/
def tl : List Int → Nat
  | [] => 1
  | c :: r => if kd c < 4 then 1 + runB (goes (kd c)) r else if pairsL c r then 2 else 1
def tk : List Int → Int
  | [] => 5
  | c :: r => if kd c < 4 then kd c else if pairsL c r then 4 else kd c

theorem tl_cons (c : Int) (r : List Int) : tl (c :: r) = if kd c < 4 then 1 + runB (goes (kd c)) r else if pairsL c r then 2 else 1 := rfl
theorem tk_cons (c : Int) (r : List Int) : tk (c :: r) = if kd c < 4 then kd c else if pairsL c r then 4 else kd c := rfl
theorem kd_range (c : Int) : 0 ≤ kd c ∧ kd c ≤ 5 := by
  unfold kd
  repeat' split
  all_goals omega
theorem kd_sign {c : Int} (h : kd c = 0 ∨ kd c = 1 ∨ kd c = 2 ∨ kd c = 3) (d : Int) : pairB c d = false := by
  unfold pairB
  have h1 : ¬ (c = 61 ∨ c = 64) := by rintro (rfl | rfl) <;> revert h <;> decide
  have h2 : ¬ (c = 38 ∨ c = 124) := by rintro (rfl | rfl) <;> revert h <;> decide
  rw [if_neg h1, if_neg h2]
theorem runB_le (p : Int → Bool) (l : List Int) : runB p l ≤ l.length := by
  induction l with
  | nil => simp [runB]
  | cons x l ih =>
    unfold runB at *
    rw [List.takeWhile_cons]
    split <;> simp <;> omega
theorem runB_nil (p : Int → Bool) : runB p [] = 0 := rfl
theorem runB_yes {p : Int → Bool} {x : Int} {l : List Int} (h : p x = true) : runB p (x :: l) = runB p l + 1 := by simp [runB, h]
theorem runB_no {p : Int → Bool} {x : Int} {l : List Int} (h : p x = false) : runB p (x :: l) = 0 := by simp [runB, h]
theorem runB_congr {p q : Int → Bool} (h : ∀ x, p x = q x) (l : List Int) : runB p l = runB q l := by rw [show p = q from funext h]
theorem runB_stop {p : Int → Bool} {x : Int} (h : p x = false) (l r : List Int) : runB p (l ++ x :: r) = runB p l := by
  induction l with
  | nil => simp [runB, h]
  | cons y l ih =>
    by_cases hy : p y = true
    · rw [List.cons_append, runB_yes hy, runB_yes hy, ih]
    · rw [List.cons_append, runB_no (by simpa using hy), runB_no (by simpa using hy)]
theorem runB_take (p : Int → Bool) (l : List Int) : runB p (l.take (runB p l)) = runB p l := by
  induction l with
  | nil => rfl
  | cons y l ih =>
    by_cases hy : p y = true
    · rw [runB_yes hy, List.take_succ_cons, runB_yes hy, ih]
    · rw [runB_no (by simpa using hy)]; rfl
theorem pairsL_len {c : Int} {r : List Int} (h : pairsL c r = true) : 1 ≤ r.length := by
  cases r with
  | nil => cases h
  | cons d r => simp
theorem tl_pos (l : List Int) : 1 ≤ tl l := by
  cases l with
  | nil => exact Nat.le_refl _
  | cons c r => rw [tl_cons]; repeat' split
                all_goals omega
theorem tl_le {l : List Int} (h : 0 < l.length) : tl l ≤ l.length := by
  cases l with
  | nil => simp at h
  | cons c r =>
    rw [tl_cons]
    have := runB_le (goes (kd c)) r
    rw [List.length_cons]
    split
    · omega
    · split
      · rename_i h2
        have := pairsL_len h2
        omega
      · omega
theorem tk_range (l : List Int) : 0 ≤ tk l ∧ tk l ≤ 5 := by
  cases l with
  | nil => exact ⟨by decide, by decide⟩
  | cons c r =>
    have := kd_range c
    rw [tk_cons]
    repeat' split
    all_goals omega

/-- A token: its kind, its place, its end. -/
abbrev Tk := Int × Int × Int
def toks (bs : List Int) (u : Nat) : List Tk :=
  if h : u < bs.length then (tk (bs.drop u), (u : Int), ((u + tl (bs.drop u) : Nat) : Int)) :: toks bs (u + tl (bs.drop u)) else []
termination_by bs.length - u
decreasing_by
  have := tl_pos (bs.drop u)
  omega
theorem toks_at {bs : List Int} {u : Nat} (h : u < bs.length) : toks bs u = (tk (bs.drop u), (u : Int), ((u + tl (bs.drop u) : Nat) : Int)) :: toks bs (u + tl (bs.drop u)) := by
  rw [toks, dif_pos h]
theorem toks_end {bs : List Int} {u : Nat} (h : bs.length ≤ u) : toks bs u = [] := by
  rw [toks, dif_neg (by omega)]
theorem tl_in {bs : List Int} {u : Nat} (h : u < bs.length) : u + tl (bs.drop u) ≤ bs.length := by
  have := tl_le (l := bs.drop u) (by simp; omega)
  simp at this
  omega
theorem toks_len (bs : List Int) : ∀ (m u : Nat), bs.length - u ≤ m → (toks bs u).length ≤ bs.length - u := by
  intro m
  induction m with
  | zero => intro u h; rw [toks_end (by omega)]; simp
  | succ m ih =>
    intro u h
    by_cases hu : u < bs.length
    · have h1 := tl_pos (bs.drop u)
      have h2 := tl_in hu
      have := ih (u + tl (bs.drop u)) (by omega)
      rw [toks_at hu]
      simp
      omega
    · rw [toks_end (by omega)]; simp

/-- Those that count. -/
def lv (t : Tk) : Bool := t.1 != 0 && t.1 != 1
def live (bs : List Int) (u : Nat) : List Tk := (toks bs u).filter lv
def shift (d : Int) (t : Tk) : Tk := (t.1, t.2.1 + d, t.2.2 + d)

theorem tk_blank {c : Int} {r : List Int} (h : kd c = 0) : tk (c :: r) = 0 := by simp [tk, h]
theorem tl_blank {c : Int} {r : List Int} (h : kd c = 0) : tl (c :: r) = 1 + runB (goes 0) r := by simp [tl, h]
/-- A blank is nothing. -/
theorem live_blank {bs : List Int} {u : Nat} {c : Int} {r : List Int} (hd : bs.drop u = c :: r) (h : kd c = 0) : live bs u = live bs (u + 1) := by
  have hu : u < bs.length := by
    rcases Nat.lt_or_ge u bs.length with h1 | h1
    · exact h1
    · rw [List.drop_of_length_le h1] at hd; cases hd
  have hr : bs.drop (u + 1) = r := by rw [← List.drop_drop, hd]; rfl
  unfold live
  rw [toks_at hu, hd, tk_blank h, tl_blank h]
  have h0 : lv ((0 : Int), ((u : Int), ((u + (1 + runB (goes 0) r) : Nat) : Int))) = false := rfl
  rw [List.filter_cons, h0]
  cases hr0 : r with
  | nil => simp [runB]
  | cons d r' =>
    by_cases hb : kd d = 0
    · have hu1 : u + 1 < bs.length := by
        rcases Nat.lt_or_ge (u + 1) bs.length with h1 | h1
        · exact h1
        · rw [List.drop_of_length_le h1, hr0] at hr; cases hr
      have hg : goes 0 d = true := by simp [goes, hb]
      rw [runB_yes hg, toks_at hu1, hr, hr0, tk_blank hb, tl_blank hb, List.filter_cons]
      have h1 : lv ((0 : Int), (((u + 1 : Nat) : Int), ((u + 1 + (1 + runB (goes 0) r') : Nat) : Int))) = false := rfl
      rw [h1, show u + (1 + (runB (goes 0) r' + 1)) = u + 1 + (1 + runB (goes 0) r') by omega]
      simp
    · have hg : goes 0 d = false := by simp [goes, hb]
      rw [runB_no hg]
      simp
/-- Tokens of a text that stands behind another one. -/
theorem toks_shift (p l : List Int) : ∀ (m u : Nat), l.length - u ≤ m → toks (p ++ l) (p.length + u) = (toks l u).map (shift p.length) := by
  intro m
  induction m with
  | zero => intro u h; rw [toks_end (by simp; omega), toks_end (by omega)]; rfl
  | succ m ih =>
    intro u h
    by_cases hu : u < l.length
    · have h1 := tl_pos (l.drop u)
      have hd : (p ++ l).drop (p.length + u) = l.drop u := by rw [← List.drop_drop]; simp
      have := ih (u + tl (l.drop u)) (by omega)
      rw [toks_at (by simp; omega), hd, toks_at hu, List.map_cons, show p.length + u + tl (l.drop u) = p.length + (u + tl (l.drop u)) by omega, this]
      simp only [shift, List.cons.injEq, Prod.mk.injEq, and_true, true_and]
      omega
    · rw [toks_end (by simp; omega), toks_end (by omega)]; rfl
theorem lv_shift (d : Int) (t : Tk) : lv (shift d t) = lv t := rfl
theorem live_shift (p l : List Int) (u : Nat) : live (p ++ l) (p.length + u) = (live l u).map (shift p.length) := by
  unfold live
  rw [toks_shift p l _ u (Nat.le_refl _), List.filter_map]
  rfl
theorem pairB_10 (c : Int) : pairB c 10 = false := by
  unfold pairB
  split
  · rfl
  · split
    · rename_i h; rcases h with rfl | rfl <;> rfl
    · rfl
/-- A line's end ends each token but a blank. -/
theorem tl_10 {c : Int} {r b : List Int} (h : kd c ≠ 0) : tl (c :: (r ++ 10 :: b)) = tl (c :: r) ∧ tk (c :: (r ++ 10 :: b)) = tk (c :: r) := by
  have hr := kd_range c
  have hp : pairsL c (r ++ 10 :: b) = pairsL c r := by
    cases r with
    | nil => exact pairB_10 c
    | cons d r => rfl
  by_cases h4 : kd c < 4
  · have hg : goes (kd c) 10 = false := by
      have : kd c = 1 ∨ kd c = 2 ∨ kd c = 3 := by omega
      rcases this with e | e | e <;> rw [e] <;> decide
    simp [tl, tk, h4, runB_stop hg]
  · simp [tl, tk, h4, hp]
theorem live_joins (a b : List Int) : ∀ (m u : Nat), a.length - u ≤ m → u ≤ a.length → live (a ++ 10 :: b) u = live a u ++ live (a ++ 10 :: b) a.length := by
  intro m
  induction m with
  | zero =>
    intro u h hu
    obtain rfl : u = a.length := by omega
    unfold live
    rw [toks_end (Nat.le_refl a.length)]
    rfl
  | succ m ih =>
    intro u h hu
    by_cases hlt : u < a.length
    · obtain ⟨c, r, hd⟩ : ∃ c r, a.drop u = c :: r := by
        cases hh : a.drop u with
        | nil => have := congrArg List.length hh; simp at this; omega
        | cons c r => exact ⟨c, r, rfl⟩
      have hd' : (a ++ 10 :: b).drop u = c :: (r ++ 10 :: b) := by rw [List.drop_append_of_le_length (by omega), hd]; rfl
      by_cases h0 : kd c = 0
      · rw [live_blank hd h0, live_blank hd' h0]
        exact ih (u + 1) (by omega) (by omega)
      · have ht := tl_10 (r := r) (b := b) h0
        have h1 := tl_pos (a.drop u)
        have h2 := tl_in hlt
        have := ih (u + tl (a.drop u)) (by omega) h2
        unfold live at this ⊢
        rw [toks_at hlt, toks_at (bs := a ++ 10 :: b) (by simp; omega), hd', hd, ht.1, ht.2, List.filter_cons, List.filter_cons, ← hd, this]
        split <;> rfl
    · obtain rfl : u = a.length := by omega
      unfold live
      rw [toks_end (Nat.le_refl a.length)]
      rfl
/-- Two texts with a line's end between. -/
theorem live_two (a b : List Int) : live (a ++ 10 :: b) 0 = live a 0 ++ (live b 0).map (shift (a.length + 1)) := by
  rw [live_joins a b _ 0 (Nat.le_refl _) (Nat.zero_le _), live_blank (bs := a ++ 10 :: b) (u := a.length) (c := 10) (r := b) (by simp) (by decide)]
  have := live_shift (a ++ [10]) b 0
  rw [List.append_assoc] at this
  simp only [List.length_append, List.length_cons, List.length_nil, Nat.zero_add, Nat.add_zero, List.singleton_append] at this
  rw [this]
  simp
/-- A token's text has that token alone. -/
theorem tok_alone {l : List Int} (h : 0 < l.length) : toks (l.take (tl l)) 0 = [(tk l, 0, (tl l : Int))] := by
  have hlen : (l.take (tl l)).length = tl l := by have := tl_le h; simp; omega
  have hk : tk (l.take (tl l)) = tk l ∧ tl (l.take (tl l)) = tl l := by
    cases l with
    | nil => simp at h
    | cons c r =>
      by_cases h4 : kd c < 4
      · have e : tl (c :: r) = runB (goes (kd c)) r + 1 := by simp [tl, h4]; omega
        rw [e, List.take_succ_cons]
        simp only [tl, tk, h4, if_true, runB_take, true_and]
        omega
      · by_cases hp : pairsL c r = true
        · have e : tl (c :: r) = 2 := by simp [tl, h4, hp]
          rw [e]
          cases r with
          | nil => cases hp
          | cons d r =>
            have hp' : pairB c d = true := hp
            simp [tl, tk, h4, pairsL, hp']
        · have hp' : pairsL c r = false := by simpa using hp
          have e : tl (c :: r) = 1 := by simp [tl, h4, hp']
          rw [e]
          simp only [List.take_succ_cons, List.take_zero, tl_cons, tk_cons, if_neg h4, hp']
          exact ⟨rfl, rfl⟩
  have hp := tl_pos l
  rw [toks_at (by omega), List.drop_zero, hk.1, hk.2, Nat.zero_add, toks_end (by omega)]
  rfl
end Go.Proofs.YtnhhdafhnngolaaDoor
