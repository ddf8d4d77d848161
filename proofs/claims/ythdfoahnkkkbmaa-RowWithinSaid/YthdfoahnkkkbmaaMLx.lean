/-
  TOKENS, as numbers: kinds of bytes, a token's kind and length, all tokens of a row of bytes.
  CONTRACTS OF 'lex.kindOf' and 'lex.pair'.
  CONTRACTS OF the closures of 'lex.tokenAt', and of 'slices.IndexFunc' at bytes.
  CONTRACT OF 'until', the closure of 'lex.tokenAt'; of 'lex.tokenAt'.
  CONTRACT OF 'lex.tokenAt'.
  CONTRACT OF 'lex.tokenAt', at any byte.
  ROWS OF TOKENS in memory; CONTRACTS OF 'lex.All', 'lex.Live', 'lex.Bad'.
-/
import Derived.Test.YthdfoahnkkkbmaaMem
import Derived.Test.YthdfoahnkkkbmaaSame
import Derived.Shelf.Abstract
import Derived.BigQuiet
import Derived.Deep.QuietTactic
import Derived.Test.YthdfoahnkkkbmaaRowB
import Derived.Deep.RegionHeld3
import Derived.Deep.RegionWith
import Derived.Deep.MidRow
import Derived.Test.YthdfoahnkkkbmaaPushG
namespace Go.Proofs.Ythdfoahnkkkbmaa
set_option linter.unusedVariables false
set_option linter.unusedSimpArgs false

/-- The kind that a byte begins. -/
def kd (c : Int) : Int :=
  if c ∈ [32, 9, 10, 13] then 0 else if c = 35 then 1 else if c = 95 then 2
  else if c ∈ [40, 41, 123, 125, 44, 59, 58, 46, 60, 43, 45, 42, 33, 61, 64, 47] then 4
  else if (97 ≤ c ∧ c ≤ 122) ∨ (65 ≤ c ∧ c ≤ 90) then 2 else if 48 ≤ c ∧ c ≤ 57 then 3 else 5
/-- Are two bytes one sign? -/
def pairB (a b : Int) : Bool := if a = 61 ∨ a = 64 then b == 61 else if a = 38 ∨ a = 124 then b == a else false
/-- Does a byte go on in a token of kind k? -/
def goes (k x : Int) : Bool := if k = 0 then kd x == 0 else if k = 1 then x != 10 else if k = 2 then kd x == 2 || kd x == 3 else if k = 3 then kd x == 3 else false
def runB (p : Int → Bool) (l : List Int) : Nat := (l.takeWhile p).length
def pairsL (c : Int) : List Int → Bool
  | [] => false
  | d :: _ => pairB c d
/-- The first token's length, its kind. -/
def tl : List Int → Nat
  | [] => 1
  | c :: r => if kd c < 4 then 1 + runB (goes (kd c)) r else if pairsL c r then 2 else 1
def tk : List Int → Int
  | [] => 5
  | c :: r => if kd c < 4 then kd c else if pairsL c r then 4 else kd c

theorem tl_cons (c : Int) (r : List Int) : tl (c :: r) = if kd c < 4 then 1 + runB (goes (kd c)) r else if pairsL c r then 2 else 1 := rfl
theorem tk_cons (c : Int) (r : List Int) : tk (c :: r) = if kd c < 4 then kd c else if pairsL c r then 4 else kd c := rfl
theorem kd_range (c : Int) : 0 ≤ kd c ∧ kd c ≤ 5 := by
  unfold kd
  repeat' split
  all_goals omega
theorem kd_sign {c : Int} (h : kd c = 0 ∨ kd c = 1 ∨ kd c = 2 ∨ kd c = 3) (d : Int) : pairB c d = false := by
  unfold pairB
  have h1 : ¬ (c = 61 ∨ c = 64) := by rintro (rfl | rfl) <;> revert h <;> decide
  have h2 : ¬ (c = 38 ∨ c = 124) := by rintro (rfl | rfl) <;> revert h <;> decide
  rw [if_neg h1, if_neg h2]
theorem runB_le (p : Int → Bool) (l : List Int) : runB p l ≤ l.length := by
  induction l with
  | nil => simp [runB]
  | cons x l ih =>
    unfold runB at *
    rw [List.takeWhile_cons]
    split <;> simp <;> omega
theorem runB_nil (p : Int → Bool) : runB p [] = 0 := rfl
theorem runB_yes {p : Int → Bool} {x : Int} {l : List Int} (h : p x = true) : runB p (x :: l) = runB p l + 1 := by simp [runB, h]
theorem runB_no {p : Int → Bool} {x : Int} {l : List Int} (h : p x = false) : runB p (x :: l) = 0 := by simp [runB, h]
theorem runB_congr {p q : Int → Bool} (h : ∀ x, p x = q x) (l : List Int) : runB p l = runB q l := by rw [show p = q from funext h]
theorem runB_stop {p : Int → Bool} {x : Int} (h : p x = false) (l r : List Int) : runB p (l ++ x :: r) = runB p l := by
  induction l with
  | nil => simp [runB, h]
  | cons y l ih =>
    by_cases hy : p y = true
    · rw [List.cons_append, runB_yes hy, runB_yes hy, ih]
    · rw [List.cons_append, runB_no (by simpa using hy), runB_no (by simpa using hy)]
theorem runB_take (p : Int → Bool) (l : List Int) : runB p (l.take (runB p l)) = runB p l := by
  induction l with
  | nil => rfl
  | cons y l ih =>
    by_cases hy : p y = true
    · rw [runB_yes hy, List.take_succ_cons, runB_yes hy, ih]
    · rw [runB_no (by simpa using hy)]; rfl
theorem pairsL_len {c : Int} {r : List Int} (h : pairsL c r = true) : 1 ≤ r.length := by
  cases r with
  | nil => cases h
  | cons d r => simp
theorem tl_pos (l : List Int) : 1 ≤ tl l := by
  cases l with
  | nil => exact Nat.le_refl _
  | cons c r =>
    rw [tl_cons]
    repeat' split
    all_goals omega
theorem tl_le {l : List Int} (h : 0 < l.length) : tl l ≤ l.length := by
  cases l with
  | nil => simp at h
  | cons c r =>
    rw [tl_cons]
    have := runB_le (goes (kd c)) r
    rw [List.length_cons]
    split
    · omega
    · split
      · rename_i h2
        have := pairsL_len h2
        omega
      · omega
theorem tk_range (l : List Int) : 0 ≤ tk l ∧ tk l ≤ 5 := by
  cases l with
  | nil => exact ⟨by decide, by decide⟩
  | cons c r =>
    have := kd_range c
    rw [tk_cons]
    repeat' split
    all_goals omega

/-- A token: its kind, its place, its end. -/
abbrev Tk := Int × Int × Int
def toks (bs : List Int) (u : Nat) : List Tk :=
  if h : u < bs.length then (tk (bs.drop u), (u : Int), ((u + tl (bs.drop u) : Nat) : Int)) :: toks bs (u + tl (bs.drop u)) else []
termination_by bs.length - u
decreasing_by
  have := tl_pos (bs.drop u)
  omega
theorem toks_at {bs : List Int} {u : Nat} (h : u < bs.length) : toks bs u = (tk (bs.drop u), (u : Int), ((u + tl (bs.drop u) : Nat) : Int)) :: toks bs (u + tl (bs.drop u)) := by
  rw [toks, dif_pos h]
theorem toks_end {bs : List Int} {u : Nat} (h : bs.length ≤ u) : toks bs u = [] := by
  rw [toks, dif_neg (by omega)]
theorem tl_in {bs : List Int} {u : Nat} (h : u < bs.length) : u + tl (bs.drop u) ≤ bs.length := by
  have := tl_le (l := bs.drop u) (by simp; omega)
  simp at this
  omega
theorem toks_len (bs : List Int) : ∀ (m u : Nat), bs.length - u ≤ m → (toks bs u).length ≤ bs.length - u := by
  intro m
  induction m with
  | zero => intro u h; rw [toks_end (by omega)]; simp
  | succ m ih =>
    intro u h
    by_cases hu : u < bs.length
    · have h1 := tl_pos (bs.drop u)
      have h2 := tl_in hu
      have := ih (u + tl (bs.drop u)) (by omega)
      rw [toks_at hu]
      simp
      omega
    · rw [toks_end (by omega)]; simp

/-- Those that count. -/
def lv (t : Tk) : Bool := t.1 != 0 && t.1 != 1
def live (bs : List Int) (u : Nat) : List Tk := (toks bs u).filter lv
def shift (d : Int) (t : Tk) : Tk := (t.1, t.2.1 + d, t.2.2 + d)

theorem tk_blank {c : Int} {r : List Int} (h : kd c = 0) : tk (c :: r) = 0 := by simp [tk, h]
theorem tl_blank {c : Int} {r : List Int} (h : kd c = 0) : tl (c :: r) = 1 + runB (goes 0) r := by simp [tl, h]
/-- A blank is nothing. -/
theorem live_blank {bs : List Int} {u : Nat} {c : Int} {r : List Int} (hd : bs.drop u = c :: r) (h : kd c = 0) : live bs u = live bs (u + 1) := by
  have hu : u < bs.length := by
    rcases Nat.lt_or_ge u bs.length with h1 | h1
    · exact h1
    · rw [List.drop_of_length_le h1] at hd; cases hd
  have hr : bs.drop (u + 1) = r := by rw [← List.drop_drop, hd]; rfl
  unfold live
  rw [toks_at hu, hd, tk_blank h, tl_blank h]
  have h0 : lv ((0 : Int), ((u : Int), ((u + (1 + runB (goes 0) r) : Nat) : Int))) = false := rfl
  rw [List.filter_cons, h0]
  cases hr0 : r with
  | nil => simp [runB]
  | cons d r' =>
    by_cases hb : kd d = 0
    · have hu1 : u + 1 < bs.length := by
        rcases Nat.lt_or_ge (u + 1) bs.length with h1 | h1
        · exact h1
        · rw [List.drop_of_length_le h1, hr0] at hr; cases hr
      have hg : goes 0 d = true := by simp [goes, hb]
      rw [runB_yes hg, toks_at hu1, hr, hr0, tk_blank hb, tl_blank hb, List.filter_cons]
      have h1 : lv ((0 : Int), (((u + 1 : Nat) : Int), ((u + 1 + (1 + runB (goes 0) r') : Nat) : Int))) = false := rfl
      rw [h1, show u + (1 + (runB (goes 0) r' + 1)) = u + 1 + (1 + runB (goes 0) r') by omega]
      simp
    · have hg : goes 0 d = false := by simp [goes, hb]
      rw [runB_no hg]
      simp
/-- Tokens of a text that stands behind another one. -/
theorem toks_shift (p l : List Int) : ∀ (m u : Nat), l.length - u ≤ m → toks (p ++ l) (p.length + u) = (toks l u).map (shift p.length) := by
  intro m
  induction m with
  | zero => intro u h; rw [toks_end (by simp; omega), toks_end (by omega)]; rfl
  | succ m ih =>
    intro u h
    by_cases hu : u < l.length
    · have h1 := tl_pos (l.drop u)
      have hd : (p ++ l).drop (p.length + u) = l.drop u := by rw [← List.drop_drop]; simp
      have := ih (u + tl (l.drop u)) (by omega)
      rw [toks_at (by simp; omega), hd, toks_at hu, List.map_cons, show p.length + u + tl (l.drop u) = p.length + (u + tl (l.drop u)) by omega, this]
      simp only [shift, List.cons.injEq, Prod.mk.injEq, and_true, true_and]
      omega
    · rw [toks_end (by simp; omega), toks_end (by omega)]; rfl
theorem lv_shift (d : Int) (t : Tk) : lv (shift d t) = lv t := rfl
theorem live_shift (p l : List Int) (u : Nat) : live (p ++ l) (p.length + u) = (live l u).map (shift p.length) := by
  unfold live
  rw [toks_shift p l _ u (Nat.le_refl _), List.filter_map]
  rfl
theorem pairB_10 (c : Int) : pairB c 10 = false := by
  unfold pairB
  split
  · rfl
  · split
    · rename_i h; rcases h with rfl | rfl <;> rfl
    · rfl
/-- A line's end ends each token but a blank. -/
theorem tl_10 {c : Int} {r b : List Int} (h : kd c ≠ 0) : tl (c :: (r ++ 10 :: b)) = tl (c :: r) ∧ tk (c :: (r ++ 10 :: b)) = tk (c :: r) := by
  have hr := kd_range c
  have hp : pairsL c (r ++ 10 :: b) = pairsL c r := by
    cases r with
    | nil => exact pairB_10 c
    | cons d r => rfl
  by_cases h4 : kd c < 4
  · have hg : goes (kd c) 10 = false := by
      have : kd c = 1 ∨ kd c = 2 ∨ kd c = 3 := by omega
      rcases this with e | e | e <;> rw [e] <;> decide
    simp [tl, tk, h4, runB_stop hg]
  · simp [tl, tk, h4, hp]
theorem live_joins (a b : List Int) : ∀ (m u : Nat), a.length - u ≤ m → u ≤ a.length → live (a ++ 10 :: b) u = live a u ++ live (a ++ 10 :: b) a.length := by
  intro m
  induction m with
  | zero =>
    intro u h hu
    obtain rfl : u = a.length := by omega
    unfold live
    rw [toks_end (Nat.le_refl a.length)]
    rfl
  | succ m ih =>
    intro u h hu
    by_cases hlt : u < a.length
    · obtain ⟨c, r, hd⟩ : ∃ c r, a.drop u = c :: r := by
        cases hh : a.drop u with
        | nil => have := congrArg List.length hh; simp at this; omega
        | cons c r => exact ⟨c, r, rfl⟩
      have hd' : (a ++ 10 :: b).drop u = c :: (r ++ 10 :: b) := by rw [List.drop_append_of_le_length (by omega), hd]; rfl
      by_cases h0 : kd c = 0
      · rw [live_blank hd h0, live_blank hd' h0]
        exact ih (u + 1) (by omega) (by omega)
      · have ht := tl_10 (r := r) (b := b) h0
        have h1 := tl_pos (a.drop u)
        have h2 := tl_in hlt
        have := ih (u + tl (a.drop u)) (by omega) h2
        unfold live at this ⊢
        rw [toks_at hlt, toks_at (bs := a ++ 10 :: b) (by simp; omega), hd', hd, ht.1, ht.2, List.filter_cons, List.filter_cons, ← hd, this]
        split <;> rfl
    · obtain rfl : u = a.length := by omega
      unfold live
      rw [toks_end (Nat.le_refl a.length)]
      rfl
/-- Two texts with a line's end between. -/
theorem live_two (a b : List Int) : live (a ++ 10 :: b) 0 = live a 0 ++ (live b 0).map (shift (a.length + 1)) := by
  rw [live_joins a b _ 0 (Nat.le_refl _) (Nat.zero_le _), live_blank (bs := a ++ 10 :: b) (u := a.length) (c := 10) (r := b) (by simp) (by decide)]
  have := live_shift (a ++ [10]) b 0
  rw [List.append_assoc] at this
  simp only [List.length_append, List.length_cons, List.length_nil, Nat.zero_add, Nat.add_zero, List.singleton_append] at this
  rw [this]
  simp
/-- A token's text has that token alone. -/
theorem tok_alone {l : List Int} (h : 0 < l.length) : toks (l.take (tl l)) 0 = [(tk l, 0, (tl l : Int))] := by
  have hlen : (l.take (tl l)).length = tl l := by have := tl_le h; simp; omega
  have hk : tk (l.take (tl l)) = tk l ∧ tl (l.take (tl l)) = tl l := by
    cases l with
    | nil => simp at h
    | cons c r =>
      by_cases h4 : kd c < 4
      · have e : tl (c :: r) = runB (goes (kd c)) r + 1 := by simp [tl, h4]; omega
        rw [e, List.take_succ_cons]
        simp only [tl, tk, h4, if_true, runB_take, true_and]
        omega
      · by_cases hp : pairsL c r = true
        · have e : tl (c :: r) = 2 := by simp [tl, h4, hp]
          rw [e]
          cases r with
          | nil => cases hp
          | cons d r =>
            have hp' : pairB c d = true := hp
            simp [tl, tk, h4, pairsL, hp']
        · have hp' : pairsL c r = false := by simpa using hp
          have e : tl (c :: r) = 1 := by simp [tl, h4, hp']
          rw [e]
          simp only [List.take_succ_cons, List.take_zero, tl_cons, tk_cons, if_neg h4, hp']
          exact ⟨rfl, rfl⟩
  have hp := tl_pos l
  rw [toks_at (by omega), List.drop_zero, hk.1, hk.2, Nat.zero_add, toks_end (by omega)]
  rfl
end Go.Proofs.Ythdfoahnkkkbmaa
namespace Go.Proofs.Ythdfoahnkkkbmaa
set_option linter.unusedVariables false
set_option linter.unusedSimpArgs false
open Go.RowKit

theorem ret_int {a b : Int} (h : a = b) : Ending.returned (.int .i64 a) = .returned (.int .i64 b) := by rw [h]

set_option maxRecDepth 10000 in
set_option maxHeartbeats 3200000 in
theorem kindOf_any (c : Int) (w : World) :
    Calls Try.prog 64 #[.int .u8 c] w fun e w' => e = .returned (.int .i64 (kd c)) ∧ w = w' := by
  by_cases hm : c ∈ [32, 9, 10, 13, 35, 95, 40, 41, 123, 125, 44, 59, 58, 46, 60, 43, 45, 42, 33, 61, 64, 47]
  · simp only [List.mem_cons, List.not_mem_nil, or_false] at hm
    rcases hm with rfl | rfl | rfl | rfl | rfl | rfl | rfl | rfl | rfl | rfl | rfl | rfl | rfl | rfl | rfl | rfl | rfl | rfl | rfl | rfl | rfl | rfl
    all_goals
      go_enter Try.func64, Try.ntmps64
      go_wp2
      go_ret
      exact ⟨rfl, rfl⟩
  · simp only [List.mem_cons, List.not_mem_nil, or_false, not_or] at hm
    obtain ⟨h1, h2, h3, h4, h5, h6, h7, h8, h9, h10, h11, h12, h13, h14, h15, h16, h17, h18, h19, h20, h21, h22⟩ := hm
    have e : kd c = if (97 ≤ c ∧ c ≤ 122) ∨ (65 ≤ c ∧ c ≤ 90) then 2 else if 48 ≤ c ∧ c ≤ 57 then 3 else 5 := by
      unfold kd
      rw [if_neg (by simp [h1, h2, h3, h4]), if_neg h5, if_neg h6, if_neg (by simp [h7, h8, h9, h10, h11, h12, h13, h14, h15, h16, h17, h18, h19, h20, h21, h22])]
    have E := Lib.hid e
    clear e
    replace h1 : (c == 32) = false := by simpa using h1
    replace h2 : (c == 9) = false := by simpa using h2
    replace h3 : (c == 10) = false := by simpa using h3
    replace h4 : (c == 13) = false := by simpa using h4
    replace h5 : (c == 35) = false := by simpa using h5
    replace h6 : (c == 95) = false := by simpa using h6
    replace h7 : (c == 40) = false := by simpa using h7
    replace h8 : (c == 41) = false := by simpa using h8
    replace h9 : (c == 123) = false := by simpa using h9
    replace h10 : (c == 125) = false := by simpa using h10
    replace h11 : (c == 44) = false := by simpa using h11
    replace h12 : (c == 59) = false := by simpa using h12
    replace h13 : (c == 58) = false := by simpa using h13
    replace h14 : (c == 46) = false := by simpa using h14
    replace h15 : (c == 60) = false := by simpa using h15
    replace h16 : (c == 43) = false := by simpa using h16
    replace h17 : (c == 45) = false := by simpa using h17
    replace h18 : (c == 42) = false := by simpa using h18
    replace h19 : (c == 33) = false := by simpa using h19
    replace h20 : (c == 61) = false := by simpa using h20
    replace h21 : (c == 64) = false := by simpa using h21
    replace h22 : (c == 47) = false := by simpa using h22
    by_cases a1 : 97 ≤ c
    · by_cases a2 : c ≤ 122
      · go_enter Try.func64, Try.ntmps64
        go_wp2
        go_ret
        exact ⟨ret_int (by rw [E.out, if_pos (.inl ⟨a1, a2⟩)]), rfl⟩
      · have b1 : 65 ≤ c := by omega
        have b2 : ¬ c ≤ 90 := by omega
        have b3 : 48 ≤ c := by omega
        have b4 : ¬ c ≤ 57 := by omega
        go_enter Try.func64, Try.ntmps64
        go_wp2
        go_ret
        exact ⟨ret_int (by rw [E.out, if_neg (by omega), if_neg (by omega)]), rfl⟩
    · by_cases b1 : 65 ≤ c
      · by_cases b2 : c ≤ 90
        · go_enter Try.func64, Try.ntmps64
          go_wp2
          go_ret
          exact ⟨ret_int (by rw [E.out, if_pos (.inr ⟨b1, b2⟩)]), rfl⟩
        · have b3 : 48 ≤ c := by omega
          have b4 : ¬ c ≤ 57 := by omega
          go_enter Try.func64, Try.ntmps64
          go_wp2
          go_ret
          exact ⟨ret_int (by rw [E.out, if_neg (by omega), if_neg (by omega)]), rfl⟩
      · by_cases b3 : 48 ≤ c
        · by_cases b4 : c ≤ 57
          · go_enter Try.func64, Try.ntmps64
            go_wp2
            go_ret
            exact ⟨ret_int (by rw [E.out, if_neg (by omega), if_pos ⟨b3, b4⟩]), rfl⟩
          · go_enter Try.func64, Try.ntmps64
            go_wp2
            go_ret
            exact ⟨ret_int (by rw [E.out, if_neg (by omega), if_neg (by omega)]), rfl⟩
        · go_enter Try.func64, Try.ntmps64
          go_wp2
          go_ret
          exact ⟨ret_int (by rw [E.out, if_neg (by omega), if_neg (by omega)]), rfl⟩

set_option maxHeartbeats 800000 in
theorem pair_any (c d : Int) (w : World) :
    Calls Try.prog 70 #[.int .u8 c, .int .u8 d] w fun e w' => e = .returned (.bool (pairB c d)) ∧ w = w' := by
  by_cases hm : c ∈ [61, 64, 38, 124]
  · simp only [List.mem_cons, List.not_mem_nil, or_false] at hm
    rcases hm with rfl | rfl | rfl | rfl
    all_goals
      go_enter Try.func70, Try.ntmps70
      go_wp2
      go_ret
      exact ⟨rfl, rfl⟩
  · simp only [List.mem_cons, List.not_mem_nil, or_false, not_or] at hm
    obtain ⟨h1, h2, h3, h4⟩ := hm
    have E := Lib.hid (show pairB c d = false by unfold pairB; rw [if_neg (by omega), if_neg (by omega)])
    replace h1 : (c == 61) = false := by simpa using h1
    replace h2 : (c == 64) = false := by simpa using h2
    replace h3 : (c == 38) = false := by simpa using h3
    replace h4 : (c == 124) = false := by simpa using h4
    go_enter Try.func70, Try.ntmps70
    go_wp2
    go_ret
    exact ⟨ret_bool E.out.symm, rfl⟩
end Go.Proofs.Ythdfoahnkkkbmaa
namespace Go.Proofs.Ythdfoahnkkkbmaa
set_option linter.unusedVariables false
set_option linter.unusedSimpArgs false
open Go.RowKit

/-- Where the first byte stands that 'ends' holds of; -1: nowhere. -/
def firstB (go : Int → Bool) (l : List Int) : Int := if runB go l < l.length then (runB go l : Int) else -1
/-- A function value that tells of each byte whether it goes on: false. It makes no memory. -/
def Ends (w : World) (g : Nat) (lb : Array Value) (go : Int → Bool) : Prop :=
  ∀ (W : World) (x : Int), Quiet w W → Calls Try.prog g (#[.int .u8 x] ++ lb) W fun e w' => e = .returned (.bool (!(go x))) ∧ Quiet W w'

theorem stop2_any (b : Nat) (k x : Int) (w : World) (hk : w.cell? ⟨b, 0, none⟩ = some (.int .i64 k)) :
    Calls Try.prog 67 #[.int .u8 x, .pointer (some ⟨b, 0, none⟩)] w fun e w' => e = .returned (.bool (kd x != k)) ∧ Quiet w w' := by
  go_enter Try.func67, Try.ntmps67
  go_wp2
  go_quiet ((go_at_call 64; exact Calls.quiet_of_same ((kindOf_any _ _).mono fun e w' ⟨h1, h2⟩ => ⟨h1, h2.symm⟩)))
  go_wp2
  go_ret
  exact ⟨rfl, Quiet.one _ _⟩
theorem stop3_any (x : Int) (w : World) :
    Calls Try.prog 68 #[.int .u8 x] w fun e w' => e = .returned (.bool (kd x != 2 && kd x != 3)) ∧ Quiet w w' := by
  cases h : (kd x != 2)
  all_goals
    go_enter Try.func68, Try.ntmps68
    go_wp2_with (go_at_call 64; refine (kindOf_any _ _).mono ?_; rintro e w' ⟨rfl, rfl⟩)
    go_ret
    exact ⟨rfl, Quiet.refl _⟩
theorem stop4_any (x : Int) (w : World) :
    Calls Try.prog 69 #[.int .u8 x] w fun e w' => e = .returned (.bool (x == 10)) ∧ Quiet w w' := by
  go_enter Try.func69, Try.ntmps69
  go_wp2
  go_ret
  exact ⟨rfl, Quiet.refl _⟩

theorem runB_stop_at {go : Int → Bool} {l : List Int} {k : Nat} (h : ∀ j, j < k → go (l.getD j 0) = true) (hk : k < l.length) (hs : go (l.getD k 0) = false) : runB go l = k := by
  induction l generalizing k with
  | nil => simp at hk
  | cons y l ih =>
    cases k with
    | zero => exact runB_no (by simpa using hs)
    | succ k =>
      have h0 : go y = true := by simpa using h 0 (by omega)
      rw [runB_yes h0, ih (k := k) (fun j hj => by simpa using h (j + 1) (by omega)) (by simpa using hk) (by simpa using hs)]
theorem runB_all {go : Int → Bool} {l : List Int} (h : ∀ j, j < l.length → go (l.getD j 0) = true) : runB go l = l.length := by
  induction l with
  | nil => rfl
  | cons y l ih =>
    have h0 : go y = true := by simpa using h 0 (by simp)
    rw [runB_yes h0, ih (fun j hj => by simpa using h (j + 1) (by simp; omega))]
    rfl

set_option maxHeartbeats 800000 in
theorem indexF_any (g : Nat) (lb : Array Value) (eg : ∀ args w, (callFunc g args).run Try.prog w = .ok (.enter g args) w) (go : Int → Bool) (A : Option Addr) (n c : Nat) (xs : List Int) (w : World) (U : Nat) (hf : Ends w g lb go) (hx : Sh w U A n (by8 xs)) (hn : n ≤ maxLen) :
    Calls Try.prog 66 #[.slice A n c, .func (.func g) #[] lb] w fun e w' => e = .returned (.int .i64 (firstB go xs)) ∧ Quiet w w' := by
  unfold maxLen at hn
  have hl : xs.length = n := by have := hx.len; rwa [by8_len] at this
  have HL := Lib.hid hl
  clear hl
  have HX := Lib.hid hx
  have HF := Lib.hid hf
  clear hx hf
  go_enter Try.func66, Try.ntmps66
  go_wp2
  go_loopw [5, 8] (fun _ i wr => ∃ k : Nat, k ≤ n ∧ i = .int .i64 k ∧ (∀ j, j < k → go (xs.getD j 0) = true) ∧ Quiet w wr) (fun _ i _ => n - (intOf i).toNat)
  case atStart => exact ⟨0, Nat.zero_le _, rfl, fun j hj => absurd hj (Nat.not_lt_zero _), Quiet.refl _⟩
  case round =>
    obtain ⟨k, hk, rfl, ha, hq⟩ := hrel
    have HA := Lib.hid ha
    have HQ := Lib.hid hq
    clear ha
    by_cases hlt : k < n
    · obtain ⟨b, off, rfl, hb, hc⟩ := HX.out.byte hlt
      replace hc : wr.cell? ⟨b, off + k, none⟩ = some (.int .u8 (xs.getD k 0)) := by
        obtain ⟨q, rfl⟩ := hq
        exact hc
      have hcall := Lib.hid (HF.out wr (xs.getD k 0) hq)
      obtain ⟨x, hx0⟩ : ∃ x, x = xs.getD k 0 := ⟨_, rfl⟩
      rw [← hx0] at hc hcall
      have HX0 := Lib.hid hx0
      clear hx0 hq
      cases hgo : go x with
      | true =>
        have HG := Lib.hid hgo
        rw [hgo] at hcall
        clear hgo
        go_wp2_with (go_at_fn g; refine hcall.out.mono ?_; rintro e w' ⟨rfl, hb'⟩)
        go_roundw
        case rel =>
          refine ⟨k + 1, by omega, by go_num, fun j hj => ?_, HQ.out.trans hb'⟩
          rcases Nat.lt_or_ge j k with h | h
          · exact HA.out j h
          · obtain rfl : j = k := by omega
            rw [← HX0.out]; exact HG.out
        case measure => simp [intOf]; omega
      | false =>
        have HG := Lib.hid hgo
        rw [hgo] at hcall
        clear hgo
        go_wp2_with (go_at_fn g; refine hcall.out.mono ?_; rintro e w' ⟨rfl, hb'⟩)
        go_ret
        refine ⟨?_, HQ.out.trans hb'⟩
        have hr := runB_stop_at (go := go) HA.out (by rw [HL.out]; exact hlt) (by rw [← HX0.out]; exact HG.out)
        exact ret_int (by unfold firstB; rw [hr, if_pos (by rw [HL.out]; exact hlt)])
    · obtain rfl : k = n := by omega
      clear hq
      go_wp2
      go_ret
      refine ⟨?_, HQ.out⟩
      have hr := runB_all (go := go) (l := xs) (by rw [HL.out]; exact HA.out)
      exact ret_int (by unfold firstB; rw [hr, if_neg (by omega)])
end Go.Proofs.Ythdfoahnkkkbmaa
namespace Go.Proofs.Ythdfoahnkkkbmaa
set_option linter.unusedVariables false
set_option linter.unusedSimpArgs false
open Go.RowKit

theorem firstB_end {go : Int → Bool} {l : List Int} (u : Nat) : (if 0 ≤ firstB go l then (u : Int) + firstB go l else (u : Int) + (l.length : Int)) = (u : Int) + (runB go l : Int) := by
  unfold firstB
  have := runB_le go l
  split
  · rw [if_pos (by omega)]
  · rw [if_neg (by omega)]; omega
theorem firstB_range {go : Int → Bool} {l : List Int} : -1 ≤ firstB go l ∧ firstB go l ≤ l.length := by
  unfold firstB
  split <;> omega

set_option maxHeartbeats 800000 in
/-- until(ends): where the token ends that goes on from its end so far. -/
theorem until_any (g : Nat) (lb : Array Value) (eg : ∀ args w, (callFunc g args).run Try.prog w = .ok (.enter g args) w) (go : Int → Bool) (A : Option Addr) (n c p q u : Nat) (xs : List Int) (w : World) (U : Nat) (hf : Ends w g lb go) (hx : Sh w U A n (by8 xs)) (hcA : c = 0 ∨ ∃ b off, A = some ⟨b, off, none⟩) (hn : n ≤ 1000000) (hnc : n ≤ c) (hcm : c ≤ maxLen)
    (hp : w.cell? ⟨p, 0, none⟩ = some (.slice A n c)) (hq : w.cell? ⟨q, 2, none⟩ = some (.int .i64 (u : Int))) (hu : u ≤ n) :
    Calls Try.prog 65 #[.func (.func g) #[] lb, .pointer (some ⟨p, 0, none⟩), .pointer (some ⟨q, 0, none⟩)] w fun e w' => e = .returned (.int .i64 ((u : Int) + (runB go (xs.drop u) : Int))) ∧ Quiet w w' := by
  have hl : xs.length = n := by have := hx.len; rwa [by8_len] at this
  unfold maxLen at hcm
  have HI : Hid (∀ T c', (u < n → ∃ b off, A = some ⟨b, off, none⟩ ∧ T = some ⟨b, off + u, none⟩) → Calls Try.prog 66 #[.slice T (n - u) c', .func (.func g) #[] lb] w fun e w' => e = .returned (.int .i64 (firstB go (xs.drop u))) ∧ Quiet w w') := Lib.hid fun T c' hT => by
    have hpc := hx.piece (lo := u) (hi := n) hu (Nat.le_refl _) (A' := T) (fun b off e hlt => by
      obtain ⟨b', off', e', rfl⟩ := hT hlt
      rw [e] at e'
      cases e'
      rfl)
    rw [by8_take, by8_drop, List.take_of_length_le (by omega)] at hpc
    exact indexF_any g lb eg go T (n - u) c' (xs.drop u) w U hf hpc (by unfold maxLen; omega)
  have hr := firstB_range (go := go) (l := xs.drop u)
  have HE := Lib.hid (firstB_end (go := go) (l := xs.drop u) u)
  have hdl : (xs.drop u).length = n - u := by simp [hl]
  rw [hdl] at hr HE
  obtain ⟨r, hr0⟩ : ∃ r, firstB go (xs.drop u) = r := ⟨_, rfl⟩
  obtain ⟨k, hk0⟩ : ∃ k, runB go (xs.drop u) = k := ⟨_, rfl⟩
  rw [hr0] at hr HI HE
  rw [hk0] at HE ⊢
  clear hx hf hl hdl hr0 hk0
  by_cases hun : u < n
  · obtain ⟨b, off, rfl⟩ : ∃ b off, A = some ⟨b, off, none⟩ := by
      rcases hcA with h0 | h0
      · omega
      · exact h0
    have hcu : ¬ c = u := by omega
    by_cases h0 : 0 ≤ r
    · go_enter Try.func65, Try.ntmps65
      go_wp2_with (go_at_call 66; refine (HI.out _ _ (fun _ => ⟨b, off, rfl, rfl⟩)).mono ?_; rintro e w1 ⟨rfl, k1, rfl⟩)
      go_ret
      exact ⟨ret_int (by have := HE.out; split at this <;> omega), Quiet.one _ _⟩
    · go_enter Try.func65, Try.ntmps65
      go_wp2_with (go_at_call 66; refine (HI.out _ _ (fun _ => ⟨b, off, rfl, rfl⟩)).mono ?_; rintro e w1 ⟨rfl, k1, rfl⟩)
      go_ret
      exact ⟨ret_int (by have := HE.out; split at this <;> omega), Quiet.one _ _⟩
  · by_cases h0 : 0 ≤ r
    · by_cases hcu : c = u
      · go_enter Try.func65, Try.ntmps65
        go_wp2_with (go_at_call 66; refine (HI.out _ _ (fun h => absurd h hun)).mono ?_; rintro e w1 ⟨rfl, k1, rfl⟩)
        go_ret
        exact ⟨ret_int (by have := HE.out; split at this <;> omega), Quiet.one _ _⟩
      · obtain ⟨b, off, rfl⟩ : ∃ b off, A = some ⟨b, off, none⟩ := by
          rcases hcA with h0 | h0
          · omega
          · exact h0
        go_enter Try.func65, Try.ntmps65
        go_wp2_with (go_at_call 66; refine (HI.out _ _ (fun h => absurd h hun)).mono ?_; rintro e w1 ⟨rfl, k1, rfl⟩)
        go_ret
        exact ⟨ret_int (by have := HE.out; split at this <;> omega), Quiet.one _ _⟩
    · by_cases hcu : c = u
      · go_enter Try.func65, Try.ntmps65
        go_wp2_with (go_at_call 66; refine (HI.out _ _ (fun h => absurd h hun)).mono ?_; rintro e w1 ⟨rfl, k1, rfl⟩)
        go_ret
        exact ⟨ret_int (by have := HE.out; split at this <;> omega), Quiet.one _ _⟩
      · obtain ⟨b, off, rfl⟩ : ∃ b off, A = some ⟨b, off, none⟩ := by
          rcases hcA with h0 | h0
          · omega
          · exact h0
        go_enter Try.func65, Try.ntmps65
        go_wp2_with (go_at_call 66; refine (HI.out _ _ (fun h => absurd h hun)).mono ?_; rintro e w1 ⟨rfl, k1, rfl⟩)
        go_ret
        exact ⟨ret_int (by have := HE.out; split at this <;> omega), Quiet.one _ _⟩
end Go.Proofs.Ythdfoahnkkkbmaa
namespace Go.Proofs.Ythdfoahnkkkbmaa
set_option linter.unusedVariables false
set_option linter.unusedSimpArgs false
open Go.RowKit

/-- What tokenAt answers: a token; memory below is as it was. -/
def TokTo (t : Tk) (w : World) (e : Ending) (w' : World) : Prop := e = .returned (.agg #[.int .i64 t.1, .int .i64 t.2.1, .int .i64 t.2.2]) ∧ Below w.heap.size w w'
/-- The world in which 'until' is called. -/
abbrev tokW (w : World) (v : Value) (k : Int) (u : Nat) : World :=
  ((w.alloc (.cells #[v] 42)).alloc (.cells #[.int .i64 0, .int .i64 0, .int .i64 0] 108)).alloc (.cells #[.int .i64 k, .int .i64 (u : Int), .int .i64 ((u : Int) + 1)] 108)
theorem tokW_below (w : World) (v : Value) (k : Int) (u : Nat) : Below w.heap.size w (tokW w v k u) :=
  (((Below.refl _ w).alloc (Nat.le_refl _) _).alloc (by simp) _).alloc (by simp; omega) _
theorem tokW_a (w : World) (v : Value) (k : Int) (u : Nat) : (tokW w v k u).cell? ⟨w.heap.size, 0, none⟩ = some v := by rw [tokW, World.cell?_alloc_past _ _ _ (by simp; omega), World.cell?_alloc_past _ _ _ (by simp), World.cell?_alloc_at _ _ _ _ rfl]; rfl
theorem tokW_k (w : World) (v : Value) (k : Int) (u : Nat) : (tokW w v k u).cell? ⟨w.heap.size + 1 + 1, 0, none⟩ = some (.int .i64 k) := by rw [tokW, World.cell?_alloc_at _ _ _ _ (by simp)]; rfl
theorem tokW_e (w : World) (v : Value) (k : Int) (u : Nat) : (tokW w v k u).cell? ⟨w.heap.size + 1 + 1, 2, none⟩ = some (.int .i64 ((u + 1 : Nat) : Int)) := by rw [tokW, World.cell?_alloc_at _ _ _ _ (by simp)]; rfl

theorem not_goes3 (k x : Int) (hk : k = 0 ∨ k = 3) : (kd x != k) = !(goes k x) := by
  rcases hk with rfl | rfl <;> simp [goes, bne]
theorem not_goes2 (x : Int) : (kd x != 2 && kd x != 3) = !(goes 2 x) := by simp [goes, bne]
theorem not_goes1 (x : Int) : (x == 10) = !(goes 1 x) := by simp [goes, bne]
theorem ends_3 (w : World) (b : Nat) (k : Int) (hk : k = 0 ∨ k = 3) (hc : w.cell? ⟨b, 0, none⟩ = some (.int .i64 k)) : Ends w 67 #[.pointer (some ⟨b, 0, none⟩)] (goes k) := fun W x hq => by
  rw [← not_goes3 k x hk]
  refine stop2_any b k x W ?_
  obtain ⟨q, rfl⟩ := hq
  exact hc
theorem ends_2 (w : World) : Ends w 68 #[] (goes 2) := fun W x hq => by
  rw [← not_goes2 x]
  exact stop3_any x W
theorem ends_1 (w : World) : Ends w 69 #[] (goes 1) := fun W x hq => by
  rw [← not_goes1 x]
  exact stop4_any x W

theorem zeroTok (w : World) : (zeroValue 108).run Try.prog w = .ok (.agg #[.int .i64 0, .int .i64 0, .int .i64 0]) w := by kernel_rfl
theorem tok_load (w : World) (G o : Nat) (x y z : Value) (c0 : w.cell? ⟨G, o, none⟩ = some x) (c1 : w.cell? ⟨G, o + 1, none⟩ = some y) (c2 : w.cell? ⟨G, o + 2, none⟩ = some z) : (loadVar 108 ⟨G, o, none⟩).run Try.prog w = .ok (.agg #[x, y, z]) w :=
  run_loadVar_mid w G o 108 [x, y, z] _ (fun j u hj => by
    match j, hj with
    | 0, hj => cases hj; exact c0
    | 1, hj => cases hj; exact c1
    | 2, hj => cases hj; exact c2
    | j + 3, hj => simp at hj) Try.underlying108 rfl (by kernel_rfl)
theorem off_ne3 {G i j : Nat} (h : i ≠ j) : (⟨G, i, none⟩ : Addr) ≠ ⟨G, j, none⟩ := fun e => by injection e; exact h (by assumption)
/-- Three cells that are stored. -/
theorem tok_set (w : World) (G : Nat) (x y z : Value) (c0 : (w.cell? ⟨G, 0, none⟩).isSome = true) (c1 : (w.cell? ⟨G, 1, none⟩).isSome = true) (c2 : (w.cell? ⟨G, 2, none⟩).isSome = true) :
    (((w.setCell ⟨G, 0, none⟩ x).setCell ⟨G, 1, none⟩ y).setCell ⟨G, 2, none⟩ z).cell? ⟨G, 0, none⟩ = some x ∧ (((w.setCell ⟨G, 0, none⟩ x).setCell ⟨G, 1, none⟩ y).setCell ⟨G, 2, none⟩ z).cell? ⟨G, 1, none⟩ = some y ∧
    (((w.setCell ⟨G, 0, none⟩ x).setCell ⟨G, 1, none⟩ y).setCell ⟨G, 2, none⟩ z).cell? ⟨G, 2, none⟩ = some z := by
  obtain ⟨a, ha⟩ := Option.isSome_iff_exists.1 c0
  obtain ⟨b, hb⟩ := Option.isSome_iff_exists.1 c1
  obtain ⟨c, hc⟩ := Option.isSome_iff_exists.1 c2
  refine ⟨?_, ?_, ?_⟩
  · rw [World.cell?_setCell_other _ _ _ _ (off_ne3 (by omega)), World.cell?_setCell_other _ _ _ _ (off_ne3 (by omega))]
    exact World.cell?_setCell_same _ _ _ ha
  · rw [World.cell?_setCell_other _ _ _ _ (off_ne3 (by omega))]
    have : (w.setCell ⟨G, 0, none⟩ x).cell? ⟨G, 1, none⟩ = some b := by rw [World.cell?_setCell_other _ _ _ _ (off_ne3 (by omega))]; exact hb
    exact World.cell?_setCell_same _ _ _ this
  · have : ((w.setCell ⟨G, 0, none⟩ x).setCell ⟨G, 1, none⟩ y).cell? ⟨G, 2, none⟩ = some c := by rw [World.cell?_setCell_other _ _ _ _ (off_ne3 (by omega)), World.cell?_setCell_other _ _ _ _ (off_ne3 (by omega))]; exact hc
    exact World.cell?_setCell_same _ _ _ this
/-- The end of tokenAt: the token is stored in the result's block. -/
theorem tok_done {t : Tk} {w W : World} {G : Nat} {x y z : Value} {a : Act} (hp : a.tmps.getD 4 undef = .pointer (some ⟨G, 0, none⟩)) (hd : a.defers = []) (hb : Below w.heap.size w W) (hG : w.heap.size ≤ G) (c0 : (W.cell? ⟨G, 0, none⟩).isSome = true) (c1 : (W.cell? ⟨G, 1, none⟩).isSome = true) (c2 : (W.cell? ⟨G, 2, none⟩).isSome = true)
    (hx : x = .int .i64 t.1) (hy : y = .int .i64 t.2.1) (hz : z = .int .i64 t.2.2) :
    bodyPost Try.prog Try.f59 (TokTo t w) Exit.ret a (((W.setCell ⟨G, 0, none⟩ x).setCell ⟨G, 1, none⟩ y).setCell ⟨G, 2, none⟩ z) := by
  subst hx; subst hy; subst hz
  obtain ⟨e0, e1, e2⟩ := tok_set W G (.int .i64 t.1) (.int .i64 t.2.1) (.int .i64 t.2.2) c0 c1 c2
  have hr : Try.f59.results = #[.cell 4 108] := rfl
  have hl := tok_load _ G 0 _ _ _ e0 e1 e2
  have hp' : a.tmps[4]?.getD undef = .pointer (some ⟨G, 0, none⟩) := by simpa using hp
  refine bodyPost_ret (v := .agg #[.int .i64 t.1, .int .i64 t.2.1, .int .i64 t.2.2]) (by simp [results, hr, hp', asAddr, hl]) hd ?_
  exact ⟨rfl, ((hb.setCell (by exact hG) _).setCell (by exact hG) _).setCell (by exact hG) _⟩
theorem tokW_r (w : World) (v : Value) (k : Int) (u j q : Nat) (x : Value) (hj : j < 3) : ((((tokW w v k u).drewN q).setCell ⟨w.heap.size + 1 + 1, 2, none⟩ x).cell? ⟨w.heap.size + 1, j, none⟩).isSome = true := by
  rw [World.cell?_setCell_other _ _ _ _ (fun e => by injection e; omega)]
  show ((tokW w v k u).cell? ⟨w.heap.size + 1, j, none⟩).isSome = true
  rw [tokW, World.cell?_alloc_past _ _ _ (by simp), World.cell?_alloc_at _ _ _ _ (by simp)]
  match j, hj with
  | 0, _ => rfl
  | 1, _ => rfl
  | 2, _ => rfl

set_option maxRecDepth 10000 in
set_option maxHeartbeats 800000 in
theorem tokenAt_0 (n c u : Nat) (c0 : Int) (bs : List Int) (w : World) (b off : Nat) (hb : b < w.heap.size) (hc0 : w.cell? ⟨b, off + u, none⟩ = some (.int .u8 c0)) (hx : Sh w w.heap.size (some ⟨b, off, none⟩) n (by8 bs)) (hn : n ≤ 1000000) (hnc : n ≤ c) (hcm : c ≤ maxLen) (hu : u < n)
    (hk : kd c0 = 0) :
    Calls Try.prog 59 #[.slice (some ⟨b, off, none⟩) n c, .int .i64 (u : Int)] w (TokTo (0, u, ((u + 1 : Nat) : Int) + (runB (goes 0) (bs.drop (u + 1)) : Int)) w) := by
  have HU := Lib.hid (until_any 67 #[.pointer (some ⟨w.heap.size + 1 + 1, 0, none⟩)] (enters_of Try.func67 (by kernel_rfl) rfl) (goes 0) (some ⟨b, off, none⟩) n c w.heap.size (w.heap.size + 1 + 1) (u + 1) bs (tokW w (.slice (some ⟨b, off, none⟩) n c) 0 u) w.heap.size (ends_3 _ _ 0 (.inl rfl) (tokW_k _ _ _ _)) (hx.below (tokW_below _ _ _ _)) (.inr ⟨b, off, rfl⟩) hn hnc hcm (tokW_a _ _ _ _) (tokW_e _ _ _ _) (by omega))
  have HB := Lib.hid (tokW_below w (.slice (some ⟨b, off, none⟩) n c) 0 u)
  obtain ⟨r, hr⟩ : ∃ r, ((u + 1 : Nat) : Int) + (runB (goes 0) (bs.drop (u + 1)) : Int) = r := ⟨_, rfl⟩
  rw [hr] at HU ⊢
  unfold maxLen at hcm
  clear hx hr
  have hz := zeroTok w
  go_enter Try.func59, Try.ntmps59
  go_wp2_with (first
    | (go_at_call 64; refine (kindOf_any _ _).mono ?_; rintro e w' ⟨rfl, rfl⟩; rw [hk])
    | (go_at_call 65; refine HU.out.mono ?_; rintro e w1 ⟨rfl, q, rfl⟩)
    | fail)
  exact tok_done (G := w.heap.size + 1) rfl rfl ((HB.out.trans ((Quiet.one _ _).below _)).setCell (by show w.heap.size ≤ w.heap.size + 1 + 1; omega) _) (by omega) (tokW_r _ _ _ _ _ _ _ (by omega)) (tokW_r _ _ _ _ _ _ _ (by omega)) (tokW_r _ _ _ _ _ _ _ (by omega)) rfl rfl rfl

set_option maxRecDepth 10000 in
set_option maxHeartbeats 800000 in
theorem tokenAt_3 (n c u : Nat) (c0 : Int) (bs : List Int) (w : World) (b off : Nat) (hb : b < w.heap.size) (hc0 : w.cell? ⟨b, off + u, none⟩ = some (.int .u8 c0)) (hx : Sh w w.heap.size (some ⟨b, off, none⟩) n (by8 bs)) (hn : n ≤ 1000000) (hnc : n ≤ c) (hcm : c ≤ maxLen) (hu : u < n)
    (hk : kd c0 = 3) :
    Calls Try.prog 59 #[.slice (some ⟨b, off, none⟩) n c, .int .i64 (u : Int)] w (TokTo (3, u, ((u + 1 : Nat) : Int) + (runB (goes 3) (bs.drop (u + 1)) : Int)) w) := by
  have HU := Lib.hid (until_any 67 #[.pointer (some ⟨w.heap.size + 1 + 1, 0, none⟩)] (enters_of Try.func67 (by kernel_rfl) rfl) (goes 3) (some ⟨b, off, none⟩) n c w.heap.size (w.heap.size + 1 + 1) (u + 1) bs (tokW w (.slice (some ⟨b, off, none⟩) n c) 3 u) w.heap.size (ends_3 _ _ 3 (.inr rfl) (tokW_k _ _ _ _)) (hx.below (tokW_below _ _ _ _)) (.inr ⟨b, off, rfl⟩) hn hnc hcm (tokW_a _ _ _ _) (tokW_e _ _ _ _) (by omega))
  have HB := Lib.hid (tokW_below w (.slice (some ⟨b, off, none⟩) n c) 3 u)
  obtain ⟨r, hr⟩ : ∃ r, ((u + 1 : Nat) : Int) + (runB (goes 3) (bs.drop (u + 1)) : Int) = r := ⟨_, rfl⟩
  rw [hr] at HU ⊢
  unfold maxLen at hcm
  clear hx hr
  have hz := zeroTok w
  go_enter Try.func59, Try.ntmps59
  go_wp2_with (first
    | (go_at_call 64; refine (kindOf_any _ _).mono ?_; rintro e w' ⟨rfl, rfl⟩; rw [hk])
    | (go_at_call 65; refine HU.out.mono ?_; rintro e w1 ⟨rfl, q, rfl⟩)
    | fail)
  exact tok_done (G := w.heap.size + 1) rfl rfl ((HB.out.trans ((Quiet.one _ _).below _)).setCell (by show w.heap.size ≤ w.heap.size + 1 + 1; omega) _) (by omega) (tokW_r _ _ _ _ _ _ _ (by omega)) (tokW_r _ _ _ _ _ _ _ (by omega)) (tokW_r _ _ _ _ _ _ _ (by omega)) rfl rfl rfl

set_option maxRecDepth 10000 in
set_option maxHeartbeats 800000 in
theorem tokenAt_2 (n c u : Nat) (c0 : Int) (bs : List Int) (w : World) (b off : Nat) (hb : b < w.heap.size) (hc0 : w.cell? ⟨b, off + u, none⟩ = some (.int .u8 c0)) (hx : Sh w w.heap.size (some ⟨b, off, none⟩) n (by8 bs)) (hn : n ≤ 1000000) (hnc : n ≤ c) (hcm : c ≤ maxLen) (hu : u < n)
    (hk : kd c0 = 2) :
    Calls Try.prog 59 #[.slice (some ⟨b, off, none⟩) n c, .int .i64 (u : Int)] w (TokTo (2, u, ((u + 1 : Nat) : Int) + (runB (goes 2) (bs.drop (u + 1)) : Int)) w) := by
  have HU := Lib.hid (until_any 68 #[] (enters_of Try.func68 (by kernel_rfl) rfl) (goes 2) (some ⟨b, off, none⟩) n c w.heap.size (w.heap.size + 1 + 1) (u + 1) bs (tokW w (.slice (some ⟨b, off, none⟩) n c) 2 u) w.heap.size (ends_2 _) (hx.below (tokW_below _ _ _ _)) (.inr ⟨b, off, rfl⟩) hn hnc hcm (tokW_a _ _ _ _) (tokW_e _ _ _ _) (by omega))
  have HB := Lib.hid (tokW_below w (.slice (some ⟨b, off, none⟩) n c) 2 u)
  obtain ⟨r, hr⟩ : ∃ r, ((u + 1 : Nat) : Int) + (runB (goes 2) (bs.drop (u + 1)) : Int) = r := ⟨_, rfl⟩
  rw [hr] at HU ⊢
  unfold maxLen at hcm
  clear hx hr
  have hz := zeroTok w
  go_enter Try.func59, Try.ntmps59
  go_wp2_with (first
    | (go_at_call 64; refine (kindOf_any _ _).mono ?_; rintro e w' ⟨rfl, rfl⟩; rw [hk])
    | (go_at_call 65; refine HU.out.mono ?_; rintro e w1 ⟨rfl, q, rfl⟩)
    | fail)
  exact tok_done (G := w.heap.size + 1) rfl rfl ((HB.out.trans ((Quiet.one _ _).below _)).setCell (by show w.heap.size ≤ w.heap.size + 1 + 1; omega) _) (by omega) (tokW_r _ _ _ _ _ _ _ (by omega)) (tokW_r _ _ _ _ _ _ _ (by omega)) (tokW_r _ _ _ _ _ _ _ (by omega)) rfl rfl rfl

set_option maxRecDepth 10000 in
set_option maxHeartbeats 800000 in
theorem tokenAt_1 (n c u : Nat) (c0 : Int) (bs : List Int) (w : World) (b off : Nat) (hb : b < w.heap.size) (hc0 : w.cell? ⟨b, off + u, none⟩ = some (.int .u8 c0)) (hx : Sh w w.heap.size (some ⟨b, off, none⟩) n (by8 bs)) (hn : n ≤ 1000000) (hnc : n ≤ c) (hcm : c ≤ maxLen) (hu : u < n)
    (hk : kd c0 = 1) :
    Calls Try.prog 59 #[.slice (some ⟨b, off, none⟩) n c, .int .i64 (u : Int)] w (TokTo (1, u, ((u + 1 : Nat) : Int) + (runB (goes 1) (bs.drop (u + 1)) : Int)) w) := by
  have HU := Lib.hid (until_any 69 #[] (enters_of Try.func69 (by kernel_rfl) rfl) (goes 1) (some ⟨b, off, none⟩) n c w.heap.size (w.heap.size + 1 + 1) (u + 1) bs (tokW w (.slice (some ⟨b, off, none⟩) n c) 1 u) w.heap.size (ends_1 _) (hx.below (tokW_below _ _ _ _)) (.inr ⟨b, off, rfl⟩) hn hnc hcm (tokW_a _ _ _ _) (tokW_e _ _ _ _) (by omega))
  have HB := Lib.hid (tokW_below w (.slice (some ⟨b, off, none⟩) n c) 1 u)
  obtain ⟨r, hr⟩ : ∃ r, ((u + 1 : Nat) : Int) + (runB (goes 1) (bs.drop (u + 1)) : Int) = r := ⟨_, rfl⟩
  rw [hr] at HU ⊢
  unfold maxLen at hcm
  clear hx hr
  have hz := zeroTok w
  go_enter Try.func59, Try.ntmps59
  go_wp2_with (first
    | (go_at_call 64; refine (kindOf_any _ _).mono ?_; rintro e w' ⟨rfl, rfl⟩; rw [hk])
    | (go_at_call 65; refine HU.out.mono ?_; rintro e w1 ⟨rfl, q, rfl⟩)
    | fail)
  exact tok_done (G := w.heap.size + 1) rfl rfl ((HB.out.trans ((Quiet.one _ _).below _)).setCell (by show w.heap.size ≤ w.heap.size + 1 + 1; omega) _) (by omega) (tokW_r _ _ _ _ _ _ _ (by omega)) (tokW_r _ _ _ _ _ _ _ (by omega)) (tokW_r _ _ _ _ _ _ _ (by omega)) rfl rfl rfl
end Go.Proofs.Ythdfoahnkkkbmaa
namespace Go.Proofs.Ythdfoahnkkkbmaa
set_option linter.unusedVariables false
set_option linter.unusedSimpArgs false
open Go.RowKit

theorem tokW_s (w : World) (v : Value) (k : Int) (u j : Nat) (hj : j < 3) : ((tokW w v k u).cell? ⟨w.heap.size + 1, j, none⟩).isSome = true := by
  show ((tokW w v k u).cell? ⟨w.heap.size + 1, j, none⟩).isSome = true
  rw [tokW, World.cell?_alloc_past _ _ _ (by simp), World.cell?_alloc_at _ _ _ _ (by simp)]
  match j, hj with
  | 0, _ => rfl
  | 1, _ => rfl
  | 2, _ => rfl
theorem tokW_0 (w : World) (v : Value) (k : Int) (u j : Nat) (hj : j < 3) : (tokW w v k u).cell? ⟨w.heap.size + 1, j, none⟩ = some (.int .i64 0) := by
  rw [tokW, World.cell?_alloc_past _ _ _ (by simp), World.cell?_alloc_at _ _ _ _ (by simp)]
  match j, hj with
  | 0, _ => rfl
  | 1, _ => rfl
  | 2, _ => rfl
theorem tokW_u (w : World) (v : Value) (k : Int) (u : Nat) : (tokW w v k u).cell? ⟨w.heap.size + 1 + 1, 1, none⟩ = some (.int .i64 (u : Int)) := by rw [tokW, World.cell?_alloc_at _ _ _ _ (by simp)]; rfl

set_option maxRecDepth 10000 in
set_option maxHeartbeats 1600000 in
/-- A sign, or a bad byte, at the text's last place. -/
theorem tokenAt_last (n c u : Nat) (c0 k : Int) (w : World) (b off : Nat) (hb : b < w.heap.size) (hc0 : w.cell? ⟨b, off + u, none⟩ = some (.int .u8 c0)) (hn : n ≤ 1000000) (hnc : n ≤ c) (hcm : c ≤ maxLen) (hu : u + 1 = n)
    (hk : kd c0 = k) (h4 : 4 ≤ k) :
    Calls Try.prog 59 #[.slice (some ⟨b, off, none⟩) n c, .int .i64 (u : Int)] w (TokTo (k, u, ((u + 1 : Nat) : Int)) w) := by
  have HB : Hid (Below w.heap.size w (tokW w (.slice (some ⟨b, off, none⟩) n c) k u)) := Lib.hid (tokW_below w (.slice (some ⟨b, off, none⟩) n c) k u)
  have HS := Lib.hid (tokW_s w (.slice (some ⟨b, off, none⟩) n c) k u)
  have ka := tokW_a w (.slice (some ⟨b, off, none⟩) n c) k u
  have kk := tokW_k w (.slice (some ⟨b, off, none⟩) n c) k u
  have ku := tokW_u w (.slice (some ⟨b, off, none⟩) n c) k u
  have k0 := tokW_0 w (.slice (some ⟨b, off, none⟩) n c) k u 0 (by omega)
  have k1 := tokW_0 w (.slice (some ⟨b, off, none⟩) n c) k u 1 (by omega)
  have k2 := tokW_0 w (.slice (some ⟨b, off, none⟩) n c) k u 2 (by omega)
  have ke := tokW_e w (.slice (some ⟨b, off, none⟩) n c) k u
  have hold := fun p (hp : p.block < w.heap.size) => (tokW_below w (.slice (some ⟨b, off, none⟩) n c) k u).cell (p := p) hp
  have kc : (tokW w (.slice (some ⟨b, off, none⟩) n c) k u).cell? ⟨b, off + u, none⟩ = some (.int .u8 c0) := (hold ⟨b, _, none⟩ hb).trans hc0
  obtain ⟨W, hW⟩ : ∃ W, ((w.alloc (.cells #[.slice (some ⟨b, off, none⟩) n c] 42)).alloc (.cells #[.int .i64 0, .int .i64 0, .int .i64 0] 108)).alloc (.cells #[.int .i64 k, .int .i64 (u : Int), .int .i64 ((u : Int) + 1)] 108) = W := ⟨_, rfl⟩
  unfold tokW at HB HS ka kk ku k0 k1 k2 ke hold kc
  rw [hW] at HB HS ka kk ku k0 k1 k2 ke kc
  rw [show (((u + 1 : Nat) : Int)) = (u : Int) + 1 by omega] at ke
  have HW := Lib.hid hW
  clear hold hW
  unfold maxLen at hcm
  have hz := zeroTok w
  have h0 : (k == 0) = false := by simp; omega
  have h1 : (k == 1) = false := by simp; omega
  have h2 : (k == 2) = false := by simp; omega
  have h3 : (k == 3) = false := by simp; omega
  have hlt : (decide ((u : Int) + 1 < (n : Int))) = false := decide_eq_false (by omega)
  have hun : u < n := by omega
  clear hu
  go_enter Try.func59, Try.ntmps59
  go_wp2_with (first
    | (go_at_call 64; refine (kindOf_any _ _).mono ?_; rintro e w' ⟨rfl, rfl⟩; rw [hk])
    | fail)
  rw [HW.out]
  go_quiet (fail)
  have hW := HW.out
  subst hW
  clear HW
  go_wp2
  exact tok_done (G := w.heap.size + 1) rfl rfl (HB.out.trans ((Quiet.one _ _).below _)) (by omega) (HS.out _ (by omega)) (HS.out _ (by omega)) (HS.out _ (by omega)) rfl rfl rfl

set_option maxRecDepth 10000 in
set_option maxHeartbeats 1600000 in
/-- .. with a byte behind it, that makes it a sign of two. -/
theorem tokenAt_two (n c u : Nat) (c0 d0 k : Int) (w : World) (b off : Nat) (hb : b < w.heap.size) (hc0 : w.cell? ⟨b, off + u, none⟩ = some (.int .u8 c0)) (hd0 : w.cell? ⟨b, off + (u + 1), none⟩ = some (.int .u8 d0)) (hn : n ≤ 1000000) (hnc : n ≤ c) (hcm : c ≤ maxLen) (hu : u + 1 < n)
    (hk : kd c0 = k) (h4 : 4 ≤ k) (hp : pairB c0 d0 = true) :
    Calls Try.prog 59 #[.slice (some ⟨b, off, none⟩) n c, .int .i64 (u : Int)] w (TokTo (4, u, ((u + 2 : Nat) : Int)) w) := by
  have HB : Hid (Below w.heap.size w (tokW w (.slice (some ⟨b, off, none⟩) n c) k u)) := Lib.hid (tokW_below w (.slice (some ⟨b, off, none⟩) n c) k u)
  have HS := Lib.hid (tokW_s w (.slice (some ⟨b, off, none⟩) n c) k u)
  have ka := tokW_a w (.slice (some ⟨b, off, none⟩) n c) k u
  have kk := tokW_k w (.slice (some ⟨b, off, none⟩) n c) k u
  have ku := tokW_u w (.slice (some ⟨b, off, none⟩) n c) k u
  have k0 := tokW_0 w (.slice (some ⟨b, off, none⟩) n c) k u 0 (by omega)
  have k1 := tokW_0 w (.slice (some ⟨b, off, none⟩) n c) k u 1 (by omega)
  have k2 := tokW_0 w (.slice (some ⟨b, off, none⟩) n c) k u 2 (by omega)
  have ke := tokW_e w (.slice (some ⟨b, off, none⟩) n c) k u
  have hold := fun p (hp : p.block < w.heap.size) => (tokW_below w (.slice (some ⟨b, off, none⟩) n c) k u).cell (p := p) hp
  have kc : (tokW w (.slice (some ⟨b, off, none⟩) n c) k u).cell? ⟨b, off + u, none⟩ = some (.int .u8 c0) := (hold ⟨b, _, none⟩ hb).trans hc0
  have kd0 : (tokW w (.slice (some ⟨b, off, none⟩) n c) k u).cell? ⟨b, off + (u + 1), none⟩ = some (.int .u8 d0) := (hold ⟨b, _, none⟩ hb).trans hd0
  obtain ⟨W, hW⟩ : ∃ W, ((w.alloc (.cells #[.slice (some ⟨b, off, none⟩) n c] 42)).alloc (.cells #[.int .i64 0, .int .i64 0, .int .i64 0] 108)).alloc (.cells #[.int .i64 k, .int .i64 (u : Int), .int .i64 ((u : Int) + 1)] 108) = W := ⟨_, rfl⟩
  unfold tokW at HB HS ka kk ku k0 k1 k2 ke hold kc kd0
  rw [hW] at HB HS ka kk ku k0 k1 k2 ke kc kd0
  rw [show (((u + 1 : Nat) : Int)) = (u : Int) + 1 by omega] at ke
  have HW := Lib.hid hW
  clear hold hW
  have HP := Lib.hid hp
  clear hp
  unfold maxLen at hcm
  have hz := zeroTok w
  have h0 : (k == 0) = false := by simp; omega
  have h1 : (k == 1) = false := by simp; omega
  have h2 : (k == 2) = false := by simp; omega
  have h3 : (k == 3) = false := by simp; omega
  have hlt : (u : Int) + 1 < (n : Int) := by omega
  have hpos : 0 ≤ (u : Int) + 1 := by omega
  have hto : ((u : Int) + 1).toNat = u + 1 := by omega
  go_enter Try.func59, Try.ntmps59
  go_wp2_with (first
    | (go_at_call 64; refine (kindOf_any _ _).mono ?_; rintro e w' ⟨rfl, rfl⟩; rw [hk])
    | fail)
  rw [HW.out]
  go_quiet ((go_at_call 70; exact Calls.quiet_of_same ((pair_any _ _ _).mono fun e w' ⟨h1, h2⟩ => ⟨h1.trans (by rw [HP.out]), h2.symm⟩)))
  have hW := HW.out
  subst hW
  clear HW
  go_wp2
  exact tok_done (G := w.heap.size + 1) rfl rfl (HB.out.trans ((Quiet.one _ _).below _)) (by omega) (HS.out _ (by omega)) (HS.out _ (by omega)) (HS.out _ (by omega)) rfl rfl (by go_num)

set_option maxRecDepth 10000 in
set_option maxHeartbeats 1600000 in
/-- .. that doesn't. -/
theorem tokenAt_one (n c u : Nat) (c0 d0 k : Int) (w : World) (b off : Nat) (hb : b < w.heap.size) (hc0 : w.cell? ⟨b, off + u, none⟩ = some (.int .u8 c0)) (hd0 : w.cell? ⟨b, off + (u + 1), none⟩ = some (.int .u8 d0)) (hn : n ≤ 1000000) (hnc : n ≤ c) (hcm : c ≤ maxLen) (hu : u + 1 < n)
    (hk : kd c0 = k) (h4 : 4 ≤ k) (hp : pairB c0 d0 = false) :
    Calls Try.prog 59 #[.slice (some ⟨b, off, none⟩) n c, .int .i64 (u : Int)] w (TokTo (k, u, ((u + 1 : Nat) : Int)) w) := by
  have HB : Hid (Below w.heap.size w (tokW w (.slice (some ⟨b, off, none⟩) n c) k u)) := Lib.hid (tokW_below w (.slice (some ⟨b, off, none⟩) n c) k u)
  have HS := Lib.hid (tokW_s w (.slice (some ⟨b, off, none⟩) n c) k u)
  have ka := tokW_a w (.slice (some ⟨b, off, none⟩) n c) k u
  have kk := tokW_k w (.slice (some ⟨b, off, none⟩) n c) k u
  have ku := tokW_u w (.slice (some ⟨b, off, none⟩) n c) k u
  have k0 := tokW_0 w (.slice (some ⟨b, off, none⟩) n c) k u 0 (by omega)
  have k1 := tokW_0 w (.slice (some ⟨b, off, none⟩) n c) k u 1 (by omega)
  have k2 := tokW_0 w (.slice (some ⟨b, off, none⟩) n c) k u 2 (by omega)
  have ke := tokW_e w (.slice (some ⟨b, off, none⟩) n c) k u
  have hold := fun p (hp : p.block < w.heap.size) => (tokW_below w (.slice (some ⟨b, off, none⟩) n c) k u).cell (p := p) hp
  have kc : (tokW w (.slice (some ⟨b, off, none⟩) n c) k u).cell? ⟨b, off + u, none⟩ = some (.int .u8 c0) := (hold ⟨b, _, none⟩ hb).trans hc0
  have kd0 : (tokW w (.slice (some ⟨b, off, none⟩) n c) k u).cell? ⟨b, off + (u + 1), none⟩ = some (.int .u8 d0) := (hold ⟨b, _, none⟩ hb).trans hd0
  obtain ⟨W, hW⟩ : ∃ W, ((w.alloc (.cells #[.slice (some ⟨b, off, none⟩) n c] 42)).alloc (.cells #[.int .i64 0, .int .i64 0, .int .i64 0] 108)).alloc (.cells #[.int .i64 k, .int .i64 (u : Int), .int .i64 ((u : Int) + 1)] 108) = W := ⟨_, rfl⟩
  unfold tokW at HB HS ka kk ku k0 k1 k2 ke hold kc kd0
  rw [hW] at HB HS ka kk ku k0 k1 k2 ke kc kd0
  rw [show (((u + 1 : Nat) : Int)) = (u : Int) + 1 by omega] at ke
  have HW := Lib.hid hW
  clear hold hW
  have HP := Lib.hid hp
  clear hp
  unfold maxLen at hcm
  have hz := zeroTok w
  have h0 : (k == 0) = false := by simp; omega
  have h1 : (k == 1) = false := by simp; omega
  have h2 : (k == 2) = false := by simp; omega
  have h3 : (k == 3) = false := by simp; omega
  have hlt : (u : Int) + 1 < (n : Int) := by omega
  have hpos : 0 ≤ (u : Int) + 1 := by omega
  have hto : ((u : Int) + 1).toNat = u + 1 := by omega
  go_enter Try.func59, Try.ntmps59
  go_wp2_with (first
    | (go_at_call 64; refine (kindOf_any _ _).mono ?_; rintro e w' ⟨rfl, rfl⟩; rw [hk])
    | fail)
  rw [HW.out]
  go_quiet ((go_at_call 70; exact Calls.quiet_of_same ((pair_any _ _ _).mono fun e w' ⟨h1, h2⟩ => ⟨h1.trans (by rw [HP.out]), h2.symm⟩)))
  have hW := HW.out
  subst hW
  clear HW
  go_wp2
  exact tok_done (G := w.heap.size + 1) rfl rfl (HB.out.trans ((Quiet.one _ _).below _)) (by omega) (HS.out _ (by omega)) (HS.out _ (by omega)) (HS.out _ (by omega)) rfl rfl rfl

/-- tokenAt(b, u): the token that stands there. -/
theorem tokenAt_any (A : Option Addr) (n c u : Nat) (bs : List Int) (w : World) (hx : Sh w w.heap.size A n (by8 bs)) (hn : n ≤ 1000000) (hnc : n ≤ c) (hcm : c ≤ maxLen) (hu : u < n) :
    Calls Try.prog 59 #[.slice A n c, .int .i64 (u : Int)] w (TokTo (tk (bs.drop u), u, ((u + tl (bs.drop u) : Nat) : Int)) w) := by
  have hl : bs.length = n := by have := hx.len; rwa [by8_len] at this
  obtain ⟨b, off, rfl, hb, hc0⟩ := hx.byte hu
  have hd : bs.drop u = bs.getD u 0 :: bs.drop (u + 1) := by
    rw [List.drop_eq_getElem_cons (by omega)]
    simp [show u < bs.length by omega]
  obtain ⟨c0, e0⟩ : ∃ c0, bs.getD u 0 = c0 := ⟨_, rfl⟩
  rw [e0] at hd hc0
  have hr := kd_range c0
  rw [hd, tk_cons, tl_cons]
  by_cases h4 : kd c0 < 4
  · rw [if_pos h4, if_pos h4]
    have hh : kd c0 = 0 ∨ kd c0 = 1 ∨ kd c0 = 2 ∨ kd c0 = 3 := by omega
    have hto : ∀ k : Int, TokTo (k, (u : Int), ((u + 1 : Nat) : Int) + (runB (goes k) (bs.drop (u + 1)) : Int)) w = TokTo (k, (u : Int), ((u + (1 + runB (goes k) (bs.drop (u + 1))) : Nat) : Int)) w := fun k => by
      have : ((u + 1 : Nat) : Int) + (runB (goes k) (bs.drop (u + 1)) : Int) = ((u + (1 + runB (goes k) (bs.drop (u + 1))) : Nat) : Int) := by omega
      rw [this]
    rcases hh with h | h | h | h
    · have := tokenAt_0 n c u c0 bs w b off hb hc0 hx hn hnc hcm hu h
      rw [h, ← hto]; exact this
    · have := tokenAt_1 n c u c0 bs w b off hb hc0 hx hn hnc hcm hu h
      rw [h, ← hto]; exact this
    · have := tokenAt_2 n c u c0 bs w b off hb hc0 hx hn hnc hcm hu h
      rw [h, ← hto]; exact this
    · have := tokenAt_3 n c u c0 bs w b off hb hc0 hx hn hnc hcm hu h
      rw [h, ← hto]; exact this
  · rw [if_neg h4, if_neg h4]
    by_cases hlast : u + 1 = n
    · have : bs.drop (u + 1) = [] := List.drop_of_length_le (by omega)
      rw [this]
      exact tokenAt_last n c u c0 (kd c0) w b off hb hc0 hn hnc hcm hlast rfl (by omega)
    · obtain ⟨b', off', e', hb', hd0⟩ := hx.byte (k := u + 1) (by omega)
      cases e'
      have hd1 : bs.drop (u + 1) = bs.getD (u + 1) 0 :: bs.drop (u + 1 + 1) := by
        rw [List.drop_eq_getElem_cons (by omega)]
        simp [show u + 1 < bs.length by omega]
      rw [hd1]
      show Calls _ _ _ _ (TokTo (if pairB c0 (bs.getD (u + 1) 0) = true then 4 else kd c0, (u : Int), ((u + if pairB c0 (bs.getD (u + 1) 0) = true then 2 else 1 : Nat) : Int)) w)
      by_cases hp : pairB c0 (bs.getD (u + 1) 0) = true
      · rw [if_pos hp, if_pos hp]
        exact tokenAt_two n c u c0 _ (kd c0) w b off hb hc0 hd0 hn hnc hcm (by omega) rfl (by omega) hp
      · rw [if_neg hp, if_neg hp]
        exact tokenAt_one n c u c0 _ (kd c0) w b off hb hc0 hd0 hn hnc hcm (by omega) rfl (by omega) (by simpa using hp)
end Go.Proofs.Ythdfoahnkkkbmaa
namespace Go.Proofs.Ythdfoahnkkkbmaa
set_option linter.unusedVariables false
set_option linter.unusedSimpArgs false
open Go.RowKit

def tcell (t : Tk) : List Value := [.int .i64 t.1, .int .i64 t.2.1, .int .i64 t.2.2]
def tcs (L : List Tk) : List Value := L.flatMap tcell
theorem tcs_snoc (L : List Tk) (t : Tk) : tcs (L ++ [t]) = tcs L ++ tcell t := by simp [tcs]
theorem tcs_cons (t : Tk) (L : List Tk) : tcs (t :: L) = .int .i64 t.1 :: .int .i64 t.2.1 :: .int .i64 t.2.2 :: tcs L := by simp [tcs, tcell]
theorem tcs_len (L : List Tk) : (tcs L).length = L.length * 3 := by
  induction L with
  | nil => rfl
  | cons t L ih => rw [tcs_cons]; simp; omega
theorem tcs_at {L : List Tk} {k : Nat} {t : Tk} (h : L[k]? = some t) : (tcs L)[k * 3]? = some (.int .i64 t.1) ∧ (tcs L)[k * 3 + 1]? = some (.int .i64 t.2.1) ∧ (tcs L)[k * 3 + 2]? = some (.int .i64 t.2.2) := by
  induction L generalizing k with
  | nil => simp at h
  | cons s L ih =>
    rw [tcs_cons]
    cases k with
    | zero => cases h; exact ⟨rfl, rfl, rfl⟩
    | succ k =>
      have := ih (k := k) (by simpa using h)
      rw [show (k + 1) * 3 = k * 3 + 1 + 1 + 1 by omega]
      simpa using this
theorem tcell_one (t : Tk) : ∀ u ∈ tcell t, u.oneCell' = true := by
  intro u hu
  simp [tcell] at hu
  rcases hu with rfl | rfl | rfl <;> rfl

/-- The slice '.slice A n c' shows the tokens L. -/
def ShT (w : World) (B : Nat) (A : Option Addr) (n : Nat) (L : List Tk) : Prop :=
  L.length = n ∧ (0 < n → ∃ b off, A = some ⟨b, off, none⟩ ∧ b < B ∧ ∀ k t, L[k]? = some t →
    w.cell? ⟨b, off + k * 3, none⟩ = some (.int .i64 t.1) ∧ w.cell? ⟨b, off + k * 3 + 1, none⟩ = some (.int .i64 t.2.1) ∧ w.cell? ⟨b, off + k * 3 + 2, none⟩ = some (.int .i64 t.2.2))
section
variable {w w' : World} {B B' n : Nat} {A : Option Addr} {L : List Tk}
theorem ShT.at (h : ShT w B A n L) {k : Nat} (hk : k < n) : ∃ b off t, A = some ⟨b, off, none⟩ ∧ b < B ∧ L[k]? = some t ∧
    w.cell? ⟨b, off + k * 3, none⟩ = some (.int .i64 t.1) ∧ w.cell? ⟨b, off + k * 3 + 1, none⟩ = some (.int .i64 t.2.1) ∧ w.cell? ⟨b, off + k * 3 + 2, none⟩ = some (.int .i64 t.2.2) := by
  obtain ⟨b, off, e, hb, hc⟩ := h.2 (by omega)
  have hl : k < L.length := by rw [h.1]; exact hk
  exact ⟨b, off, L[k], e, hb, List.getElem?_eq_getElem hl, hc k _ (List.getElem?_eq_getElem hl)⟩
theorem ShT.up (h : ShT w B A n L) (hb : Below B' w w') (hB : B ≤ B') : ShT w' B A n L :=
  ⟨h.1, fun hn => by
    obtain ⟨b, off, e, hlt, hc⟩ := h.2 hn
    refine ⟨b, off, e, hlt, fun k t ht => ?_⟩
    obtain ⟨h0, h1, h2⟩ := hc k t ht
    exact ⟨(hb.cell (p := ⟨b, _, none⟩) (Nat.lt_of_lt_of_le hlt hB)).trans h0, (hb.cell (p := ⟨b, _, none⟩) (Nat.lt_of_lt_of_le hlt hB)).trans h1, (hb.cell (p := ⟨b, _, none⟩) (Nat.lt_of_lt_of_le hlt hB)).trans h2⟩⟩
theorem ShT.more (h : ShT w B A n L) (hB : B ≤ B') : ShT w B' A n L :=
  ⟨h.1, fun hn => by
    obtain ⟨b, off, e, hlt, hc⟩ := h.2 hn
    exact ⟨b, off, e, by omega, hc⟩⟩
theorem Own.tok {c : Nat} {e : TypeId} (h : Own w B e 3 (.slice A n c) n (tcs L)) (hl : L.length = n) : ShT w w.heap.size A n L := by
  refine ⟨hl, fun hn => ?_⟩
  obtain ⟨g, cap, hv, _, hlt⟩ := h.1.form hn
  have hA : A = some ⟨g, 0, none⟩ := by injection hv
  subst hA
  have hc : ∀ j u, (tcs L)[j]? = some u → w.cell? ⟨g, 0 + j, none⟩ = some u := fun j u hu => by
    have := h.1.cells (g := g) rfl j u hu
    rwa [Addr.add_lit] at this
  refine ⟨g, 0, rfl, hlt, fun k t ht => ?_⟩
  obtain ⟨h0, h1, h2⟩ := tcs_at ht
  refine ⟨hc _ _ h0, ?_, ?_⟩
  · rw [Nat.add_assoc]; exact hc _ _ h1
  · rw [Nat.add_assoc]; exact hc _ _ h2
end

/-- What a call answers that makes a row of tokens. -/
def ToksTo (L : List Tk) (w : World) (e : Ending) (w' : World) : Prop :=
  ∃ v, e = .returned v ∧ Own w' w.heap.size 108 3 v L.length (tcs L) ∧ Below w.heap.size w w'

theorem grown_below {a b : World} {k : Nat} (h : a.grownBy b (some k)) (B : Nat) (hk : B ≤ k) (hB : B ≤ a.heap.size) : Below B a b :=
  ⟨h.os, h.tape, h.output, h.size, fun j hj => h.block j (by omega) (by intro e; injection e; omega)⟩

/-- A token's block, behind an append to an older row. -/
theorem tok_kept {wr w1 w2 : World} {B n : Nat} {v a b c : Value} {xs : List Value} {e T : TypeId} {o : Obj} (ho : Own wr B e 3 v n xs) (hs : wr.heap.size ≤ w1.heap.size) (hg : ((w1.alloc (.cells #[a, b, c] T)).alloc o).grownBy w2 v.ownBlock) :
    w2.cell? ⟨w1.heap.size, 0, none⟩ = some a ∧ w2.cell? ⟨w1.heap.size, 1, none⟩ = some b ∧ w2.cell? ⟨w1.heap.size, 2, none⟩ = some c := by
  have hb : w2.heap[w1.heap.size]? = ((w1.alloc (.cells #[a, b, c] T)).alloc o).heap[w1.heap.size]? := hg.block w1.heap.size (by simp; omega) (fun e => by have := (ho.1.lt _ e.symm).2; omega)
  have hc : ∀ j, w2.cell? ⟨w1.heap.size, j, none⟩ = #[a, b, c][j]? := fun j => by
    rw [World.cell?_of_block (a := ⟨w1.heap.size, j, none⟩) hb, World.cell?_alloc_past _ _ _ (by simp), World.cell?_alloc_at _ _ _ _ rfl]
  exact ⟨hc 0, hc 1, hc 2⟩

end Go.Proofs.Ythdfoahnkkkbmaa
