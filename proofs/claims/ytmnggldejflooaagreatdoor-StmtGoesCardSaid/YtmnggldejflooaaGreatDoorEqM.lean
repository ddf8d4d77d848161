import Derived.Test.YtmnggldejflooaaGreatDoorSq
import Derived.Test.YtmnggldejflooaaGreatDoorMEz
import Derived.Test.YtmnggldejflooaaGreatDoorMEp
set_option maxHeartbeats 1600000
namespace Go.Proofs.YtmnggldejflooaaGreatDoor
set_option linter.unusedVariables false
set_option linter.unusedSimpArgs false
open Go.RowKit
def In64 (n : Int) : Prop := -9223372036854775808 ≤ n ∧ n ≤ 9223372036854775807
theorem rAdd_yes (a b : Int) (w : World) (ha : In64 a) (hb : In64 b) (h : In64 (a + b)) :
  CP 156 #[.int .i64 a, .int .i64 b] w fun e w' => e = .returned (.tuple #[.int .i64 (a + b), .bool true]) ∧ w = w' := by
 unfold In64 at ha hb h
 rcases Int.lt_trichotomy b 0 with h0 | h0 | h0
 ·have h1 : ¬ 0 < b := by omega
  have h2 : ¬ a < -9223372036854775808 - b := by omega
  go_enter Tryz.func156, Tryz.ntmps156
  go_wp2
  go_ret2
  exact ⟨rfl, rfl⟩
 ·subst h0
  go_enter Tryz.func156, Tryz.ntmps156
  go_wp2
  go_ret2
  exact ⟨by simp, rfl⟩
 ·have h1 : ¬ b < 0 := by omega
  have h2 : ¬ 9223372036854775807 - b < a := by omega
  go_enter Tryz.func156, Tryz.ntmps156
  go_wp2
  go_ret2
  exact ⟨rfl, rfl⟩
theorem rAdd_no (a b : Int) (w : World) (ha : In64 a) (hb : In64 b) (h : ¬ In64 (a + b)) :
  CP 156 #[.int .i64 a, .int .i64 b] w fun e w' => e = .returned (.tuple #[.int .i64 0, .bool false]) ∧ w = w' := by
 unfold In64 at ha hb h
 rcases Int.lt_trichotomy b 0 with h0 | h0 | h0
 ·have h1 : ¬ 0 < b := by omega
  have h2 : a < -9223372036854775808 - b := by omega
  go_enter Tryz.func156, Tryz.ntmps156
  go_wp2
  go_ret2
  exact ⟨rfl, rfl⟩
 ·omega
 ·have h1 : ¬ b < 0 := by omega
  have h2 : 9223372036854775807 - b < a := by omega
  go_enter Tryz.func156, Tryz.ntmps156
  go_wp2
  go_ret2
  exact ⟨rfl, rfl⟩
def in64B (n : Int) : Bool := decide (-9223372036854775808 ≤ n ∧ n ≤ 9223372036854775807)
theorem in64B_yes {n : Int} (h : In64 n) : in64B n = true := decide_eq_true h
theorem le_quo (x y M : Int) (hy : 0 < y) : x ≤ M / y ↔ x * y ≤ M := Int.le_ediv_iff_mul_le hy
theorem pp_iff (a b : Int) (ha : 0 < a) (hb : 0 < b) : a ≤ 9223372036854775807 / b ↔ In64 (a * b) := by
 have h := Int.mul_pos ha hb
 rw [le_quo _ _ _ hb]
 unfold In64
 omega
theorem neg_quo (x : Int) (hx : 0 < x) : wrap64 (-Int.tdiv 9223372036854775808 x) = -(9223372036854775808 / x) := by
 have e : Int.tdiv 9223372036854775808 x = 9223372036854775808 / x := Int.tdiv_eq_ediv_of_nonneg (by omega)
 have h1 := IntWalk.tdiv_le 9223372036854775808 x (by omega) (by omega)
 rw [e, IntWalk.wrap64_in]
 omega
theorem pn_iff (x y : Int) (hx : 0 < x) (hy : y < 0) : wrap64 (-Int.tdiv 9223372036854775808 x) ≤ y ↔ In64 (x * y) := by
 rw [neg_quo x hx]
 have h1 : -(9223372036854775808 / x) ≤ y ↔ -y ≤ 9223372036854775808 / x := by omega
 rw [h1, le_quo _ _ _ hx]
 have h2 := Int.mul_neg_of_pos_of_neg hx hy
 have h3 : -y * x = -(x * y) := by rw [Int.neg_mul, Int.mul_comm]
 rw [h3]
 unfold In64
 omega
theorem nn_quo (x : Int) (hx : x < 0) : wrap64 (Int.tdiv 9223372036854775807 x) = -(9223372036854775807 / -x) := by
 have e : Int.tdiv 9223372036854775807 x = -(9223372036854775807 / -x) := by
  have h := Int.tdiv_neg 9223372036854775807 (-x)
  rw [Int.neg_neg] at h
  rw [h, Int.tdiv_eq_ediv_of_nonneg (by omega)]
 have h1 := IntWalk.tdiv_le 9223372036854775807 (-x) (by omega) (by omega)
 rw [e, IntWalk.wrap64_in]
 omega
theorem nn_iff (x y : Int) (hx : x < 0) (hy : y < 0) : wrap64 (Int.tdiv 9223372036854775807 x) ≤ y ↔ In64 (x * y) := by
 rw [nn_quo x hx]
 have h1 : -(9223372036854775807 / -x) ≤ y ↔ -y ≤ 9223372036854775807 / -x := by omega
 rw [h1, le_quo _ _ _ (by omega)]
 have h2 := Int.mul_pos_of_neg_of_neg hx hy
 have h3 : -y * -x = x * y := by rw [Int.neg_mul_neg, Int.mul_comm]
 rw [h3]
 unfold In64
 omega
theorem in64_zero (x : Int) (h : x = 0) : In64 x := by subst h; unfold In64; omega
theorem i64_in {x : Int} (h : In64 x) : IntKind.i64.wrap x = x := IntWalk.i64_in x h
theorem not_lt_of {p q : Prop} {x y : Int} (h : x ≤ y ↔ p) (hp : p) : ¬ y < x := by
 have := h.2 hp
 omega
theorem lt_of {p : Prop} {x y : Int} (h : x ≤ y ↔ p) (hp : ¬ p) : y < x := by
 by_cases h1 : y < x
 ·exact h1
 ·exact absurd (h.1 (by omega)) hp
set_option maxRecDepth 10000 in
theorem rMul_zero (a b : Int) (w : World) (ha : In64 a) (hb : In64 b) (h : a = 0 ∨ b = 0) :
  CP 155 #[.int .i64 a, .int .i64 b] w fun e w' => e = .returned (.tuple #[.int .i64 (a * b), .bool true]) ∧ w = w' := by
 unfold In64 at ha hb
 by_cases h0 : a = 0
 ·subst h0
  go_enter Tryz.func155, Tryz.ntmps155
  go_wp2
  go_ret2
  exact ⟨by simp, rfl⟩
 ·obtain rfl : b = 0 := by omega
  have hz : (a == 0) = false := by simpa using h0
  clear h h0
  go_enter Tryz.func155, Tryz.ntmps155
  go_wp2
  go_ret2
  exact ⟨by simp, rfl⟩
set_option maxRecDepth 10000 in
theorem rMul_yes (a b : Int) (w : World) (ha : In64 a) (hb : In64 b) (h : In64 (a * b)) :
  CP 155 #[.int .i64 a, .int .i64 b] w fun e w' => e = .returned (.tuple #[.int .i64 (a * b), .bool true]) ∧ w = w' := by
 by_cases hz : a = 0 ∨ b = 0
 ·exact rMul_zero a b w ha hb hz
 have hw := i64_in h
 have ha0 : (a == 0) = false := by simp; omega
 have hb0 : (b == 0) = false := by simp; omega
 unfold In64 at ha hb
 rcases Int.lt_trichotomy a 0 with h0 | h0 | h0 <;> rcases Int.lt_trichotomy b 0 with h1 | h1 | h1
 ·have hn : ¬ 0 < b := by omega
  have hm : ¬ 0 < a := by omega
  have ht := not_lt_of (q := True) (nn_iff b a h1 h0) (by rw [Int.mul_comm]; exact h)
  clear h hz
  go_enter Tryz.func155, Tryz.ntmps155
  go_wp2
  go_ret2
  exact ⟨rfl, rfl⟩
 ·omega
 ·have hn : ¬ b < 0 := by omega
  have hm : ¬ 0 < a := by omega
  have ht := not_lt_of (q := True) (pn_iff b a h1 h0) (by rw [Int.mul_comm]; exact h)
  clear h hz
  go_enter Tryz.func155, Tryz.ntmps155
  go_wp2
  go_ret2
  exact ⟨rfl, rfl⟩
 ·omega
 ·omega
 ·omega
 ·have hn : ¬ 0 < b := by omega
  have hm : ¬ a < 0 := by omega
  have ht := not_lt_of (q := True) (pn_iff a b h0 h1) h
  clear h hz
  go_enter Tryz.func155, Tryz.ntmps155
  go_wp2
  go_ret2
  exact ⟨rfl, rfl⟩
 ·omega
 ·have hn : ¬ b < 0 := by omega
  have hm : ¬ a < 0 := by omega
  have ht := not_lt_of (q := True) (pp_iff a b h0 h1) h
  clear h hz
  go_enter Tryz.func155, Tryz.ntmps155
  go_wp2
  go_ret2
  exact ⟨rfl, rfl⟩
set_option maxRecDepth 10000 in
theorem rMul_no (a b : Int) (w : World) (ha : In64 a) (hb : In64 b) (h : ¬ In64 (a * b)) :
  CP 155 #[.int .i64 a, .int .i64 b] w fun e w' => e = .returned (.tuple #[.int .i64 0, .bool false]) ∧ w = w' := by
 have hza : a ≠ 0 := fun e => h (in64_zero _ (by rw [e]; simp))
 have hzb : b ≠ 0 := fun e => h (in64_zero _ (by rw [e]; simp))
 have ha0 : (a == 0) = false := by simpa using hza
 have hb0 : (b == 0) = false := by simpa using hzb
 unfold In64 at ha hb
 rcases Int.lt_trichotomy a 0 with h0 | h0 | h0 <;> rcases Int.lt_trichotomy b 0 with h1 | h1 | h1
 ·have hn : ¬ 0 < b := by omega
  have hm : ¬ 0 < a := by omega
  have ht := lt_of (nn_iff b a h1 h0) (by rw [Int.mul_comm]; exact h)
  clear h hza hzb
  go_enter Tryz.func155, Tryz.ntmps155
  go_wp2
  go_ret2
  exact ⟨rfl, rfl⟩
 ·omega
 ·have hn : ¬ b < 0 := by omega
  have hm : ¬ 0 < a := by omega
  have ht := lt_of (pn_iff b a h1 h0) (by rw [Int.mul_comm]; exact h)
  clear h hza hzb
  go_enter Tryz.func155, Tryz.ntmps155
  go_wp2
  go_ret2
  exact ⟨rfl, rfl⟩
 ·omega
 ·omega
 ·omega
 ·have hn : ¬ 0 < b := by omega
  have hm : ¬ a < 0 := by omega
  have ht := lt_of (pn_iff a b h0 h1) h
  clear h hza hzb
  go_enter Tryz.func155, Tryz.ntmps155
  go_wp2
  go_ret2
  exact ⟨rfl, rfl⟩
 ·omega
 ·have hn : ¬ b < 0 := by omega
  have hm : ¬ a < 0 := by omega
  have ht := lt_of (pp_iff a b h0 h1) h
  clear h hza hzb
  go_enter Tryz.func155, Tryz.ntmps155
  go_wp2
  go_ret2
  exact ⟨rfl, rfl⟩
theorem in64B_of {n : Int} (h : in64B n = true) : In64 n := by
 unfold in64B at h
 unfold In64
 exact of_decide_eq_true h
def Digs (l : List UInt8) : Prop := ∀ c ∈ l, 48 ≤ c.toNat ∧ c.toNat ≤ 57
def numL : Int → List UInt8 → Option Int
 | t, [] => some t
 | t, c :: r => if in64B (t * 10) = true then (if in64B (t * 10 + ((c.toNat : Int) - 48)) = true then numL (t * 10 + ((c.toNat : Int) - 48)) r else none) else none
def fit63 : Lib.NumEnd Nat → Option Int
 | .ok v => if 9223372036854775808 ≤ v then none else some (v : Int)
 | _ => none
theorem big_none : ∀ (l : List UInt8) (acc : Nat), Digs l → 9223372036854775808 ≤ acc → fit63 (Lib.parseUintM (2 ^ 64 - 1) acc l) = none
 | [], acc, _, h => by
  unfold Lib.parseUintM fit63
  simp [h]
 | c :: l, acc, hd, h => by
  unfold Lib.parseUintM
  rw [if_pos (hd c (by simp))]
  split
  ·rfl
  ·split
   ·rfl
   ·have := hd c (by simp)
    exact big_none l _ (fun x hx => hd x (by simp [hx])) (by omega)
theorem numL_eq : ∀ (l : List UInt8) (acc : Nat), Digs l → acc < 9223372036854775808 → numL (acc : Int) l = fit63 (Lib.parseUintM (2 ^ 64 - 1) acc l)
 | [], acc, _, h => by
  unfold Lib.parseUintM fit63 numL
  simp [show ¬ 9223372036854775808 ≤ acc by omega]
 | c :: l, acc, hd, h => by
  have hc := hd c (by simp)
  have hl : Digs l := fun x hx => hd x (by simp [hx])
  unfold Lib.parseUintM numL
  rw [if_pos hc]
  have e1 : (acc : Int) * 10 + ((c.toNat : Int) - 48) = ((acc * 10 + (c.toNat - 48) : Nat) : Int) := by omega
  rw [e1]
  by_cases h1 : in64B ((acc : Int) * 10) = true
  ·have h1' : In64 ((acc : Int) * 10) := in64B_of h1
   unfold In64 at h1'
   rw [if_pos h1]
   by_cases h2 : in64B ((acc * 10 + (c.toNat - 48) : Nat) : Int) = true
   ·have h2' : In64 ((acc * 10 + (c.toNat - 48) : Nat) : Int) := in64B_of h2
    unfold In64 at h2'
    rw [if_pos h2]
    rw [numL_eq l _ hl (by omega)]
    split
    ·exfalso; omega
    ·split
     ·exfalso; omega
     ·congr 1
   ·rw [if_neg h2]
    have h2' : ¬ In64 ((acc * 10 + (c.toNat - 48) : Nat) : Int) := fun h => h2 (in64B_yes h)
    unfold In64 at h2'
    split
    ·rfl
    ·split
     ·rfl
     ·exact (big_none l _ hl (by omega)).symm
  ·rw [if_neg h1]
   have h1' : ¬ In64 ((acc : Int) * 10) := fun h => h1 (in64B_yes h)
   unfold In64 at h1'
   split
   ·rfl
   ·split
    ·rfl
    ·exact (big_none l _ hl (by omega)).symm
theorem numL_numB {s : ByteArray} (h : Digits s) : numL 0 s.data.toList = numB s := by
 obtain ⟨h1, h2⟩ := h
 rw [show (0 : Int) = ((0 : Nat) : Int) from rfl, numL_eq _ 0 h2 (by omega)]
 unfold numB
 cases hl : s.data.toList with
 | nil => exact absurd hl h1
 | cons c r =>
  rw [hl] at h2
  have hc := h2 c (by simp)
  unfold Lib.parseIntB Lib.parseUintB
  simp only
  have e43 : ¬ (c.toNat = 43 ∨ c.toNat = 45) := by omega
  have e45 : ¬ (c.toNat = 45) := by omega
  rw [if_neg e43, if_neg (List.cons_ne_nil _ _)]
  rcases uint_dig (2 ^ 64 - 1) (c :: r) 0 h2 with ⟨u, hu⟩ | hu
  ·rw [hu]
   simp only [fit63, e45]
   by_cases hb : 9223372036854775808 ≤ u
   ·simp [hb]
   ·simp [hb]
  ·rw [hu]
   rfl
end Go.Proofs.YtmnggldejflooaaGreatDoor
