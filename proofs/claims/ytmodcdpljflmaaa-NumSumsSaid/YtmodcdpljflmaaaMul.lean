/-
  CONTRACTS OF 'num.productFits', 'num.Mul', 'num.Sum', 'blazonref01.Add', 'blazonref01.Mul'.
-/
import Derived.Test.YtmodcdpljflmaaaAdd
import Derived.Test.YtmodcdpljflmaaaSame
namespace Go.Proofs.Ytmodcdpljflmaaa
set_option linter.unusedVariables false
set_option linter.unusedSimpArgs false
open Go.RowKit

set_option maxHeartbeats 400000 in
theorem rAdd_yes (a b : Int) (w : World) (ha : In64 a) (hb : In64 b) (h : In64 (a + b)) :
    Calls Try.prog 22 #[.int .i64 a, .int .i64 b] w fun e w' => e = .returned (.tuple #[.int .i64 (a + b), .bool true]) ∧ w = w' := by
  unfold In64 at ha hb h
  rcases Int.lt_trichotomy b 0 with h0 | h0 | h0
  · have h1 : ¬ 0 < b := by omega
    have h2 : ¬ a < -9223372036854775808 - b := by omega
    go_enter Try.func22, Try.ntmps22
    go_wp2
    go_ret2
    exact ⟨rfl, rfl⟩
  · subst h0
    go_enter Try.func22, Try.ntmps22
    go_wp2
    go_ret2
    exact ⟨by simp, rfl⟩
  · have h1 : ¬ b < 0 := by omega
    have h2 : ¬ 9223372036854775807 - b < a := by omega
    go_enter Try.func22, Try.ntmps22
    go_wp2
    go_ret2
    exact ⟨rfl, rfl⟩

set_option maxHeartbeats 400000 in
theorem rAdd_no (a b : Int) (w : World) (ha : In64 a) (hb : In64 b) (h : ¬ In64 (a + b)) :
    Calls Try.prog 22 #[.int .i64 a, .int .i64 b] w fun e w' => e = .returned (.tuple #[.int .i64 0, .bool false]) ∧ w = w' := by
  unfold In64 at ha hb h
  rcases Int.lt_trichotomy b 0 with h0 | h0 | h0
  · have h1 : ¬ 0 < b := by omega
    have h2 : a < -9223372036854775808 - b := by omega
    go_enter Try.func22, Try.ntmps22
    go_wp2
    go_ret2
    exact ⟨rfl, rfl⟩
  · omega
  · have h1 : ¬ b < 0 := by omega
    have h2 : 9223372036854775807 - b < a := by omega
    go_enter Try.func22, Try.ntmps22
    go_wp2
    go_ret2
    exact ⟨rfl, rfl⟩

/-- Does it fit 64 bits with a sign? -/
def in64B (n : Int) : Bool := decide (-9223372036854775808 ≤ n ∧ n ≤ 9223372036854775807)
theorem in64B_yes {n : Int} (h : In64 n) : in64B n = true := decide_eq_true h
theorem in64B_no {n : Int} (h : ¬ In64 n) : in64B n = false := decide_eq_false h
theorem in64B_iff {p : Prop} [Decidable p] {n : Int} (h : p ↔ In64 n) : decide p = in64B n := decide_eq_decide.2 h

theorem le_quo (x y M : Int) (hy : 0 < y) : x ≤ M / y ↔ x * y ≤ M := Int.le_ediv_iff_mul_le hy

theorem pp_iff (a b : Int) (ha : 0 < a) (hb : 0 < b) : a ≤ 9223372036854775807 / b ↔ In64 (a * b) := by
  have h := Int.mul_pos ha hb
  rw [le_quo _ _ _ hb]
  unfold In64
  omega

theorem neg_quo (x : Int) (hx : 0 < x) : wrap64 (-Int.tdiv 9223372036854775808 x) = -(9223372036854775808 / x) := by
  have e : Int.tdiv 9223372036854775808 x = 9223372036854775808 / x := Int.tdiv_eq_ediv_of_nonneg (by omega)
  have h1 := IntWalk.tdiv_le 9223372036854775808 x (by omega) (by omega)
  rw [e, IntWalk.wrap64_in]
  omega

theorem pn_iff (x y : Int) (hx : 0 < x) (hy : y < 0) : wrap64 (-Int.tdiv 9223372036854775808 x) ≤ y ↔ In64 (x * y) := by
  rw [neg_quo x hx]
  have h1 : -(9223372036854775808 / x) ≤ y ↔ -y ≤ 9223372036854775808 / x := by omega
  rw [h1, le_quo _ _ _ hx]
  have h2 := Int.mul_neg_of_pos_of_neg hx hy
  have h3 : -y * x = -(x * y) := by rw [Int.neg_mul, Int.mul_comm]
  rw [h3]
  unfold In64
  omega

theorem nn_quo (x : Int) (hx : x < 0) : wrap64 (Int.tdiv 9223372036854775807 x) = -(9223372036854775807 / -x) := by
  have e : Int.tdiv 9223372036854775807 x = -(9223372036854775807 / -x) := by
    have h := Int.tdiv_neg 9223372036854775807 (-x)
    rw [Int.neg_neg] at h
    rw [h, Int.tdiv_eq_ediv_of_nonneg (by omega)]
  have h1 := IntWalk.tdiv_le 9223372036854775807 (-x) (by omega) (by omega)
  rw [e, IntWalk.wrap64_in]
  omega

theorem nn_iff (x y : Int) (hx : x < 0) (hy : y < 0) : wrap64 (Int.tdiv 9223372036854775807 x) ≤ y ↔ In64 (x * y) := by
  rw [nn_quo x hx]
  have h1 : -(9223372036854775807 / -x) ≤ y ↔ -y ≤ 9223372036854775807 / -x := by omega
  rw [h1, le_quo _ _ _ (by omega)]
  have h2 := Int.mul_pos_of_neg_of_neg hx hy
  have h3 : -y * -x = x * y := by rw [Int.neg_mul_neg, Int.mul_comm]
  rw [h3]
  unfold In64
  omega

theorem in64_zero (x : Int) (h : x = 0) : In64 x := by subst h; unfold In64; omega

set_option maxHeartbeats 800000 in
theorem fits_any (a b : Int) (w : World) (ha : In64 a) (hb : In64 b) :
    Calls Try.prog 26 #[.int .i64 a, .int .i64 b] w fun e w' => e = .returned (.bool (in64B (a * b))) ∧ w = w' := by
  unfold In64 at ha hb
  rcases Int.lt_trichotomy a 0 with h0 | h0 | h0 <;> rcases Int.lt_trichotomy b 0 with h1 | h1 | h1
  · have hn : ¬ 0 < b := by omega
    have hm : ¬ 0 < a := by omega
    go_enter Try.func26, Try.ntmps26
    go_wp2
    go_ret
    exact ⟨ret_bool (in64B_iff (nn_iff a b h0 h1)), rfl⟩
  · subst h1
    have hm : ¬ 0 < a := by omega
    go_enter Try.func26, Try.ntmps26
    go_wp2
    go_ret
    exact ⟨ret_bool (in64B_yes (in64_zero _ (by simp))).symm, rfl⟩
  · have hn : ¬ b < 0 := by omega
    have hm : ¬ 0 < a := by omega
    go_enter Try.func26, Try.ntmps26
    go_wp2
    go_ret
    exact ⟨ret_bool (in64B_iff (n := a * b) (by rw [Int.mul_comm]; exact pn_iff b a h1 h0)), rfl⟩
  · subst h0
    have hm : ¬ 0 < b := by omega
    go_enter Try.func26, Try.ntmps26
    go_wp2
    go_ret
    exact ⟨ret_bool (in64B_yes (in64_zero _ (by simp))).symm, rfl⟩
  · subst h0
    subst h1
    go_enter Try.func26, Try.ntmps26
    go_wp2
    go_ret
    exact ⟨ret_bool (in64B_yes (in64_zero _ (by simp))).symm, rfl⟩
  · subst h0
    have hm : ¬ b < 0 := by omega
    go_enter Try.func26, Try.ntmps26
    go_wp2
    go_ret
    exact ⟨ret_bool (in64B_yes (in64_zero _ (by simp))).symm, rfl⟩
  · have hn : ¬ 0 < b := by omega
    have hm : ¬ a < 0 := by omega
    go_enter Try.func26, Try.ntmps26
    go_wp2
    go_ret
    exact ⟨ret_bool (in64B_iff (pn_iff a b h0 h1)), rfl⟩
  · subst h1
    have hm : ¬ a < 0 := by omega
    go_enter Try.func26, Try.ntmps26
    go_wp2
    go_ret
    exact ⟨ret_bool (in64B_yes (in64_zero _ (by simp))).symm, rfl⟩
  · have hn : ¬ b < 0 := by omega
    have hm : ¬ a < 0 := by omega
    go_enter Try.func26, Try.ntmps26
    go_wp2
    go_ret
    exact ⟨ret_bool (in64B_iff (pp_iff a b h0 h1)), rfl⟩

theorem i64_in {x : Int} (h : In64 x) : IntKind.i64.wrap x = x := IntWalk.i64_in x h

set_option maxHeartbeats 800000 in
theorem mul_yes (a b : Int) (w : World) (ha : In64 a) (hb : In64 b) (h : In64 (a * b)) :
    Calls Try.prog 21 #[.int .i64 a, .int .i64 b] w fun e w' => e = .returned (.tuple #[.int .i64 (a * b), .int .i64 0]) ∧ w = w' := by
  have hd := in64B_yes h
  have hi := i64_in h
  go_enter Try.func21, Try.ntmps21
  go_wp2_with fail
  refine (fits_any a b w ha hb).mono ?_
  rintro e w' ⟨rfl, rfl⟩
  go_wp2
  go_ret2
  exact ⟨rfl, rfl⟩

set_option maxHeartbeats 800000 in
theorem mul_no (a b : Int) (w : World) (ha : In64 a) (hb : In64 b) (h : ¬ In64 (a * b)) :
    Calls Try.prog 21 #[.int .i64 a, .int .i64 b] w fun e w' => e = .returned (.tuple #[.int .i64 0, .int .i64 18]) ∧ w = w' := by
  have hd := in64B_no h
  clear h
  go_enter Try.func21, Try.ntmps21
  go_wp2_with fail
  refine (fits_any a b w ha hb).mono ?_
  rintro e w' ⟨rfl, rfl⟩
  go_wp2
  go_ret2
  exact ⟨rfl, rfl⟩

theorem not_lt_of {p q : Prop} {x y : Int} (h : x ≤ y ↔ p) (hp : p) : ¬ y < x := by
  have := h.2 hp
  omega
theorem lt_of {p : Prop} {x y : Int} (h : x ≤ y ↔ p) (hp : ¬ p) : y < x := by
  by_cases h1 : y < x
  · exact h1
  · exact absurd (h.1 (by omega)) hp

set_option maxRecDepth 10000 in
set_option maxHeartbeats 1600000 in
theorem rMul_zero (a b : Int) (w : World) (ha : In64 a) (hb : In64 b) (h : a = 0 ∨ b = 0) :
    Calls Try.prog 23 #[.int .i64 a, .int .i64 b] w fun e w' => e = .returned (.tuple #[.int .i64 (a * b), .bool true]) ∧ w = w' := by
  unfold In64 at ha hb
  by_cases h0 : a = 0
  · subst h0
    go_enter Try.func23, Try.ntmps23
    go_wp2
    go_ret2
    exact ⟨by simp, rfl⟩
  · obtain rfl : b = 0 := by omega
    have hz : (a == 0) = false := by simpa using h0
    clear h h0
    go_enter Try.func23, Try.ntmps23
    go_wp2
    go_ret2
    exact ⟨by simp, rfl⟩

set_option maxRecDepth 10000 in
set_option maxHeartbeats 1600000 in
theorem rMul_yes (a b : Int) (w : World) (ha : In64 a) (hb : In64 b) (h : In64 (a * b)) :
    Calls Try.prog 23 #[.int .i64 a, .int .i64 b] w fun e w' => e = .returned (.tuple #[.int .i64 (a * b), .bool true]) ∧ w = w' := by
  by_cases hz : a = 0 ∨ b = 0
  · exact rMul_zero a b w ha hb hz
  have hw := i64_in h
  have ha0 : (a == 0) = false := by simp; omega
  have hb0 : (b == 0) = false := by simp; omega
  unfold In64 at ha hb
  rcases Int.lt_trichotomy a 0 with h0 | h0 | h0 <;> rcases Int.lt_trichotomy b 0 with h1 | h1 | h1
  · have hn : ¬ 0 < b := by omega
    have hm : ¬ 0 < a := by omega
    have ht := not_lt_of (q := True) (nn_iff b a h1 h0) (by rw [Int.mul_comm]; exact h)
    clear h hz
    go_enter Try.func23, Try.ntmps23
    go_wp2
    go_ret2
    exact ⟨rfl, rfl⟩
  · omega
  · have hn : ¬ b < 0 := by omega
    have hm : ¬ 0 < a := by omega
    have ht := not_lt_of (q := True) (pn_iff b a h1 h0) (by rw [Int.mul_comm]; exact h)
    clear h hz
    go_enter Try.func23, Try.ntmps23
    go_wp2
    go_ret2
    exact ⟨rfl, rfl⟩
  · omega
  · omega
  · omega
  · have hn : ¬ 0 < b := by omega
    have hm : ¬ a < 0 := by omega
    have ht := not_lt_of (q := True) (pn_iff a b h0 h1) h
    clear h hz
    go_enter Try.func23, Try.ntmps23
    go_wp2
    go_ret2
    exact ⟨rfl, rfl⟩
  · omega
  · have hn : ¬ b < 0 := by omega
    have hm : ¬ a < 0 := by omega
    have ht := not_lt_of (q := True) (pp_iff a b h0 h1) h
    clear h hz
    go_enter Try.func23, Try.ntmps23
    go_wp2
    go_ret2
    exact ⟨rfl, rfl⟩

set_option maxRecDepth 10000 in
set_option maxHeartbeats 1600000 in
theorem rMul_no (a b : Int) (w : World) (ha : In64 a) (hb : In64 b) (h : ¬ In64 (a * b)) :
    Calls Try.prog 23 #[.int .i64 a, .int .i64 b] w fun e w' => e = .returned (.tuple #[.int .i64 0, .bool false]) ∧ w = w' := by
  have hza : a ≠ 0 := fun e => h (in64_zero _ (by rw [e]; simp))
  have hzb : b ≠ 0 := fun e => h (in64_zero _ (by rw [e]; simp))
  have ha0 : (a == 0) = false := by simpa using hza
  have hb0 : (b == 0) = false := by simpa using hzb
  unfold In64 at ha hb
  rcases Int.lt_trichotomy a 0 with h0 | h0 | h0 <;> rcases Int.lt_trichotomy b 0 with h1 | h1 | h1
  · have hn : ¬ 0 < b := by omega
    have hm : ¬ 0 < a := by omega
    have ht := lt_of (nn_iff b a h1 h0) (by rw [Int.mul_comm]; exact h)
    clear h hza hzb
    go_enter Try.func23, Try.ntmps23
    go_wp2
    go_ret2
    exact ⟨rfl, rfl⟩
  · omega
  · have hn : ¬ b < 0 := by omega
    have hm : ¬ 0 < a := by omega
    have ht := lt_of (pn_iff b a h1 h0) (by rw [Int.mul_comm]; exact h)
    clear h hza hzb
    go_enter Try.func23, Try.ntmps23
    go_wp2
    go_ret2
    exact ⟨rfl, rfl⟩
  · omega
  · omega
  · omega
  · have hn : ¬ 0 < b := by omega
    have hm : ¬ a < 0 := by omega
    have ht := lt_of (pn_iff a b h0 h1) h
    clear h hza hzb
    go_enter Try.func23, Try.ntmps23
    go_wp2
    go_ret2
    exact ⟨rfl, rfl⟩
  · omega
  · have hn : ¬ b < 0 := by omega
    have hm : ¬ a < 0 := by omega
    have ht := lt_of (pp_iff a b h0 h1) h
    clear h hza hzb
    go_enter Try.func23, Try.ntmps23
    go_wp2
    go_ret2
    exact ⟨rfl, rfl⟩

/-- The sum of all, one behind the other, behind t; none where one of these sums is too great. -/
def sums : Int → List Int → Option Int
  | t, [] => some t
  | t, x :: r => if in64B (t + x) = true then sums (t + x) r else none

/-- Numbers of 64 bits with a sign, as cells. -/
def i64s (l : List Int) : List Value := l.map (Value.int .i64)
theorem Sh.i64 {w : World} {B n : Nat} {A : Option Addr} {l : List Int} (h : Sh w B A n (i64s l)) {k : Nat} (hk : k < n) :
    ∃ b off, A = some ⟨b, off, none⟩ ∧ b < B ∧ w.cell? ⟨b, off + k, none⟩ = some (.int .i64 (l.getD k 0)) := by
  obtain ⟨b, off, u, e, hb, hu, hc⟩ := h.at hk
  refine ⟨b, off, e, hb, hc.trans ?_⟩
  rw [i64s, List.getElem?_map] at hu
  obtain ⟨x, hx, rfl⟩ := Option.map_eq_some_iff.1 hu
  simp [hx]
def Ints (l : List Int) : Prop := ∀ x ∈ l, In64 x
theorem Ints.get {l : List Int} (h : Ints l) {k : Nat} (hk : k < l.length) : In64 (l.getD k 0) := by
  have e : l.getD k 0 = l[k] := by simp [hk]
  rw [e]
  exact h _ (List.getElem_mem hk)
theorem drop_at (l : List Int) (k : Nat) (h : k < l.length) : l.drop k = l.getD k 0 :: l.drop (k + 1) := by
  rw [List.drop_eq_getElem_cons h]; simp [h]

def retS (g : Option Int) : Ending := match g with
  | some v => .returned (.tuple #[.int .i64 v, .int .i64 0])
  | none => .returned (.tuple #[.int .i64 0, .int .i64 18])
theorem retS_some {g : Option Int} {v : Int} (h : g = some v) : retS g = .returned (.tuple #[.int .i64 v, .int .i64 0]) := by rw [h]; rfl
theorem retS_none {g : Option Int} (h : g = none) : retS g = .returned (.tuple #[.int .i64 0, .int .i64 18]) := by rw [h]; rfl

set_option maxRecDepth 10000 in
set_option maxHeartbeats 800000 in
theorem sum_any (A : Option Addr) (n c : Nat) (xs : List Int) (w : World) (U : Nat) (hx : Sh w U A n (i64s xs)) (hn : n ≤ 1000000) (hw : Ints xs) :
    Calls Try.prog 24 #[.slice A n c] w fun e w' => e = retS (sums 0 xs) ∧ w = w' := by
  have hnl : xs.length = n := by have := hx.len; simpa [i64s] using this
  go_enter Try.func24, Try.ntmps24
  go_wp2
  go_loop [4, 11] (fun t i => ∃ (k : Nat) (v : Int), k ≤ n ∧ i = .int .i64 k ∧ t = .int .i64 v ∧ In64 v ∧ sums v (xs.drop k) = sums 0 xs) (fun _ i => n - (intOf i).toNat)
  case atStart => exact ⟨0, 0, Nat.zero_le _, rfl, rfl, in64_zero _ rfl, rfl⟩
  case round =>
    obtain ⟨k, v, hk, rfl, rfl, hv, hs⟩ := hrel
    have HN := Lib.hid hnl
    clear hnl
    by_cases hlt : k < n
    · obtain ⟨b, off, rfl, hb, hc⟩ := hx.i64 hlt
      have hd := drop_at xs k (by rw [HN.out]; exact hlt)
      have hby := hw.get (k := k) (by rw [HN.out]; exact hlt)
      obtain ⟨x, hx0⟩ : ∃ x, x = xs.getD k 0 := ⟨_, rfl⟩
      rw [← hx0] at hc hd hby
      clear hx0
      rw [hd] at hs
      have HS := Lib.hid hs
      clear hs hd
      go_wp2_with fail
      by_cases hf : In64 (v + x)
      · have HS2 : Hid (sums (v + x) (xs.drop (k + 1)) = sums 0 xs) := Lib.hid (by have := HS.out; rwa [sums, if_pos (in64B_yes hf)] at this)
        refine (add_yes v x w hv hby hf).mono ?_
        rintro e w' ⟨rfl, rfl⟩
        have HF := Lib.hid hf
        go_wp2
        go_round
        case rel => exact ⟨k + 1, v + x, by omega, by go_num, rfl, HF.out, HS2.out⟩
        case measure => simp [intOf]; omega
      · have HS2 : Hid (sums 0 xs = none) := Lib.hid (by have := HS.out; rw [sums, if_neg (by rw [in64B_no hf]; simp)] at this; exact this.symm)
        refine (add_no v x w hv hby hf).mono ?_
        rintro e w' ⟨rfl, rfl⟩
        go_wp2
        go_ret2
        exact ⟨(retS_none HS2.out).symm, rfl⟩
    · obtain rfl : k = n := by omega
      rw [List.drop_eq_nil_of_le (by rw [HN.out]; exact Nat.le_refl _)] at hs
      have HS := Lib.hid hs
      clear hs
      go_wp2
      go_ret2
      exact ⟨(retS_some HS.out.symm).symm, rfl⟩

theorem sum_some (A : Option Addr) (n c : Nat) (xs : List Int) (w : World) (U : Nat) (v : Int) (hx : Sh w U A n (i64s xs)) (hn : n ≤ 1000000) (hw : Ints xs) (h : sums 0 xs = some v) :
    Calls Try.prog 24 #[.slice A n c] w fun e w' => e = .returned (.tuple #[.int .i64 v, .int .i64 0]) ∧ w = w' :=
  (sum_any A n c xs w U hx hn hw).mono fun _ _ ⟨he, hq⟩ => ⟨he.trans (retS_some h), hq⟩
theorem sum_none (A : Option Addr) (n c : Nat) (xs : List Int) (w : World) (U : Nat) (hx : Sh w U A n (i64s xs)) (hn : n ≤ 1000000) (hw : Ints xs) (h : sums 0 xs = none) :
    Calls Try.prog 24 #[.slice A n c] w fun e w' => e = .returned (.tuple #[.int .i64 0, .int .i64 18]) ∧ w = w' :=
  (sum_any A n c xs w U hx hn hw).mono fun _ _ ⟨he, hq⟩ => ⟨he.trans (retS_none h), hq⟩
end Go.Proofs.Ytmodcdpljflmaaa
