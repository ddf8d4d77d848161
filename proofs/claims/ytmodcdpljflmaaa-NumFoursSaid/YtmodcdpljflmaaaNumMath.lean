/-
  NUMBERS AS BYTES, plain: the short form, and how it is read; no Go here.
-/
namespace Go.Proofs.Ytmodcdpljflmaaa
set_option linter.unusedVariables false
set_option linter.unusedSimpArgs false

/-- The short form of n: its digits to the base 128, the least one first, each 128 more but for the last one. -/
def short (n : Nat) : List Int := if n < 128 then [(n : Int)] else ((n % 128 + 128 : Nat) : Int) :: short (n / 128)
termination_by n
decreasing_by omega

theorem short_lt {n : Nat} (h : n < 128) : short n = [(n : Int)] := by rw [short, if_pos h]
theorem short_ge {n : Nat} (h : ¬ n < 128) : short n = ((n % 128 + 128 : Nat) : Int) :: short (n / 128) := by rw [short, if_neg h]

theorem short_pos (n : Nat) : 1 ≤ (short n).length := by
  by_cases h : n < 128
  · rw [short_lt h]; simp
  · rw [short_ge h]; simp

theorem short_mono (a : Nat) : ∀ b, a ≤ b → (short a).length ≤ (short b).length := by
  induction a using Nat.strongRecOn with
  | ind a ih =>
    intro b hab
    by_cases ha : a < 128
    · rw [short_lt ha]; simpa using short_pos b
    · rw [short_ge ha, short_ge (by omega : ¬ b < 128)]
      have := ih (a / 128) (by omega) (b / 128) (by omega)
      simpa using this

theorem short_inj (a : Nat) : ∀ b, short a = short b → a = b := by
  induction a using Nat.strongRecOn with
  | ind a ih =>
    intro b h
    by_cases ha : a < 128 <;> by_cases hb : b < 128
    · rw [short_lt ha, short_lt hb] at h
      simp at h; omega
    · rw [short_lt ha, short_ge hb] at h
      simp only [List.cons.injEq] at h
      omega
    · rw [short_ge ha, short_lt hb] at h
      simp only [List.cons.injEq] at h
      omega
    · rw [short_ge ha, short_ge hb] at h
      simp only [List.cons.injEq] at h
      have := ih (a / 128) (by omega) _ h.2
      omega

theorem short_le (k : Nat) : ∀ n, n < 128 ^ (k + 1) → (short n).length ≤ k + 1 := by
  induction k with
  | zero => intro n h; rw [short_lt (by simpa using h)]; simp
  | succ k ih =>
    intro n h
    by_cases hn : n < 128
    · rw [short_lt hn]; simp
    · rw [short_ge hn]
      have : n / 128 < 128 ^ (k + 1) := by
        rw [Nat.div_lt_iff_lt_mul (by omega)]
        rw [Nat.pow_succ] at h
        exact h
      have := ih _ this
      simp; omega

theorem short_ten {n : Nat} (h : n < 18446744073709551616) : (short n).length ≤ 10 :=
  short_le 9 n (Nat.lt_of_lt_of_le h (by decide))

/-- What is read from place i on, behind the number acc: the number, how many bytes, an error. -/
def gets : List Int → Nat → Nat → Nat × Nat × Nat
  | [], _, _ => (0, 0, 2)
  | c :: r, i, acc =>
    if 10 ≤ i ∨ i = 9 ∧ 1 < c.toNat % 128 then (0, 0, 4)
    else if c.toNat < 128 then
      if c.toNat % 128 = 0 ∧ 0 < i then (0, 0, 4) else (acc + c.toNat % 128 * 128 ^ i, i + 1, 0)
    else gets r (i + 1) (acc + c.toNat % 128 * 128 ^ i)

theorem gets_short (n : Nat) : ∀ (i acc : Nat) (more : List Int), n * 128 ^ i < 18446744073709551616 → i ≤ 9 → (0 < n ∨ i = 0) →
    gets (short n ++ more) i acc = (acc + n * 128 ^ i, i + (short n).length, 0) := by
  induction n using Nat.strongRecOn with
  | ind n ih =>
    intro i acc more hn hi h0
    have h9 : i = 9 → n ≤ 1 := by
      rintro rfl
      have e : (128 : Nat) ^ 9 = 9223372036854775808 := by decide
      rw [e] at hn
      omega
    by_cases h : n < 128
    · rw [short_lt h]
      simp only [List.cons_append, List.nil_append, gets, Int.toNat_natCast, List.length_singleton]
      have hm : n % 128 = n := by omega
      rw [hm, if_neg (by omega), if_pos h, if_neg (by omega)]
    · rw [short_ge h]
      simp only [List.cons_append, gets, Int.toNat_natCast, List.length_cons]
      have hm : (n % 128 + 128) % 128 = n % 128 := by omega
      have hi9 : i ≠ 9 := fun e => by have := h9 e; omega
      rw [hm, if_neg (by omega), if_neg (by omega)]
      have hp : 128 ^ (i + 1) = 128 ^ i * 128 := Nat.pow_succ ..
      have hs : n / 128 * 128 ^ (i + 1) + n % 128 * 128 ^ i = n * 128 ^ i := by
        have e : n = n / 128 * 128 + n % 128 := by omega
        calc n / 128 * 128 ^ (i + 1) + n % 128 * 128 ^ i = (n / 128 * 128 + n % 128) * 128 ^ i := by
              rw [hp, Nat.add_mul, Nat.mul_assoc, Nat.mul_comm 128 (128 ^ i)]
          _ = n * 128 ^ i := by rw [← e]
      rw [ih (n / 128) (by omega) (i + 1) _ more (by omega) (by omega) (.inl (by omega))]
      have e1 : acc + n % 128 * 128 ^ i + n / 128 * 128 ^ (i + 1) = acc + n * 128 ^ i := by omega
      rw [e1]
      simp only [Prod.mk.injEq, and_true, true_and]
      omega

/-- A beginning of a short form that isn't all of it is too short. -/
theorem gets_cut (n : Nat) : ∀ (i acc k : Nat), n * 128 ^ i < 18446744073709551616 → i ≤ 9 → k < (short n).length →
    gets ((short n).take k) i acc = (0, 0, 2) := by
  induction n using Nat.strongRecOn with
  | ind n ih =>
    intro i acc k hn hi hk
    by_cases h : n < 128
    · rw [short_lt h] at hk ⊢
      obtain rfl : k = 0 := by simpa using hk
      rfl
    · rw [short_ge h] at hk ⊢
      cases k with
      | zero => rfl
      | succ k =>
        have h9 : i ≠ 9 := by
          rintro rfl
          have e : (128 : Nat) ^ 9 = 9223372036854775808 := by decide
          rw [e] at hn
          omega
        simp only [List.take_succ_cons, gets, Int.toNat_natCast]
        have hm : (n % 128 + 128) % 128 = n % 128 := by omega
        rw [hm, if_neg (by omega), if_neg (by omega)]
        have hp : 128 ^ (i + 1) = 128 ^ i * 128 := Nat.pow_succ ..
        refine ih (n / 128) (by omega) (i + 1) _ k ?_ (by omega) (by simpa using hk)
        have : n / 128 * 128 ^ (i + 1) ≤ n * 128 ^ i := by
          rw [hp, ← Nat.mul_assoc, Nat.mul_right_comm]
          exact Nat.mul_le_mul_right _ (by omega)
        omega

theorem gets_back {n : Nat} (h : n < 18446744073709551616) (more : List Int) : gets (short n ++ more) 0 0 = (n, (short n).length, 0) := by
  have := gets_short n 0 0 more (by simpa using h) (by omega) (.inr rfl)
  simpa using this
theorem gets_less {n : Nat} (h : n < 18446744073709551616) {k : Nat} (hk : k < (short n).length) : gets ((short n).take k) 0 0 = (0, 0, 2) :=
  gets_cut n 0 0 k (by simpa using h) (by omega) hk
theorem short_bytes (n : Nat) : ∀ x ∈ short n, 0 ≤ x ∧ x ≤ 255 := by
  induction n using Nat.strongRecOn with
  | ind n ih =>
    intro x hx
    by_cases h : n < 128
    · rw [short_lt h] at hx
      simp at hx
      omega
    · rw [short_ge h, List.mem_cons] at hx
      rcases hx with hx | hx
      · omega
      · exact ih _ (by omega) x hx

/-- The four bytes of n. -/
def four (n : Nat) : List Int := [((n % 256 : Nat) : Int), ((n / 256 % 256 : Nat) : Int), ((n / 65536 % 256 : Nat) : Int), ((n / 16777216 % 256 : Nat) : Int)]
end Go.Proofs.Ytmodcdpljflmaaa
