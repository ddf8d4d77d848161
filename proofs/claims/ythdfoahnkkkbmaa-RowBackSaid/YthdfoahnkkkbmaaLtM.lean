/-
  MATH OF counted bits: eight bits at a time, and all together.
  MATH OF the developers' lattice: tables of joins and meets by sets of bits; the first two that fail.
-/
import Derived.Test.YthdfoahnkkkbmaaOrB
import Derived.Laws.Bits128
import Derived.Test.YthdfoahnkkkbmaaOlM
import Derived.Test.YthdfoahnkkkbmaaOlB
namespace Go.Proofs.Ythdfoahnkkkbmaa
set_option linter.unusedVariables false
set_option linter.unusedSimpArgs false
def popB : Nat → Nat → Nat
  | 0, _ => 0
  | k + 1, x => x % 2 + popB k (x / 2)
theorem popB_add (m : Nat) : ∀ (j x : Nat), popB (j + m) x = popB j (x % 2 ^ j) + popB m (x / 2 ^ j)
  | 0, x => by simp [popB]
  | j + 1, x => by
    rw [show j + 1 + m = (j + m) + 1 by omega, popB, popB, popB_add m j (x / 2)]
    have e1 : x % 2 ^ (j + 1) % 2 = x % 2 := Nat.mod_mod_of_dvd _ ⟨2 ^ j, by rw [Nat.pow_succ]; omega⟩
    have e2 : x % 2 ^ (j + 1) / 2 = x / 2 % 2 ^ j := by
      rw [Nat.pow_succ, Nat.mul_comm]
      exact Nat.mod_mul_right_div_self x 2 (2 ^ j)
    have e3 : x / 2 / 2 ^ j = x / 2 ^ (j + 1) := by rw [Nat.div_div_eq_div_mul, Nat.pow_succ, Nat.mul_comm]
    rw [e1, e2, e3]
    omega
theorem popB_le : ∀ (k x : Nat), popB k x ≤ k
  | 0, _ => Nat.le_refl _
  | k + 1, x => by
    have := popB_le k (x / 2)
    rw [popB]
    omega
theorem popB_zero : ∀ k, popB k 0 = 0
  | 0 => rfl
  | k + 1 => by rw [popB, show 0 / 2 = 0 from rfl, popB_zero k]
/-- All of the first k bits are there. -/
theorem popB_full : ∀ {k x : Nat}, popB k x = k ↔ ∀ j, j < k → x.testBit j = true
  | 0, x => by simp [popB]
  | k + 1, x => by
    have h1 := popB_le k (x / 2)
    have ih := @popB_full k (x / 2)
    rw [popB]
    constructor
    · intro h j hj
      have h2 : popB k (x / 2) = k := by omega
      cases j with
      | zero =>
        rw [Nat.testBit_zero]
        exact decide_eq_true (by omega)
      | succ j =>
        rw [Nat.testBit_succ]
        exact ih.1 h2 j (by omega)
    · intro h
      have h2 := ih.2 fun j hj => by rw [← Nat.testBit_succ]; exact h (j + 1) (by omega)
      have h3 := h 0 (by omega)
      rw [Nat.testBit_zero] at h3
      have := of_decide_eq_true h3
      omega
/-- A number below 2^n has no bits beyond. -/
theorem popB_cut {n x : Nat} (h : x < 2 ^ n) (m : Nat) : popB (n + m) x = popB n x := by
  rw [popB_add, Nat.mod_eq_of_lt h, Nat.div_eq_of_lt h, popB_zero]
  omega

/-! ### eight bits at a time -/
def m5 : Nat → Nat
  | 0 => 0
  | k + 1 => 85 + 256 * m5 k
def m3 : Nat → Nat
  | 0 => 0
  | k + 1 => 51 + 256 * m3 k
def mf : Nat → Nat
  | 0 => 0
  | k + 1 => 15 + 256 * mf k
theorem and_byte (x c M : Nat) (hc : c < 256) : x &&& (c + 256 * M) = (x % 256 &&& c) + 256 * (x / 256 &&& M) := by
  have h1 := @Nat.and_mod_two_pow x (c + 256 * M) 8
  have h2 := @Nat.and_div_two_pow x (c + 256 * M) 8
  rw [show 2 ^ 8 = 256 from rfl] at h1 h2
  rw [show (c + 256 * M) % 256 = c by omega] at h1
  rw [show (c + 256 * M) / 256 = M by omega] at h2
  omega
def sA (k x : Nat) : Nat := (x / 2 &&& m5 k) + (x &&& m5 k)
def sB (k x : Nat) : Nat := (x / 4 &&& m3 k) + (x &&& m3 k)
def sC (k x : Nat) : Nat := (x / 16 + x) &&& mf k
theorem a8 : ∀ (d : Fin 256) (c : Fin 2), (d.val / 2 + 128 * c.val) &&& 85 = d.val / 2 &&& 85 := by decide +kernel
theorem b8 : ∀ (d : Fin 256) (c : Fin 4), (d.val / 4 + 64 * c.val) &&& 51 = d.val / 4 &&& 51 := by decide +kernel
theorem sA_step (k x : Nat) : sA (k + 1) x = ((x % 256 / 2 &&& 85) + (x % 256 &&& 85)) + 256 * sA k (x / 256) := by
  unfold sA
  rw [m5, and_byte _ _ _ (by omega), and_byte _ _ _ (by omega)]
  have e := a8 ⟨x % 256, by omega⟩ ⟨x / 256 % 2, by omega⟩
  simp only at e
  rw [show x / 2 % 256 = x % 256 / 2 + 128 * (x / 256 % 2) by omega, e, show x / 2 / 256 = x / 256 / 2 by omega]
  omega
theorem sB_step (k e y : Nat) (he : e < 256) : sB (k + 1) (e + 256 * y) = ((e / 4 &&& 51) + (e &&& 51)) + 256 * sB k y := by
  unfold sB
  rw [m3, and_byte _ _ _ (by omega), and_byte _ _ _ (by omega)]
  have q := b8 ⟨e, he⟩ ⟨y % 4, by omega⟩
  simp only at q
  rw [show (e + 256 * y) / 4 % 256 = e / 4 + 64 * (y % 4) by omega, q, show (e + 256 * y) / 4 / 256 = y / 4 by omega, show (e + 256 * y) % 256 = e by omega, show (e + 256 * y) / 256 = y by omega]
  omega
theorem sC_step (k e y : Nat) (h1 : e % 16 ≤ 4) (h2 : e / 16 ≤ 4) (h3 : y % 16 ≤ 4) : sC (k + 1) (e + 256 * y) = (e / 16 + e) % 16 + 256 * sC k y := by
  unfold sC
  rw [mf, and_byte _ _ _ (by omega)]
  rw [show ((e + 256 * y) / 16 + (e + 256 * y)) % 256 = e / 16 + e + 16 * (y % 16) by omega, show ((e + 256 * y) / 16 + (e + 256 * y)) / 256 = y / 16 + y by omega]
  rw [show (15 : Nat) = 2 ^ 4 - 1 from rfl, Nat.and_two_pow_sub_one_eq_mod]
  omega
def a1 (d : Nat) : Nat := (d / 2 &&& 85) + (d &&& 85)
def b1 (d : Nat) : Nat := (d / 4 &&& 51) + (d &&& 51)
theorem dig : ∀ d : Fin 256, a1 d.val < 256 ∧ b1 (a1 d.val) % 16 ≤ 4 ∧ b1 (a1 d.val) / 16 ≤ 4 ∧ (b1 (a1 d.val) / 16 + b1 (a1 d.val)) % 16 = popB 8 d.val := by decide +kernel
def byts : Nat → Nat → Nat
  | 0, _ => 0
  | k + 1, x => popB 8 (x % 256) + 256 * byts k (x / 256)
theorem pipe : ∀ (k x : Nat), sC k (sB k (sA k x)) = byts k x ∧ sB k (sA k x) % 16 ≤ 4
  | 0, x => by simp [sC, sB, m3, mf, byts]
  | k + 1, x => by
    obtain ⟨ih, ih2⟩ := pipe k (x / 256)
    obtain ⟨d1, d2, d3, d4⟩ := dig ⟨x % 256, by omega⟩
    simp only at d1 d2 d3 d4
    have eA : sA (k + 1) x = a1 (x % 256) + 256 * sA k (x / 256) := sA_step k x
    have eB : sB (k + 1) (sA (k + 1) x) = b1 (a1 (x % 256)) + 256 * sB k (sA k (x / 256)) := by rw [eA]; exact sB_step k _ _ d1
    have h16 : ∀ a b : Nat, (a + 256 * b) % 16 = a % 16 := fun a b => by omega
    rw [eB, sC_step k _ _ d2 d3 ih2, ih, d4, h16]
    exact ⟨rfl, d2⟩
theorem pop_e (x : Nat) : popB 64 x = popB 8 (x % 256) + (popB 8 (x / 256 % 256) + (popB 8 (x / 256 / 256 % 256) + (popB 8 (x / 256 / 256 / 256 % 256) + (popB 8 (x / 256 / 256 / 256 / 256 % 256) + (popB 8 (x / 256 / 256 / 256 / 256 / 256 % 256) + (popB 8 (x / 256 / 256 / 256 / 256 / 256 / 256 % 256) + popB 8 (x / 256 / 256 / 256 / 256 / 256 / 256 / 256 % 256))))))) := by
  have st : ∀ m z, popB (8 + m) z = popB 8 (z % 256) + popB m (z / 256) := fun m z => popB_add m 8 z
  have h1 := st 56 x
  have h2 := st 48 (x / 256)
  have h3 := st 40 (x / 256 / 256)
  have h4 := st 32 (x / 256 / 256 / 256)
  have h5 := st 24 (x / 256 / 256 / 256 / 256)
  have h6 := st 16 (x / 256 / 256 / 256 / 256 / 256)
  have h7 := st 8 (x / 256 / 256 / 256 / 256 / 256 / 256)
  have h8 : popB 8 (x / 256 / 256 / 256 / 256 / 256 / 256 / 256) = popB 8 (x / 256 / 256 / 256 / 256 / 256 / 256 / 256 % 256) := (st 0 _).trans (Nat.add_zero _)
  simp only [Nat.reduceAdd] at h1 h2 h3 h4 h5 h6 h7
  rw [h1, h2, h3, h4, h5, h6, h7, ← h8]
theorem byts_8 (x : Nat) : byts 8 x = popB 8 (x % 256) + 256 * (popB 8 (x / 256 % 256) + 256 * (popB 8 (x / 256 / 256 % 256) + 256 * (popB 8 (x / 256 / 256 / 256 % 256) + 256 * (popB 8 (x / 256 / 256 / 256 / 256 % 256) + 256 * (popB 8 (x / 256 / 256 / 256 / 256 / 256 % 256) + 256 * (popB 8 (x / 256 / 256 / 256 / 256 / 256 / 256 % 256) + 256 * (popB 8 (x / 256 / 256 / 256 / 256 / 256 / 256 / 256 % 256) + 256 * 0))))))) := by simp only [byts]
theorem dvm {r m q : Nat} (h : r < m) : (r + m * q) / m = q := by
  rw [Nat.add_mul_div_left _ _ (by omega), Nat.div_eq_of_lt h, Nat.zero_add]
theorem ar1 {p0 p1 p2 A1 A2 A3 : Nat} (h1 : A1 = p1 + 256 * A2) (h2 : A2 = p2 + 256 * A3) : p0 + 256 * A1 + A1 = (p0 + p1 + 256 * (p1 + p2)) + 65536 * (A2 + A3) := by omega
theorem ar2a {p2 p3 A2 A3 A4 : Nat} (h2 : A2 = p2 + 256 * A3) (h3 : A3 = p3 + 256 * A4) : A2 + A3 = (p2 + p3 + 256 * p3) + 256 * A4 + 65536 * A4 := by omega
theorem ar2b {p2 p3 p4 p5 A2 A3 A4 A5 A6 : Nat} (h2 : A2 = p2 + 256 * A3) (h3 : A3 = p3 + 256 * A4) (h4 : A4 = p4 + 256 * A5) : A2 + A3 = (p2 + p3 + 256 * (p3 + p4)) + 65536 * (A4 + A5) := by omega
theorem ar2 {c d X Y : Nat} (hX : X = d + 65536 * Y) : c + 65536 * X + X = (c + d + 65536 * d) + 65536 * (65536 * Y) + 65536 * Y := by omega
theorem ar3 {c X Z : Nat} (e Y : Nat) (hY : Y = e + 65536 * Z) : c + 65536 * (65536 * Y) + 65536 * Y = (c + 65536 * e) + 4294967296 * (Y + Z) := by omega
theorem pop_ar {p0 p1 p2 p3 p4 p5 p6 p7 : Nat} (l0 : p0 ≤ 8) (l1 : p1 ≤ 8) (l2 : p2 ≤ 8) (l3 : p3 ≤ 8) (l4 : p4 ≤ 8) (l5 : p5 ≤ 8) (l6 : p6 ≤ 8) (l7 : p7 ≤ 8) (A1 A2 A3 A4 A5 A6 y y1 y2 y3 : Nat)
    (h6 : A6 = p6 + 256 * p7) (h5 : A5 = p5 + 256 * A6) (h4 : A4 = p4 + 256 * A5) (h3 : A3 = p3 + 256 * A4) (h2 : A2 = p2 + 256 * A3) (h1 : A1 = p1 + 256 * A2)
    (hy : y = p0 + 256 * A1) (hy1 : y1 = y + y / 256) (hy2 : y2 = y1 + y1 / 65536) (hy3 : y3 = y2 + y2 / 4294967296) :
    y < 1000000000000000000 ∧ y1 < 1000000000000000000 ∧ y2 < 1000000000000000000 ∧ y3 < 1000000000000000000 ∧ y3 % 128 = p0 + p1 + p2 + p3 + (p4 + p5 + p6 + p7) := by
  have b6 : A6 ≤ 2056 := by clear hy hy1 hy2 hy3 h1 h2 h3 h4 h5; omega
  have b5 : A5 ≤ 526344 := by clear hy hy1 hy2 hy3 h1 h2 h3 h4 h6; omega
  have b4 : A4 ≤ 134744072 := by clear hy hy1 hy2 hy3 h1 h2 h3 h5 h6; omega
  have b3 : A3 ≤ 34494482440 := by clear hy hy1 hy2 hy3 h1 h2 h4 h5 h6; omega
  have b2 : A2 ≤ 8830587504648 := by clear hy hy1 hy2 hy3 h1 h3 h4 h5 h6; omega
  have b1 : A1 ≤ 2260630401189896 := by clear hy hy1 hy2 hy3 h3 h2 h4 h5 h6; omega
  have q1 : y / 256 = A1 := by rw [hy]; exact dvm (Nat.lt_of_le_of_lt l0 (by decide))
  rw [q1, hy, ar1 h1 h2] at hy1
  have q2 : y1 / 65536 = A2 + A3 := by rw [hy1]; exact dvm (by clear hy hy1 hy2 hy3 h1 h2 h3 h4 h5 h6 q1; omega)
  rw [q2, hy1] at hy2
  have e2 : A2 + A3 = (p2 + p3 + 256 * (p3 + p4)) + 65536 * (A4 + A5) := @ar2b p2 p3 p4 p5 A2 A3 A4 A5 A6 h2 h3 h4
  have e3 : A4 + A5 = (p4 + p5 + 256 * (p5 + p6)) + 65536 * (A6 + p7) := by clear hy hy1 hy2 hy3 h1 h2 h3 q1 q2 e2; omega
  have q3 : y2 / 4294967296 = (A4 + A5) + (A6 + p7) := by
    rw [hy2, ar2 e2, @ar3 _ 0 _ _ _ e3]
    exact dvm (by clear hy hy1 hy2 hy3 h1 h2 h3 h4 h5 h6 q1 q2 e2 e3; omega)
  rw [q3] at hy3
  have c1 : y3 = (p0 + p1 + p2 + p3 + (p4 + p5 + p6 + p7)) + 128 * ((2 * (p1 + p2) + 512 * (A2 + A3)) + (2 * (p3 + p4) + 512 * (A4 + A5)) + (2 * (p5 + p6) + 512 * (A6 + p7)) + 2 * p7) := by
    clear hy hy1 q1 q2 q3 h1 h2 h3 h4 h5
    omega
  refine ⟨?_, ?_, ?_, ?_, ?_⟩
  · clear hy1 hy2 hy3 h1 h2 h3 h4 h5 h6 q1 q2 e2 e3 c1 q3; omega
  · clear hy hy2 hy3 h1 h2 h3 h4 h5 h6 q1 q2 e2 e3 c1 q3; omega
  · clear hy hy1 hy3 h1 h2 h3 h4 h5 h6 q1 q2 e2 e3 c1 q3; omega
  · clear hy hy1 hy2 hy3 h1 h2 h3 h4 h5 h6 q1 q2 e2 e3 q3; omega
  · rw [c1, Nat.add_mul_mod_self_left]
    clear hy hy1 hy2 hy3 h1 h2 h3 h4 h5 h6 q1 q2 e2 e3 c1 q3
    omega
/-- What the last steps make of eight bytes. -/
theorem pop_sum (x y y1 y2 y3 : Nat) (hy : y = byts 8 x) (hy1 : y1 = y + y / 256) (hy2 : y2 = y1 + y1 / 65536) (hy3 : y3 = y2 + y2 / 4294967296) : y < 1000000000000000000 ∧ y1 < 1000000000000000000 ∧ y2 < 1000000000000000000 ∧ y3 < 1000000000000000000 ∧ y3 % 128 = popB 64 x := by
  obtain ⟨g1, g2, g3, g4, g5⟩ := pop_ar (popB_le 8 (x % 256)) (popB_le 8 (x / 256 % 256)) (popB_le 8 (x / 256 / 256 % 256)) (popB_le 8 (x / 256 / 256 / 256 % 256)) (popB_le 8 (x / 256 / 256 / 256 / 256 % 256)) (popB_le 8 (x / 256 / 256 / 256 / 256 / 256 % 256)) (popB_le 8 (x / 256 / 256 / 256 / 256 / 256 / 256 % 256)) (popB_le 8 (x / 256 / 256 / 256 / 256 / 256 / 256 / 256 % 256)) _ _ _ _ _ _ y y1 y2 y3 rfl rfl rfl rfl rfl rfl (by rw [hy, byts_8, Nat.mul_zero, Nat.add_zero]) hy1 hy2 hy3
  exact ⟨g1, g2, g3, g4, by rw [g5, pop_e]; simp only [Nat.add_assoc]⟩
theorem m5_8 : m5 8 = 6148914691236517205 := by decide +kernel
theorem m3_8 : m3 8 = 3689348814741910323 := by decide +kernel
theorem mf_8 : mf 8 = 1085102592571150095 := by decide +kernel
theorem m5_lt (x : Nat) : sA 8 x ≤ 13000000000000000000 := by
  unfold sA
  have h1 := @Nat.and_le_right (x / 2) (m5 8)
  have h2 := @Nat.and_le_right x (m5 8)
  rw [m5_8] at h1 h2 ⊢
  omega
theorem m3_lt (x : Nat) : sB 8 x ≤ 8000000000000000000 := by
  unfold sB
  have h1 := @Nat.and_le_right (x / 4) (m3 8)
  have h2 := @Nat.and_le_right x (m3 8)
  rw [m3_8] at h1 h2 ⊢
  omega

set_option maxHeartbeats 800000 in
/-- math/bits.OnesCount64. -/
theorem ones_any (x : Nat) (hx : x < 18446744073709551616) (w : World) : Calls Try.prog 48 #[.int .u64 (x : Int)] w fun e w' => e = .returned (.int .i64 (popB 64 x : Nat)) ∧ w = w' := by
  obtain ⟨a, ha⟩ : ∃ a, a = sA 8 x := ⟨_, rfl⟩
  obtain ⟨b, hb⟩ : ∃ b, b = sB 8 a := ⟨_, rfl⟩
  obtain ⟨y, hy⟩ : ∃ y, y = byts 8 x := ⟨_, rfl⟩
  obtain ⟨y1, hy1⟩ : ∃ y1, y1 = y + y / 256 := ⟨_, rfl⟩
  obtain ⟨y2, hy2⟩ : ∃ y2, y2 = y1 + y1 / 65536 := ⟨_, rfl⟩
  obtain ⟨y3, hy3⟩ : ∃ y3, y3 = y2 + y2 / 4294967296 := ⟨_, rfl⟩
  obtain ⟨b0, b1, b2, b3, hp⟩ := pop_sum x y y1 y2 y3 hy hy1 hy2 hy3
  have la : a ≤ 13000000000000000000 := ha ▸ m5_lt x
  have lb : b ≤ 8000000000000000000 := hb ▸ m3_lt a
  have hc : y = (b / 16 + b) &&& mf 8 := by rw [hy, ← (pipe 8 x).1, hb, ha]; rfl
  unfold sA at ha
  unfold sB at hb
  rw [m5_8] at ha
  rw [m3_8] at hb
  rw [mf_8] at hc
  have s1 : bits .and .u64 ((x : Int) / 2) 6148914691236517205 = ((x / 2 &&& 6148914691236517205 : Nat) : Int) := by
    have := u64_and_nat (x / 2) 6148914691236517205 (by omega) (by decide)
    simpa using this
  have s2 : bits .and .u64 (x : Int) 6148914691236517205 = ((x &&& 6148914691236517205 : Nat) : Int) := u64_and_nat x 6148914691236517205 hx (by decide)
  have s3 : bits .and .u64 ((a : Int) / 4) 3689348814741910323 = ((a / 4 &&& 3689348814741910323 : Nat) : Int) := by
    have := u64_and_nat (a / 4) 3689348814741910323 (by omega) (by decide)
    simpa using this
  have s4 : bits .and .u64 (a : Int) 3689348814741910323 = ((a &&& 3689348814741910323 : Nat) : Int) := u64_and_nat a 3689348814741910323 (by omega) (by decide)
  have s5 : bits .and .u64 ((b : Int) / 16 + (b : Int)) 1085102592571150095 = (y : Int) := by
    have := u64_and_nat (b / 16 + b) 1085102592571150095 (by omega) (by decide)
    rw [hc, ← this]
    congr 1
  have s6 : bits .and .i64 (y3 : Int) 127 = ((popB 64 x : Nat) : Int) := by
    rw [← hp, i64_and127]
    omega
  have e1 : ((x / 2 &&& 6148914691236517205 : Nat) : Int) + ((x &&& 6148914691236517205 : Nat) : Int) = (a : Int) := by omega
  have e2 : ((a / 4 &&& 3689348814741910323 : Nat) : Int) + ((a &&& 3689348814741910323 : Nat) : Int) = (b : Int) := by omega
  have e3 : (y : Int) + (y : Int) / 256 = (y1 : Int) := by omega
  have e4 : (y1 : Int) + (y1 : Int) / 65536 = (y2 : Int) := by omega
  have e5 : (y2 : Int) + (y2 : Int) / 4294967296 = (y3 : Int) := by omega
  clear ha hb hc hy hy1 hy2 hy3 hp
  go_enter Try.func48, Try.ntmps48
  go_wp2
  go_ret
  exact ⟨rfl, rfl⟩
end Go.Proofs.Ythdfoahnkkkbmaa
namespace Go.Proofs.Ythdfoahnkkkbmaa
set_option linter.unusedVariables false
set_option linter.unusedSimpArgs false
open Go.RowKit

/-! ### the bits above are the bits below, turned -/
inductive Tr (n : Nat) (f : Nat → Nat) : Nat → Nat → Prop
  | one {i j : Nat} : i < n → (f i).testBit j = true → Tr n f i j
  | two {i j k : Nat} : i < n → k < n → Tr n f i k → Tr n f k j → Tr n f i j
theorem tr_sound {n : Nat} {f : Nat → Nat} : ∀ (k : Nat), k ≤ n → ∀ i j, i < n → (orun n f k i).testBit j = true → Tr n f i j
  | 0, _, i, j, hi, h => .one hi h
  | k + 1, hk, i, j, hi, h => by
    rw [orun, ostep_bit hi] at h
    rcases h with h | ⟨h1, h2⟩
    · exact tr_sound k (by omega) i j hi h
    · exact .two hi (by omega) (tr_sound k (by omega) i k hi h1) (tr_sound k (by omega) k j (by omega) h2)
theorem tr_complete {n : Nat} {f : Nat → Nat} {i j : Nat} (h : Tr n f i j) : (orun n f n i).testBit j = true := by
  induction h with
  | one hi h => exact orun_base hi h n
  | two hi hk _ _ ih1 ih2 => exact orun_through n (Nat.le_refl _) _ _ _ hk hi ih1 ih2
theorem tr_turn {n : Nat} {f g : Nat → Nat} (h : ∀ i j, i < n → (f i).testBit j = true → j < n ∧ (g j).testBit i = true) {i j : Nat} (k : Tr n f i j) : j < n ∧ Tr n g j i := by
  induction k with
  | one hi hb => exact ⟨(h _ _ hi hb).1, .one (h _ _ hi hb).1 (h _ _ hi hb).2⟩
  | two hi hk _ _ ih1 ih2 => exact ⟨ih2.1, .two ih2.1 hk ih2.2 ih1.2⟩
structure Osa (o : Od) : Prop where
  inn : ∀ i j, i < o.ns.length → (o.ab i).testBit j = true → j < o.ns.length
  eq : ∀ i j, i < o.ns.length → j < o.ns.length → (o.ab i).testBit j = (o.be j).testBit i
theorem newO_osa {l : List OPr} {o : Od} (h : (newO l).1 = some o) : Osa o := by
  obtain ⟨he, _, rfl, hb⟩ := newO_some h
  have hv := Oiv.adds Oiv.zero he
  rw [List.nil_append] at hv
  obtain ⟨q, hq⟩ : ∃ q, (Od.zero.adds l 0).1 = q := ⟨_, rfl⟩
  rw [hq] at hv ⊢
  have t1 : ∀ i j, i < q.ns.length → (q.ab i).testBit j = true → j < q.ns.length ∧ (q.be j).testBit i = true := fun i j hi hb => by
    obtain ⟨hj, e⟩ := (hv.bits2 i hi j).1 hb
    refine ⟨hj, (hv.bits j hj i).2 ⟨hi, ?_⟩⟩
    rcases e with e | e
    · exact .inl e.symm
    · exact .inr e
  have t2 : ∀ i j, i < q.ns.length → (q.be i).testBit j = true → j < q.ns.length ∧ (q.ab j).testBit i = true := fun i j hi hb => by
    obtain ⟨hj, e⟩ := (hv.bits i hi j).1 hb
    refine ⟨hj, (hv.bits2 j hj i).2 ⟨hi, ?_⟩⟩
    rcases e with e | e
    · exact .inl e.symm
    · exact .inr e
  refine ⟨fun i j hi hb => (tr_turn t1 (tr_sound _ (Nat.le_refl _) i j hi hb)).1, fun i j hi hj => ?_⟩
  rw [Bool.eq_iff_iff]
  exact ⟨fun hb => tr_complete (tr_turn t1 (tr_sound _ (Nat.le_refl _) i j hi hb)).2, fun hb => tr_complete (tr_turn t2 (tr_sound _ (Nat.le_refl _) j i hj hb)).2⟩

/-! ### what two sets share -/
def cmnB (S : Nat → Nat) (x i : Nat) : Bool := decide (S i = x)
def cmnI (S : Nat → Nat) (n x : Nat) : Int := match (List.range n).find? (cmnB S x) with | some i => (i : Int) | none => -1
theorem cmnI_yes {S : Nat → Nat} {n x i : Nat} (hi : i < n) (h : S i = x) (hno : ∀ j, j < i → ¬ S j = x) : cmnI S n x = (i : Int) := by
  have : (List.range n).find? (cmnB S x) = some i := by
    rw [List.find?_range_eq_some]
    exact ⟨decide_eq_true h, List.mem_range.2 hi, fun j hj => by unfold cmnB; rw [decide_eq_false (hno j hj)]; rfl⟩
  unfold cmnI
  rw [this]
theorem cmnI_no {S : Nat → Nat} {n x : Nat} (hno : ∀ j, j < n → ¬ S j = x) : cmnI S n x = -1 := by
  have : (List.range n).find? (cmnB S x) = none := by
    rw [List.find?_range_eq_none]
    exact fun j hj => by unfold cmnB; rw [decide_eq_false (hno j hj)]; rfl
  unfold cmnI
  rw [this]
/-- Sets of what lies behind each element. -/
structure Sets (n : Nat) (F : Nat → Nat → Bool) (S : Nat → Nat) : Prop where
  ord : Pord n F
  inn : ∀ i j, i < n → (S i).testBit j = true → j < n
  eq : ∀ i j, i < n → j < n → (S i).testBit j = F i j
section
variable {n : Nat} {F : Nat → Nat → Bool} {S : Nat → Nat}
theorem Sets.isj (h : Sets n F S) {a b i : Nat} (ha : a < n) (hb : b < n) (hi : i < n) : S i = S a &&& S b ↔ IsJ F n a b i := by
  constructor
  · intro e
    have bit : ∀ k, (S i).testBit k = ((S a).testBit k && (S b).testBit k) := fun k => by rw [e, Nat.testBit_and]
    have hii := bit i
    rw [h.eq i i hi hi, h.ord.refl hi, h.eq a i ha hi, h.eq b i hb hi] at hii
    have hii := hii.symm
    rw [Bool.and_eq_true] at hii
    refine ⟨hi, hii.1, hii.2, fun {k} hk h1 h2 => ?_⟩
    have := bit k
    rw [h.eq i k hi hk, h.eq a k ha hk, h.eq b k hb hk, h1, h2] at this
    exact this
  · intro j
    apply Nat.eq_of_testBit_eq
    intro k
    rw [Nat.testBit_and]
    by_cases hk : k < n
    · rw [h.eq i k hi hk, h.eq a k ha hk, h.eq b k hb hk, Bool.eq_iff_iff, Bool.and_eq_true]
      exact ⟨fun e => ⟨h.ord.trans ha hi hk j.l e, h.ord.trans hb hi hk j.r e⟩, fun ⟨e1, e2⟩ => j.least hk e1 e2⟩
    · have no : ∀ c, c < n → (S c).testBit k = false := fun c hc => by
        cases e : (S c).testBit k with
        | false => rfl
        | true => exact absurd (h.inn c k hc e) hk
      rw [no i hi, no a ha]
      rfl
theorem Sets.cmn (h : Sets n F S) {a b : Nat} (ha : a < n) (hb : b < n) : cmnI S n (S a &&& S b) = rjoinI F n a b := by
  rcases rjoin_cases F n a b with ⟨i, e, hi⟩ | ⟨e, hno⟩
  · rw [e]
    refine cmnI_yes hi.lt ((h.isj ha hb hi.lt).2 hi) fun j hj e2 => ?_
    have := ((h.isj ha hb (Nat.lt_trans hj hi.lt)).1 e2).uniq h.ord hi
    omega
  · rw [e]
    exact cmnI_no fun j hj e2 => hno j ((h.isj ha hb hj).1 e2)
theorem Sets.lt (h : Sets n F S) {i : Nat} (hi : i < n) : S i < 2 ^ n := by
  apply Nat.lt_pow_two_of_testBit
  intro j hj
  cases e : (S i).testBit j with
  | false => rfl
  | true => have := h.inn i j hi e; omega
theorem Sets.pop (h : Sets n F S) (hn : n ≤ 64) {i : Nat} (hi : i < n) : popB 64 (S i) = n ↔ ∀ k, k < n → F i k = true := by
  have e : popB 64 (S i) = popB n (S i) := by
    have := popB_cut (h.lt hi) (64 - n)
    rwa [show n + (64 - n) = 64 by omega] at this
  rw [e, popB_full]
  exact ⟨fun g k hk => by rw [← h.eq i k hi hk]; exact g k hk, fun g k hk => by rw [h.eq i k hi hk]; exact g k hk⟩
end
theorem sets_above {o : Od} (h : Osd o) (k : Osa o) : Sets o.ns.length (rmost o) o.ab :=
  ⟨h.pord, k.inn, fun i j hi hj => by rw [k.eq i j hi hj]; exact (most_bit hi hj).symm⟩
theorem sets_below {o : Od} (h : Osd o) : Sets o.ns.length (oflip (rmost o)) o.be :=
  ⟨h.pord.flip, h.inn, fun i j hi hj => (most_bit hj hi).symm⟩

/-! ### joins and meets of any two numbers -/
def inI (n : Nat) (i : Int) : Bool := decide (0 ≤ i) && decide (i < (n : Int))
def ltJ (F : Nat → Nat → Bool) (n : Nat) (a b : Int) : Int := if inI n a && inI n b then rjoinI F n a.toNat b.toNat else -1
theorem inI_nat {n a : Nat} : inI n (a : Int) = decide (a < n) := by
  unfold inI
  rw [decide_eq_true (by omega : (0 : Int) ≤ (a : Int)), Bool.true_and]
  simp
theorem ltJ_nat {F : Nat → Nat → Bool} {n a b : Nat} (ha : a < n) (hb : b < n) : ltJ F n (a : Int) (b : Int) = rjoinI F n a b := by
  unfold ltJ
  rw [inI_nat, inI_nat, decide_eq_true ha, decide_eq_true hb]
  rfl
theorem ltJ_out {F : Nat → Nat → Bool} {n : Nat} {a b : Int} (h : inI n a = false ∨ inI n b = false) : ltJ F n a b = -1 := by
  unfold ltJ
  rcases h with h | h
  · rw [h]; rfl
  · rw [h, Bool.and_false]; rfl
theorem rjoin_comm {F : Nat → Nat → Bool} {n : Nat} (h : Pord n F) (a b : Nat) : rjoinI F n a b = rjoinI F n b a := by
  rcases rjoin_cases F n a b with ⟨i, e, hi⟩ | ⟨e, hno⟩
  · rw [e, hi.comm.rjoin h]
  · rcases rjoin_cases F n b a with ⟨j, e2, hj⟩ | ⟨e2, _⟩
    · exact absurd hj.comm (hno j)
    · rw [e, e2]
def ltP1 (F : Nat → Nat → Bool) (n a b : Nat) : Bool := decide (ltJ F n a b = -1) || decide (ltJ (oflip F) n a b = -1)
def ltQ (F : Nat → Nat → Bool) (n a b c : Nat) : Bool := !decide (ltJ (oflip F) n a (ltJ F n b c) = ltJ F n (ltJ (oflip F) n a b) (ltJ (oflip F) n a c))
def ltP2 (F : Nat → Nat → Bool) (n a b : Nat) : Bool := (List.range n).any (ltQ F n a b)
section
variable {n : Nat} {F : Nat → Nat → Bool}
theorem ltP1_comm (h : Pord n F) {a b : Nat} (ha : a < n) (hb : b < n) : ltP1 F n a b = ltP1 F n b a := by
  unfold ltP1
  rw [ltJ_nat ha hb, ltJ_nat hb ha, ltJ_nat ha hb, ltJ_nat hb ha, rjoin_comm h, rjoin_comm h.flip]
theorem rjoin_neg {a b : Nat} : rjoinI F n a b = -1 ↔ rjoinI F n a b < 0 := by
  rcases rjoin_cases F n a b with ⟨i, e, _⟩ | ⟨e, _⟩ <;> rw [e] <;> omega
theorem ltP1_le {a b : Nat} (ha : a < n) (hb : b < n) (hab : a ≤ b) : ltP1 F n a b = lbad1 F n a b := by
  unfold ltP1 lbad1
  rw [ltJ_nat ha hb, ltJ_nat ha hb, decide_eq_true hab, Bool.true_and, decide_eq_decide.2 (@rjoin_neg n F a b), decide_eq_decide.2 (@rjoin_neg n (oflip F) a b)]
theorem lbad1_gt {a b : Nat} (hab : b < a) : lbad1 F n a b = false := by
  unfold lbad1
  rw [decide_eq_false (by omega)]
  rfl
theorem fst1 (h : Pord n F) {a b : Nat} (k : Fst (ltP1 F n) n a b) : Fst (lbad1 F n) n a b := by
  have hab : a ≤ b := by
    rcases Nat.lt_or_ge b a with e | e
    · have := k.no b a k.lb k.la (.inl e)
      rw [ltP1_comm h k.lb k.la, k.yes] at this
      cases this
    · exact e
  refine ⟨k.la, k.lb, by rw [← ltP1_le k.la k.lb hab]; exact k.yes, fun x y hx hy hxy => ?_⟩
  rcases Nat.lt_or_ge y x with e | e
  · exact lbad1_gt e
  · rw [← ltP1_le hx hy e]; exact k.no x y hx hy hxy
theorem none1 (h : ∀ x y, x < n → y < n → ltP1 F n x y = false) : ∀ x y, x < n → y < n → lbad1 F n x y = false := fun x y hx hy => by
  rcases Nat.lt_or_ge y x with e | e
  · exact lbad1_gt e
  · rw [← ltP1_le hx hy e]; exact h x y hx hy
theorem yes_j (h : ∀ x y, x < n → y < n → ltP1 F n x y = false) {x y : Nat} (hx : x < n) (hy : y < n) : rjoinI F n x y = (jn F n x y : Int) ∧ jn F n x y < n ∧ rjoinI (oflip F) n x y = (mn F n x y : Int) ∧ mn F n x y < n := by
  have := h x y hx hy
  unfold ltP1 at this
  rw [ltJ_nat hx hy, ltJ_nat hx hy, Bool.or_eq_false_iff] at this
  have h1 := of_decide_eq_false this.1
  have h2 := of_decide_eq_false this.2
  have key : ∀ {G : Nat → Nat → Bool}, ¬ rjoinI G n x y = -1 → rjoinI G n x y = ((rjoinI G n x y).toNat : Int) ∧ (rjoinI G n x y).toNat < n := fun {G} hn => by
    rcases rjoin_cases G n x y with ⟨i, e, hi⟩ | ⟨e, _⟩
    · rw [e]; exact ⟨rfl, hi.lt⟩
    · exact absurd e hn
  exact ⟨(key h1).1, (key h1).2, (key h2).1, (key h2).2⟩
theorem ltP2_eq (h : ∀ x y, x < n → y < n → ltP1 F n x y = false) {a b : Nat} (ha : a < n) (hb : b < n) : ltP2 F n a b = lbad2 F n a b := by
  unfold ltP2 lbad2
  have : ∀ c, c < n → ltQ F n a b c = lbad3 F n a b c := fun c hc => by
    unfold ltQ lbad3
    obtain ⟨e1, l1, e1', l1'⟩ := yes_j h hb hc
    obtain ⟨e2, l2, e2', l2'⟩ := yes_j h ha hb
    obtain ⟨e3, l3, e3', l3'⟩ := yes_j h ha hc
    rw [ltJ_nat hb hc, ltJ_nat ha hb, ltJ_nat ha hc, e1, e2', e3', ltJ_nat ha l1, ltJ_nat l2' l3', (yes_j h ha l1).2.2.1, (yes_j h l2' l3').1]
    congr 1
    rw [decide_eq_decide]
    omega
  rw [Bool.eq_iff_iff, List.any_eq_true, List.any_eq_true]
  constructor
  · rintro ⟨c, hc, e⟩
    exact ⟨c, hc, by rw [← this c (List.mem_range.1 hc)]; exact e⟩
  · rintro ⟨c, hc, e⟩
    exact ⟨c, hc, by rw [this c (List.mem_range.1 hc)]; exact e⟩
theorem lnew_one (h : Pord n F) {a b : Nat} (k : Fst (ltP1 F n) n a b) : LNew n F a b 17 := .one (fst1 h k)
theorem lnew_two (h : ∀ x y, x < n → y < n → ltP1 F n x y = false) {a b : Nat} (k : Fst (ltP2 F n) n a b) : LNew n F a b 17 :=
  .two (none1 h) ⟨k.la, k.lb, by rw [← ltP2_eq h k.la k.lb]; exact k.yes, fun x y hx hy e => by rw [← ltP2_eq h hx hy]; exact k.no x y hx hy e⟩
theorem lnew_ok (hn : 0 < n) (h : ∀ x y, x < n → y < n → ltP1 F n x y = false) (k : ∀ x y, x < n → y < n → ltP2 F n x y = false) : LNew n F 0 0 0 :=
  .ok hn (none1 h) fun x y hx hy => by rw [← ltP2_eq h hx hy]; exact k x y hx hy
end
end Go.Proofs.Ythdfoahnkkkbmaa
