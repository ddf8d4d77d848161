/-
  CONTRACTS OF 'num.Get' and 'blazonref01.GetShort': both read what 'gets' says.
-/
import Derived.Test.YtmodcdpljflmaaaNum
import Derived.Laws.BitsAll
namespace Go.Proofs.Ytmodcdpljflmaaa
set_option linter.unusedVariables false
set_option linter.unusedSimpArgs false
open Go.RowKit

theorem and127 : ∀ a : Fin 256, a.val &&& 127 = a.val % 128 := by decide +kernel
theorem u8_and127 (x : Nat) (h : x < 256) : bits .and .u8 (x : Int) 127 = ((x % 128 : Nat) : Int) := by
  have e := and127 ⟨x, h⟩
  simp only at e
  exact (u8_and_nat x 127 h (by omega)).trans (by rw [e])

/-- All of them are bytes. -/
def Bytes (l : List Int) : Prop := ∀ x ∈ l, 0 ≤ x ∧ x ≤ 255
theorem Bytes.get {l : List Int} (h : Bytes l) {k : Nat} (hk : k < l.length) : 0 ≤ l.getD k 0 ∧ l.getD k 0 ≤ 255 := by
  have e : l.getD k 0 = l[k] := by simp [hk]
  rw [e]
  exact h _ (List.getElem_mem hk)

theorem drop_cons' (l : List Int) (k : Nat) (h : k < l.length) : l.drop k = l.getD k 0 :: l.drop (k + 1) := by
  rw [List.drop_eq_getElem_cons h]; simp [h]

def retG (g : Nat × Nat × Nat) : Ending := .returned (.tuple #[.int .u64 (g.1 : Int), .int .i64 (g.2.1 : Int), .int .i64 (g.2.2 : Int)])
theorem retG_mk {g : Nat × Nat × Nat} {a b c : Nat} {n u e : Int} (h : g = (a, b, c)) (hn : n = a) (hu : u = b) (he : e = c) :
    Ending.returned (.tuple #[.int .u64 n, .int .i64 u, .int .i64 e]) = retG g := by
  subst h; subst hn; subst hu; subst he; rfl

/-- A digit's bits lie above those of what was read. -/
theorem or_digit (acc D k : Nat) (hacc : acc < 128 ^ k) (hk : k ≤ 9) (hD : D < 128) (h9 : k = 9 → D ≤ 1) :
    bits .or .u64 (acc : Int) (IntKind.u64.wrap ((D : Int) * 2 ^ (7 * k))) = ((acc + D * 128 ^ k : Nat) : Int) := by
  have hp : (2 : Nat) ^ (7 * k) = 128 ^ k := by rw [Nat.pow_mul]
  have hP : (128 : Nat) ^ k ≤ 128 ^ 9 := Nat.pow_le_pow_right (by omega) hk
  have e9 : (128 : Nat) ^ 9 = 9223372036854775808 := by decide
  have hlt : D * 128 ^ k < 18446744073709551616 := by
    rcases Nat.lt_or_ge k 9 with h | h
    · have h8 : (128 : Nat) ^ k ≤ 128 ^ 8 := Nat.pow_le_pow_right (by omega) (by omega)
      have e8 : (128 : Nat) ^ 8 = 72057594037927936 := by decide
      have := Nat.mul_le_mul (show D ≤ 127 by omega) h8
      omega
    · obtain rfl : k = 9 := by omega
      have := h9 rfl
      rw [e9]
      omega
  have hc : (D : Int) * 2 ^ (7 * k) = ((D * 128 ^ k : Nat) : Int) := by
    rw [← hp, Int.natCast_mul, Int.natCast_pow]; rfl
  rw [hc, u64_in (by omega) (by omega)]
  refine (u64_or_nat acc (D * 128 ^ k) (by omega) (by omega)).trans ?_
  congr 1
  rw [← hp] at hacc ⊢
  rw [Nat.or_comm, Nat.mul_comm, ← Nat.two_pow_add_eq_or_of_lt hacc D, Nat.mul_comm, Nat.add_comm]

theorem next_small (acc D k : Nat) (hacc : acc < 128 ^ k) (hD : D < 128) : acc + D * 128 ^ k < 128 ^ (k + 1) := by
  have h := Nat.mul_le_mul (show D ≤ 127 by omega) (Nat.le_refl (128 ^ k))
  rw [Nat.pow_succ]
  omega

theorem gets_ten (r : List Int) (x : Int) (acc : Nat) : gets (x :: r) 10 acc = (0, 0, 4) := by simp [gets]
theorem gets_big (r : List Int) (x k acc D : Nat) (hD : D = x % 128) (h9 : k = 9) (h1 : 1 < D) : gets ((x : Int) :: r) k acc = (0, 0, 4) := by
  subst hD h9
  simp [gets, h1]
theorem gets_on (r : List Int) (x k acc D : Nat) (hD : D = x % 128) (hk : k ≤ 9) (h9 : k = 9 → D ≤ 1) (hx : ¬ x < 128) : gets ((x : Int) :: r) k acc = gets r (k + 1) (acc + D * 128 ^ k) := by
  subst hD
  simp only [gets, Int.toNat_natCast]
  rw [if_neg (by omega), if_neg (by omega)]
theorem gets_zero (r : List Int) (x k acc D : Nat) (hD : D = x % 128) (hk : k ≤ 9) (hx : x < 128) (h0 : D = 0) (hk0 : 0 < k) : gets ((x : Int) :: r) k acc = (0, 0, 4) := by
  subst hD
  simp only [gets, Int.toNat_natCast]
  rw [if_neg (by omega), if_pos hx, if_pos ⟨h0, hk0⟩]
theorem gets_end (r : List Int) (x k acc D : Nat) (hD : D = x % 128) (hk : k ≤ 9) (h9 : k = 9 → D ≤ 1) (hx : x < 128) (h0 : ¬ (D = 0 ∧ 0 < k)) :
    gets ((x : Int) :: r) k acc = (acc + D * 128 ^ k, k + 1, 0) := by
  subst hD
  simp only [gets, Int.toNat_natCast]
  rw [if_neg (by omega), if_pos hx, if_neg h0]

set_option maxRecDepth 10000 in
set_option maxHeartbeats 1600000 in
theorem get_any (A : Option Addr) (n c : Nat) (xs : List Int) (w : World) (U : Nat) (hx : Sh w U A n (by8 xs)) (hn : n ≤ 1000000) (hw : Bytes xs) :
    Calls Try.prog 10 #[.slice A n c] w fun e w' => e = retG (gets xs 0 0) ∧ Quiet w w' := by
  have hnl : xs.length = n := by have := hx.len; rwa [by8_len] at this
  go_enter Try.func10, Try.ntmps10
  go_wp2
  go_loopw [2, 10] (fun v i wr => ∃ k acc : Nat, k ≤ n ∧ k ≤ 10 ∧ i = .int .i64 k ∧ v = .int .u64 acc ∧ acc < 128 ^ k ∧ gets (xs.drop k) k acc = gets xs 0 0 ∧ Quiet w wr) (fun _ i _ => n - (intOf i).toNat)
  case atStart => exact ⟨0, 0, Nat.zero_le _, Nat.zero_le _, rfl, rfl, by simp, rfl, Quiet.refl _⟩
  case round =>
    obtain ⟨k, acc, hk, hk10, rfl, rfl, hacc, hg, hq⟩ := hrel
    obtain ⟨q, rfl⟩ := hq
    have HA := Lib.hid hacc
    have HN := Lib.hid hnl
    clear hacc hnl
    by_cases hlt : k < n
    · obtain ⟨b, off, rfl, hb, hc⟩ := hx.byte hlt
      have hd := drop_cons' xs k (by rw [HN.out]; exact hlt)
      have hby := hw.get (k := k) (by rw [HN.out]; exact hlt)
      obtain ⟨x, hx0⟩ : ∃ x, x = xs.getD k 0 := ⟨_, rfl⟩
      rw [← hx0] at hc hd hby
      clear hx0
      obtain ⟨x, rfl⟩ : ∃ y : Nat, x = y := ⟨x.toNat, by omega⟩
      rw [hd] at hg
      have HG := Lib.hid hg
      clear hg hd
      by_cases h10 : k = 10
      · subst h10
        go_wp2
        go_ret3
        exact ⟨retG_mk (HG.out.symm.trans (gets_ten _ _ _)) rfl rfl rfl, Quiet.one _ _⟩
      · have hkb : ((k : Int) == 10) = false := by simp; omega
        obtain ⟨D, hD⟩ : ∃ D, D = x % 128 := ⟨_, rfl⟩
        have hand := u8_and127 x (by omega)
        rw [← hD] at hand
        have HD := Lib.hid hD
        have hDl : D < 128 := by omega
        clear hD
        by_cases hbig : k = 9 ∧ 1 < D
        · obtain ⟨h9, h1⟩ := hbig
          have hk9 : ((k : Int) == 9) = true := by simp; omega
          have H9 := Lib.hid h9
          clear h9
          go_wp2
          go_ret3
          exact ⟨retG_mk (HG.out.symm.trans (gets_big _ _ _ _ _ HD.out H9.out h1)) rfl rfl rfl, Quiet.one _ _⟩
        · have h9 : k = 9 → D ≤ 1 := fun h => by omega
          have hor := or_digit acc D k HA.out (by omega) hDl h9
          have HS := Lib.hid (next_small acc D k HA.out hDl)
          obtain ⟨M, hM⟩ : ∃ M, M = acc + D * 128 ^ k := ⟨_, rfl⟩
          rw [← hM] at hor
          have HM := Lib.hid hM
          have H9 := Lib.hid h9
          clear hM h9
          have hcase : (((k : Int) == 9) = true ∧ ¬ 1 < D) ∨ ((k : Int) == 9) = false := by
            by_cases h : k = 9
            · exact .inl ⟨by simp; omega, by omega⟩
            · exact .inr (by simp; omega)
          have hk9l : k ≤ 9 := by omega
          clear hbig
          by_cases hx7 : x < 128
          · by_cases h0 : D = 0 ∧ 0 < k
            · have hd0 : ((D : Int) == 0) = true := by simp; omega
              have hk0 := h0.2
              have H0 := Lib.hid h0.1
              clear h0
              rcases hcase with ⟨hk9, hd1⟩ | hk9
              all_goals
                go_wp2
                go_ret3
                exact ⟨retG_mk (HG.out.symm.trans (gets_zero _ _ _ _ _ HD.out hk9l hx7 H0.out hk0)) rfl rfl rfl, Quiet.one _ _⟩
            · have H0 := Lib.hid h0
              by_cases hz : D = 0
              · have hk0 : ¬ 0 < k := by omega
                have hd0 : ((D : Int) == 0) = true := by simp; omega
                clear h0 hz
                rcases hcase with ⟨hk9, hd1⟩ | hk9
                all_goals
                  go_wp2
                  go_ret3
                  exact ⟨retG_mk (HG.out.symm.trans (gets_end _ _ _ _ _ HD.out hk9l H9.out hx7 H0.out)) (by rw [HM.out]) (by simp) rfl, Quiet.one _ _⟩
              · have hd0 : ((D : Int) == 0) = false := by simp; omega
                clear h0 hz
                rcases hcase with ⟨hk9, hd1⟩ | hk9
                all_goals
                  go_wp2
                  go_ret3
                  exact ⟨retG_mk (HG.out.symm.trans (gets_end _ _ _ _ _ HD.out hk9l H9.out hx7 H0.out)) (by rw [HM.out]) (by simp) rfl, Quiet.one _ _⟩
          · have HN2 := Lib.hid (HG.out.symm.trans (gets_on _ _ _ _ _ HD.out hk9l H9.out hx7))
            rcases hcase with ⟨hk9, hd1⟩ | hk9
            all_goals
              go_wp2
              go_roundw
              case rel => exact ⟨k + 1, M, by omega, by omega, by go_num, rfl, by rw [HM.out]; exact HS.out, by rw [HM.out]; exact HN2.out.symm, Quiet.one _ _⟩
              case measure => simp [intOf]; omega
    · obtain rfl : k = n := by omega
      rw [List.drop_eq_nil_of_le (by rw [HN.out]; exact Nat.le_refl _)] at hg
      have HG := Lib.hid hg
      clear hg
      go_wp2
      go_ret3
      exact ⟨retG_mk (HG.out.symm.trans rfl) rfl rfl rfl, Quiet.one _ _⟩

theorem Bytes.append {a b : List Int} (ha : Bytes a) (hb : Bytes b) : Bytes (a ++ b) := fun x hx => by
  rcases List.mem_append.1 hx with h | h
  · exact ha x h
  · exact hb x h
theorem Bytes.take {a : List Int} (ha : Bytes a) (k : Nat) : Bytes (a.take k) := fun x hx => ha x (List.mem_of_mem_take hx)
theorem Bytes.drop {a : List Int} (ha : Bytes a) (k : Nat) : Bytes (a.drop k) := fun x hx => ha x (List.mem_of_mem_drop hx)

/-- The same where what is read is known. -/
theorem get_of (A : Option Addr) (n c : Nat) (xs : List Int) (w : World) (U : Nat) (a b : Nat) (g : Nat) (E : Int) (hx : Sh w U A n (by8 xs)) (hn : n ≤ 1000000) (hw : Bytes xs) (hg : gets xs 0 0 = (a, b, g)) (hE : E = (g : Int)) :
    Calls Try.prog 10 #[.slice A n c] w fun e w' => e = .returned (.tuple #[.int .u64 (a : Int), .int .i64 (b : Int), .int .i64 E]) ∧ Quiet w w' :=
  (get_any A n c xs w U hx hn hw).mono fun _ _ ⟨he, hq⟩ => ⟨he.trans (retG_mk hg rfl rfl hE).symm, hq⟩
end Go.Proofs.Ytmodcdpljflmaaa
