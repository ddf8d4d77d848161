/-
  CONTRACT OF 'blazonref01.GetShort': it reads what 'gets' says.
-/
import Derived.Test.YtmodcdpljflmaaaGet
namespace Go.Proofs.Ytmodcdpljflmaaa
set_option linter.unusedVariables false
set_option linter.unusedSimpArgs false
open Go.RowKit

theorem pow9 (k : Nat) (hk : k ≤ 9) : (128 : Nat) ^ k ≤ 9223372036854775808 := Nat.le_trans (Nat.pow_le_pow_right (by omega) hk) (by decide)

theorem digit_lt (D k : Nat) (hk : k ≤ 9) (hD : D < 128) (h9 : k = 9 → D ≤ 1) : D * 128 ^ k ≤ 9223372036854775808 := by
  rcases Nat.lt_or_ge k 9 with h | h
  · have h8 : (128 : Nat) ^ k ≤ 72057594037927936 := Nat.le_trans (Nat.pow_le_pow_right (by omega) (show k ≤ 8 by omega)) (by decide)
    have := Nat.mul_le_mul (show D ≤ 128 by omega) h8
    omega
  · obtain rfl : k = 9 := by omega
    have := Nat.mul_le_mul (h9 rfl) (pow9 9 (by omega))
    omega

theorem sum_digit (acc D F k : Nat) (hF : F = 128 ^ k) (hacc : acc < 128 ^ k) (hk : k ≤ 9) (hD : D < 128) (h9 : k = 9 → D ≤ 1) :
    IntKind.u64.wrap ((acc : Int) + IntKind.u64.wrap ((D : Int) * (F : Int))) = ((acc + D * 128 ^ k : Nat) : Int) := by
  subst hF
  have h1 := digit_lt D k hk hD h9
  have h2 := pow9 k hk
  have e : (D : Int) * ((128 ^ k : Nat) : Int) = ((D * 128 ^ k : Nat) : Int) := by simp
  have h3 : acc < 9223372036854775808 := by omega
  rw [e]
  generalize D * 128 ^ k = P at h1
  rw [u64_in (n := (P : Int)) (by omega) (by omega), u64_in (by omega) (by omega)]
  simp

theorem next_factor (F k : Nat) (hF : k ≤ 9 → F = 128 ^ k) : ∃ G : Nat, IntKind.u64.wrap ((F : Int) * 128) = (G : Int) ∧ (k + 1 ≤ 9 → G = 128 ^ (k + 1)) := by
  by_cases hk : k + 1 ≤ 9
  · refine ⟨128 ^ (k + 1), ?_, fun _ => rfl⟩
    have h1 := hF (by omega)
    have h2 := pow9 (k + 1) hk
    have e : F * 128 = 128 ^ (k + 1) := by rw [h1, Nat.pow_succ]
    have e2 : (F : Int) * 128 = ((128 ^ (k + 1) : Nat) : Int) := by rw [← e]; simp
    rw [e2, u64_in (by omega) (by omega)]
  · refine ⟨(IntKind.u64.wrap ((F : Int) * 128)).toNat, ?_, fun h => absurd h hk⟩
    have h : 0 ≤ IntKind.u64.wrap ((F : Int) * 128) := by rw [IntKind.wrap_u64]; omega
    omega

set_option maxRecDepth 10000 in
set_option maxHeartbeats 1600000 in
theorem getShort_any (A : Option Addr) (n c : Nat) (xs : List Int) (w : World) (U : Nat) (hx : Sh w U A n (by8 xs)) (hn : n ≤ 1000000) (hw : Bytes xs) :
    Calls Try.prog 11 #[.slice A n c] w fun e w' => e = retG (gets xs 0 0) ∧ Quiet w w' := by
  have hnl : xs.length = n := by have := hx.len; rwa [by8_len] at this
  go_enter Try.func11, Try.ntmps11
  go_wp2
  go_loopw [5, 6, 7] (fun v f i wr => ∃ k acc F : Nat, k ≤ n ∧ k ≤ 10 ∧ i = .int .i64 k ∧ v = .int .u64 acc ∧ f = .int .u64 F ∧ acc < 128 ^ k ∧ (k ≤ 9 → F = 128 ^ k) ∧ gets (xs.drop k) k acc = gets xs 0 0 ∧ Quiet w wr) (fun _ _ i _ => n - (intOf i).toNat)
  case atStart => exact ⟨0, 0, 1, Nat.zero_le _, Nat.zero_le _, rfl, rfl, rfl, by simp, fun _ => rfl, rfl, Quiet.refl _⟩
  case round =>
    obtain ⟨k, acc, F, hk, hk10, rfl, rfl, rfl, hacc, hF, hg, hq⟩ := hrel
    obtain ⟨q, rfl⟩ := hq
    have HA := Lib.hid hacc
    have HN := Lib.hid hnl
    have HF := Lib.hid hF
    clear hacc hnl hF
    by_cases hlt : k < n
    · obtain ⟨b, off, rfl, hb, hc⟩ := hx.byte hlt
      have hd := drop_cons' xs k (by rw [HN.out]; exact hlt)
      have hby := hw.get (k := k) (by rw [HN.out]; exact hlt)
      obtain ⟨x, hx0⟩ : ∃ x, x = xs.getD k 0 := ⟨_, rfl⟩
      rw [← hx0] at hc hd hby
      clear hx0
      obtain ⟨x, rfl⟩ : ∃ y : Nat, x = y := ⟨x.toNat, by omega⟩
      rw [hd] at hg
      have HG := Lib.hid hg
      clear hg hd
      by_cases h10 : k = 10
      · subst h10
        go_wp2
        go_ret3
        exact ⟨retG_mk (HG.out.symm.trans (gets_ten _ _ _)) rfl rfl rfl, Quiet.one _ _⟩
      · have hkb : ¬ 9 < k := by omega
        obtain ⟨D, hD⟩ : ∃ D, D = x % 128 := ⟨_, rfl⟩
        have hand : (x : Int) % 128 = (D : Int) := by omega
        have HD := Lib.hid hD
        have hDl : D < 128 := by omega
        clear hD
        by_cases hbig : k = 9 ∧ 1 < D
        · obtain ⟨h9, h1⟩ := hbig
          have hk9 : ((k : Int) == 9) = true := by simp; omega
          have H9 := Lib.hid h9
          clear h9
          go_wp2
          go_ret3
          exact ⟨retG_mk (HG.out.symm.trans (gets_big _ _ _ _ _ HD.out H9.out h1)) rfl rfl rfl, Quiet.one _ _⟩
        · have h9 : k = 9 → D ≤ 1 := fun h => by omega
          have HS := Lib.hid (next_small acc D k HA.out hDl)
          obtain ⟨M, hM⟩ : ∃ M, M = acc + D * 128 ^ k := ⟨_, rfl⟩
          have HM := Lib.hid hM
          have H9 := Lib.hid h9
          clear hM h9
          have hcase : (((k : Int) == 9) = true ∧ ¬ 1 < D) ∨ ((k : Int) == 9) = false := by
            by_cases h : k = 9
            · exact .inl ⟨by simp; omega, by omega⟩
            · exact .inr (by simp; omega)
          have hk9l : k ≤ 9 := by omega
          clear hbig
          have hsum := sum_digit acc D F k (HF.out hk9l) HA.out hk9l hDl H9.out
          rw [← HM.out] at hsum
          obtain ⟨G, hG, hG2⟩ := next_factor F k HF.out
          have HG2 := Lib.hid hG2
          clear hG2
          by_cases hx7 : x < 128
          · by_cases h0 : D = 0 ∧ 0 < k
            · have hd0 : ((D : Int) == 0) = true := by simp; omega
              have hk0 := h0.2
              have H0 := Lib.hid h0.1
              clear h0
              rcases hcase with ⟨hk9, hd1⟩ | hk9
              all_goals
                go_wp2
                go_ret3
                exact ⟨retG_mk (HG.out.symm.trans (gets_zero _ _ _ _ _ HD.out hk9l hx7 H0.out hk0)) rfl rfl rfl, Quiet.one _ _⟩
            · have H0 := Lib.hid h0
              by_cases hz : D = 0
              · have hk0 : ¬ 0 < k := by omega
                have hd0 : ((D : Int) == 0) = true := by simp; omega
                clear h0 hz
                rcases hcase with ⟨hk9, hd1⟩ | hk9
                all_goals
                  go_wp2
                  go_ret3
                  exact ⟨retG_mk (HG.out.symm.trans (gets_end _ _ _ _ _ HD.out hk9l H9.out hx7 H0.out)) (by rw [HM.out]) (by simp) rfl, Quiet.one _ _⟩
              · have hd0 : ((D : Int) == 0) = false := by simp; omega
                clear h0 hz
                rcases hcase with ⟨hk9, hd1⟩ | hk9
                all_goals
                  go_wp2
                  go_ret3
                  exact ⟨retG_mk (HG.out.symm.trans (gets_end _ _ _ _ _ HD.out hk9l H9.out hx7 H0.out)) (by rw [HM.out]) (by simp) rfl, Quiet.one _ _⟩
          · have HN2 := Lib.hid (HG.out.symm.trans (gets_on _ _ _ _ _ HD.out hk9l H9.out hx7))
            rcases hcase with ⟨hk9, hd1⟩ | hk9
            all_goals
              go_wp2
              go_roundw
              case rel => exact ⟨k + 1, M, G, by omega, by omega, by go_num, rfl, rfl, by rw [HM.out]; exact HS.out, HG2.out, by rw [HM.out]; exact HN2.out.symm, Quiet.one _ _⟩
              case measure => simp [intOf]; omega
    · obtain rfl : k = n := by omega
      rw [List.drop_eq_nil_of_le (by rw [HN.out]; exact Nat.le_refl _)] at hg
      have HG := Lib.hid hg
      clear hg
      go_wp2
      go_ret3
      exact ⟨retG_mk (HG.out.symm.trans rfl) rfl rfl rfl, Quiet.one _ _⟩

theorem getShort_of (A : Option Addr) (n c : Nat) (xs : List Int) (w : World) (U : Nat) (a b : Nat) (g : Nat) (hx : Sh w U A n (by8 xs)) (hn : n ≤ 1000000) (hw : Bytes xs) (hg : gets xs 0 0 = (a, b, g)) :
    Calls Try.prog 11 #[.slice A n c] w fun e w' => e = .returned (.tuple #[.int .u64 (a : Int), .int .i64 (b : Int), .int .i64 (g : Int)]) ∧ Quiet w w' :=
  (getShort_any A n c xs w U hx hn hw).mono fun _ _ ⟨he, hq⟩ => ⟨he.trans (retG_mk hg rfl rfl rfl).symm, hq⟩
end Go.Proofs.Ytmodcdpljflmaaa
