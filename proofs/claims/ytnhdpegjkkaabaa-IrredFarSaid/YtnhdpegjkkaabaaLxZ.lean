/-
  CONTRACTS OF 'lex.Ident', 'blazonref06.Ident'.
-/
import Derived.Test.YtnhdpegjkkaabaaLxY
import Derived.Test.YtnhdpegjkkaabaaLxQ
namespace Go.Proofs.Ytnhdpegjkkaabaa
set_option linter.unusedVariables false
set_option linter.unusedSimpArgs false
open Go.RowKit

theorem toList_nil {s : ByteArray} : (s.toList == []) = decide (s.size = 0) := by
  rw [ByteArray.toList_eq]
  have : s.size = s.data.toList.length := rfl
  cases h : s.data.toList with
  | nil => rw [this, h]; rfl
  | cons a l => rw [this, h]; simp

set_option maxRecDepth 10000 in
set_option maxHeartbeats 800000 in
theorem ident_any (s : ByteArray) (w : World) : Calls Try.prog 59 #[.string s] w fun e w' => e = .returned (.bool (idB s)) ∧ Below w.heap.size w w' := by
  have hkw := Lib.hid (keyword_any s)
  by_cases h0 : s.size = 0
  · have hn : (s.toList == []) = true := by rw [toList_nil, h0]; rfl
    have hid : idB s = false := by
      have : bts s = [] := List.eq_nil_of_length_eq_zero (by rw [bts_len, h0])
      unfold idB
      rw [this]
      simp [identL]
    have HI := Lib.hid hid
    clear h0 hid
    go_enter Try.func59, Try.ntmps59
    go_wp2
    go_ret
    exact ⟨ret_bool HI.out.symm, Below.refl _ _⟩
  · have hn : (s.toList == []) = false := by rw [toList_nil]; simpa using h0
    by_cases h24 : 24 < s.size
    · have h24' : (24 : Int) < (s.size : Int) := by omega
      have hid : idB s = false := by unfold idB; rw [show decide (s.size ≤ 24) = false by simp; omega]; rfl
      have HI := Lib.hid hid
      clear hid
      go_enter Try.func59, Try.ntmps59
      go_wp2
      go_ret
      exact ⟨ret_bool HI.out.symm, Below.refl _ _⟩
    · have h24' : ¬ (24 : Int) < (s.size : Int) := by omega
      cases hk : kwB s with
      | true =>
        have hid : idB s = false := by unfold idB; rw [hk]; simp
        have HI := Lib.hid hid
        have HK := Lib.hid hk
        clear hid hk
        go_enter Try.func59, Try.ntmps59
        go_wp2_with (first
          | (go_at_call 68; refine (hkw.out _).mono ?_; rintro e w' ⟨rfl, rfl⟩; rw [HK.out])
          | fail)
        go_ret
        exact ⟨ret_bool HI.out.symm, Below.refl _ _⟩
      | false =>
        have hlen : 0 < (bts s).length := by rw [bts_len]; omega
        have hid : idB s = (tk (bts s) == 2 && ((tl (bts s) : Int) == (s.size : Int))) := by
          unfold idB
          rw [hk, ident_tok hlen, bts_len, show decide (s.size ≤ 24) = true by simp; omega]
          simp
        have HI := Lib.hid hid
        have HK := Lib.hid hk
        obtain ⟨wl, cc, hcv, hxw, hbw, hc1, hc2⟩ := convS (w := w) (B := w.heap.size) s (bts s) rfl (by omega) (Nat.le_refl _)
        have hto := tokenAt_any _ s.size cc 0 (bts s) wl hxw (by omega) hc1 hc2 (by omega)
        rw [List.drop_zero, Nat.zero_add] at hto
        have HT := Lib.hid hto
        have HBW := Lib.hid hbw
        have hz := zeroTok
        obtain ⟨K, hK⟩ : ∃ K, tk (bts s) = K := ⟨_, rfl⟩
        obtain ⟨T, hT⟩ : ∃ T, tl (bts s) = T := ⟨_, rfl⟩
        rw [hK, hT] at HT HI
        clear hid hk hto hbw hxw hc1 hc2 hK hT hlen
        have hcs : ((K == 2) = false) ∨ ((K == 2) = true ∧ ((T : Int) == (s.size : Int)) = false) ∨ ((K == 2) = true ∧ ((T : Int) == (s.size : Int)) = true) := by
          cases h2 : (K == 2)
          · exact .inl rfl
          · cases h3 : ((T : Int) == (s.size : Int))
            · exact .inr (.inl ⟨rfl, rfl⟩)
            · exact .inr (.inr ⟨rfl, rfl⟩)
        obtain ⟨r, hr⟩ : ∃ r, idB s = r := ⟨_, rfl⟩
        rw [hr] at HI ⊢
        clear hr
        rcases hcs with h2 | ⟨h2, h3⟩ | ⟨h2, h3⟩
        all_goals
          simp only [h2] at HI
          try simp only [h3] at HI
          go_enter Try.func59, Try.ntmps59
          go_wp2_with (first
            | (go_at_call 68; refine (hkw.out _).mono ?_; rintro e w' ⟨rfl, rfl⟩; rw [HK.out])
            | (go_at_call 69; refine HT.out.mono ?_; rintro e w1 ⟨rfl, b1⟩; have B1 := Lib.hid b1; clear b1; dsimp only)
            | fail)
          go_ret
          exact ⟨ret_bool HI.out.symm, HBW.out.trans (B1.out.mono HBW.out.size)⟩

set_option maxRecDepth 10000 in
set_option maxHeartbeats 800000 in
theorem rident_any (s : ByteArray) (w : World) (hs : s.size ≤ 1000000) : Calls Try.prog 40 #[.string s] w fun e w' => e = .returned (.bool (idB s)) ∧ Below w.heap.size w w' := by
  have hkw := Lib.hid (rkeyword_any s)
  have hbl := Lib.hid (bts_len s)
  go_enter Try.func40, Try.ntmps40
  go_wp2
  go_loopw [3] (fun i wr => ∃ k : Nat, i = .int .i64 (k : Int) ∧ k ≤ s.size ∧ (∀ j, j < k → kd ((bts s).getD j 0) = 2 ∨ (j ≠ 0 ∧ kd ((bts s).getD j 0) = 3)) ∧ wr = w) (fun i _ => s.size - (intOf i).toNat)
  case atStart => exact ⟨0, rfl, Nat.zero_le _, fun j hj => absurd hj (Nat.not_lt_zero _), rfl⟩
  case round =>
    obtain ⟨k, rfl, hk, hall, rfl⟩ := hrel
    have HA := Lib.hid hall
    clear hall
    by_cases hlt : k < s.size
    · have hx : ((s[k]'hlt).toNat : Int) = (bts s).getD k 0 := bts_at rfl hlt
      obtain ⟨x, hx0⟩ : ∃ x, (bts s).getD k 0 = x := ⟨_, rfl⟩
      rw [hx0] at hx
      have HX := Lib.hid hx0
      clear hx0
      by_cases hok : kd x = 2 ∨ (k ≠ 0 ∧ kd x = 3)
      · have HO : Hid (∀ j, j < k + 1 → kd ((bts s).getD j 0) = 2 ∨ (j ≠ 0 ∧ kd ((bts s).getD j 0) = 3)) := Lib.hid fun j hj => by
          rcases Nat.lt_or_ge j k with e | e
          · exact HA.out j e
          · obtain rfl : j = k := by omega
            rw [HX.out]; exact hok
        have hok' : (kd x == 2) = true ∨ ((kd x == 2) = false ∧ ((k : Int) == 0) = false ∧ (kd x == 3) = true) := by
          by_cases h2 : kd x = 2
          · exact .inl (by simp [h2])
          · rcases hok with h | ⟨h, h3⟩
            · exact absurd h h2
            · exact .inr ⟨by simpa using h2, by simp; omega, by simp [h3]⟩
        clear hok
        rcases hok' with l2 | ⟨l2, h0, l3⟩
        all_goals
          go_wp2_with (first
            | (go_at_call 56; refine (letter_any _ _).mono ?_; rintro e1 w' ⟨rfl, rfl⟩; rw [l2])
            | (go_at_call 57; refine (digit_any _ _).mono ?_; rintro e1 w' ⟨rfl, rfl⟩; rw [l3])
            | fail)
          go_roundw
          case rel => exact ⟨k + 1, by go_num, hlt, HO.out, (by trivial)⟩
          case measure => simp [intOf]; omega
      · have hno : identL (bts s) = false := ident_no (j := k) (by rw [hbl.out]; exact hlt) (by
          rw [HX.out]
          by_cases h2 : kd x = 2
          · exact absurd (.inl h2) hok
          · refine ⟨h2, ?_⟩
            by_cases h3 : k = 0
            · exact .inl h3
            · exact .inr fun h => hok (.inr ⟨h3, h⟩))
        have hid : idB s = false := by unfold idB; rw [hno]; simp
        have HI := Lib.hid hid
        have hok' : (kd x == 2) = false ∧ (((k : Int) == 0) = true ∨ (((k : Int) == 0) = false ∧ (kd x == 3) = false)) := by
          have h2 : kd x ≠ 2 := fun h => hok (.inl h)
          refine ⟨by simpa using h2, ?_⟩
          by_cases h3 : k = 0
          · exact .inl (by simp [h3])
          · exact .inr ⟨by simp; omega, by simpa using fun h => hok (.inr ⟨h3, h⟩)⟩
        clear hok hno hid
        obtain ⟨l2, hh⟩ := hok'
        rcases hh with h0 | ⟨h0, l3⟩
        all_goals
          go_wp2_with (first
            | (go_at_call 56; refine (letter_any _ _).mono ?_; rintro e1 w' ⟨rfl, rfl⟩; rw [l2])
            | (go_at_call 57; refine (digit_any _ _).mono ?_; rintro e1 w' ⟨rfl, rfl⟩; rw [l3])
            | fail)
          go_ret
          exact ⟨ret_bool HI.out.symm, Below.refl _ _⟩
    · obtain rfl : k = s.size := by omega
      by_cases h1 : 1 ≤ s.size
      · have hyes : identL (bts s) = true := ident_yes (by rw [hbl.out]; omega) (by rw [hbl.out]; exact HA.out)
        have hid : idB s = (decide (s.size ≤ 24) && !(kwB s)) := by unfold idB; rw [hyes]; simp
        have HI := Lib.hid hid
        have h1' : (1 : Int) ≤ (s.size : Int) := by omega
        clear hyes hid
        by_cases h24 : s.size ≤ 24
        · have h24' : (s.size : Int) ≤ 24 := by omega
          have HD := Lib.hid (show decide (s.size ≤ 24) = true by simpa using h24)
          go_wp2_with (first
            | (go_at_call 58; refine (hkw.out _).mono ?_; rintro e1 w1 ⟨rfl, b1⟩)
            | fail)
          go_ret
          exact ⟨ret_bool (by rw [HI.out, HD.out]; rfl), b1⟩
        · have h24' : ¬ (s.size : Int) ≤ 24 := by omega
          have HD := Lib.hid (show decide (s.size ≤ 24) = false by simpa using h24)
          go_wp2
          go_ret
          exact ⟨ret_bool (by rw [HI.out, HD.out]; rfl), Below.refl _ _⟩
      · have hid : idB s = false := by
          have : bts s = [] := List.eq_nil_of_length_eq_zero (by rw [bts_len]; omega)
          unfold idB
          rw [this]
          simp [identL]
        have HI := Lib.hid hid
        have h1' : ¬ (1 : Int) ≤ (s.size : Int) := by omega
        clear hid
        go_wp2
        go_ret
        exact ⟨ret_bool HI.out.symm, Below.refl _ _⟩
end Go.Proofs.Ytnhdpegjkkaabaa
