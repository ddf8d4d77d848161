/-
  CONTRACTS OF 'lex.Ident', 'blazonref06.Ident'.
-/
import Derived.Test.YthdfoahnkkkbmaaLxY
import Derived.Test.YthdfoahnkkkbmaaLxQ
namespace Go.Proofs.Ythdfoahnkkkbmaa
set_option linter.unusedVariables false
set_option linter.unusedSimpArgs false
open Go.RowKit

theorem toList_nil {s : ByteArray} : (s.toList == []) = decide (s.size = 0) := by
  rw [ByteArray.toList_eq]
  have : s.size = s.data.toList.length := rfl
  cases h : s.data.toList with
  | nil => rw [this, h]; rfl
  | cons a l => rw [this, h]; simp

set_option maxRecDepth 10000 in
set_option maxHeartbeats 800000 in
theorem ident_any (s : ByteArray) (w : World) : Calls Try.prog 50 #[.string s] w fun e w' => e = .returned (.bool (idB s)) ∧ Below w.heap.size w w' := by
  have hkw := Lib.hid (keyword_any s)
  by_cases h0 : s.size = 0
  · have hn : (s.toList == []) = true := by rw [toList_nil, h0]; rfl
    have hid : idB s = false := by
      have : bts s = [] := List.eq_nil_of_length_eq_zero (by rw [bts_len, h0])
      unfold idB
      rw [this]
      simp [identL]
    have HI := Lib.hid hid
    clear h0 hid
    go_enter Try.func50, Try.ntmps50
    go_wp2
    go_ret
    exact ⟨ret_bool HI.out.symm, Below.refl _ _⟩
  · have hn : (s.toList == []) = false := by rw [toList_nil]; simpa using h0
    by_cases h24 : 24 < s.size
    · have h24' : (24 : Int) < (s.size : Int) := by omega
      have hid : idB s = false := by unfold idB; rw [show decide (s.size ≤ 24) = false by simp; omega]; rfl
      have HI := Lib.hid hid
      clear hid
      go_enter Try.func50, Try.ntmps50
      go_wp2
      go_ret
      exact ⟨ret_bool HI.out.symm, Below.refl _ _⟩
    · have h24' : ¬ (24 : Int) < (s.size : Int) := by omega
      cases hk : kwB s with
      | true =>
        have hid : idB s = false := by unfold idB; rw [hk]; simp
        have HI := Lib.hid hid
        have HK := Lib.hid hk
        clear hid hk
        go_enter Try.func50, Try.ntmps50
        go_wp2_with (first
          | (go_at_call 58; refine (hkw.out _).mono ?_; rintro e w' ⟨rfl, rfl⟩; rw [HK.out])
          | fail)
        go_ret
        exact ⟨ret_bool HI.out.symm, Below.refl _ _⟩
      | false =>
        have hlen : 0 < (bts s).length := by rw [bts_len]; omega
        have hid : idB s = (tk (bts s) == 2 && ((tl (bts s) : Int) == (s.size : Int))) := by
          unfold idB
          rw [hk, ident_tok hlen, bts_len, show decide (s.size ≤ 24) = true by simp; omega]
          simp
        have HI := Lib.hid hid
        have HK := Lib.hid hk
        obtain ⟨wl, cc, hcv, hxw, hbw, hc1, hc2⟩ := convS (w := w) (B := w.heap.size) s (bts s) rfl (by omega) (Nat.le_refl _)
        have hto := tokenAt_any _ s.size cc 0 (bts s) wl hxw (by omega) hc1 hc2 (by omega)
        rw [List.drop_zero, Nat.zero_add] at hto
        have HT := Lib.hid hto
        have HBW := Lib.hid hbw
        have hz := zeroTok
        obtain ⟨K, hK⟩ : ∃ K, tk (bts s) = K := ⟨_, rfl⟩
        obtain ⟨T, hT⟩ : ∃ T, tl (bts s) = T := ⟨_, rfl⟩
        rw [hK, hT] at HT HI
        clear hid hk hto hbw hxw hc1 hc2 hK hT hlen
        have hcs : ((K == 2) = false) ∨ ((K == 2) = true ∧ ((T : Int) == (s.size : Int)) = false) ∨ ((K == 2) = true ∧ ((T : Int) == (s.size : Int)) = true) := by
          cases h2 : (K == 2)
          · exact .inl rfl
          · cases h3 : ((T : Int) == (s.size : Int))
            · exact .inr (.inl ⟨rfl, rfl⟩)
            · exact .inr (.inr ⟨rfl, rfl⟩)
        obtain ⟨r, hr⟩ : ∃ r, idB s = r := ⟨_, rfl⟩
        rw [hr] at HI ⊢
        clear hr
        rcases hcs with h2 | ⟨h2, h3⟩ | ⟨h2, h3⟩
        all_goals
          simp only [h2] at HI
          try simp only [h3] at HI
          go_enter Try.func50, Try.ntmps50
          go_wp2_with (first
            | (go_at_call 58; refine (hkw.out _).mono ?_; rintro e w' ⟨rfl, rfl⟩; rw [HK.out])
            | (go_at_call 59; refine HT.out.mono ?_; rintro e w1 ⟨rfl, b1⟩; have B1 := Lib.hid b1; clear b1; dsimp only)
            | fail)
          go_ret
          exact ⟨ret_bool HI.out.symm, HBW.out.trans (B1.out.mono HBW.out.size)⟩

end Go.Proofs.Ythdfoahnkkkbmaa
