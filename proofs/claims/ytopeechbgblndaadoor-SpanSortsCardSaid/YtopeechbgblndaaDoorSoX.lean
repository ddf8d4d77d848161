/-
  rotate at edits, by its row.
-/
import Derived.Test.YtopeechbgblndaaDoorSoW
namespace Go.Proofs.YtopeechbgblndaaDoor
set_option linter.unusedVariables false
set_option linter.unusedSimpArgs false
open Go.RowKit Go.Lib Go.Sort

set_option maxHeartbeats 1000000 in
set_option maxRecDepth 1000000 in
/-- Two rows, one behind the other, change places. -/
theorem rotate_any (g cap a m b : Nat) (d0 : Array Ed) (w0 w : World) (P U V R : List Ed) (hR : RowK ecell 3 w0 g 0 d0) (n : Nat) (hn : n = d0.size) (hS : SWE w0 g (P ++ U ++ V ++ R) w) (hs : (P ++ U ++ V ++ R).length = n)
    (ha : a = P.length) (hm : m = P.length + U.length) (hb : b = P.length + U.length + V.length) (hU : 0 < U.length) (hV : 0 < V.length) (hsz : n ≤ 100000) :
    Calls Tryd.prog 40 #[.slice (some ⟨g, 0, none⟩) n cap, .int .i64 a, .int .i64 m, .int .i64 b, cmpV] w fun e w' => e = .returned (.tuple #[]) ∧ SWE w0 g (P ++ V ++ U ++ R) w' := by
  simp only [List.length_append] at hs
  have HS := Lib.hid hS
  have HN := Lib.hid hs
  have HA := Lib.hid ha
  have HM := Lib.hid hm
  have HB := Lib.hid hb
  have hmn : m ≤ n := by omega
  have hbn : b ≤ n := by omega
  have ham : a < m := by omega
  have hmb : m < b := by omega
  have HNN := Lib.hid hn
  clear hS hs ha hm hb hn
  go_enter Tryd.func40, Tryd.ntmps40
  go_wp2
  go_loopw [10, 11] (fun vi vj wr => ∃ (P' U' V' R' : List Ed) (i j : Nat), vi = .int .i64 (i : Int) ∧ vj = .int .i64 (j : Int) ∧ U'.length = i ∧ V'.length = j ∧ 0 < i ∧ 0 < j ∧ P'.length + i = m ∧ m + j ≤ n ∧ P'.length + i + j + R'.length = n ∧ SWE w0 g (P' ++ U' ++ V' ++ R') wr ∧ P' ++ V' ++ U' ++ R' = P ++ V ++ U ++ R) (fun vi vj _ => (intOf vi).toNat + (intOf vj).toNat)
  case atStart => exact ⟨P, U, V, R, m - a, b - m, by go_num, by go_num, by have := HA.out; have := HM.out; omega, by have := HM.out; have := HB.out; omega, by omega, by omega, by have := HA.out; have := HM.out; omega, by omega, by have := HN.out; have := HA.out; have := HM.out; have := HB.out; omega, HS.out, rfl⟩
  case round =>
    obtain ⟨P', U', V', R', i, j, rfl, rfl, hu, hv, hi, hj, hpm, hmj, hlen, hw, he⟩ := hrel
    have HW := Lib.hid hw
    have HE := Lib.hid he
    have HU := Lib.hid hu
    have HV := Lib.hid hv
    have HL := Lib.hid hlen
    have HPM := Lib.hid hpm
    clear hw he hu hv hlen hpm
    obtain ⟨p, hp⟩ : ∃ p, m - i = p := ⟨_, rfl⟩
    have HP := Lib.hid hp
    have r1 : IntKind.i64.wrap ((m : Int) - (i : Int)) = (p : Int) := (IntWalk.i64_in _ (by have := HPM.out; omega)).trans (by have := HPM.out; omega)
    have r1' : (m : Int) - (i : Int) = (p : Int) := by have := HPM.out; omega
    clear hp
    rcases Nat.lt_trichotomy i j with hij | hij | hij
    · have t1 : ((i : Int) != (j : Int)) = true := by simp; omega
      have t2 : ¬ (j : Int) < (i : Int) := by omega
      obtain ⟨q, hq⟩ : ∃ q, m + j - i = q := ⟨_, rfl⟩
      have r2 : IntKind.i64.wrap ((m : Int) + (j : Int)) = (m : Int) + (j : Int) := IntWalk.i64_in _ (by omega)
      have r3 : IntKind.i64.wrap ((m : Int) + (j : Int) - (i : Int)) = (q : Int) := (IntWalk.i64_in _ (by omega)).trans (by omega)
      have r3' : (m : Int) + (j : Int) - (i : Int) = (q : Int) := by omega
      have HQ := Lib.hid hq
      clear hq
      have HC : Hid (Calls Tryd.prog 41 #[.slice (some ⟨g, 0, none⟩) n cap, .int .i64 (p : Int), .int .i64 (q : Int), .int .i64 (i : Int), cmpV] wr fun e w' => e = .returned (.tuple #[]) ∧ Hid (SWE w0 g (P' ++ V'.drop (j - i) ++ V'.take (j - i) ++ (U' ++ R')) w')) := Lib.hid (by
        have e1 : P' ++ U' ++ V' ++ R' = P' ++ U' ++ V'.take (j - i) ++ V'.drop (j - i) ++ R' := by
          conv => lhs; rw [← List.take_append_drop (j - i) V']
          simp only [List.append_assoc]
        have h1 := HU.out
        have h2 := HV.out
        have h3 := HPM.out
        have h4 := HL.out
        have h5 := HP.out
        have h6 := HQ.out
        have hw := HW.out
        rw [e1] at hw
        refine (swapRange_any g cap p q i d0 w0 wr P' U' (V'.take (j - i)) (V'.drop (j - i)) R' hR n HNN.out hw (by simp only [List.length_append, List.length_take, List.length_drop]; omega) (by omega) h1 (by rw [List.length_drop]; omega) (by rw [List.length_take]; omega) hsz).mono ?_
        rintro e w' ⟨he, hw'⟩
        refine ⟨he, Lib.hid ?_⟩
        have e2 : P' ++ V'.drop (j - i) ++ V'.take (j - i) ++ U' ++ R' = P' ++ V'.drop (j - i) ++ V'.take (j - i) ++ (U' ++ R') := by simp only [List.append_assoc]
        rw [e2] at hw'
        exact hw')
      go_wp2_with (first
        | (go_at_call 41; refine HC.out.mono ?_; rintro e w2 ⟨rfl, H2⟩)
        | fail)
      go_roundw
      case rel =>
        refine ⟨P', V'.drop (j - i), V'.take (j - i), U' ++ R', i, j - i, rfl, by go_num, by have := HV.out; rw [List.length_drop]; omega, by have := HV.out; rw [List.length_take]; omega, hi, by omega, HPM.out, by omega, ?_, H2.out, ?_⟩
        · have := HU.out; have := HL.out; rw [List.length_append]; omega
        · rw [← HE.out]
          conv => rhs; rw [← List.take_append_drop (j - i) V']
          simp only [List.append_assoc]
      case measure => simp [intOf]; omega
    · subst hij
      have t1 : ((i : Int) != (i : Int)) = false := by simp
      have HC : Hid (Calls Tryd.prog 41 #[.slice (some ⟨g, 0, none⟩) n cap, .int .i64 (p : Int), .int .i64 (m : Int), .int .i64 (i : Int), cmpV] wr fun e w' => e = .returned (.tuple #[]) ∧ Hid (SWE w0 g (P ++ V ++ U ++ R) w')) := Lib.hid (by
        have h1 := HU.out
        have h2 := HV.out
        have h3 := HPM.out
        have h4 := HL.out
        have h5 := HP.out
        have hw := HW.out
        have e1 : P' ++ U' ++ V' ++ R' = P' ++ U' ++ [] ++ V' ++ R' := by simp
        rw [e1] at hw
        refine (swapRange_any g cap p m i d0 w0 wr P' U' [] V' R' hR n HNN.out hw (by simp only [List.length_append, List.length_nil]; omega) (by omega) h1 h2 (by simp only [List.length_nil]; omega) hsz).mono ?_
        rintro e w' ⟨he, hw'⟩
        refine ⟨he, Lib.hid ?_⟩
        rw [← HE.out]
        simpa using hw')
      go_wp2_with (first
        | (go_at_call 41; refine HC.out.mono ?_; rintro e w2 ⟨rfl, H2⟩)
        | fail)
      go_end0
      exact ⟨rfl, H2.out⟩
    · have t1 : ((i : Int) != (j : Int)) = true := by simp; omega
      have t2 : (j : Int) < (i : Int) := by omega
      have HC : Hid (Calls Tryd.prog 41 #[.slice (some ⟨g, 0, none⟩) n cap, .int .i64 (p : Int), .int .i64 (m : Int), .int .i64 (j : Int), cmpV] wr fun e w' => e = .returned (.tuple #[]) ∧ Hid (SWE w0 g (P' ++ V' ++ U'.drop j ++ U'.take j ++ R') w')) := Lib.hid (by
        have e1 : P' ++ U' ++ V' ++ R' = P' ++ U'.take j ++ U'.drop j ++ V' ++ R' := by
          conv => lhs; rw [← List.take_append_drop j U']
          simp only [List.append_assoc]
        have h1 := HU.out
        have h2 := HV.out
        have h3 := HPM.out
        have h4 := HL.out
        have h5 := HP.out
        have hw := HW.out
        rw [e1] at hw
        refine (swapRange_any g cap p m j d0 w0 wr P' (U'.take j) (U'.drop j) V' R' hR n HNN.out hw (by simp only [List.length_append, List.length_take, List.length_drop]; omega) (by omega) (by rw [List.length_take]; omega) h2 (by rw [List.length_take, List.length_drop]; omega) hsz).mono ?_
        rintro e w' ⟨he, hw'⟩
        exact ⟨he, Lib.hid hw'⟩)
      go_wp2_with (first
        | (go_at_call 41; refine HC.out.mono ?_; rintro e w2 ⟨rfl, H2⟩)
        | fail)
      go_roundw
      case rel =>
        refine ⟨P' ++ V', U'.drop j, U'.take j, R', i - j, j, by go_num, rfl, by have := HU.out; rw [List.length_drop]; omega, by have := HU.out; rw [List.length_take]; omega, by omega, hj, ?_, hmj, ?_, H2.out, ?_⟩
        · have := HV.out; have := HPM.out; rw [List.length_append]; omega
        · have := HV.out; have := HL.out; rw [List.length_append]; omega
        · rw [← HE.out]
          conv => rhs; rw [← List.take_append_drop j U']
          simp only [List.append_assoc]
      case measure => simp [intOf]; omega
end Go.Proofs.YtopeechbgblndaaDoor
