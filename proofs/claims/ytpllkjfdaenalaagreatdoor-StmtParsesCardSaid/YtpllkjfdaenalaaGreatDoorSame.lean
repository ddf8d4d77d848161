import Derived.Test.YtpllkjfdaenalaaGreatDoorSq
import Derived.Test.YtpllkjfdaenalaaGreatDoorRows
import Derived.Test.YtpllkjfdaenalaaGreatDoorMem
import Derived.WalkKit
import Derived.BigQuiet
import Derived.Deep.QuietTactic
import Derived.Lib.Hide
namespace Go.Proofs.YtpllkjfdaenalaaGreatDoor
set_option linter.unusedVariables false
set_option linter.unusedSimpArgs false
open Go.RowKit
theorem ret_bool {a b : Bool} (h : a = b) : Ending.returned (.bool a) = .returned (.bool b) := by rw [h]
theorem take_snoc' (l : List Int) (k : Nat) (h : k < l.length) : l.take (k + 1) = l.take k ++ [l.getD k 0] := by
 rw [List.take_succ_eq_append_getElem h]; simp [h]
set_option maxHeartbeats 400000 in
theorem same_any (A B : Option Addr) (n m c d : Nat) (xs ys : List Int) (w : World) (U V : Nat) (hx : Sh w U A n (by8 xs)) (hy : Sh w V B m (by8 ys)) (hn : n ≤ maxLen) :
  Calls Tryz.prog 39 #[.slice A n c, .slice B m d] w fun e w' => e = .returned (.bool (decide (xs = ys))) ∧ Quiet w w' := by
 unfold maxLen at hn
 have hnl : xs.length = n := by have := hx.len; rwa [by8_len] at this
 have hml : ys.length = m := by have := hy.len; rwa [by8_len] at this
 by_cases hnm : n = m
 ·subst hnm
  have HN := Lh hnl
  have HM := Lh hml
  clear hnl hml
  go_enter Tryz.func39, Tryz.ntmps39
  go_wp2
  go_loopw [5] (fun i wr => ∃ k : Nat, k ≤ n ∧ i = .int .i64 k ∧ xs.take k = ys.take k ∧ Quiet w wr) (fun i _ => n - (intOf i).toNat)
  case atStart => exact ⟨0, Nat.zero_le _, rfl, rfl, Quiet.refl _⟩
  case round =>
   obtain ⟨k, hk, rfl, he, hq⟩ := hrel
   obtain ⟨q, rfl⟩ := hq
   by_cases hlt : k < n
   ·obtain ⟨b, off, rfl, hb, hc⟩ := hx.byte hlt
    obtain ⟨b', off', rfl, hb', hc'⟩ := hy.byte hlt
    have hts := take_snoc' xs k (by rw [HN.out]; exact hlt)
    have htt := take_snoc' ys k (by rw [HM.out]; exact hlt)
    obtain ⟨x, hx0⟩ : ∃ x, x = xs.getD k 0 := ⟨_, rfl⟩
    obtain ⟨y, hy0⟩ : ∃ y, y = ys.getD k 0 := ⟨_, rfl⟩
    rw [← hx0] at hc hts
    rw [← hy0] at hc' htt
    have H1 := Lh hts
    have H2 := Lh htt
    have H3 := Lh he
    have H4 := Lh hx0
    have H5 := Lh hy0
    clear hts htt hx0 hy0 he
    by_cases hxy : x = y
    ·subst hxy
     have hne : (x != x) = false := by simp
     go_wp2
     go_quiet (fail)
     go_wp2
     go_roundw
     case rel => exact ⟨k + 1, by omega, by go_num, by rw [H1.out, H2.out, H3.out], ⟨_, rfl⟩⟩
     case measure => simp [intOf]; omega
    ·have hne : (x != y) = true := by simpa using hxy
     go_wp2
     go_quiet (fail)
     go_wp2
     go_ret
     exact ⟨ret_bool (decide_eq_false fun e => hxy (by rw [H4.out, H5.out, e])).symm, Quiet.two _ _ _⟩
   ·obtain rfl : k = n := by omega
    have H3 := Lh he
    clear he
    go_wp2
    go_ret
    have h := H3.out
    rw [List.take_of_length_le (by rw [HN.out]; exact Nat.le_refl _), List.take_of_length_le (by rw [HM.out]; exact Nat.le_refl _)] at h
    exact ⟨ret_bool (decide_eq_true h).symm, ⟨_, rfl⟩⟩
 ·have hne : ((n : Int) != m) = true := by simp; omega
  have hd : ¬ xs = ys := fun e => by
   subst e
   omega
  have HD := Lh hd
  clear hd hnl hml
  go_enter Tryz.func39, Tryz.ntmps39
  go_wp2
  go_ret
  exact ⟨ret_bool (decide_eq_false HD.out).symm, Quiet.refl _⟩
theorem same_yes (A B : Option Addr) (n m c d : Nat) (xs ys : List Int) (w : World) (U V : Nat) (hx : Sh w U A n (by8 xs)) (hy : Sh w V B m (by8 ys)) (hn : n ≤ maxLen) (h : xs = ys) :
  Calls Tryz.prog 39 #[.slice A n c, .slice B m d] w fun e w' => e = .returned (.bool true) ∧ Quiet w w' :=
 (same_any A B n m c d xs ys w U V hx hy hn).mono fun _ _ ⟨he, hq⟩ => ⟨he.trans (ret_bool (decide_eq_true h)), hq⟩
end Go.Proofs.YtpllkjfdaenalaaGreatDoor
