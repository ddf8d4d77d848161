/-
  CONTRACTS OF 'disk.Name' and 'blazonref03.Name'.
-/
import Derived.Test.YtekhockdgglndaaDState
import Derived.IntWalk
namespace Go.Proofs.Ytekhockdgglndaa
set_option linter.unusedVariables false
set_option linter.unusedSimpArgs false
open Go.RowKit

def chOk (c : Nat) : Bool := decide (97 ≤ c ∧ c ≤ 122) || decide (48 ≤ c ∧ c ≤ 57) || decide (c = 45) || decide (c = 46) || decide (c = 126)
def charsB (l : Nm) : Bool := l.all fun c => chOk c.toNat
def nameB (l : Nm) : Bool := decide (1 ≤ l.length ∧ l.length ≤ 24) && charsB l
theorem str_snoc (s : ByteArray) (k : Nat) (h : k < s.size) : s.data.toList.take (k + 1) = s.data.toList.take k ++ [s[k]] := by
  rw [List.take_succ_eq_append_getElem (by simpa using h)]; rfl
theorem chars_snoc (l : Nm) (c : UInt8) : charsB (l ++ [c]) = (charsB l && chOk c.toNat) := by simp [charsB]
theorem chars_bad {l : Nm} {k : Nat} {c : UInt8} (h : l[k]? = some c) (hc : chOk c.toNat = false) : charsB l = false := by
  unfold charsB
  rw [List.all_eq_false]
  exact ⟨c, List.mem_of_getElem? h, by simp [hc]⟩
theorem str_at (s : ByteArray) (k : Nat) (h : k < s.size) : s.data.toList[k]? = some s[k] := by
  rw [List.getElem?_eq_getElem (by simpa using h)]; rfl
theorem name_of {s : ByteArray} (h : charsB s.data.toList = false) : nameB s.data.toList = false := by simp [nameB, h]
theorem name_all {s : ByteArray} (h1 : 1 ≤ s.size) (h2 : s.size ≤ 24) (h : charsB (s.data.toList.take s.size) = true) : nameB s.data.toList = true := by
  rw [List.take_of_length_le (by simp)] at h
  simp [nameB, h, h1, h2]
theorem name_len {s : ByteArray} (h : ¬ (1 ≤ s.size ∧ s.size ≤ 24)) : nameB s.data.toList = false := by
  unfold nameB
  rw [decide_eq_false (by simpa using h)]
  rfl

set_option maxRecDepth 10000 in
set_option maxHeartbeats 1600000 in
theorem name_any (s : ByteArray) (w : World) (hs : s.size ≤ maxLen) : Calls Try.prog 14 #[.string s] w fun e w' => e = .returned (.bool (nameB s.data.toList)) ∧ w = w' := by
  unfold maxLen at hs
  by_cases hlen : 1 ≤ s.size ∧ s.size ≤ 24
  · obtain ⟨h1, h2⟩ := hlen
    go_enter Try.func14, Try.ntmps14
    go_wp2
    go_loop [15] (fun i => ∃ k : Nat, k ≤ s.size ∧ i = .int .i64 k ∧ Hid (charsB (s.data.toList.take k) = true)) (fun i => s.size - (intOf i).toNat)
    case atStart => exact ⟨0, Nat.zero_le _, rfl, rfl⟩
    case round =>
      obtain ⟨k, hk, rfl, hc⟩ := hrel
      by_cases hlt : k < s.size
      · have HB := Lib.hid (fun h => name_of (chars_bad (str_at s k hlt) h))
        have HG := Lib.hid (fun h : chOk s[k].toNat = true => (by rw [str_snoc s k hlt, chars_snoc, hc.out, h]; rfl : charsB (s.data.toList.take (k + 1)) = true))
        have hb : s[k].toNat < 256 := s[k].toNat_lt
        generalize hx : s[k].toNat = x at HB HG hb
        have hcase : (x < 45 ∨ x = 47 ∨ (58 ≤ x ∧ x ≤ 96) ∨ (123 ≤ x ∧ x ≤ 125) ∨ 127 ≤ x) ∨ (x = 45 ∨ x = 46 ∨ x = 126) ∨ (48 ≤ x ∧ x ≤ 57) ∨ (97 ≤ x ∧ x ≤ 122) := by omega
        rcases hcase with hbad | (rfl | rfl | rfl) | hd | hl
        · have hno : chOk x = false := by simp [chOk]; omega
          have H := Lib.hid (HB.out hno)
          have e1 : ((x : Int) == 45) = false := by simp; omega
          have e2 : ((x : Int) == 46) = false := by simp; omega
          have e3 : ((x : Int) == 126) = false := by simp; omega
          clear hno HB HG
          rcases hbad with h | rfl | ⟨h, h'⟩ | ⟨h, h'⟩ | h
          all_goals
            go_wp2
            go_ret
            exact ⟨ret_bool H.out.symm, rfl⟩
        · go_wp2
          go_round
          case rel => exact ⟨k + 1, by omega, by go_num, HG.out (by decide)⟩
          case measure => simp [intOf]; omega
        · go_wp2
          go_round
          case rel => exact ⟨k + 1, by omega, by go_num, HG.out (by decide)⟩
          case measure => simp [intOf]; omega
        · go_wp2
          go_round
          case rel => exact ⟨k + 1, by omega, by go_num, HG.out (by decide)⟩
          case measure => simp [intOf]; omega
        · have H := Lib.hid (HG.out (by simp [chOk]; omega))
          have e1 : ((x : Int) == 45) = false := by simp; omega
          have e2 : ((x : Int) == 46) = false := by simp; omega
          have e3 : ((x : Int) == 126) = false := by simp; omega
          go_wp2
          go_round
          case rel => exact ⟨k + 1, by omega, by go_num, H.out⟩
          case measure => simp [intOf]; omega
        · have H := Lib.hid (HG.out (by simp [chOk]; omega))
          have e1 : ((x : Int) == 45) = false := by simp; omega
          have e2 : ((x : Int) == 46) = false := by simp; omega
          have e3 : ((x : Int) == 126) = false := by simp; omega
          go_wp2
          go_round
          case rel => exact ⟨k + 1, by omega, by go_num, H.out⟩
          case measure => simp [intOf]; omega
      · obtain rfl : k = s.size := by omega
        have H := Lib.hid (name_all h1 h2 hc.out)
        go_wp2
        go_ret
        exact ⟨ret_bool H.out.symm, rfl⟩
  · have H := Lib.hid (name_len hlen)
    by_cases h1 : s.size < 1
    all_goals
      go_enter Try.func14, Try.ntmps14
      go_wp2
      go_ret
      exact ⟨ret_bool H.out.symm, rfl⟩

set_option maxRecDepth 10000 in
set_option maxHeartbeats 1600000 in
theorem refName_any (s : ByteArray) (w : World) (hs : s.size ≤ maxLen) : Calls Try.prog 15 #[.string s] w fun e w' => e = .returned (.bool (nameB s.data.toList)) ∧ w = w' := by
  unfold maxLen at hs
  go_enter Try.func15, Try.ntmps15
  go_wp2
  go_loop [3] (fun i => ∃ k : Nat, k ≤ s.size ∧ i = .int .i64 k ∧ Hid (charsB (s.data.toList.take k) = true)) (fun i => s.size - (intOf i).toNat)
  case atStart => exact ⟨0, Nat.zero_le _, rfl, rfl⟩
  case round =>
    obtain ⟨k, hk, rfl, hc⟩ := hrel
    by_cases hlt : k < s.size
    · have HB := Lib.hid (fun h => name_of (chars_bad (str_at s k hlt) h))
      have HG := Lib.hid (fun h : chOk s[k].toNat = true => (by rw [str_snoc s k hlt, chars_snoc, hc.out, h]; rfl : charsB (s.data.toList.take (k + 1)) = true))
      have hb : s[k].toNat < 256 := s[k].toNat_lt
      generalize hx : s[k].toNat = x at HB HG hb
      have hcase : (x < 45 ∨ x = 47 ∨ (58 ≤ x ∧ x ≤ 96) ∨ (123 ≤ x ∧ x ≤ 125) ∨ 127 ≤ x) ∨ (x = 45 ∨ x = 46 ∨ x = 126) ∨ (48 ≤ x ∧ x ≤ 57) ∨ (97 ≤ x ∧ x ≤ 122) := by omega
      rcases hcase with hbad | (rfl | rfl | rfl) | hd | hl
      · have hno : chOk x = false := by simp [chOk]; omega
        have H := Lib.hid (HB.out hno)
        have e1 : ((x : Int) != 45) = true := by simp; omega
        have e2 : ((x : Int) != 46) = true := by simp; omega
        have e3 : ((x : Int) != 126) = true := by simp; omega
        clear hno HB HG
        rcases hbad with h | rfl | ⟨h, h'⟩ | ⟨h, h'⟩ | h
        · go_wp2
          go_ret
          exact ⟨ret_bool H.out.symm, rfl⟩
        · go_wp2
          go_ret
          exact ⟨ret_bool H.out.symm, rfl⟩
        · have d4 : decide ((x : Int) ≤ 57) = false := by simp; omega
          go_wp2
          go_ret
          exact ⟨ret_bool H.out.symm, rfl⟩
        · have d4 : decide ((x : Int) ≤ 57) = false := by simp; omega
          have d2 : decide ((x : Int) ≤ 122) = false := by simp; omega
          go_wp2
          go_ret
          exact ⟨ret_bool H.out.symm, rfl⟩
        · have d4 : decide ((x : Int) ≤ 57) = false := by simp; omega
          have d2 : decide ((x : Int) ≤ 122) = false := by simp; omega
          go_wp2
          go_ret
          exact ⟨ret_bool H.out.symm, rfl⟩
      · go_wp2
        go_round
        case rel => exact ⟨k + 1, by omega, by go_num, HG.out (by decide)⟩
        case measure => simp [intOf]; omega
      · go_wp2
        go_round
        case rel => exact ⟨k + 1, by omega, by go_num, HG.out (by decide)⟩
        case measure => simp [intOf]; omega
      · go_wp2
        go_round
        case rel => exact ⟨k + 1, by omega, by go_num, HG.out (by decide)⟩
        case measure => simp [intOf]; omega
      · have H := Lib.hid (HG.out (by simp [chOk]; omega))
        have e1 : ((x : Int) != 45) = true := by simp; omega
        have e2 : ((x : Int) != 46) = true := by simp; omega
        have e3 : ((x : Int) != 126) = true := by simp; omega
        go_wp2
        go_round
        case rel => exact ⟨k + 1, by omega, by go_num, H.out⟩
        case measure => simp [intOf]; omega
      · have H := Lib.hid (HG.out (by simp [chOk]; omega))
        have e1 : ((x : Int) != 45) = true := by simp; omega
        have e2 : ((x : Int) != 46) = true := by simp; omega
        have e3 : ((x : Int) != 126) = true := by simp; omega
        go_wp2
        go_round
        case rel => exact ⟨k + 1, by omega, by go_num, H.out⟩
        case measure => simp [intOf]; omega
    · obtain rfl : k = s.size := by omega
      by_cases h1 : 1 ≤ s.size
      · by_cases h2 : s.size ≤ 24
        · have H := Lib.hid (name_all h1 h2 hc.out)
          go_wp2
          go_ret
          exact ⟨ret_bool (by rw [H.out]; simp; omega), rfl⟩
        · have H := Lib.hid (name_len (s := s) (by omega))
          go_wp2
          go_ret
          exact ⟨ret_bool (by rw [H.out]; simp; omega), rfl⟩
      · have H := Lib.hid (name_len (s := s) (by omega))
        go_wp2
        go_ret
        exact ⟨ret_bool H.out.symm, rfl⟩
end Go.Proofs.Ytekhockdgglndaa
