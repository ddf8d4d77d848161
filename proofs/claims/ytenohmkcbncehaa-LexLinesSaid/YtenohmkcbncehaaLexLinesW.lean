/-
  blazonlaw06.LexLines is true for every input: any place of any bytes has the line and the column that the document says.
  Conditions: none beyond the statement's own.
-/
import Derived.Test.YtenohmkcbncehaaLxN
namespace Go.Proofs.Ytenohmkcbncehaa
set_option linter.unusedVariables false
set_option linter.unusedSimpArgs false
open Go.RowKit

theorem lexLines_long (A : Option Addr) (n c : Nat) (x : Int) (w : World) (h : 500 < n) (hm : n ≤ maxLen) :
    Calls Try.prog 6 #[.slice A n c, .int .i64 x] w fun e w' => e = .returned (.bool true) ∧ Below w.heap.size w w' := by
  unfold maxLen at hm
  have hlt : (500 : Int) < (n : Int) := by omega
  go_enter Try.func6, Try.ntmps6
  go_wp2_with (go_at_call 8; refine (awake_any _).mono ?_; rintro e w1 ⟨rfl, b1⟩)
  go_ret
  exact ⟨rfl, b1⟩

set_option maxRecDepth 10000 in
set_option maxHeartbeats 800000 in
theorem lexLines_short (A : Option Addr) (n c : Nat) (bs : List Int) (x : Int) (w : World) (h : ¬ 500 < n) (hnc : n ≤ c) (hcm : c ≤ maxLen) (hx : Sh w w.heap.size A n (by8 bs)) (hb : Byt8 bs) :
    Calls Try.prog 6 #[.slice A n c, .int .i64 x] w fun e w' => e = .returned (.bool true) ∧ Below w.heap.size w w' := by
  have hl : bs.length = n := by have := hx.len; rwa [by8_len] at this
  have HL := Lib.hid hl
  have HX := Lib.hid hx
  obtain ⟨m, hm⟩ : ∃ m : Nat, m = (min (max x 0) (n : Int)).toNat := ⟨_, rfl⟩
  have HLI := Lib.hid (line_any A n c m bs x w hx (by omega) hnc hcm hb hm)
  have hmn : m ≤ n := by omega
  have hma : ∀ k : Nat, k < m → (k : Int) < x := fun k hk => by omega
  have hmb : ∀ k : Nat, k ≤ m → ¬ k < m → ¬ (k < n ∧ (k : Int) < x) := fun k h1 h2 => by omega
  have HMA := Lib.hid hma
  have HMB := Lib.hid hmb
  have hlt : ¬ (500 : Int) < (n : Int) := by omega
  clear hl hx hb hm hcm hma hmb
  go_enter Try.func6, Try.ntmps6
  go_wp2
  go_loopw [5, 6, 7] (fun a b i wr => ∃ (k : Nat) (v : Int), i = .int .i64 (k : Int) ∧ a = .int .i64 (1 + (cntN bs k : Int)) ∧ b = .int .i64 ((k : Int) - v) ∧ IsLast bs k v ∧ k ≤ m ∧ wr = w) (fun _ _ i _ => n - (intOf i).toNat)
  case atStart => exact ⟨0, -1, rfl, rfl, rfl, IsLast.zero _, Nat.zero_le _, rfl⟩
  case round =>
    obtain ⟨k, v, rfl, rfl, rfl, hv, hk, rfl⟩ := hrel
    have HV := Lib.hid hv
    obtain ⟨r0, r1⟩ := hv.range
    have hcl := cntN_le bs k
    clear hv
    by_cases hkm : k < m
    · obtain ⟨b, off, rfl, hbb, hc⟩ := HX.out.byte (k := k) (by omega)
      have hkx := HMA.out k hkm
      have hkn : (k : Int) < (n : Int) := by omega
      have HCS := Lib.hid (cntN_succ (xs := bs) (m := k) (by rw [HL.out]; omega))
      obtain ⟨y, hy⟩ : ∃ y, bs.getD k 0 = y := ⟨_, rfl⟩
      rw [hy] at hc HCS
      have HY := Lib.hid hy
      clear hy
      obtain ⟨q, hq⟩ : ∃ q, cntN bs k = q := ⟨_, rfl⟩
      rw [hq] at hcl HCS ⊢
      clear hq
      by_cases h10 : y = 10
      · subst h10
        go_wp2
        go_roundw
        case rel =>
          refine ⟨k + 1, (k : Int), by go_num, by rw [HCS.out, if_pos rfl]; go_num, by go_num, IsLast.yes HY.out, hkm, (by trivial)⟩
        case measure => simp [intOf]; omega
      · have hne : (y == 10) = false := by simpa using h10
        have HN := Lib.hid h10
        clear h10
        go_wp2
        go_roundw
        case rel =>
          refine ⟨k + 1, v, by go_num, by rw [HCS.out, if_neg HN.out]; go_num, by go_num, HV.out.no (by rw [HY.out]; exact HN.out), hkm, (by trivial)⟩
        case measure => simp [intOf]; omega
    · have hkm' : k = m := by omega
      have hno := HMB.out k hk hkm
      have hno' : ¬ (k : Int) < (n : Int) ∨ ((k : Int) < (n : Int) ∧ ¬ (k : Int) < x) := by omega
      clear hno hkm
      subst hkm'
      obtain ⟨q, hq⟩ : ∃ q, cntN bs k = q := ⟨_, rfl⟩
      have HLI2 : Hid (Calls Try.prog 22 #[.slice A n c, .int .i64 x] wr fun e w' => e = .returned (.tuple #[.int .i64 (1 + (q : Int)), .int .i64 ((k : Int) - v)]) ∧ Below wr.heap.size wr w') := Lib.hid (by
        refine HLI.out.mono ?_
        rintro e w' ⟨⟨u, he, hu⟩, hb⟩
        rw [hu.unique HV.out, hq] at he
        exact ⟨he, hb⟩)
      rw [hq] at hcl ⊢
      clear hq HLI
      have e1 : ((1 : Int) + (q : Int) == 1 + (q : Int)) = true := by simp
      have e2 : ((k : Int) - v == (k : Int) - v) = true := by simp
      rcases hno' with h1 | ⟨h1, h2⟩
      all_goals
        go_wp2_with (first
          | (go_at_call 22; refine HLI2.out.mono ?_; rintro e w1 ⟨rfl, b1⟩)
          | (go_at_call 8; refine (awake_any _).mono ?_; rintro e w2 ⟨rfl, b2⟩)
          | fail)
        go_ret
        exact ⟨rfl, b1.trans (b2.mono b1.size)⟩

theorem lexLines_walk (a0 : Option Addr) (len0 cap0 : Nat) (z0 : List Int) (a1 : Int) (w : World) (w0 : IsRow .u8 w a0 len0 cap0 z0) (w1 : (Lit.int .i64 a1).wf = true) :
    Calls Try.prog 6 #[.slice a0 len0 cap0, .int .i64 a1] w fun e w' => e = .returned (.bool true) ∧ Below w.heap.size w w' := by
  obtain ⟨l0, m0, _, s0, b0⟩ := w0.sh
  by_cases h : 500 < len0
  · exact lexLines_long _ _ _ _ _ h (by omega)
  · exact lexLines_short _ _ _ _ _ _ h l0 m0 s0 (byt8_of b0)
end Go.Proofs.Ytenohmkcbncehaa
