/-
  blazonlaw16.RowWithin: the walk, over what is asked of tables.
-/
import Derived.Test.YthdfoahnkkkbmaaRwC
import Derived.Test.YthdfoahnkkkbmaaOiA
namespace Go.Proofs.Ythdfoahnkkkbmaa
set_option linter.unusedVariables false
set_option linter.unusedSimpArgs false
open Go.RowKit

def inK (a b j : Nat) : Bool := (List.range j).all fun k => !(a.testBit k) || b.testBit k
def cntK (a j : Nat) : Nat := (List.range j).countP fun k => a.testBit k
theorem inK_succ (a b j : Nat) : inK a b (j + 1) = (inK a b j && (!(a.testBit j) || b.testBit j)) := by simp [inK, List.range_succ]
theorem cntK_succ (a j : Nat) : cntK a (j + 1) = cntK a j + if a.testBit j = true then 1 else 0 := by simp [cntK, List.range_succ, List.countP_append, List.countP_cons]
theorem cntK_le (a j : Nat) : cntK a j ≤ j := by
  have := List.countP_le_length (p := fun k => a.testBit k) (l := List.range j)
  simpa [cntK] using this
theorem inK_all {a b : Nat} (ha : a < 2 ^ 64) : decide (a &&& b = a) = inK a b 64 := by
  rw [Bool.eq_iff_iff, decide_eq_true_eq, within_iff]
  unfold inK
  rw [List.all_eq_true]
  constructor
  · intro h k _
    cases e : a.testBit k with
    | false => rfl
    | true => rw [h k e]; rfl
  · intro h k hk
    by_cases h64 : k < 64
    · have := h k (List.mem_range.2 h64)
      rw [hk] at this
      simpa using this
    · rw [bits_high ha (by omega)] at hk
      cases hk
set_option maxRecDepth 100000 in
set_option maxHeartbeats 800000 in
theorem rowWithin_over (HI : RwAll) (a_ b_ : Int) (ha_ : (Lit.int .u64 a_).wf = true) (hb_ : (Lit.int .u64 b_).wf = true) (w : World) :
    Calls Try.prog 6 #[.int .u64 a_, .int .u64 b_] w fun e w' => e = .returned (.bool true) ∧ Below w.heap.size w w' := by
  obtain ⟨ha0, ha1⟩ := bounds_u64 ha_
  obtain ⟨hb0, hb1⟩ := bounds_u64 hb_
  obtain ⟨a, rfl⟩ : ∃ a : Nat, a_ = a := ⟨a_.toNat, by omega⟩
  obtain ⟨b, rfl⟩ : ∃ b : Nat, b_ = b := ⟨b_.toNat, by omega⟩
  have ha : a < 2 ^ 64 := by omega
  have hb : b < 2 ^ 64 := by omega
  go_enter Try.func6, Try.ntmps6
  go_wp2
  go_loopw [5, 6, 7] (fun v n i wr => ∃ j : Nat, v = .bool (inK a b j) ∧ n = .int .i64 (cntK a j : Int) ∧ i = .int .i64 (j : Int) ∧ j ≤ 64 ∧ wr = w) (fun _ _ i _ => 64 - (intOf i).toNat)
  case atStart => exact ⟨0, rfl, rfl, rfl, Nat.zero_le _, rfl⟩
  case round =>
    obtain ⟨j, rfl, rfl, rfl, hj, rfl⟩ := hrel
    by_cases hlt : j < 64
    · have HA := Lib.hid (rhas_any wr a j ha hlt)
      have HB := Lib.hid (rhas_any wr b j hb hlt)
      have hs := Lib.hid (inK_succ a b j)
      have hc := Lib.hid (cntK_succ a j)
      have hcl := cntK_le a j
      obtain ⟨v, hv⟩ : ∃ v, inK a b j = v := ⟨_, rfl⟩
      obtain ⟨q, hq⟩ : ∃ q, cntK a j = q := ⟨_, rfl⟩
      rw [hv] at hs ⊢
      rw [hq] at hc hcl ⊢
      clear hv hq
      cases ea : a.testBit j with
      | false =>
        rw [ea] at HA hs hc
        go_wp2_with (first
          | (go_at_call 26; (with_reducible refine HA.out.mono ?_); rintro e w2 ⟨rfl, rfl⟩)
          | go_in)
        go_roundw
        case rel => exact ⟨j + 1, by rw [hs.out]; simp, by rw [hc.out]; simp, by go_num, hlt, (by trivial)⟩
        case measure => simp [intOf]; omega
      | true =>
        rw [ea] at HA hs hc
        cases v with
        | false =>
          go_wp2_with (first
            | (go_at_call 26; (with_reducible refine HA.out.mono ?_); rintro e w2 ⟨rfl, rfl⟩)
            | go_in)
          go_roundw
          case rel => exact ⟨j + 1, by rw [hs.out]; simp, by rw [hc.out]; go_num, by go_num, hlt, (by trivial)⟩
          case measure => simp [intOf]; omega
        | true =>
          go_wp2_with (first
            | (go_at_call 26; (with_reducible refine HA.out.mono ?_); rintro e w2 ⟨rfl, rfl⟩)
            | (go_at_call 26; (with_reducible refine HB.out.mono ?_); rintro e w2 ⟨rfl, rfl⟩)
            | go_in)
          go_roundw
          case rel => exact ⟨j + 1, by rw [hs.out]; simp, by rw [hc.out]; go_num, by go_num, hlt, (by trivial)⟩
          case measure => simp [intOf]; omega
    · obtain rfl : j = 64 := by omega
      have HW := Lib.hid (HI.within wr a b ha hb)
      rw [inK_all ha] at HW
      have HC := Lib.hid (fun w => HI.count w a ha)
      rw [popB_count] at HC
      obtain ⟨v, hv⟩ : ∃ v, inK a b 64 = v := ⟨_, rfl⟩
      obtain ⟨q, hq⟩ : ∃ q, cntK a 64 = q := ⟨_, rfl⟩
      rw [hv] at HW ⊢
      unfold cntK at hq ⊢
      rw [hq] at HC ⊢
      clear hv hq
      have hvv : (v == v) = true := by simp
      have hqq : ((q : Int) == (q : Int)) = true := by simp
      go_wp2_with (first
        | (go_at_call 27; (with_reducible refine HW.out.mono ?_); rintro e w2 ⟨rfl, b2⟩; have B2 := Lib.hid b2; clear b2)
        | (go_at_call 28; (with_reducible refine (HC.out _).mono ?_); rintro e w3 ⟨rfl, b3⟩; have B3 := Lib.hid (B2.out.trans (b3.mono B2.out.size)); clear b3)
        | (go_at_call 24; refine (awake16_any HI _).mono ?_; rintro e w9 ⟨rfl, b9⟩)
        | go_in)
      go_ret
      exact ⟨rfl, B3.out.trans (b9.mono B3.out.size)⟩
end Go.Proofs.Ythdfoahnkkkbmaa
