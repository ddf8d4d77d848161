/-
  Any two numbers' sum and product, and any list's sum, are the true ones where they fit 64 bits with a sign, and too great where they do not. It holds for every two such numbers and any list of them; of more than 100 numbers it says that the document's examples hold.
-/
import Derived.Test.YtmodcdpljflmaaaAwake
import Derived.Test.YtmodcdpljflmaaaMul
import Derived.OpenShut
namespace Go.Proofs.Ytmodcdpljflmaaa
set_option linter.unusedVariables false
set_option linter.unusedSimpArgs false
open Go.RowKit

set_option maxRecDepth 100000 in
set_option maxHeartbeats 800000 in
theorem numSums_long (a b : Int) (A : Option Addr) (l c : Nat) (w : World) (h : 100 < l) (hl : l ≤ maxLen) :
    Calls Try.prog 5 #[.int .i64 a, .int .i64 b, .slice A l c] w fun e w' => e = .returned (.bool true) ∧ Below w.heap.size w w' := by
  unfold maxLen at hl
  go_enter Try.func5, Try.ntmps5
  go_wp2_with fail
  refine (awake_any _).mono ?_
  rintro e w4 ⟨rfl, hb4⟩
  go_wp2
  go_ret
  exact ⟨rfl, hb4⟩

/-- The two ways to add come to the same. -/
theorem adds (a b : Int) (ha : In64 a) (hb : In64 b) : ∃ (s g : Int) (ok : Bool), (g = 0 ∧ ok = true ∨ g = 18 ∧ ok = false) ∧
    (∀ w, Calls Try.prog 20 #[.int .i64 a, .int .i64 b] w fun e w' => e = .returned (.tuple #[.int .i64 s, .int .i64 g]) ∧ w = w') ∧
    (∀ w, Calls Try.prog 22 #[.int .i64 a, .int .i64 b] w fun e w' => e = .returned (.tuple #[.int .i64 s, .bool ok]) ∧ w = w') := by
  by_cases h : In64 (a + b)
  · exact ⟨_, _, _, .inl ⟨rfl, rfl⟩, fun w => add_yes a b w ha hb h, fun w => rAdd_yes a b w ha hb h⟩
  · exact ⟨_, _, _, .inr ⟨rfl, rfl⟩, fun w => add_no a b w ha hb h, fun w => rAdd_no a b w ha hb h⟩
theorem muls (a b : Int) (ha : In64 a) (hb : In64 b) : ∃ (s g : Int) (ok : Bool), (g = 0 ∧ ok = true ∨ g = 18 ∧ ok = false) ∧
    (∀ w, Calls Try.prog 21 #[.int .i64 a, .int .i64 b] w fun e w' => e = .returned (.tuple #[.int .i64 s, .int .i64 g]) ∧ w = w') ∧
    (∀ w, Calls Try.prog 23 #[.int .i64 a, .int .i64 b] w fun e w' => e = .returned (.tuple #[.int .i64 s, .bool ok]) ∧ w = w') := by
  by_cases h : In64 (a * b)
  · exact ⟨_, _, _, .inl ⟨rfl, rfl⟩, fun w => mul_yes a b w ha hb h, fun w => rMul_yes a b w ha hb h⟩
  · exact ⟨_, _, _, .inr ⟨rfl, rfl⟩, fun w => mul_no a b w ha hb h, fun w => rMul_no a b w ha hb h⟩

set_option maxRecDepth 100000 in
set_option maxHeartbeats 6400000 in
theorem numSums_short (a b : Int) (A : Option Addr) (l c : Nat) (xs : List Int) (w : World) (ha : In64 a) (hb : In64 b) (h : ¬ 100 < l) (hm : Sh w w.heap.size A l (i64s xs)) (hw : Ints xs) :
    Calls Try.prog 5 #[.int .i64 a, .int .i64 b, .slice A l c] w fun e w' => e = .returned (.bool true) ∧ Below w.heap.size w w' := by
  have hnl : xs.length = l := by have := hm.len; simpa [i64s] using this
  obtain ⟨s, g, ok, hgo, hA1, hA2⟩ := adds a b ha hb
  obtain ⟨p, f, is, hfi, hM1, hM2⟩ := muls a b ha hb
  have HA1 := Lib.hid hA1
  have HA2 := Lib.hid hA2
  have HM1 := Lib.hid hM1
  have HM2 := Lib.hid hM2
  have HN := Lib.hid hnl
  clear hA1 hA2 hM1 hM2 hnl
  rcases hgo with ⟨rfl, rfl⟩ | ⟨rfl, rfl⟩ <;> rcases hfi with ⟨rfl, rfl⟩ | ⟨rfl, rfl⟩
  all_goals
    go_enter Try.func5, Try.ntmps5
    go_wp2_with fail
    refine (HA1.out w).mono ?_
    rintro e w' ⟨rfl, rfl⟩
    go_wp2_with fail
    refine (HM1.out w).mono ?_
    rintro e w' ⟨rfl, rfl⟩
    go_wp2_with fail
    refine (HA2.out w).mono ?_
    rintro e w' ⟨rfl, rfl⟩
    go_wp2_with fail
    refine (HM2.out w).mono ?_
    rintro e w' ⟨rfl, rfl⟩
    go_wp2_with fail
    go_loop [15, 16] (fun t i => ∃ (k : Nat) (v : Int), k ≤ l ∧ i = .int .i64 k ∧ t = .int .i64 v ∧ In64 v ∧ sums v (xs.drop k) = sums 0 xs) (fun _ i => l - (intOf i).toNat)
    case atStart => exact ⟨0, 0, Nat.zero_le _, rfl, rfl, in64_zero _ rfl, rfl⟩
    case round =>
      obtain ⟨k, v, hk, rfl, rfl, hv, hs⟩ := hrel
      by_cases hlt : k < l
      · obtain ⟨bb, off, rfl, hbb, hc⟩ := hm.i64 hlt
        have hd := drop_at xs k (by rw [HN.out]; exact hlt)
        have hby := hw.get (k := k) (by rw [HN.out]; exact hlt)
        obtain ⟨x, hx0⟩ : ∃ x, x = xs.getD k 0 := ⟨_, rfl⟩
        rw [← hx0] at hc hd hby
        clear hx0
        rw [hd] at hs
        have HS := Lib.hid hs
        clear hs hd
        go_wp2_with fail
        by_cases hf : In64 (v + x)
        · have HS2 : Hid (sums (v + x) (xs.drop (k + 1)) = sums 0 xs) := Lib.hid (by have := HS.out; rwa [sums, if_pos (in64B_yes hf)] at this)
          refine (rAdd_yes v x w hv hby hf).mono ?_
          rintro e w' ⟨rfl, rfl⟩
          have HF := Lib.hid hf
          go_wp2
          go_round
          case rel => exact ⟨k + 1, v + x, by omega, by go_num, rfl, HF.out, HS2.out⟩
          case measure => simp [intOf]; omega
        · have HS2 : Hid (sums 0 xs = none) := Lib.hid (by have := HS.out; rw [sums, if_neg (by rw [in64B_no hf]; simp)] at this; exact this.symm)
          refine (rAdd_no v x w hv hby hf).mono ?_
          rintro e w' ⟨rfl, rfl⟩
          go_wp2_with fail
          refine (sum_none _ l c xs w w.heap.size hm (by omega) hw HS2.out).mono ?_
          rintro e w' ⟨rfl, rfl⟩
          go_wp2_with fail
          refine (awake_any _).mono ?_
          rintro e w4 ⟨rfl, hb4⟩
          go_wp2
          go_ret
          exact ⟨rfl, hb4⟩
      · obtain rfl : k = l := by omega
        rw [List.drop_eq_nil_of_le (by rw [HN.out]; exact Nat.le_refl _)] at hs
        have HS := Lib.hid hs
        clear hs
        go_wp2_with fail
        refine (sum_some _ k c xs w w.heap.size v hm (by omega) hw HS.out.symm).mono ?_
        rintro e w' ⟨rfl, rfl⟩
        go_wp2_with fail
        refine (awake_any _).mono ?_
        rintro e w4 ⟨rfl, hb4⟩
        go_wp2
        go_ret
        exact ⟨rfl, hb4⟩

theorem numSums_walk (a0 a1 : Int) (a2 : Option Addr) (len2 cap2 : Nat) (z2 : List Int) (w : World) (w0 : (Lit.int .i64 a0).wf = true) (w1 : (Lit.int .i64 a1).wf = true) (w2 : IsRow .i64 w a2 len2 cap2 z2) :
    Calls Try.prog 5 #[.int .i64 a0, .int .i64 a1, .slice a2 len2 cap2] w fun e w' => e = .returned (.bool true) ∧ Below w.heap.size w w' := by
  obtain ⟨hlc, hcm, _, hsh, hwf⟩ := w2.sh
  by_cases h : 100 < len2
  · exact numSums_long a0 a1 a2 len2 cap2 w h (by omega)
  · exact numSums_short a0 a1 a2 len2 cap2 (z2.take len2) w (bounds_i64 w0) (bounds_i64 w1) h hsh (fun x hx => bounds_i64 (hwf x hx))
end Go.Proofs.Ytmodcdpljflmaaa
