/-
  What was laid is read again, whatever stands behind it; what was added is taken away again; a short form that is cut is too short. It holds for every number, two numbers with a sign, and any bytes; of more than 200 bytes it says that the document's examples hold.
-/
import Derived.Test.YtmodcdpljflmaaaNumLongerW
import Derived.Test.YtmodcdpljflmaaaGet
namespace Go.Proofs.Ytmodcdpljflmaaa
set_option linter.unusedVariables false
set_option linter.unusedSimpArgs false
open Go.RowKit

set_option maxRecDepth 10000 in
set_option maxHeartbeats 800000 in
theorem numBack_long (n : Nat) (a b : Int) (A : Option Addr) (l c : Nat) (w : World) (h : 200 < l) (hl : l ≤ maxLen) :
    Calls Try.prog 6 #[.int .u64 n, .int .i64 a, .int .i64 b, .slice A l c] w fun e w' => e = .returned (.bool true) ∧ Below w.heap.size w w' := by
  unfold maxLen at hl
  go_enter Try.func6, Try.ntmps6
  go_wp2_with fail
  refine (awake_any _).mono ?_
  rintro e w4 ⟨rfl, hb4⟩
  go_wp2
  go_ret
  exact ⟨rfl, hb4⟩

set_option maxRecDepth 10000 in
set_option maxHeartbeats 800000 in
theorem numBack_short (n : Nat) (a b : Int) (A : Option Addr) (l c : Nat) (more : List Int) (w : World) (hn : U64 n) (ha : In64 a) (hb : In64 b) (h : ¬ 200 < l) (hm : Sh w w.heap.size A l (by8 more)) (hby : Bytes more) :
    Calls Try.prog 6 #[.int .u64 n, .int .i64 a, .int .i64 b, .slice A l c] w fun e w' => e = .returned (.bool true) ∧ Below w.heap.size w w' := by
  have h10 := short_ten hn
  go_enter Try.func6, Try.ntmps6
  go_wp2_with fail
  refine (put_nil n w hn).mono ?_
  rintro e w1 ⟨F, d, rfl, ho1, hb1⟩
  have hl1 : (by8 more).length = l := hm.len
  have HL := Lib.hid hl1
  clear hl1
  have hmax : (l : Int) ≤ 200 := by omega
  go_wp2_with (first
    | (at_builtin; refine wpList_more rfl (.tmp 27) (.tmp 28) 23 rfl rowB w1 (w1.alloc (.cells #[] 5)) w1.heap.size _ 0 [] (by8 (short n)) rfl (Own.empty w1 w1.heap.size 5 1 (Nat.le_refl _)) w1.heap.size F _ d rfl (ho1.sh.alloc (Nat.le_refl _) _) (by8_one _) ((Below.refl _ _).alloc (Nat.le_refl _) _) (by omega) (by omega) ?_; intro v2 w2 ho2 hb2; have ho2 := ho2.cast (Nat.zero_add _) (List.nil_append _))
    | (at_builtin; refine wpList_more rfl (.tmp 29) (.tmp 30) 23 rfl rowB w1 w2 w1.heap.size _ (short n).length (by8 (short n)) (by8 more) rfl ho2 w.heap.size A l c rfl ((hm.below hb1).up hb2 hb1.size) (by8_one _) hb2 (by omega) (by omega) ?_; intro v3 w3 ho3 hb3; have ho3 := ho3.cast rfl (by8_append _ _).symm; obtain ⟨G, g, rfl⟩ := ho3.form)
    | fail)
  have hpos := short_pos n
  refine (get_of G _ g (short n ++ more) w3 w3.heap.size n (short n).length 0 0 ho3.sh (by omega) (Bytes.append (short_bytes n) hby) (gets_back hn more) rfl).mono ?_
  rintro e w4 ⟨rfl, hq4⟩
  have hcap := ho1.cap.1
  have hpi : (1 : Int) ≤ ((short n).length : Int) := by omega
  have hF : Sh w4 w1.heap.size F (short n).length (by8 (short n)) := (ho1.sh.below hb3).below (hq4.below _)
  have hS : (w.heap.size ≤ w4.heap.size) := by rw [hq4.size]; exact Nat.le_trans hb1.size hb3.size
  have hB4 : Below w.heap.size w w4 := (hb1.trans (hb3.mono hb1.size)).trans (hq4.below _)
  have hget : ∀ k, k < (short n).length → Calls Try.prog 10 #[.slice F k d] w4 fun e w' => e = .returned (.tuple #[.int .u64 ((0 : Nat) : Int), .int .i64 ((0 : Nat) : Int), .int .i64 2]) ∧ Quiet w4 w' := fun k hk =>
    get_of F k d ((short n).take k) w4 w1.heap.size 0 0 2 2 (by have := hF.head (k := k) (by omega); rwa [by8_take] at this) (by omega) (Bytes.take (short_bytes n) k) (gets_less hn hk) rfl
  have HG := Lib.hid hget
  clear hget
  have ht1 : In64 (a + b) ∨ ¬ In64 (a + b) := Classical.em _
  unfold In64 at ha hb ht1
  go_wp2_with fail
  all_goals
    refine (HG.out _ (by omega)).mono ?_
    rintro e w5 ⟨rfl, hq5⟩
    have hB5 : Below w.heap.size w w5 := hB4.trans (hq5.below _)
    have hS5 : w.heap.size ≤ w5.heap.size := hB5.size
    go_wp2_with fail
    rcases ht1 with hs | hs
    · refine (add_yes a b w5 ha hb hs).mono ?_
      rintro e w6 ⟨rfl, rfl⟩
      by_cases hL : b = -9223372036854775808
      · have hLb : ((b : Int) == -9223372036854775808) = true := by simp [hL]
        clear hL
        go_wp2_with fail
        refine (awake_any _).mono ?_
        rintro e w7 ⟨rfl, hb7⟩
        go_wp2
        go_ret
        exact ⟨rfl, hB5.trans (hb7.mono hS5)⟩
      · have hLb : ((b : Int) == -9223372036854775808) = false := by simp [hL]
        have hb' : -9223372036854775807 ≤ b := by omega
        have he : a + b + -b = a := by omega
        go_wp2_with fail
        refine (add_yes (a + b) (-b) w5 hs (by unfold In64; omega) (by unfold In64; omega)).mono ?_
        rintro e w6 ⟨rfl, rfl⟩
        go_wp2_with fail
        refine (awake_any _).mono ?_
        rintro e w7 ⟨rfl, hb7⟩
        go_wp2
        go_ret
        exact ⟨rfl, hB5.trans (hb7.mono hS5)⟩
    · refine (add_no a b w5 ha hb hs).mono ?_
      rintro e w6 ⟨rfl, rfl⟩
      go_wp2_with fail
      refine (awake_any _).mono ?_
      rintro e w7 ⟨rfl, hb7⟩
      go_wp2
      go_ret
      exact ⟨rfl, hB5.trans (hb7.mono hS5)⟩

theorem numBack_walk (a0 a1 a2 : Int) (a3 : Option Addr) (len3 cap3 : Nat) (z3 : List Int) (w : World) (w0 : (Lit.int .u64 a0).wf = true) (w1 : (Lit.int .i64 a1).wf = true) (w2 : (Lit.int .i64 a2).wf = true) (w3 : IsRow .u8 w a3 len3 cap3 z3) :
    Calls Try.prog 6 #[.int .u64 a0, .int .i64 a1, .int .i64 a2, .slice a3 len3 cap3] w fun e w' => e = .returned (.bool true) ∧ Below w.heap.size w w' := by
  obtain ⟨n, rfl, hn⟩ := nat_u64 w0
  obtain ⟨hlc, hcm, _, hsh, hwf⟩ := w3.sh
  by_cases h : 200 < len3
  · exact numBack_long n a1 a2 a3 len3 cap3 w h (by omega)
  · exact numBack_short n a1 a2 a3 len3 cap3 (z3.take len3) w hn (bounds_i64 w1) (bounds_i64 w2) h hsh (fun x hx => bounds_u8 (hwf x hx))
end Go.Proofs.Ytmodcdpljflmaaa
