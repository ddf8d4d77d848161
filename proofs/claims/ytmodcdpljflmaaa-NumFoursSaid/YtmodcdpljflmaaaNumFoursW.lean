/-
  Any number's four bytes, behind any bytes, are the least one first; any four bytes are read as that number, and fewer are too short. It holds for every number of 32 bits and any bytes; of more than 2000 bytes it says that the document's examples hold.
-/
import Derived.Test.YtmodcdpljflmaaaNumLongerW
import Derived.Test.YtmodcdpljflmaaaFours
namespace Go.Proofs.Ytmodcdpljflmaaa
set_option linter.unusedVariables false
set_option linter.unusedSimpArgs false
open Go.RowKit

set_option maxRecDepth 10000 in
set_option maxHeartbeats 800000 in
theorem numFours_long (n : Nat) (A : Option Addr) (l c : Nat) (w : World) (h : 2000 < l) (hl : l ≤ maxLen) :
    Calls Try.prog 4 #[.int .u32 n, .slice A l c] w fun e w' => e = .returned (.bool true) ∧ Below w.heap.size w w' := by
  unfold maxLen at hl
  go_enter Try.func4, Try.ntmps4
  go_wp2_with fail
  refine (awake_any _).mono ?_
  rintro e w4 ⟨rfl, hb4⟩
  go_wp2
  go_ret
  exact ⟨rfl, hb4⟩

set_option maxRecDepth 10000 in
set_option maxHeartbeats 1600000 in
theorem numFours_short (n : Nat) (A : Option Addr) (l c : Nat) (xs : List Int) (w : World) (hn : U32 n) (h : ¬ 2000 < l) (hm : Sh w w.heap.size A l (by8 xs)) (hby : Bytes xs) :
    Calls Try.prog 4 #[.int .u32 n, .slice A l c] w fun e w' => e = .returned (.bool true) ∧ Below w.heap.size w w' := by
  have hmax : (l : Int) ≤ 2000 := by omega
  go_enter Try.func4, Try.ntmps4
  go_wp2_with (at_builtin; refine wpList_more rfl (.tmp 12) (.tmp 13) 23 rfl rowB w (w.alloc (.cells #[] 5)) w.heap.size _ 0 [] (by8 xs) rfl (Own.empty w w.heap.size 5 1 (Nat.le_refl _)) w.heap.size A l c rfl (hm.alloc (Nat.le_refl _) _) (by8_one _) ((Below.refl _ _).alloc (Nat.le_refl _) _) (by omega) (by omega) ?_; intro v1 w1 ho1 hb1; have ho1 := ho1.cast (Nat.zero_add _) (List.nil_append _); obtain ⟨F, f, rfl⟩ := ho1.form)
  refine (put4_any F l f xs n w1 w1.heap.size ho1.sh (by omega) hn).mono ?_
  rintro e w2 ⟨v2, rfl, ho2, hb2⟩
  obtain ⟨G, g, rfl⟩ := ho2.form
  have hbw2 : Below w.heap.size w w2 := hb1.trans (hb2.mono hb1.size)
  go_wp2_with fail
  by_cases h4 : l < 4
  · refine (get4_short A l c w2 h4).mono ?_
    rintro e w3 ⟨rfl, rfl⟩
    go_wp2_with (first
      | (at_builtin; refine wpList_more rfl (.tmp 33) (.tmp 34) 23 rfl rowB w2 (w2.alloc (.cells #[] 5)) w2.heap.size _ 0 [] (by8 xs) rfl (Own.empty w2 w2.heap.size 5 1 (Nat.le_refl _)) w.heap.size A l c rfl ((hm.below hbw2).alloc hbw2.size _) (by8_one _) ((Below.refl _ _).alloc (Nat.le_refl _) _) (by omega) (by omega) ?_; intro v3 w3 ho3 hb3; have ho3 := ho3.cast (Nat.zero_add _) (List.nil_append _))
      | fail)
    refine (four_any n w3 hn).mono ?_
    rintro e w4 ⟨v4, rfl, ho4, hb4⟩
    obtain ⟨D, d, rfl⟩ := ho4.form
    go_wp2_with (at_builtin; refine wpList_more rfl (.tmp 35) (.tmp 37) 23 rfl rowB w2 w4 w2.heap.size _ l (by8 xs) (by8 (digs 4 n)) rfl (ho3.below hb4) w4.heap.size D 4 d rfl ho4.sh (by8_one _) (hb3.trans (hb4.mono hb3.size)) (by omega) (by omega) ?_; intro v5 w5 ho5 hb5; have ho5 := ho5.cast rfl (by8_append _ _).symm; obtain ⟨E, k, rfl⟩ := ho5.form)
    refine (same_yes G E (l + 4) (l + 4) g k (xs ++ digs 4 n) (xs ++ digs 4 n) w5 w2.heap.size w5.heap.size (ho2.sh.below hb5) ho5.sh (by unfold maxLen; omega) rfl).mono ?_
    rintro e w6 ⟨rfl, hq⟩
    go_wp2_with fail
    refine (awake_any _).mono ?_
    rintro e w7 ⟨rfl, hb7⟩
    go_wp2
    go_ret
    have hb6 : Below w.heap.size w w6 := (hbw2.trans (hb5.mono hbw2.size)).trans (hq.below _)
    exact ⟨rfl, hb6.trans (hb7.mono hb6.size)⟩
  · refine (get4_any A l c xs w2 w.heap.size (hm.below hbw2) (by omega) (by omega) hby).mono ?_
    rintro e w3 ⟨rfl, hq3⟩
    have hbw3 : Below w.heap.size w w3 := hbw2.trans (hq3.below _)
    have hb23 : Below w2.heap.size w2 w3 := hq3.below _
    go_wp2_with fail
    refine (number_any A l c xs w3 w.heap.size (hm.below hbw3) (by omega) (by omega) hby).mono ?_
    rintro e w3' ⟨rfl, rfl⟩
    go_wp2_with (first
      | (at_builtin; refine wpList_more rfl (.tmp 54) (.tmp 55) 23 rfl rowB w3 (w3.alloc (.cells #[] 5)) w3.heap.size _ 0 [] (by8 xs) rfl (Own.empty w3 w3.heap.size 5 1 (Nat.le_refl _)) w.heap.size A l c rfl ((hm.below hbw3).alloc hbw3.size _) (by8_one _) ((Below.refl _ _).alloc (Nat.le_refl _) _) (by omega) (by omega) ?_; intro v4 w4 ho4 hb4; have ho4 := ho4.cast (Nat.zero_add _) (List.nil_append _))
      | fail)
    refine (four_any n w4 hn).mono ?_
    rintro e w5 ⟨v5, rfl, ho5, hb5⟩
    obtain ⟨D, d, rfl⟩ := ho5.form
    go_wp2_with (at_builtin; refine wpList_more rfl (.tmp 56) (.tmp 58) 23 rfl rowB w3 w5 w3.heap.size _ l (by8 xs) (by8 (digs 4 n)) rfl (ho4.below hb5) w5.heap.size D 4 d rfl ho5.sh (by8_one _) (hb4.trans (hb5.mono hb4.size)) (by omega) (by omega) ?_; intro v6 w6 ho6 hb6; have ho6 := ho6.cast rfl (by8_append _ _).symm; obtain ⟨E, k, rfl⟩ := ho6.form)
    refine (same_yes G E (l + 4) (l + 4) g k (xs ++ digs 4 n) (xs ++ digs 4 n) w6 w2.heap.size w6.heap.size ((ho2.sh.below hb23).up hb6 hb23.size) ho6.sh (by unfold maxLen; omega) rfl).mono ?_
    rintro e w7 ⟨rfl, hq⟩
    go_wp2_with fail
    refine (awake_any _).mono ?_
    rintro e w8 ⟨rfl, hb8⟩
    go_wp2
    go_ret
    have hb7 : Below w.heap.size w w7 := (hbw3.trans (hb6.mono hbw3.size)).trans (hq.below _)
    exact ⟨rfl, hb7.trans (hb8.mono hb7.size)⟩

theorem nat_u32 {a : Int} (h : (Lit.int .u32 a).wf = true) : ∃ n : Nat, a = n ∧ U32 n := by
  have := bounds_u32 h
  exact ⟨a.toNat, by omega, by unfold U32; omega⟩

theorem numFours_walk (a0 : Int) (a1 : Option Addr) (len1 cap1 : Nat) (z1 : List Int) (w : World) (w0 : (Lit.int .u32 a0).wf = true) (w1 : IsRow .u8 w a1 len1 cap1 z1) :
    Calls Try.prog 4 #[.int .u32 a0, .slice a1 len1 cap1] w fun e w' => e = .returned (.bool true) ∧ Below w.heap.size w w' := by
  obtain ⟨n, rfl, hn⟩ := nat_u32 w0
  obtain ⟨hlc, hcm, _, hsh, hwf⟩ := w1.sh
  by_cases h : 2000 < len1
  · exact numFours_long n a1 len1 cap1 w h (by omega)
  · exact numFours_short n a1 len1 cap1 (z1.take len1) w hn h hsh (fun x hx => bounds_u8 (hwf x hx))
end Go.Proofs.Ytmodcdpljflmaaa
