import Derived.Test.YtpllkjfdaenalaaGreatDoorSq
import Derived.Test.YtpllkjfdaenalaaGreatDoorRowB
namespace Go.Proofs.YtpllkjfdaenalaaGreatDoor
set_option linter.unusedVariables false
set_option linter.unusedSimpArgs false
open Go.RowKit
set_option maxRecDepth 10000 in
set_option maxHeartbeats 800000 in
theorem lent_any (A : Option Addr) (n c : Nat) (xs : List Int) (w : World) (U : Nat) (hx : Sh w U A n (by8 xs)) (hn : n ≤ 1000000) (hU : U ≤ w.heap.size) :
  Calls Tryz.prog 9 #[.slice A n c] w fun e w' => ∃ G g, e = .returned (.slice G n g) ∧ Own w' w.heap.size 5 1 (.slice G (n + 3) g) (n + 3) (by8 (xs ++ [77, 78, 79])) ∧ Below w.heap.size w w' := by
 go_enter Tryz.func9, Tryz.ntmps9
 go_wp2_with (first
  | (at_builtin; refine wpList_more rfl (.tmp 4) (.tmp 5) 22 rfl rowB w (w.alloc (.cells #[] 5)) w.heap.size _ 0 [] (by8 xs) rfl (Own.empty w w.heap.size 5 1 nLe) U A n c rfl (hx.alloc hU _) (by8_one _) bAl (by omega) (by omega) ?_; intro v1 w1 ho1 hb1; have ho1 := ho1.cast (Nat.zero_add _) (List.nil_append _))
  | (at_builtin; refine wpList_more rfl (.tmp 7) (.tmp 8) 22 rfl rowB w _ w.heap.size _ n (by8 xs) (by8 [77, 78, 79]) rfl (ho1.alloc _) (w1.heap.size + 1) (some ⟨w1.heap.size, 0, none⟩) 3 3 rfl (Sh.lit w1 (by8 [77, 78, 79]) 5) (by8_one _) (hb1.alloc hb1.size _) (by omega) (by omega) ?_; intro v2 w2 ho2 hb2; have ho2 := ho2.cast rfl (by8_append _ _).symm; obtain ⟨G, g, rfl⟩ := ho2.form; have hg := ho2.cap.1)
  | fail)
 go_ret
 exact ⟨G, g, rfl, ho2, hb2⟩
set_option maxRecDepth 10000 in
set_option maxHeartbeats 800000 in
theorem kept_yes (A D : Option Addr) (n c d : Nat) (xs : List Int) (w : World) (U V : Nat) (hx : Sh w U A (n + 3) (by8 (xs ++ [77, 78, 79]))) (hc : n + 3 ≤ c) (hd : Sh w V D n (by8 xs)) (hn : n ≤ 1000000) :
  Calls Tryz.prog 13 #[.slice A n c, .slice D n d] w fun e w' => e = .returned (.bool true) ∧ Quiet w w' := by
 have hl : xs.length = n := by have := hd.len; rwa [by8_len] at this
 have h0 := hx.byte (k := n) (by omega)
 have h1 := hx.byte (k := n + 1) (by omega)
 have h2 := hx.byte (k := n + 2) (by omega)
 have e0 : (xs ++ [77, 78, 79]).getD n 0 = (77 : Int) := by simp [← hl]
 have e1 : (xs ++ [77, 78, 79]).getD (n + 1) 0 = (78 : Int) := by simp [← hl]
 have e2 : (xs ++ [77, 78, 79]).getD (n + 2) 0 = (79 : Int) := by simp [← hl]
 rw [e0] at h0
 rw [e1] at h1
 rw [e2] at h2
 clear e0 e1 e2
 have hh := hx.head (k := n) (by omega)
 rw [by8_take, List.take_append_of_le_length (by omega), List.take_of_length_le (by omega)] at hh
 have hh := Lh hh
 clear hx hl
 obtain ⟨b, off, rfl, _, c0⟩ := h0
 obtain ⟨_, _, q1, _, c1⟩ := h1
 obtain ⟨_, _, q2, _, c2⟩ := h2
 cases q1; cases q2
 go_enter Tryz.func13, Tryz.ntmps13
 go_wp2_with fail
 refine (same_yes _ D n n c d xs xs w U V hh.out hd (by unfold maxLen; omega) rfl).mono ?_
 rintro e w1 ⟨rfl, q, rfl⟩
 go_wp2
 go_ret
 exact ⟨rfl, Quiet.one _ _⟩
end Go.Proofs.YtpllkjfdaenalaaGreatDoor
