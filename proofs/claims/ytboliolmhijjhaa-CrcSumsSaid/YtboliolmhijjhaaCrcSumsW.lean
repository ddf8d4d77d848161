/-
  Any bytes' sum is the document's, whatever was summed ahead; any sum goes on as it says; the bytes stay, and calls are counted. It holds for any number and any two rows of bytes; of more than 1000 bytes it says that the document's examples hold.
-/
import Derived.Test.YtboliolmhijjhaaCrcTurnedW
import Derived.Test.YtboliolmhijjhaaCrcRef
import Derived.Test.YtboliolmhijjhaaLent
namespace Go.Proofs.Ytboliolmhijjhaa
set_option linter.unusedVariables false
set_option linter.unusedSimpArgs false
open Go.RowKit

theorem Own.off {w : World} {B n c g : Nat} {e : TypeId} {A : Option Addr} {xs : List Value} (h : Own w B e 1 (.slice A n c) n xs) (hg : g < B) : Off A n g := fun hn a ha => by
  obtain ⟨f, rfl, hf, _⟩ := h.full hn
  cases ha
  simp only
  omega

set_option maxRecDepth 10000 in
set_option maxHeartbeats 800000 in
theorem crcSums_long (r : Int) (A B : Option Addr) (n m c d : Nat) (w : World) (h : 1000 < n ∨ (¬ 1000 < n ∧ 1000 < m)) (hn : n ≤ maxLen) (hm : m ≤ maxLen) :
    Calls Try.prog 3 #[.int .u32 r, .slice A n c, .slice B m d] w fun e w' => e = .returned (.bool true) ∧ Below w.heap.size w w' := by
  unfold maxLen at hn hm
  rcases h with h | ⟨h, h'⟩
  · go_enter Try.func3, Try.ntmps3
    go_wp2_with fail
    refine (awake_any _).mono ?_
    rintro e w4 ⟨rfl, hb4⟩
    go_wp2
    go_ret
    exact ⟨rfl, hb4⟩
  · go_enter Try.func3, Try.ntmps3
    go_wp2_with fail
    refine (awake_any _).mono ?_
    rintro e w4 ⟨rfl, hb4⟩
    go_wp2
    go_ret
    exact ⟨rfl, hb4⟩

set_option maxRecDepth 10000 in
set_option maxHeartbeats 1600000 in
theorem crcSums_short (r : Nat) (A B : Option Addr) (n m c d : Nat) (xs ys : List Int) (w : World) (hr : r < 4294967296) (h1 : ¬ 1000 < n) (h2 : ¬ 1000 < m) (hx : Sh w w.heap.size A n (by8 xs)) (hy : Sh w w.heap.size B m (by8 ys)) (hbx : Byt xs) (hby : Byt ys) :
    Calls Try.prog 3 #[.int .u32 (r : Int), .slice A n c, .slice B m d] w fun e w' => e = .returned (.bool true) ∧ Below w.heap.size w w' := by
  have hnl : xs.length = n := by have := hx.len; rwa [by8_len] at this
  have HN := Lib.hid hnl
  clear hnl
  go_enter Try.func3, Try.ntmps3
  go_wp2_with fail
  with_reducible refine (new_smr _).mono ?_
  rintro e w1 ⟨g, rfl, hg, s1, b1⟩
  have S1 := Lib.hid s1
  have B1 := Lib.hid b1
  have X := Lib.hid (fun w' (b : Below w.heap.size w w') => hx.below b)
  have Y := Lib.hid (fun w' (b : Below w.heap.size w w') => hy.below b)
  have OX := Lib.hid (fun p (h : w.heap.size ≤ p) => hx.off h)
  have OY := Lib.hid (fun p (h : w.heap.size ≤ p) => hy.off h)
  have BX := Lib.hid hbx
  have BY := Lib.hid hby
  clear s1 b1 hx hy hbx hby
  -- s.Of(first)
  go_wp2_with fail
  with_reducible refine (of_any g 0 false B m d ys _ _ S1.out (by omega) (Y.out _ B1.out) (OY.out g hg) BY.out (by omega)).mono ?_
  rintro e w2 ⟨rfl, s2, o2⟩
  have S2 := Lib.hid s2
  have B2 := Lib.hid (B1.out.trans (o2.below hg))
  clear s2 o2
  -- Lent(b)
  go_wp2_with fail
  refine (lent_any A n c xs w2 w.heap.size (X.out _ B2.out) (by omega) B2.out.size).mono ?_
  rintro e w3 ⟨G, f, rfl, ho3, hb3⟩
  have hcap := ho3.cap.1
  have hg2 : g < w2.heap.size := S2.out.lt
  have S3 := Lib.hid (S2.out.below hb3 hg2)
  have B3 := Lib.hid (B2.out.trans (hb3.mono B2.out.size))
  have F3 := Lib.hid ho3.sh
  have OF := Lib.hid (ho3.off hg2)
  have OF' : Off G n g := fun hn => OF.out (by omega)
  have hhead : ∀ {w' : World} {U : Nat}, Sh w' U G (n + 3) (by8 (xs ++ [77, 78, 79])) → Sh w' U G n (by8 xs) := fun {w' U} h => by
    have hh := h.head (k := n) (by omega)
    rwa [by8_take, List.take_append_of_le_length (by rw [HN.out]; omega), List.take_of_length_le (by rw [HN.out]; omega)] at hh
  have HH := Lib.hid (fun w' U h => hhead (w' := w') (U := U) h)
  have OG := Lib.hid OF'
  clear ho3 hb3 hhead OF'
  -- s.Of(in)
  go_wp2_with fail
  with_reducible refine (of_any g 1 true G n f xs _ _ S3.out (by omega) (HH.out _ _ F3.out) OG.out BX.out (by omega)).mono ?_
  rintro e w4 ⟨rfl, s4, o4⟩
  have S4 := Lib.hid s4
  have B4 := Lib.hid (B3.out.trans (o4.below hg))
  have F4 := Lib.hid (F3.out.only o4 OF.out)
  clear s4 o4
  -- ref.Of(b)
  go_wp2_with fail
  with_reducible refine (refOf_any A n c xs _ _ (X.out _ B4.out) BX.out (by omega)).mono ?_
  rintro e w' ⟨rfl, rfl⟩
  -- s.More(sum, in)
  go_wp2_with fail
  with_reducible refine (more_any g 2 true r G n f xs _ _ S4.out (by omega) hr (HH.out _ _ F4.out) OG.out BX.out (by omega)).mono ?_
  rintro e w5 ⟨rfl, s5, o5⟩
  have S5 := Lib.hid s5
  have B5 := Lib.hid (B4.out.trans (o5.below hg))
  have F5 := Lib.hid (F4.out.only o5 OF.out)
  clear s5 o5
  -- ref.More(sum, b)
  go_wp2_with fail
  with_reducible refine (ref_any r A n c xs _ _ hr (X.out _ B5.out) BX.out (by omega)).mono ?_
  rintro e w' ⟨rfl, rfl⟩
  -- Kept
  go_wp2_with fail
  refine (kept_yes G A n f c xs w5 _ _ F5.out hcap (X.out _ B5.out) (by omega)).mono ?_
  rintro e w6 ⟨rfl, hq6⟩
  have S6 := Lib.hid (S5.out.quiet hq6)
  have B6 := Lib.hid (B5.out.trans (hq6.below _))
  clear hq6
  -- Calls
  go_wp2_with fail
  with_reducible refine (calls_any g 3 true w6 S6.out).mono ?_
  rintro e w' ⟨rfl, rfl⟩
  go_wp2_with fail
  with_reducible refine (awake_any _).mono ?_
  rintro e wB ⟨rfl, bB⟩
  have BB := Lib.hid (B6.out.trans (bB.mono B6.out.size))
  clear bB
  go_wp2
  go_ret
  exact ⟨rfl, BB.out⟩

theorem crcSums_walk (a0 : Int) (a1 : Option Addr) (len1 cap1 : Nat) (z1 : List Int) (a2 : Option Addr) (len2 cap2 : Nat) (z2 : List Int) (w : World) (w0 : (Lit.int .u32 a0).wf = true) (w1 : IsRow .u8 w a1 len1 cap1 z1) (w2 : IsRow .u8 w a2 len2 cap2 z2) :
    Calls Try.prog 3 #[.int .u32 a0, .slice a1 len1 cap1, .slice a2 len2 cap2] w fun e w' => e = .returned (.bool true) ∧ Below w.heap.size w w' := by
  obtain ⟨l1, m1, _, s1, b1⟩ := w1.sh
  obtain ⟨l2, m2, _, s2, b2⟩ := w2.sh
  obtain ⟨r, rfl, hr⟩ := u32_of w0
  by_cases h : 1000 < len1
  · exact crcSums_long _ _ _ _ _ _ _ _ (.inl h) (by omega) (by omega)
  · by_cases h' : 1000 < len2
    · exact crcSums_long _ _ _ _ _ _ _ _ (.inr ⟨h, h'⟩) (by omega) (by omega)
    · exact crcSums_short _ _ _ _ _ _ _ _ _ _ hr h h' s1 s2 (byt_of b1) (byt_of b2)
end Go.Proofs.Ytboliolmhijjhaa
