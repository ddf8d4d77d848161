/-
  A sum doesn't hang on what a summer has summed, nor on which one it is, whatever is asked ahead. It holds for any two rows of bytes and any number; of more than 500 bytes it says that the document's examples hold.
-/
import Derived.Test.YtboliolmhijjhaaCrcAwake
namespace Go.Proofs.Ytboliolmhijjhaa
set_option linter.unusedVariables false
set_option linter.unusedSimpArgs false
open Go.RowKit

/-- Bytes that came in. -/
theorem byt_of {l : List Int} (h : ∀ n ∈ l, (Lit.int .u8 n).wf = true) : Byt l := fun x hx => by
  have := bounds_u8 (h x hx)
  omega

set_option maxRecDepth 10000 in
set_option maxHeartbeats 800000 in
theorem crcAgain_long (A B : Option Addr) (n m c d : Nat) (r : Int) (w : World) (h : 500 < n ∨ (¬ 500 < n ∧ 500 < m)) (hn : n ≤ maxLen) (hm : m ≤ maxLen) :
    Calls Try.prog 6 #[.slice A n c, .slice B m d, .int .u32 r] w fun e w' => e = .returned (.bool true) ∧ Below w.heap.size w w' := by
  unfold maxLen at hn hm
  rcases h with h | ⟨h, h'⟩
  · go_enter Try.func6, Try.ntmps6
    go_wp2_with fail
    refine (awake_any _).mono ?_
    rintro e w4 ⟨rfl, hb4⟩
    go_wp2
    go_ret
    exact ⟨rfl, hb4⟩
  · go_enter Try.func6, Try.ntmps6
    go_wp2_with fail
    refine (awake_any _).mono ?_
    rintro e w4 ⟨rfl, hb4⟩
    go_wp2
    go_ret
    exact ⟨rfl, hb4⟩

set_option maxRecDepth 10000 in
set_option maxHeartbeats 1600000 in
theorem crcAgain_short (A B : Option Addr) (n m c d : Nat) (xs ys : List Int) (r : Nat) (w : World) (hr : r < 4294967296) (h1 : ¬ 500 < n) (h2 : ¬ 500 < m) (hx : Sh w w.heap.size A n (by8 xs)) (hy : Sh w w.heap.size B m (by8 ys)) (hbx : Byt xs) (hby : Byt ys) :
    Calls Try.prog 6 #[.slice A n c, .slice B m d, .int .u32 (r : Int)] w fun e w' => e = .returned (.bool true) ∧ Below w.heap.size w w' := by
  go_enter Try.func6, Try.ntmps6
  go_wp2_with fail
  with_reducible refine (new_smr _).mono ?_
  rintro e w1 ⟨g, rfl, hg, s1, b1⟩
  have hg1 : g < w1.heap.size := s1.lt
  have S1 := Lib.hid s1
  have B1 := Lib.hid b1
  clear s1 b1
  go_wp2_with fail
  with_reducible refine (new_smr _).mono ?_
  rintro e w2 ⟨f, rfl, hf, t2, b2⟩
  have S2 := Lib.hid (S1.out.below b2 hg1)
  have T2 := Lib.hid t2
  have B2 := Lib.hid (B1.out.trans (b2.mono B1.out.size))
  have hgf : g ≠ f := by omega
  have HGF := Lib.hid hgf
  have hwf : w.heap.size ≤ f := by have := B1.out.size; omega
  have X := Lib.hid (fun w' (b : Below w.heap.size w w') => hx.below b)
  have Y := Lib.hid (fun w' (b : Below w.heap.size w w') => hy.below b)
  have OX := Lib.hid (fun p (h : w.heap.size ≤ p) => hx.off h)
  have OY := Lib.hid (fun p (h : w.heap.size ≤ p) => hy.off h)
  have BX := Lib.hid hbx
  have BY := Lib.hid hby
  clear t2 b2 hgf hx hy hbx hby
  -- s.Of(b)
  go_wp2_with fail
  with_reducible refine (of_any g 0 false A n c xs _ _ S2.out (by omega) (X.out _ B2.out) (OX.out g hg) BX.out (by omega)).mono ?_
  rintro e w3 ⟨rfl, s3, o3⟩
  have S3 := Lib.hid s3
  have T3 := Lib.hid (T2.out.only o3 HGF.out.symm)
  have B3 := Lib.hid (B2.out.trans (o3.below hg))
  clear s3 o3
  -- s.Of(c)
  go_wp2_with fail
  with_reducible refine (of_any g 1 true B m d ys _ _ S3.out (by omega) (Y.out _ B3.out) (OY.out g hg) BY.out (by omega)).mono ?_
  rintro e w4 ⟨rfl, s4, o4⟩
  have S4 := Lib.hid s4
  have T4 := Lib.hid (T3.out.only o4 HGF.out.symm)
  have B4 := Lib.hid (B3.out.trans (o4.below hg))
  clear s4 o4
  -- s.More(n, c)
  go_wp2_with fail
  with_reducible refine (more_any g 2 true r B m d ys _ _ S4.out (by omega) hr (Y.out _ B4.out) (OY.out g hg) BY.out (by omega)).mono ?_
  rintro e w5 ⟨rfl, s5, o5⟩
  have S5 := Lib.hid s5
  have T5 := Lib.hid (T4.out.only o5 HGF.out.symm)
  have B5 := Lib.hid (B4.out.trans (o5.below hg))
  clear s5 o5
  -- t.More(n, b)
  go_wp2_with fail
  with_reducible refine (more_any f 0 false r A n c xs _ _ T5.out (by omega) hr (X.out _ B5.out) (OX.out f hwf) BX.out (by omega)).mono ?_
  rintro e w6 ⟨rfl, t6, o6⟩
  have T6 := Lib.hid t6
  have S6 := Lib.hid (S5.out.only o6 HGF.out)
  have B6 := Lib.hid (B5.out.trans (o6.below hwf))
  clear t6 o6
  -- s.Of(b), again
  go_wp2_with fail
  with_reducible refine (of_any g 3 true A n c xs _ _ S6.out (by omega) (X.out _ B6.out) (OX.out g hg) BX.out (by omega)).mono ?_
  rintro e w7 ⟨rfl, s7, o7⟩
  have S7 := Lib.hid s7
  have T7 := Lib.hid (T6.out.only o7 HGF.out.symm)
  have B7 := Lib.hid (B6.out.trans (o7.below hg))
  clear s7 o7
  -- t.Of(b)
  go_wp2_with fail
  with_reducible refine (of_any f 1 true A n c xs _ _ T7.out (by omega) (X.out _ B7.out) (OX.out f hwf) BX.out (by omega)).mono ?_
  rintro e w8 ⟨rfl, t8, o8⟩
  have T8 := Lib.hid t8
  have S8 := Lib.hid (S7.out.only o8 HGF.out)
  have B8 := Lib.hid (B7.out.trans (o8.below hwf))
  clear t8 o8
  -- s.More(n, b)
  go_wp2_with fail
  with_reducible refine (more_any g 4 true r A n c xs _ _ S8.out (by omega) hr (X.out _ B8.out) (OX.out g hg) BX.out (by omega)).mono ?_
  rintro e w9 ⟨rfl, s9, o9⟩
  have T9 := Lib.hid (T8.out.only o9 HGF.out.symm)
  have B9 := Lib.hid (B8.out.trans (o9.below hg))
  clear s9 o9
  -- t.More(n, b)
  go_wp2_with fail
  with_reducible refine (more_any f 2 true r A n c xs _ _ T9.out (by omega) hr (X.out _ B9.out) (OX.out f hwf) BX.out (by omega)).mono ?_
  rintro e wA ⟨rfl, tA, oA⟩
  have BA := Lib.hid (B9.out.trans (oA.below hwf))
  clear tA oA
  go_wp2_with fail
  with_reducible refine (awake_any _).mono ?_
  rintro e wB ⟨rfl, bB⟩
  have BB := Lib.hid (BA.out.trans (bB.mono BA.out.size))
  clear bB
  go_wp2
  go_ret
  exact ⟨rfl, BB.out⟩
theorem u32_of {x : Int} (h : (Lit.int .u32 x).wf = true) : ∃ r : Nat, x = (r : Int) ∧ r < 4294967296 := by
  have := bounds_u32 h
  exact ⟨x.toNat, by omega, by omega⟩

theorem crcAgain_walk (a0 : Option Addr) (len0 cap0 : Nat) (z0 : List Int) (a1 : Option Addr) (len1 cap1 : Nat) (z1 : List Int) (a2 : Int) (w : World) (w0 : IsRow .u8 w a0 len0 cap0 z0) (w1 : IsRow .u8 w a1 len1 cap1 z1) (w2 : (Lit.int .u32 a2).wf = true) :
    Calls Try.prog 6 #[.slice a0 len0 cap0, .slice a1 len1 cap1, .int .u32 a2] w fun e w' => e = .returned (.bool true) ∧ Below w.heap.size w w' := by
  obtain ⟨l0, m0, _, s0, b0⟩ := w0.sh
  obtain ⟨l1, m1, _, s1, b1⟩ := w1.sh
  obtain ⟨r, rfl, hr⟩ := u32_of w2
  by_cases h : 500 < len0
  · exact crcAgain_long _ _ _ _ _ _ _ _ (.inl h) (by omega) (by omega)
  · by_cases h' : 500 < len1
    · exact crcAgain_long _ _ _ _ _ _ _ _ (.inr ⟨h, h'⟩) (by omega) (by omega)
    · exact crcAgain_short _ _ _ _ _ _ _ _ _ _ hr h h' s0 s1 (byt_of b0) (byt_of b1)
end Go.Proofs.Ytboliolmhijjhaa
