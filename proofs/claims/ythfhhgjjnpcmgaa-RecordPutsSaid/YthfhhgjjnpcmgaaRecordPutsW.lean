/-
  Any record, behind any bytes, has the form that the document says, or is refused. It holds for any bytes, any kind, any payload; of more than 1000 bytes it says that the document's examples hold.
-/
import Derived.Test.YthfhhgjjnpcmgaaRecAwake
import Derived.Test.YthfhhgjjnpcmgaaRecRef
import Derived.Laws.MakeOwn
namespace Go.Proofs.Ythfhhgjjnpcmgaa
set_option linter.unusedVariables false
set_option linter.unusedSimpArgs false
open Go.RowKit

/-- 'make([]byte, 65537)'. -/
theorem make_great (W : World) : ∃ Z : Array Value, (Instr.makeSlice 22 (.int .i64 65537) (.int .i64 65537)).run Try.prog W = .ok (.slice (some ⟨W.heap.size, 0, none⟩) 65537 65537) (W.alloc (.cells Z 5)) := by
  obtain ⟨ht, i, z, hi, hz, hsize, hbytes, hzs, hpos⟩ := rowB
  exact ⟨_, run_make (P := Try.prog) W 22 5 i z ht hi hz .i64 .i64 65537 65537 (by omega) (by omega) (by rw [hbytes]; omega) (by omega)⟩

set_option maxRecDepth 10000 in
set_option maxHeartbeats 800000 in
theorem recordPuts_long (A P : Option Addr) (n c m pc : Nat) (K : Int) (gr : Bool) (w : World) (h : 1000 < n ∨ (¬ 1000 < n ∧ 1000 < m)) (hn : n ≤ maxLen) (hm : m ≤ maxLen) :
    Calls Try.prog 3 #[.slice A n c, .int .i64 K, .slice P m pc, .bool gr] w fun e w' => e = .returned (.bool true) ∧ Below w.heap.size w w' := by
  unfold maxLen at hn hm
  rcases h with h | ⟨h, h'⟩
  · go_enter Try.func3, Try.ntmps3
    go_wp2_with fail
    refine (awake_any _).mono ?_
    rintro e w4 ⟨rfl, hb4⟩
    go_wp2
    go_ret
    exact ⟨rfl, hb4⟩
  · go_enter Try.func3, Try.ntmps3
    go_wp2_with fail
    refine (awake_any _).mono ?_
    rintro e w4 ⟨rfl, hb4⟩
    go_wp2
    go_ret
    exact ⟨rfl, hb4⟩

set_option maxRecDepth 10000 in
set_option maxHeartbeats 1600000 in
theorem recordPuts_kind0 (A P : Option Addr) (n c m pc : Nat) (K : Int) (bs : List Int) (w : World) (h1 : ¬ 1000 < n) (h2 : ¬ 1000 < m) (hK : K < 0 ∨ 255 < K) (hx : Sh w w.heap.size A n (by8 bs)) :
    Calls Try.prog 3 #[.slice A n c, .int .i64 K, .slice P m pc, .bool false] w fun e w' => e = .returned (.bool true) ∧ Below w.heap.size w w' := by
  obtain ⟨Z, hZ⟩ := make_great w
  have HX := Lib.hid (fun w' (b : Below w.heap.size w w') => hx.below b)
  have HZW := Lib.hid ((Below.refl w.heap.size w).alloc (Nat.le_refl _) (.cells Z 5))
  have HK := Lib.hid hK
  clear hx
  rcases hK with hK | hK
  all_goals
    go_enter Try.func3, Try.ntmps3
    go_wp2_with fail
    refine (new_smr _).mono ?_
    rintro e w1 ⟨g, rfl, hg, s1, b1⟩
    have B1 : Hid (Below w.heap.size w w1) := Lib.hid b1
    clear s1 b1
    go_wp2_with fail
    refine (put_kind g A _ n c _ _ K bs w1 w.heap.size (HX.out _ B1.out) B1.out.size (by omega) HK.out).mono ?_
    rintro e w2 ⟨v2, rfl, ho2, b2⟩
    obtain ⟨A2, c2, rfl⟩ := ho2.form
    have O2 := Lib.hid ho2.sh
    have B2 := Lib.hid (B1.out.trans (b2.mono B1.out.size))
    clear ho2 b2
    go_wp2_with fail
    refine (same_yes A2 A n n c2 c bs bs w2 _ _ O2.out (HX.out _ B2.out) (by unfold maxLen; omega) rfl).mono ?_
    rintro e w3 ⟨rfl, hq3⟩
    go_wp2_with fail
    refine (awake_any _).mono ?_
    rintro e w4 ⟨rfl, b4⟩
    go_wp2
    go_ret
    have b3 := B2.out.trans (hq3.below _)
    exact ⟨rfl, b3.trans (b4.mono b3.size)⟩
set_option maxRecDepth 10000 in
set_option maxHeartbeats 1600000 in
theorem recordPuts_kind1 (A P : Option Addr) (n c m pc : Nat) (K : Int) (bs : List Int) (w : World) (h1 : ¬ 1000 < n) (h2 : ¬ 1000 < m) (hK : K < 0 ∨ 255 < K) (hx : Sh w w.heap.size A n (by8 bs)) :
    Calls Try.prog 3 #[.slice A n c, .int .i64 K, .slice P m pc, .bool true] w fun e w' => e = .returned (.bool true) ∧ Below w.heap.size w w' := by
  obtain ⟨Z, hZ⟩ := make_great w
  have HX := Lib.hid (fun w' (b : Below w.heap.size w w') => hx.below b)
  have HZW := Lib.hid ((Below.refl w.heap.size w).alloc (Nat.le_refl _) (.cells Z 5))
  have HK := Lib.hid hK
  clear hx
  rcases hK with hK | hK
  all_goals
    go_enter Try.func3, Try.ntmps3
    go_wp2_with fail
    refine (new_smr _).mono ?_
    rintro e w1 ⟨g, rfl, hg, s1, b1⟩
    have B1 : Hid (Below w.heap.size w w1) := Lib.hid (HZW.out.trans (b1.mono (by simp)))
    clear s1 b1
    go_wp2_with fail
    refine (put_kind g A _ n c _ _ K bs w1 w.heap.size (HX.out _ B1.out) B1.out.size (by omega) HK.out).mono ?_
    rintro e w2 ⟨v2, rfl, ho2, b2⟩
    obtain ⟨A2, c2, rfl⟩ := ho2.form
    have O2 := Lib.hid ho2.sh
    have B2 := Lib.hid (B1.out.trans (b2.mono B1.out.size))
    clear ho2 b2
    go_wp2_with fail
    refine (same_yes A2 A n n c2 c bs bs w2 _ _ O2.out (HX.out _ B2.out) (by unfold maxLen; omega) rfl).mono ?_
    rintro e w3 ⟨rfl, hq3⟩
    go_wp2_with fail
    refine (awake_any _).mono ?_
    rintro e w4 ⟨rfl, b4⟩
    go_wp2
    go_ret
    have b3 := B2.out.trans (hq3.below _)
    exact ⟨rfl, b3.trans (b4.mono b3.size)⟩
set_option maxRecDepth 10000 in
set_option maxHeartbeats 1600000 in
theorem recordPuts_great (A P : Option Addr) (n c m pc : Nat) (K : Nat) (bs : List Int) (w : World) (h1 : ¬ 1000 < n) (h2 : ¬ 1000 < m) (hK : K ≤ 255) (hx : Sh w w.heap.size A n (by8 bs)) :
    Calls Try.prog 3 #[.slice A n c, .int .i64 (K : Int), .slice P m pc, .bool true] w fun e w' => e = .returned (.bool true) ∧ Below w.heap.size w w' := by
  obtain ⟨Z, hZ⟩ := make_great w
  have HX := Lib.hid (fun w' (b : Below w.heap.size w w') => hx.below b)
  have HZW := Lib.hid ((Below.refl w.heap.size w).alloc (Nat.le_refl _) (.cells Z 5))
  clear hx
  go_enter Try.func3, Try.ntmps3
  go_wp2_with fail
  refine (new_smr _).mono ?_
  rintro e w1 ⟨g, rfl, hg, s1, b1⟩
  have B1 : Hid (Below w.heap.size w w1) := Lib.hid (HZW.out.trans (b1.mono (by simp)))
  clear s1 b1
  go_wp2_with fail
  refine (put_great g A _ n c 65537 _ K bs w1 w.heap.size (HX.out _ B1.out) B1.out.size (by omega) hK (by omega) (by omega)).mono ?_
  rintro e w2 ⟨v2, rfl, ho2, b2⟩
  obtain ⟨A2, c2, rfl⟩ := ho2.form
  have O2 := Lib.hid ho2.sh
  have B2 := Lib.hid (B1.out.trans (b2.mono B1.out.size))
  clear ho2 b2
  go_wp2_with fail
  refine (same_yes A2 A n n c2 c bs bs w2 _ _ O2.out (HX.out _ B2.out) (by unfold maxLen; omega) rfl).mono ?_
  rintro e w3 ⟨rfl, hq3⟩
  go_wp2_with fail
  refine (awake_any _).mono ?_
  rintro e w4 ⟨rfl, b4⟩
  go_wp2
  go_ret
  have b3 := B2.out.trans (hq3.below _)
  exact ⟨rfl, b3.trans (b4.mono b3.size)⟩

set_option maxRecDepth 10000 in
set_option maxHeartbeats 1600000 in
theorem recordPuts_short (A P : Option Addr) (n c m pc : Nat) (K : Nat) (bs xs : List Int) (w : World) (h1 : ¬ 1000 < n) (h2 : ¬ 1000 < m) (hK : K ≤ 255) (hx : Sh w w.heap.size A n (by8 bs)) (hp : Sh w w.heap.size P m (by8 xs)) (hb : Byt xs) :
    Calls Try.prog 3 #[.slice A n c, .int .i64 (K : Int), .slice P m pc, .bool false] w fun e w' => e = .returned (.bool true) ∧ Below w.heap.size w w' := by
  have HX := Lib.hid (fun w' (b : Below w.heap.size w w') => hx.below b)
  have HP := Lib.hid (fun w' (b : Below w.heap.size w w') => hp.below b)
  have OX := Lib.hid (fun p (h : w.heap.size ≤ p) => hx.off h)
  have OP := Lib.hid (fun p (h : w.heap.size ≤ p) => hp.off h)
  have HB := Lib.hid hb
  clear hx hp hb
  go_enter Try.func3, Try.ntmps3
  go_wp2_with fail
  refine (new_smr _).mono ?_
  rintro e w1 ⟨g, rfl, hg, s1, b1⟩
  have S1 := Lib.hid s1
  have B1 := Lib.hid b1
  clear s1 b1
  go_wp2_with fail
  refine (rput_any g 0 false A P n c m pc K bs xs w1 w.heap.size S1.out (by omega) (HX.out _ B1.out) (OX.out g hg) (HP.out _ B1.out) (OP.out g hg) HB.out B1.out.size (by omega) hK (by omega)).mono ?_
  rintro e w2 ⟨v2, rfl, ho2, s2, u2⟩
  obtain ⟨A2, c2, rfl⟩ := ho2.form
  have O2 := Lib.hid ho2.sh
  have B2 := Lib.hid (B1.out.trans (u2.below hg B1.out.size))
  clear ho2 s2 u2
  go_wp2_with (first
    | (at_builtin; refine wpList_more rfl (.tmp 51) (.tmp 52) 22 rfl rowB w2 (w2.alloc (.cells #[] 5)) w2.heap.size _ 0 [] (by8 bs) rfl (Own.empty w2 w2.heap.size 5 1 (Nat.le_refl _)) w.heap.size A n c rfl ((HX.out _ B2.out).alloc B2.out.size _) (by8_one _) ((Below.refl _ _).alloc (Nat.le_refl _) _) (by omega) (by omega) ?_; intro v3 w3 ho3 hb3; have ho3 := ho3.cast (Nat.zero_add _) (List.nil_append _); obtain ⟨A3, c3, rfl⟩ := ho3.form; have B3 := Lib.hid (B2.out.trans (hb3.mono B2.out.size)))
    | (go_at_call 11; refine (refForm_any K P m pc xs w3 w.heap.size (HP.out _ B3.out) HB.out B3.out.size hK (by omega)).mono ?_; rintro e w4 ⟨v4, rfl, ho4, hb4⟩; obtain ⟨A4, c4, rfl⟩ := ho4.form; have ho3 := ho3.below hb4)
    | (at_builtin; refine wpList_more rfl (.tmp 53) (.tmp 56) 22 rfl rowB w2 w4 w2.heap.size _ n (by8 bs) (by8 (form (K : Int) xs)) rfl ho3 w4.heap.size A4 (9 + m) c4 rfl ho4.sh (by8_one _) (hb3.trans (hb4.mono hb3.size)) (by omega) (by omega) ?_; intro v5 w5 ho5 hb5; have ho5 := ho5.cast rfl (by8_append _ _).symm; obtain ⟨A5, c5, rfl⟩ := ho5.form)
    | (go_at_call 10; refine (same_yes A2 A5 (n + (9 + m)) (n + (9 + m)) c2 c5 (bs ++ form (K : Int) xs) (bs ++ form (K : Int) xs) w5 _ _ (O2.out.below hb5) ho5.sh (by unfold maxLen; omega) rfl).mono ?_; rintro e w6 ⟨rfl, hq6⟩)
    | (go_at_call 7; refine (awake_any _).mono ?_; rintro e w7 ⟨rfl, hb7⟩)
    | fail)
  go_ret
  have b6 := (B2.out.trans (hb5.mono B2.out.size)).trans (hq6.below _)
  exact ⟨rfl, b6.trans (hb7.mono b6.size)⟩

theorem recordPuts_walk (a0 : Option Addr) (len0 cap0 : Nat) (z0 : List Int) (a1 : Int) (a2 : Option Addr) (len2 cap2 : Nat) (z2 : List Int) (a3 : Bool) (w : World) (w0 : IsRow .u8 w a0 len0 cap0 z0) (w1 : (Lit.int .i64 a1).wf = true) (w2 : IsRow .u8 w a2 len2 cap2 z2) :
    Calls Try.prog 3 #[.slice a0 len0 cap0, .int .i64 a1, .slice a2 len2 cap2, .bool a3] w fun e w' => e = .returned (.bool true) ∧ Below w.heap.size w w' := by
  obtain ⟨l0, m0, _, s0, b0⟩ := w0.sh
  obtain ⟨l2, m2, _, s2, b2⟩ := w2.sh
  by_cases h : 1000 < len0
  · exact recordPuts_long _ _ _ _ _ _ _ _ _ (.inl h) (by omega) (by omega)
  · by_cases h' : 1000 < len2
    · exact recordPuts_long _ _ _ _ _ _ _ _ _ (.inr ⟨h, h'⟩) (by omega) (by omega)
    · by_cases hK : a1 < 0 ∨ 255 < a1
      · cases a3
        · exact recordPuts_kind0 _ _ _ _ _ _ _ _ _ h h' hK s0
        · exact recordPuts_kind1 _ _ _ _ _ _ _ _ _ h h' hK s0
      · obtain ⟨K, rfl⟩ : ∃ K : Nat, a1 = (K : Int) := ⟨a1.toNat, by omega⟩
        cases a3
        · exact recordPuts_short _ _ _ _ _ _ K _ _ _ h h' (by omega) s0 s2 (byt_of b2)
        · exact recordPuts_great _ _ _ _ _ _ K _ _ h h' (by omega) s0
end Go.Proofs.Ythfhhgjjnpcmgaa
