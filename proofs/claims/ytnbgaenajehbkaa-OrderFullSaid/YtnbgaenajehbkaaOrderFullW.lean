/-
  blazonlaw13.OrderFull is true for every input: sixty-four elements make an order, however they are paired; one more doesn't.
  Conditions: none beyond the statement's own.
-/
import Derived.Test.YtnbgaenajehbkaaOrV
import Derived.Test.YtnbgaenajehbkaaOrderTurnedW
namespace Go.Proofs.Ytnbgaenajehbkaa
set_option linter.unusedVariables false
set_option linter.unusedSimpArgs false
open Go.RowKit

theorem oword_nums (i : Nat) (hi : i < 70) : strOfNums [97 + (i : Int) / 26, 97 + (i : Int) % 26] = oword i := by
  apply ByteArray.ext
  apply Array.ext'
  rw [strOfNums_data]
  unfold oword
  have e1 : (97 + (i : Int) / 26).toNat = 97 + i / 26 := by omega
  have e2 : (97 + (i : Int) % 26).toNat = 97 + i % 26 := by omega
  simp [e1, e2]
set_option maxHeartbeats 400000 in
theorem word_any (i : Nat) (hi : i < 70) (w : World) : Calls Try.prog 7 #[.int .i64 (i : Int)] w fun e w' => e = .returned (.string (oword i)) ∧ Below w.heap.size w w' := by
  have hcv := convert_sh (Sh.lit w (by8 [97 + (i : Int) / 26, 97 + (i : Int) % 26]) 5) 2
  rw [oword_nums i hi] at hcv
  have hcv : (convert 42 9 (.slice (some ⟨w.heap.size, 0, none⟩) 2 2)).run Try.prog (w.alloc (.cells #[.int .u8 (97 + (i : Int) / 26), .int .u8 (97 + (i : Int) % 26)] 5)) = .ok (.string (oword i)) (w.alloc (.cells #[.int .u8 (97 + (i : Int) / 26), .int .u8 (97 + (i : Int) % 26)] 5)) := hcv
  go_enter Try.func7, Try.ntmps7
  go_wp2
  go_ret
  exact ⟨rfl, (Below.refl _ _).alloc (Nat.le_refl _) _⟩

/-- The pairs as the law lays them. -/
def opairs (up : Bool) (k : Nat) : List OPa := ((List.range k).map (ofirst up)).map fun p => (p, 0)
theorem opairs_len (up : Bool) (k : Nat) : (opairs up k).length = k := by simp [opairs]
theorem opairs_snoc (up : Bool) (k : Nat) : opairs up (k + 1) = opairs up k ++ [(ofirst up k, 0)] := by simp [opairs, List.range_succ]
theorem opairs_map (up : Bool) (k : Nat) : (opairs up k).map (·.1) = (List.range k).map (ofirst up) := by
  unfold opairs
  rw [List.map_map]
  exact List.map_id _
theorem opairs_size (up : Bool) (k : Nat) : ∀ t ∈ opairs up k, t.1.1.size ≤ maxLen ∧ t.1.2.size ≤ maxLen := by
  intro t ht
  obtain ⟨p, hp, rfl⟩ := List.mem_map.1 ht
  obtain ⟨i, _, rfl⟩ := List.mem_map.1 hp
  unfold ofirst maxLen
  split
  · rw [oword_size, oword_size]; omega
  · rw [oword_size]; exact ⟨by omega, Nat.zero_le _⟩

theorem full_close {wa w2 w3 w4 : World} {xs : List Value} (b2 : Below wa.heap.size wa w2) (b3 : Below (w2.alloc (.cells xs.toArray 25)).heap.size (w2.alloc (.cells xs.toArray 25)) w3) (b4 : Below w3.heap.size w3 w4) :
    Blk w4 w2.heap.size 25 xs ∧ ∀ x y z, Below wa.heap.size wa (((w4.setCell ⟨w2.heap.size, 0, none⟩ x).setCell ⟨w2.heap.size, 1, none⟩ y).setCell ⟨w2.heap.size, 2, none⟩ z) := by
  have hb : Blk (w2.alloc (.cells xs.toArray 25)) w2.heap.size 25 xs := Blk.new _ _ _
  have hb3 := hb.stay (b3.block _ hb.lt)
  have hb4 := hb3.stay (b4.block _ hb3.lt)
  have h1 : Below wa.heap.size wa w4 := by
    have a := b2.alloc b2.size (.cells xs.toArray 25)
    have b := a.trans (b3.mono a.size)
    exact b.trans (b4.mono b.size)
  exact ⟨hb4, fun x y z => ((h1.setCell b2.size x).setCell b2.size y).setCell b2.size z⟩

set_option maxRecDepth 100000 in
set_option maxHeartbeats 800000 in
theorem orderFull_walk (n : Int) (up : Bool) (hn : (Lit.int .u8 n).wf = true) (w : World) :
    Calls Try.prog 3 #[.int .u8 n, .bool up] w fun e w' => e = .returned (.bool true) ∧ Below w.heap.size w w' := by
  obtain ⟨hn0, hn1⟩ := bounds_u8 hn
  obtain ⟨m, rfl⟩ : ∃ m : Nat, n = m := ⟨n.toNat, by omega⟩
  obtain ⟨k, hk⟩ : ∃ k, m % 70 = k := ⟨_, rfl⟩
  have hk70 : k < 70 := by omega
  have hrem : ((m : Int) % 70) = (k : Int) := by omega
  have hzp := zeroPair
  go_enter Try.func3, Try.ntmps3
  go_wp2
  rw [hrem]
  have HK := Lib.hid hk
  clear hrem hk
  go_loopw [6, 7] (fun v i wr => ∃ j : Nat, i = .int .i64 (j : Int) ∧ j ≤ k ∧ Hid (Own wr w.heap.size 25 3 v j (prcs (opairs up j))) ∧ Hid (Below w.heap.size w wr)) (fun _ i _ => k - (intOf i).toNat)
  case atStart => exact ⟨0, rfl, Nat.zero_le _, Lib.hid (Own.nil _ _ _ _ (Nat.le_refl _)), Lib.hid (Below.refl _ _)⟩
  case round =>
    obtain ⟨j, rfl, hj, HV, HB⟩ := hrel
    obtain ⟨wa, hwa⟩ : ∃ wa, wa = wr := ⟨_, rfl⟩
    subst hwa
    by_cases hlt : j < k
    · have HW1 := Lib.hid (fun w1 => word_any j (by omega) w1)
      by_cases hu : up = true ∧ 0 < j
      · obtain ⟨rfl, h0⟩ := hu
        obtain ⟨j', rfl⟩ : ∃ j', j = j' + 1 := ⟨j - 1, by omega⟩
        have HW2 := Lib.hid (fun w1 => word_any j' (by omega) w1)
        have HE := Lib.hid (show ofirst true (j' + 1) = (oword j', oword (j' + 1)) by unfold ofirst; rw [if_pos ⟨rfl, by omega⟩]; rfl)
        simp only [Int.natCast_add, Int.natCast_one] at HW1
        have h0p : decide ((0 : Int) < (j' : Int) + 1) = true := decide_eq_true (by omega)
        have hown := HV.out
        go_wp2_with (first
          | (go_at_call 7; with_reducible refine (HW2.out _).mono ?_; rintro e w3 ⟨rfl, b3⟩; have B3 := Lib.hid b3; clear b3)
          | (go_at_call 7; with_reducible refine (HW1.out _).mono ?_; rintro e w4 ⟨rfl, b4⟩; obtain ⟨kb, HBL⟩ := full_close (xs := [.string (oword (j' + 1)), .string ⟨#[]⟩, .int .i64 0]) B2.out B3.out b4; have k0 := kb.cell 0; have k1 := kb.cell 1; have k2 := kb.cell 2; have f0 := kb.nf 0; have f1 := kb.nf 1; have f2 := kb.nf 2; have hWB := Lib.hid (HBL (.string (oword j')) (.string (oword (j' + 1))) (.int .i64 0)); clear b4 kb HBL)
          | (go_at_call 7; with_reducible refine (HW1.out _).mono ?_; rintro e w2 ⟨rfl, b2⟩; have B2 := Lib.hid b2; clear b2)
          | (at_builtin; refine Hid.out ?_)
          | go_in)
        refine Lib.hid ?_
        refine wpList_push rfl (.tmp 34) (.tmp 36) 22 rfl rowP w _ w.heap.size _ _ _ [.string (oword j'), .string (oword (j' + 1)), .int .i64 0] rfl (hown.below hWB.out) (by simp [Act.eval]) rfl (by intro u hu; simp at hu; rcases hu with rfl | rfl | rfl <;> rfl) (HB.out.trans (hWB.out.mono HB.out.size)) (by omega) (by omega) ?_
        intro v2 w5 ho2 hb2
        go_wp2
        refine ⟨⟨j' + 1 + 1, by go_num, hlt, ?_, Lib.hid hb2⟩, by simp [intOf]; omega⟩
        rw [opairs_snoc, prcs_snoc, HE.out]
        exact Lib.hid ho2
      · have HE := Lib.hid (show ofirst up j = (oword j, ⟨#[]⟩) by unfold ofirst; rw [if_neg hu])
        have hcs : up = false ∨ (up = true ∧ j = 0) := by
          cases up
          · exact .inl rfl
          · exact .inr ⟨rfl, by simp at hu; omega⟩
        clear hu
        have hown := HV.out
        rcases hcs with rfl | ⟨rfl, rfl⟩
        · go_wp2_with (first
            | (go_at_call 7; with_reducible refine (HW1.out _).mono ?_; rintro e w2 ⟨rfl, b2⟩; have hb1 := Lib.hid ((HB.out.trans (b2.mono HB.out.size)).alloc (Nat.le_trans HB.out.size b2.size) (.cells #[.string (oword j), .string ⟨#[]⟩, .int .i64 0] 25)); have hown := (hown.below b2).alloc (.cells #[.string (oword j), .string ⟨#[]⟩, .int .i64 0] 25); clear b2)
            | (at_builtin; refine Hid.out ?_)
            | go_in)
          refine Lib.hid ?_
          refine wpList_push rfl (.tmp 34) (.tmp 36) 22 rfl rowP w _ w.heap.size _ _ _ [.string (oword j), .string ⟨#[]⟩, .int .i64 0] rfl hown (by simp [Act.eval]) rfl (by intro u hu; simp at hu; rcases hu with rfl | rfl | rfl <;> rfl) hb1.out (by omega) (by omega) ?_
          intro v2 w2 ho2 hb2
          go_wp2
          refine ⟨⟨j + 1, by go_num, hlt, ?_, Lib.hid hb2⟩, by simp [intOf]; omega⟩
          rw [opairs_snoc, prcs_snoc, HE.out]
          exact Lib.hid ho2
        · simp only [Int.natCast_zero] at HW1
          go_wp2_with (first
            | (go_at_call 7; with_reducible refine (HW1.out _).mono ?_; rintro e w2 ⟨rfl, b2⟩; have hb1 := Lib.hid ((HB.out.trans (b2.mono HB.out.size)).alloc (Nat.le_trans HB.out.size b2.size) (.cells #[.string (oword 0), .string ⟨#[]⟩, .int .i64 0] 25)); have hown := (hown.below b2).alloc (.cells #[.string (oword 0), .string ⟨#[]⟩, .int .i64 0] 25); clear b2)
            | (at_builtin; refine Hid.out ?_)
            | go_in)
          refine Lib.hid ?_
          refine wpList_push rfl (.tmp 34) (.tmp 36) 22 rfl rowP w _ w.heap.size _ _ _ [.string (oword 0), .string ⟨#[]⟩, .int .i64 0] rfl hown (by simp [Act.eval]) rfl (by intro u hu; simp at hu; rcases hu with rfl | rfl | rfl <;> rfl) hb1.out (by omega) (by omega) ?_
          intro v2 w2 ho2 hb2
          go_wp2
          refine ⟨⟨1, by go_num, hlt, ?_, Lib.hid hb2⟩, by simp [intOf]; omega⟩
          rw [show (1 : Nat) = 0 + 1 from rfl, opairs_snoc, prcs_snoc, HE.out]
          exact Lib.hid ho2
    · obtain rfl : j = k := by omega
      have hV := HV.out
      obtain ⟨A3, c3, rfl⟩ := hV.form
      have hN1 := onew_any A3 j c3 (opairs up j) wa (ShP.of_own hV (opairs_len up j)) (by unfold maxLen; omega) (opairs_size up j)
      rw [opairs_map] at hN1
      clear hV HV hzp
      by_cases h64 : 64 < j
      · obtain ⟨e1, e2⟩ := ofull_more up j h64 (by omega)
        have H1 := Lib.hid (hN1.mono fun e w' h => newTo_none h e1)
        rw [e2] at H1
        have hgt : decide ((64 : Int) < (j : Int)) = true := decide_eq_true (by omega)
        have hgt2 : (64 : Int) < (j : Int) := by omega
        clear hN1 e1 e2
        go_wp2_with (first
          | (go_at_call 8; with_reducible refine H1.out.mono ?_; rintro e w2 ⟨b2, rfl⟩; have B2 := Lib.hid (HB.out.trans (b2.mono HB.out.size)); clear b2)
          | (go_at_call 9; refine (awake13_any _).mono ?_; rintro e w5 ⟨rfl, b5⟩)
          | go_in)
        go_ret
        exact ⟨rfl, B2.out.trans (b5.mono B2.out.size)⟩
      · obtain ⟨o, e1, e2, e3⟩ := ofull_some up (k := j) (by omega)
        have H1 := Lib.hid (hN1.mono fun e w' h => newTo_some h e1)
        have hgt2 : ¬ (64 : Int) < (j : Int) := by omega
        have HL2 := Lib.hid e2
        have HM2 := Lib.hid e3
        clear hN1 e1 e2 e3
        by_cases hj0 : j = 0
        · subst hj0
          go_wp2_with (first
            | (go_at_call 8; with_reducible refine H1.out.mono ?_; rintro e w2 ⟨b2, g, rfl, hO⟩; have B2 := Lib.hid (HB.out.trans (b2.mono HB.out.size)); have HLen := olen_any hO; rw [HL2.out] at HLen; have HLen := Lib.hid HLen; clear b2 hO)
            | (go_at_call 10; with_reducible refine HLen.out.mono ?_; rintro e wx ⟨rfl, rfl⟩)
            | (go_at_call 9; refine (awake13_any _).mono ?_; rintro e w5 ⟨rfl, b5⟩)
            | go_in)
          go_ret
          exact ⟨rfl, B2.out.trans (b5.mono B2.out.size)⟩
        · have hM := HM2.out (by omega)
          have hje : ((j : Int) == 0) = false := by simp; omega
          have HMM := Lib.hid (fun (wx : World) (g : Nat) (X : Nat → Prop) (hO : OrdAt wx X g o) => (by
            have := omost_any hO 0 ((j : Int) - 1)
            rw [show ((j : Int) - 1) = ((j - 1 : Nat) : Int) by omega] at this
            rw [show (0 : Int) = ((0 : Nat) : Int) from rfl, Od.mostI_nat, hM] at this
            rw [show ((j - 1 : Nat) : Int) = (j : Int) - 1 by omega] at this
            exact this : Calls Try.prog 11 #[.pointer (some ⟨g, 0, none⟩), .int .i64 0, .int .i64 ((j : Int) - 1)] wx fun e w' => e = .returned (.bool (up || decide (j = 1))) ∧ wx = w'))
          have hcs : up = true ∨ (up = false ∧ ((j : Int) == 1) = true ∧ (up || decide (j = 1)) = true) ∨ (up = false ∧ ((j : Int) == 1) = false ∧ (up || decide (j = 1)) = false) := by
            cases up
            · by_cases h1 : j = 1
              · exact .inr (.inl ⟨rfl, by simp [h1], by simp [h1]⟩)
              · exact .inr (.inr ⟨rfl, by simp; omega, by simp [h1]⟩)
            · exact .inl rfl
          clear hM HM2
          rcases hcs with rfl | ⟨rfl, h1, h2⟩ | ⟨rfl, h1, h2⟩
          · simp only [Bool.true_or] at HMM
            go_wp2_with (first
              | (go_at_call 8; with_reducible refine H1.out.mono ?_; rintro e w2 ⟨b2, g, rfl, hO⟩; have B2 := Lib.hid (HB.out.trans (b2.mono HB.out.size)); have HLen := olen_any hO; rw [HL2.out] at HLen; have HLen := Lib.hid HLen; have HMo := Lib.hid (HMM.out _ _ _ hO); clear b2 hO)
              | (go_at_call 10; with_reducible refine HLen.out.mono ?_; rintro e wx ⟨rfl, rfl⟩)
              | (go_at_call 11; with_reducible refine HMo.out.mono ?_; rintro e wx ⟨rfl, rfl⟩)
              | (go_at_call 9; refine (awake13_any _).mono ?_; rintro e w5 ⟨rfl, b5⟩)
              | go_in)
            go_ret
            exact ⟨rfl, B2.out.trans (b5.mono B2.out.size)⟩
          all_goals
            rw [h2] at HMM
            clear h2
            go_wp2_with (first
              | (go_at_call 8; with_reducible refine H1.out.mono ?_; rintro e w2 ⟨b2, g, rfl, hO⟩; have B2 := Lib.hid (HB.out.trans (b2.mono HB.out.size)); have HLen := olen_any hO; rw [HL2.out] at HLen; have HLen := Lib.hid HLen; have HMo := Lib.hid (HMM.out _ _ _ hO); clear b2 hO)
              | (go_at_call 10; with_reducible refine HLen.out.mono ?_; rintro e wx ⟨rfl, rfl⟩)
              | (go_at_call 11; with_reducible refine HMo.out.mono ?_; rintro e wx ⟨rfl, rfl⟩)
              | (go_at_call 9; refine (awake13_any _).mono ?_; rintro e w5 ⟨rfl, b5⟩)
              | go_in)
            go_ret
            exact ⟨rfl, B2.out.trans (b5.mono B2.out.size)⟩
end Go.Proofs.Ytnbgaenajehbkaa
