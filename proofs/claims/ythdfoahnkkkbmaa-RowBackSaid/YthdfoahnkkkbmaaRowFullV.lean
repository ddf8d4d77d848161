/-
  blazonlaw16.RowFull: the walk, over what is asked of tables.
-/
import Derived.Test.YthdfoahnkkkbmaaRwC
import Derived.Test.YthdfoahnkkkbmaaOrV
namespace Go.Proofs.Ythdfoahnkkkbmaa
set_option linter.unusedVariables false
set_option linter.unusedSimpArgs false
open Go.RowKit

theorem oword_nums16 (i : Nat) (hi : i < 70) : strOfNums [97 + (i : Int) / 26, 97 + (i : Int) % 26] = oword i := by
  apply ByteArray.ext
  apply Array.ext'
  rw [strOfNums_data]
  unfold oword
  have e1 : (97 + (i : Int) / 26).toNat = 97 + i / 26 := by omega
  have e2 : (97 + (i : Int) % 26).toNat = 97 + i % 26 := by omega
  simp [e1, e2]
theorem tfull : ∀ k, k ≤ 64 → newT ((List.range k).map oword) = (some ((List.range k).map oword), 0, 0)
  | 0, _ => rfl
  | k + 1, hk => by
    have ih := tfull k (by omega)
    unfold newT at ih ⊢
    rw [List.range_succ, List.map_append, tadds_app ih]
    have hz : tbad ((List.range k).map oword) (oword k) = 0 := tbad_zero.2 ⟨oword_ident _ (by omega), by rw [oword_mem (by omega) (by omega)]; omega, by simp; omega⟩
    show tadds _ [oword k] _ = _
    rw [tadds, if_pos hz, tadds]
    rfl
theorem tfull_more (k : Nat) (h64 : 64 < k) (h70 : k ≤ 70) : newT ((List.range k).map oword) = (none, 64, 8) := by
  have h := tfull 64 (Nat.le_refl _)
  unfold newT at h ⊢
  have hsplit : (List.range k).map oword = (List.range 64).map oword ++ oword 64 :: ((List.range (k - 65)).map fun i => oword (65 + i)) := by
    have e : k = 64 + (1 + (k - 65)) := by omega
    rw [e, List.range_add, List.map_append, List.map_map]
    congr 1
    rw [List.range_add, List.map_append]
    have e2 : 64 + (1 + (k - 65)) - 65 = k - 65 := by omega
    rw [e2]
    simp [List.map_map, Function.comp_def, Nat.add_assoc]
    intro a _
    rw [show 64 + (1 + a) = 65 + a by omega]
  rw [hsplit, tadds_app h]
  have hb : tbad ((List.range 64).map oword) (oword 64) = 8 := by
    unfold tbad
    rw [if_pos (oword_ident _ (by omega)), opos_none.2 (by rw [oword_mem (by omega) (by omega)]; omega), if_neg (by simp), if_pos (by simp)]
  rw [tadds, if_neg (by rw [hb]; decide), hb]
  simp
def onames (k : Nat) : List OPn := ((List.range k).map oword).map fun p => (p, 0)
theorem onames_len (k : Nat) : (onames k).length = k := by simp [onames]
theorem onames_snoc (k : Nat) : onames (k + 1) = onames k ++ [(oword k, 0)] := by simp [onames, List.range_succ]
theorem onames_map (k : Nat) : (onames k).map (·.1) = (List.range k).map oword := by
  unfold onames
  rw [List.map_map]
  exact List.map_id _
theorem onames_size (k : Nat) : ∀ t ∈ onames k, t.1.size ≤ 1000 := by
  intro t ht
  obtain ⟨p, hp, rfl⟩ := List.mem_map.1 ht
  obtain ⟨i, _, rfl⟩ := List.mem_map.1 hp
  rw [oword_size]
  omega
theorem rowN : RowT Try.prog 41 44 2 24 := RowT.mk (z := .agg #[.string ⟨#[]⟩, .int .i64 0]) Try.underlying41 (by kernel_rfl) rfl (by omega)
theorem zeroName : ∀ w : World, (zeroValue 44).run Try.prog w = .ok (.agg #[.string ⟨#[]⟩, .int .i64 0]) w := fun w => by kernel_rfl

set_option maxRecDepth 100000 in
set_option maxHeartbeats 800000 in
theorem rowFull_over (HI : RwAll) (n : Int) (hn : (Lit.int .u8 n).wf = true) (w : World) :
    Calls Try.prog 5 #[.int .u8 n] w fun e w' => e = .returned (.bool true) ∧ Below w.heap.size w w' := by
  obtain ⟨hn0, hn1⟩ := bounds_u8 hn
  obtain ⟨m, rfl⟩ : ∃ m : Nat, n = m := ⟨n.toNat, by omega⟩
  obtain ⟨k, hk⟩ : ∃ k, m % 70 = k := ⟨_, rfl⟩
  have hk70 : k < 70 := by omega
  have hrem : ((m : Int) % 70) = (k : Int) := by omega
  go_enter Try.func5, Try.ntmps5
  go_wp2
  rw [hrem]
  have HK := Lib.hid hk
  clear hrem hk
  go_loopw [4, 5] (fun v i wr => ∃ j : Nat, i = .int .i64 (j : Int) ∧ j ≤ k ∧ Hid (Own wr w.heap.size 44 2 v j (ncs (onames j))) ∧ Hid (Below w.heap.size w wr)) (fun _ i _ => k - (intOf i).toNat)
  case atStart => exact ⟨0, rfl, Nat.zero_le _, Lib.hid (Own.nil _ _ _ _ (Nat.le_refl _)), Lib.hid (Below.refl _ _)⟩
  case round =>
    obtain ⟨j, rfl, hj, HV, HB⟩ := hrel
    obtain ⟨wa, hwa⟩ : ∃ wa, wa = wr := ⟨_, rfl⟩
    subst hwa
    by_cases hlt : j < k
    · have hcv := convert_sh (Sh.lit wa (by8 [97 + (j : Int) / 26, 97 + (j : Int) % 26]) 5) 2
      rw [oword_nums16 j (by omega)] at hcv
      have hcv : (convert 42 9 (.slice (some ⟨wa.heap.size, 0, none⟩) 2 2)).run Try.prog (wa.alloc (.cells #[.int .u8 (97 + (j : Int) / 26), .int .u8 (97 + (j : Int) % 26)] 5)) = .ok (.string (oword j)) (wa.alloc (.cells #[.int .u8 (97 + (j : Int) / 26), .int .u8 (97 + (j : Int) % 26)] 5)) := hcv
      have b1 := (Below.refl wa.heap.size wa).alloc (Nat.le_refl _) (.cells #[.int .u8 (97 + (j : Int) / 26), .int .u8 (97 + (j : Int) % 26)] 5)
      obtain ⟨w1, hw1⟩ : ∃ w1, wa.alloc (.cells #[.int .u8 (97 + (j : Int) / 26), .int .u8 (97 + (j : Int) % 26)] 5) = w1 := ⟨_, rfl⟩
      have HE1 := Lib.hid hw1
      have hb1 := Lib.hid ((HB.out.trans (b1.mono HB.out.size)))
      have hown := HV.out.below b1
      rw [hw1] at hb1 hown
      clear hw1 b1
      go_wp2_with (first
        | (at_builtin; refine Hid.out ?_)
        | go_in)
      refine Lib.hid ?_
      rw [HE1.out]
      refine wpList_push rfl (.tmp 17) (.tmp 29) 41 rfl rowN w _ w.heap.size _ _ _ [.string (oword j), .int .i64 0] rfl hown (by simp [Act.eval]; rw [← HE1.out]; simp) rfl (by intro u hu; simp at hu; rcases hu with rfl | rfl <;> rfl) hb1.out (by omega) (by omega) ?_
      intro v2 w2 ho2 hb3
      go_wp2
      refine ⟨⟨j + 1, by go_num, hlt, ?_, Lib.hid hb3⟩, by simp [intOf]; omega⟩
      rw [onames_snoc, ncs_snoc]
      exact Lib.hid ho2
    · obtain rfl : j = k := by omega
      have hV := HV.out
      obtain ⟨A3, c3, rfl⟩ := hV.form
      have hS := ShW.of_own hV (onames_len j)
      have hf := tfull j
      have hm := tfull_more j
      rw [← onames_map] at hf hm
      clear hV HV
      by_cases h64 : 64 < j
      · have H1 := Lib.hid (HI.no (c := c3) hS (by omega) (onames_size j) (hm h64 (by omega)))
        have hgt2 : (64 : Int) < (j : Int) := by omega
        clear hf hm hS
        go_wp2_with (first
          | (go_at_call 23; with_reducible refine H1.out.mono ?_; rintro e w2 ⟨b2, rfl⟩; have B2 := Lib.hid (HB.out.trans (b2.mono HB.out.size)); clear b2)
          | (go_at_call 24; refine (awake16_any HI _).mono ?_; rintro e w5 ⟨rfl, b5⟩)
          | go_in)
        go_ret
        exact ⟨rfl, B2.out.trans (b5.mono B2.out.size)⟩
      · have H1 := Lib.hid (HI.yes (c := c3) hS (by omega) (onames_size j) (hf (by omega)))
        have hgt2 : ¬ (64 : Int) < (j : Int) := by omega
        have HLN := Lib.hid (show ((onames j).map (·.1)).length = j by simp [onames])
        clear hf hm hS
        have hjj : ((j : Int) == (j : Int)) = true := by simp
        go_wp2_with (first
          | (go_at_call 23; with_reducible refine H1.out.mono ?_; rintro e w2 ⟨b2, g, P, rfl, hc, hp⟩; have B2 := Lib.hid (HB.out.trans (b2.mono HB.out.size)); have HLen := hc.len hp; rw [HLN.out] at HLen; have HLen := Lib.hid HLen; clear b2 hc hp)
          | (go_at_call 25; with_reducible refine HLen.out.mono ?_; rintro e w3 ⟨rfl, b3⟩; have B3 := Lib.hid (B2.out.trans (b3.mono B2.out.size)); clear b3)
          | (go_at_call 24; refine (awake16_any HI _).mono ?_; rintro e w5 ⟨rfl, b5⟩)
          | go_in)
        go_ret
        exact ⟨rfl, B3.out.trans (b5.mono B3.out.size)⟩
end Go.Proofs.Ythdfoahnkkkbmaa
