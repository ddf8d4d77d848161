/-
  blazonlaw07.SpanNone is true for every input: edits that put what stands there leave a text as it was; so do none; and all places stay.
  Conditions: none beyond the statement's own (package-level variables start as the program's text lays them).
-/
import Derived.Test.YtopeechbgblndaaDoorSpW
import Derived.Test.YtopeechbgblndaaDoorSpP
import Derived.Test.YtopeechbgblndaaDoorSpS
import Derived.Test.YtopeechbgblndaaDoorSpK
import Derived.Test.YtopeechbgblndaaDoorSpG
import Derived.Test.YtopeechbgblndaaDoorSpD
import Derived.Test.YtopeechbgblndaaDoorSpO
import Derived.Test.YtopeechbgblndaaDoorHeld
namespace Go.Proofs.YtopeechbgblndaaDoor
set_option linter.unusedVariables false
set_option linter.unusedSimpArgs false
open Go.RowKit

theorem spanNone_long (A P : Option Addr) (n c m d : Nat) (L : List Ed) (w : World) (h : 500 < n) (hn : n ≤ maxLen) :
    Calls Tryd.prog 7 #[.slice A n c, .slice P m d] w fun e w' => e = .returned (.bool true) ∧ Below w.heap.size w w' := by
  unfold maxLen at hn
  have h' : (500 : Int) < (n : Int) := by omega
  go_enter Tryd.func7, Tryd.ntmps7
  go_wp2_with (first
    | (go_at_call 9; refine (awake_any _).mono ?_; rintro e w1 ⟨rfl, b1⟩)
    | fail)
  go_ret
  exact ⟨rfl, b1⟩

theorem spanNone_great (A P : Option Addr) (n c m d : Nat) (L : List Ed) (w : World) (h : ¬ 500 < n) (hx : ShE w w.heap.size P m L) (hm : m ≤ maxLen) (hs : ∀ x ∈ L, x.2.2.length ≤ maxLen) (hg : greatB L = true) :
    Calls Tryd.prog 7 #[.slice A n c, .slice P m d] w fun e w' => e = .returned (.bool true) ∧ Below w.heap.size w w' := by
  have h' : ¬ (500 : Int) < (n : Int) := by omega
  have HG := great_any P m d L w hx hm hs
  rw [hg] at HG
  have HG := Lib.hid HG
  clear hg hs hx
  go_enter Tryd.func7, Tryd.ntmps7
  go_wp2_with (first
    | (go_at_call 8; refine HG.out.mono ?_; rintro e w1 ⟨rfl, rfl⟩)
    | (go_at_call 9; refine (awake_any _).mono ?_; rintro e w1 ⟨rfl, b1⟩)
    | fail)
  go_ret
  exact ⟨rfl, b1⟩


theorem samE_byt {bs : List Int} (h : Byt8 bs) (L : List Ed) : BytE (samE bs L) := fun x hx => by
  obtain ⟨y, _, rfl⟩ := List.mem_map.1 hx
  exact h.seg _ _
theorem samE_txt (bs : List Int) (L : List Ed) : ∀ x ∈ samE bs L, x.2.2.length ≤ bs.length := fun x hx => by
  obtain ⟨y, _, rfl⟩ := List.mem_map.1 hx
  dsimp only
  unfold seg
  rw [List.length_drop, List.length_take]
  omega
theorem samE_take {bs : List Int} {L : List Ed} {k : Nat} {x : Ed} (h : L[k]? = some x) : samE bs (L.take (k + 1)) = samE bs (L.take k) ++ [(x.1, x.2.1, seg bs x.1 x.2.1)] := by
  rw [take_snocE L k x h]
  simp [samE]
theorem chk_nil (n : Int) : chk n [] = 0 := chk_ok (by simp) fun k hk => absurd hk (by simp)

set_option maxRecDepth 10000 in
set_option maxHeartbeats 8000000 in
theorem spanNone_small (A P : Option Addr) (n c m d : Nat) (bs : List Int) (L : List Ed) (w : World) (h : ¬ 500 < n) (hb : Sh w w.heap.size A n (by8 bs)) (hbb : Byt8 bs) (hnc : n ≤ c) (hcm : c ≤ maxLen) (hcA : c = 0 ∨ ∃ b off, A = some ⟨b, off, none⟩) (hx : ShE w w.heap.size P m L) (hm : m ≤ maxLen) (hby : BytE L) (hg : greatB L = false) :
    Calls Tryd.prog 7 #[.slice A n c, .slice P m d] w fun e w' => e = .returned (.bool true) ∧ Below w.heap.size w w' := by
  have h' : ¬ (500 : Int) < (n : Int) := by omega
  have hlb : bs.length = n := by have := hb.len; rwa [by8_len] at this
  have hl : L.length = m := hx.1
  obtain ⟨hL6, hs⟩ := great_no hg
  have HG := great_any P m d L w hx hm (fun x hx => Nat.le_trans (hs x hx) (by decide))
  rw [hg] at HG
  have HG := Lib.hid HG
  have hm6 : m ≤ 600 := by omega
  have HLB := Lib.hid hlb
  have HL := Lib.hid hl
  have HX := Lib.hid (fun w' (b : Below w.heap.size w w') => hx.up b (Nat.le_refl _))
  have HBB := Lib.hid (fun w' (b : Below w.heap.size w w') => hb.below b)
  have HBY := Lib.hid hbb
  have HAP : Hid (∀ (p : Option Addr) (q r : Nat) (K : List Ed) w1, Below w.heap.size w w1 → ShE w1 w1.heap.size p q K → q ≤ 600 → (∀ x ∈ K, x.2.2.length ≤ 1000) → BytE K → Calls Tryd.prog 11 #[.slice A n c, .slice p q r] w1 (ApTo n bs K w1)) :=
    Lib.hid fun p q r K w1 b s hq ht hy => apply_any A p n c q r bs K w1 ((HBB.out w1 b).more b.size) s (by omega) hnc hcm hcA hq ht hy
  have HBK : Hid (∀ (p : Option Addr) (q r : Nat) (K : List Ed) w1, Below w.heap.size w w1 → ShE w1 w1.heap.size p q K → q ≤ 600 → (∀ x ∈ K, x.2.2.length ≤ 1000) → BytE K → Calls Tryd.prog 16 #[.slice A n c, .slice p q r] w1 (BkTo n bs K w1)) :=
    Lib.hid fun p q r K w1 b s hq ht hy => back_any A p n c q r bs K w1 ((HBB.out w1 b).more b.size) s (by omega) hnc hcm hcA hq ht hy
  unfold maxLen at hcm
  obtain ⟨ck, hck⟩ : ∃ ck, chk n L = ck := ⟨_, rfl⟩
  have HK := Lib.hid hck
  clear hg hs hlb hby hx hb hL6 hl hm hck hbb
  have B0 := Lib.hid (Below.refl w.heap.size w)
  by_cases h0 : ck = 0
  · subst h0
    have hse : (0 != 0) = false := rfl
    have HOK := Lib.hid (chk_zero HK.out).2
    go_enter Tryd.func7, Tryd.ntmps7
    go_wp2_with (first
      | (go_at_call 8; refine HG.out.mono ?_; rintro e w1 ⟨rfl, rfl⟩)
      | (go_at_call 12; refine (rcheck_any P n m d L _ ((HX.out _ B0.out).more B0.out.size) (by omega) (by omega)).mono ?_; rw [HK.out]; rintro e w3 ⟨rfl, q3⟩; have B3 := Lib.hid (B0.out.trans (q3.below _)); clear q3)
      | fail)
    go_loopw [5, 6] (fun v i wr => ∃ (vv : Value) (k : Nat), vv = v ∧ i = .int .i64 (k : Int) ∧ k ≤ m ∧ Own wr w.heap.size 38 3 vv k (ecs (samE bs (L.take k))) ∧ Below w.heap.size w wr) (fun _ i _ => m - (intOf i).toNat)
    case atStart => exact ⟨_, 0, rfl, rfl, Nat.zero_le _, Own.nil _ _ _ _ B3.out.size, B3.out⟩
    case round =>
      obtain ⟨v, k, rfl, rfl, hk, ho, hbl⟩ := hrel
      have HB := Lib.hid hbl
      have HO := Lib.hid ho
      have hge := ho.2
      clear ho hbl
      by_cases hlt : k < m
      · obtain ⟨b, off, x, rfl, hbb, hx, c0, c1, c2'⟩ := (HX.out wr HB.out).at hlt
        have HST := Lib.hid (samE_take (bs := bs) hx)
        have hxb := (HOK.out k (by rw [HL.out]; exact hlt) x hx).1
        obtain ⟨f, t, s⟩ := x
        dsimp only at c0 c1 c2' hxb
        obtain ⟨x1, x2, x3⟩ := hxb
        obtain ⟨F, rfl⟩ : ∃ F : Nat, f = F := ⟨f.toNat, by omega⟩
        obtain ⟨T, rfl⟩ : ∃ T : Nat, t = T := ⟨t.toNat, by omega⟩
        have hFT : F ≤ T := by omega
        have hTn : T ≤ n := by omega
        obtain ⟨X, hX⟩ : ∃ X, strOfNums (seg bs F T) = X := ⟨_, rfl⟩
        have HXE := Lib.hid hX
        have hbl : b < w.heap.size := hbb
        obtain ⟨S0, hS0⟩ : ∃ S0 : World → Prop, S0 = fun w' => Below w.heap.size wr w' := ⟨_, rfl⟩
        have HSI : Hid (∀ w', Below w.heap.size wr w' → S0 w') := Lib.hid fun w' b => by rw [hS0]; exact b
        have HSF : Hid (∀ w', S0 w' → Below w.heap.size wr w') := Lib.hid fun w' b => by rw [hS0] at b; exact b
        have HC2 : Hid (∀ w', Below w.heap.size wr w' → ∀ U e, (∀ b off, A = some ⟨b, off, none⟩ → F < T → U = some ⟨b, off + F, none⟩) → (convert 22 9 (.slice U (T - F) e)).run Tryd.prog w' = .ok (.string X) w') := Lib.hid fun w' b' U e hU => by
          have := convert_sh (sh_seg (HBB.out w' (HB.out.trans b')) hFT hTn hU) e
          rw [hX] at this
          exact this
        have s0 : ∀ s : SW S0, s.w.cell? ⟨b, off + k * 3, none⟩ = some (.int .i64 (F : Int)) := fun s => ((HSF.out _ s.h).cell (p := ⟨b, _, none⟩) hbl).trans c0
        have s1 : ∀ s : SW S0, s.w.cell? ⟨b, off + k * 3 + 1, none⟩ = some (.int .i64 (T : Int)) := fun s => ((HSF.out _ s.h).cell (p := ⟨b, _, none⟩) hbl).trans c1
        have hSd : S0 wr.drew := HSI.out _ ⟨rfl, rfl, rfl, Nat.le_refl _, fun _ _ => rfl⟩
        have BWD : Hid (Below w.heap.size w wr.drew) := Lib.hid (HB.out.trans ⟨rfl, rfl, rfl, Nat.le_refl _, fun _ _ => rfl⟩)
        have hkm : (k : Int) < (m : Int) := by omega
        have hk0 : (0 : Int) ≤ (k : Int) := by omega
        clear hS0 hx x1 x2 x3 hX c0 c1 c2' hbl hbb
        by_cases hcq : c = F
        · have e1 : F = T := by omega
          have e2 : F = n := by omega
          have e3 : F = c := hcq.symm
          clear hcq
          subst e1
          subst e2
          subst e3
          have sc2 : ∀ (s : SW S0) U, (convert 22 9 (.slice U 0 0)).run Tryd.prog s.w = .ok (.string X) s.w := fun s U => by
            have := HC2.out s.w (HSF.out _ s.h) U 0 (fun _ _ _ h => absurd h (Nat.lt_irrefl _))
            rwa [Nat.sub_self] at this
          clear hcA
          go_wp2
          refine regionL_start (by kernel_rfl) 28 rfl S0 27 ?_
          refine wpL_next 0 25 3 (by kernel_rfl) (fun _ _ d _ _ h => by cases d <;> exact h) hSd (fun hne => ?_)
          simp only [List.drop_succ_cons, List.drop_zero, List.take_succ_cons, List.take_zero]
          repeat (go_big_quiet_step (fail))
          refine wpQuiet_nil ?_
          refine wpL_one (i := 25) (fuel := 2) (by kernel_rfl) rfl (fun KK hKK => ?_)
          go_simp
          refine hKK _ _ (HSI.out _ ((show Below w.heap.size wr wr.drew from ⟨rfl, rfl, rfl, Nat.le_refl _, fun _ _ => rfl⟩).alloc hge _)) ?_
          clear hKK KK
          refine wpL_one (i := 26) (fuel := 1) (by kernel_rfl) rfl (fun KK hKK => ?_)
          refine step_push_g rfl (.tmp 35) (.tmp 60) 23 rfl rowEd wr.drew w.heap.size v k (ecs (samE bs (L.take k))) [.int .i64 (F : Int), .int .i64 (F : Int), .string X] rfl HO.out.drew rfl rfl rfl (by intro z hz; simp at hz; rcases hz with rfl | rfl | rfl <;> rfl) (by omega) (by omega) ?_
          intro v6 w6 ho6 hg6
          have HB6 : Hid (Below w.heap.size wr w6) := Lib.hid (((show Below w.heap.size wr wr.drew from ⟨rfl, rfl, rfl, Nat.le_refl _, fun _ _ => rfl⟩).alloc hge _).grown hg6 (by simp; show w.heap.size ≤ wr.heap.size + 1; omega) (fun q hq => (HO.out.1.lt q hq).1))
          have HO6 := Lib.hid ho6
          refine hKK _ _ (HSI.out _ HB6.out) ?_
          clear hKK KK ho6 hg6
          refine wpL_last (fuel := 0) (by kernel_rfl) (by kernel_rfl) rfl (fun KK hKK => ?_)
          go_simp
          refine hKK _ _ ?_
          clear hKK KK
          go_wp2
          go_roundw
          case rel =>
            refine ⟨_, k + 1, rfl, by go_num, by omega, ?_, HB.out.trans HB6.out⟩
            rw [HST.out, ecs_snoc]
            unfold ecell
            dsimp only
            rw [HXE.out]
            exact HO6.out
          case measure => simp [intOf]; omega
        · obtain ⟨b1, o1, rfl⟩ : ∃ b off, A = some ⟨b, off, none⟩ := by
            rcases hcA with h | h
            · omega
            · exact h
          clear hcA
          have sc2 : ∀ s : SW S0, (convert 22 9 (.slice (some ⟨b1, o1 + F, none⟩) (T - F) (c - F))).run Tryd.prog s.w = .ok (.string X) s.w := fun s => HC2.out s.w (HSF.out _ s.h) _ _ (fun _ _ h _ => by cases h; rfl)
          go_wp2
          refine regionL_start (by kernel_rfl) 28 rfl S0 27 ?_
          refine wpL_next 0 25 3 (by kernel_rfl) (fun _ _ d _ _ h => by cases d <;> exact h) hSd (fun hne => ?_)
          simp only [List.drop_succ_cons, List.drop_zero, List.take_succ_cons, List.take_zero]
          repeat (go_big_quiet_step (fail))
          refine wpQuiet_nil ?_
          refine wpL_one (i := 25) (fuel := 2) (by kernel_rfl) rfl (fun KK hKK => ?_)
          go_simp
          refine hKK _ _ (HSI.out _ ((show Below w.heap.size wr wr.drew from ⟨rfl, rfl, rfl, Nat.le_refl _, fun _ _ => rfl⟩).alloc hge _)) ?_
          clear hKK KK
          refine wpL_one (i := 26) (fuel := 1) (by kernel_rfl) rfl (fun KK hKK => ?_)
          refine step_push_g rfl (.tmp 35) (.tmp 60) 23 rfl rowEd wr.drew w.heap.size v k (ecs (samE bs (L.take k))) [.int .i64 (F : Int), .int .i64 (T : Int), .string X] rfl HO.out.drew rfl rfl rfl (by intro z hz; simp at hz; rcases hz with rfl | rfl | rfl <;> rfl) (by omega) (by omega) ?_
          intro v6 w6 ho6 hg6
          have HB6 : Hid (Below w.heap.size wr w6) := Lib.hid (((show Below w.heap.size wr wr.drew from ⟨rfl, rfl, rfl, Nat.le_refl _, fun _ _ => rfl⟩).alloc hge _).grown hg6 (by simp; show w.heap.size ≤ wr.heap.size + 1; omega) (fun q hq => (HO.out.1.lt q hq).1))
          have HO6 := Lib.hid ho6
          refine hKK _ _ (HSI.out _ HB6.out) ?_
          clear hKK KK ho6 hg6
          refine wpL_last (fuel := 0) (by kernel_rfl) (by kernel_rfl) rfl (fun KK hKK => ?_)
          go_simp
          refine hKK _ _ ?_
          clear hKK KK
          go_wp2
          go_roundw
          case rel =>
            refine ⟨_, k + 1, rfl, by go_num, by omega, ?_, HB.out.trans HB6.out⟩
            rw [HST.out, ecs_snoc]
            unfold ecell
            dsimp only
            rw [HXE.out]
            exact HO6.out
          case measure => simp [intOf]; omega
      · obtain rfl : k = m := by omega
        obtain ⟨A5, c5, rfl⟩ := HO.out.form
        have hall : L.take k = L := List.take_of_length_le (by rw [HL.out]; exact Nat.le_refl _)
        have S5 := Lib.hid (HO.out.ed (by rw [samE_len, hall, HL.out]))
        rw [hall] at S5
        have HCK : Hid (chk n (samE bs L) = 0) := Lib.hid (chk_ok (by rw [samE_len]; have := (chk_zero HK.out).1; omega) (samE_ok bs HOK.out))
        have hwo := WOk_zero HOK.out
        rw [← HLB.out] at hwo
        have HAS : Hid (appl bs 0 (samE bs L) = bs) := Lib.hid (by rw [samE_appl bs L 0 hwo (Int.le_refl _) (by omega), seg_all])
        have HBS : Hid (back bs 0 (samE bs L) = samE bs L) := Lib.hid (back_same bs 0 hwo (Int.le_refl _))
        have HSH : Hid (∀ i, shiftE i (samE bs L) = 0) := Lib.hid fun i => shift_zero (samE_grow bs hwo (Int.le_refl _) rfl)
        have HTX : Hid (∀ x ∈ samE bs L, x.2.2.length ≤ 1000) := Lib.hid fun x hx => Nat.le_trans (samE_txt bs L x hx) (by rw [HLB.out]; omega)
        have HSY := Lib.hid (samE_byt HBY.out L)
        have HSL : Hid ((samE bs L).length = k) := Lib.hid (by rw [samE_len, HL.out])
        clear hall hwo HO hge
        obtain ⟨K, hK⟩ : ∃ K, samE bs L = K := ⟨_, rfl⟩
        rw [hK] at S5 HCK HAS HBS HSH HTX HSY HSL
        clear hK
        -- Apply(b, same)
        go_wp2_with (fail)
        refine (HAP.out (A5) k c5 K wr HB.out S5.out hm6 HTX.out HSY.out).mono ?_
        intro e w6 h6
        unfold ApTo at h6
        rw [HCK.out, if_pos rfl, HAS.out, HLB.out] at h6
        obtain ⟨v6, rfl, ho6, b6⟩ := h6
        obtain ⟨A6, c6, rfl⟩ := ho6.form
        have B6 := Lib.hid (HB.out.trans (b6.mono HB.out.size))
        have S6 := Lib.hid ((S5.out.up b6 (Nat.le_refl _)).more b6.size)
        have O6 := Lib.hid ho6.sh
        clear ho6 b6 S5
        -- Apply(b, nil)
        go_wp2_with (fail)
        refine (HAP.out none 0 0 [] w6 B6.out (ShE.nil _ _ _) (by omega) (fun x hx => by cases hx) (fun x hx => by cases hx)).mono ?_
        intro e w7 h7
        unfold ApTo at h7
        rw [chk_nil, if_pos rfl, show appl bs 0 [] = bs from seg_all bs, HLB.out] at h7
        obtain ⟨v7, rfl, ho7, b7⟩ := h7
        obtain ⟨A7, c7, rfl⟩ := ho7.form
        have B7 := Lib.hid (B6.out.trans (b7.mono B6.out.size))
        have S7 := Lib.hid ((S6.out.up b7 (Nat.le_refl _)).more b7.size)
        have O67 := Lib.hid ((O6.out.up b7 (Nat.le_refl _)).more b7.size)
        have O7 := Lib.hid ho7.sh
        clear ho7 b7 S6 O6
        -- Back(b, same)
        go_wp2_with (fail)
        refine (HBK.out A5 k c5 K w7 B7.out S7.out hm6 HTX.out HSY.out).mono ?_
        intro e w8 h8
        unfold BkTo at h8
        rw [HCK.out, if_pos rfl, HBS.out, HSL.out] at h8
        obtain ⟨v8, rfl, ho8, b8⟩ := h8
        obtain ⟨A8, c8, rfl⟩ := ho8.form
        have B8 := Lib.hid (B7.out.trans (b8.mono B7.out.size))
        have S8 := Lib.hid ((S7.out.up b8 (Nat.le_refl _)).more b8.size)
        have O68 := Lib.hid ((O67.out.up b8 (Nat.le_refl _)).more b8.size)
        have O78 := Lib.hid ((O7.out.up b8 (Nat.le_refl _)).more b8.size)
        have O8 := Lib.hid (ho8.ed HSL.out)
        clear ho8 b8 S7 O67 O7
        have HEB : Hid (EdB n K) := Lib.hid (EdB_of HCK.out HTX.out)
        go_wp2
        go_loopw [13] (fun i wq => ∃ i0 : Nat, i = .int .i64 (i0 : Int) ∧ i0 ≤ n ∧ Below w8.heap.size w8 wq) (fun i _ => n - (intOf i).toNat)
        case atStart => exact ⟨0, rfl, Nat.zero_le _, Below.refl _ _⟩
        case round =>
          obtain ⟨i, rfl, hi, hbq⟩ := hrel
          have BQ := Lib.hid hbq
          have B9 := Lib.hid (B8.out.trans (hbq.mono B8.out.size))
          have zq := hbq.size
          clear hbq
          by_cases hin : i < n
          · have HPL := Lib.hid (place_any A5 n k c5 i K _ ((S8.out.up BQ.out (Nat.le_refl _)).more zq) (by omega) hm6 HEB.out (by omega))
            rw [HSH.out, Int.add_zero] at HPL
            have hii : ((i : Int) != (i : Int)) = false := by simp
            go_wp2_with (first
              | (go_at_call 17; refine HPL.out.mono ?_; rintro e w9 ⟨rfl, b9⟩; have BB9 := Lib.hid b9; clear b9)
              | fail)
            go_roundw
            case rel => exact ⟨i + 1, by go_num, by omega, BQ.out.trans (BB9.out.mono zq)⟩
            case measure => simp [intOf]; omega
          · obtain rfl : i = n := by omega
            obtain ⟨X, hX⟩ : ∃ X, strOfNums bs = X := ⟨_, rfl⟩
            have h1 := convert_sh (O68.out.up BQ.out (Nat.le_refl _)) c6
            have h2 := convert_sh (O78.out.up BQ.out (Nat.le_refl _)) c7
            have h3 := convert_sh (HBB.out _ B9.out) c
            rw [hX] at h1 h2 h3
            have XX : (X.toList == X.toList) = true := by simp
            have HSM := Lib.hid (sameE_yes A8 A5 k c8 c5 K _ ((O8.out.up BQ.out (Nat.le_refl _)).more zq) ((S8.out.up BQ.out (Nat.le_refl _)).more zq) (by omega))
            clear hX
            go_wp2_with (first
              | (go_at_call 19; refine HSM.out.mono ?_; rintro e w9 ⟨rfl, q9⟩; have B10 := Lib.hid (B9.out.trans (q9.below _)); clear q9)
              | (go_at_call 9; refine (awake_any _).mono ?_; rintro e w10 ⟨rfl, b10⟩)
              | fail)
            go_ret
            exact ⟨rfl, B10.out.trans (b10.mono B10.out.size)⟩
  · have hne : (ck != 0) = true := by simpa using h0
    clear h0
    go_enter Tryd.func7, Tryd.ntmps7
    go_wp2_with (first
      | (go_at_call 8; refine HG.out.mono ?_; rintro e w1 ⟨rfl, rfl⟩)
      | (go_at_call 12; refine (rcheck_any P n m d L _ ((HX.out _ B0.out).more B0.out.size) (by omega) (by omega)).mono ?_; rw [HK.out]; rintro e w3 ⟨rfl, q3⟩; have B3 := Lib.hid (B0.out.trans (q3.below _)); clear q3)
      | (go_at_call 9; refine (awake_any _).mono ?_; rintro e w6 ⟨rfl, b6⟩)
      | fail)
    go_ret
    exact ⟨rfl, B3.out.trans (b6.mono B3.out.size)⟩

theorem spanNone_walk (a0 : Option Addr) (len0 cap0 : Nat) (zs : List Int) (a1 : Option Addr) (len1 cap1 : Nat) (L : List Ed) (w : World) (w0 : IsRow .u8 w a0 len0 cap0 zs) (hm : len1 ≤ maxLen) (hx : ShE w w.heap.size a1 len1 L) (hby : BytE L) (hs : ∀ x ∈ L, x.2.2.length ≤ maxLen) :
    Calls Tryd.prog 7 #[.slice a0 len0 cap0, .slice a1 len1 cap1] w fun e w' => e = .returned (.bool true) ∧ Below w.heap.size w w' := by
  obtain ⟨l0, m0, _, s0, b0⟩ := w0.sh
  by_cases h : 500 < len0
  · exact spanNone_long _ _ _ _ _ _ L w h (by omega)
  · cases hg : greatB L with
    | true => exact spanNone_great _ _ _ _ _ _ L w h hx hm hs hg
    | false => exact spanNone_small _ _ _ _ _ _ _ L w h s0 (byt8_of b0) l0 m0 w0.formS hx hm hby hg
end Go.Proofs.YtopeechbgblndaaDoor
