/-
  blazonlaw08.ExprLater is true for every input: an expression with blanks ahead is the same one, as many places later; what is refused is refused as many places later.
  Conditions: package-level variables start as the program's text lays them; none beyond.
-/
import Derived.Test.YtbpmgghonnoooaaDoorEpD
import Derived.Test.YtbpmgghonnoooaaDoorEpS
namespace Go.Proofs.YtbpmgghonnoooaaDoor
set_option linter.unusedVariables false
set_option linter.unusedSimpArgs false
open Go.RowKit

theorem exprLater_long (A : Option Addr) (n c : Nat) (z : Int) (w : World) (h : 900 < n) (hm : n ≤ maxLen) (hv : Vars w) :
    Calls Tryd.prog 7 #[.slice A n c, .int .u8 z] w fun e w' => e = .returned (.bool true) ∧ Below w.heap.size w w' := by
  unfold maxLen at hm
  have hlt : (900 : Int) < (n : Int) := by omega
  go_enter Tryd.func7, Tryd.ntmps7
  go_wp2_with (go_at_call 8; refine (awake_any _ hv).mono ?_; rintro e w1 ⟨rfl, b1⟩)
  go_ret
  exact ⟨rfl, b1⟩

set_option maxRecDepth 100000 in
set_option maxHeartbeats 3200000 in
theorem exprLater_short (A : Option Addr) (n c : Nat) (z : Int) (bs : List Int) (w : World) (h : ¬ 900 < n) (hx : Sh w w.heap.size A n (by8 bs)) (hb : Byt8 bs) (hz0 : 0 ≤ z) (hz1 : z ≤ 255) (hnc : n ≤ c) (hcm : c ≤ maxLen) (hv : Vars w) :
    Calls Tryd.prog 7 #[.slice A n c, .int .u8 z] w fun e w' => e = .returned (.bool true) ∧ Below w.heap.size w w' := by
  have hz := zeroEx'
  have hl : bs.length = n := by have := hx.len; rwa [by8_len] at this
  have hlt : ¬ (900 : Int) < (n : Int) := by omega
  have hvs := hv.size
  obtain ⟨k, hk⟩ : ∃ k : Nat, z.tmod 100 = (k : Int) := ⟨(z.tmod 100).toNat, by have := Int.tmod_nonneg (100 : Int) hz0; omega⟩
  have hk1 : k < 100 := by have := Int.tmod_lt_of_pos z (show (0 : Int) < 100 by omega); omega
  have hw1 : IntKind.i64.wrap z = z := IntWalk.i64_in _ (by omega)
  have hw2 : IntKind.i64.wrap (k : Int) = (k : Int) := IntWalk.i64_in _ (by omega)
  have HAW : Hid (∀ W, Below w.heap.size w W → Calls Tryd.prog 8 #[] W fun e w' => e = .returned (.bool true) ∧ Below W.heap.size W w') := Lib.hid fun W hW => awake_any W (hv.under hW hvs)
  obtain ⟨X, hX⟩ : ∃ X, parseG (rowT (strOfNums bs) (live bs 0)) (live bs 0) (16 * (n + k) + 9) = X := ⟨_, rfl⟩
  obtain ⟨Y, hY⟩ : ∃ Y, parseG (rowT (strOfNums (spaced k bs)) (live (spaced k bs) 0)) (live (spaced k bs) 0) (16 * (n + k) + 9) = Y := ⟨_, rfl⟩
  have HPA : Hid (∀ W, Below w.heap.size w W → Calls Tryd.prog 10 #[.slice A n c] W (ParseTo X W)) := Lib.hid fun W hW => by
    rw [← hX]
    exact parse_any A n c bs W ((hx.below hW).more hW.size) hb (by omega) hnc hcm (hv.under hW hvs) _ (by omega)
  have HPB : Hid (∀ W A' c', Below w.heap.size w W → Sh W W.heap.size A' (k + n) (by8 (spaced k bs)) → k + n ≤ c' → c' ≤ maxLen → Calls Tryd.prog 10 #[.slice A' (k + n) c'] W (ParseTo Y W)) := Lib.hid fun W A' c' hW hs h1 h2 => by
    rw [← hY]
    exact parse_any A' (k + n) c' (spaced k bs) W hs (byt8_spaced hb) (by omega) h1 h2 (hv.under hW hvs) _ (by omega)
  have hfx := parse_facts (bts_str hb) (by omega) (16 * (n + k) + 9)
  have hps := parse_spaced (k := k) hb (16 * (n + k) + 9)
  rw [hX] at hfx hps
  rw [hY] at hps
  rw [hl] at hfx
  obtain ⟨x, y, r⟩ := X
  obtain ⟨x', y', r'⟩ := Y
  obtain ⟨hf0, hy0, hyn⟩ := hfx
  obtain ⟨q1, q2, q3⟩ := hps
  dsimp only at hf0 hy0 hyn HPA HPB q1 q2 q3
  subst q1
  subst q2
  have HF0 := Lib.hid hf0
  have HQ := Lib.hid q3
  have HX := Lib.hid hx
  have HB := Lib.hid (Below.refl w.heap.size w)
  have hw3 : IntKind.i64.wrap (y + (k : Int)) = y + (k : Int) := IntWalk.i64_in _ (by omega)
  clear hb hv hX hY hf0 q3 hx
  go_enter Tryd.func7, Tryd.ntmps7
  go_wp2_with fail
  go_loopw [6, 7] (fun v iv wr => ∃ i : Nat, iv = .int .i64 (i : Int) ∧ i ≤ k ∧ Own wr w.heap.size 5 1 v i (by8 (List.replicate i 32)) ∧ Below w.heap.size w wr) (fun _ iv _ => k - (intOf iv).toNat)
  case atStart => exact ⟨0, rfl, Nat.zero_le _, Own.nil _ _ _ _ (Nat.le_refl _), HB.out⟩
  case round =>
    obtain ⟨i, rfl, hi, ho, hb⟩ := hrel
    have HO := Lib.hid ho
    have HB := Lib.hid hb
    clear ho hb
    by_cases hik : i < k
    · go_wp2_with (first
        | (at_builtin; refine wpList_more rfl (.tmp 27) (.tmp 28) 22 rfl rowB w _ w.heap.size _ i (by8 (List.replicate i 32)) (by8 [32]) rfl (HO.out.alloc _) (wr.heap.size + 1) (some ⟨wr.heap.size, 0, none⟩) 1 1 rfl (Sh.lit wr (by8 [32]) 5) (by8_one _) (HB.out.alloc HB.out.size _) (by omega) (by omega) ?_; intro v2 w2 ho2 hb2)
        | fail)
      go_roundw
      case rel => exact ⟨i + 1, by go_num, hik, ho2.cast rfl (by rw [← by8_append, List.replicate_succ']), hb2⟩
      case measure => simp [intOf]; omega
    · obtain rfl : i = k := by omega
      obtain ⟨A6, c6, h6⟩ := HO.out.form
      subst h6
      have hone0 : (Value.slice none 0 0).oneCell' = true := rfl
      go_wp2_with (first
        | (go_at_call 10; refine (HPA.out _ HB.out).mono ?_; rintro e wp ⟨lv, rfl, hx2, b⟩; have hone := hx2.one; have hwp := b.size; have HXT := Lib.hid hx2; have HOP := Lib.hid (HO.out.below b); have HBP := Lib.hid (HB.out.trans (b.mono HB.out.size)); clear b hx2; dsimp only; refine Hid.out ?_)
        | fail)
      have hgeP := HBP.out.size
      refine Lib.hid ?_
      go_wp2_with (first
        | (refine wpList_stx rfl (.tmp 8) (.tmp 33) rfl wp.heap.size rfl (entry_slot wp) (e := x) (lv := lv) rfl hone ?_; intro wq hg8 hs8; have HBQ := Lib.hid (bel_fr (HBP.out.trans ((entry_below wp).mono HBP.out.size)) hg8 HBP.out.size (by rw [entry_size]; have := HBP.out.size; omega)); have HXQ := Lib.hid (((HXT.out.weak (S' := fun b => wr.heap.size ≤ b ∧ b < wp.heap.size) (by intro b h1 h; exact ⟨h1, h⟩)).under (entry_below wp) (by intro b hb _; exact hb.2)).grown hg8 (by intro b hb _ e; injection e with e; omega)); have HSQ := Lib.hid hs8; have HOQ := Lib.hid (HOP.out.newvar _ hg8); have hzq := hs8.lt; have hlow : ∀ j, (Value.slice A6 i c6).ownBlock = some j → w.heap.size ≤ j ∧ j < wr.heap.size := (fun j hj => HO.out.1.lt j hj); have HLOW := Lib.hid hlow; clear hg8 hs8 hlow)
        | (at_builtin; refine wpList_more_g rfl (.tmp 37) (.tmp 38) 22 rfl rowB wq w.heap.size _ i (by8 (List.replicate i 32)) (by8 bs) rfl HOQ.out w.heap.size A n c rfl (HX.out.below HBQ.out) (by8_one _) (by omega) (by omega) ?_; intro v3 w3 ho3 hg3; have hg3 : wq.grownBy w3 (Value.slice A6 i c6).ownBlock := hg3; obtain ⟨A7, c7, h7⟩ := ho3.form; subst h7; have hcap7 := ho3.cap; have HS7 := Lib.hid (show Sh w3 w3.heap.size A7 (i + n) (by8 (spaced i bs)) from (by have := ho3.sh; rwa [← by8_append] at this)); have HB3 := Lib.hid (bel_own HBQ.out hg3 (fun j hj => (HLOW.out j hj).1) HBQ.out.size); have HS3 := Lib.hid (HSQ.out.grown hg3 (by intro e; have := (HLOW.out _ e.symm).2; omega)); have HX3 := Lib.hid (HXQ.out.grown hg3 (by intro b hb _ e; have := (HLOW.out _ e.symm).2; omega)); have hz3 := HS3.out.lt; clear ho3 hg3)
        | (go_at_call 10; refine (HPB.out _ _ _ HB3.out HS7.out hcap7.1 hcap7.2).mono ?_; rintro e w4 ⟨lv', rfl, hx4, b4⟩; have hone4 := hx4.one; have HX4' := Lib.hid hx4; have HB4 := Lib.hid (HB3.out.trans (b4.mono HB3.out.size)); have HS4 := Lib.hid (HS3.out.below b4 HS3.out.lt); have HX4 := Lib.hid (HX3.out.under b4 (by intro b hb hb'; exact hb')); clear b4 hx4; dsimp only; refine Hid.out ?_)
        | fail)
      obtain ⟨G, hG⟩ : ∃ G, wp.heap.size = G := ⟨_, rfl⟩
      have HT1 : Hid (Shx w4 (fun b => b ≠ G) lv x.l) := Lib.hid (HX4.out.weak fun b hb _ => by have := hb.2; omega)
      have HT2 : Hid (Shx w4 (fun b => b ≠ G) lv' x'.l) := Lib.hid (HX4'.out.weak fun b hb _ => by have hb : w3.heap.size ≤ b := hb; omega)
      have hGw : w.heap.size ≤ G := by omega
      have hz4 := HS4.out.lt
      rw [hG] at HS4 hz4 ⊢
      clear hG HXT HOP HBP HBQ HXQ HSQ HOQ HLOW HS7 HB3 HS3 HX3 HX4 HX4' hcap7 hzq hz3 hgeP hwp
      by_cases hr : r' = 0
      · subst hr
        obtain ⟨hfine, hcnt, hins, ha0, han⟩ := HF0.out rfl
        have hq := HQ.out rfl
        subst hq
        have HLT : Hid (∀ j : Nat, j < i → LatC (x.sh (j : Int))) := Lib.hid fun j hj => by
          refine later_any ((n : Int) + (j : Int)) (by omega) _ (Ex.sh_ins (j : Int) _ x hins) ?_ ?_ (Ex.sh_wfx (j : Int) x hfine.1)
          · rw [Ex.sh_a]; omega
          · rw [Ex.sh_a]; omega
        have HSA : Hid (SameC (x.sh (i : Int))) := Lib.hid (sameX_any _ (Ex.sh_wfx (i : Int) x hfine.1))
        clear hfine hcnt hins ha0 han
        refine Lib.hid ?_
        go_wp2_with (first
          | (refine wpList_stx rfl (.tmp 11) (.tmp 41) rfl w4.heap.size rfl (entry_slot w4) (e := x.sh (i : Int)) (lv := lv') rfl hone4 ?_; intro w5 hg5 hs5; have HB5 := Lib.hid (bel_fr (HB4.out.trans ((entry_below w4).mono HB4.out.size)) hg5 HB4.out.size (by rw [entry_size]; have := HB4.out.size; omega)); have HS5 := Lib.hid ((HS4.out.below (entry_below w4) hz4).grown hg5 (by intro e; injection e; omega)); have HS5' := Lib.hid hs5; have HT5 := Lib.hid ((((HT1.out.weak (S' := fun b => b ≠ G ∧ b < w4.heap.size) (by intro b h1 h; exact ⟨h1, h⟩)).under (entry_below w4) (by intro b hb _; exact hb.2)).grown hg5 (by intro b hb _ e; injection e with e; omega)).weak (S' := fun b => b ≠ G) (by intro b hb _; exact hb.1)); have HT5' := Lib.hid ((((HT2.out.weak (S' := fun b => b ≠ G ∧ b < w4.heap.size) (by intro b h1 h; exact ⟨h1, h⟩)).under (entry_below w4) (by intro b hb _; exact hb.2)).grown hg5 (by intro b hb _ e; injection e with e; omega)).weak (S' := fun b => b ≠ G) (by intro b hb _; exact hb.1)); clear hg5 hs5)
          | fail)
        obtain ⟨G', hG'⟩ : ∃ G', w4.heap.size = G' := ⟨_, rfl⟩
        have hGw' : w.heap.size ≤ G' := by have := HB4.out.size; omega
        rw [hG'] at HS5' hz4 ⊢
        clear hG' HT1 HT2 HS4 HB4
        go_loopw [14] (fun jv wr => ∃ (j : Nat) (lw : Value), jv = .int .i64 (j : Int) ∧ j ≤ i ∧ Slot wr G (x.sh (j : Int)) lw ∧ Shx wr (fun b => b ≠ G) lw (x.sh (j : Int)).l ∧ Slot wr G' (x.sh (i : Int)) lv' ∧ Shx wr (fun b => b ≠ G) lv' (x.sh (i : Int)).l ∧ Below w.heap.size w wr) (fun jv _ => i - (intOf jv).toNat)
        case atStart => exact ⟨0, lv, rfl, Nat.zero_le _, by rw [show (((0 : Nat) : Int)) = 0 from rfl, Ex.sh_zero]; exact ⟨HS5.out, HT5.out, HS5'.out, HT5'.out, HB5.out⟩⟩
        case round =>
          obtain ⟨j, lw, rfl, hj, s1, t1, s2, t2, hb⟩ := hrel
          have S1 := Lib.hid s1
          have T1 := Lib.hid t1
          have S2 := Lib.hid s2
          have T2 := Lib.hid t2
          have HBB := Lib.hid hb
          have hz5 := s1.lt
          have hz6 := s2.lt
          clear s1 t1 s2 t2 hb
          by_cases hjk : j < i
          · have HL := Lib.hid (HLT.out j hjk lw)
            go_wp2_with (first
              | (refine wpList_ldx' rfl (.tmp 8) rfl G 0 rfl S1.out.cs ?_)
              | (go_at_call 32; refine (HL.out _ _ T1.out).mono ?_; rintro e w6 ⟨kv, rfl, hx6, b6⟩; have hone6 := hx6.one; have hs6 := b6.size; rw [Ex.sh_sh] at hx6 ⊢; have T6 := Lib.hid hx6; have S1' := Lib.hid (S1.out.below b6 hz5); have S2' := Lib.hid (S2.out.below b6 hz6); have T2' := Lib.hid (T2.out.under b6 (by intro b _ h; exact h)); have HB6 := Lib.hid (HBB.out.trans (b6.mono HBB.out.size)); clear hx6 b6; dsimp only)
              | (refine wpList_stx rfl (.tmp 8) (.tmp 63) rfl G rfl S1'.out (e := x.sh ((j : Int) + 1)) (lv := kv) rfl hone6 ?_; intro w7 hg7 hs7; have S7 := Lib.hid hs7; have S7' := Lib.hid (S2'.out.grown hg7 (by intro e; injection e; omega)); have T7 := Lib.hid (T6.out.grown hg7 (by intro b hb _ e; injection e; have hb : _ ≤ b := hb; omega)); have T7' := Lib.hid (T2'.out.grown hg7 (by intro b hb _ e; injection e with e; exact hb e)); have HB7 := Lib.hid (bel_fr HB6.out hg7 hGw HB6.out.size); clear hg7 hs7)
              | fail)
            go_roundw
            case rel =>
              have e1 : ((j + 1 : Nat) : Int) = (j : Int) + 1 := by omega
              exact ⟨j + 1, kv, by go_num, hjk, by rw [e1]; exact S7.out, by rw [e1]; exact T7.out.weak fun b hb _ => by have hb : _ ≤ b := hb; omega, S7'.out, T7'.out, HB7.out⟩
            case measure => simp [intOf]; omega
          · obtain rfl : j = i := by omega
            go_wp2_with (first
              | (refine wpList_ldx' rfl (.tmp 8) rfl G 0 rfl S1.out.cs ?_)
              | (refine wpList_ldx' rfl (.tmp 11) rfl G' 0 rfl S2.out.cs ?_)
              | (go_at_call 12; refine (HSA.out _ _ _ _ _ T1.out T2.out).mono ?_; rintro e w8 ⟨rfl, b8⟩; have HB8 := Lib.hid (HBB.out.trans (b8.mono HBB.out.size)); clear b8; dsimp only)
              | (go_at_call 8; refine (HAW.out _ HB8.out).mono ?_; rintro e w9 ⟨rfl, b9⟩; have HB9 := Lib.hid (HB8.out.trans (b9.mono HB8.out.size)); clear b9; dsimp only)
              | fail)
            go_ret
            exact ⟨rfl, HB9.out⟩
      · have hr1 : (r' == 0) = false := by simp [hr]
        have hr2 : decide (r' = 0) = false := by simp [hr]
        refine Lib.hid ?_
        go_wp2_with (first
          | (refine wpList_stx rfl (.tmp 11) (.tmp 41) rfl w4.heap.size rfl (entry_slot w4) (e := x') (lv := lv') rfl hone4 ?_; intro w5 hg5 hs5; have HB5 := Lib.hid (bel_fr (HB4.out.trans ((entry_below w4).mono HB4.out.size)) hg5 HB4.out.size (by rw [entry_size]; have := HB4.out.size; omega)); clear hg5 hs5)
          | (go_at_call 8; refine (HAW.out _ HB5.out).mono ?_; rintro e w9 ⟨rfl, b9⟩; have HB9 := Lib.hid (HB5.out.trans (b9.mono HB5.out.size)); clear b9; dsimp only)
          | fail)
        go_ret
        exact ⟨rfl, HB9.out⟩
theorem exprLater_walk (A : Option Addr) (n c : Nat) (zs : List Int) (z : Int) (w : World) (hr : IsRow .u8 w A n c zs) (wz : (Lit.int .u8 z).wf) (hv : Vars w) :
    Calls Tryd.prog 7 #[.slice A n c, .int .u8 z] w fun e w' => e = .returned (.bool true) ∧ Below w.heap.size w w' := by
  obtain ⟨hnc, hcm, _, hx, hwf⟩ := hr.sh
  by_cases h : 900 < n
  · exact exprLater_long A n c z w h (Nat.le_trans hnc hcm) hv
  · have h1 := byt8_of (l := [z]) (by intro x hx; rw [List.mem_singleton.1 hx]; exact wz) z (by simp)
    exact exprLater_short A n c z (zs.take n) w h hx (byt8_of hwf) (by have := h1.1; omega) (by have := h1.2; omega) hnc hcm hv
end Go.Proofs.YtbpmgghonnoooaaDoor
