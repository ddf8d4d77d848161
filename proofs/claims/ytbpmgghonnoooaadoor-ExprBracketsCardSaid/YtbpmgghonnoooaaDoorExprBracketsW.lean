/-
  blazonlaw08.ExprBrackets is true for every input: an expression between brackets is the same one, a place later, unless it stands too deep then.
  Conditions: package-level variables start as the program's text lays them; none beyond.
-/
import Derived.Test.YtbpmgghonnoooaaDoorEpF
import Derived.Test.YtbpmgghonnoooaaDoorEpS
namespace Go.Proofs.YtbpmgghonnoooaaDoor
set_option linter.unusedVariables false
set_option linter.unusedSimpArgs false
open Go.RowKit

theorem exprBrackets_long (A : Option Addr) (n c : Nat) (w : World) (h : 900 < n) (hm : n ≤ maxLen) (hv : Vars w) :
    Calls Tryd.prog 6 #[.slice A n c] w fun e w' => e = .returned (.bool true) ∧ Below w.heap.size w w' := by
  unfold maxLen at hm
  have hlt : (900 : Int) < (n : Int) := by omega
  go_enter Tryd.func6, Tryd.ntmps6
  go_wp2_with (go_at_call 8; refine (awake_any _ hv).mono ?_; rintro e w1 ⟨rfl, b1⟩)
  go_ret
  exact ⟨rfl, b1⟩

set_option maxRecDepth 100000 in
set_option maxHeartbeats 6400000 in
theorem exprBrackets_short (A : Option Addr) (n c : Nat) (bs : List Int) (w : World) (h : ¬ 900 < n) (hx : Sh w w.heap.size A n (by8 bs)) (hb : Byt8 bs) (hnc : n ≤ c) (hcm : c ≤ maxLen) (hv : Vars w) :
    Calls Tryd.prog 6 #[.slice A n c] w fun e w' => e = .returned (.bool true) ∧ Below w.heap.size w w' := by
  have hz := zeroEx'
  have hl : bs.length = n := by have := hx.len; rwa [by8_len] at this
  have hlt : ¬ (900 : Int) < (n : Int) := by omega
  have hvs := hv.size
  have HAW : Hid (∀ W, Below w.heap.size w W → Calls Tryd.prog 8 #[] W fun e w' => e = .returned (.bool true) ∧ Below W.heap.size W w') := Lib.hid fun W hW => awake_any W (hv.under hW hvs)
  obtain ⟨X, hX⟩ : ∃ X, parseG (rowT (strOfNums bs) (live bs 0)) (live bs 0) (16 * n + 32) = X := ⟨_, rfl⟩
  obtain ⟨Y, hY⟩ : ∃ Y, parseG (rowT (strOfNums (braced bs)) (live (braced bs) 0)) (live (braced bs) 0) (16 * n + 32 + 9) = Y := ⟨_, rfl⟩
  have HPA : Hid (∀ W, Below w.heap.size w W → Calls Tryd.prog 10 #[.slice A n c] W (ParseTo X W)) := Lib.hid fun W hW => by
    rw [← hX]
    exact parse_any A n c bs W ((hx.below hW).more hW.size) hb (by omega) hnc hcm (hv.under hW hvs) _ (by omega)
  have HPB : Hid (∀ W A' c', Below w.heap.size w W → Sh W W.heap.size A' (1 + n + 1) (by8 (braced bs)) → 1 + n + 1 ≤ c' → c' ≤ maxLen → Calls Tryd.prog 10 #[.slice A' (1 + n + 1) c'] W (ParseTo Y W)) := Lib.hid fun W A' c' hW hs h1 h2 => by
    rw [← hY]
    exact parse_any A' (1 + n + 1) c' (braced bs) W hs (byt8_braced hb) (by omega) h1 h2 (hv.under hW hvs) _ (by omega)
  have hfx := parse_facts (bts_str hb) (by omega) (16 * n + 32)
  have hps : (∀ x ∈ bs, x ≠ 35) → X.2.2 = 0 → Y.2.2 = 12 ∨ (Y.2.2 = 0 ∧ Y.1 = X.1.sh 1) := fun hno h0 => by
    rw [← hX] at h0 ⊢
    rw [← hY]
    exact parse_braced hb hno (by omega) _ h0
  rw [hX] at hfx
  rw [hl] at hfx
  obtain ⟨x, y, r⟩ := X
  obtain ⟨x', y', r'⟩ := Y
  obtain ⟨hf0, hy0, hyn⟩ := hfx
  dsimp only at hf0 hy0 hyn HPA HPB hps
  have HF0 := Lib.hid hf0
  have HQ := Lib.hid hps
  have HX := Lib.hid hx
  have HL := Lib.hid hl
  clear hb hv hX hY hf0 hps hx
  go_enter Tryd.func6, Tryd.ntmps6
  go_wp2_with fail
  go_loopw [3] (fun iv wr => ∃ i : Nat, iv = .int .i64 (i : Int) ∧ i ≤ n ∧ (∀ x ∈ bs.take i, x ≠ 35) ∧ Below w.heap.size w wr) (fun iv _ => n - (intOf iv).toNat)
  case atStart => exact ⟨0, rfl, Nat.zero_le _, (fun x hx => by cases hx), Below.refl _ _⟩
  case round =>
    obtain ⟨i, rfl, hi, hno, hb⟩ := hrel
    have HB := Lib.hid hb
    have HNO := Lib.hid hno
    clear hb hno
    by_cases hin : i < n
    · obtain ⟨v, hv⟩ : ∃ v, bs[i]? = some v := ⟨_, List.getElem?_eq_getElem (by omega)⟩
      obtain ⟨b, off, hA, _, hc⟩ := (HX.out.below HB.out).2 (by omega)
      subst hA
      have hci : wr.cell? ⟨b, off + i, none⟩ = some (.int .u8 v) := hc i _ (by8_at hv)
      have HV := Lib.hid hv
      clear hc hv
      by_cases h35 : v = 35
      · subst h35
        go_wp2_with (go_at_call 8; refine (HAW.out _ HB.out).mono ?_; rintro e w1 ⟨rfl, b1⟩)
        go_ret
        exact ⟨rfl, HB.out.trans (b1.mono HB.out.size)⟩
      · have h35' : (v == 35) = false := by simp [h35]
        have h35'' : decide (v = 35) = false := by simp [h35]
        go_wp2_with fail
        go_roundw
        case rel =>
          refine ⟨i + 1, by go_num, hin, fun x hx => ?_, HB.out⟩
          rw [List.take_add_one, HV.out] at hx
          rcases List.mem_append.1 hx with hx | hx
          · exact HNO.out x hx
          · rw [List.mem_singleton.1 hx]; exact h35
        case measure => simp [intOf]; omega
    · obtain rfl : i = n := by omega
      have hno : ∀ x ∈ bs, x ≠ 35 := by
        have := HNO.out
        rwa [← HL.out, List.take_length] at this
      have hQ := HQ.out hno
      have HQ := Lib.hid hQ
      clear hQ hno HNO
      go_wp2_with (first
        | (go_at_call 10; refine (HPA.out _ HB.out).mono ?_; rintro e wp ⟨lv, rfl, hx2, b⟩; have hone := hx2.one; have HXT := Lib.hid hx2; have HBP := Lib.hid (HB.out.trans (b.mono HB.out.size)); clear b hx2; dsimp only; refine Hid.out ?_)
        | fail)
      refine Lib.hid ?_
      go_wp2_with (first
        | (refine wpList_stx rfl (.tmp 4) (.tmp 29) rfl wp.heap.size rfl (entry_slot wp) (e := x) (lv := lv) rfl hone ?_; intro wq hg8 hs8; have HBQ := Lib.hid (bel_fr (HBP.out.trans ((entry_below wp).mono HBP.out.size)) hg8 HBP.out.size (by rw [entry_size]; have := HBP.out.size; omega)); have HXQ := Lib.hid (((HXT.out.weak (S' := fun b => b < wp.heap.size) (by intro b _ h; exact h)).under (entry_below wp) (by intro b hb _; exact hb)).grown hg8 (by intro b hb _ e; injection e with e; omega)); have HSQ := Lib.hid hs8; have hzq := hs8.lt; clear hg8 hs8)
        | (at_builtin; refine wpList_more rfl (.tmp 33) (.tmp 34) 22 rfl rowB wq (wq.alloc (.cells #[.int .u8 40] 5)) wq.heap.size _ 1 (by8 [40]) (by8 bs) rfl (show Own _ _ _ 1 _ 1 (by8 [40]) from Own.lit1 wq 40) w.heap.size A i c rfl (HX.out.below (HBQ.out.alloc HBQ.out.size _)) (by8_one _) ((Below.refl _ _).alloc (Nat.le_refl _) _) (by omega) (by omega) ?_; intro v1 w1 ho1 hb1; have ho1 := ho1.cast rfl (by8_append [40] bs).symm)
        | (at_builtin; refine wpList_more rfl (.tmp 35) (.tmp 36) 22 rfl rowB wq _ wq.heap.size _ (1 + i) (by8 ([40] ++ bs)) (by8 [41]) rfl (ho1.alloc _) (w1.heap.size + 1) (some ⟨w1.heap.size, 0, none⟩) 1 1 rfl (Sh.lit w1 (by8 [41]) 5) (by8_one _) (hb1.alloc hb1.size _) (by omega) (by omega) ?_; intro v3 w3 ho3 hb3; have ho3 := ho3.cast rfl (by8_append _ _).symm; obtain ⟨A7, c7, h7⟩ := ho3.form; subst h7; have hcap7 := ho3.cap; have HS7 := Lib.hid (show Sh w3 w3.heap.size A7 (1 + i + 1) (by8 (braced bs)) from ho3.sh); have HB3 := Lib.hid (HBQ.out.trans (hb3.mono HBQ.out.size)); have HS3 := Lib.hid (HSQ.out.below hb3 hzq); have HX3 := Lib.hid (HXQ.out.under hb3 (by intro b hb hb'; exact hb')); have hz3 := HS3.out.lt; clear ho3 hb3)
        | (go_at_call 10; refine (HPB.out _ _ _ HB3.out HS7.out hcap7.1 hcap7.2).mono ?_; rintro e w4 ⟨lv', rfl, hx4, b4⟩; have hone4 := hx4.one; have HX4' := Lib.hid hx4; have HB4 := Lib.hid (HB3.out.trans (b4.mono HB3.out.size)); have HS4 := Lib.hid (HS3.out.below b4 HS3.out.lt); have HX4 := Lib.hid (HX3.out.under b4 (by intro b hb hb'; exact hb')); clear b4 hx4; dsimp only; refine Hid.out ?_)
        | fail)
      obtain ⟨G, hG⟩ : ∃ G, wp.heap.size = G := ⟨_, rfl⟩
      have hgeP := HBP.out.size
      have HT1 : Hid (Shx w4 (fun b => b < w4.heap.size) lv x.l) := Lib.hid (HX4.out.weak fun b _ hb => hb)
      have HT2 : Hid (Shx w4 (fun b => b < w4.heap.size) lv' x'.l) := Lib.hid (HX4'.out.weak fun b _ hb => hb)
      have hGw : w.heap.size ≤ G := by omega
      have hz4 := HS4.out.lt
      rw [hG] at HS4 hz4 ⊢
      clear hG HXT HBP HBQ HXQ HSQ HS7 HB3 HS3 HX3 HX4 HX4' hcap7 hzq hz3 hgeP hb1 ho1
      by_cases hr : r = 0
      · subst hr
        rcases HQ.out rfl with hq | ⟨hq, hqx⟩
        · subst hq
          refine Lib.hid ?_
          go_wp2_with (first
            | (refine wpList_stx rfl (.tmp 7) (.tmp 39) rfl w4.heap.size rfl (entry_slot w4) (e := x') (lv := lv') rfl hone4 ?_; intro w5 hg5 hs5; have HB5 := Lib.hid (bel_fr (HB4.out.trans ((entry_below w4).mono HB4.out.size)) hg5 HB4.out.size (by rw [entry_size]; have := HB4.out.size; omega)); clear hg5 hs5)
            | (go_at_call 8; refine (HAW.out _ HB5.out).mono ?_; rintro e w9 ⟨rfl, b9⟩; have HB9 := Lib.hid (HB5.out.trans (b9.mono HB5.out.size)); clear b9; dsimp only)
            | fail)
          go_ret
          exact ⟨rfl, HB9.out⟩
        · subst hq
          subst hqx
          obtain ⟨hfine, hcnt, hins, ha0, han⟩ := HF0.out rfl
          have HLT : Hid (LatC x) := Lib.hid (later_any (i : Int) (by omega) x hins ha0 han hfine.1)
          have HSA : Hid (SameC (x.sh 1)) := Lib.hid (sameX_any _ (Ex.sh_wfx 1 x hfine.1))
          obtain ⟨A1, c1, rfl, _⟩ := HT1.out.len
          obtain ⟨A2, c2, rfl, _⟩ := HT2.out.len
          clear hfine hcnt hins ha0 han
          refine Lib.hid ?_
          go_wp2_with (first
            | (refine wpList_stx rfl (.tmp 7) (.tmp 39) rfl w4.heap.size rfl (entry_slot w4) (e := x.sh 1) (lv := .slice A2 (x.sh 1).l.length c2) rfl hone4 ?_; intro w5 hg5 hs5; have HB5 := Lib.hid (bel_fr (HB4.out.trans ((entry_below w4).mono HB4.out.size)) hg5 HB4.out.size (by rw [entry_size]; have := HB4.out.size; omega)); have HS5 := Lib.hid ((HS4.out.below (entry_below w4) hz4).grown hg5 (by intro e; injection e; omega)); have HS5' := Lib.hid hs5; have HT5 := Lib.hid ((HT1.out.under (entry_below w4) (by intro b hb _; exact hb)).grown hg5 (by intro b hb _ e; injection e with e; have hb : b < w4.heap.size := hb; omega)); have HT5' := Lib.hid ((HT2.out.under (entry_below w4) (by intro b hb _; exact hb)).grown hg5 (by intro b hb _ e; injection e with e; have hb : b < w4.heap.size := hb; omega)); clear hg5 hs5)
            | fail)
          obtain ⟨G', hG'⟩ : ∃ G', w4.heap.size = G' := ⟨_, rfl⟩
          rw [hG'] at HS5' hz4 ⊢
          have hz5 := HS5.out.lt
          have hz6 := HS5'.out.lt
          clear hG' HT1 HT2 HS4 HB4
          have KS : Hid (∀ W, Below w5.heap.size w5 W → W.cell? ⟨G, 0, none⟩ = some (.int .i64 x.k) ∧ W.cell? ⟨G, 1, none⟩ = some (.int .i64 x.a) ∧ W.cell? ⟨G, 2, none⟩ = some (.int .i64 x.m) ∧ W.cell? ⟨G, 3, none⟩ = some (.string x.nm) ∧ W.cell? ⟨G, 4, none⟩ = some (.string x.lb) ∧ W.cell? ⟨G, 5, none⟩ = some (.slice A1 x.l.length c1) ∧ W.cell? ⟨G', 0, none⟩ = some (.int .i64 (x.sh 1).k) ∧ W.cell? ⟨G', 1, none⟩ = some (.int .i64 (x.sh 1).a) ∧ W.cell? ⟨G', 2, none⟩ = some (.int .i64 (x.sh 1).m) ∧ W.cell? ⟨G', 3, none⟩ = some (.string (x.sh 1).nm) ∧ W.cell? ⟨G', 4, none⟩ = some (.string (x.sh 1).lb) ∧ W.cell? ⟨G', 5, none⟩ = some (.slice A2 (x.sh 1).l.length c2)) := Lib.hid fun W hW => by
            obtain ⟨a0, a1, a2, a3, a4, a5⟩ := (HS5.out.below hW hz5).six
            obtain ⟨d0, d1, d2, d3, d4, d5⟩ := (HS5'.out.below hW hz6).six
            exact ⟨a0, a1, a2, a3, a4, a5, d0, d1, d2, d3, d4, d5⟩
          have HBD := Lib.hid (below_drew w5 w5.heap.size)
          obtain ⟨k0, k1, k2, k3, k4, k5, m0, m1, m2, m3, m4, m5⟩ := KS.out _ HBD.out
          go_region_held3 (fun W => W.cell? ⟨G, 0, none⟩ = some (.int .i64 x.k) ∧ W.cell? ⟨G, 1, none⟩ = some (.int .i64 x.a) ∧ W.cell? ⟨G, 2, none⟩ = some (.int .i64 x.m) ∧ W.cell? ⟨G, 3, none⟩ = some (.string x.nm) ∧ W.cell? ⟨G, 4, none⟩ = some (.string x.lb) ∧ W.cell? ⟨G, 5, none⟩ = some (.slice A1 x.l.length c1) ∧ W.cell? ⟨G', 0, none⟩ = some (.int .i64 (x.sh 1).k) ∧ W.cell? ⟨G', 1, none⟩ = some (.int .i64 (x.sh 1).a) ∧ W.cell? ⟨G', 2, none⟩ = some (.int .i64 (x.sh 1).m) ∧ W.cell? ⟨G', 3, none⟩ = some (.string (x.sh 1).nm) ∧ W.cell? ⟨G', 4, none⟩ = some (.string (x.sh 1).lb) ∧ W.cell? ⟨G', 5, none⟩ = some (.slice A2 (x.sh 1).l.length c2)) (((try dsimp only); first | (with_reducible exact KS.out _ HBD.out) | (with_reducible exact KS.out _ HB6.out) | (with_reducible exact KS.out _ HB7.out) | (with_reducible exact KS.out _ HB8.out) | ((repeat' apply And.intro) <;> first | (with_reducible assumption) | go_keep))) (first
            | (go_at_call 32; refine (HLT.out _ _ _ (HT5.out.under HBD.out (by intro b _ h; exact h))).mono ?_; rintro e w6 ⟨kv, rfl, hx6, b6⟩; have HT6 := Lib.hid hx6; have HB6 := Lib.hid (HBD.out.trans (b6.mono HBD.out.size)); clear hx6 b6; dsimp only)
            | (go_at_call 12; refine (HSA.out _ _ _ _ _ HT6.out (HT5'.out.under HB6.out (by intro b _ h; exact h))).mono ?_; rintro e w7 ⟨rfl, b7⟩; have HB7 := Lib.hid (HB6.out.trans (b7.mono HB6.out.size)); clear b7; dsimp only)
            | (go_at_call 8; refine (HAW.out _ (HB5.out.trans (HB7.out.mono HB5.out.size))).mono ?_; rintro e w8 ⟨rfl, b8⟩; have HB8 := Lib.hid (HB7.out.trans (b8.mono HB7.out.size)); clear b8; dsimp only)
            | fail)
          go_wp2
          go_ret
          exact ⟨rfl, HB5.out.trans (HB8.out.mono HB5.out.size)⟩
      · have hr1 : (r == 0) = false := by simp [hr]
        have hr2 : decide (r = 0) = false := by simp [hr]
        refine Lib.hid ?_
        go_wp2_with (first
          | (refine wpList_stx rfl (.tmp 7) (.tmp 39) rfl w4.heap.size rfl (entry_slot w4) (e := x') (lv := lv') rfl hone4 ?_; intro w5 hg5 hs5; have HB5 := Lib.hid (bel_fr (HB4.out.trans ((entry_below w4).mono HB4.out.size)) hg5 HB4.out.size (by rw [entry_size]; have := HB4.out.size; omega)); clear hg5 hs5)
          | (go_at_call 8; refine (HAW.out _ HB5.out).mono ?_; rintro e w9 ⟨rfl, b9⟩; have HB9 := Lib.hid (HB5.out.trans (b9.mono HB5.out.size)); clear b9; dsimp only)
          | fail)
        go_ret
        exact ⟨rfl, HB9.out⟩

theorem exprBrackets_walk (A : Option Addr) (n c : Nat) (zs : List Int) (w : World) (hr : IsRow .u8 w A n c zs) (hv : Vars w) :
    Calls Tryd.prog 6 #[.slice A n c] w fun e w' => e = .returned (.bool true) ∧ Below w.heap.size w w' := by
  obtain ⟨hnc, hcm, _, hx, hwf⟩ := hr.sh
  by_cases h : 900 < n
  · exact exprBrackets_long A n c w h (Nat.le_trans hnc hcm) hv
  · exact exprBrackets_short A n c (zs.take n) w h hx (byt8_of hwf) hnc hcm hv
end Go.Proofs.YtbpmgghonnoooaaDoor
