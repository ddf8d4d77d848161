/-
  blazonlaw08.ExprInside is true for every input: of an expression that is read no part begins ahead of it, or behind the text; its height is at most MaxDeep; a cursor that is none does nothing.
  Conditions: package-level variables start as the program's text lays them; none beyond.
-/
import Derived.Test.YtbpmgghonnoooaaDoorEpI3
namespace Go.Proofs.YtbpmgghonnoooaaDoor
set_option linter.unusedVariables false
set_option linter.unusedSimpArgs false
open Go.RowKit

theorem exprInside_long (A : Option Addr) (n c : Nat) (w : World) (h : 1000 < n) (hm : n ≤ maxLen) (hv : Vars w) :
    Calls Tryd.prog 5 #[.slice A n c] w fun e w' => e = .returned (.bool true) ∧ Below w.heap.size w w' := by
  unfold maxLen at hm
  have hlt : (1000 : Int) < (n : Int) := by omega
  go_enter Tryd.func5, Tryd.ntmps5
  go_wp2_with (go_at_call 8; refine (awake_any _ hv).mono ?_; rintro e w1 ⟨rfl, b1⟩)
  go_ret
  exact ⟨rfl, b1⟩

set_option maxRecDepth 100000 in
set_option maxHeartbeats 3200000 in
theorem exprInside_short (A : Option Addr) (n c : Nat) (bs : List Int) (w : World) (h : ¬ 1000 < n) (hx : Sh w w.heap.size A n (by8 bs)) (hb : Byt8 bs) (hnc : n ≤ c) (hcm : c ≤ maxLen) (hv : Vars w) :
    Calls Tryd.prog 5 #[.slice A n c] w fun e w' => e = .returned (.bool true) ∧ Below w.heap.size w w' := by
  have hz := zeroEx'
  have hl : bs.length = n := by have := hx.len; rwa [by8_len] at this
  have hlt : ¬ (1000 : Int) < (n : Int) := by omega
  have hvs := hv.size
  have HAW : Hid (∀ W, Below w.heap.size w W → Calls Tryd.prog 8 #[] W fun e w' => e = .returned (.bool true) ∧ Below W.heap.size W w') := Lib.hid fun W hW => awake_any W (hv.under hW hvs)
  have HPA : Hid (∀ W, Below w.heap.size w W → Calls Tryd.prog 10 #[.slice A n c] W (ParseTo (parseG (rowT (strOfNums bs) (live bs 0)) (live bs 0) (16 * n + 9)) W)) := Lib.hid fun W hW =>
    parse_any A n c bs W ((hx.below hW).more hW.size) hb (by omega) hnc hcm (hv.under hW hvs) _ (Nat.le_refl _)
  have hfx := parse_facts (bts_str hb) (by omega) (16 * n + 9)
  obtain ⟨X, hX⟩ : ∃ X, parseG (rowT (strOfNums bs) (live bs 0)) (live bs 0) (16 * n + 9) = X := ⟨_, rfl⟩
  rw [hX] at HPA hfx
  rw [hl] at hfx
  obtain ⟨x, y, z⟩ := X
  obtain ⟨hf0, hy0, hyn⟩ := hfx
  dsimp only at hf0 hy0 hyn HPA
  have e0 := empty_toList
  have HF0 := Lib.hid hf0
  clear hx hb hv hX hf0
  by_cases hz0 : z = 0
  · subst hz0
    obtain ⟨hfine, hcnt, hins, ha0, han⟩ := HF0.out rfl
    have hht := hfine.2
    have d1 : decide ((x.ht : Int) ≤ 32) = true := by simp; omega
    have d1' : decide (x.ht ≤ 32) = true := by simp; omega
    have HH : Hid (∀ lv W S, Shx W S lv x.l → Calls Tryd.prog 13 #[exV x lv] W fun e w' => e = .returned (.int .i64 (x.ht : Int)) ∧ Below W.heap.size W w') := Lib.hid fun lv W S h => height_any x hfine.1 hcnt lv W S h
    have HIN : Hid (∀ lv W S, Shx W S lv x.l → Calls Tryd.prog 31 #[exV x lv, .int .i64 (n : Int)] W fun e w' => e = .returned (.bool true) ∧ Below W.heap.size W w') := Lib.hid fun lv W S h => inside_any (n : Int) x hins hfine.1 lv W S h
    clear hfine hins
    have HB := Lib.hid (Below.refl w.heap.size w)
    go_enter Tryd.func5, Tryd.ntmps5
    go_wp2_with (first
      | (go_at_call 26; refine (identN _).mono ?_; rintro e wt ⟨rfl, b⟩; have HB := Lib.hid (HB.out.trans (b.mono HB.out.size)); clear b; dsimp only)
      | (go_at_call 29; refine (exprN _).mono ?_; rintro e wt2 ⟨rfl, b⟩; have HB := Lib.hid (HB.out.trans (b.mono HB.out.size)); clear b; dsimp only [exV])
      | (refine wpList_stx rfl (.tmp 6) (.tmp 23) rfl wt2.heap.size rfl (entry_slot wt2) (e := Ex.nul) (lv := .slice none 0 0) rfl rfl ?_; intro wu hg8 hs8; have HB := Lib.hid (bel_fr (HB.out.trans ((entry_below wt2).mono HB.out.size)) hg8 HB.out.size (by rw [entry_size]; have := HB.out.size; omega)); clear hg8 hs8)
      | (go_at_call 24; refine (doneN _).mono ?_; rintro e wt ⟨rfl, b⟩; have b := b.below w.heap.size; have HB := Lib.hid (HB.out.trans b); clear b; dsimp only)
      | (go_at_call 25; refine (takeN _).mono ?_; rintro e wt ⟨rfl, rfl⟩; dsimp only)
      | (go_at_call 20; refine (peekN _).mono ?_; rintro e wt ⟨rfl, rfl⟩; dsimp only)
      | (go_at_call 21; refine (posN _).mono ?_; rintro e wt ⟨rfl, b⟩; have HB := Lib.hid (HB.out.trans (b.mono HB.out.size)); clear b; dsimp only)
      | (go_at_call 28; refine (endN _).mono ?_; rintro e wt ⟨rfl, rfl⟩; dsimp only)
      | (go_at_call 23; refine (kindN _).mono ?_; rintro e wt ⟨rfl, b⟩; have HB := Lib.hid (HB.out.trans (b.mono HB.out.size)); clear b; dsimp only)
      | (go_at_call 10; refine (HPA.out _ HB.out).mono ?_; rintro e wp ⟨lv, rfl, hx2, b⟩; have hone := hx2.one; have HX := Lib.hid hx2; have HB := Lib.hid (HB.out.trans (b.mono HB.out.size)); clear b hx2; dsimp only)
      | (refine wpList_stx rfl (.tmp 8) (.tmp 61) rfl wp.heap.size rfl (entry_slot wp) (e := x) (lv := lv) rfl hone ?_; intro wq hg8 hs8; have HB := Lib.hid (bel_fr (HB.out.trans ((entry_below wp).mono HB.out.size)) hg8 HB.out.size (by rw [entry_size]; have := HB.out.size; omega)); have HX := Lib.hid (((HX.out.weak (S' := fun b => b < wp.heap.size) (by intro b _ h; exact h)).under (entry_below wp) (by intro b _ hb; exact hb)).grown hg8 (by intro b hb _ e; injection e with e; omega)); have HS := Lib.hid hs8; have hzq := hs8.lt; clear hg8 hs8; refine Hid.out ?_)
      | fail)
    have d2 : decide ((0 : Int) ≤ x.a) = true := by simp; omega
    have d3 : decide (x.a < (n : Int)) = true := by simp; omega
    obtain ⟨G, hG⟩ : ∃ G, wp.heap.size = G := ⟨_, rfl⟩
    rw [hG] at HS hzq ⊢
    clear hG
    refine Lib.hid ?_
    go_wp2_with (first
      | (refine wpList_ldx' rfl (.tmp 8) rfl G 0 rfl HS.out.cs ?_)
      | (go_at_call 13; refine (HH.out lv _ _ HX.out).mono ?_; rintro e wt ⟨rfl, b⟩; have HB := Lib.hid (HB.out.trans (b.mono HB.out.size)); have HX := Lib.hid (HX.out.under b (by intro b _ hb; exact hb)); have HS := Lib.hid (HS.out.below b HS.out.lt); clear b; obtain ⟨c0, c1, c2, c3, c4, c5⟩ := HS.out.six; dsimp only)
      | (go_at_call 31; refine (HIN.out lv _ _ HX.out).mono ?_; rintro e wt2 ⟨rfl, b⟩; have HB := Lib.hid (HB.out.trans (b.mono HB.out.size)); clear b; dsimp only)
      | (go_at_call 8; refine (HAW.out _ HB.out).mono ?_; rintro e wt3 ⟨rfl, b⟩; have HB := Lib.hid (HB.out.trans (b.mono HB.out.size)); clear b; dsimp only)
      | fail)
    go_ret
    exact ⟨rfl, HB.out⟩
  · have hz1 : (z == 0) = false := by simp [hz0]
    have hz2 : decide (z = 0) = false := by simp [hz0]
    have d2 : decide ((0 : Int) ≤ y) = true := by simp; omega
    have d3 : decide (y ≤ (n : Int)) = true := by simp; omega
    have HB := Lib.hid (Below.refl w.heap.size w)
    clear HF0
    go_enter Tryd.func5, Tryd.ntmps5
    go_wp2_with (first
      | (go_at_call 26; refine (identN _).mono ?_; rintro e wt ⟨rfl, b⟩; have HB := Lib.hid (HB.out.trans (b.mono HB.out.size)); clear b; dsimp only)
      | (go_at_call 29; refine (exprN _).mono ?_; rintro e wt2 ⟨rfl, b⟩; have HB := Lib.hid (HB.out.trans (b.mono HB.out.size)); clear b; dsimp only [exV])
      | (refine wpList_stx rfl (.tmp 6) (.tmp 23) rfl wt2.heap.size rfl (entry_slot wt2) (e := Ex.nul) (lv := .slice none 0 0) rfl rfl ?_; intro wu hg8 hs8; have HB := Lib.hid (bel_fr (HB.out.trans ((entry_below wt2).mono HB.out.size)) hg8 HB.out.size (by rw [entry_size]; have := HB.out.size; omega)); clear hg8 hs8)
      | (go_at_call 24; refine (doneN _).mono ?_; rintro e wt ⟨rfl, b⟩; have b := b.below w.heap.size; have HB := Lib.hid (HB.out.trans b); clear b; dsimp only)
      | (go_at_call 25; refine (takeN _).mono ?_; rintro e wt ⟨rfl, rfl⟩; dsimp only)
      | (go_at_call 20; refine (peekN _).mono ?_; rintro e wt ⟨rfl, rfl⟩; dsimp only)
      | (go_at_call 21; refine (posN _).mono ?_; rintro e wt ⟨rfl, b⟩; have HB := Lib.hid (HB.out.trans (b.mono HB.out.size)); clear b; dsimp only)
      | (go_at_call 28; refine (endN _).mono ?_; rintro e wt ⟨rfl, rfl⟩; dsimp only)
      | (go_at_call 23; refine (kindN _).mono ?_; rintro e wt ⟨rfl, b⟩; have HB := Lib.hid (HB.out.trans (b.mono HB.out.size)); clear b; dsimp only)
      | (go_at_call 10; refine (HPA.out _ HB.out).mono ?_; rintro e wp ⟨lv, rfl, hx2, b⟩; have hone := hx2.one; have HX := Lib.hid hx2; have HB := Lib.hid (HB.out.trans (b.mono HB.out.size)); clear b hx2; dsimp only)
      | (refine wpList_stx rfl (.tmp 8) (.tmp 61) rfl wp.heap.size rfl (entry_slot wp) (e := x) (lv := lv) rfl hone ?_; intro wq hg8 hs8; have HB := Lib.hid (bel_fr (HB.out.trans ((entry_below wp).mono HB.out.size)) hg8 HB.out.size (by rw [entry_size]; have := HB.out.size; omega)); have HX := Lib.hid (((HX.out.weak (S' := fun b => b < wp.heap.size) (by intro b _ h; exact h)).under (entry_below wp) (by intro b _ hb; exact hb)).grown hg8 (by intro b hb _ e; injection e with e; omega)); clear hg8 hs8)
      | (go_at_call 8; refine (HAW.out _ HB.out).mono ?_; rintro e wt3 ⟨rfl, b⟩; have HB := Lib.hid (HB.out.trans (b.mono HB.out.size)); clear b; dsimp only)
      | fail)
    go_ret
    exact ⟨rfl, HB.out⟩

theorem exprInside_walk (A : Option Addr) (n c : Nat) (zs : List Int) (w : World) (hr : IsRow .u8 w A n c zs) (hv : Vars w) :
    Calls Tryd.prog 5 #[.slice A n c] w fun e w' => e = .returned (.bool true) ∧ Below w.heap.size w w' := by
  obtain ⟨hnc, hcm, _, hx, hwf⟩ := hr.sh
  by_cases h : 1000 < n
  · exact exprInside_long A n c w h (Nat.le_trans hnc hcm) hv
  · exact exprInside_short A n c (zs.take n) w h hx (byt8_of hwf) hnc hcm hv
end Go.Proofs.YtbpmgghonnoooaaDoor
