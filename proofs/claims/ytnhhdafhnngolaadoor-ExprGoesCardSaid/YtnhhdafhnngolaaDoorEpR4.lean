/-
  CONTRACT OF (*expr.Cursor).within, from those of less fuel.
-/
import Derived.Test.YtnhhdafhnngolaaDoorEpR3
namespace Go.Proofs.YtnhhdafhnngolaaDoor
set_option linter.unusedVariables false
set_option linter.unusedSimpArgs false
open Go.RowKit

theorem rd_gr_no {R : Rw} {f a d : Nat} (h : R.is a [40] = false) : rd R (f + 1) .gr a d = bad a 11 := by
  simp only [rd]
  rw [if_neg (by rw [h]; decide)]
theorem rd_gr_deep {R : Rw} {f a d : Nat} (h : R.is a [40] = true) (hd : d = 32) : rd R (f + 1) .gr a d = bad a 12 := by
  simp only [rd]
  rw [if_pos h, if_pos hd]
theorem rd_gr_yes {R : Rw} {f a d : Nat} {g : Gt} (h : R.is a [40] = true) (hd : ¬ d = 32) (hg : rd R f (.lev 1) (a + 1) (d + 1) = g) : rd R (f + 1) .gr a d = if g.r = 0 then good g.e g.p else bad g.p g.r := by
  simp only [rd]
  rw [if_pos h, if_neg hd, hg]
theorem deep_40 (R : Rw) (p d : Nat) : deepP R p ⟨#[40]⟩ d = if R.is p [40] = true then (if d = 32 then (p, 12) else (p + 1, 0)) else (p, 11) := by
  unfold deepP
  rw [show (⟨#[40]⟩ : ByteArray).toList = [40] by rw [ByteArray.toList_eq]]
theorem wiG_bad {R : Rw} {p : Nat} {r : Int} (ss : List ByteArray) (h : r ≠ 0) : wiG R (bad p r) ss = bad p r := by
  unfold wiG
  rw [if_neg (show ¬ (bad p r).r = 0 from h)]
  rfl

set_option maxRecDepth 10000 in
set_option maxHeartbeats 1600000 in
theorem within_step (C : Cx) (hC : TokOk C.T C.L) (f : Nat) (hB : BinC C f) : WiC C (f + 1) := by
  intro d p w ss A n c hd h hf hss hsh hn hA
  have hz := zeroEx'
  have hlt := h.lt
  have hle := h.le
  have hln := hC.len
  have HC0 := Lib.hid (h.under (entry_below w))
  have HE := Lib.hid (entry_slot w)
  have HES := Lib.hid (entry_size w)
  have HEB := Lib.hid (entry_below w)
  have HSH := Lib.hid hsh
  have HSS := Lib.hid hss
  have HA := Lib.hid hA
  have HD := Lib.hid (deeper_any C hC p d _ HC0.out ⟨#[40]⟩ (by decide) hd)
  rw [deep_40] at HD
  clear h hsh hss hA
  cases h40 : C.R.is p [40] with
  | false =>
    have HX2 : Hid (wiG C.R (rd C.R (f + 1) .gr p d) ss = bad p 11) := Lib.hid (by rw [rd_gr_no h40, wiG_bad _ (by decide)])
    rw [if_neg (by rw [h40]; decide)] at HD
    go_enter Tryd.func94, Tryd.ntmps94
    go_wp2_with (first
      | (go_at_call 82; refine HD.out.mono ?_; rintro e w4 ⟨rfl, hc4, hg4⟩; have HC4 := Lib.hid hc4; have HG4 := Lib.hid hg4; clear hc4 hg4; dsimp only)
      | (refine wpList_stx rfl (.tmp 6) (.tmp 16) rfl w.heap.size rfl (HE.out.grown HG4.out (by intro e; injection e; omega)) (e := Ex.nul) (lv := .slice none 0 0) rfl rfl ?_; intro w5 hg5 hs5; have HG5 := Lib.hid hg5; have HS5 := Lib.hid hs5; clear hg5 hs5)
      | fail)
    rw [HX2.out]
    refine ex_done rfl rfl rfl rfl HS5.out ⟨.slice none 0 0, rfl, .nil, ?_, ?_⟩
    · exact fr_new (gb_trans (below_fr HEB.out _) HG4.out) HG5.out (Nat.le_refl _)
    · exact HC4.out.grown HG5.out (fun k e => by cases e; omega)
  | true =>
    rw [if_pos h40] at HD
    have hplt : p < C.L.length := (row_ok C.T C.L).is_lt h40
    by_cases h32 : d = 32
    · have HX2 : Hid (wiG C.R (rd C.R (f + 1) .gr p d) ss = bad p 12) := Lib.hid (by rw [rd_gr_deep h40 h32, wiG_bad _ (by decide)])
      rw [if_pos h32] at HD
      subst h32
      go_enter Tryd.func94, Tryd.ntmps94
      go_wp2_with (first
        | (go_at_call 82; refine HD.out.mono ?_; rintro e w4 ⟨rfl, hc4, hg4⟩; have HC4 := Lib.hid hc4; have HG4 := Lib.hid hg4; clear hc4 hg4; dsimp only)
        | (refine wpList_stx rfl (.tmp 6) (.tmp 16) rfl w.heap.size rfl (HE.out.grown HG4.out (by intro e; injection e; omega)) (e := Ex.nul) (lv := .slice none 0 0) rfl rfl ?_; intro w5 hg5 hs5; have HG5 := Lib.hid hg5; have HS5 := Lib.hid hs5; clear hg5 hs5)
        | fail)
      rw [HX2.out]
      refine ex_done rfl rfl rfl rfl HS5.out ⟨.slice none 0 0, rfl, .nil, ?_, ?_⟩
      · exact fr_new (gb_trans (below_fr HEB.out _) HG4.out) HG5.out (Nat.le_refl _)
      · exact HC4.out.grown HG5.out (fun k e => by cases e; omega)
    · rw [if_neg h32] at HD
      obtain ⟨g, hg⟩ : ∃ g, rd C.R f (.lev 1) (p + 1) (d + 1) = g := ⟨_, rfl⟩
      have HRD := Lib.hid (rd_gr_yes h40 h32 hg)
      have hin := rd_in (row_ok C.T C.L) f (.lev 1) (p + 1) (d + 1) hplt (fun h => by cases h)
      have hw1 : IntKind.i64.wrap ((d : Int) + 1) = ((d + 1 : Nat) : Int) := by rw [IntWalk.i64_in _ (by omega)]; omega
      have HBC : Hid (∀ W, Cur C W (p + 1) → Calls Tryd.prog 57 #[C.ptr, .int .i64 1, .int .i64 ((d + 1 : Nat) : Int)] W (RdTo C W g)) := Lib.hid fun W hW => by
        have := hB 1 (d + 1) (p + 1) W (by omega) (by omega) (by omega) hW (by omega)
        rwa [hg] at this
      rw [hg] at hin
      have hgp : g.p ≤ C.L.length := hin.2.1
      have HM : Hid (∀ W, w.grownBy W (some C.g) → Cur C W g.p → Calls Tryd.prog 97 #[C.ptr, .slice A n c] W (MustTo C (mustP C.R g.p ss) W)) := Lib.hid fun W hW hc =>
        must_any C hC g.p W hc ss HSS.out A n c ((HSH.out.gb (Nat.le_refl _) hW (fun b off e he => HA.out b off e (by injection he))).more hW.size) hn HA.out
      clear hB hg hin
      by_cases hr : g.r = 0
      · have hr2' : (g.r == 0) = true := by simp [hr]
        have hr2'' : decide (g.r = 0) = true := by simp [hr]
        have HG1 : Hid (wiG C.R (rd C.R (f + 1) .gr p d) ss = if (mustP C.R g.p ss).2 = 0 then good g.e (mustP C.R g.p ss).1 else bad (mustP C.R g.p ss).1 (mustP C.R g.p ss).2) := Lib.hid (by
          rw [HRD.out, if_pos hr]
          unfold wiG
          rw [if_pos (show (good g.e g.p).r = 0 from rfl)]
          rfl)
        obtain ⟨M, hM⟩ : ∃ M, mustP C.R g.p ss = M := ⟨_, rfl⟩
        rw [hM] at HG1 HM
        clear hM
        by_cases hm0 : M.2 = 0
        · have hm' : (M.2 == 0) = true := by simp [hm0]
          have hm'' : decide (M.2 = 0) = true := by simp [hm0]
          go_enter Tryd.func94, Tryd.ntmps94
          go_wp2_with (first
            | (go_at_call 82; refine HD.out.mono ?_; rintro e w4 ⟨rfl, hc4, hg4⟩; have HC4 := Lib.hid hc4; have HG4 := Lib.hid hg4; have hs4 := hg4.size; rw [HES.out] at hs4; clear hc4 hg4; dsimp only)
            | (go_at_call 57; refine (HBC.out _ HC4.out).mono ?_; rintro e w5 ⟨lv, rfl, hx5, hg5, hc5⟩; have hone5 := hx5.one; have HX5 := Lib.hid hx5; have HG5 := Lib.hid hg5; have HC5 := Lib.hid hc5; have hs5 := hg5.size; clear hx5 hg5 hc5; dsimp only [exV])
            | (refine wpList_stx rfl (.tmp 9) (.tmp 23) rfl w5.heap.size rfl (entry_slot w5) (e := g.e) (lv := lv) rfl hone5 ?_; intro w6 hg6 hs6; have HG6 := Lib.hid hg6; have HS6 := Lib.hid hs6; have hz6 := hg6.size; rw [entry_size] at hz6; have HF6 := Lib.hid (show w.grownBy w6 (some C.g) from fr_new (gb_trans (gb_trans (gb_trans (below_fr HEB.out _) HG4.out) HG5.out) (below_fr (entry_below w5) _)) hg6 (by omega)); have HC6 := Lib.hid (show Cur C w6 g.p from (HC5.out.under (entry_below w5)).grown hg6 (by intro k e; cases e; omega)); clear hg6 hs6)
            | (go_at_call 97; refine (HM.out _ HF6.out HC6.out).mono ?_; rintro e w7 ⟨rfl, hc7, hg7⟩; have HC7 := Lib.hid hc7; have HG7 := Lib.hid hg7; have hs7 := hg7.size; clear hc7 hg7; dsimp only)
            | (refine wpList_ldx' rfl (.tmp 9) rfl w5.heap.size 0 rfl (HS6.out.grown HG7.out (by intro e; injection e; omega)).cs ?_)
            | (refine wpList_stx rfl (.tmp 6) (.tmp 34) rfl w.heap.size rfl (((((HE.out.grown HG4.out (by intro e; injection e; omega)).grown HG5.out (by intro e; injection e; omega)).below (entry_below w5) (by omega)).grown HG6.out (by intro e; injection e; omega)).grown HG7.out (by intro e; injection e; omega)) (e := g.e) (lv := lv) rfl hone5 ?_; intro w8 hg8 hs8; have HG8 := Lib.hid hg8; have HS8 := Lib.hid hs8; clear hg8 hs8)
            | fail)
          rw [HG1.out, if_pos hm0]
          refine ex_done rfl rfl rfl rfl HS8.out ⟨lv, rfl, ?_, ?_, ?_⟩
          · exact (((((HX5.out.weak (S' := fun b => w.heap.size < b ∧ b < w5.heap.size) (by intro b h1 h2; omega)).under (entry_below w5) (by intro b _ hb; exact hb)).grown HG6.out (by intro b hb _ e; injection e with e; omega)).grown HG7.out (by intro b hb _ e; injection e with e; omega)).grown HG8.out (by intro b hb _ e; injection e with e; omega)).weak (by intro b hb _; omega)
          · exact fr_new (gb_trans HF6.out HG7.out) HG8.out (Nat.le_refl _)
          · exact HC7.out.grown HG8.out (fun k e => by cases e; omega)
        · have hm' : (M.2 == 0) = false := by simp [hm0]
          have hm'' : decide (M.2 = 0) = false := by simp [hm0]
          go_enter Tryd.func94, Tryd.ntmps94
          go_wp2_with (first
            | (go_at_call 82; refine HD.out.mono ?_; rintro e w4 ⟨rfl, hc4, hg4⟩; have HC4 := Lib.hid hc4; have HG4 := Lib.hid hg4; have hs4 := hg4.size; rw [HES.out] at hs4; clear hc4 hg4; dsimp only)
            | (go_at_call 57; refine (HBC.out _ HC4.out).mono ?_; rintro e w5 ⟨lv, rfl, hx5, hg5, hc5⟩; have hone5 := hx5.one; have HX5 := Lib.hid hx5; have HG5 := Lib.hid hg5; have HC5 := Lib.hid hc5; have hs5 := hg5.size; clear hx5 hg5 hc5; dsimp only [exV])
            | (refine wpList_stx rfl (.tmp 9) (.tmp 23) rfl w5.heap.size rfl (entry_slot w5) (e := g.e) (lv := lv) rfl hone5 ?_; intro w6 hg6 hs6; have HG6 := Lib.hid hg6; have HS6 := Lib.hid hs6; have hz6 := hg6.size; rw [entry_size] at hz6; have HF6 := Lib.hid (show w.grownBy w6 (some C.g) from fr_new (gb_trans (gb_trans (gb_trans (below_fr HEB.out _) HG4.out) HG5.out) (below_fr (entry_below w5) _)) hg6 (by omega)); have HC6 := Lib.hid (show Cur C w6 g.p from (HC5.out.under (entry_below w5)).grown hg6 (by intro k e; cases e; omega)); clear hg6 hs6)
            | (go_at_call 97; refine (HM.out _ HF6.out HC6.out).mono ?_; rintro e w7 ⟨rfl, hc7, hg7⟩; have HC7 := Lib.hid hc7; have HG7 := Lib.hid hg7; have hs7 := hg7.size; clear hc7 hg7; dsimp only)
            | (refine wpList_stx rfl (.tmp 6) (.tmp 32) rfl w.heap.size rfl (((((HE.out.grown HG4.out (by intro e; injection e; omega)).grown HG5.out (by intro e; injection e; omega)).below (entry_below w5) (by omega)).grown HG6.out (by intro e; injection e; omega)).grown HG7.out (by intro e; injection e; omega)) (e := Ex.nul) (lv := .slice none 0 0) rfl rfl ?_; intro w8 hg8 hs8; have HG8 := Lib.hid hg8; have HS8 := Lib.hid hs8; clear hg8 hs8)
            | fail)
          rw [HG1.out, if_neg hm0]
          refine ex_done rfl rfl rfl rfl HS8.out ⟨.slice none 0 0, rfl, .nil, ?_, ?_⟩
          · exact fr_new (gb_trans HF6.out HG7.out) HG8.out (Nat.le_refl _)
          · exact HC7.out.grown HG8.out (fun k e => by cases e; omega)
      · have hr2' : (g.r == 0) = false := by simp [hr]
        have hr2'' : decide (g.r = 0) = false := by simp [hr]
        have HG1 : Hid (wiG C.R (rd C.R (f + 1) .gr p d) ss = bad g.p g.r) := Lib.hid (by
          rw [HRD.out, if_neg hr, wiG_bad _ hr])
        go_enter Tryd.func94, Tryd.ntmps94
        go_wp2_with (first
          | (go_at_call 82; refine HD.out.mono ?_; rintro e w4 ⟨rfl, hc4, hg4⟩; have HC4 := Lib.hid hc4; have HG4 := Lib.hid hg4; have hs4 := hg4.size; rw [HES.out] at hs4; clear hc4 hg4; dsimp only)
          | (go_at_call 57; refine (HBC.out _ HC4.out).mono ?_; rintro e w5 ⟨lv, rfl, hx5, hg5, hc5⟩; have hone5 := hx5.one; have HX5 := Lib.hid hx5; have HG5 := Lib.hid hg5; have HC5 := Lib.hid hc5; have hs5 := hg5.size; clear hx5 hg5 hc5; dsimp only [exV])
          | (refine wpList_stx rfl (.tmp 9) (.tmp 23) rfl w5.heap.size rfl (entry_slot w5) (e := g.e) (lv := lv) rfl hone5 ?_; intro w6 hg6 hs6; have HG6 := Lib.hid hg6; have HS6 := Lib.hid hs6; have hz6 := hg6.size; rw [entry_size] at hz6; have HF6 := Lib.hid (show w.grownBy w6 (some C.g) from fr_new (gb_trans (gb_trans (gb_trans (below_fr HEB.out _) HG4.out) HG5.out) (below_fr (entry_below w5) _)) hg6 (by omega)); have HC6 := Lib.hid (show Cur C w6 g.p from (HC5.out.under (entry_below w5)).grown hg6 (by intro k e; cases e; omega)); clear hg6 hs6)
          | (refine wpList_stx rfl (.tmp 6) (.tmp 32) rfl w.heap.size rfl ((((HE.out.grown HG4.out (by intro e; injection e; omega)).grown HG5.out (by intro e; injection e; omega)).below (entry_below w5) (by omega)).grown HG6.out (by intro e; injection e; omega)) (e := Ex.nul) (lv := .slice none 0 0) rfl rfl ?_; intro w8 hg8 hs8; have HG8 := Lib.hid hg8; have HS8 := Lib.hid hs8; clear hg8 hs8)
          | fail)
        rw [HG1.out]
        refine ex_done rfl rfl rfl rfl HS8.out ⟨.slice none 0 0, rfl, .nil, ?_, ?_⟩
        · exact fr_new HF6.out HG8.out (Nat.le_refl _)
        · exact HC6.out.grown HG8.out (fun k e => by cases e; omega)
end Go.Proofs.YtnhhdafhnngolaaDoor
