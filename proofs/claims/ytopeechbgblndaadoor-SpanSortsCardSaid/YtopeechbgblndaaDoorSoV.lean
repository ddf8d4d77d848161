/-
  symMerge at edits: the second row is one element.
-/
import Derived.Test.YtopeechbgblndaaDoorSoY
namespace Go.Proofs.YtopeechbgblndaaDoor
set_option linter.unusedVariables false
set_option linter.unusedSimpArgs false
open Go.RowKit Go.Lib Go.Sort

set_option maxHeartbeats 1000000 in
set_option maxRecDepth 1000000 in
theorem merge_last (g cap a m b : Nat) (d0 : Array Ed) (w0 w : World) (P U R : List Ed) (y : Ed) (hR : RowK ecell 3 w0 g 0 d0) (n : Nat) (hn : n = d0.size) (hS : SWE w0 g (P ++ U ++ [y] ++ R) w) (hs : (P ++ U ++ [y] ++ R).length = n)
    (ha : a = P.length) (hm : m = P.length + U.length) (hb : b = P.length + U.length + 1) (hU2 : 2 ≤ U.length) (hUs : Srt U) (hsz : n ≤ 100000) :
    Calls Tryd.prog 37 #[.slice (some ⟨g, 0, none⟩) n cap, .int .i64 a, .int .i64 m, .int .i64 b, cmpV] w (MgTo w0 g P U [y] R) := by
  have hs0 := hs
  simp only [List.length_append, List.length_cons, List.length_nil] at hs
  have HS := Lib.hid hS
  have HN := Lib.hid hs
  have HN0 := Lib.hid hs0
  have HA := Lib.hid ha
  have HM := Lib.hid hm
  have HB := Lib.hid hb
  have HNN := Lib.hid hn
  have HV := Lib.hid hUs
  have hma : ((m : Int) - (a : Int) == 1) = false := by simp; omega
  have hbm : (b : Int) - (m : Int) = 1 := by omega
  have hwma : IntKind.i64.wrap ((m : Int) - (a : Int)) = (m : Int) - (a : Int) := IntWalk.i64_in _ (by omega)
  have hwbm : IntKind.i64.wrap ((b : Int) - (m : Int)) = 1 := (IntWalk.i64_in _ (by omega)).trans hbm
  have hmn : m < n := by omega
  have ham : a ≤ m := by omega
  have HVL : Hid (U.length = m - a) := Lib.hid (by omega)
  have HVG : Hid (∀ t u, U[t]? = some u → (P ++ U ++ [y] ++ R)[a + t]? = some u) := Lib.hid fun t u h => by
    have := mid_get (P := P) (R := [y] ++ R) (m := a) ha h
    simpa only [List.append_assoc] using this
  have HXG : Hid ((P ++ U ++ [y] ++ R)[m]? = some y) := Lib.hid (by
    have := mid_get (P := P ++ U) (U := [y]) (R := R) (m := m) (t := 0) (by simp; omega) rfl
    simpa only [Nat.add_zero] using this)
  have mixed : Tryd.prog.follows .mixedOrders = true := by kernel_rfl
  clear hS hs ha hm hb hn hUs hs0 hU2
  go_enter Tryd.func37, Tryd.ntmps37
  go_wp2
  go_loopw [14, 15] (fun vi vj wr => ∃ (i j : Nat), vi = .int .i64 (i : Int) ∧ vj = .int .i64 (j : Int) ∧ a ≤ i ∧ i ≤ j ∧ j ≤ m ∧ (∀ t u, a + t < i → U[t]? = some u → u.1 ≤ y.1) ∧ (∀ t u, j ≤ a + t → U[t]? = some u → y.1 < u.1) ∧ SWE w0 g (P ++ U ++ [y] ++ R) wr) (fun vi vj _ => (intOf vj).toNat - (intOf vi).toNat)
  case atStart => exact ⟨a, m, rfl, rfl, Nat.le_refl _, ham, Nat.le_refl _, (fun t u h _ => absurd h (by omega)), (fun t u h hy => by have := (List.getElem?_eq_some_iff.1 hy).1; have := HVL.out; omega), HS.out⟩
  case round =>
    obtain ⟨i, j, rfl, rfl, hi, hij, hj, h1, h2, d, hd, hw⟩ := hrel
    have H1 := Lib.hid h1
    have H2 := Lib.hid h2
    have HW := Lib.hid hw
    have HD := Lib.hid hd
    have HDS : Hid (d.size = d0.size) := Lib.hid (by rw [size_of hd, HN0.out, HNN.out])
    clear h1 h2 hw hd
    by_cases hlt : i < j
    · obtain ⟨h, hh⟩ : ∃ h, (i + j) / 2 = h := ⟨_, rfl⟩
      have hih : i ≤ h := by omega
      have hhj : h < j := by omega
      have hhn : (h : Int) < (n : Int) := by omega
      have hmn' : (m : Int) < (n : Int) := by omega
      have r0 : IntKind.i64.wrap ((i : Int) + (j : Int)) = (i : Int) + (j : Int) := IntWalk.i64_in _ (by omega)
      have r1 : ((i : Int) + (j : Int)) / 2 = (h : Int) := by omega
      clear hh
      obtain ⟨u, hu⟩ : ∃ u, U[h - a]? = some u := ⟨_, List.getElem?_eq_getElem (by have := HVL.out; omega)⟩
      have huu := HVG.out _ _ hu
      rw [show a + (h - a) = h by omega] at huu
      have HY := Lib.hid hu
      have HP1 := Lib.hid (get_at HD.out HXG.out)
      have HP2 := Lib.hid (get_at HD.out huu)
      obtain ⟨cv, hcv⟩ : ∃ cv, cfE y u = cv := ⟨_, rfl⟩
      have HCV := Lib.hid hcv
      have HLT : Hid (cv < 0 ↔ y.1 < u.1) := Lib.hid (by rw [← hcv]; exact cfE_lt y u)
      clear hu huu hcv
      by_cases hc : cv < 0
      · have HC := Lib.hid (HLT.out.1 hc)
        have hdc : decide (cv < 0) = true := decide_eq_true hc
        have hdn : (!decide (cv < 0)) = false := by rw [hdc]; rfl
        go_wp2_with fail
        obtain ⟨S0, hS0⟩ : ∃ S0 : World → Prop, S0 = fun w' => SWK ecell 3 w0 g 0 d w' := ⟨_, rfl⟩
        have HSI : Hid (∀ w', SWK ecell 3 w0 g 0 d w' → S0 w') := Lib.hid fun w' b => by rw [hS0]; exact b
        have HSF : Hid (∀ w', S0 w' → SWK ecell 3 w0 g 0 d w') := Lib.hid fun w' b => by rw [hS0] at b; exact b
        have s0 : ∀ s : SW S0, s.w.cell? ⟨g, m * 3, none⟩ = some (.int .i64 y.1) := fun s => (ed_cells ((HSF.out _ s.h).holds hR.hblk hR.hH HDS.out) HP1.out.1 HP1.out.2).1.1
        have s1 : ∀ s : SW S0, s.w.cell? ⟨g, m * 3 + 1, none⟩ = some (.int .i64 y.2.1) := fun s => (ed_cells ((HSF.out _ s.h).holds hR.hblk hR.hH HDS.out) HP1.out.1 HP1.out.2).1.2.1
        have s2 : ∀ s : SW S0, s.w.cell? ⟨g, m * 3 + 2, none⟩ = some (.string (strOfNums y.2.2)) := fun s => (ed_cells ((HSF.out _ s.h).holds hR.hblk hR.hH HDS.out) HP1.out.1 HP1.out.2).1.2.2
        have r0 : ∀ s : SW S0, s.w.cell? ⟨g, h * 3, none⟩ = some (.int .i64 u.1) := fun s => (ed_cells ((HSF.out _ s.h).holds hR.hblk hR.hH HDS.out) HP2.out.1 HP2.out.2).1.1
        have r1 : ∀ s : SW S0, s.w.cell? ⟨g, h * 3 + 1, none⟩ = some (.int .i64 u.2.1) := fun s => (ed_cells ((HSF.out _ s.h).holds hR.hblk hR.hH HDS.out) HP2.out.1 HP2.out.2).1.2.1
        have r2 : ∀ s : SW S0, s.w.cell? ⟨g, h * 3 + 2, none⟩ = some (.string (strOfNums u.2.2)) := fun s => (ed_cells ((HSF.out _ s.h).holds hR.hblk hR.hH HDS.out) HP2.out.1 HP2.out.2).1.2.2
        have hS1 : S0 wr.drew := HSI.out _ HW.out.drew
        have HCM : Hid (Calls Tryd.prog 28 #[.agg #[.int .i64 y.1, .int .i64 y.2.1, .string (strOfNums y.2.2)], .agg #[.int .i64 u.1, .int .i64 u.2.1, .string (strOfNums u.2.2)]] wr.drew fun e w' => e = .returned (.int .i64 cv) ∧ SWK ecell 3 w0 g 0 d w') := Lib.hid (by
          have := cmp_SW HW.out.drew y u
          rw [HCV.out] at this
          exact this)
        clear hS0
        refine regionL_start (by kernel_rfl) 12 rfl S0 11 ?_
        refine wpL_next 0 9 3 (by kernel_rfl) (fun _ _ d _ _ h => by cases d <;> exact h) hS1 (fun hne => ?_)
        simp only [List.drop_succ_cons, List.drop_zero, List.take_succ_cons, List.take_zero]
        repeat (go_big_quiet_step (fail))
        refine wpQuiet_nil ?_
        refine wpL_one (i := 9) (fuel := 2) (by kernel_rfl) rfl (fun KK hKK => ?_)
        go_simp
        refine HCM.out.mono ?_
        rintro e w7 ⟨rfl, h7⟩
        have H7 := Lib.hid h7
        refine hKK _ _ (HSI.out _ h7) ?_
        clear hKK KK h7
        refine wpL_next 10 1 1 (by kernel_rfl) (fun _ _ d _ _ h => by cases d <;> exact h) (HSI.out _ H7.out) (fun hne => ?_)
        simp only [List.drop_succ_cons, List.drop_zero, List.take_succ_cons, List.take_zero]
        repeat (go_big_quiet_step (fail))
        refine wpQuiet_nil ?_
        refine wpL_last (fuel := 0) (by kernel_rfl) (by kernel_rfl) rfl (fun KK hKK => ?_)
        go_simp
        refine hKK _ _ ?_
        clear hKK KK s0 s1 s2 r0 r1 r2 hS1
        go_wp2
        go_roundw
        case rel =>
          refine ⟨i, h, rfl, rfl, hi, hih, by omega, H1.out, fun t z ht hz => ?_, d, HD.out, H7.out⟩
          have := srt_get HV.out HY.out hz (by omega)
          have := HC.out
          omega
        case measure => simp [intOf]; omega
      · have HC : Hid (¬ y.1 < u.1) := Lib.hid fun e => hc (HLT.out.2 e)
        have hdc : decide (cv < 0) = false := decide_eq_false hc
        have hdn : (!decide (cv < 0)) = true := by rw [hdc]; rfl
        go_wp2_with fail
        obtain ⟨S0, hS0⟩ : ∃ S0 : World → Prop, S0 = fun w' => SWK ecell 3 w0 g 0 d w' := ⟨_, rfl⟩
        have HSI : Hid (∀ w', SWK ecell 3 w0 g 0 d w' → S0 w') := Lib.hid fun w' b => by rw [hS0]; exact b
        have HSF : Hid (∀ w', S0 w' → SWK ecell 3 w0 g 0 d w') := Lib.hid fun w' b => by rw [hS0] at b; exact b
        have s0 : ∀ s : SW S0, s.w.cell? ⟨g, m * 3, none⟩ = some (.int .i64 y.1) := fun s => (ed_cells ((HSF.out _ s.h).holds hR.hblk hR.hH HDS.out) HP1.out.1 HP1.out.2).1.1
        have s1 : ∀ s : SW S0, s.w.cell? ⟨g, m * 3 + 1, none⟩ = some (.int .i64 y.2.1) := fun s => (ed_cells ((HSF.out _ s.h).holds hR.hblk hR.hH HDS.out) HP1.out.1 HP1.out.2).1.2.1
        have s2 : ∀ s : SW S0, s.w.cell? ⟨g, m * 3 + 2, none⟩ = some (.string (strOfNums y.2.2)) := fun s => (ed_cells ((HSF.out _ s.h).holds hR.hblk hR.hH HDS.out) HP1.out.1 HP1.out.2).1.2.2
        have r0 : ∀ s : SW S0, s.w.cell? ⟨g, h * 3, none⟩ = some (.int .i64 u.1) := fun s => (ed_cells ((HSF.out _ s.h).holds hR.hblk hR.hH HDS.out) HP2.out.1 HP2.out.2).1.1
        have r1 : ∀ s : SW S0, s.w.cell? ⟨g, h * 3 + 1, none⟩ = some (.int .i64 u.2.1) := fun s => (ed_cells ((HSF.out _ s.h).holds hR.hblk hR.hH HDS.out) HP2.out.1 HP2.out.2).1.2.1
        have r2 : ∀ s : SW S0, s.w.cell? ⟨g, h * 3 + 2, none⟩ = some (.string (strOfNums u.2.2)) := fun s => (ed_cells ((HSF.out _ s.h).holds hR.hblk hR.hH HDS.out) HP2.out.1 HP2.out.2).1.2.2
        have hS1 : S0 wr.drew := HSI.out _ HW.out.drew
        have HCM : Hid (Calls Tryd.prog 28 #[.agg #[.int .i64 y.1, .int .i64 y.2.1, .string (strOfNums y.2.2)], .agg #[.int .i64 u.1, .int .i64 u.2.1, .string (strOfNums u.2.2)]] wr.drew fun e w' => e = .returned (.int .i64 cv) ∧ SWK ecell 3 w0 g 0 d w') := Lib.hid (by
          have := cmp_SW HW.out.drew y u
          rw [HCV.out] at this
          exact this)
        clear hS0
        refine regionL_start (by kernel_rfl) 12 rfl S0 11 ?_
        refine wpL_next 0 9 3 (by kernel_rfl) (fun _ _ d _ _ h => by cases d <;> exact h) hS1 (fun hne => ?_)
        simp only [List.drop_succ_cons, List.drop_zero, List.take_succ_cons, List.take_zero]
        repeat (go_big_quiet_step (fail))
        refine wpQuiet_nil ?_
        refine wpL_one (i := 9) (fuel := 2) (by kernel_rfl) rfl (fun KK hKK => ?_)
        go_simp
        refine HCM.out.mono ?_
        rintro e w7 ⟨rfl, h7⟩
        have H7 := Lib.hid h7
        refine hKK _ _ (HSI.out _ h7) ?_
        clear hKK KK h7
        refine wpL_next 10 1 1 (by kernel_rfl) (fun _ _ d _ _ h => by cases d <;> exact h) (HSI.out _ H7.out) (fun hne => ?_)
        simp only [List.drop_succ_cons, List.drop_zero, List.take_succ_cons, List.take_zero]
        repeat (go_big_quiet_step (fail))
        refine wpQuiet_nil ?_
        refine wpL_last (fuel := 0) (by kernel_rfl) (by kernel_rfl) rfl (fun KK hKK => ?_)
        go_simp
        refine hKK _ _ ?_
        clear hKK KK s0 s1 s2 r0 r1 r2 hS1
        go_wp2
        go_roundw
        case rel =>
          refine ⟨h + 1, j, by go_num, rfl, by omega, by omega, hj, fun t z ht hz => ?_, H2.out, d, HD.out, H7.out⟩
          have := srt_get HV.out hz HY.out (by omega)
          have := HC.out
          omega
        case measure => simp [intOf]; omega
    · obtain rfl : i = j := by omega
      have HSP : Hid (∀ V1 V2, U = V1 ++ V2 → V1.length = i - a → Srt (V1 ++ y :: V2) ∧ Fl (V1 ++ y :: V2) (U ++ [y])) := Lib.hid fun V1 V2 e hl => by
        have hv := HV.out
        rw [e] at hv
        have c1 : ∀ v ∈ V1, v.1 ≤ y.1 := fun v hv => by
          obtain ⟨t, ht, rfl⟩ := List.mem_iff_getElem.1 hv
          exact H1.out t _ (by omega) (by rw [e, List.getElem?_append_left ht]; exact List.getElem?_eq_getElem ht)
        have c2 : ∀ v ∈ V2, y.1 < v.1 := fun v hv => by
          obtain ⟨t, ht, rfl⟩ := List.mem_iff_getElem.1 hv
          exact H2.out (V1.length + t) _ (by omega) (by rw [e, List.getElem?_append_right (by omega), Nat.add_sub_cancel_left]; exact List.getElem?_eq_getElem ht)
        refine ⟨srt_insert hv c1 (fun v hv => Int.le_of_lt (c2 v hv)), ?_⟩
        rw [e]
        have e1 : V1 ++ y :: V2 = V1 ++ ([y] ++ V2) := by simp
        have e2 : V1 ++ V2 ++ [y] = V1 ++ (V2 ++ [y]) := by simp
        rw [e1, e2]
        refine Fl.left (Fl.swap fun u hu v hv => ?_)
        have := c2 v hv
        rw [List.mem_singleton.1 hu]
        omega
      go_wp2
      obtain ⟨wa, hwa⟩ : ∃ wa, wa = wr := ⟨_, rfl⟩
      rw [← hwa] at HW ⊢
      clear hwa
      go_loopw [17] (fun vk wq => ∃ (t : Nat), vk = .int .i64 ((a + t : Nat) : Int) ∧ i - a ≤ t ∧ t ≤ m - a ∧ SWE w0 g (P ++ U.take t ++ y :: U.drop t ++ R) wq) (fun vk _ => (intOf vk).toNat)
      case atStart => exact ⟨m - a, by rw [show a + (m - a) = m by omega], by omega, Nat.le_refl _, d, by rw [HD.out, List.take_of_length_le (by rw [HVL.out]; exact Nat.le_refl _), List.drop_eq_nil_iff.2 (by rw [HVL.out]; exact Nat.le_refl _)], HW.out⟩
      case round =>
        obtain ⟨t, rfl, ht0, ht, dk, hdk, hwk⟩ := hrel
        have HWK := Lib.hid hwk
        have HDK := Lib.hid hdk
        clear hwk hdk HW HD HDS d
        obtain ⟨k, hk⟩ : ∃ k, a + t = k := ⟨_, rfl⟩
        rw [hk]
        have HK := Lib.hid hk
        by_cases hlt2 : i - a < t
        · have HW := HWK
          obtain ⟨s, rfl⟩ : ∃ s, t = s + 1 := ⟨t - 1, by omega⟩
          obtain ⟨u, hu⟩ : ∃ u, U[s]? = some u := ⟨_, List.getElem?_eq_getElem (by rw [HVL.out]; omega)⟩
          have hdrop : U.drop s = u :: U.drop (s + 1) := by rw [List.drop_eq_getElem_cons (by rw [HVL.out]; omega)]; have := (List.getElem?_eq_some_iff.1 hu).2; rw [this]
          have htake : U.take (s + 1) = U.take s ++ [u] := by rw [List.take_succ_eq_append_getElem (by rw [HVL.out]; omega)]; have := (List.getElem?_eq_some_iff.1 hu).2; rw [this]
          have hlt3 : (U.take s).length = s := by rw [List.length_take, HVL.out]; omega
          obtain ⟨q, hq⟩ : ∃ q, a + s = q := ⟨_, rfl⟩
          have hkq : k = q + 1 := by omega
          have hd2 : dk.toList = (P ++ U.take s) ++ u :: ([] ++ y :: (U.drop (s + 1) ++ R)) := by rw [HDK.out, htake]; simp
          have i1 : q = (P ++ U.take s).length := by rw [List.length_append, hlt3]; have := HA.out; omega
          have hds : dk.size = n := by
            rw [size_of hd2]
            simp only [List.length_append, List.length_cons, List.length_nil, List.length_drop]
            rw [hlt3]
            have h1 := HN.out
            have h2 := HVL.out
            omega
          have HDS : Hid (dk.size = d0.size) := Lib.hid (by rw [hds, HNN.out])
          have HP1 := Lib.hid (And.intro (show k < dk.size by omega) (get_mid (A := (P ++ U.take s) ++ [u]) (B := U.drop (s + 1) ++ R) (x := y) (i := k) (by rw [hd2]; simp) (by rw [hkq, i1]; simp; omega)))
          have HP2 := Lib.hid (And.intro (show q < dk.size by omega) (get_mid hd2 i1))
          have HSW : Hid ((swp dk k q).toList = P ++ U.take s ++ y :: U.drop s ++ R) := Lib.hid (by
            rw [swp_mid' hd2 i1 (by rw [← i1, hkq]; rfl), hdrop]
            simp)
          have t1 : (i : Int) < (k : Int) := by omega
          have p1 : (k : Int) < (n : Int) := by omega
          have p2 : (q : Int) < (n : Int) := by omega
          have p3 : (0 : Int) ≤ (q : Int) := by omega
          have p4 : IntKind.i64.wrap ((k : Int) - 1) = (q : Int) := (IntWalk.i64_in _ (by omega)).trans (by omega)
          have p5 : (k : Int) - 1 = (q : Int) := by omega
          have HQ := Lib.hid hq
          have HKQ := Lib.hid hkq
          have S2 := Lib.hid (swapped_end hR HW.out HP1.out.1 HP2.out.1 HP1.out.2 HP2.out.2)
          obtain ⟨⟨c0, c1, c2⟩, f0, f1, f2⟩ := ed_cells (HW.out.drew.holds hR.hblk hR.hH HDS.out) HP1.out.1 HP1.out.2
          obtain ⟨⟨d0', d1', d2'⟩, k0, k1, k2⟩ := ed_cells (HW.out.drew.holds hR.hblk hR.hH HDS.out) HP2.out.1 HP2.out.2
          obtain ⟨⟨c3, c4, c5⟩, f3, f4, f5⟩ := ed_cells (HW.out.holds hR.hblk hR.hH HDS.out) HP1.out.1 HP1.out.2
          obtain ⟨⟨d3', d4', d5'⟩, k3, k4, k5⟩ := ed_cells (HW.out.holds hR.hblk hR.hH HDS.out) HP2.out.1 HP2.out.2
          obtain ⟨oA, hoA⟩ : ∃ oA, (k) * 3 = oA := ⟨_, rfl⟩
          obtain ⟨oB, hoB⟩ : ∃ oB, (q) * 3 = oB := ⟨_, rfl⟩
          rw [hoA] at c0 c1 c2 c3 c4 c5 f0 f1 f2 f3 f4 f5 S2
          rw [hoB] at d0' d1' d2' d3' d4' d5' k0 k1 k2 k3 k4 k5 S2
          have hoo : oB + 3 = oA := by omega
          clear hu hdrop htake hlt3 hd2 i1 hds hk hq hkq
          clear HW
          go_wp2_with fail
          go_big_region_o
          clear c0 c1 c2 c3 c4 c5 f0 f1 f2 f3 f4 f5 d0' d1' d2' d3' d4' d5' k0 k1 k2 k3 k4 k5
          go_wp2
          go_roundw
          case rel => exact ⟨s, by rw [HQ.out], by omega, by omega, _, HSW.out, S2.out⟩
          case measure => simp [intOf]; have := HKQ.out; omega
        · obtain rfl : t = i - a := by omega
          have t1 : ¬ (i : Int) < (k : Int) := by omega
          clear hk
          go_wp2
          go_end0
          obtain ⟨q1, q2⟩ := HSP.out (U.take (i - a)) (U.drop (i - a)) (List.take_append_drop _ _).symm (by rw [List.length_take, HVL.out]; omega)
          refine ⟨rfl, U.take (i - a) ++ y :: U.drop (i - a), ⟨dk, ?_, HWK.out⟩, q1, q2⟩
          rw [HDK.out]
          simp
end Go.Proofs.YtopeechbgblndaaDoor
