/-
  symMerge at edits, its two short ways: one element into a sorted row.
-/
import Derived.Test.YtopeechbgblndaaDoorSoX
import Derived.Test.YtopeechbgblndaaDoorHeld
namespace Go.Proofs.YtopeechbgblndaaDoor
set_option linter.unusedVariables false
set_option linter.unusedSimpArgs false
open Go.RowKit Go.Lib Go.Sort

/-- What symMerge leaves. -/
def MgTo (w0 : World) (g : Nat) (P U V R : List Ed) (e : Ending) (w' : World) : Prop := e = .returned (.tuple #[]) ∧ ∃ M, SWE w0 g (P ++ M ++ R) w' ∧ Srt M ∧ Fl M (U ++ V)

/-- 'cmp(x, y)' in a world of the sort's. -/
theorem cmp_SW {w0 : World} {g : Nat} {d : Array Ed} {W : World} (h : SWK ecell 3 w0 g 0 d W) (x y : Ed) :
    Calls Tryd.prog 28 #[.agg #[.int .i64 x.1, .int .i64 x.2.1, .string (strOfNums x.2.2)], .agg #[.int .i64 y.1, .int .i64 y.2.1, .string (strOfNums y.2.2)]] W fun e w' => e = .returned (.int .i64 (cfE x y)) ∧ SWK ecell 3 w0 g 0 d w' :=
  (byFrom_any x y W).mono fun e w' ⟨he, q, os, hw⟩ => ⟨he, by rw [hw]; exact h.grown q os⟩
theorem get_at {d : Array Ed} {L : List Ed} {i : Nat} {x : Ed} (hd : d.toList = L) (h : L[i]? = some x) : i < d.size ∧ d[i]! = x := by
  have hs : i < d.size := by rw [size_of hd]; exact (List.getElem?_eq_some_iff.1 h).1
  refine ⟨hs, ?_⟩
  have := getD_list hs
  rw [hd, h] at this
  exact (Option.some.inj this).symm
theorem mid_get {P U R : List Ed} {m t : Nat} {y : Ed} (hm : m = P.length) (h : U[t]? = some y) : (P ++ U ++ R)[m + t]? = some y := by
  subst hm
  have := (List.getElem?_eq_some_iff.1 h).1
  rw [List.append_assoc, List.getElem?_append_right (by omega), Nat.add_sub_cancel_left, List.getElem?_append_left this]
  exact h

set_option maxHeartbeats 1000000 in
set_option maxRecDepth 1000000 in
/-- The first row is one element. -/
theorem merge_one (g cap a m b : Nat) (d0 : Array Ed) (w0 w : World) (P V R : List Ed) (x : Ed) (hR : RowK ecell 3 w0 g 0 d0) (n : Nat) (hn : n = d0.size) (hS : SWE w0 g (P ++ [x] ++ V ++ R) w) (hs : (P ++ [x] ++ V ++ R).length = n)
    (ha : a = P.length) (hm : m = P.length + 1) (hb : b = P.length + 1 + V.length) (hVs : Srt V) (hsz : n ≤ 100000) :
    Calls Tryd.prog 37 #[.slice (some ⟨g, 0, none⟩) n cap, .int .i64 a, .int .i64 m, .int .i64 b, cmpV] w (MgTo w0 g P [x] V R) := by
  have hs0 := hs
  simp only [List.length_append, List.length_cons, List.length_nil] at hs
  have HS := Lib.hid hS
  have HN := Lib.hid hs
  have HN0 := Lib.hid hs0
  have HA := Lib.hid ha
  have HM := Lib.hid hm
  have HB := Lib.hid hb
  have HNN := Lib.hid hn
  have HV := Lib.hid hVs
  have hma : (m : Int) - (a : Int) = 1 := by omega
  have hwma : IntKind.i64.wrap ((m : Int) - (a : Int)) = 1 := (IntWalk.i64_in _ (by omega)).trans hma
  have hmn : m ≤ n := by omega
  have hbn : b ≤ n := by omega
  have hmb : m ≤ b := by omega
  have hm1 : m = a + 1 := by omega
  have HM1 := Lib.hid hm1
  have HVG : Hid (∀ t y, V[t]? = some y → (P ++ [x] ++ V ++ R)[m + t]? = some y) := Lib.hid fun t y h => by
    have := mid_get (P := P ++ [x]) (R := R) (m := m) (by simp; omega) h
    exact this
  have HXG : Hid ((P ++ [x] ++ V ++ R)[a]? = some x) := Lib.hid (by
    have := mid_get (P := P) (U := [x]) (R := V ++ R) (m := a) (t := 0) ha rfl
    simpa [List.append_assoc] using this)
  have mixed : Tryd.prog.follows .mixedOrders = true := by kernel_rfl
  clear hS hs ha hm hb hn hVs hs0 hm1
  go_enter Tryd.func37, Tryd.ntmps37
  go_wp2
  go_loopw [10, 11] (fun vi vj wr => ∃ (i j : Nat), vi = .int .i64 (i : Int) ∧ vj = .int .i64 (j : Int) ∧ m ≤ i ∧ i ≤ j ∧ j ≤ b ∧ (∀ t y, m + t < i → V[t]? = some y → y.1 < x.1) ∧ (∀ t y, j ≤ m + t → V[t]? = some y → x.1 ≤ y.1) ∧ SWE w0 g (P ++ [x] ++ V ++ R) wr) (fun vi vj _ => (intOf vj).toNat - (intOf vi).toNat)
  case atStart => exact ⟨m, b, rfl, rfl, Nat.le_refl _, hmb, Nat.le_refl _, (fun t y h _ => absurd h (by omega)), (fun t y h hy => by have := (List.getElem?_eq_some_iff.1 hy).1; have := HB.out; have := HM.out; omega), HS.out⟩
  case round =>
    obtain ⟨i, j, rfl, rfl, hi, hij, hj, h1, h2, d, hd, hw⟩ := hrel
    have H1 := Lib.hid h1
    have H2 := Lib.hid h2
    have HW := Lib.hid hw
    have HD := Lib.hid hd
    have HDS : Hid (d.size = d0.size) := Lib.hid (by rw [size_of hd, HN0.out, HNN.out])
    clear h1 h2 hw hd
    by_cases hlt : i < j
    · obtain ⟨h, hh⟩ : ∃ h, (i + j) / 2 = h := ⟨_, rfl⟩
      have hih : i ≤ h := by omega
      have hhj : h < j := by omega
      have hhn : (h : Int) < (n : Int) := by omega
      have han : (a : Int) < (n : Int) := by have := HM1.out; omega
      have r0 : IntKind.i64.wrap ((i : Int) + (j : Int)) = (i : Int) + (j : Int) := IntWalk.i64_in _ (by omega)
      have r1 : ((i : Int) + (j : Int)) / 2 = (h : Int) := by omega
      clear hh
      obtain ⟨y, hy⟩ : ∃ y, V[h - m]? = some y := ⟨_, List.getElem?_eq_getElem (by have := HB.out; have := HM.out; omega)⟩
      have hyy := HVG.out _ _ hy
      rw [show m + (h - m) = h by omega] at hyy
      have HY := Lib.hid hy
      have HP1 := Lib.hid (get_at HD.out hyy)
      have HP2 := Lib.hid (get_at HD.out HXG.out)
      obtain ⟨cv, hcv⟩ : ∃ cv, cfE y x = cv := ⟨_, rfl⟩
      have HCV := Lib.hid hcv
      have HLT : Hid (cv < 0 ↔ y.1 < x.1) := Lib.hid (by rw [← hcv]; exact cfE_lt y x)
      clear hy hyy hcv
      by_cases hc : cv < 0
      · have HC := Lib.hid (HLT.out.1 hc)
        go_wp2_with fail
        obtain ⟨S0, hS0⟩ : ∃ S0 : World → Prop, S0 = fun w' => SWK ecell 3 w0 g 0 d w' := ⟨_, rfl⟩
        have HSI : Hid (∀ w', SWK ecell 3 w0 g 0 d w' → S0 w') := Lib.hid fun w' b => by rw [hS0]; exact b
        have HSF : Hid (∀ w', S0 w' → SWK ecell 3 w0 g 0 d w') := Lib.hid fun w' b => by rw [hS0] at b; exact b
        have s0 : ∀ s : SW S0, s.w.cell? ⟨g, h * 3, none⟩ = some (.int .i64 y.1) := fun s => (ed_cells ((HSF.out _ s.h).holds hR.hblk hR.hH HDS.out) HP1.out.1 HP1.out.2).1.1
        have s1 : ∀ s : SW S0, s.w.cell? ⟨g, h * 3 + 1, none⟩ = some (.int .i64 y.2.1) := fun s => (ed_cells ((HSF.out _ s.h).holds hR.hblk hR.hH HDS.out) HP1.out.1 HP1.out.2).1.2.1
        have s2 : ∀ s : SW S0, s.w.cell? ⟨g, h * 3 + 2, none⟩ = some (.string (strOfNums y.2.2)) := fun s => (ed_cells ((HSF.out _ s.h).holds hR.hblk hR.hH HDS.out) HP1.out.1 HP1.out.2).1.2.2
        have r0 : ∀ s : SW S0, s.w.cell? ⟨g, a * 3, none⟩ = some (.int .i64 x.1) := fun s => (ed_cells ((HSF.out _ s.h).holds hR.hblk hR.hH HDS.out) HP2.out.1 HP2.out.2).1.1
        have r1 : ∀ s : SW S0, s.w.cell? ⟨g, a * 3 + 1, none⟩ = some (.int .i64 x.2.1) := fun s => (ed_cells ((HSF.out _ s.h).holds hR.hblk hR.hH HDS.out) HP2.out.1 HP2.out.2).1.2.1
        have r2 : ∀ s : SW S0, s.w.cell? ⟨g, a * 3 + 2, none⟩ = some (.string (strOfNums x.2.2)) := fun s => (ed_cells ((HSF.out _ s.h).holds hR.hblk hR.hH HDS.out) HP2.out.1 HP2.out.2).1.2.2
        have hS1 : S0 wr.drew := HSI.out _ HW.out.drew
        have HCM : Hid (Calls Tryd.prog 28 #[.agg #[.int .i64 y.1, .int .i64 y.2.1, .string (strOfNums y.2.2)], .agg #[.int .i64 x.1, .int .i64 x.2.1, .string (strOfNums x.2.2)]] wr.drew fun e w' => e = .returned (.int .i64 cv) ∧ SWK ecell 3 w0 g 0 d w') := Lib.hid (by
          have := cmp_SW HW.out.drew y x
          rw [HCV.out] at this
          exact this)
        clear hS0
        refine regionL_start (by kernel_rfl) 11 rfl S0 10 ?_
        refine wpL_next 0 9 2 (by kernel_rfl) (fun _ _ d _ _ h => by cases d <;> exact h) hS1 (fun hne => ?_)
        simp only [List.drop_succ_cons, List.drop_zero, List.take_succ_cons, List.take_zero]
        repeat (go_big_quiet_step (fail))
        refine wpQuiet_nil ?_
        refine wpL_one (i := 9) (fuel := 1) (by kernel_rfl) rfl (fun KK hKK => ?_)
        go_simp
        refine HCM.out.mono ?_
        rintro e w7 ⟨rfl, h7⟩
        have H7 := Lib.hid h7
        refine hKK _ _ (HSI.out _ h7) ?_
        clear hKK KK h7
        refine wpL_last (fuel := 0) (by kernel_rfl) (by kernel_rfl) rfl (fun KK hKK => ?_)
        go_simp
        refine hKK _ _ ?_
        clear hKK KK s0 s1 s2 r0 r1 r2 hS1
        go_wp2
        go_roundw
        case rel =>
          refine ⟨h + 1, j, by go_num, rfl, by omega, by omega, hj, fun t z ht hz => ?_, H2.out, d, HD.out, H7.out⟩
          have := srt_get HV.out hz HY.out (by omega)
          have := HC.out
          omega
        case measure => simp [intOf]; omega
      · have HC : Hid (¬ y.1 < x.1) := Lib.hid fun e => hc (HLT.out.2 e)
        go_wp2_with fail
        obtain ⟨S0, hS0⟩ : ∃ S0 : World → Prop, S0 = fun w' => SWK ecell 3 w0 g 0 d w' := ⟨_, rfl⟩
        have HSI : Hid (∀ w', SWK ecell 3 w0 g 0 d w' → S0 w') := Lib.hid fun w' b => by rw [hS0]; exact b
        have HSF : Hid (∀ w', S0 w' → SWK ecell 3 w0 g 0 d w') := Lib.hid fun w' b => by rw [hS0] at b; exact b
        have s0 : ∀ s : SW S0, s.w.cell? ⟨g, h * 3, none⟩ = some (.int .i64 y.1) := fun s => (ed_cells ((HSF.out _ s.h).holds hR.hblk hR.hH HDS.out) HP1.out.1 HP1.out.2).1.1
        have s1 : ∀ s : SW S0, s.w.cell? ⟨g, h * 3 + 1, none⟩ = some (.int .i64 y.2.1) := fun s => (ed_cells ((HSF.out _ s.h).holds hR.hblk hR.hH HDS.out) HP1.out.1 HP1.out.2).1.2.1
        have s2 : ∀ s : SW S0, s.w.cell? ⟨g, h * 3 + 2, none⟩ = some (.string (strOfNums y.2.2)) := fun s => (ed_cells ((HSF.out _ s.h).holds hR.hblk hR.hH HDS.out) HP1.out.1 HP1.out.2).1.2.2
        have r0 : ∀ s : SW S0, s.w.cell? ⟨g, a * 3, none⟩ = some (.int .i64 x.1) := fun s => (ed_cells ((HSF.out _ s.h).holds hR.hblk hR.hH HDS.out) HP2.out.1 HP2.out.2).1.1
        have r1 : ∀ s : SW S0, s.w.cell? ⟨g, a * 3 + 1, none⟩ = some (.int .i64 x.2.1) := fun s => (ed_cells ((HSF.out _ s.h).holds hR.hblk hR.hH HDS.out) HP2.out.1 HP2.out.2).1.2.1
        have r2 : ∀ s : SW S0, s.w.cell? ⟨g, a * 3 + 2, none⟩ = some (.string (strOfNums x.2.2)) := fun s => (ed_cells ((HSF.out _ s.h).holds hR.hblk hR.hH HDS.out) HP2.out.1 HP2.out.2).1.2.2
        have hS1 : S0 wr.drew := HSI.out _ HW.out.drew
        have HCM : Hid (Calls Tryd.prog 28 #[.agg #[.int .i64 y.1, .int .i64 y.2.1, .string (strOfNums y.2.2)], .agg #[.int .i64 x.1, .int .i64 x.2.1, .string (strOfNums x.2.2)]] wr.drew fun e w' => e = .returned (.int .i64 cv) ∧ SWK ecell 3 w0 g 0 d w') := Lib.hid (by
          have := cmp_SW HW.out.drew y x
          rw [HCV.out] at this
          exact this)
        clear hS0
        refine regionL_start (by kernel_rfl) 11 rfl S0 10 ?_
        refine wpL_next 0 9 2 (by kernel_rfl) (fun _ _ d _ _ h => by cases d <;> exact h) hS1 (fun hne => ?_)
        simp only [List.drop_succ_cons, List.drop_zero, List.take_succ_cons, List.take_zero]
        repeat (go_big_quiet_step (fail))
        refine wpQuiet_nil ?_
        refine wpL_one (i := 9) (fuel := 1) (by kernel_rfl) rfl (fun KK hKK => ?_)
        go_simp
        refine HCM.out.mono ?_
        rintro e w7 ⟨rfl, h7⟩
        have H7 := Lib.hid h7
        refine hKK _ _ (HSI.out _ h7) ?_
        clear hKK KK h7
        refine wpL_last (fuel := 0) (by kernel_rfl) (by kernel_rfl) rfl (fun KK hKK => ?_)
        go_simp
        refine hKK _ _ ?_
        clear hKK KK s0 s1 s2 r0 r1 r2 hS1
        go_wp2
        go_roundw
        case rel =>
          refine ⟨i, h, rfl, rfl, hi, hih, by omega, H1.out, fun t z ht hz => ?_, d, HD.out, H7.out⟩
          have := srt_get HV.out HY.out hz (by omega)
          have := HC.out
          omega
        case measure => simp [intOf]; omega
    · obtain rfl : i = j := by omega
      have HSP : Hid (∀ V1 V2, V = V1 ++ V2 → V1.length = i - m → Srt (V1 ++ x :: V2) ∧ Fl (V1 ++ x :: V2) ([x] ++ V)) := Lib.hid fun V1 V2 e hl => by
        have hv := HV.out
        rw [e] at hv
        have c1 : ∀ v ∈ V1, v.1 < x.1 := fun v hv => by
          obtain ⟨t, ht, rfl⟩ := List.mem_iff_getElem.1 hv
          exact H1.out t _ (by omega) (by rw [e, List.getElem?_append_left ht]; exact List.getElem?_eq_getElem ht)
        have c2 : ∀ v ∈ V2, x.1 ≤ v.1 := fun v hv => by
          obtain ⟨t, ht, rfl⟩ := List.mem_iff_getElem.1 hv
          exact H2.out (V1.length + t) _ (by omega) (by rw [e, List.getElem?_append_right (by omega), Nat.add_sub_cancel_left]; exact List.getElem?_eq_getElem ht)
        refine ⟨srt_insert hv (fun v hv => Int.le_of_lt (c1 v hv)) c2, ?_⟩
        rw [e]
        have e1 : V1 ++ x :: V2 = V1 ++ [x] ++ V2 := by simp
        have e2 : [x] ++ (V1 ++ V2) = [x] ++ V1 ++ V2 := by simp
        rw [e1, e2]
        refine Fl.right (Fl.swap fun u hu v hv => ?_)
        have := c1 u hu
        rw [List.mem_singleton.1 hv]
        omega
      go_wp2
      obtain ⟨wa, hwa⟩ : ∃ wa, wa = wr := ⟨_, rfl⟩
      rw [← hwa] at HW ⊢
      clear hwa
      have rq : IntKind.i64.wrap ((i : Int) - 1) = (i : Int) - 1 := IntWalk.i64_in _ (by omega)
      go_loopw [13] (fun vk wq => ∃ (t : Nat), vk = .int .i64 ((a + t : Nat) : Int) ∧ t ≤ i - m ∧ SWE w0 g (P ++ V.take t ++ x :: V.drop t ++ R) wq) (fun vk _ => i - (intOf vk).toNat)
      case atStart => exact ⟨0, rfl, Nat.zero_le _, d, by rw [HD.out]; simp, HW.out⟩
      case round =>
        obtain ⟨t, rfl, ht, dk, hdk, hwk⟩ := hrel
        have HWK := Lib.hid hwk
        have HDK := Lib.hid hdk
        clear hwk hdk HW HD HDS d
        obtain ⟨k, hk⟩ : ∃ k, a + t = k := ⟨_, rfl⟩
        rw [hk]
        have HK := Lib.hid hk
        have HVL : Hid (V.length = b - m) := Lib.hid (by have := HB.out; have := HM.out; omega)
        have ham := HM1.out
        by_cases hlt2 : t < i - m
        · have HW := HWK
          obtain ⟨y, hy⟩ : ∃ y, V[t]? = some y := ⟨_, List.getElem?_eq_getElem (by rw [HVL.out]; omega)⟩
          have hdrop : V.drop t = y :: V.drop (t + 1) := by rw [List.drop_eq_getElem_cons (by rw [HVL.out]; omega)]; have := (List.getElem?_eq_some_iff.1 hy).2; rw [this]
          have htake : V.take (t + 1) = V.take t ++ [y] := by rw [List.take_succ_eq_append_getElem (by rw [HVL.out]; omega)]; have := (List.getElem?_eq_some_iff.1 hy).2; rw [this]
          have hlt3 : (V.take t).length = t := by rw [List.length_take, HVL.out]; omega
          have hd2 : dk.toList = (P ++ V.take t) ++ x :: ([] ++ y :: (V.drop (t + 1) ++ R)) := by rw [HDK.out, hdrop]; simp
          have i1 : k = (P ++ V.take t).length := by rw [List.length_append, hlt3]; have := HA.out; omega
          have hds : dk.size = n := by
            rw [size_of hd2]
            simp only [List.length_append, List.length_cons, List.length_nil, List.length_drop]
            rw [hlt3]
            have := HN.out
            rw [HVL.out] at *
            omega
          have HDS : Hid (dk.size = d0.size) := Lib.hid (by rw [hds, HNN.out])
          have HP1 := Lib.hid (And.intro (show k < dk.size by omega) (get_mid hd2 i1))
          have HP2 := Lib.hid (And.intro (show k + 1 < dk.size by omega) (get_mid (A := (P ++ V.take t) ++ [x]) (B := V.drop (t + 1) ++ R) (x := y) (i := k + 1) (by rw [hd2]; simp) (by rw [i1]; simp; omega)))
          have HSW : Hid ((swp dk k (k + 1)).toList = P ++ V.take (t + 1) ++ x :: V.drop (t + 1) ++ R) := Lib.hid (by
            rw [swp_mid hd2 i1 (by rw [← i1]; rfl), htake]
            simp)
          have t1 : (k : Int) < (i : Int) - 1 := by omega
          have p1 : (k : Int) < (n : Int) := by omega
          have p2 : (k : Int) + 1 < (n : Int) := by omega
          have p3 : (0 : Int) ≤ (k : Int) + 1 := by omega
          have p4 : IntKind.i64.wrap ((k : Int) + 1) = (k : Int) + 1 := IntWalk.i64_in _ (by omega)
          have p5 : ((k : Int) + 1).toNat = k + 1 := by omega
          clear hy hdrop htake hlt3 hd2 i1 hds hk
          have S2 := Lib.hid (swapped_end hR HW.out HP1.out.1 HP2.out.1 HP1.out.2 HP2.out.2)
          obtain ⟨⟨c0, c1, c2⟩, f0, f1, f2⟩ := ed_cells (HW.out.drew.holds hR.hblk hR.hH HDS.out) HP1.out.1 HP1.out.2
          obtain ⟨⟨d0', d1', d2'⟩, k0, k1, k2⟩ := ed_cells (HW.out.drew.holds hR.hblk hR.hH HDS.out) HP2.out.1 HP2.out.2
          obtain ⟨⟨c3, c4, c5⟩, f3, f4, f5⟩ := ed_cells (HW.out.holds hR.hblk hR.hH HDS.out) HP1.out.1 HP1.out.2
          obtain ⟨⟨d3', d4', d5'⟩, k3, k4, k5⟩ := ed_cells (HW.out.holds hR.hblk hR.hH HDS.out) HP2.out.1 HP2.out.2
          obtain ⟨oA, hoA⟩ : ∃ oA, (k) * 3 = oA := ⟨_, rfl⟩
          obtain ⟨oB, hoB⟩ : ∃ oB, (k + 1) * 3 = oB := ⟨_, rfl⟩
          rw [hoA] at c0 c1 c2 c3 c4 c5 f0 f1 f2 f3 f4 f5 S2
          rw [hoB] at d0' d1' d2' d3' d4' d5' k0 k1 k2 k3 k4 k5 S2
          have hoo : oA + 3 = oB := by omega
          clear HW
          go_wp2_with fail
          go_big_region_o
          clear c0 c1 c2 c3 c4 c5 f0 f1 f2 f3 f4 f5 d0' d1' d2' d3' d4' d5' k0 k1 k2 k3 k4 k5
          go_wp2
          go_roundw
          case rel => exact ⟨t + 1, by have := HK.out; go_num, by omega, _, HSW.out, S2.out⟩
          case measure => simp [intOf]; omega
        · obtain rfl : t = i - m := by omega
          have t1 : ¬ (k : Int) < (i : Int) - 1 := by omega
          clear hk
          go_wp2
          go_end0
          obtain ⟨q1, q2⟩ := HSP.out (V.take (i - m)) (V.drop (i - m)) (List.take_append_drop _ _).symm (by rw [List.length_take, HVL.out]; omega)
          refine ⟨rfl, V.take (i - m) ++ x :: V.drop (i - m), ⟨dk, ?_, HWK.out⟩, q1, q2⟩
          rw [HDK.out]
          simp
end Go.Proofs.YtopeechbgblndaaDoor
