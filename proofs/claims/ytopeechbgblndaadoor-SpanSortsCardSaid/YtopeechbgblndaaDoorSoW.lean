/-
  'span.byFrom', the insertion sort, swapRange and rotate at edits, by their rows.
-/
import Derived.Test.YtopeechbgblndaaDoorSoM
import Derived.Test.YtopeechbgblndaaDoorSpE
import Derived.Test.YtopeechbgblndaaDoorShelf2
import Derived.Shelf.SlSortCmp.KitK
import Derived.Sort.WalkB2
import Derived.Sort.WalkB12
import Derived.Deep.LoopGhost
namespace Go.Proofs.YtopeechbgblndaaDoor
set_option linter.unusedVariables false
set_option linter.unusedSimpArgs false
open Go.RowKit Go.Lib Go.Sort

abbrev cfE (x y : Ed) : Int := Lib.compareInt x.1 y.1
theorem ltOf_cfE : ltOf cfE = ltE := by
  funext x y
  unfold ltOf cfE Lib.compareInt ltE
  by_cases h1 : x.1 < y.1
  · simp [h1]
  · by_cases h2 : y.1 < x.1 <;> simp [h1, h2]
theorem cfE_lt (x y : Ed) : cfE x y < 0 ↔ x.1 < y.1 := by
  have := congrFun (congrFun ltOf_cfE x) y
  unfold ltOf ltE at this
  simpa using this

set_option maxHeartbeats 1000000 in
theorem byFrom_any (x y : Ed) (W : World) : Calls Tryd.prog 28 #[.agg (ecell x).toArray, .agg (ecell y).toArray] W fun e w' => e = .returned (.int .i64 (cfE x y)) ∧ ∃ q os', w' = Go.Sort.grow (W.drewN q) os' := by
  have hcon := fun W' => AnyG.cmp_Compare_int Tryd.cmpInt x.1 y.1 W'
  change ∀ W', Calls Tryd.prog 32 _ _ _ at hcon
  unfold cfE
  generalize Lib.compareInt x.1 y.1 = r at hcon ⊢
  unfold ecell
  go_enter Tryd.func28, Tryd.ntmps28
  go_wp2_with (go_at_call 32; refine (hcon _).mono ?_; rintro e w' ⟨rfl, rfl⟩)
  go_ret
  exact ⟨rfl, 0, _, by rw [alloc_eq_grow, alloc_eq_grow, grow_grow]; rfl⟩
theorem cmpE (blk off size : Nat) (w : World) : CmpLays Tryd.prog 28 #[] ecell 3 cfE blk off size w := fun _ _ _ _ x y => byFrom_any x y _
theorem egE : ∀ args w, (callFunc 28 args).run Tryd.prog w = .ok (.enter 28 args) w := enters_of Tryd.func28 (by kernel_rfl) rfl
/-- The row at block g holds L: the world is one of the sort's. -/
abbrev SWE (w0 : World) (g : Nat) (L : List Ed) (w : World) : Prop := ∃ d : Array Ed, d.toList = L ∧ SWK ecell 3 w0 g 0 d w
abbrev cmpV : Value := .func (.func 28) #[] #[]

theorem ins_any (g cap a b : Nat) (d0 : Array Ed) (w0 w : World) (P U R : List Ed) (hR : RowK ecell 3 w0 g 0 d0) (n : Nat) (hn : n = d0.size) (hS : SWE w0 g (P ++ U ++ R) w) (hs : (P ++ U ++ R).length = n) (ha : a = P.length) (hb : b = P.length + U.length) (hsz : n ≤ 100000) :
    Calls Tryd.prog 36 #[.slice (some ⟨g, 0, none⟩) n cap, .int .i64 a, .int .i64 b, cmpV] w fun e w' => e = .returned (.tuple #[]) ∧ ∃ M, SWE w0 g (P ++ M ++ R) w' ∧ Srt M ∧ Fl M U := by
  obtain ⟨d, hd, hw⟩ := hS
  have hds : d.size = n := by rw [size_of hd, hs]
  have hH := hw.holds hR.hblk hR.hH (by rw [hds, hn])
  simp only [List.length_append] at hs
  have := AnyQ.insertionSortCmpFunc Tryd.edIns 3 Tryd.isAgg38 Tryd.sizeOf38 ecell (fun _ => rfl) ecell_one cfE 28 #[] g 0 cap a b d w egE (cmpE g 0 d.size w) hH (hw.lt hR.hblk) (by omega) (by omega) (by omega)
  rw [hds] at this
  refine (this : Calls Tryd.prog 36 _ _ _).mono ?_
  rintro e w' ⟨he, m, os, hw'⟩
  obtain ⟨M, hM, hm1, hm2⟩ := ins_list hd ha hb
  rw [ltOf_cfE] at hw'
  refine ⟨he, M, ⟨_, hM, ?_⟩, hm1, hm2⟩
  rw [hw']
  exact hw.on hR.hblk m _ os (by have h1 := size_of hM; have h2 := size_of hd; simp only [List.length_append] at h1 h2; have := hm2.1; omega)

/-- An element's cells. -/
theorem ed_cells {W : World} {g : Nat} {d : Array Ed} {i : Nat} {x : Ed} (h : HoldsK ecell 3 W g 0 d) (hi : i < d.size) (hx : d[i]! = x) :
    (W.cell? ⟨g, i * 3, none⟩ = some (.int .i64 x.1) ∧ W.cell? ⟨g, i * 3 + 1, none⟩ = some (.int .i64 x.2.1) ∧ W.cell? ⟨g, i * 3 + 2, none⟩ = some (.string (strOfNums x.2.2))) ∧
    W.frozen? ⟨g, i * 3, none⟩ = false ∧ W.frozen? ⟨g, i * 3 + 1, none⟩ = false ∧ W.frozen? ⟨g, i * 3 + 2, none⟩ = false := by
  have h0 := h.cell hi (show 0 < 3 by omega)
  have h1 := h.cell hi (show 1 < 3 by omega)
  have h2 := h.cell hi (show 2 < 3 by omega)
  rw [hx, Nat.zero_add] at h0 h1 h2
  exact ⟨⟨h0.1, h1.1, h2.1⟩, h0.2, h1.2, h2.2⟩
/-- Behind an exchange. -/
theorem swapped_end {w0 w : World} {g : Nat} {d : Array Ed} {n0 : Array Ed} {i j : Nat} {x y : Ed} (hR : RowK ecell 3 w0 g 0 n0) (h : SWK ecell 3 w0 g 0 d w) (hi : i < d.size) (hj : j < d.size) (hx : d[i]! = x) (hy : d[j]! = y) :
    SWK ecell 3 w0 g 0 (swp d i j) ((((((w.setCell ⟨g, i * 3, none⟩ (.int .i64 y.1)).setCell ⟨g, i * 3 + 1, none⟩ (.int .i64 y.2.1)).setCell ⟨g, i * 3 + 2, none⟩ (.string (strOfNums y.2.2))).setCell ⟨g, j * 3, none⟩ (.int .i64 x.1)).setCell ⟨g, j * 3 + 1, none⟩ (.int .i64 x.2.1)).setCell ⟨g, j * 3 + 2, none⟩ (.string (strOfNums x.2.2))).drew := by
  have := (h.swap hR.hk hR.hblk i j hi hj).drew
  rw [hx, hy, Nat.zero_add, Nat.zero_add] at this
  exact this
theorem ne_off {g p q : Nat} (h : p ≠ q) : ((⟨g, p, none⟩ : Addr) = ⟨g, q, none⟩) = False := by
  simp [h]

set_option maxHeartbeats 800000 in
set_option maxRecDepth 1000000 in
/-- Two pieces of one length change places. -/
theorem swapRange_any (g cap a b k : Nat) (d0 : Array Ed) (w0 w : World) (P X Q Y R : List Ed) (hR : RowK ecell 3 w0 g 0 d0) (n : Nat) (hn : n = d0.size) (hS : SWE w0 g (P ++ X ++ Q ++ Y ++ R) w) (hs : (P ++ X ++ Q ++ Y ++ R).length = n)
    (ha : a = P.length) (hX : X.length = k) (hY : Y.length = k) (hb : b = P.length + X.length + Q.length) (hsz : n ≤ 100000) :
    Calls Tryd.prog 41 #[.slice (some ⟨g, 0, none⟩) n cap, .int .i64 a, .int .i64 b, .int .i64 k, cmpV] w fun e w' => e = .returned (.tuple #[]) ∧ SWE w0 g (P ++ Y ++ Q ++ X ++ R) w' := by
  simp only [List.length_append] at hs
  have HS := Lib.hid hS
  have HX := Lib.hid hX
  have HY := Lib.hid hY
  have HA := Lib.hid ha
  have HB := Lib.hid hb
  have HN := Lib.hid hs
  have hak : a + k ≤ n := by omega
  have hbk : b + k ≤ n := by omega
  have mixed : Tryd.prog.follows .mixedOrders = true := by kernel_rfl
  clear hS hX hY hs ha hb
  go_enter Tryd.func41, Tryd.ntmps41
  go_wp2
  go_loopw [10] (fun i wr => ∃ t : Nat, i = .int .i64 (t : Int) ∧ t ≤ k ∧ SWE w0 g (P ++ Y.take t ++ X.drop t ++ Q ++ X.take t ++ Y.drop t ++ R) wr) (fun i _ => k - (intOf i).toNat)
  case atStart => exact ⟨0, rfl, Nat.zero_le _, by simpa using HS.out⟩
  case round =>
    obtain ⟨t, rfl, ht, d, hd, hw⟩ := hrel
    by_cases hlt : t < k
    · obtain ⟨x, hx, ex⟩ := split_at (show t < X.length by rw [HX.out]; exact hlt)
      obtain ⟨y, hy, ey⟩ := split_at (show t < Y.length by rw [HY.out]; exact hlt)
      have hN := HN.out
      have hX1 := HX.out
      have hY1 := HY.out
      have ha1 := HA.out
      have hb1 := HB.out
      have hlX : (X.take t).length = t := by rw [List.length_take]; omega
      have hlY : (Y.take t).length = t := by rw [List.length_take]; omega
      have hdX : X.drop t = x :: X.drop (t + 1) := by rw [List.drop_eq_getElem_cons (by omega)]; have := (List.getElem?_eq_some_iff.1 hx).2; rw [this]
      have hdY : Y.drop t = y :: Y.drop (t + 1) := by rw [List.drop_eq_getElem_cons (by omega)]; have := (List.getElem?_eq_some_iff.1 hy).2; rw [this]
      have hlX2 : (X.drop (t + 1)).length = k - t - 1 := by rw [List.length_drop]; omega
      have hd2 : d.toList = (P ++ Y.take t) ++ x :: ((X.drop (t + 1) ++ Q ++ X.take t) ++ y :: (Y.drop (t + 1) ++ R)) := by
        rw [hd, hdX, hdY]
        simp only [List.append_assoc, List.cons_append]
      have i1 : a + t = (P ++ Y.take t).length := by rw [List.length_append, hlY]; omega
      have i2 : b + t = (P ++ Y.take t).length + 1 + (X.drop (t + 1) ++ Q ++ X.take t).length := by
        simp only [List.length_append]
        rw [hlX, hlY, hlX2]
        omega
      have hds : d.size = n := by
        rw [size_of hd2]
        simp only [List.length_append, List.length_cons]
        rw [hlX, hlY, hlX2, List.length_drop]
        omega
      have gx : d[a + t]! = x := get_mid hd2 i1
      have gy : d[b + t]! = y := get_mid (A := (P ++ Y.take t) ++ x :: (X.drop (t + 1) ++ Q ++ X.take t)) (B := Y.drop (t + 1) ++ R) (by rw [hd2]; simp only [List.append_assoc, List.cons_append]) (by rw [i2]; simp only [List.length_append, List.length_cons]; omega)
      have HSW : Hid ((swp d (a + t) (b + t)).toList = P ++ Y.take (t + 1) ++ X.drop (t + 1) ++ Q ++ X.take (t + 1) ++ Y.drop (t + 1) ++ R) := Lib.hid (by
        rw [swp_mid hd2 i1 i2]
        have e1 : Y.take (t + 1) = Y.take t ++ [y] := by rw [List.take_succ_eq_append_getElem (by omega)]; have := (List.getElem?_eq_some_iff.1 hy).2; rw [this]
        have e2 : X.take (t + 1) = X.take t ++ [x] := by rw [List.take_succ_eq_append_getElem (by omega)]; have := (List.getElem?_eq_some_iff.1 hx).2; rw [this]
        rw [e1, e2]
        simp only [List.append_assoc, List.cons_append, List.nil_append])
      have S2 := Lib.hid (swapped_end hR hw (show a + t < d.size by omega) (show b + t < d.size by omega) gx gy)
      have hH := hw.drew.holds hR.hblk hR.hH (by omega)
      obtain ⟨⟨c0, c1, c2⟩, f0, f1, f2⟩ := ed_cells hH (show a + t < d.size by omega) gx
      obtain ⟨⟨d0, d1, d2⟩, k0, k1, k2⟩ := ed_cells hH (show b + t < d.size by omega) gy
      obtain ⟨⟨c0', c1', c2'⟩, f0', f1', f2'⟩ := ed_cells (hw.holds hR.hblk hR.hH (by omega)) (show a + t < d.size by omega) gx
      obtain ⟨⟨d0', d1', d2'⟩, k0', k1', k2'⟩ := ed_cells (hw.holds hR.hblk hR.hH (by omega)) (show b + t < d.size by omega) gy
      have hoo : (a + t) * 3 + 3 ≤ (b + t) * 3 := by omega
      obtain ⟨oA, hoA⟩ : ∃ oA, (a + t) * 3 = oA := ⟨_, rfl⟩
      obtain ⟨oB, hoB⟩ : ∃ oB, (b + t) * 3 = oB := ⟨_, rfl⟩
      rw [hoA] at c0 c1 c2 f0 f1 f2 c0' c1' c2' f0' f1' f2' hoo S2
      rw [hoB] at d0 d1 d2 k0 k1 k2 d0' d1' d2' k0' k1' k2' hoo S2
      have ea : ((a : Int) + (t : Int)).toNat = a + t := by omega
      have pa : (0 : Int) ≤ (a : Int) + (t : Int) := by omega
      have ba : (a : Int) + (t : Int) < (n : Int) := by omega
      have ra : IntKind.i64.wrap ((a : Int) + (t : Int)) = (a : Int) + (t : Int) := IntWalk.i64_in _ (by omega)
      have eb : ((b : Int) + (t : Int)).toNat = b + t := by omega
      have pb : (0 : Int) ≤ (b : Int) + (t : Int) := by omega
      have bb : (b : Int) + (t : Int) < (n : Int) := by omega
      have rb : IntKind.i64.wrap ((b : Int) + (t : Int)) = (b : Int) + (t : Int) := IntWalk.i64_in _ (by omega)
      clear hw hd hx hy ex ey hN hX1 hY1 ha1 hb1 hlX hlY hdX hdY hlX2 hd2 i1 i2 hds gx gy hH
      go_wp2_with fail
      go_big_region_o
      clear c0 c1 c2 f0 f1 f2 d0 d1 d2 k0 k1 k2 c0' c1' c2' f0' f1' f2' d0' d1' d2' k0' k1' k2'
      go_wp2
      go_roundw
      case rel =>
        exact ⟨t + 1, by go_num, by omega, _, HSW.out, S2.out⟩
      case measure => simp [intOf]; omega
    · obtain rfl : t = k := by omega
      have HW := Lib.hid hw
      have HD := Lib.hid hd
      clear hw hd
      go_wp2
      go_end0
      refine ⟨rfl, d, ?_, HW.out⟩
      have := HD.out
      rw [List.take_of_length_le (by rw [HY.out]; exact Nat.le_refl _), List.take_of_length_le (by rw [HX.out]; exact Nat.le_refl _), List.drop_eq_nil_iff.2 (by rw [HX.out]; exact Nat.le_refl _), List.drop_eq_nil_iff.2 (by rw [HY.out]; exact Nat.le_refl _)] at this
      simpa using this

end Go.Proofs.YtopeechbgblndaaDoor
