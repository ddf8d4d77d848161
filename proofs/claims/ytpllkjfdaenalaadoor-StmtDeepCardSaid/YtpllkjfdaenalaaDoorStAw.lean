/-
  'awake' of layer 9: the document's example: true.
-/
import Derived.Test.YtpllkjfdaenalaaDoorStPa
import Derived.Test.YtpllkjfdaenalaaDoorEpX
import Derived.BigRegion
namespace Go.Proofs.YtpllkjfdaenalaaDoor
set_option linter.unusedVariables false
set_option linter.unusedSimpArgs false
open Go.RowKit

def ex9 : List Int := [108, 101, 116, 32, 120, 58, 32, 105, 110, 116, 32, 64, 108, 111, 119, 32, 61, 32, 49, 59]
abbrev L9 : List Tk := [(2, 0, 3), (2, 4, 5), (4, 5, 6), (2, 7, 10), (4, 11, 12), (2, 12, 15), (4, 16, 17), (3, 18, 19), (4, 19, 20)]
theorem live_ex9 : live ex9 0 = L9 := by
  unfold live ex9
  simp [toks_at, toks_end, tk, tl, kd, goes, runB, pairsL, pairB, lv]
abbrev R9 : Rw := rowT (strOfNums ex9) L9
theorem v0 : R9.wd 0 = ⟨#[108, 101, 116]⟩ := by rfl
theorem v1 : R9.wd 1 = ⟨#[120]⟩ := by rfl
theorem v2 : R9.wd 2 = ⟨#[58]⟩ := by rfl
theorem v3 : R9.wd 3 = ⟨#[105, 110, 116]⟩ := by rfl
theorem v4 : R9.wd 4 = ⟨#[64]⟩ := by rfl
theorem v5 : R9.wd 5 = ⟨#[108, 111, 119]⟩ := by rfl
theorem v6 : R9.wd 6 = ⟨#[61]⟩ := by rfl
theorem v7 : R9.wd 7 = ⟨#[49]⟩ := by rfl
theorem v8 : R9.wd 8 = ⟨#[59]⟩ := by rfl
theorem v9 : R9.wd 9 = ⟨#[]⟩ := by rfl
theorem idb_low : idB ⟨#[108, 111, 119]⟩ = true := by
  simp [idB, kwB, kws, ByteArray.toList_eq, identL, bts, kd]
  decide
theorem ex9_7 (F : Nat) : rd R9 (F + 20) (.lev 1) 7 0 = good (eNum 18 1) 8 := by
  have h6 : rd R9 (F + 15) (.lev 6) 7 0 = good (eNum 18 1) 8 := by
    rw [low_pr (f := F + 13) (by rw [isT R9 7 [49] _ v7 rfl, isT R9 7 [49] _ v7 rfl]; decide), rd_pr_num (by rfl)]
    rw [numG_some (show numB (R9.wd 7) = some 1 by rw [v7]; decide)]
    rfl
  have hs : ∀ l, sgnL l (R9.wd 8) = false := fun l => sgn_no (by rw [v8, ByteArray.toList_eq]; decide)
  exact up_good (up_good (up_good (up_good (up_good h6 (by omega) (hs _) (by omega)) (by omega) (hs _) (by omega)) (by omega) (hs _) (by omega)) (by omega) (hs _) (by omega)) (by omega) (hs _) (by omega)
abbrev s9 : St := .mk 0 0 ⟨#[120]⟩ 0 ⟨true, false, ⟨#[108, 111, 119]⟩, 12, 15⟩ (eNum 18 1) [] []
theorem hd9 (F : Nat) : hdS R9 (F + 20) 0 = (s9, 9, 0) := by
  unfold hdS
  rw [if_pos (by rw [isT R9 0 _ _ v0 rfl]; decide)]
  unfold letS
  have e1 : mu R9 (0, 0) [wLet] = (1, 0) := muz_yes (by rw [isT R9 0 _ _ v0 rfl]; decide)
  have e2 : pnm R9 (1, 0) = (⟨#[120]⟩, 2, 0) := by
    unfold pnm nmS
    rw [if_pos rfl, if_pos (show R9.idn 1 = true by show idB (R9.wd 1) = true; rw [v1]; exact idb_x), v1]
  have e3 : mu R9 (2, 0) [wCol] = (3, 0) := muz_yes (by rw [isT R9 2 _ _ v2 rfl]; decide)
  have e4 : pty R9 (3, 0) = (0, 4, 0) := by
    unfold pty tyS
    rw [if_pos rfl, if_pos (by rw [isT R9 3 _ _ v3 rfl]; decide)]
  have e5 : pmk R9 (4, 0) = (⟨true, false, ⟨#[108, 111, 119]⟩, 12, 15⟩, 6, 0) := by
    unfold pmk markS
    rw [if_pos rfl, if_pos (by rw [isT R9 4 _ _ v4 rfl, isT R9 4 _ _ v4 rfl]; decide), if_pos (show R9.idn 5 = true by show idB (R9.wd 5) = true; rw [v5]; exact idb_low), isT R9 4 _ _ v4 rfl, v5]
    rfl
  have e6 : mu R9 (6, 0) [wEq] = (7, 0) := muz_yes (by rw [isT R9 6 _ _ v6 rfl]; decide)
  have e7 : pex R9 (F + 20) (7, 0) = (eNum 18 1, 8, 0) := by
    unfold pex exS
    rw [if_pos rfl, ex9_7 F]
    rfl
  have e8 : mu R9 (8, 0) [wSem] = (9, 0) := muz_yes (by rw [isT R9 8 _ _ v8 rfl]; decide)
  rw [e1, e2]
  dsimp only
  rw [e3, e4]
  dsimp only
  rw [e5]
  dsimp only
  rw [e6, e7]
  dsimp only
  rw [e8]
  rfl
theorem parse9 : parseS (rowT (strOfNums ex9) (live ex9 0)) (live ex9 0) 1020 100 = ([s9], 20, 0) := by
  rw [live_ex9]
  have hst : rs R9 1020 99 .st 0 0 = goods s9 [] 9 := by
    rw [rs_st (f := 98), hd9 1000]
    rfl
  have h1 : rs R9 1020 100 (.row []) 0 0 = goods St.nul [s9] 9 := by
    rw [rs_row (f := 99), if_neg (by unfold endsB; rw [isT R9 0 _ _ v0 rfl, isT R9 0 _ _ v0 rfl]; decide), hst]
    show rs R9 1020 99 (.row [s9]) 9 0 = _
    rw [rs_row (f := 98), if_pos (by unfold endsB; rw [isT R9 9 _ _ v9 rfl, isT R9 9 _ _ v9 rfl]; decide)]
  unfold parseS
  rw [if_neg (by decide), h1]
  rfl
theorem ex9_byt : Byt8 ex9 := fun x hx => by simp [ex9] at hx; omega
set_option maxRecDepth 100000 in
set_option maxHeartbeats 1600000 in
theorem awake9_any (w : World) (hv : Vars w) : Calls Tryd.prog 5 #[] w fun e w' => e = .returned (.bool true) ∧ Below w.heap.size w w' := by
  have hvs := hv.size
  obtain ⟨wl, hcv, hx, hb⟩ := convC (w := w) (B := w.heap.size) ex9 20 rfl (Nat.le_refl _)
  have hm := sparse_any _ 20 20 ex9 wl hx ex9_byt (by omega) (by omega) (by unfold maxLen; omega) (hv.under hb hvs) 1020 100 (by omega) (by omega)
  rw [parse9] at hm
  have HM := Lib.hid hm
  have HB := Lib.hid hb
  simp only [by8, List.map, ex9] at hcv
  clear hm hb hx hv
  go_enter Tryd.func5, Tryd.ntmps5
  go_wp2_with (first
    | (go_at_call 6; refine HM.out.mono ?_; rintro e w2 ⟨lv, rfl, hs2, hb2⟩; have HS2 := Lib.hid hs2; have HB2 := Lib.hid (HB.out.trans (hb2.mono HB.out.size)); clear hs2 hb2; dsimp only; refine Hid.out ?_)
    | fail)
  obtain ⟨A2, c2, rfl, _⟩ := HS2.out.len
  have hl2 : (([s9], ((20 : Int), (0 : Int))) : List St × Int × Int).1.length = 1 := rfl
  rw [hl2] at HS2 ⊢
  obtain ⟨b, off, x, tv, rfl, hx, _, hrange, _, _, hbl⟩ := HS2.out.at (j := 0) (by show 0 < 1; omega)
  obtain rfl : x = s9 := (Option.some.inj (show some s9 = some x from hx)).symm
  have k0 := hrange 0 _ rfl
  have k4 := hrange 4 _ rfl
  have k7 := hrange 7 _ rfl
  have k8 := hrange 8 _ rfl
  have k11 := hrange 11 _ rfl
  simp only [Nat.zero_mul, Nat.add_zero] at k0 k4 k7 k8 k11
  have k0 : w2.cell? ⟨b, off, none⟩ = some (.int .i64 0) := k0
  have k4 : w2.cell? ⟨b, off + 4, none⟩ = some (.bool true) := k4
  have k7 : w2.cell? ⟨b, off + 7, none⟩ = some (.int .i64 12) := k7
  have k8 : w2.cell? ⟨b, off + 8, none⟩ = some (.int .i64 15) := k8
  have k11 : w2.cell? ⟨b, off + 11, none⟩ = some (.int .i64 1) := k11
  clear hrange hx HS2
  refine Lib.hid ?_
  go_wp2_with fail
  go_ret
  exact ⟨rfl, HB2.out⟩
end Go.Proofs.YtpllkjfdaenalaaDoor
