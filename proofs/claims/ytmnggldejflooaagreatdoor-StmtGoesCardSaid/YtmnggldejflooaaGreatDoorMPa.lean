import Derived.Test.YtmnggldejflooaaGreatDoorSq
import Derived.Test.YtmnggldejflooaaGreatDoorMSy
import Derived.Test.YtmnggldejflooaaGreatDoorMSz
import Derived.BigQuiet
import Derived.Test.YtmnggldejflooaaGreatDoorMEi
import Derived.BigRegion
set_option maxHeartbeats 1600000
namespace Go.Proofs.YtmnggldejflooaaGreatDoor
set_option linter.unusedVariables false
set_option linter.unusedSimpArgs false
open Go.RowKit
def parseS (R : Rw) (L : List Tk) (F f : Nat) : List St × Int × Int :=
 if isBad L = true then ([], (badOf L).2.1, 10)
 else if (rs R F f (.row []) 0 0).r = 0 then
  (if (rs R F f (.row []) 0 0).p = R.n then ((rs R F f (.row []) 0 0).l, R.ps (rs R F f (.row []) 0 0).p, 0) else ([], R.ps (rs R F f (.row []) 0 0).p, 11))
 else ([], R.ps (rs R F f (.row []) 0 0).p, (rs R F f (.row []) 0 0).r)
theorem bad_toks (bs : List Int) : isBad (toks bs 0) = isBad (live bs 0) ∧ badOf (toks bs 0) = badOf (live bs 0) := by
 unfold isBad badOf
 rw [bad_live]
 exact ⟨rfl, rfl⟩
def PaTo (X : List St × Int × Int) (w : World) (e : Ending) (w' : World) : Prop :=
 ∃ lv, e = .returned (.tuple #[lv, .int .i64 X.2.1, .int .i64 X.2.2]) ∧ ShS w' (fun b => w.heap.size ≤ b) lv X.1 ∧ Below w.heap.size w w'
set_option maxRecDepth 10000 in
theorem sparse_any (A : Option Addr) (n c : Nat) (bs : List Int) (w : World) (hx : Sh w w.heap.size A n (by8 bs)) (hb : Byt8 bs) (hn : n < 1000000) (hnc : n ≤ c) (hcm : c ≤ maxLen) (hv : Vars w) (F f : Nat) (hF : 16 * n + 9 ≤ F) (hf : 3 * n + 3 ≤ f) :
  CP 30 #[.slice A n c] w (PaTo (parseS (rowT (strOfNums bs) (live bs 0)) (live bs 0) F f) w) := by
 have hz := zeroTok
 have hl : bs.length = n := by have := hx.len; rwa [by8_len] at this
 have hvs := hv.size
 have htok : TokOk (strOfNums bs) (live bs 0) := live_ok (bts_str hb) (by omega)
 have hdig := live_dig (bts_str hb)
 have hll := live_len bs
 have htl := toks_len bs bs.length 0 (by omega)
 have hbt := bad_toks bs
 have HAL : Hid (CP 44 #[.slice A n c] w (ToksTo (toks bs 0) w)) := Lh (lexAll_any A n c bs w hx (by omega) hnc hcm)
 have HNW : Hid (∀ W, Below w.heap.size w W → CP 11 #[.slice A n c] W (NewTo bs W)) := Lh fun W hW => new_any A n c bs W ((hx.below hW).more hW.size) (by omega) hnc hcm (hv.under hW hvs)
 have HBD : Hid (∀ W A' m c', ShT W W.heap.size A' m (toks bs 0) → CP 56 #[.slice A' m c'] W (BadTo (live bs 0) W)) := Lh fun W A' m c' h => by
  have := bad_any A' m c' (toks bs 0) W h (by have := h.1; omega)
  unfold BadTo at this ⊢
  rw [hbt.1, hbt.2] at this
  exact this
 unfold NewTo at HNW
 obtain ⟨L, hL⟩ : ∃ L, live bs 0 = L := ⟨_, rfl⟩
 obtain ⟨T, hT⟩ : ∃ T, strOfNums bs = T := ⟨_, rfl⟩
 obtain ⟨K, hK⟩ : ∃ K, toks bs 0 = K := ⟨_, rfl⟩
 rw [hK] at HAL HBD
 rw [hL] at HBD hll
 rw [hL, hT] at HNW htok hdig ⊢
 obtain ⟨X, hX⟩ : ∃ X, parseS (rowT T L) L F f = X := ⟨_, rfl⟩
 rw [hX]
 have HX := Lh hX
 have HTK := Lh htok
 have HDG := Lh hdig
 clear hx hb hv hX htok hdig hL hT hK hbt htl
 cases hbd : isBad L with
 | true =>
  have HR : Hid (X = ([], (badOf L).2.1, 10)) := Lh (by rw [← HX.out]; unfold parseS; rw [if_pos hbd])
  clear HX HNW
  go_enter Tryz.func30, Tryz.ntmps30
  go_wp2_with (first
   | (go_at_call 44; refine HAL.out.mono ?_; rintro e w2 ⟨v2, rfl, ho2, b2⟩; obtain ⟨A2, c2, rfl⟩ := ho2.form; have HO2 := Lh ho2; have B2 := Lh b2; clear b2 ho2)
   | (go_at_call 56; refine (HBD.out _ _ _ _ (HO2.out.tok rfl)).mono ?_; rintro e w3 ⟨rfl, b3⟩; rw [hbd]; have B3 := Lh (bTr B2 b3); have hz3 := B3.out.size; clear b3; dsimp only)
   | fail)
  obtain ⟨W, hW⟩ : ∃ W, w3.alloc (.cells #[.int .i64 (badOf L).1, .int .i64 (badOf L).2.1, .int .i64 (badOf L).2.2] 90) = W := ⟨_, rfl⟩
  have c1 : W.cell? ⟨w3.heap.size, 1, none⟩ = some (.int .i64 (badOf L).2.1) := by rw [← hW, World.cell?_alloc_at _ _ _ _ rfl]; rfl
  have B4 := Lh (show Below w.heap.size w W by rw [← hW]; exact B3.out.alloc B3.out.size _)
  rw [hW]
  clear hW
  go_quiet (fail)
  go_wp2
  go_ret3
  rw [HR.out]
  exact ⟨_, rfl, .emp _ _, B4.out.trans (Quiet.below (a := W) ⟨_, rfl⟩ _)⟩
 | false =>
  obtain ⟨g, hg⟩ : ∃ g, rs (rowT T L) F f (.row []) 0 0 = g := ⟨_, rfl⟩
  have HR : Hid (X = if g.r = 0 then (if g.p = L.length then (g.l, (rowT T L).ps g.p, 0) else ([], (rowT T L).ps g.p, 11)) else ([], (rowT T L).ps g.p, g.r)) := Lh (by
   rw [← HX.out, ← hg]
   unfold parseS
   rw [if_neg (by rw [hbd]; decide)]
   rfl)
  have HRR : Hid (∀ m, EndsS (rowT T L) F 0 (dnRow (rowT T L)) (mc0 0) m → (g.r = 0 → m = ⟨g.l, [], g.p, 0⟩ ∧ endsB (rowT T L) m.p = true ∧ 0 ≤ m.p ∧ m.p ≤ (rowT T L).n) ∧ (¬ g.r = 0 → m.p = g.p ∧ m.r = g.r)) := Lh fun m hm => by
   rw [← hg]
   exact row_rs (row_ok T L) (by show 3 * (L.length - 0) + 3 ≤ f; omega) (Nat.zero_le _) hm
  clear HX hg
  go_enter Tryz.func30, Tryz.ntmps30
  go_wp2_with (first
   | (go_at_call 44; refine HAL.out.mono ?_; rintro e w2 ⟨v2, rfl, ho2, b2⟩; obtain ⟨A2, c2, rfl⟩ := ho2.form; have HO2 := Lh ho2; have B2 := Lh b2; clear b2 ho2)
   | (go_at_call 56; refine (HBD.out _ _ _ _ (HO2.out.tok rfl)).mono ?_; rintro e w3 ⟨rfl, b3⟩; rw [hbd]; have B3 := Lh (bTr B2 b3); have B4 := Lh (B3.out.alloc B3.out.size (.cells #[.int .i64 (badOf L).1, .int .i64 (badOf L).2.1, .int .i64 (badOf L).2.2] 90)); clear b3; dsimp only)
   | (go_at_call 11; refine (HNW.out _ B4.out).mono ?_; rintro e w4 ⟨C, rfl, rfl, rfl, hc, hb4, hg4, hAb⟩; refine Hid.out ?_)
   | fail)
  have HC := Lh hc
  have hgl : w.heap.size ≤ C.g := Nat.le_trans B4.out.size hg4
  have B5 := Lh (bTr B4 hb4)
  have HRW : Hid (∀ W, Cur C W 0 → CP 66 #[C.ptr, .int .i64 0] W (RowTo C F 0 0 W)) := Lh fun W h => row_any C HTK.out HDG.out (row_ok _ _) (by omega) F (by omega) 0 0 W h
  have HDN : Hid (∀ W p, Cur C W p → CP 57 #[C.ptr] W fun e w' => e = .returned (.bool (decide (p = C.L.length))) ∧ Quiet W w') := Lh fun W p h => done_any C HTK.out p W h
  have HPO : Hid (∀ W p, Cur C W p → CP 22 #[C.ptr] W fun e w' => e = .returned (.int .i64 (C.R.ps p)) ∧ Below W.heap.size W w') := Lh fun W p h => pos_any C HTK.out p W h
  have hptr : C.ptr = .pointer (some ⟨C.g, 0, none⟩) := rfl
  clear hc hb4 hg4 hAb HNW HAL HBD B2 B3 B4 HO2
  refine Lh ?_
  go_wp2_with (first
   | (go_at_call 66; refine (HRW.out _ HC.out).mono ?_; rintro e w5 ⟨m, lv, hm, rfl, hc5, hs5, hn5, ht5⟩; refine Hid.out ?_)
   | fail)
  obtain ⟨q1, q2⟩ := HRR.out m hm
  have HC5 := Lh hc5
  have B6 := Lh (show Below w.heap.size w w5 from B5.out.trans (ht5.below B5.out.size (fun k hk e => by omega)))
  by_cases hr : g.r = 0
  ·obtain ⟨rfl, _, _, hmn⟩ := q1 hr
   have HS5 := Lh ((hs5 rfl).weak (S' := fun b => w.heap.size ≤ b) fun b hb _ => Nat.le_trans B5.out.size hb)
   clear q1 q2 hm hs5 hn5 hc5 ht5 HRW HRR
   obtain ⟨A5, c5, rfl, hlc5⟩ := HS5.out.len
   dsimp only at HS5 HC5
   by_cases hp : g.p = C.L.length
   ·have hR2 : X = (g.l, C.R.ps g.p, 0) := by rw [HR.out, if_pos hr, if_pos hp]
    have HR2 := Lh hR2
    have hd : decide (g.p = C.L.length) = true := decide_eq_true hp
    clear HR hp hr hR2
    refine Lh ?_
    go_wp2_with (first
     | (go_at_call 57; refine (HDN.out _ _ HC5.out).mono ?_; rintro e w6 ⟨rfl, hq⟩; rw [hd]; have b := hq.below w5.heap.size; have HC6 := Lh (HC5.out.under b); have HS6 := Lh (HS5.out.under b); have B7 := Lh (bTr B6 b); clear b hq)
     | (go_at_call 22; refine (HPO.out _ _ HC6.out).mono ?_; rintro e w7 ⟨rfl, b⟩; have HS7 := Lh (HS6.out.under b); have B8 := Lh (bTr B7 b); clear b)
     | fail)
    go_ret3
    rw [HR2.out]
    exact ⟨_, rfl, HS7.out, B8.out⟩
   ·have hR2 : X = ([], C.R.ps g.p, 11) := by rw [HR.out, if_pos hr, if_neg hp]
    have HR2 := Lh hR2
    have hd : decide (g.p = C.L.length) = false := decide_eq_false hp
    clear HR hp hr hR2
    refine Lh ?_
    go_wp2_with (first
     | (go_at_call 57; refine (HDN.out _ _ HC5.out).mono ?_; rintro e w6 ⟨rfl, hq⟩; rw [hd]; have b := hq.below w5.heap.size; have HC6 := Lh (HC5.out.under b); have B7 := Lh (bTr B6 b); clear b hq)
     | (go_at_call 22; refine (HPO.out _ _ HC6.out).mono ?_; rintro e w7 ⟨rfl, b⟩; have B8 := Lh (bTr B7 b); clear b)
     | fail)
    go_ret3
    rw [HR2.out]
    exact ⟨_, rfl, .emp _ _, B8.out⟩
  ·obtain ⟨hmp, hmr⟩ := q2 hr
   have hlv := hn5 (by rw [hmr]; exact hr)
   subst hlv
   have hR2 : X = ([], C.R.ps g.p, g.r) := by rw [HR.out, if_neg hr]
   have HR2 := Lh hR2
   obtain ⟨mr, mo, mp, mrr⟩ := m
   dsimp only at hmp hmr HC5
   subst hmp hmr
   have hr1 : (g.r == 0) = false := by simp [hr]
   have hr2 : decide (g.r = 0) = false := by simp [hr]
   clear q1 q2 hm hs5 hn5 hc5 ht5 HRW HRR HR hR2
   refine Lh ?_
   go_wp2_with (first
    | (go_at_call 22; refine (HPO.out _ _ HC5.out).mono ?_; rintro e w7 ⟨rfl, b⟩; have B8 := Lh (bTr B6 b); clear b)
    | fail)
   go_ret3
   rw [HR2.out]
   exact ⟨_, rfl, .emp _ _, B8.out⟩
def ex9 : List Int := [108, 101, 116, 32, 120, 58, 32, 105, 110, 116, 32, 64, 108, 111, 119, 32, 61, 32, 49, 59]
abbrev L9 : List Tk := [(2, 0, 3), (2, 4, 5), (4, 5, 6), (2, 7, 10), (4, 11, 12), (2, 12, 15), (4, 16, 17), (3, 18, 19), (4, 19, 20)]
theorem live_ex9 : live ex9 0 = L9 := by
 unfold live ex9
 simp [toks_at, toks_end, tk, tl, kd, goes, runB, pairsL, pairB, lv]
abbrev R9 : Rw := rowT (strOfNums ex9) L9
theorem v0 : R9.wd 0 = ⟨#[108, 101, 116]⟩ := by rfl
theorem v1 : R9.wd 1 = ⟨#[120]⟩ := by rfl
theorem v2 : R9.wd 2 = ⟨#[58]⟩ := by rfl
theorem v3 : R9.wd 3 = ⟨#[105, 110, 116]⟩ := by rfl
theorem v4 : R9.wd 4 = ⟨#[64]⟩ := by rfl
theorem v5 : R9.wd 5 = ⟨#[108, 111, 119]⟩ := by rfl
theorem v6 : R9.wd 6 = ⟨#[61]⟩ := by rfl
theorem v7 : R9.wd 7 = ⟨#[49]⟩ := by rfl
theorem v8 : R9.wd 8 = ⟨#[59]⟩ := by rfl
theorem v9 : R9.wd 9 = ⟨#[]⟩ := by rfl
theorem idb_low : idB ⟨#[108, 111, 119]⟩ = true := by
 simp [idB, kwB, kws, ByteArray.toList_eq, identL, bts, kd]
 decide
theorem ex9_7 (F : Nat) : rd R9 (F + 20) (.lev 1) 7 0 = good (eNum 18 1) 8 := by
 have h6 : rd R9 (F + 15) (.lev 6) 7 0 = good (eNum 18 1) 8 := by
  rw [low_pr (f := F + 13) (by rw [isT R9 7 [49] _ v7 rfl, isT R9 7 [49] _ v7 rfl]; decide), rd_pr_num (by rfl)]
  rw [numG_some (show numB (R9.wd 7) = some 1 by rw [v7]; decide)]
  rfl
 have hs : ∀ l, sgnL l (R9.wd 8) = false := fun l => sgn_no (by rw [v8, ByteArray.toList_eq]; decide)
 exact up_good (up_good (up_good (up_good (up_good h6 (by omega) (hs _) (by omega)) (by omega) (hs _) (by omega)) (by omega) (hs _) (by omega)) (by omega) (hs _) (by omega)) (by omega) (hs _) (by omega)
abbrev s9 : St := .mk 0 0 ⟨#[120]⟩ 0 ⟨true, false, ⟨#[108, 111, 119]⟩, 12, 15⟩ (eNum 18 1) [] []
theorem hd9 (F : Nat) : hdS R9 (F + 20) 0 = (s9, 9, 0) := by
 unfold hdS
 rw [if_pos (by rw [isT R9 0 _ _ v0 rfl]; decide)]
 unfold letS
 have e1 : mu R9 (0, 0) [wLet] = (1, 0) := muz_yes (by rw [isT R9 0 _ _ v0 rfl]; decide)
 have e2 : pnm R9 (1, 0) = (⟨#[120]⟩, 2, 0) := by
  unfold pnm nmS
  rw [if_pos rfl, if_pos (show R9.idn 1 = true by show idB (R9.wd 1) = true; rw [v1]; exact idb_x), v1]
 have e3 : mu R9 (2, 0) [wCol] = (3, 0) := muz_yes (by rw [isT R9 2 _ _ v2 rfl]; decide)
 have e4 : pty R9 (3, 0) = (0, 4, 0) := by
  unfold pty tyS
  rw [if_pos rfl, if_pos (by rw [isT R9 3 _ _ v3 rfl]; decide)]
 have e5 : pmk R9 (4, 0) = (⟨true, false, ⟨#[108, 111, 119]⟩, 12, 15⟩, 6, 0) := by
  unfold pmk markS
  rw [if_pos rfl, if_pos (by rw [isT R9 4 _ _ v4 rfl, isT R9 4 _ _ v4 rfl]; decide), if_pos (show R9.idn 5 = true by show idB (R9.wd 5) = true; rw [v5]; exact idb_low), isT R9 4 _ _ v4 rfl, v5]
  rfl
 have e6 : mu R9 (6, 0) [wEq] = (7, 0) := muz_yes (by rw [isT R9 6 _ _ v6 rfl]; decide)
 have e7 : pex R9 (F + 20) (7, 0) = (eNum 18 1, 8, 0) := by
  unfold pex exS
  rw [if_pos rfl, ex9_7 F]
  rfl
 have e8 : mu R9 (8, 0) [wSem] = (9, 0) := muz_yes (by rw [isT R9 8 _ _ v8 rfl]; decide)
 rw [e1, e2]
 dsimp only
 rw [e3, e4]
 dsimp only
 rw [e5]
 dsimp only
 rw [e6, e7]
 dsimp only
 rw [e8]
 rfl
theorem parse9 : parseS (rowT (strOfNums ex9) (live ex9 0)) (live ex9 0) 1020 100 = ([s9], 20, 0) := by
 rw [live_ex9]
 have hst : rs R9 1020 99 .st 0 0 = goods s9 [] 9 := by
  rw [rs_st (f := 98), hd9 1000]
  rfl
 have h1 : rs R9 1020 100 (.row []) 0 0 = goods St.nul [s9] 9 := by
  rw [rs_row (f := 99), if_neg (by unfold endsB; rw [isT R9 0 _ _ v0 rfl, isT R9 0 _ _ v0 rfl]; decide), hst]
  show rs R9 1020 99 (.row [s9]) 9 0 = _
  rw [rs_row (f := 98), if_pos (by unfold endsB; rw [isT R9 9 _ _ v9 rfl, isT R9 9 _ _ v9 rfl]; decide)]
 unfold parseS
 rw [if_neg (by decide), h1]
 rfl
theorem ex9_byt : Byt8 ex9 := fun x hx => by simp [ex9] at hx; omega
set_option maxRecDepth 100000 in
theorem awake9_any (w : World) (hv : Vars w) : CP 9 #[] w fun e w' => e = .returned (.bool true) ∧ Below w.heap.size w w' := by
 have hvs := hv.size
 obtain ⟨wl, hcv, hx, hb⟩ := convC (w := w) (B := w.heap.size) ex9 20 rfl nLe
 have hm := sparse_any _ 20 20 ex9 wl hx ex9_byt (by omega) (by omega) (by unfold maxLen; omega) (hv.under hb hvs) 1020 100 (by omega) (by omega)
 rw [parse9] at hm
 have HM := Lh hm
 have HB := Lh hb
 simp only [by8, List.map, ex9] at hcv
 clear hm hb hx hv
 go_enter Tryz.func9, Tryz.ntmps9
 go_wp2_with (first
  | (go_at_call 30; refine HM.out.mono ?_; rintro e w2 ⟨lv, rfl, hs2, hb2⟩; have HS2 := Lh hs2; have HB2 := Lh (bTr HB hb2); clear hs2 hb2; dsimp only; refine Hid.out ?_)
  | fail)
 obtain ⟨A2, c2, rfl, _⟩ := HS2.out.len
 have hl2 : (([s9], ((20 : Int), (0 : Int))) : List St × Int × Int).1.length = 1 := rfl
 rw [hl2] at HS2 ⊢
 obtain ⟨b, off, x, tv, rfl, hx, _, hrange, _, _, hbl⟩ := HS2.out.at (j := 0) (by show 0 < 1; omega)
 obtain rfl : x = s9 := (Option.some.inj (show some s9 = some x from hx)).symm
 have k0 := hrange 0 _ rfl
 have k4 := hrange 4 _ rfl
 have k7 := hrange 7 _ rfl
 have k8 := hrange 8 _ rfl
 have k11 := hrange 11 _ rfl
 simp only [Nat.zero_mul, Nat.add_zero] at k0 k4 k7 k8 k11
 have k0 : w2.cell? ⟨b, off, none⟩ = some (.int .i64 0) := k0
 have k4 : w2.cell? ⟨b, off + 4, none⟩ = some (.bool true) := k4
 have k7 : w2.cell? ⟨b, off + 7, none⟩ = some (.int .i64 12) := k7
 have k8 : w2.cell? ⟨b, off + 8, none⟩ = some (.int .i64 15) := k8
 have k11 : w2.cell? ⟨b, off + 11, none⟩ = some (.int .i64 1) := k11
 clear hrange hx HS2
 refine Lh ?_
 go_wp2_with fail
 go_ret
 exact ⟨rfl, HB2.out⟩
end Go.Proofs.YtmnggldejflooaaGreatDoor
