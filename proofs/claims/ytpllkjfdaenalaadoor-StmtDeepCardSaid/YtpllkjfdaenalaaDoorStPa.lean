/-
  CONTRACT OF stmt.Parse.
-/
import Derived.Test.YtpllkjfdaenalaaDoorMSy
import Derived.Test.YtpllkjfdaenalaaDoorMSz
import Derived.BigQuiet
namespace Go.Proofs.YtpllkjfdaenalaaDoor
set_option linter.unusedVariables false
set_option linter.unusedSimpArgs false
open Go.RowKit

/-- What Parse says of a text: statements, a place, an error. -/
def parseS (R : Rw) (L : List Tk) (F f : Nat) : List St × Int × Int :=
  if isBad L = true then ([], (badOf L).2.1, 10)
  else if (rs R F f (.row []) 0 0).r = 0 then
    (if (rs R F f (.row []) 0 0).p = R.n then ((rs R F f (.row []) 0 0).l, R.ps (rs R F f (.row []) 0 0).p, 0) else ([], R.ps (rs R F f (.row []) 0 0).p, 11))
  else ([], R.ps (rs R F f (.row []) 0 0).p, (rs R F f (.row []) 0 0).r)
theorem bad_toks (bs : List Int) : isBad (toks bs 0) = isBad (live bs 0) ∧ badOf (toks bs 0) = badOf (live bs 0) := by
  unfold isBad badOf
  rw [bad_live]
  exact ⟨rfl, rfl⟩
def PaTo (X : List St × Int × Int) (w : World) (e : Ending) (w' : World) : Prop :=
  ∃ lv, e = .returned (.tuple #[lv, .int .i64 X.2.1, .int .i64 X.2.2]) ∧ ShS w' (fun b => w.heap.size ≤ b) lv X.1 ∧ Below w.heap.size w w'
set_option maxRecDepth 10000 in
set_option maxHeartbeats 1600000 in
theorem sparse_any (A : Option Addr) (n c : Nat) (bs : List Int) (w : World) (hx : Sh w w.heap.size A n (by8 bs)) (hb : Byt8 bs) (hn : n < 1000000) (hnc : n ≤ c) (hcm : c ≤ maxLen) (hv : Vars w) (F f : Nat) (hF : 16 * n + 9 ≤ F) (hf : 3 * n + 3 ≤ f) :
    Calls Tryd.prog 6 #[.slice A n c] w (PaTo (parseS (rowT (strOfNums bs) (live bs 0)) (live bs 0) F f) w) := by
  have hz := zeroTok
  have hl : bs.length = n := by have := hx.len; rwa [by8_len] at this
  have hvs := hv.size
  have htok : TokOk (strOfNums bs) (live bs 0) := live_ok (bts_str hb) (by omega)
  have hdig := live_dig (bts_str hb)
  have hll := live_len bs
  have htl := toks_len bs bs.length 0 (by omega)
  have hbt := bad_toks bs
  have HAL : Hid (Calls Tryd.prog 14 #[.slice A n c] w (ToksTo (toks bs 0) w)) := Lib.hid (lexAll_any A n c bs w hx (by omega) hnc hcm)
  have HNW : Hid (∀ W, Below w.heap.size w W → Calls Tryd.prog 15 #[.slice A n c] W (NewTo bs W)) := Lib.hid fun W hW => new_any A n c bs W ((hx.below hW).more hW.size) (by omega) hnc hcm (hv.under hW hvs)
  have HBD : Hid (∀ W A' m c', ShT W W.heap.size A' m (toks bs 0) → Calls Tryd.prog 13 #[.slice A' m c'] W (BadTo (live bs 0) W)) := Lib.hid fun W A' m c' h => by
    have := bad_any A' m c' (toks bs 0) W h (by have := h.1; omega)
    unfold BadTo at this ⊢
    rw [hbt.1, hbt.2] at this
    exact this
  unfold NewTo at HNW
  obtain ⟨L, hL⟩ : ∃ L, live bs 0 = L := ⟨_, rfl⟩
  obtain ⟨T, hT⟩ : ∃ T, strOfNums bs = T := ⟨_, rfl⟩
  obtain ⟨K, hK⟩ : ∃ K, toks bs 0 = K := ⟨_, rfl⟩
  rw [hK] at HAL HBD
  rw [hL] at HBD hll
  rw [hL, hT] at HNW htok hdig ⊢
  obtain ⟨X, hX⟩ : ∃ X, parseS (rowT T L) L F f = X := ⟨_, rfl⟩
  rw [hX]
  have HX := Lib.hid hX
  have HTK := Lib.hid htok
  have HDG := Lib.hid hdig
  clear hx hb hv hX htok hdig hL hT hK hbt htl
  cases hbd : isBad L with
  | true =>
    have HR : Hid (X = ([], (badOf L).2.1, 10)) := Lib.hid (by rw [← HX.out]; unfold parseS; rw [if_pos hbd])
    clear HX HNW
    go_enter Tryd.func6, Tryd.ntmps6
    go_wp2_with (first
      | (go_at_call 14; refine HAL.out.mono ?_; rintro e w2 ⟨v2, rfl, ho2, b2⟩; obtain ⟨A2, c2, rfl⟩ := ho2.form; have HO2 := Lib.hid ho2; have B2 := Lib.hid b2; clear b2 ho2)
      | (go_at_call 13; refine (HBD.out _ _ _ _ (HO2.out.tok rfl)).mono ?_; rintro e w3 ⟨rfl, b3⟩; rw [hbd]; have B3 := Lib.hid (B2.out.trans (b3.mono B2.out.size)); have hz3 := B3.out.size; clear b3; dsimp only)
      | fail)
    obtain ⟨W, hW⟩ : ∃ W, w3.alloc (.cells #[.int .i64 (badOf L).1, .int .i64 (badOf L).2.1, .int .i64 (badOf L).2.2] 48) = W := ⟨_, rfl⟩
    have c1 : W.cell? ⟨w3.heap.size, 1, none⟩ = some (.int .i64 (badOf L).2.1) := by rw [← hW, World.cell?_alloc_at _ _ _ _ rfl]; rfl
    have B4 := Lib.hid (show Below w.heap.size w W by rw [← hW]; exact B3.out.alloc B3.out.size _)
    rw [hW]
    clear hW
    go_quiet (fail)
    go_wp2
    go_ret3
    rw [HR.out]
    exact ⟨_, rfl, .emp _ _, B4.out.trans (Quiet.below (a := W) ⟨_, rfl⟩ _)⟩
  | false =>
    obtain ⟨g, hg⟩ : ∃ g, rs (rowT T L) F f (.row []) 0 0 = g := ⟨_, rfl⟩
    have HR : Hid (X = if g.r = 0 then (if g.p = L.length then (g.l, (rowT T L).ps g.p, 0) else ([], (rowT T L).ps g.p, 11)) else ([], (rowT T L).ps g.p, g.r)) := Lib.hid (by
      rw [← HX.out, ← hg]
      unfold parseS
      rw [if_neg (by rw [hbd]; decide)]
      rfl)
    have HRR : Hid (∀ m, EndsS (rowT T L) F 0 (dnRow (rowT T L)) (mc0 0) m → (g.r = 0 → m = ⟨g.l, [], g.p, 0⟩ ∧ endsB (rowT T L) m.p = true ∧ 0 ≤ m.p ∧ m.p ≤ (rowT T L).n) ∧ (¬ g.r = 0 → m.p = g.p ∧ m.r = g.r)) := Lib.hid fun m hm => by
      rw [← hg]
      exact row_rs (row_ok T L) (by show 3 * (L.length - 0) + 3 ≤ f; omega) (Nat.zero_le _) hm
    clear HX hg
    go_enter Tryd.func6, Tryd.ntmps6
    go_wp2_with (first
      | (go_at_call 14; refine HAL.out.mono ?_; rintro e w2 ⟨v2, rfl, ho2, b2⟩; obtain ⟨A2, c2, rfl⟩ := ho2.form; have HO2 := Lib.hid ho2; have B2 := Lib.hid b2; clear b2 ho2)
      | (go_at_call 13; refine (HBD.out _ _ _ _ (HO2.out.tok rfl)).mono ?_; rintro e w3 ⟨rfl, b3⟩; rw [hbd]; have B3 := Lib.hid (B2.out.trans (b3.mono B2.out.size)); have B4 := Lib.hid (B3.out.alloc B3.out.size (.cells #[.int .i64 (badOf L).1, .int .i64 (badOf L).2.1, .int .i64 (badOf L).2.2] 48)); clear b3; dsimp only)
      | (go_at_call 15; refine (HNW.out _ B4.out).mono ?_; rintro e w4 ⟨C, rfl, rfl, rfl, hc, hb4, hg4, hAb⟩; refine Hid.out ?_)
      | fail)
    have HC := Lib.hid hc
    have hgl : w.heap.size ≤ C.g := Nat.le_trans B4.out.size hg4
    have B5 := Lib.hid (B4.out.trans (hb4.mono B4.out.size))
    have HRW : Hid (∀ W, Cur C W 0 → Calls Tryd.prog 12 #[C.ptr, .int .i64 0] W (RowTo C F 0 0 W)) := Lib.hid fun W h => row_any C HTK.out HDG.out (row_ok _ _) (by omega) F (by omega) 0 0 W h
    have HDN : Hid (∀ W p, Cur C W p → Calls Tryd.prog 16 #[C.ptr] W fun e w' => e = .returned (.bool (decide (p = C.L.length))) ∧ Quiet W w') := Lib.hid fun W p h => done_any C HTK.out p W h
    have HPO : Hid (∀ W p, Cur C W p → Calls Tryd.prog 17 #[C.ptr] W fun e w' => e = .returned (.int .i64 (C.R.ps p)) ∧ Below W.heap.size W w') := Lib.hid fun W p h => pos_any C HTK.out p W h
    have hptr : C.ptr = .pointer (some ⟨C.g, 0, none⟩) := rfl
    clear hc hb4 hg4 hAb HNW HAL HBD B2 B3 B4 HO2
    refine Lib.hid ?_
    go_wp2_with (first
      | (go_at_call 12; refine (HRW.out _ HC.out).mono ?_; rintro e w5 ⟨m, lv, hm, rfl, hc5, hs5, hn5, ht5⟩; refine Hid.out ?_)
      | fail)
    obtain ⟨q1, q2⟩ := HRR.out m hm
    have HC5 := Lib.hid hc5
    have B6 := Lib.hid (show Below w.heap.size w w5 from B5.out.trans (ht5.below B5.out.size (fun k hk e => by omega)))
    by_cases hr : g.r = 0
    · obtain ⟨rfl, _, _, hmn⟩ := q1 hr
      have HS5 := Lib.hid ((hs5 rfl).weak (S' := fun b => w.heap.size ≤ b) fun b hb _ => Nat.le_trans B5.out.size hb)
      clear q1 q2 hm hs5 hn5 hc5 ht5 HRW HRR
      obtain ⟨A5, c5, rfl, hlc5⟩ := HS5.out.len
      dsimp only at HS5 HC5
      by_cases hp : g.p = C.L.length
      · have hR2 : X = (g.l, C.R.ps g.p, 0) := by rw [HR.out, if_pos hr, if_pos hp]
        have HR2 := Lib.hid hR2
        have hd : decide (g.p = C.L.length) = true := decide_eq_true hp
        clear HR hp hr hR2
        refine Lib.hid ?_
        go_wp2_with (first
          | (go_at_call 16; refine (HDN.out _ _ HC5.out).mono ?_; rintro e w6 ⟨rfl, hq⟩; rw [hd]; have b := hq.below w5.heap.size; have HC6 := Lib.hid (HC5.out.under b); have HS6 := Lib.hid (HS5.out.under b); have B7 := Lib.hid (B6.out.trans (b.mono B6.out.size)); clear b hq)
          | (go_at_call 17; refine (HPO.out _ _ HC6.out).mono ?_; rintro e w7 ⟨rfl, b⟩; have HS7 := Lib.hid (HS6.out.under b); have B8 := Lib.hid (B7.out.trans (b.mono B7.out.size)); clear b)
          | fail)
        go_ret3
        rw [HR2.out]
        exact ⟨_, rfl, HS7.out, B8.out⟩
      · have hR2 : X = ([], C.R.ps g.p, 11) := by rw [HR.out, if_pos hr, if_neg hp]
        have HR2 := Lib.hid hR2
        have hd : decide (g.p = C.L.length) = false := decide_eq_false hp
        clear HR hp hr hR2
        refine Lib.hid ?_
        go_wp2_with (first
          | (go_at_call 16; refine (HDN.out _ _ HC5.out).mono ?_; rintro e w6 ⟨rfl, hq⟩; rw [hd]; have b := hq.below w5.heap.size; have HC6 := Lib.hid (HC5.out.under b); have B7 := Lib.hid (B6.out.trans (b.mono B6.out.size)); clear b hq)
          | (go_at_call 17; refine (HPO.out _ _ HC6.out).mono ?_; rintro e w7 ⟨rfl, b⟩; have B8 := Lib.hid (B7.out.trans (b.mono B7.out.size)); clear b)
          | fail)
        go_ret3
        rw [HR2.out]
        exact ⟨_, rfl, .emp _ _, B8.out⟩
    · obtain ⟨hmp, hmr⟩ := q2 hr
      have hlv := hn5 (by rw [hmr]; exact hr)
      subst hlv
      have hR2 : X = ([], C.R.ps g.p, g.r) := by rw [HR.out, if_neg hr]
      have HR2 := Lib.hid hR2
      obtain ⟨mr, mo, mp, mrr⟩ := m
      dsimp only at hmp hmr HC5
      subst hmp hmr
      have hr1 : (g.r == 0) = false := by simp [hr]
      have hr2 : decide (g.r = 0) = false := by simp [hr]
      clear q1 q2 hm hs5 hn5 hc5 ht5 HRW HRR HR hR2
      refine Lib.hid ?_
      go_wp2_with (first
        | (go_at_call 17; refine (HPO.out _ _ HC5.out).mono ?_; rintro e w7 ⟨rfl, b⟩; have B8 := Lib.hid (B6.out.trans (b.mono B6.out.size)); clear b)
        | fail)
      go_ret3
      rw [HR2.out]
      exact ⟨_, rfl, .emp _ _, B8.out⟩
end Go.Proofs.YtpllkjfdaenalaaDoor
