/-
  blazonlaw07.SpanPlaces is true for every input: each byte that no edit takes stands behind them at the place that is told.
  Conditions: none beyond the statement's own (package-level variables start as the program's text lays them).
-/
import Derived.Test.YtopeechbgblndaaDoorSpW
import Derived.Test.YtopeechbgblndaaDoorSpP
import Derived.Test.YtopeechbgblndaaDoorSpG
import Derived.Test.YtopeechbgblndaaDoorSpD
import Derived.Test.YtopeechbgblndaaDoorSpO
import Derived.Test.YtopeechbgblndaaDoorHeld
namespace Go.Proofs.YtopeechbgblndaaDoor
set_option linter.unusedVariables false
set_option linter.unusedSimpArgs false
open Go.RowKit

theorem spanPlaces_long (A P : Option Addr) (n c m d : Nat) (L : List Ed) (w : World) (h : 500 < n) (hn : n ≤ maxLen) :
    Calls Tryd.prog 5 #[.slice A n c, .slice P m d] w fun e w' => e = .returned (.bool true) ∧ Below w.heap.size w w' := by
  unfold maxLen at hn
  have h' : (500 : Int) < (n : Int) := by omega
  go_enter Tryd.func5, Tryd.ntmps5
  go_wp2_with (first
    | (go_at_call 9; refine (awake_any _).mono ?_; rintro e w1 ⟨rfl, b1⟩)
    | fail)
  go_ret
  exact ⟨rfl, b1⟩

theorem spanPlaces_great (A P : Option Addr) (n c m d : Nat) (L : List Ed) (w : World) (h : ¬ 500 < n) (hx : ShE w w.heap.size P m L) (hm : m ≤ maxLen) (hs : ∀ x ∈ L, x.2.2.length ≤ maxLen) (hg : greatB L = true) :
    Calls Tryd.prog 5 #[.slice A n c, .slice P m d] w fun e w' => e = .returned (.bool true) ∧ Below w.heap.size w w' := by
  have h' : ¬ (500 : Int) < (n : Int) := by omega
  have HG := great_any P m d L w hx hm hs
  rw [hg] at HG
  have HG := Lib.hid HG
  clear hg hs hx
  go_enter Tryd.func5, Tryd.ntmps5
  go_wp2_with (first
    | (go_at_call 8; refine HG.out.mono ?_; rintro e w1 ⟨rfl, rfl⟩)
    | (go_at_call 9; refine (awake_any _).mono ?_; rintro e w1 ⟨rfl, b1⟩)
    | fail)
  go_ret
  exact ⟨rfl, b1⟩

/-- Is place i taken by one of the first k edits? -/
noncomputable def takB (i : Int) (L : List Ed) : Bool := L.any fun x => decide (x.1 ≤ i) && decide (i < x.2.1)
theorem takB_iff (i : Int) (L : List Ed) : takB i L = true ↔ takenE i L := by
  unfold takB takenE
  rw [List.any_eq_true]
  simp only [Bool.and_eq_true, decide_eq_true_eq]
theorem takB_snoc (i : Int) (L : List Ed) (x : Ed) : takB i (L ++ [x]) = (takB i L || (decide (x.1 ≤ i) && decide (i < x.2.1))) := by simp [takB]

set_option maxRecDepth 10000 in
set_option maxHeartbeats 8000000 in
theorem spanPlaces_small (A P : Option Addr) (n c m d : Nat) (bs : List Int) (L : List Ed) (w : World) (h : ¬ 500 < n) (hb : Sh w w.heap.size A n (by8 bs)) (hnc : n ≤ c) (hcm : c ≤ maxLen) (hcA : c = 0 ∨ ∃ b off, A = some ⟨b, off, none⟩) (hx : ShE w w.heap.size P m L) (hm : m ≤ maxLen) (hby : BytE L) (hg : greatB L = false) :
    Calls Tryd.prog 5 #[.slice A n c, .slice P m d] w fun e w' => e = .returned (.bool true) ∧ Below w.heap.size w w' := by
  have h' : ¬ (500 : Int) < (n : Int) := by omega
  have hlb : bs.length = n := by have := hb.len; rwa [by8_len] at this
  have hl : L.length = m := hx.1
  obtain ⟨hL6, hs⟩ := great_no hg
  have HG := great_any P m d L w hx hm (fun x hx => Nat.le_trans (hs x hx) (by decide))
  rw [hg] at HG
  have HG := Lib.hid HG
  have hm6 : m ≤ 600 := by omega
  have HS := Lib.hid hs
  have HLB := Lib.hid hlb
  have HL := Lib.hid hl
  have HX := Lib.hid (fun w' (b : Below w.heap.size w w') => hx.up b (Nat.le_refl _))
  have HBB := Lib.hid (fun w' (b : Below w.heap.size w w') => hb.below b)
  have HAP : Hid (∀ w1, Below w.heap.size w w1 → Calls Tryd.prog 11 #[.slice A n c, .slice P m d] w1 (ApTo n bs L w1)) := Lib.hid fun w1 b => apply_any A P n c m d bs L w1 ((HBB.out w1 b).more b.size) ((HX.out w1 b).more b.size) (by omega) hnc hcm hcA hm6 (fun x hx => Nat.le_trans (hs x hx) (by decide)) hby
  unfold maxLen at hcm
  obtain ⟨ck, hck⟩ : ∃ ck, chk n L = ck := ⟨_, rfl⟩
  have HK := Lib.hid hck
  clear hg hs hlb hby hx hb hL6 hl hm hck hcA
  have B0 := Lib.hid (Below.refl w.heap.size w)
  by_cases h0 : ck = 0
  · subst h0
    have hse : (0 != 0) = false := rfl
    go_enter Tryd.func5, Tryd.ntmps5
    go_wp2_with (first
      | (go_at_call 8; refine HG.out.mono ?_; rintro e w1 ⟨rfl, rfl⟩)
      | (go_at_call 12; refine (rcheck_any P n m d L _ ((HX.out _ B0.out).more B0.out.size) (by omega) (by omega)).mono ?_; rw [HK.out]; rintro e w3 ⟨rfl, q3⟩; have B3 := Lib.hid (B0.out.trans (q3.below _)); clear q3)
      | fail)
    refine (HAP.out w3 B3.out).mono ?_
    intro e w2 h2
    unfold ApTo at h2
    rw [HK.out, if_pos rfl] at h2
    obtain ⟨v2, rfl, ho2, b2⟩ := h2
    obtain ⟨A2, c2, rfl⟩ := ho2.form
    have B2 := Lib.hid (B3.out.trans (b2.mono B3.out.size))
    have O2 := Lib.hid ho2.sh
    have hlen := appl_len_le 200 bs L 0 HS.out
    have hlen2 : (appl bs 0 L).length ≤ 420500 := by
      rw [HLB.out, HL.out] at hlen
      have h1 : n * (m + 1) ≤ 500 * 601 := Nat.mul_le_mul (by omega) (by omega)
      have h2 : 200 * m ≤ 200 * 600 := Nat.mul_le_mul (Nat.le_refl _) hm6
      omega
    have HEB := Lib.hid (EdB_of HK.out (fun x hx => Nat.le_trans (HS.out x hx) (by decide : 200 ≤ 1000)))
    have HW := Lib.hid (WOk_zero (chk_zero HK.out).2)
    have HPA : Hid (∀ i : Nat, i < n → ¬ takenE i L → 0 ≤ (i : Int) + shiftE i L ∧ (appl bs 0 L)[((i : Int) + shiftE i L).toNat]? = bs[i]?) := Lib.hid fun i hi ht => by
      have := place_at bs L 0 0 [] i (by rw [HLB.out]; exact HW.out) (Int.le_refl _) rfl (by omega) (by rw [HLB.out]; exact hi) ht
      rw [List.nil_append, show (i : Int) + 0 + shiftE i L = (i : Int) + shiftE i L by omega] at this
      exact ⟨this.1, this.2.2⟩
    have HPR : Hid (∀ i j : Nat, i < j → j < n → ¬ takenE i L → ¬ takenE j L → (i : Int) + shiftE i L < (j : Int) + shiftE j L) := Lib.hid fun i j hij hj ti tj => by
      have := place_rise bs L 0 0 [] i j (by rw [HLB.out]; exact HW.out) (Int.le_refl _) rfl (by omega) hij (by rw [HLB.out]; exact hj) ti tj
      omega
    clear ho2 b2 hlen HAP
    obtain ⟨cc, hcc⟩ : ∃ cc, appl bs 0 L = cc := ⟨_, rfl⟩
    rw [hcc] at hlen2 O2 HPA ⊢
    clear hcc
    obtain ⟨aL, haL⟩ : ∃ aL, cc.length = aL := ⟨_, rfl⟩
    have HAL := Lib.hid haL
    rw [haL] at hlen2 O2 ⊢
    clear haL
    go_wp2
    go_loopw [7, 8] (fun l i wr => ∃ (k : Nat) (z : Int), i = .int .i64 (k : Int) ∧ l = .int .i64 z ∧ k ≤ n ∧ -1 ≤ z ∧ z ≤ 420500 ∧ (z = -1 ∨ ∃ j, j < k ∧ ¬ takenE j L ∧ z = (j : Int) + shiftE j L) ∧ Below w2.heap.size w2 wr) (fun _ i _ => n - (intOf i).toNat)
    case atStart => exact ⟨0, -1, rfl, rfl, Nat.zero_le _, by omega, by omega, .inl rfl, Below.refl _ _⟩
    case round =>
      obtain ⟨i, z, rfl, rfl, hi, hz0, hz1, hzz, hbr⟩ := hrel
      have BR := Lib.hid (B2.out.trans (hbr.mono B2.out.size))
      have OR := Lib.hid (O2.out.up hbr (Nat.le_refl _))
      have HBR := Lib.hid hbr
      have HZ := Lib.hid hzz
      clear hbr hzz
      by_cases hlt : i < n
      · go_wp2
        obtain ⟨wa, hwa⟩ : ∃ wa, wa = wr := ⟨_, rfl⟩
        rw [← hwa] at BR OR HBR ⊢
        clear hwa
        go_loopw [9, 10] (fun tk j wq => ∃ (k : Nat), j = .int .i64 (k : Int) ∧ tk = .bool (takB i (L.take k)) ∧ k ≤ m ∧ wq = wa) (fun _ j _ => m - (intOf j).toNat)
        case atStart => exact ⟨0, rfl, rfl, Nat.zero_le _, rfl⟩
        case round =>
          obtain ⟨k, rfl, rfl, hk, rfl⟩ := hrel
          by_cases hkm : k < m
          · obtain ⟨b, off, x, rfl, hbb, hx, c0, c1, c2'⟩ := (HX.out _ BR.out).at hkm
            have HT := Lib.hid (takB_snoc i (L.take k) x)
            have HS2 := Lib.hid (take_snocE L k x hx)
            obtain ⟨tb, htb⟩ : ∃ tb, takB i (L.take k) = tb := ⟨_, rfl⟩
            rw [htb] at HT ⊢
            clear htb hx
            have hcase : (tb = true ∧ takB i (L.take k ++ [x]) = true) ∨ (tb = false ∧ ¬ x.1 ≤ (i : Int) ∧ takB i (L.take k ++ [x]) = false) ∨ (tb = false ∧ x.1 ≤ (i : Int) ∧ (i : Int) < x.2.1 ∧ takB i (L.take k ++ [x]) = true) ∨ (tb = false ∧ x.1 ≤ (i : Int) ∧ ¬ (i : Int) < x.2.1 ∧ takB i (L.take k ++ [x]) = false) := by
              rw [HT.out]
              cases tb with
              | true => exact .inl ⟨rfl, rfl⟩
              | false =>
                by_cases h1 : x.1 ≤ (i : Int)
                · by_cases h2 : (i : Int) < x.2.1
                  · exact .inr (.inr (.inl ⟨rfl, h1, h2, by rw [decide_eq_true h1, decide_eq_true h2]; rfl⟩))
                  · exact .inr (.inr (.inr ⟨rfl, h1, h2, by rw [decide_eq_true h1, decide_eq_false h2]; rfl⟩))
                · exact .inr (.inl ⟨rfl, h1, by rw [decide_eq_false h1]; rfl⟩)
            rcases hcase with ⟨rfl, e⟩ | ⟨rfl, h1, e⟩ | ⟨rfl, h1, h2, e⟩ | ⟨rfl, h1, h2, e⟩
            all_goals
              have HE := Lib.hid e
              clear e
              go_wp2
              go_roundw
              case rel => exact ⟨k + 1, by go_num, by rw [HS2.out, HE.out], by omega, (by trivial)⟩
              case measure => simp [intOf]; omega
          · obtain rfl : k = m := by omega
            have hall : L.take k = L := List.take_of_length_le (by rw [HL.out]; exact Nat.le_refl _)
            rw [hall]
            obtain ⟨tb, htb⟩ : ∃ tb, takB i L = tb := ⟨_, rfl⟩
            have HTB := Lib.hid htb
            rw [htb]
            clear htb hall
            cases tb with
            | true =>
              go_wp2
              go_roundw
              case rel => exact ⟨i + 1, z, by go_num, rfl, by omega, hz0, hz1, (HZ.out.imp id fun ⟨j, h1, h2⟩ => ⟨j, by omega, h2⟩), HBR.out⟩
              case measure => simp [intOf]; omega
            | false =>
              have hnt : ¬ takenE i L := fun ht => by
                have := (takB_iff i L).2 ht
                rw [HTB.out] at this
                cases this
              have HNT := Lib.hid hnt
              obtain ⟨p0, p1⟩ := HPA.out i hlt hnt
              have hpb := shift_bound HEB.out (i : Int)
              have HPL := Lib.hid (place_any P n k d i L _ ((HX.out _ BR.out).more BR.out.size) (by omega) hm6 HEB.out (by omega))
              obtain ⟨p, hp⟩ : ∃ p : Nat, (i : Int) + shiftE i L = p := ⟨((i : Int) + shiftE i L).toNat, by omega⟩
              rw [hp] at p1 HPL
              have HPP := Lib.hid hp
              have hbi : bs[i]? = some (bs.getD i 0) := by
                rw [List.getD_eq_getElem?_getD, List.getElem?_eq_getElem (by rw [HLB.out]; exact hlt)]
                rfl
              have hpa : p < aL := by
                rw [hbi] at p1
                have := (List.getElem?_eq_some_iff.1 p1).1
                rw [HAL.out] at this
                omega
              have hzp : z < (p : Int) := by
                rcases HZ.out with h1 | ⟨j, h1, h2, h3⟩
                · omega
                · rw [h3, ← hp]
                  exact HPR.out j i h1 hlt h2 hnt
              have hcp : cc.getD p 0 = bs.getD i 0 := by
                rw [List.getD_eq_getElem?_getD, show (p : Int).toNat = p by omega] at *
                rw [p1, hbi]
                rfl
              obtain ⟨b, off, rfl, hbl, e0⟩ := (HBB.out _ BR.out).byte hlt
              obtain ⟨b', off', rfl, hbl', e1⟩ := OR.out.byte hpa
              rw [hcp] at e1
              obtain ⟨y, hy⟩ : ∃ y, bs.getD i 0 = y := ⟨_, rfl⟩
              rw [hy] at e0 e1
              have yy : (y != y) = false := by simp
              clear hnt p0 p1 hpb hp hbi hcp hy
              have hpa' : (p : Int) < (aL : Int) := by omega
              have hin' : (i : Int) < (n : Int) := by omega
              have t0 : ¬ (p : Int) ≤ z := by omega
              have t1 : ¬ (aL : Int) ≤ (p : Int) := by omega
              have hwl : b < wr.heap.size := by have := BR.out.size; omega
              have hwl' : b' < wr.heap.size := by have := HBR.out.size; omega
              have HPL2 : Hid (Calls Tryd.prog 17 #[.slice P k d, .int .i64 (i : Int)] wr fun e w' => e = .returned (.int .i64 (p : Int)) ∧ w'.cell? ⟨b, off + i, none⟩ = some (.int .u8 y) ∧ w'.cell? ⟨b', off' + p, none⟩ = some (.int .u8 y) ∧ Hid (Below w2.heap.size w2 w')) := Lib.hid (HPL.out.mono fun e w' ⟨he, hb'⟩ =>
                ⟨he, (hb'.cell (p := ⟨b, _, none⟩) hwl).trans e0, (hb'.cell (p := ⟨b', _, none⟩) hwl').trans e1, Lib.hid (HBR.out.trans (hb'.mono HBR.out.size))⟩)
              clear HPL e0 e1 hwl hwl'
              go_wp2_with (first
                | (go_at_call 17; refine HPL2.out.mono ?_; rintro e w7 ⟨rfl, e0, e1, H7⟩)
                | fail)
              go_quiet (fail)
              go_wp2
              go_roundw
              case rel => exact ⟨i + 1, (p : Int), by go_num, rfl, by omega, by omega, by omega, .inr ⟨i, by omega, HNT.out, HPP.out.symm⟩, H7.out.trans ((Quiet.one _ _).below _)⟩
              case measure => simp [intOf]; omega
      · obtain rfl : i = n := by omega
        go_wp2_with (first
          | (go_at_call 9; refine (awake_any _).mono ?_; rintro e w6 ⟨rfl, b6⟩)
          | fail)
        go_ret
        exact ⟨rfl, BR.out.trans (b6.mono BR.out.size)⟩
  · have hne : (ck != 0) = true := by simpa using h0
    clear h0
    go_enter Tryd.func5, Tryd.ntmps5
    go_wp2_with (first
      | (go_at_call 8; refine HG.out.mono ?_; rintro e w1 ⟨rfl, rfl⟩)
      | (go_at_call 12; refine (rcheck_any P n m d L _ ((HX.out _ B0.out).more B0.out.size) (by omega) (by omega)).mono ?_; rw [HK.out]; rintro e w3 ⟨rfl, q3⟩; have B3 := Lib.hid (B0.out.trans (q3.below _)); clear q3)
      | (go_at_call 9; refine (awake_any _).mono ?_; rintro e w6 ⟨rfl, b6⟩)
      | fail)
    go_ret
    exact ⟨rfl, B3.out.trans (b6.mono B3.out.size)⟩

theorem spanPlaces_walk (a0 : Option Addr) (len0 cap0 : Nat) (zs : List Int) (a1 : Option Addr) (len1 cap1 : Nat) (L : List Ed) (w : World) (w0 : IsRow .u8 w a0 len0 cap0 zs) (hm : len1 ≤ maxLen) (hx : ShE w w.heap.size a1 len1 L) (hby : BytE L) (hs : ∀ x ∈ L, x.2.2.length ≤ maxLen) :
    Calls Tryd.prog 5 #[.slice a0 len0 cap0, .slice a1 len1 cap1] w fun e w' => e = .returned (.bool true) ∧ Below w.heap.size w w' := by
  obtain ⟨l0, m0, _, s0, b0⟩ := w0.sh
  by_cases h : 500 < len0
  · exact spanPlaces_long _ _ _ _ _ _ L w h (by omega)
  · cases hg : greatB L with
    | true => exact spanPlaces_great _ _ _ _ _ _ L w h hx hm hs hg
    | false => exact spanPlaces_small _ _ _ _ _ _ _ L w h s0 l0 m0 w0.formS hx hm hby hg
end Go.Proofs.YtopeechbgblndaaDoor
