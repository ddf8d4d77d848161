/-
  blazonlaw13.OrderSorts is true for every input: each element comes behind those that are at most it, and ahead of it comes no greater number that might come later; to be at most is an order.
  Of more than 40 pairs, or names of more than 100 bytes, it says that the document's examples hold.
-/
import Derived.Test.YtnbgaenajehbkaaOrU
import Derived.Test.YtnbgaenajehbkaaOrO
namespace Go.Proofs.Ytnbgaenajehbkaa
set_option linter.unusedVariables false
set_option linter.unusedSimpArgs false
open Go.RowKit

/-- What OrderSorts asks of an order and its sorted elements. -/
structure SrtOk (o : Od) (S : List Nat) : Prop where
  len : S.length = o.ns.length
  lt : ∀ i, i < o.ns.length → S.getD i 0 < o.ns.length
  q1 : ∀ i k, i < o.ns.length → k < o.ns.length → o.most (S.getD i 0) (S.getD k 0) = true → o.most (S.getD k 0) (S.getD i 0) = decide (i = k)
  q2 : ∀ i k, i < o.ns.length → k < o.ns.length → o.most (S.getD k 0) (S.getD i 0) = true → k ≤ i
  tr : ∀ i k m, i < o.ns.length → k < o.ns.length → m < o.ns.length → o.most i k = true → o.most k m = true → o.most i m = true
  self : ∀ i, i < o.ns.length → o.most i i = true
  asc : ∀ i, i < o.ns.length → 0 < i → S.getD i 0 < S.getD (i - 1) 0 → o.most (S.getD (i - 1) 0) (S.getD i 0) = true
theorem srt_ok {o : Od} (h : Osd o) : SrtOk o (osrt o o.ns.length).1 := by
  have hs := osrt_oso h o.ns.length (Nat.le_refl _)
  obtain ⟨S, hS⟩ : ∃ S, (osrt o o.ns.length).1 = S := ⟨_, rfl⟩
  rw [hS] at hs ⊢
  have hg : ∀ i (hi : i < o.ns.length), S.getD i 0 = S[i]'(by rw [hs.len]; exact hi) := fun i hi => by
    have : i < S.length := by rw [hs.len]; exact hi
    simp [List.getD, this]
  have hlt : ∀ i, i < o.ns.length → S.getD i 0 < o.ns.length := fun i hi => by rw [hg i hi]; exact hs.inn _ (List.getElem_mem _)
  have q2 : ∀ i k, i < o.ns.length → k < o.ns.length → o.most (S.getD k 0) (S.getD i 0) = true → k ≤ i := fun i k hi hk hm => by
    rw [most_bit (hlt k hk) (hlt i hi), hg i hi, hg k hk] at hm
    rcases hs.low i (by rw [hs.len]; exact hi) _ hm with e | ⟨b, hb, hbi, e⟩
    · have := (List.getElem_inj hs.nd).1 e
      omega
    · have := (List.getElem_inj hs.nd).1 e
      omega
  refine ⟨hs.len, hlt, fun i k hi hk hm => ?_, q2, fun i k m hi hk hm h1 h2 => ?_, fun i hi => ?_, fun i hi h0 hlt2 => ?_⟩
  · by_cases e : i = k
    · subst e
      rw [hm]; simp
    · rw [decide_eq_false e]
      cases h2 : o.most (S.getD k 0) (S.getD i 0) with
      | false => rfl
      | true =>
        have a := q2 i k hi hk h2
        have b := q2 k i hk hi hm
        omega
  · rw [most_bit hi hk] at h1
    rw [most_bit hk hm] at h2
    rw [most_bit hi hm]
    exact h.tr m k i hm hk h2 h1
  · rw [most_bit hi hi]
    exact h.self i hi
  · rw [most_bit (hlt _ (by omega)) (hlt i hi), hg i hi, hg (i - 1) (by omega)]
    rw [hg i hi, hg (i - 1) (by omega)] at hlt2
    exact hs.asc i (by rw [hs.len]; exact hi) h0 hlt2

theorem ints_at {S : List Nat} {k : Nat} {u : Value} (h : (ints S)[k]? = some u) : u = .int .i64 ((S.getD k 0 : Nat) : Int) := by
  unfold ints at h
  rw [List.getElem?_map] at h
  cases e : S[k]? with
  | none => rw [e] at h; cases h
  | some x =>
    rw [e] at h
    cases h
    simp [List.getD, e]

set_option maxRecDepth 100000 in
set_option maxHeartbeats 800000 in
theorem orderSorts_walk (A : Option Addr) (n c : Nat) (L : List OPa) (w : World) (hn : n ≤ maxLen) (hL : ShP w w.heap.size A n L) (hs : ∀ t ∈ L, t.1.1.size ≤ maxLen ∧ t.1.2.size ≤ maxLen) :
    Calls Try.prog 4 #[.slice A n c] w fun e w' => e = .returned (.bool true) ∧ Below w.heap.size w w' := by
  have HG := Lib.hid (ogreat_any A n c 40 L w hL hn (by decide) hs)
  cases hg : oGreat (L.map (·.1)) 40 with
  | true =>
    rw [hg] at HG
    clear hg
    go_enter Try.func4, Try.ntmps4
    go_wp2_with (first
      | (go_at_call 12; refine HG.out.mono ?_; rintro e w1 ⟨rfl, b1⟩; have B1 := Lib.hid b1; clear b1)
      | (go_at_call 9; refine (awake13_any _).mono ?_; rintro e w2 ⟨rfl, b2⟩)
      | go_in)
    go_ret
    exact ⟨rfl, B1.out.trans (b2.mono B1.out.size)⟩
  | false =>
    rw [hg] at HG
    have HN := Lib.hid (fun (w1 : World) (b : Below w.heap.size w w1) => onew_any A n c L w1 (by
      have := hL.below b
      exact ⟨this.1, fun hn => by
        obtain ⟨bb, off, e, hB, hc⟩ := this.2 hn
        exact ⟨bb, off, e, Nat.lt_of_lt_of_le hB b.size, hc⟩⟩) hn hs)
    clear hg hs hL
    cases ho : (newO (L.map (·.1))).1 with
    | none =>
      have hz : ¬ (newO (L.map (·.1))).2.2 = 0 := fun e => by
        obtain ⟨o, ho'⟩ := newO_nat.1 e
        rw [ho] at ho'
        cases ho'
      have hne : (((newO (L.map (·.1))).2.2 : Int) != 0) = true := by simp; exact hz
      have HN1 := Lib.hid (fun (w1 : World) (b : Below w.heap.size w w1) => (HN.out w1 b).mono fun e w' h => newTo_none h ho)
      obtain ⟨R, hR⟩ : ∃ R, (newO (L.map (·.1))).2.1 = R := ⟨_, rfl⟩
      obtain ⟨E, hE⟩ : ∃ E, (newO (L.map (·.1))).2.2 = E := ⟨_, rfl⟩
      rw [hR, hE] at HN1
      rw [hE] at hne
      clear hz hR hE ho HN
      go_enter Try.func4, Try.ntmps4
      go_wp2_with (first
        | (go_at_call 12; refine HG.out.mono ?_; rintro e w1 ⟨rfl, b1⟩; have B1 := Lib.hid b1; clear b1)
        | (go_at_call 8; refine (HN1.out _ B1.out).mono ?_; rintro e w2 ⟨b2, rfl⟩; have B2 := Lib.hid (B1.out.trans (b2.mono B1.out.size)); clear b2)
        | (go_at_call 9; refine (awake13_any _).mono ?_; rintro e w3 ⟨rfl, b3⟩)
        | go_in)
      go_ret
      exact ⟨rfl, B2.out.trans (b3.mono B2.out.size)⟩
    | some o =>
      have HK := Lib.hid (srt_ok (newO_osd ho))
      have HN1 := Lib.hid (fun (w1 : World) (b : Below w.heap.size w w1) => (HN.out w1 b).mono fun e w' h => newTo_some h ho)
      clear ho HN
      obtain ⟨S, hS⟩ : ∃ S, (osrt o o.ns.length).1 = S := ⟨_, rfl⟩
      rw [hS] at HK
      have hlen := Lib.hid HK.out.len
      have HSS := Lib.hid hS
      clear hS
      go_enter Try.func4, Try.ntmps4
      go_wp2_with (first
        | (go_at_call 12; refine HG.out.mono ?_; rintro e w1 ⟨rfl, b1⟩; have B1 := Lib.hid b1; clear b1)
        | (go_at_call 8; refine (HN1.out _ B1.out).mono ?_; rintro e w2 ⟨b2, g, rfl, hO⟩; have B2 := Lib.hid (B1.out.trans (b2.mono B1.out.size)); have HO := Lib.hid hO; clear b2 hO)
        | (go_at_call 13; refine (osorted_any HO.out).mono ?_; rintro e w3 ⟨v3, rfl, hv3, b3⟩; rw [HSS.out, hlen.out] at hv3; obtain ⟨A3, c3, rfl⟩ := hv3.form; have HV := Lib.hid hv3; have HO3 := Lib.hid (HO.out.stay b3); have B3 := Lib.hid (B2.out.trans (b3.mono B2.out.size)); clear hv3 b3)
        | (go_at_call 10; refine (olen_any HO3.out).mono ?_; rintro e w4 ⟨rfl, rfl⟩)
        | go_in)
      obtain ⟨N, hN⟩ : ∃ N, o.ns.length = N := ⟨_, rfl⟩
      have HMO := Lib.hid (fun (wx : World) (q : Quiet w3 wx) (a b : Nat) => (by have := omost_any (HO3.out.quiet q) (a : Int) (b : Int); rw [Od.mostI_nat] at this; exact this : Calls Try.prog 11 #[.pointer (some ⟨g, 0, none⟩), .int .i64 (a : Int), .int .i64 (b : Int)] wx fun e w' => e = .returned (.bool (o.most a b)) ∧ wx = w'))
      have HC := Lib.hid (fun (wx : World) (q : Quiet w3 wx) (k : Nat) (hk : k < N) => (by
        obtain ⟨b, off, u, e, hb, hu, hc⟩ := (HV.out.quiet q).sh.at (k := k) (by rw [hN]; exact hk)
        exact ⟨b, off, e, by rw [hc, ints_at hu]⟩ : ∃ b off, A3 = some ⟨b, off, none⟩ ∧ wx.cell? ⟨b, off + k, none⟩ = some (.int .i64 ((S.getD k 0 : Nat) : Int))))
      have K := HK.out
      obtain ⟨_, klt, kq1, kq2, ktr, kself, kasc⟩ := K
      rw [hN] at klt kq1 kq2 ktr kself kasc ⊢
      have KQ1 := Lib.hid kq1
      have KQ2 := Lib.hid kq2
      have KTR := Lib.hid ktr
      have KSELF := Lib.hid kself
      have KASC := Lib.hid kasc
      have hNm : N ≤ 64 := by rw [← hN]; exact HO3.out.wf.len
      have HNN := Lib.hid hN
      clear hN klt kq1 kq2 ktr kself kasc HSS hlen HK HN1 HG
      go_loopw [7] (fun i wr => ∃ k : Nat, i = .int .i64 (k : Int) ∧ k ≤ N ∧ Hid (Quiet w3 wr)) (fun i _ => N - (intOf i).toNat)
      case atStart => exact ⟨0, rfl, Nat.zero_le _, Lib.hid (Quiet.refl _)⟩
      case round =>
        obtain ⟨i, rfl, hi, HQ⟩ := hrel
        obtain ⟨wa, hwa⟩ : ∃ wa, wa = wr := ⟨_, rfl⟩
        subst hwa
        by_cases hlt : i < N
        · go_wp2
          go_loopw [8] (fun k wr => ∃ j : Nat, k = .int .i64 (j : Int) ∧ j ≤ N ∧ Hid (Quiet w3 wr)) (fun k _ => N - (intOf k).toNat)
          case atStart => exact ⟨0, rfl, Nat.zero_le _, HQ⟩
          case round =>
            obtain ⟨j, rfl, hj, HQ2⟩ := hrel
            obtain ⟨wb, hwb⟩ : ∃ wb, wb = wr := ⟨_, rfl⟩
            subst hwb
            by_cases hlt2 : j < N
            · obtain ⟨bb, off, rfl, ci⟩ := HC.out wb HQ2.out i hlt
              obtain ⟨_, _, e2, cj⟩ := HC.out wb HQ2.out j hlt2
              cases e2
              have HM1 := Lib.hid (fun q => Calls.quiet_of_same ((HMO.out (wb.drewN q) (HQ2.out.trans (Quiet.one _ _)) (S.getD i 0) (S.getD j 0)).mono fun e w' ⟨h1, h2⟩ => ⟨h1, h2.symm⟩))
              have HM2 := Lib.hid (fun q => Calls.quiet_of_same ((HMO.out (wb.drewN q) (HQ2.out.trans (Quiet.one _ _)) (S.getD j 0) (S.getD i 0)).mono fun e w' ⟨h1, h2⟩ => ⟨h1, h2.symm⟩))
              have q1 := KQ1.out i j hlt hlt2
              have q2 := KQ2.out i j hlt hlt2
              obtain ⟨M1, hM1⟩ : ∃ M, o.most (S.getD i 0) (S.getD j 0) = M := ⟨_, rfl⟩
              obtain ⟨M2, hM2⟩ : ∃ M, o.most (S.getD j 0) (S.getD i 0) = M := ⟨_, rfl⟩
              obtain ⟨si, hsi⟩ : ∃ s, S.getD i 0 = s := ⟨_, rfl⟩
              obtain ⟨sj, hsj⟩ : ∃ s, S.getD j 0 = s := ⟨_, rfl⟩
              rw [hM1, hM2] at q1
              rw [hM2] at q2
              rw [hM1] at HM1
              rw [hM2] at HM2
              rw [hsi, hsj] at HM1 HM2
              rw [hsi] at ci
              rw [hsj] at cj
              have hcs : (M1 = false ∧ M2 = false) ∨ (M1 = false ∧ M2 = true ∧ decide ((i : Int) < (j : Int)) = false ∧ decide (i < j) = false) ∨ (M1 = true ∧ M2 = true ∧ ((i : Int) == (j : Int)) = true ∧ decide ((i : Int) < (j : Int)) = false ∧ decide (i < j) = false) ∨ (M1 = true ∧ M2 = false ∧ ((i : Int) == (j : Int)) = false) := by
                cases M1 <;> cases M2
                · exact .inl ⟨rfl, rfl⟩
                · have := q2 rfl
                  exact .inr (.inl ⟨rfl, rfl, by simp; omega, by simp; omega⟩)
                · have := q1 rfl
                  exact .inr (.inr (.inr ⟨rfl, rfl, by simp at this; simp; omega⟩))
                · have := q1 rfl
                  exact .inr (.inr (.inl ⟨rfl, rfl, by simp at this; simp; omega, by have := q2 rfl; simp; omega, by have := q2 rfl; simp; omega⟩))
              clear q1 q2 hM1 hM2 hsi hsj
              have KT := Lib.hid (fun m hm => KTR.out i j m hlt hlt2 hm)
              rcases hcs with ⟨rfl, rfl⟩ | ⟨rfl, rfl, hd, hd2⟩ | ⟨rfl, rfl, he, hd, hd2⟩ | ⟨rfl, rfl, he⟩
              all_goals
                go_wp2
                go_quiet (first
                  | (go_at_call 11; with_reducible exact HM1.out _)
                  | (go_at_call 11; with_reducible exact HM2.out _))
                go_wp2
                have HQ3 := Lib.hid (HQ2.out.trans (Quiet.one wb nq))
                obtain ⟨wc, hwc⟩ : ∃ wc, wb.drewN nq = wc := ⟨_, rfl⟩
                rw [hwc] at HQ3
                rw [hwc]
                clear hwc ci cj HM1 HM2
                have HMC := Lib.hid (fun a b => HMO.out wc HQ3.out a b)
                go_loopw [9] (fun k wr => ∃ m : Nat, k = .int .i64 (m : Int) ∧ m ≤ N ∧ wr = wc) (fun k _ => N - (intOf k).toNat)
                case atStart => exact ⟨0, rfl, Nat.zero_le _, rfl⟩
                case round =>
                  obtain ⟨m, rfl, hm, rfl⟩ := hrel
                  by_cases hlt3 : m < N
                  · have kt := KT.out m hlt3
                    have H1 := Lib.hid (HMC.out i j)
                    have H2 := Lib.hid (HMC.out j m)
                    have H3 := Lib.hid (HMC.out i m)
                    obtain ⟨P1, hP1⟩ : ∃ M, o.most i j = M := ⟨_, rfl⟩
                    obtain ⟨P2, hP2⟩ : ∃ M, o.most j m = M := ⟨_, rfl⟩
                    obtain ⟨P3, hP3⟩ : ∃ M, o.most i m = M := ⟨_, rfl⟩
                    rw [hP1] at H1 kt
                    rw [hP2] at H2 kt
                    rw [hP3] at H3 kt
                    have hcs : (P1 = false) ∨ (P1 = true ∧ P2 = false) ∨ (P1 = true ∧ P2 = true ∧ P3 = true) := by
                      cases P1 <;> cases P2 <;> simp at kt ⊢
                      exact kt
                    clear kt hP1 hP2 hP3
                    rcases hcs with rfl | ⟨rfl, rfl⟩ | ⟨rfl, rfl, rfl⟩
                    all_goals
                      go_wp2_with (first
                        | (go_at_call 11; with_reducible refine H1.out.mono ?_; rintro e wx ⟨rfl, rfl⟩)
                        | (go_at_call 11; with_reducible refine H2.out.mono ?_; rintro e wx ⟨rfl, rfl⟩)
                        | (go_at_call 11; with_reducible refine H3.out.mono ?_; rintro e wx ⟨rfl, rfl⟩)
                        | go_in)
                      go_roundw
                      case rel => exact ⟨m + 1, by go_num, hlt3, (by trivial)⟩
                      case measure => simp [intOf]; omega
                  · obtain rfl : m = N := by omega
                    go_wp2
                    go_roundw
                    case rel => exact ⟨j + 1, by go_num, hlt2, HQ3⟩
                    case measure => simp [intOf]; omega
            · obtain rfl : j = N := by omega
              have HMS := Lib.hid (fun q => Calls.quiet_of_same ((HMO.out (wb.drewN q) (HQ2.out.trans (Quiet.one _ _)) i i).mono fun e w' ⟨h1, h2⟩ => ⟨h1, h2.symm⟩))
              rw [KSELF.out i hlt] at HMS
              by_cases h0 : i = 0
              · subst h0
                simp only [Int.natCast_zero] at HMS
                go_wp2
                go_quiet ((go_at_call 11; with_reducible exact HMS.out _))
                go_wp2
                go_roundw
                case rel => exact ⟨1, rfl, hlt, Lib.hid (HQ2.out.trans (Quiet.one _ _))⟩
                case measure => simp [intOf]; omega
              · obtain ⟨i', rfl⟩ : ∃ i', i = i' + 1 := ⟨i - 1, by omega⟩
                obtain ⟨bb, off, rfl, ci⟩ := HC.out wb HQ2.out (i' + 1) hlt
                obtain ⟨_, _, e2, cj⟩ := HC.out wb HQ2.out i' (by omega)
                cases e2
                have HM1 := Lib.hid (fun q => Calls.quiet_of_same ((HMO.out (wb.drewN q) (HQ2.out.trans (Quiet.one _ _)) (S.getD i' 0) (S.getD (i' + 1) 0)).mono fun e w' ⟨h1, h2⟩ => ⟨h1, h2.symm⟩))
                have q1 := KASC.out (i' + 1) hlt (by omega)
                rw [Nat.add_sub_cancel] at q1
                obtain ⟨M1, hM1⟩ : ∃ M, o.most (S.getD i' 0) (S.getD (i' + 1) 0) = M := ⟨_, rfl⟩
                obtain ⟨si, hsi⟩ : ∃ s, S.getD (i' + 1) 0 = s := ⟨_, rfl⟩
                obtain ⟨sj, hsj⟩ : ∃ s, S.getD i' 0 = s := ⟨_, rfl⟩
                rw [hM1] at q1 HM1
                rw [hsi, hsj] at HM1 q1
                rw [hsi] at ci
                rw [hsj] at cj
                have hcs : (decide ((si : Int) < (sj : Int)) = false ∧ decide (si < sj) = false) ∨ (decide ((si : Int) < (sj : Int)) = true ∧ decide (si < sj) = true ∧ M1 = true) := by
                  by_cases h : si < sj
                  · exact .inr ⟨by simp; omega, by simp; omega, q1 h⟩
                  · exact .inl ⟨by simp; omega, by simp; omega⟩
                have h0p : decide ((0 : Int) < (i' : Int) + 1) = true := decide_eq_true (by omega)
                have h0n : decide (0 < i' + 1) = true := by simp
                clear q1 hM1 hsi hsj
                simp only [Int.natCast_add, Int.natCast_one] at HMS
                rcases hcs with ⟨hd, hd2⟩ | ⟨hd, hd2, rfl⟩
                all_goals
                  go_wp2
                  go_quiet (first
                    | (go_at_call 11; with_reducible exact HMS.out _)
                    | (go_at_call 11; with_reducible exact HM1.out _))
                  go_wp2
                  go_roundw
                  case rel => exact ⟨i' + 1 + 1, by go_num, hlt, Lib.hid (HQ2.out.trans (Quiet.one _ _))⟩
                  case measure => simp [intOf]; omega
        · obtain rfl : i = N := by omega
          go_wp2_with (first
            | (go_at_call 9; refine (awake13_any _).mono ?_; rintro e w5 ⟨rfl, b5⟩)
            | go_in)
          go_ret
          exact ⟨rfl, (B3.out.trans (HQ.out.below _)).trans (b5.mono (Nat.le_trans B3.out.size (by rw [HQ.out.size]; exact Nat.le_refl _)))⟩
end Go.Proofs.Ytnbgaenajehbkaa
