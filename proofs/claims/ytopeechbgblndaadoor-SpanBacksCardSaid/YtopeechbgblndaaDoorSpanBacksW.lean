/-
  blazonlaw07.SpanBacks is true for every input: what is changed, and changed back by the edits that are told, is as it was; these are as many, and in order.
  Conditions: none beyond the statement's own (package-level variables start as the program's text lays them).
-/
import Derived.Test.YtopeechbgblndaaDoorSpW
import Derived.Test.YtopeechbgblndaaDoorSpS
import Derived.Test.YtopeechbgblndaaDoorSpG
import Derived.Test.YtopeechbgblndaaDoorSpD
import Derived.Test.YtopeechbgblndaaDoorSpK
import Derived.Test.YtopeechbgblndaaDoorSpO
import Derived.Test.YtopeechbgblndaaDoorHeld
namespace Go.Proofs.YtopeechbgblndaaDoor
set_option linter.unusedVariables false
set_option linter.unusedSimpArgs false
open Go.RowKit

theorem spanBacks_long (A P : Option Addr) (n c m d : Nat) (L : List Ed) (w : World) (h : 500 < n) (hn : n ≤ maxLen) :
    Calls Tryd.prog 4 #[.slice A n c, .slice P m d] w fun e w' => e = .returned (.bool true) ∧ Below w.heap.size w w' := by
  unfold maxLen at hn
  have h' : (500 : Int) < (n : Int) := by omega
  go_enter Tryd.func4, Tryd.ntmps4
  go_wp2_with (first
    | (go_at_call 9; refine (awake_any _).mono ?_; rintro e w1 ⟨rfl, b1⟩)
    | fail)
  go_ret
  exact ⟨rfl, b1⟩

theorem spanBacks_great (A P : Option Addr) (n c m d : Nat) (L : List Ed) (w : World) (h : ¬ 500 < n) (hx : ShE w w.heap.size P m L) (hm : m ≤ maxLen) (hs : ∀ x ∈ L, x.2.2.length ≤ maxLen) (hg : greatB L = true) :
    Calls Tryd.prog 4 #[.slice A n c, .slice P m d] w fun e w' => e = .returned (.bool true) ∧ Below w.heap.size w w' := by
  have h' : ¬ (500 : Int) < (n : Int) := by omega
  have HG := great_any P m d L w hx hm hs
  rw [hg] at HG
  have HG := Lib.hid HG
  clear hg hs hx
  go_enter Tryd.func4, Tryd.ntmps4
  go_wp2_with (first
    | (go_at_call 8; refine HG.out.mono ?_; rintro e w1 ⟨rfl, rfl⟩)
    | (go_at_call 9; refine (awake_any _).mono ?_; rintro e w1 ⟨rfl, b1⟩)
    | fail)
  go_ret
  exact ⟨rfl, b1⟩

theorem back_txt {bs : List Int} {L : List Ed} : ∀ lon, ∀ x ∈ back bs lon L, x.2.2.length ≤ bs.length := by
  induction L with
  | nil => intro lon x hx; cases hx
  | cons y r ih =>
    intro lon x hx
    have hx' : x = (y.1 + lon, y.1 + lon + y.2.2.length, seg bs y.1 y.2.1) ∨ x ∈ back bs (lon + grow y) r := by simpa [back] using hx
    rcases hx' with rfl | hx'
    · dsimp only
      unfold seg
      rw [List.length_drop, List.length_take]
      omega
    · exact ih _ x hx'
theorem Own.formA {w : World} {B n c size : Nat} {e : TypeId} {A : Option Addr} {xs : List Value} (h : Own w B e size (.slice A n c) n xs) : c = 0 ∨ ∃ b off, A = some ⟨b, off, none⟩ := by
  rcases h.1.2 with ⟨h1, _⟩ | ⟨g, cap, cur, h1, _⟩
  · injection h1 with _ _ h1
    exact .inl h1
  · injection h1 with h1 _ _
    exact .inr ⟨g, 0, h1⟩

set_option maxRecDepth 10000 in
set_option maxHeartbeats 8000000 in
theorem spanBacks_small (A P : Option Addr) (n c m d : Nat) (bs : List Int) (L : List Ed) (w : World) (h : ¬ 500 < n) (hb : Sh w w.heap.size A n (by8 bs)) (hnc : n ≤ c) (hcm : c ≤ maxLen) (hcA : c = 0 ∨ ∃ b off, A = some ⟨b, off, none⟩) (hx : ShE w w.heap.size P m L) (hm : m ≤ maxLen) (hby : BytE L) (hg : greatB L = false) :
    Calls Tryd.prog 4 #[.slice A n c, .slice P m d] w fun e w' => e = .returned (.bool true) ∧ Below w.heap.size w w' := by
  have h' : ¬ (500 : Int) < (n : Int) := by omega
  have hlb : bs.length = n := by have := hb.len; rwa [by8_len] at this
  have hl : L.length = m := hx.1
  obtain ⟨hL6, hs⟩ := great_no hg
  have HG := great_any P m d L w hx hm (fun x hx => Nat.le_trans (hs x hx) (by decide))
  rw [hg] at HG
  have HG := Lib.hid HG
  have hm6 : m ≤ 600 := by omega
  have HS := Lib.hid hs
  have HLB := Lib.hid hlb
  have HL := Lib.hid hl
  have HX := Lib.hid (fun w' (b : Below w.heap.size w w') => hx.up b (Nat.le_refl _))
  have HBB := Lib.hid (fun w' (b : Below w.heap.size w w') => hb.below b)
  have HM := Lib.hid (back_any A P n c m d bs L w hb hx (by omega) hnc hcm hcA hm6 (fun x hx => Nat.le_trans (hs x hx) (by decide)) hby)
  have HAP : Hid (∀ w1, Below w.heap.size w w1 → Calls Tryd.prog 11 #[.slice A n c, .slice P m d] w1 (ApTo n bs L w1)) := Lib.hid fun w1 b => apply_any A P n c m d bs L w1 ((HBB.out w1 b).more b.size) ((HX.out w1 b).more b.size) (by omega) hnc hcm hcA hm6 (fun x hx => Nat.le_trans (hs x hx) (by decide)) hby
  unfold maxLen at hcm
  obtain ⟨ck, hck⟩ : ∃ ck, chk n L = ck := ⟨_, rfl⟩
  have HK := Lib.hid hck
  clear hg hs hlb hby hx hb hL6 hl hm hck
  go_enter Tryd.func4, Tryd.ntmps4
  go_wp2_with (first
    | (go_at_call 8; refine HG.out.mono ?_; rintro e w1 ⟨rfl, rfl⟩)
    | fail)
  refine HM.out.mono ?_
  intro e w1 h1
  unfold BkTo at h1
  rw [HK.out] at h1
  clear HM HG
  by_cases h0 : ck = 0
  · subst h0
    rw [if_pos rfl] at h1
    obtain ⟨v1, rfl, ho1, b1⟩ := h1
    rw [HL.out] at ho1
    obtain ⟨M, cM, rfl⟩ := ho1.form
    have B1 := Lib.hid b1
    have S1 := Lib.hid (ho1.ed (by rw [back_len, HL.out]))
    clear ho1 b1
    have hse : (0 != 0) = false := rfl
    go_wp2_with (first
      | (go_at_call 12; refine (rcheck_any P n m d L _ ((HX.out _ B1.out).more B1.out.size) (by omega) (by omega)).mono ?_; rw [HK.out]; rintro e w3 ⟨rfl, q3⟩; have B3 := Lib.hid (B1.out.trans (q3.below _)); have S3 := Lib.hid (S1.out.up (q3.below w1.heap.size) (Nat.le_refl _)); have z3 := q3.size; clear q3)
      | fail)
    refine (HAP.out w3 B3.out).mono ?_
    intro e w2 h2
    unfold ApTo at h2
    rw [HK.out, if_pos rfl] at h2
    obtain ⟨v2, rfl, ho2, b2⟩ := h2
    obtain ⟨A2, c2, rfl⟩ := ho2.form
    have hA2 := ho2.formA
    have hac := ho2.cap
    have hlen := appl_len_le 200 bs L 0 HS.out
    have hlen2 : (appl bs 0 L).length ≤ 420500 := by
      rw [HLB.out, HL.out] at hlen
      have h1 : n * (m + 1) ≤ 500 * 601 := Nat.mul_le_mul (by omega) (by omega)
      have h2 : 200 * m ≤ 200 * 600 := Nat.mul_le_mul (Nat.le_refl _) hm6
      omega
    have B2 := Lib.hid (B3.out.trans (b2.mono B3.out.size))
    have S2 := Lib.hid (S3.out.up b2 (by omega))
    have z2 := b2.size
    have O2 := Lib.hid ho2.sh
    have HBA := Lib.hid (back_all bs L 0 0 [] (by rw [HLB.out]; exact WOk_zero (chk_zero HK.out).2) (Int.le_refl _) (by omega) rfl)
    clear ho2 b2 hlen HAP
    obtain ⟨cc, hcc⟩ : ∃ cc, appl bs 0 L = cc := ⟨_, rfl⟩
    have HBK : Hid (WOk cc.length 0 (back bs 0 L) ∧ appl cc 0 (back bs 0 L) = bs ∧ ∀ (k : Nat) (x : Ed), L[k]? = some x → ∃ y : Ed, (back bs 0 L)[k]? = some y ∧ y.2.2 = seg bs x.1 x.2.1 ∧ seg cc y.1 y.2.1 = x.2.2 ∧ 0 ≤ y.1 ∧ y.1 ≤ y.2.1 ∧ y.2.1 ≤ cc.length) := Lib.hid (by
      have := HBA.out
      dsimp only at this
      rw [List.nil_append, hcc, seg_all] at this
      exact this)
    rw [hcc] at hac hlen2 O2 ⊢
    clear HBA hcc
    obtain ⟨aL, haL⟩ : ∃ aL, cc.length = aL := ⟨_, rfl⟩
    have HAL := Lib.hid haL
    rw [haL] at hac hlen2 O2 ⊢
    obtain ⟨hac1, hac2⟩ := hac
    unfold maxLen at hac2
    clear haL
    have hmm : (m != m) = false := by simp
    go_wp2
    go_loopw [9] (fun i wr => ∃ k : Nat, i = .int .i64 (k : Int) ∧ k ≤ m ∧ Quiet w2 wr) (fun i _ => m - (intOf i).toNat)
    case atStart => exact ⟨0, rfl, Nat.zero_le _, Quiet.refl _⟩
    case round =>
      obtain ⟨k, rfl, hk, hq⟩ := hrel
      have BR := Lib.hid (B2.out.trans (hq.below w.heap.size))
      have SR := Lib.hid (S2.out.up (hq.below w2.heap.size) (by omega))
      have OR := Lib.hid (O2.out.up (hq.below w2.heap.size) (Nat.le_refl _))
      have zr := hq.size
      have HQ := Lib.hid hq
      clear hq
      by_cases hlt : k < m
      · obtain ⟨b, off, x, rfl, hbb, hx, c0, c1, c2'⟩ := (HX.out wr BR.out).at hlt
        obtain ⟨b', off', y, rfl, hbb', hy, d0, d1, d2⟩ := SR.out.at hlt
        obtain ⟨y', hy', e1, e2, y1, y2, y3⟩ := HBK.out.2.2 k x hx
        rw [hy] at hy'
        cases hy'
        have hxb := ((chk_zero HK.out).2 k (by rw [HL.out]; exact hlt) x hx).1
        obtain ⟨f, t, s⟩ := x
        obtain ⟨g1, g2, u⟩ := y
        dsimp only at c0 c1 c2' d0 d1 d2 e1 e2 y1 y2 y3 hxb
        obtain ⟨x1, x2, x3⟩ := hxb
        obtain ⟨F, rfl⟩ : ∃ F : Nat, f = F := ⟨f.toNat, by omega⟩
        obtain ⟨T, rfl⟩ : ∃ T : Nat, t = T := ⟨t.toNat, by omega⟩
        obtain ⟨G, rfl⟩ : ∃ G : Nat, g1 = G := ⟨g1.toNat, by omega⟩
        obtain ⟨J, rfl⟩ : ∃ J : Nat, g2 = J := ⟨g2.toNat, by omega⟩
        rw [HAL.out] at y3
        have hFT : F ≤ T := by omega
        have hTn : T ≤ n := by omega
        have hGJ : G ≤ J := by omega
        have hJa : J ≤ aL := by omega
        have n0 : ¬ (G : Int) < 0 := by omega
        have n1 : ¬ (J : Int) > (aL : Int) := by omega
        have n2 : ¬ (G : Int) > (J : Int) := by omega
        have m0 : decide ((G : Int) < 0) = false := decide_eq_false (by omega)
        have m1 : decide ((aL : Int) < (J : Int)) = false := decide_eq_false (by omega)
        have m3 : decide (aL < J) = false := decide_eq_false (by omega)
        have m4 : decide (J < G) = false := decide_eq_false (by omega)
        have m5 : (J : Int) ≤ (aL : Int) := by omega
        have m6 : (G : Int) ≤ (J : Int) := by omega
        have m7 : ¬ (aL : Int) < (J : Int) := by omega
        have m8 : ¬ (J : Int) < (G : Int) := by omega
        have m2 : decide ((J : Int) < (G : Int)) = false := decide_eq_false (by omega)
        obtain ⟨X, hX⟩ : ∃ X, strOfNums s = X := ⟨_, rfl⟩
        obtain ⟨Y, hY⟩ : ∃ Y, strOfNums u = Y := ⟨_, rfl⟩
        rw [hX] at c2'
        rw [hY] at d2
        have XX : (X.toList == X.toList) = true := by simp
        have YY : (Y.toList == Y.toList) = true := by simp
        have HC1 : Hid (∀ w', Below wr.heap.size wr w' → ∀ U e, (∀ b off, A2 = some ⟨b, off, none⟩ → G < J → U = some ⟨b, off + G, none⟩) → (convert 22 9 (.slice U (J - G) e)).run Tryd.prog w' = .ok (.string X) w') := Lib.hid fun w' b' U e hU => by
          have := convert_sh (sh_seg (OR.out.up b' (by omega)) hGJ hJa hU) e
          rw [e2, hX] at this
          exact this
        have HC2 : Hid (∀ w', Below wr.heap.size wr w' → ∀ U e, (∀ b off, A = some ⟨b, off, none⟩ → F < T → U = some ⟨b, off + F, none⟩) → (convert 22 9 (.slice U (T - F) e)).run Tryd.prog w' = .ok (.string Y) w') := Lib.hid fun w' b' U e hU => by
          have := convert_sh (sh_seg (HBB.out w' (BR.out.trans (b'.mono BR.out.size))) hFT hTn hU) e
          rw [← e1, hY] at this
          exact this
        have hbl : b < wr.heap.size := by have := BR.out.size; omega
        have hbl' : b' < wr.heap.size := by have := BR.out.size; omega
        obtain ⟨S0, hS0⟩ : ∃ S0 : World → Prop, S0 = fun w' => Below wr.heap.size wr w' := ⟨_, rfl⟩
        have HSF : Hid (∀ w', S0 w' → Below wr.heap.size wr w') := Lib.hid fun w' b => by rw [hS0] at b; exact b
        have hSd : S0 wr.drew := by rw [hS0]; exact ⟨rfl, rfl, rfl, Nat.le_refl _, fun _ _ => rfl⟩
        have s0 : ∀ s : SW S0, s.w.cell? ⟨b, off + k * 3, none⟩ = some (.int .i64 (F : Int)) := fun s => ((HSF.out _ s.h).cell (p := ⟨b, _, none⟩) hbl).trans c0
        have s1 : ∀ s : SW S0, s.w.cell? ⟨b, off + k * 3 + 1, none⟩ = some (.int .i64 (T : Int)) := fun s => ((HSF.out _ s.h).cell (p := ⟨b, _, none⟩) hbl).trans c1
        have s2 : ∀ s : SW S0, s.w.cell? ⟨b, off + k * 3 + 2, none⟩ = some (.string X) := fun s => ((HSF.out _ s.h).cell (p := ⟨b, _, none⟩) hbl).trans c2'
        have r0 : ∀ s : SW S0, s.w.cell? ⟨b', off' + k * 3, none⟩ = some (.int .i64 (G : Int)) := fun s => ((HSF.out _ s.h).cell (p := ⟨b', _, none⟩) hbl').trans d0
        have r1 : ∀ s : SW S0, s.w.cell? ⟨b', off' + k * 3 + 1, none⟩ = some (.int .i64 (J : Int)) := fun s => ((HSF.out _ s.h).cell (p := ⟨b', _, none⟩) hbl').trans d1
        have r2 : ∀ s : SW S0, s.w.cell? ⟨b', off' + k * 3 + 2, none⟩ = some (.string Y) := fun s => ((HSF.out _ s.h).cell (p := ⟨b', _, none⟩) hbl').trans d2
        have hkm : (k : Int) < (m : Int) := by omega
        have hk0 : (0 : Int) ≤ (k : Int) := by omega
        clear hS0 hx hy e1 e2 y1 y2 y3 x1 x2 x3 hX hY c0 c1 c2' d0 d1 d2 hbl hbl'
        by_cases hcp : c2 = G
        · have e1 : G = J := by omega
          have e2 : G = aL := by omega
          have e3 : G = c2 := hcp.symm
          clear hcp
          subst e1
          subst e2
          subst e3
          have sc1 : ∀ (s : SW S0) U, (convert 22 9 (.slice U 0 0)).run Tryd.prog s.w = .ok (.string X) s.w := fun s U => by
            have := HC1.out s.w (HSF.out _ s.h) U 0 (fun _ _ _ h => absurd h (Nat.lt_irrefl _))
            rwa [Nat.sub_self] at this
          clear hA2
          by_cases hcq : c = F
          · have e1 : F = T := by omega
            have e2 : F = n := by omega
            have e3 : F = c := hcq.symm
            clear hcq
            subst e1
            subst e2
            subst e3
            have sc2 : ∀ (s : SW S0) U, (convert 22 9 (.slice U 0 0)).run Tryd.prog s.w = .ok (.string Y) s.w := fun s U => by
              have := HC2.out s.w (HSF.out _ s.h) U 0 (fun _ _ _ h => absurd h (Nat.lt_irrefl _))
              rwa [Nat.sub_self] at this
            clear hcA
            have hXY : X = Y := by
              obtain ⟨s⟩ : Nonempty (SW S0) := ⟨⟨_, hSd⟩⟩
              have h1 := sc1 s none
              have h2 := sc2 s none
              rw [h1] at h2
              injection h2 with h2 _
              injection h2
            subst hXY
            clear sc2
            go_wp2
            refine regionL_start (by kernel_rfl) 71 rfl S0 70 ?_
            refine wpL_next 0 70 1 (by kernel_rfl) (fun _ _ d _ _ h => by cases d <;> exact h) hSd (fun hne => ?_)
            simp only [List.drop_succ_cons, List.drop_zero, List.take_succ_cons, List.take_zero]
            repeat (go_big_quiet_step (fail))
            refine wpQuiet_nil ?_
            refine wpL_last (fuel := 0) (by kernel_rfl) (by kernel_rfl) rfl (fun KK hKK => ?_)
            go_simp
            refine hKK _ _ ?_
            clear hKK KK
            go_wp2
            go_roundw
            case rel => exact ⟨k + 1, by go_num, by omega, HQ.out.trans (Quiet.one _ 1)⟩
            case measure => simp [intOf]; omega
          · obtain ⟨b1, o1, rfl⟩ : ∃ b off, A = some ⟨b, off, none⟩ := by
              rcases hcA with h | h
              · omega
              · exact h
            clear hcA
            have sc2 : ∀ s : SW S0, (convert 22 9 (.slice (some ⟨b1, o1 + F, none⟩) (T - F) (c - F))).run Tryd.prog s.w = .ok (.string Y) s.w := fun s => HC2.out s.w (HSF.out _ s.h) _ _ (fun _ _ h _ => by cases h; rfl)
            go_wp2
            refine regionL_start (by kernel_rfl) 71 rfl S0 70 ?_
            refine wpL_next 0 70 1 (by kernel_rfl) (fun _ _ d _ _ h => by cases d <;> exact h) hSd (fun hne => ?_)
            simp only [List.drop_succ_cons, List.drop_zero, List.take_succ_cons, List.take_zero]
            repeat (go_big_quiet_step (fail))
            refine wpQuiet_nil ?_
            refine wpL_last (fuel := 0) (by kernel_rfl) (by kernel_rfl) rfl (fun KK hKK => ?_)
            go_simp
            refine hKK _ _ ?_
            clear hKK KK
            go_wp2
            go_roundw
            case rel => exact ⟨k + 1, by go_num, by omega, HQ.out.trans (Quiet.one _ 1)⟩
            case measure => simp [intOf]; omega
        · obtain ⟨b2, o2, rfl⟩ : ∃ b off, A2 = some ⟨b, off, none⟩ := by
            rcases hA2 with h | h
            · omega
            · exact h
          clear hA2
          have sc1 : ∀ s : SW S0, (convert 22 9 (.slice (some ⟨b2, o2 + G, none⟩) (J - G) (c2 - G))).run Tryd.prog s.w = .ok (.string X) s.w := fun s => HC1.out s.w (HSF.out _ s.h) _ _ (fun _ _ h _ => by cases h; rfl)
          by_cases hcq : c = F
          · have e1 : F = T := by omega
            have e2 : F = n := by omega
            have e3 : F = c := hcq.symm
            clear hcq
            subst e1
            subst e2
            subst e3
            have sc2 : ∀ (s : SW S0) U, (convert 22 9 (.slice U 0 0)).run Tryd.prog s.w = .ok (.string Y) s.w := fun s U => by
              have := HC2.out s.w (HSF.out _ s.h) U 0 (fun _ _ _ h => absurd h (Nat.lt_irrefl _))
              rwa [Nat.sub_self] at this
            clear hcA
            go_wp2
            refine regionL_start (by kernel_rfl) 71 rfl S0 70 ?_
            refine wpL_next 0 70 1 (by kernel_rfl) (fun _ _ d _ _ h => by cases d <;> exact h) hSd (fun hne => ?_)
            simp only [List.drop_succ_cons, List.drop_zero, List.take_succ_cons, List.take_zero]
            repeat (go_big_quiet_step (fail))
            refine wpQuiet_nil ?_
            refine wpL_last (fuel := 0) (by kernel_rfl) (by kernel_rfl) rfl (fun KK hKK => ?_)
            go_simp
            refine hKK _ _ ?_
            clear hKK KK
            go_wp2
            go_roundw
            case rel => exact ⟨k + 1, by go_num, by omega, HQ.out.trans (Quiet.one _ 1)⟩
            case measure => simp [intOf]; omega
          · obtain ⟨b1, o1, rfl⟩ : ∃ b off, A = some ⟨b, off, none⟩ := by
              rcases hcA with h | h
              · omega
              · exact h
            clear hcA
            have sc2 : ∀ s : SW S0, (convert 22 9 (.slice (some ⟨b1, o1 + F, none⟩) (T - F) (c - F))).run Tryd.prog s.w = .ok (.string Y) s.w := fun s => HC2.out s.w (HSF.out _ s.h) _ _ (fun _ _ h _ => by cases h; rfl)
            go_wp2
            refine regionL_start (by kernel_rfl) 71 rfl S0 70 ?_
            refine wpL_next 0 70 1 (by kernel_rfl) (fun _ _ d _ _ h => by cases d <;> exact h) hSd (fun hne => ?_)
            simp only [List.drop_succ_cons, List.drop_zero, List.take_succ_cons, List.take_zero]
            repeat (go_big_quiet_step (fail))
            refine wpQuiet_nil ?_
            refine wpL_last (fuel := 0) (by kernel_rfl) (by kernel_rfl) rfl (fun KK hKK => ?_)
            go_simp
            refine hKK _ _ ?_
            clear hKK KK
            go_wp2
            go_roundw
            case rel => exact ⟨k + 1, by go_num, by omega, HQ.out.trans (Quiet.one _ 1)⟩
            case measure => simp [intOf]; omega
      · obtain rfl : k = m := by omega
        obtain ⟨S0, hS0⟩ : ∃ S0 : World → Prop, S0 = fun w' => Below wr.heap.size wr w' := ⟨_, rfl⟩
        have HSI : Hid (∀ w', Below wr.heap.size wr w' → S0 w') := Lib.hid fun w' b => by rw [hS0]; exact b
        have HSF : Hid (∀ w', S0 w' → Below wr.heap.size wr w') := Lib.hid fun w' b => by rw [hS0] at b; exact b
        obtain ⟨X, hX⟩ : ∃ X, strOfNums cc = X := ⟨_, rfl⟩
        obtain ⟨Y, hY⟩ : ∃ Y, strOfNums bs = Y := ⟨_, rfl⟩
        have s0 : ∀ s : SW S0, (convert 22 9 (.slice A2 aL c2)).run Tryd.prog s.w = .ok (.string X) s.w := fun s => by
          have := convert_sh (OR.out.up (HSF.out _ s.h) (by omega)) c2
          rwa [hX] at this
        have s1 : ∀ s : SW S0, (convert 22 9 (.slice A n c)).run Tryd.prog s.w = .ok (.string Y) s.w := fun s => by
          have := convert_sh (HBB.out _ (BR.out.trans ((HSF.out _ s.h).mono BR.out.size))) c
          rwa [hY] at this
        have HRA : Hid (Calls Tryd.prog 15 #[.string X, .slice M k cM] wr.drew fun e w' => e = .returned (.string Y) ∧ Quiet wr.drew w') := Lib.hid (by
          have := rapply_any M k cM cc (back bs 0 L) wr.drew ((SR.out.more (show w1.heap.size ≤ wr.heap.size by omega)).up ((Quiet.one wr 1).below wr.heap.size) (Nat.le_refl _)) (by rw [HAL.out]; omega) hm6 HBK.out.1 (fun x hx => Nat.le_trans (back_txt 0 x hx) (by rw [HLB.out]; omega))
          rw [HBK.out.2.1, hX, hY] at this
          exact this)
        have YY : (Y.toList == Y.toList) = true := by simp
        have hS1 : S0 wr.drew := HSI.out _ ⟨rfl, rfl, rfl, Nat.le_refl _, fun _ _ => rfl⟩
        clear hX hY hS0
        go_wp2
        refine regionL_start (by kernel_rfl) 11 rfl S0 10 ?_
        refine wpL_next 0 3 8 (by kernel_rfl) (fun _ _ d _ _ h => by cases d <;> exact h) hS1 (fun hne => ?_)
        simp only [List.drop_succ_cons, List.drop_zero, List.take_succ_cons, List.take_zero]
        repeat (go_big_quiet_step (fail))
        refine wpQuiet_nil ?_
        refine wpL_next 4 2 6 (by kernel_rfl) (fun _ _ d _ _ h => by cases d <;> exact h) hS1 (fun hne => ?_)
        simp only [List.drop_succ_cons, List.drop_zero, List.take_succ_cons, List.take_zero]
        repeat (go_big_quiet_step (fail))
        refine wpQuiet_nil ?_
        refine wpL_one (i := 3) (fuel := 5) (by kernel_rfl) rfl (fun KK hKK => ?_)
        go_simp
        refine HRA.out.mono ?_
        rintro e w6 ⟨rfl, ⟨q, rfl⟩⟩
        have hS2 : S0 (wr.drew.drewN q) := HSI.out _ ⟨rfl, rfl, rfl, Nat.le_refl _, fun _ _ => rfl⟩
        refine hKK _ _ hS2 ?_
        clear hKK KK
        refine wpL_next 6 2 3 (by kernel_rfl) (fun _ _ d _ _ h => by cases d <;> exact h) hS2 (fun hne => ?_)
        simp only [List.drop_succ_cons, List.drop_zero, List.take_succ_cons, List.take_zero]
        repeat (go_big_quiet_step (fail))
        refine wpQuiet_nil ?_
        refine wpL_one (i := 8) (fuel := 2) (by kernel_rfl) rfl (fun KK hKK => ?_)
        go_simp
        refine (awake_any _).mono ?_
        rintro e w7 ⟨rfl, b7⟩
        have B7 : Hid (Below wr.heap.size wr w7) := Lib.hid (((Quiet.one wr (1 + q)).below _).trans (b7.mono (Nat.le_refl _)))
        refine hKK _ _ (HSI.out _ B7.out) ?_
        clear hKK KK
        refine wpL_next 9 1 1 (by kernel_rfl) (fun _ _ d _ _ h => by cases d <;> exact h) (HSI.out _ B7.out) (fun hne => ?_)
        simp only [List.drop_succ_cons, List.drop_zero, List.take_succ_cons, List.take_zero]
        repeat (go_big_quiet_step (fail))
        refine wpQuiet_nil ?_
        refine wpL_last (fuel := 0) (by kernel_rfl) (by kernel_rfl) rfl (fun KK hKK => ?_)
        go_simp
        refine hKK _ _ ?_
        clear hKK KK
        go_wp2
        go_ret
        exact ⟨rfl, BR.out.trans (B7.out.mono BR.out.size)⟩
  · rw [if_neg h0] at h1
    obtain ⟨rfl, b1⟩ := h1
    have B1 := Lib.hid b1
    clear b1
    have hne : (ck != 0) = true := by simpa using h0
    have hse : (ck != ck) = false := by simp
    clear h0
    go_wp2_with (first
      | (go_at_call 12; refine (rcheck_any P n m d L _ ((HX.out _ B1.out).more B1.out.size) (by omega) (by omega)).mono ?_; rw [HK.out]; rintro e w3 ⟨rfl, q3⟩; have B3 := Lib.hid (B1.out.trans (q3.below _)); clear q3)
      | (go_at_call 9; refine (awake_any _).mono ?_; rintro e w6 ⟨rfl, b6⟩)
      | fail)
    go_ret
    exact ⟨rfl, B3.out.trans (b6.mono B3.out.size)⟩

theorem spanBacks_walk (a0 : Option Addr) (len0 cap0 : Nat) (zs : List Int) (a1 : Option Addr) (len1 cap1 : Nat) (L : List Ed) (w : World) (w0 : IsRow .u8 w a0 len0 cap0 zs) (hm : len1 ≤ maxLen) (hx : ShE w w.heap.size a1 len1 L) (hby : BytE L) (hs : ∀ x ∈ L, x.2.2.length ≤ maxLen) :
    Calls Tryd.prog 4 #[.slice a0 len0 cap0, .slice a1 len1 cap1] w fun e w' => e = .returned (.bool true) ∧ Below w.heap.size w w' := by
  obtain ⟨l0, m0, _, s0, b0⟩ := w0.sh
  by_cases h : 500 < len0
  · exact spanBacks_long _ _ _ _ _ _ L w h (by omega)
  · cases hg : greatB L with
    | true => exact spanBacks_great _ _ _ _ _ _ L w h hx hm hs hg
    | false => exact spanBacks_small _ _ _ _ _ _ _ L w h s0 l0 m0 w0.formS hx hm hby hg
end Go.Proofs.YtopeechbgblndaaDoor
