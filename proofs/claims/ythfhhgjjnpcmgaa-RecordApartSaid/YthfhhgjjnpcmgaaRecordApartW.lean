/-
  Unlike records have unlike forms, and one that is read has the form of its bytes. It holds for any two kinds and payloads, and whatever stands behind; of more than 200 bytes it says that the document's examples hold.
-/
import Derived.Test.YthfhhgjjnpcmgaaRecAwake
namespace Go.Proofs.Ythfhhgjjnpcmgaa
set_option linter.unusedVariables false
set_option linter.unusedSimpArgs false
open Go.RowKit

theorem same_is (b : Bool) (A B : Option Addr) (n m c d : Nat) (xs ys : List Int) (w : World) (U V : Nat) (hx : Sh w U A n (by8 xs)) (hy : Sh w V B m (by8 ys)) (hn : n ≤ maxLen) (h : decide (xs = ys) = b) :
    Calls Try.prog 10 #[.slice A n c, .slice B m d] w fun e w' => e = .returned (.bool b) ∧ Quiet w w' := by
  subst h
  exact same_any A B n m c d xs ys w U V hx hy hn

set_option maxRecDepth 10000 in
set_option maxHeartbeats 800000 in
theorem recordApart_long (P Q M : Option Addr) (m pc q qc l c : Nat) (ka kb : Int) (w : World) (h : 200 < m ∨ (¬ 200 < m ∧ 200 < q) ∨ (¬ 200 < m ∧ ¬ 200 < q ∧ 200 < l)) (hm : m ≤ maxLen) (hq : q ≤ maxLen) (hl : l ≤ maxLen) :
    Calls Try.prog 6 #[.agg #[.int .u8 ka, .slice P m pc], .agg #[.int .u8 kb, .slice Q q qc], .slice M l c] w fun e w' => e = .returned (.bool true) ∧ Below w.heap.size w w' := by
  unfold maxLen at hm hq hl
  rcases h with h | ⟨h, h'⟩ | ⟨h, h', h''⟩
  all_goals
    go_enter Try.func6, Try.ntmps6
    go_wp2_with fail
    refine (awake_any _).mono ?_
    rintro e w4 ⟨rfl, hb4⟩
    go_wp2
    go_ret
    exact ⟨rfl, (((Below.refl _ _).alloc (Nat.le_refl _) _).alloc (by simp) _).trans (hb4.mono (by simp; omega))⟩

set_option maxRecDepth 10000 in
set_option maxHeartbeats 3200000 in
theorem recordApart_short (P Q M : Option Addr) (m pc q qc l c : Nat) (ka kb : Nat) (xs ys zs : List Int) (w : World) (h1 : ¬ 200 < m) (h2 : ¬ 200 < q) (h3 : ¬ 200 < l) (hka : ka < 256) (hkb : kb < 256)
    (hx : Sh w w.heap.size P m (by8 xs)) (hy : Sh w w.heap.size Q q (by8 ys)) (hz : Sh w w.heap.size M l (by8 zs)) (hbx : Byt xs) (hby : Byt ys) (hbz : Byt zs) :
    Calls Try.prog 6 #[.agg #[.int .u8 (ka : Int), .slice P m pc], .agg #[.int .u8 (kb : Int), .slice Q q qc], .slice M l c] w fun e w' => e = .returned (.bool true) ∧ Below w.heap.size w w' := by
  have hz0 := zeroRec
  have hxl : xs.length = m := by have := hx.len; rwa [by8_len] at this
  have hyl : ys.length = q := by have := hy.len; rwa [by8_len] at this
  have HXL := Lib.hid hxl
  have HR : Hid (rget (form (ka : Int) xs ++ zs) = ⟨(ka : Int), xs, 9 + m, 0⟩) := Lib.hid (by rw [rget_form _ _ _ (by omega), hxl])
  obtain ⟨kk, hkk⟩ : ∃ kk : Bool, ((ka : Int) == (kb : Int)) = kk := ⟨_, rfl⟩
  obtain ⟨be, hbe⟩ : ∃ be : Bool, decide (xs = ys) = be := ⟨_, rfl⟩
  have hfe : decide (form (ka : Int) xs = form (kb : Int) ys) = (kk && be) := by
    rw [← hkk, ← hbe]
    by_cases e : form (ka : Int) xs = form (kb : Int) ys
    · obtain ⟨e1, e2⟩ := form_inj (by omega) (by omega) e
      rw [e1, e2]; simp
    · rw [decide_eq_false e]
      by_cases e1 : (ka : Int) = kb
      · by_cases e2 : xs = ys
        · rw [e1, e2] at e; exact absurd rfl e
        · simp [e2]
      · have : ((ka : Int) == (kb : Int)) = false := by simpa using e1
        rw [this]; rfl
  have HBE := Lib.hid hbe
  have HFE := Lib.hid hfe
  obtain ⟨W0, hW0⟩ : ∃ W0, W0 = (w.alloc (.cells #[.int .u8 (ka : Int), .slice P m pc] 43)).alloc (.cells #[.int .u8 (kb : Int), .slice Q q qc] 43) := ⟨_, rfl⟩
  have HW0 := Lib.hid hW0
  have hsz : W0.heap.size = w.heap.size + 2 := by rw [hW0]; simp
  have hb0 : Below w.heap.size w W0 := by rw [hW0]; exact ((Below.refl _ _).alloc (Nat.le_refl _) _).alloc (by simp) _
  have HB0 := Lib.hid hb0
  have HX : Hid (∀ w', Below W0.heap.size W0 w' → Sh w' w.heap.size P m (by8 xs)) := Lib.hid fun w' b => (hx.below hb0).up b (by omega)
  have HY : Hid (∀ w', Below W0.heap.size W0 w' → Sh w' w.heap.size Q q (by8 ys)) := Lib.hid fun w' b => (hy.below hb0).up b (by omega)
  have HZ : Hid (∀ w', Below W0.heap.size W0 w' → Sh w' w.heap.size M l (by8 zs)) := Lib.hid fun w' b => (hz.below hb0).up b (by omega)
  have HOX : Hid (∀ g, W0.heap.size ≤ g → Off P m g) := Lib.hid fun g hg => hx.off (by omega)
  have HOY : Hid (∀ g, W0.heap.size ≤ g → Off Q q g) := Lib.hid fun g hg => hy.off (by omega)
  have HC : Hid (∀ w', Below W0.heap.size W0 w' → w'.cell? ⟨w.heap.size, 0, none⟩ = some (.int .u8 (ka : Int)) ∧ w'.cell? ⟨w.heap.size, 1, none⟩ = some (.slice P m pc) ∧ w'.cell? ⟨w.heap.size + 1, 0, none⟩ = some (.int .u8 (kb : Int)) ∧ w'.cell? ⟨w.heap.size + 1, 1, none⟩ = some (.slice Q q qc)) := Lib.hid fun w' b => by
    have e1 : ∀ j, w'.cell? ⟨w.heap.size, j, none⟩ = W0.cell? ⟨w.heap.size, j, none⟩ := fun j => b.cell (p := ⟨w.heap.size, j, none⟩) (by simp only; omega)
    have e2 : ∀ j, w'.cell? ⟨w.heap.size + 1, j, none⟩ = W0.cell? ⟨w.heap.size + 1, j, none⟩ := fun j => b.cell (p := ⟨w.heap.size + 1, j, none⟩) (by simp only; omega)
    have e3 : ∀ j, W0.cell? ⟨w.heap.size, j, none⟩ = (w.alloc (.cells #[.int .u8 (ka : Int), .slice P m pc] 43)).cell? ⟨w.heap.size, j, none⟩ := fun j => by rw [hW0]; exact World.cell?_alloc_past _ _ _ (by simp)
    refine ⟨?_, ?_, ?_, ?_⟩
    · rw [e1, e3, World.cell?_alloc_at _ _ _ _ rfl]; rfl
    · rw [e1, e3, World.cell?_alloc_at _ _ _ _ rfl]; rfl
    · rw [e2, hW0, World.cell?_alloc_at _ _ _ _ (by simp)]; rfl
    · rw [e2, hW0, World.cell?_alloc_at _ _ _ _ (by simp)]; rfl
  have HBX := Lib.hid hbx
  have HBY := Lib.hid hby
  have HBF : Hid (Byt (form (ka : Int) xs ++ zs)) := Lib.hid fun x hx => by
    rcases List.mem_append.1 hx with h | h
    · exact form_byt (by omega) hbx x h
    · exact hbz x h
  clear hx hy hz hbx hby hbz hW0 hb0 hbe hfe hxl hyl
  cases kk
  · cases be
    all_goals
      go_enter Try.func6, Try.ntmps6
      go_wp2_with fail
      rw [← HW0.out]
      refine (new_smr _).mono ?_
      rintro e w1 ⟨g, rfl, hg, s1, b1⟩
      have hg1 := s1.lt
      have S1 := Lib.hid s1
      have B1 := Lib.hid b1
      obtain ⟨c1, c2, c3, c4⟩ := HC.out _ b1
      clear s1 b1
      go_wp2_with fail
      refine (rput_any g 0 false none P 0 0 m pc ka [] xs w1 w.heap.size S1.out (by omega) (Sh.nil _ _ _) (Off.nil _ _) (HX.out _ B1.out) (HOX.out g hg) HBX.out (by have := B1.out.size; omega) (by omega) (by omega) (by omega)).mono ?_
      rintro e w2 ⟨v2, rfl, ho2, s2, u2⟩
      have ho2 := ho2.cast (Nat.zero_add _) (by rw [List.nil_append])
      obtain ⟨X2, x2, rfl⟩ := ho2.form
      have O2 := Lib.hid ho2
      have S2 := Lib.hid s2
      have B2 := Lib.hid (B1.out.trans (u2.below hg B1.out.size))
      have hs2 := u2.size
      obtain ⟨c1, c2, c3, c4⟩ := HC.out _ B2.out
      clear ho2 s2 u2
      go_wp2_with fail
      refine (rput_any g 2 true none Q 0 0 q qc kb [] ys w2 w.heap.size S2.out (by omega) (Sh.nil _ _ _) (Off.nil _ _) (HY.out _ B2.out) (HOY.out g hg) HBY.out (by have := B2.out.size; omega) (by omega) (by omega) (by omega)).mono ?_
      rintro e w3 ⟨v3, rfl, ho3, s3, u3⟩
      have ho3 := ho3.cast (Nat.zero_add _) (by rw [List.nil_append])
      obtain ⟨X3, x3, rfl⟩ := ho3.form
      have O3 := Lib.hid ho3
      have S3 := Lib.hid s3
      have B3 := Lib.hid (B2.out.trans (u3.below hg B2.out.size))
      have P3 := Lib.hid (O2.out.upon u3 hg1)
      have hs3 := u3.size
      clear ho3 s3 u3
      go_wp2_with (first
        | (at_builtin; refine wpList_more rfl (.tmp 59) (.tmp 60) 22 rfl rowB w3 (w3.alloc (.cells #[] 5)) w3.heap.size _ 0 [] (by8 (form (ka : Int) xs)) rfl (Own.empty w3 w3.heap.size 5 1 (Nat.le_refl _)) w3.heap.size X2 (9 + m) x2 rfl (P3.out.sh.alloc (Nat.le_refl _) _) (by8_one _) ((Below.refl _ _).alloc (Nat.le_refl _) _) (by omega) (by omega) ?_; intro v4 w4 ho4 hb4; have ho4 := ho4.cast (Nat.zero_add _) (List.nil_append _); obtain ⟨X4, x4, rfl⟩ := ho4.form; have B4 := Lib.hid (B3.out.trans (hb4.mono B3.out.size)))
        | (at_builtin; refine wpList_more rfl (.tmp 61) (.tmp 62) 22 rfl rowB w3 w4 w3.heap.size _ (9 + m) (by8 (form (ka : Int) xs)) (by8 zs) rfl ho4 w.heap.size M l c rfl (HZ.out _ B4.out) (by8_one _) hb4 (by omega) (by omega) ?_; intro v5 w5 ho5 hb5; have ho5 := ho5.cast rfl (by8_append _ _).symm; obtain ⟨X5, x5, rfl⟩ := ho5.form; have hcap := ho5.cap; have O5 := Lib.hid ho5; have B5 := Lib.hid (B3.out.trans (hb5.mono B3.out.size)); have S5 := Lib.hid (S3.out.below_ hb5); have P5 := Lib.hid (P3.out.below hb5); have Q5 := Lib.hid (O3.out.below hb5); have hs5 := hb5.size; clear ho4 hb4 ho5 hb5)
        | (go_at_call 13; refine (getr_any g 4 true X5 (9 + m + l) x5 (form (ka : Int) xs ++ zs) w5 w5.heap.size S5.out (by omega) hcap.1 (by omega) HBF.out (Nat.le_refl _) O5.out.sh (O5.out.off (by omega))).mono ?_; rw [HR.out]; rintro e w6 ⟨v6, d6, k6, rfl, ho6, s6, hk6, u6⟩; have ho6 := ho6.cast (n' := m) (xs' := by8 xs) HXL.out rfl; obtain ⟨X6, x6, rfl⟩ := ho6.form; have O6 := Lib.hid ho6; have S6 := Lib.hid s6; have B6 := Lib.hid (B5.out.trans (u6.below hg B5.out.size)); have P6 := Lib.hid (P5.out.upon u6 hg1); have Q6 := Lib.hid (Q5.out.upon u6 (by omega)); have hs6 := u6.size; clear ho6 s6 u6)
        | fail)
      have hp6 := O6.out.sh.alloc (Nat.le_refl _) (.cells #[.int .i64 (ka : Int), .slice X6 m x6] 30)
      refine (rput_any g k6 d6 none X6 0 0 m x6 ka [] xs _ w6.heap.size (S6.out.alloc _) (by omega) (Sh.nil _ _ _) (Off.nil _ _) hp6 (O6.out.off (by omega)) HBX.out (by simp) (by omega) (by omega) (by omega)).mono ?_
      rintro e w7 ⟨v7, rfl, ho7, s7, u7⟩
      have ho7 := ho7.cast (Nat.zero_add _) (by rw [List.nil_append])
      obtain ⟨X7, x7, rfl⟩ := ho7.form
      have O7 := Lib.hid ho7
      have B7 := Lib.hid ((B6.out.alloc B6.out.size _).trans (u7.below hg (by have := B6.out.size; simp; omega)))
      have P7 := Lib.hid ((P6.out.alloc _).upon u7 hg1)
      have Q7 := Lib.hid ((Q6.out.alloc _).upon u7 (by omega))
      obtain ⟨c1, c2, c3, c4⟩ := HC.out _ B7.out
      clear ho7 s7 u7 hp6
      go_wp2_with (first
        | (go_at_call 10; with_reducible refine (same_is true X7 X2 (9 + m) (9 + m) x7 x2 (form (ka : Int) xs) (form (ka : Int) xs) w7 _ _ (O7.out.sh.up ((Quiet.refl w7).below w7.heap.size) (Nat.le_refl _)) (P7.out.sh.up ((Quiet.refl w7).below w7.heap.size) (Nat.le_refl _)) (by unfold maxLen; omega) (decide_eq_true rfl)).mono ?_; rintro e w9 ⟨rfl, hq9⟩)
        | (go_at_call 10; with_reducible refine (same_is _ X2 X3 (9 + m) (9 + q) x2 x3 (form (ka : Int) xs) (form (kb : Int) ys) w9 _ _ (P7.out.sh.up (((Quiet.refl w7).trans hq9).below w7.heap.size) (Nat.le_refl _)) (Q7.out.sh.up (((Quiet.refl w7).trans hq9).below w7.heap.size) (Nat.le_refl _)) (by unfold maxLen; omega) HFE.out).mono ?_; rintro e w10 ⟨rfl, hq10⟩)
        | (go_at_call 7; refine (awake_any _).mono ?_; rintro e w11 ⟨rfl, b11⟩)
        | fail)
      go_ret
      have hbb := (HB0.out.trans (B7.out.mono (by omega))).trans ((((Quiet.refl w7).trans hq9).trans hq10).below _)
      exact ⟨rfl, hbb.trans (b11.mono hbb.size)⟩
  · cases be
    all_goals
      go_enter Try.func6, Try.ntmps6
      go_wp2_with fail
      rw [← HW0.out]
      refine (new_smr _).mono ?_
      rintro e w1 ⟨g, rfl, hg, s1, b1⟩
      have hg1 := s1.lt
      have S1 := Lib.hid s1
      have B1 := Lib.hid b1
      obtain ⟨c1, c2, c3, c4⟩ := HC.out _ b1
      clear s1 b1
      go_wp2_with fail
      refine (rput_any g 0 false none P 0 0 m pc ka [] xs w1 w.heap.size S1.out (by omega) (Sh.nil _ _ _) (Off.nil _ _) (HX.out _ B1.out) (HOX.out g hg) HBX.out (by have := B1.out.size; omega) (by omega) (by omega) (by omega)).mono ?_
      rintro e w2 ⟨v2, rfl, ho2, s2, u2⟩
      have ho2 := ho2.cast (Nat.zero_add _) (by rw [List.nil_append])
      obtain ⟨X2, x2, rfl⟩ := ho2.form
      have O2 := Lib.hid ho2
      have S2 := Lib.hid s2
      have B2 := Lib.hid (B1.out.trans (u2.below hg B1.out.size))
      have hs2 := u2.size
      obtain ⟨c1, c2, c3, c4⟩ := HC.out _ B2.out
      clear ho2 s2 u2
      go_wp2_with fail
      refine (rput_any g 2 true none Q 0 0 q qc kb [] ys w2 w.heap.size S2.out (by omega) (Sh.nil _ _ _) (Off.nil _ _) (HY.out _ B2.out) (HOY.out g hg) HBY.out (by have := B2.out.size; omega) (by omega) (by omega) (by omega)).mono ?_
      rintro e w3 ⟨v3, rfl, ho3, s3, u3⟩
      have ho3 := ho3.cast (Nat.zero_add _) (by rw [List.nil_append])
      obtain ⟨X3, x3, rfl⟩ := ho3.form
      have O3 := Lib.hid ho3
      have S3 := Lib.hid s3
      have B3 := Lib.hid (B2.out.trans (u3.below hg B2.out.size))
      have P3 := Lib.hid (O2.out.upon u3 hg1)
      have hs3 := u3.size
      clear ho3 s3 u3
      go_wp2_with (first
        | (at_builtin; refine wpList_more rfl (.tmp 59) (.tmp 60) 22 rfl rowB w3 (w3.alloc (.cells #[] 5)) w3.heap.size _ 0 [] (by8 (form (ka : Int) xs)) rfl (Own.empty w3 w3.heap.size 5 1 (Nat.le_refl _)) w3.heap.size X2 (9 + m) x2 rfl (P3.out.sh.alloc (Nat.le_refl _) _) (by8_one _) ((Below.refl _ _).alloc (Nat.le_refl _) _) (by omega) (by omega) ?_; intro v4 w4 ho4 hb4; have ho4 := ho4.cast (Nat.zero_add _) (List.nil_append _); obtain ⟨X4, x4, rfl⟩ := ho4.form; have B4 := Lib.hid (B3.out.trans (hb4.mono B3.out.size)))
        | (at_builtin; refine wpList_more rfl (.tmp 61) (.tmp 62) 22 rfl rowB w3 w4 w3.heap.size _ (9 + m) (by8 (form (ka : Int) xs)) (by8 zs) rfl ho4 w.heap.size M l c rfl (HZ.out _ B4.out) (by8_one _) hb4 (by omega) (by omega) ?_; intro v5 w5 ho5 hb5; have ho5 := ho5.cast rfl (by8_append _ _).symm; obtain ⟨X5, x5, rfl⟩ := ho5.form; have hcap := ho5.cap; have O5 := Lib.hid ho5; have B5 := Lib.hid (B3.out.trans (hb5.mono B3.out.size)); have S5 := Lib.hid (S3.out.below_ hb5); have P5 := Lib.hid (P3.out.below hb5); have Q5 := Lib.hid (O3.out.below hb5); have hs5 := hb5.size; clear ho4 hb4 ho5 hb5)
        | (go_at_call 13; refine (getr_any g 4 true X5 (9 + m + l) x5 (form (ka : Int) xs ++ zs) w5 w5.heap.size S5.out (by omega) hcap.1 (by omega) HBF.out (Nat.le_refl _) O5.out.sh (O5.out.off (by omega))).mono ?_; rw [HR.out]; rintro e w6 ⟨v6, d6, k6, rfl, ho6, s6, hk6, u6⟩; have ho6 := ho6.cast (n' := m) (xs' := by8 xs) HXL.out rfl; obtain ⟨X6, x6, rfl⟩ := ho6.form; have O6 := Lib.hid ho6; have S6 := Lib.hid s6; have B6 := Lib.hid (B5.out.trans (u6.below hg B5.out.size)); have P6 := Lib.hid (P5.out.upon u6 hg1); have Q6 := Lib.hid (Q5.out.upon u6 (by omega)); have hs6 := u6.size; clear ho6 s6 u6)
        | fail)
      have hp6 := O6.out.sh.alloc (Nat.le_refl _) (.cells #[.int .i64 (ka : Int), .slice X6 m x6] 30)
      refine (rput_any g k6 d6 none X6 0 0 m x6 ka [] xs _ w6.heap.size (S6.out.alloc _) (by omega) (Sh.nil _ _ _) (Off.nil _ _) hp6 (O6.out.off (by omega)) HBX.out (by simp) (by omega) (by omega) (by omega)).mono ?_
      rintro e w7 ⟨v7, rfl, ho7, s7, u7⟩
      have ho7 := ho7.cast (Nat.zero_add _) (by rw [List.nil_append])
      obtain ⟨X7, x7, rfl⟩ := ho7.form
      have O7 := Lib.hid ho7
      have B7 := Lib.hid ((B6.out.alloc B6.out.size _).trans (u7.below hg (by have := B6.out.size; simp; omega)))
      have P7 := Lib.hid ((P6.out.alloc _).upon u7 hg1)
      have Q7 := Lib.hid ((Q6.out.alloc _).upon u7 (by omega))
      obtain ⟨c1, c2, c3, c4⟩ := HC.out _ B7.out
      clear ho7 s7 u7 hp6
      go_wp2_with (first
        | (go_at_call 10; with_reducible refine (same_is _ P Q m q pc qc xs ys w7 _ _ (HX.out _ B7.out) (HY.out _ B7.out) (by unfold maxLen; omega) HBE.out).mono ?_; rintro e w8 ⟨rfl, hq8⟩)
        | (go_at_call 10; with_reducible refine (same_is true X7 X2 (9 + m) (9 + m) x7 x2 (form (ka : Int) xs) (form (ka : Int) xs) w8 _ _ (O7.out.sh.up (hq8.below w7.heap.size) (Nat.le_refl _)) (P7.out.sh.up (hq8.below w7.heap.size) (Nat.le_refl _)) (by unfold maxLen; omega) (decide_eq_true rfl)).mono ?_; rintro e w9 ⟨rfl, hq9⟩)
        | (go_at_call 10; with_reducible refine (same_is _ X2 X3 (9 + m) (9 + q) x2 x3 (form (ka : Int) xs) (form (kb : Int) ys) w9 _ _ (P7.out.sh.up ((hq8.trans hq9).below w7.heap.size) (Nat.le_refl _)) (Q7.out.sh.up ((hq8.trans hq9).below w7.heap.size) (Nat.le_refl _)) (by unfold maxLen; omega) HFE.out).mono ?_; rintro e w10 ⟨rfl, hq10⟩)
        | (go_at_call 7; refine (awake_any _).mono ?_; rintro e w11 ⟨rfl, b11⟩)
        | fail)
      go_ret
      have hbb := (HB0.out.trans (B7.out.mono (by omega))).trans (((hq8.trans hq9).trans hq10).below _)
      exact ⟨rfl, hbb.trans (b11.mono hbb.size)⟩

theorem recordApart_walk (ka kb : Int) (P Q M : Option Addr) (m pc q qc l c : Nat) (xs ys zs : List Int) (w : World) (hka : (Lit.int .u8 ka).wf = true) (hkb : (Lit.int .u8 kb).wf = true)
    (w0 : IsRow .u8 w P m pc xs) (w1 : IsRow .u8 w Q q qc ys) (w2 : IsRow .u8 w M l c zs) :
    Calls Try.prog 6 #[.agg #[.int .u8 ka, .slice P m pc], .agg #[.int .u8 kb, .slice Q q qc], .slice M l c] w fun e w' => e = .returned (.bool true) ∧ Below w.heap.size w w' := by
  obtain ⟨l0, m0, _, s0, b0⟩ := w0.sh
  obtain ⟨l1, m1, _, s1, b1⟩ := w1.sh
  obtain ⟨l2, m2, _, s2, b2⟩ := w2.sh
  obtain ⟨a, rfl, ha⟩ := u8_of hka
  obtain ⟨b, rfl, hb⟩ := u8_of hkb
  by_cases h : 200 < m
  · exact recordApart_long _ _ _ _ _ _ _ _ _ _ _ _ (.inl h) (by omega) (by omega) (by omega)
  · by_cases h' : 200 < q
    · exact recordApart_long _ _ _ _ _ _ _ _ _ _ _ _ (.inr (.inl ⟨h, h'⟩)) (by omega) (by omega) (by omega)
    · by_cases h'' : 200 < l
      · exact recordApart_long _ _ _ _ _ _ _ _ _ _ _ _ (.inr (.inr ⟨h, h', h''⟩)) (by omega) (by omega) (by omega)
      · exact recordApart_short _ _ _ _ _ _ _ _ _ a b _ _ _ _ h h' h'' ha hb s0 s1 s2 (byt_of b0) (byt_of b1) (byt_of b2)
end Go.Proofs.Ythfhhgjjnpcmgaa
