/-
  blazonlaw09.StmtDeep, walked: what is read stands in no more blocks than there may be; two texts, one behind the other, are read as both.
-/
import Derived.Test.YtpllkjfdaenalaaDoorStDr
import Derived.Test.YtpllkjfdaenalaaDoorStAw
namespace Go.Proofs.YtpllkjfdaenalaaDoor
set_option linter.unusedVariables false
set_option linter.unusedSimpArgs false
open Go.RowKit

theorem stmtDeep_long (A B : Option Addr) (n m c d : Nat) (w : World) (h : 700 < n ∨ (¬ 700 < n ∧ 700 < m)) (hm : n ≤ maxLen) (hm2 : m ≤ maxLen) (hv : Vars w) :
    Calls Tryd.prog 3 #[.slice A n c, .slice B m d] w fun e w' => e = .returned (.bool true) ∧ Below w.heap.size w w' := by
  unfold maxLen at hm hm2
  have h' : (700 : Int) < (n : Int) ∨ (¬ (700 : Int) < (n : Int) ∧ (700 : Int) < (m : Int)) := by omega
  clear h
  rcases h' with h1 | ⟨h1, h2⟩
  all_goals
    go_enter Tryd.func3, Tryd.ntmps3
    go_wp2_with (go_at_call 5; refine (awake9_any _ hv).mono ?_; rintro e w1 ⟨rfl, b1⟩)
    go_ret
    exact ⟨rfl, b1⟩
set_option maxRecDepth 100000 in
set_option maxHeartbeats 1600000 in
theorem stmtDeep_short (A B : Option Addr) (n m c d : Nat) (xs ys : List Int) (w : World) (h1 : ¬ 700 < n) (h2 : ¬ 700 < m) (hnc : n ≤ c) (hmd : m ≤ d) (hcm : c ≤ maxLen) (hdm : d ≤ maxLen) (hx : Sh w w.heap.size A n (by8 xs)) (hy : Sh w w.heap.size B m (by8 ys)) (hbx : Byt8 xs) (hby : Byt8 ys) (hv : Vars w) :
    Calls Tryd.prog 3 #[.slice A n c, .slice B m d] w fun e w' => e = .returned (.bool true) ∧ Below w.heap.size w w' := by
  have hl : xs.length = n := by have := hx.len; rwa [by8_len] at this
  have hl2 : ys.length = m := by have := hy.len; rwa [by8_len] at this
  have hvs := hv.size
  have XX := Lib.hid (fun w' (b : Below w.heap.size w w') => (hx.below b).more b.size)
  have YY := Lib.hid (fun w' (b : Below w.heap.size w w') => (hy.below b).more b.size)
  have HAW : Hid (∀ W, Below w.heap.size w W → Calls Tryd.prog 5 #[] W fun e w' => e = .returned (.bool true) ∧ Below W.heap.size W w') := Lib.hid fun W hW => awake9_any W (hv.under hW hvs)
  have hbz : Byt8 (xs ++ 10 :: ys) := fun x hx => by
    rcases List.mem_append.1 hx with hx | hx
    · exact hbx x hx
    · rcases List.mem_cons.1 hx with rfl | hx
      · decide
      · exact hby x hx
  obtain ⟨X, hX⟩ : ∃ X, parseS (rowT (strOfNums xs) (live xs 0)) (live xs 0) 22500 4300 = X := ⟨_, rfl⟩
  obtain ⟨Y, hY⟩ : ∃ Y, parseS (rowT (strOfNums ys) (live ys 0)) (live ys 0) 22500 4300 = Y := ⟨_, rfl⟩
  obtain ⟨Z, hZ⟩ : ∃ Z, parseS (rowT (strOfNums (xs ++ 10 :: ys)) (live (xs ++ 10 :: ys) 0)) (live (xs ++ 10 :: ys) 0) 22500 4300 = Z := ⟨_, rfl⟩
  have HPA : Hid (∀ W, Below w.heap.size w W → Calls Tryd.prog 6 #[.slice A n c] W (PaTo X W)) := Lib.hid fun W hW => by
    rw [← hX]
    exact sparse_any A n c xs W (XX.out W hW) hbx (by omega) hnc hcm (hv.under hW hvs) 22500 4300 (by omega) (by omega)
  have HPB : Hid (∀ W, Below w.heap.size w W → Calls Tryd.prog 6 #[.slice B m d] W (PaTo Y W)) := Lib.hid fun W hW => by
    rw [← hY]
    exact sparse_any B m d ys W (YY.out W hW) hby (by omega) hmd hdm (hv.under hW hvs) 22500 4300 (by omega) (by omega)
  have HPC : Hid (∀ W A' c', Below w.heap.size w W → Sh W W.heap.size A' (n + 1 + m) (by8 (xs ++ 10 :: ys)) → n + 1 + m ≤ c' → c' ≤ maxLen → Calls Tryd.prog 6 #[.slice A' (n + 1 + m) c'] W (PaTo Z W)) := Lib.hid fun W A' c' hW hs g1 g2 => by
    rw [← hZ]
    exact sparse_any A' (n + 1 + m) c' (xs ++ 10 :: ys) W hs hbz (by omega) g1 g2 (hv.under hW hvs) 22500 4300 (by omega) (by omega)
  have hfx := parseS_facts hbx (by omega) 22500 4300
  have hfy := parseS_facts hby (by omega) 22500 4300
  have hjn := fun (a : X.2.2 = 0) (b : Y.2.2 = 0) => parseS_join hbx hby (by omega) (by omega) (F := 22500) (f := 4300) (by omega) (by omega) (by rw [hX]; exact a) (by rw [hY]; exact b)
  rw [hX] at hfx
  rw [hY] at hfy
  rw [hX, hY, hZ] at hjn
  have HXW : Hid (∀ x ∈ X.1, x.wfs) := Lib.hid hfx.2.1
  have HDE := Lib.hid (deep_any X.1 (by have := hfx.2.2; omega) (by have := hfx.1; omega) hfx.2.1)
  have HSM := Lib.hid (sameS_any X.1 (by have := hfx.2.2; omega) hfx.2.1)
  have hdx : dps X.1 ≤ 32 := hfx.1
  have hlx : X.1.length ≤ 700 := by have := hfx.2.2; omega
  have hly : Y.1.length ≤ 700 := by have := hfy.2.2; omega
  have HJ := Lib.hid hjn
  have HL := Lib.hid hl
  have HL2 := Lib.hid hl2
  have HC := Lib.hid hcm
  have HD := Lib.hid hdm
  have g1 : ¬ (700 : Int) < (n : Int) := by omega
  have g2 : ¬ (700 : Int) < (m : Int) := by omega
  have HB := Lib.hid (Below.refl w.heap.size w)
  obtain ⟨D, hD⟩ : ∃ D, dps X.1 = D := ⟨_, rfl⟩
  unfold DepS at HDE
  unfold SamS at HSM
  rw [hD] at hdx HDE
  have hd1 : ¬ (32 : Int) < (D : Int) := by omega
  obtain ⟨X1, X2, X3⟩ := X
  obtain ⟨Y1, Y2, Y3⟩ := Y
  dsimp only at HDE HSM hlx hly HJ
  clear hl hl2 hx hy hcm hdm hv hX hY hZ hfx hfy hjn hbx hby hbz hD
  have HTY : Hid (∀ W S lv, ShS W S lv X1 → Calls Tryd.prog 7 #[lv] W fun r w' => r = .returned (.int .i64 (D : Int)) ∧ Below W.heap.size W w') := Lib.hid fun W S lv h => HDE.out lv W S h
  by_cases hz : X3 = 0
  · subst hz
    by_cases hz2 : Y3 = 0
    · subst hz2
      have hZ := HJ.out rfl rfl
      subst hZ
      go_enter Tryd.func3, Tryd.ntmps3
      go_wp2_with (first
        | (go_at_call 6; first
            | ((with_reducible refine (HPA.out _ HB.out).mono ?_); rintro e w1 ⟨lv, rfl, hs, b⟩; have HB1 := Lib.hid (HB.out.trans (b.mono HB.out.size)); have HS := Lib.hid hs; clear b hs; dsimp only)
            | ((with_reducible refine (HPB.out _ HB1.out).mono ?_); rintro e w2 ⟨lv2, rfl, hs, b⟩; have HB2 := Lib.hid (HB1.out.trans (b.mono HB1.out.size)); have HS := Lib.hid (HS.out.under b); have HS2 := Lib.hid hs; clear b hs; dsimp only))
        | (go_at_call 7; (with_reducible refine (HTY.out _ _ _ HS.out).mono ?_); rintro e w3 ⟨rfl, b⟩; have HB3 := Lib.hid (HB2.out.trans (b.mono HB2.out.size)); have HS := Lib.hid (HS.out.under b); have HS2 := Lib.hid (HS2.out.under b); clear b; dsimp only; refine Hid.out ?_)
        | fail)
      have HS3 : Hid (ShS w3 (fun _ => True) lv X1) := Lib.hid (HS.out.weak fun _ _ _ => trivial)
      have HS4 : Hid (ShS w3 (fun _ => True) lv2 Y1) := Lib.hid (HS2.out.weak fun _ _ _ => trivial)
      obtain ⟨A5, c5, rfl, _⟩ := HS3.out.len
      obtain ⟨A6, c6, rfl, _⟩ := HS4.out.len
      clear HS HS2
      have hge3 := HB3.out.size
      refine Lib.hid ?_
      go_wp2_with (first
        | (at_builtin; refine wpList_more rfl (.tmp 46) (.tmp 47) 22 rfl rowB w3 (w3.alloc (.cells #[] 5)) w3.heap.size _ 0 [] (by8 xs) rfl (Own.empty w3 w3.heap.size 5 1 (Nat.le_refl _)) _ A n c rfl (XX.out _ (HB3.out.alloc hge3 _)) (by8_one _) ((Below.refl _ _).alloc (Nat.le_refl _) _) (by omega) (by omega) ?_; intro v1 u1 ho1 hb1; have ho1 := ho1.cast (Nat.zero_add _) (List.nil_append _))
        | (at_builtin; refine wpList_more rfl (.tmp 48) (.tmp 49) 22 rfl rowB w3 _ w3.heap.size _ n (by8 xs) (by8 [10]) rfl (ho1.alloc _) (u1.heap.size + 1) (some ⟨u1.heap.size, 0, none⟩) 1 1 rfl (Sh.lit u1 (by8 [10]) 5) (by8_one _) (hb1.alloc hb1.size _) (by omega) (by omega) ?_; intro v2 u2 ho2 hb2; have ho2 := ho2.cast rfl (by8_append _ _).symm)
        | (at_builtin; refine wpList_more rfl (.tmp 52) (.tmp 53) 22 rfl rowB w3 _ w3.heap.size _ (n + 1) (by8 (xs ++ [10])) (by8 ys) rfl ho2 _ B m d rfl (YY.out _ (HB3.out.trans (hb2.mono hge3))) (by8_one _) hb2 (by omega) (by omega) ?_; intro v3 u3 ho3 hb3; have ho3 := ho3.cast rfl (by8_append _ _).symm; obtain ⟨G, gc, rfl⟩ := ho3.form; refine Hid.out ?_)
        | fail)
      have hcap := ho3.cap
      have hja : xs ++ [10] ++ ys = xs ++ 10 :: ys := by simp
      have HS5 := Lib.hid ho3.sh
      rw [hja] at HS5
      have HB5 := Lib.hid (HB3.out.trans (hb3.mono hge3))
      have HT3 := Lib.hid (HS3.out.keep (S' := fun _ => True) (w' := u3) fun b _ h => ⟨trivial, Nat.lt_of_lt_of_le h hb3.size, hb3.block b h⟩)
      have HT4 := Lib.hid (HS4.out.keep (S' := fun _ => True) (w' := u3) fun b _ h => ⟨trivial, Nat.lt_of_lt_of_le h hb3.size, hb3.block b h⟩)
      have HP := Lib.hid (HPC.out _ _ _ HB5.out HS5.out hcap.1 hcap.2)
      clear ho1 hb1 ho2 hb2 ho3 hb3 hja HS3 HS4 HPC HS5
      refine Lib.hid ?_
      go_wp2_with (first
        | (go_at_call 6; (with_reducible refine HP.out.mono ?_); rintro e w6 ⟨lv6, rfl, hs, b⟩; have HB6 := Lib.hid (HB5.out.trans (b.mono HB5.out.size)); have HT3 := Lib.hid (HT3.out.under b); have HT6 := Lib.hid hs; clear b hs; dsimp only; refine Hid.out ?_)
        | fail)
      obtain ⟨A7, c7, rfl, hc7⟩ := HT6.out.len
      have hlen : (X1 ++ Y1.map (St.sh ((xs.length : Int) + 1))).length = X1.length + Y1.length := by rw [List.length_append, List.length_map]
      have HT7 : Hid (ShS w6 (fun b => u3.heap.size ≤ b) (.slice A7 (X1.length + Y1.length) c7) (X1 ++ Y1.map (St.sh ((xs.length : Int) + 1)))) := Lib.hid (by have := HT6.out; rwa [hlen] at this)
      have HSS := Lib.hid (fun W (hW : Below w6.heap.size w6 W) => HSM.out (.slice A7 X1.length c7) (.slice A5 X1.length c5) W _ _ (HT7.out.take.under hW) (HT3.out.under hW))
      rw [hlen] at hc7 ⊢
      have e1 : (((xs.length : Int) + 1 + (ys.length : Int)) == (n : Int) + 1 + (m : Int)) = true := by rw [HL.out, HL2.out]; simp
      have e3 : decide ((xs.length : Int) + 1 + (ys.length : Int) = (n : Int) + 1 + (m : Int)) = true := by rw [HL.out, HL2.out]; simp
      have e2 : ((((X1.length + Y1.length : Nat)) : Int) == (X1.length : Int) + (Y1.length : Int)) = true := by simp
      have e4 : X1.length ≤ c7 := by omega
      have e5 : (X1.length : Int) ≤ (c7 : Int) := by omega
      clear HT6 HT7 HT3 HT4
      refine Lib.hid ?_
      go_wp2_with (first
        | (go_at_call 8; (with_reducible refine (HSS.out _ (Below.refl _ _)).mono ?_); rintro e w7 ⟨rfl, b⟩; have HB7 := Lib.hid (HB6.out.trans (b.mono HB6.out.size)); clear b)
        | (go_at_call 5; (with_reducible refine (HAW.out _ HB7.out).mono ?_); rintro e w8 ⟨rfl, b⟩; have HB8 := Lib.hid (HB7.out.trans (b.mono HB7.out.size)); clear b)
        | fail)
      go_ret
      exact ⟨rfl, HB8.out⟩
    · have hr1 : (Y3 == 0) = false := by simp [hz2]
      have hr2 : (Y3 != 0) = true := by simp [hz2]
      have hr3 : decide (Y3 = 0) = false := by simp [hz2]
      go_enter Tryd.func3, Tryd.ntmps3
      go_wp2_with (first
        | (go_at_call 6; first
            | ((with_reducible refine (HPA.out _ HB.out).mono ?_); rintro e w1 ⟨lv, rfl, hs, b⟩; have HB1 := Lib.hid (HB.out.trans (b.mono HB.out.size)); have HS := Lib.hid hs; clear b hs; dsimp only)
            | ((with_reducible refine (HPB.out _ HB1.out).mono ?_); rintro e w2 ⟨lv2, rfl, hs, b⟩; have HB2 := Lib.hid (HB1.out.trans (b.mono HB1.out.size)); have HS := Lib.hid (HS.out.under b); clear b hs; dsimp only))
        | (go_at_call 7; (with_reducible refine (HTY.out _ _ _ HS.out).mono ?_); rintro e w3 ⟨rfl, b⟩; have HB3 := Lib.hid (HB2.out.trans (b.mono HB2.out.size)); clear b; dsimp only)
        | (go_at_call 5; (with_reducible refine (HAW.out _ HB3.out).mono ?_); rintro e w4 ⟨rfl, b⟩; have HB4 := Lib.hid (HB3.out.trans (b.mono HB3.out.size)); clear b)
        | fail)
      go_ret
      exact ⟨rfl, HB4.out⟩
  · have hr1 : (X3 == 0) = false := by simp [hz]
    have hr2 : (X3 != 0) = true := by simp [hz]
    have hr3 : decide (X3 = 0) = false := by simp [hz]
    go_enter Tryd.func3, Tryd.ntmps3
    go_wp2_with (first
      | (go_at_call 6; first
          | ((with_reducible refine (HPA.out _ HB.out).mono ?_); rintro e w1 ⟨lv, rfl, hs, b⟩; have HB1 := Lib.hid (HB.out.trans (b.mono HB.out.size)); have HS := Lib.hid hs; clear b hs; dsimp only)
          | ((with_reducible refine (HPB.out _ HB1.out).mono ?_); rintro e w2 ⟨lv2, rfl, hs, b⟩; have HB2 := Lib.hid (HB1.out.trans (b.mono HB1.out.size)); have HS := Lib.hid (HS.out.under b); clear b hs; dsimp only))
      | (go_at_call 7; (with_reducible refine (HTY.out _ _ _ HS.out).mono ?_); rintro e w3 ⟨rfl, b⟩; have HB3 := Lib.hid (HB2.out.trans (b.mono HB2.out.size)); clear b; dsimp only)
      | (go_at_call 5; (with_reducible refine (HAW.out _ HB3.out).mono ?_); rintro e w4 ⟨rfl, b⟩; have HB4 := Lib.hid (HB3.out.trans (b.mono HB3.out.size)); clear b)
      | fail)
    go_ret
    exact ⟨rfl, HB4.out⟩
theorem stmtDeep_walk (A : Option Addr) (n c : Nat) (zs : List Int) (B : Option Addr) (m d : Nat) (ys : List Int) (w : World) (hr : IsRow .u8 w A n c zs) (hs : IsRow .u8 w B m d ys) (hv : Vars w) :
    Calls Tryd.prog 3 #[.slice A n c, .slice B m d] w fun e w' => e = .returned (.bool true) ∧ Below w.heap.size w w' := by
  obtain ⟨hnc, hcm, _, hx, hwf⟩ := hr.sh
  obtain ⟨hmd, hdm, _, hy, hwf2⟩ := hs.sh
  by_cases h : 700 < n
  · exact stmtDeep_long A B n m c d w (.inl h) (Nat.le_trans hnc hcm) (Nat.le_trans hmd hdm) hv
  · by_cases h2 : 700 < m
    · exact stmtDeep_long A B n m c d w (.inr ⟨h, h2⟩) (Nat.le_trans hnc hcm) (Nat.le_trans hmd hdm) hv
    · exact stmtDeep_short A B n m c d (zs.take n) (ys.take m) w h h2 hnc hmd hcm hdm hx hy (byt8_of hwf) (byt8_of hwf2) hv
end Go.Proofs.YtpllkjfdaenalaaDoor
