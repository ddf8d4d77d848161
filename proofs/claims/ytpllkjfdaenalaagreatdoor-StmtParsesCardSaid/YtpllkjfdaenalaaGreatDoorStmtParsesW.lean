import Derived.Test.YtpllkjfdaenalaaGreatDoorSq
import Derived.Test.YtpllkjfdaenalaaGreatDoorRtP
import Derived.Test.YtpllkjfdaenalaaGreatDoorMDp
namespace Go.Proofs.YtpllkjfdaenalaaGreatDoor
set_option linter.unusedVariables false
set_option linter.unusedSimpArgs false
open Go.RowKit
theorem stmtParses_long (A : Option Addr) (n c : Nat) (w : World) (h : 1500 < n) (hm : n ≤ maxLen) (hv : Vars w) :
  Calls Tryz.prog 3 #[.slice A n c] w fun e w' => e = .returned (.bool true) ∧ Below w.heap.size w w' := by
 unfold maxLen at hm
 have hlt : (1500 : Int) < (n : Int) := by omega
 go_enter Tryz.func3, Tryz.ntmps3
 go_wp2_with (go_at_call 8; refine (awake9_any _ hv).mono ?_; rintro e w1 ⟨rfl, b1⟩)
 go_ret
 exact ⟨rfl, b1⟩
set_option maxRecDepth 100000 in
set_option maxHeartbeats 1600000 in
theorem stmtParses_short (A : Option Addr) (n c : Nat) (bs : List Int) (w : World) (h : ¬ 1500 < n) (hx : Sh w w.heap.size A n (by8 bs)) (hb : Byt8 bs) (hnc : n ≤ c) (hcm : c ≤ maxLen) (hv : Vars w) :
  Calls Tryz.prog 3 #[.slice A n c] w fun e w' => e = .returned (.bool true) ∧ Below w.heap.size w w' := by
 have hl : bs.length = n := by have := hx.len; rwa [by8_len] at this
 have HL := Lh hl
 have hlt : ¬ (1500 : Int) < (n : Int) := by omega
 have hvs := hv.size
 have HAW : Hid (∀ W, Below w.heap.size w W → Calls Tryz.prog 8 #[] W fun e w' => e = .returned (.bool true) ∧ Below W.heap.size W w') := Lh fun W hW => awake9_any W (hv.under hW hvs)
 obtain ⟨X, hX⟩ : ∃ X, parseS (rowT (strOfNums bs) (live bs 0)) (live bs 0) 24100 4600 = X := ⟨_, rfl⟩
 have HPA : Hid (∀ W G g, Below w.heap.size w W → Sh W W.heap.size G n (by8 bs) → n ≤ g → g ≤ maxLen → Calls Tryz.prog 10 #[.slice G n g] W (PaTo X W)) := Lh fun W G g hW hs h1 h2 => by
  rw [← hX]
  exact sparse_any G n g bs W hs hb (by omega) h1 h2 (hv.under hW hvs) 24100 4600 (by omega) (by omega)
 have hsz : (strOfNums bs).size = n := by rw [strOfNums_size, hl]
 have HRP : Hid (∀ W, Calls Tryz.prog 11 #[.string (strOfNums bs)] W (PaTo X W)) := Lh fun W => by
  rw [← hX]
  exact rPs_any (strOfNums bs) bs W (bts_str hb) (by omega) 24100 4600 (by omega) (by omega)
 have hfx := parseS_facts hb (by omega) 24100 4600
 rw [hX] at hfx
 have HSM := Lh (sameS_any X.1 (by have := hfx.2.2; omega) hfx.2.1)
 unfold SamS at HSM
 have hlx : X.1.length ≤ 1500 := by have := hfx.2.2; omega
 obtain ⟨X1, X2, X3⟩ := X
 dsimp only at HSM hlx
 have HX := Lh (fun w' (b : Below w.heap.size w w') => hx.below b)
 have HB := Lh (Below.refl w.heap.size w)
 have hhead : ∀ {w' : World} {U : Nat} {G : Option Addr}, Sh w' U G (n + 3) (by8 (bs ++ [77, 78, 79])) → Sh w' U G n (by8 bs) := fun {w' U G} h => by
  have hh := h.head (k := n) (by omega)
  rwa [by8_take, List.take_append_of_le_length (by rw [HL.out]; omega), List.take_of_length_le (by rw [HL.out]; omega)] at hh
 have HH := Lh (fun w' U G h => hhead (w' := w') (U := U) (G := G) h)
 obtain ⟨T, hT⟩ : ∃ T, strOfNums bs = T := ⟨_, rfl⟩
 rw [hT] at HRP
 have HCV : Hid (∀ w' c, Below w.heap.size w w' → (convert 22 9 (.slice A n c)).run Tryz.prog w' = .ok (.string T) w') := Lh fun w' c b => by
  rw [← hT]
  exact convert_sh (HX.out _ b) c
 have HLE : Hid (Calls Tryz.prog 9 #[.slice A n c] w fun e w' => ∃ G g, e = .returned (.slice G n g) ∧ Own w' w.heap.size 5 1 (.slice G (n + 3) g) (n + 3) (by8 (bs ++ [77, 78, 79])) ∧ Below w.heap.size w w') := Lh (lent_any A n c bs w w.heap.size hx (by omega) nLe)
 clear hl hx hb hv hX hsz hhead hT hfx
 go_enter Tryz.func3, Tryz.ntmps3
 go_wp2_with (first
  | (go_at_call 9; refine HLE.out.mono ?_; rintro e w1 ⟨G, g, rfl, ho1, b1⟩; have hcap := ho1.cap; have hc1 : n + 3 ≤ g := hcap.1; have HC := Lh hcap.2; have HF := Lh ho1.sh; have HB := Lh b1; clear ho1 b1 hcap; dsimp only)
  | (go_at_call 10; refine (HPA.out _ _ _ HB.out (HH.out _ _ _ HF.out) (by omega) HC.out).mono ?_; rintro e w2 ⟨lv, rfl, hx2, b⟩; obtain ⟨A3, c3, rfl, _⟩ := hx2.len; have HX1 := Lh (hx2.weak (S' := fun _ => True) (fun _ _ _ => trivial)); have HF := Lh ((HF.out.below b).more b.size); have HB := Lh (bTr HB b); have hcv := HCV.out w2 c HB.out; clear b hx2; dsimp only; refine Hid.out ?_)
  | fail)
 try dsimp only at HX1
 refine Lh ?_
 go_wp2_with (first
  | (go_at_call 11; (with_reducible refine (HRP.out _).mono ?_); rintro e w4 ⟨kv, rfl, hx4, b⟩; obtain ⟨A4, c4, rfl, _⟩ := hx4.len; have HX2 := Lh (hx4.weak (S' := fun _ => True) (fun _ _ _ => trivial)); have HF := Lh ((HF.out.below b).more b.size); have HX1 := Lh (HX1.out.under b); have HB := Lh (bTr HB b); clear b hx4; dsimp only; refine Hid.out ?_)
  | fail)
 try dsimp only at HX2
 refine Lh ?_
 go_wp2_with (first
  | (go_at_call 12; (with_reducible refine (HSM.out _ _ _ _ _ HX1.out HX2.out).mono ?_); rintro e w5 ⟨rfl, b⟩; have HF := Lh ((HF.out.below b).more b.size); have HB := Lh (bTr HB b); clear b)
  | (go_at_call 13; refine (kept_yes _ _ n _ _ bs _ _ _ HF.out hc1 (HX.out _ HB.out) (by omega)).mono ?_; rintro e w6 ⟨rfl, q⟩; have b := q.below w5.heap.size; have HB := Lh (bTr HB b); clear b q)
  | (go_at_call 8; (with_reducible refine (HAW.out _ HB.out).mono ?_); rintro e w7 ⟨rfl, b⟩; have HB := Lh (bTr HB b); clear b)
  | fail)
 go_ret
 exact ⟨rfl, HB.out⟩
theorem stmtParses_walk (A : Option Addr) (n c : Nat) (zs : List Int) (w : World) (hr : IsRow .u8 w A n c zs) (hv : Vars w) :
  Calls Tryz.prog 3 #[.slice A n c] w fun e w' => e = .returned (.bool true) ∧ Below w.heap.size w w' := by
 obtain ⟨hnc, hcm, _, hx, hwf⟩ := hr.sh
 by_cases h : 1500 < n
 ·exact stmtParses_long A n c w h (Nat.le_trans hnc hcm) hv
 ·exact stmtParses_short A n c (zs.take n) w h hx (byt8_of hwf) hnc hcm hv
end Go.Proofs.YtpllkjfdaenalaaGreatDoor
