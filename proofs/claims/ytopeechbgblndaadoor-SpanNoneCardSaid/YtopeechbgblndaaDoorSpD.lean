/-
  CONTRACT OF 'blazonref07.Check'.
-/
import Derived.Test.YtopeechbgblndaaDoorSpC
import Derived.BigRegion
import Derived.Deep.RegionHeld3
import Derived.Deep.RegionWith
namespace Go.Proofs.YtopeechbgblndaaDoor
set_option linter.unusedVariables false
set_option linter.unusedSimpArgs false
open Go.RowKit

theorem not_okAt2' {n : Int} {L : List Ed} {j k : Nat} {x y : Ed} (hk : k = j + 1) (h : L[k]? = some x) (hj : L[j]? = some y) (hb : folB y.1 y.2.1 x.1 = false) : ¬ okAt n L k := by subst hk; exact not_okAt2 h hj hb
theorem okAt_succ' {n : Int} {L : List Ed} {j k : Nat} {x y : Ed} (hk : k = j + 1) (h : L[k]? = some x) (hj : L[j]? = some y) (hb : ¬ x.1 < 0 ∧ ¬ x.2.1 < x.1 ∧ ¬ n < x.2.1) (hf : folB y.1 y.2.1 x.1 = true) : okAt n L k := by subst hk; exact okAt_succ h hj hb hf

set_option maxRecDepth 10000 in
set_option maxHeartbeats 8000000 in
/-- The document's Check. -/
theorem rcheck_any (A : Option Addr) (n m c : Nat) (L : List Ed) (w : World) (hx : ShE w w.heap.size A m L) (hm : m ≤ 1000000) (hn : n ≤ 1000000) :
    Calls Tryd.prog 12 #[.int .i64 n, .slice A m c] w fun e w' => e = .returned (.int .i64 (chk n L)) ∧ Quiet w w' := by
  have hl : L.length = m := hx.1
  have HL := Lib.hid hl
  have HX := Lib.hid hx
  clear hx
  by_cases h5 : 512 < m
  · have h5' : (512 : Int) < (m : Int) := by omega
    have HE := Lib.hid (chk_long (n := n) (L := L) (by omega))
    clear hl
    go_enter Tryd.func12, Tryd.ntmps12
    go_wp2
    go_ret
    exact ⟨ret_int HE.out.symm, Quiet.refl _⟩
  · have h5' : ¬ (512 : Int) < (m : Int) := by omega
    have HLE := Lib.hid (show ¬ 512 < L.length by omega)
    clear hl
    go_enter Tryd.func12, Tryd.ntmps12
    go_wp2
    go_loopw [5] (fun i wr => ∃ k : Nat, i = .int .i64 (k : Int) ∧ k ≤ m ∧ (∀ j, j < k → okAt n L j) ∧ Quiet w wr) (fun i _ => m - (intOf i).toNat)
    case atStart => exact ⟨0, rfl, Nat.zero_le _, (fun j hj => absurd hj (by omega)), Quiet.refl _⟩
    case round =>
      obtain ⟨k, rfl, hk, hok, hq⟩ := hrel
      have HK := Lib.hid hok
      obtain ⟨q, rfl⟩ := hq
      clear hok
      by_cases hlt : k < m
      · obtain ⟨b, off, x, rfl, hbb, hx, c0, c1, c2⟩ := HX.out.at hlt
        have HXX := Lib.hid hx
        have hkl := Lib.hid (show k < L.length by rw [HL.out]; exact hlt)
        have hk3 : (k : Int) < (m : Int) := by omega
        rcases okAt_cases (n := n) hx with h | h | h | h
        · have HE := Lib.hid (chk_bad HLE.out hkl.out (not_okAt1 (n := n) HXX.out (.inl h)))
          clear hx
          go_wp2
          go_quiet (fail)
          go_wp2
          go_ret
          exact ⟨ret_int HE.out.symm, (by first | exact ⟨_, rfl⟩ | exact ⟨_, World.drewN_drewN _ _ _⟩ | exact ⟨_, by rw [World.drewN_drewN, World.drewN_drewN]⟩)⟩
        · have HE := Lib.hid (chk_bad HLE.out hkl.out (not_okAt1 (n := n) HXX.out (.inr (.inl h))))
          obtain ⟨h1, h2⟩ := h
          clear hx
          go_wp2
          go_quiet (fail)
          go_wp2
          go_ret
          exact ⟨ret_int HE.out.symm, (by first | exact ⟨_, rfl⟩ | exact ⟨_, World.drewN_drewN _ _ _⟩ | exact ⟨_, by rw [World.drewN_drewN, World.drewN_drewN]⟩)⟩
        · have HE := Lib.hid (chk_bad HLE.out hkl.out (not_okAt1 (n := n) HXX.out (.inr (.inr h))))
          obtain ⟨h1, h2, h3⟩ := h
          clear hx
          go_wp2
          go_quiet (fail)
          go_wp2
          go_ret
          exact ⟨ret_int HE.out.symm, (by first | exact ⟨_, rfl⟩ | exact ⟨_, World.drewN_drewN _ _ _⟩ | exact ⟨_, by rw [World.drewN_drewN, World.drewN_drewN]⟩)⟩
        · obtain ⟨h1, h2, h3⟩ := h
          clear hx
          rcases Nat.eq_zero_or_pos k with hk0 | hk0
          · subst hk0
            have HE := Lib.hid (okAt_zero (n := n) HXX.out ⟨h1, h2, h3⟩)
            have hk0' : ¬ (0 : Int) < 0 := by omega
            have hm0 : 0 < m := by omega
            rw [Nat.zero_mul, Nat.add_zero] at c0 c1 c2
            go_wp2
            go_quiet (fail)
            go_wp2
            go_quiet (fail)
            go_wp2
            go_roundw
            case rel => exact ⟨1, by go_num, by omega, (fun j hj => by obtain rfl : j = 0 := by omega
                                                                       exact HE.out), (by first | exact ⟨_, rfl⟩ | exact ⟨_, World.drewN_drewN _ _ _⟩ | exact ⟨_, by rw [World.drewN_drewN, World.drewN_drewN]⟩)⟩
            case measure => simp [intOf]; omega
          · obtain ⟨j, hj⟩ : ∃ j, k = j + 1 := ⟨k - 1, by omega⟩
            obtain ⟨b', off', y, e, _, hy, d0, d1, d2⟩ := HX.out.at (show j < m by omega)
            cases e
            have HY := Lib.hid hy
            clear hy
            have hk1 : (0 : Int) < (k : Int) := by omega
            have hk44 : (j : Int) < (m : Int) := by omega
            have hk6 : j < m := by omega
            have hk7 : (0 : Int) ≤ (j : Int) := by omega
            have hk8 : IntKind.i64.wrap ((k : Int) - 1) = (j : Int) := (IntWalk.i64_in _ (by omega)).trans (by omega)
            have HJ := Lib.hid hj
            have hfb : (x.1 < y.2.1 ∧ folB y.1 y.2.1 x.1 = false) ∨ (¬ x.1 < y.2.1 ∧ (x.1 == y.1) = true ∧ folB y.1 y.2.1 x.1 = false) ∨ (¬ x.1 < y.2.1 ∧ (x.1 == y.1) = false ∧ folB y.1 y.2.1 x.1 = true) := by
              unfold folB
              by_cases h : x.1 < y.2.1
              · exact .inl ⟨h, by rw [decide_eq_false (by omega)]; rfl⟩
              · rw [decide_eq_true (by omega)]
                by_cases h' : x.1 = y.1
                · exact .inr (.inl ⟨h, by simpa using h', by simpa using h'⟩)
                · exact .inr (.inr ⟨h, by simpa using h', by simpa using h'⟩)
            rcases hfb with ⟨h4, hf⟩ | ⟨h4, h5, hf⟩ | ⟨h4, h5, hf⟩
            · have HE := Lib.hid (chk_bad HLE.out hkl.out (not_okAt2' (n := n) HJ.out HXX.out HY.out hf))
              clear hf hj
              go_wp2
              go_quiet (fail)
              go_wp2
              go_quiet (fail)
              go_wp2
              go_ret
              exact ⟨ret_int HE.out.symm, (by first | exact ⟨_, rfl⟩ | exact ⟨_, World.drewN_drewN _ _ _⟩ | exact ⟨_, by rw [World.drewN_drewN, World.drewN_drewN]⟩)⟩
            · have HE := Lib.hid (chk_bad HLE.out hkl.out (not_okAt2' (n := n) HJ.out HXX.out HY.out hf))
              clear hf hj
              go_wp2
              go_quiet (fail)
              go_wp2
              go_quiet (fail)
              go_wp2
              go_ret
              exact ⟨ret_int HE.out.symm, (by first | exact ⟨_, rfl⟩ | exact ⟨_, World.drewN_drewN _ _ _⟩ | exact ⟨_, by rw [World.drewN_drewN, World.drewN_drewN]⟩)⟩
            · have HE := Lib.hid (okAt_succ' (n := n) HJ.out HXX.out HY.out ⟨h1, h2, h3⟩ hf)
              clear hf hj
              go_wp2
              go_quiet (fail)
              go_wp2
              go_quiet (fail)
              go_wp2
              go_roundw
              case rel => exact ⟨k + 1, by go_num, by omega, (fun i hi => by
                rcases Nat.lt_or_ge i k with h | h
                · exact HK.out i h
                · obtain rfl : i = k := by omega
                  exact HE.out), (by first | exact ⟨_, rfl⟩ | exact ⟨_, World.drewN_drewN _ _ _⟩ | exact ⟨_, by rw [World.drewN_drewN, World.drewN_drewN]⟩)⟩
              case measure => simp [intOf]; omega
      · obtain rfl : k = m := by omega
        have HE := Lib.hid (chk_ok HLE.out (show okAll n L from fun j hj => HK.out j (by rw [HL.out] at hj; exact hj)))
        go_wp2
        go_ret
        exact ⟨ret_int HE.out.symm, ⟨_, rfl⟩⟩
end Go.Proofs.YtopeechbgblndaaDoor
