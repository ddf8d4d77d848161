/-
  CONTRACT OF 'blazonref06.All'.
-/
import Derived.Test.YthdfoahnkkkbmaaMLx
import Derived.Test.YthdfoahnkkkbmaaLxR
namespace Go.Proofs.Ythdfoahnkkkbmaa
set_option linter.unusedVariables false
set_option linter.unusedSimpArgs false
open Go.RowKit

theorem getD_drop (bs : List Int) (u j : Nat) : (bs.drop u).getD j 0 = bs.getD (u + j) 0 := by simp [List.getD, List.getElem?_drop]
theorem run_between {bs : List Int} {k : Int} {u e n : Nat} (hl : bs.length = n) (hu : u ≤ e) (he : e ≤ n) (ha : ∀ j, u ≤ j → j < e → goes k (bs.getD j 0) = true) (hs : e = n ∨ goes k (bs.getD e 0) = false) : u + runB (goes k) (bs.drop u) = e := by
  rcases hs with rfl | hs
  · have := runB_all (go := goes k) (l := bs.drop u) (fun j hj => by
      rw [getD_drop]
      simp at hj
      exact ha _ (by omega) (by omega))
    rw [this]
    simp
    omega
  · rcases Nat.lt_or_ge e n with h | h
    · have := runB_stop_at (go := goes k) (l := bs.drop u) (k := e - u) (fun j hj => by
        rw [getD_drop]
        exact ha _ (by omega) (by omega)) (by simp; omega) (by rw [getD_drop, show u + (e - u) = e by omega]; exact hs)
      omega
    · have := runB_all (go := goes k) (l := bs.drop u) (fun j hj => by
        rw [getD_drop]
        simp at hj
        exact ha _ (by omega) (by omega))
      rw [this]
      simp
      omega
/-- What one round of the document's loop knows: the token at u is (k, u, e). -/
theorem tok_is {bs : List Int} {u e : Nat} {k c0 : Int} {r : List Int} (hd : bs.drop u = c0 :: r) (hk : kd c0 = k) (h4 : k < 4) (he : u + 1 + runB (goes k) r = e) : tk (bs.drop u) = k ∧ u + tl (bs.drop u) = e := by
  rw [hd, tk_cons, tl_cons, hk, if_pos h4, if_pos h4]
  omega
theorem tok_sgn {bs : List Int} {u : Nat} {c0 : Int} {r : List Int} (hd : bs.drop u = c0 :: r) (h4 : 4 ≤ kd c0) :
    (sgn c0 r = 2 ∧ tk (bs.drop u) = 4 ∧ tl (bs.drop u) = 2) ∨ (sgn c0 r = 1 ∧ tk (bs.drop u) = 4 ∧ tl (bs.drop u) = 1) ∨ (sgn c0 r = 0 ∧ tk (bs.drop u) = 5 ∧ tl (bs.drop u) = 1) := by
  have hr := kd_range c0
  rw [hd, tk_cons, tl_cons, if_neg (show ¬ kd c0 < 4 by omega), if_neg (show ¬ kd c0 < 4 by omega)]
  unfold sgn
  by_cases hp : pairsL c0 r = true
  · simp [hp]
  · by_cases h : kd c0 = 4
    · simp [hp, h]
    · have : kd c0 = 5 := by omega
      simp [hp, this]
theorem bts_at {t : ByteArray} {bs : List Int} {e : Nat} (hb : bts t = bs) (he : e < t.size) : ((t[e]'he).toNat : Int) = bs.getD e 0 := by
  subst hb
  have h1 : e < t.data.size := he
  have h2 : (bts t)[e]? = some (((t.data[e]'h1).toNat : Nat) : Int) := by unfold bts; rw [List.getElem?_map, Array.getElem?_toList, Array.getElem?_eq_getElem h1]; rfl
  rw [List.getD, h2]
  rfl
theorem bts_ext (t : ByteArray) (u : Nat) (hu : u ≤ t.size) : bts (t.extract u t.size) = (bts t).drop u := by
  unfold bts
  rw [← List.map_drop]
  congr 1
  have : t.data.toList.length = t.size := rfl
  simp
  exact List.take_of_length_le (by simp)
/-- The row with one token more. -/
theorem out_more {bs : List Int} {L : List Tk} {u e : Nat} {k : Int} (hL : L ++ toks bs u = toks bs 0) (hu : u < bs.length) (hk : tk (bs.drop u) = k) (he : u + tl (bs.drop u) = e) : (L ++ [(k, (u : Int), (e : Int))]) ++ toks bs e = toks bs 0 := by
  rw [← hL, toks_at hu, hk, he]
  simp

end Go.Proofs.Ythdfoahnkkkbmaa
