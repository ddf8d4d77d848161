/-
  THE WORDS OF A TEXT: its tokens that count; where they lie; numbers are digits.
-/
import Derived.Test.YtnhhdafhnngolaaDoorEpQ
namespace Go.Proofs.YtnhhdafhnngolaaDoor
set_option linter.unusedVariables false
set_option linter.unusedSimpArgs false
open Go.RowKit

theorem mem_toks (bs : List Int) : ∀ (m u : Nat), bs.length - u ≤ m → ∀ t ∈ toks bs u, ∃ v, u ≤ v ∧ v < bs.length ∧ t = (tk (bs.drop v), (v : Int), ((v + tl (bs.drop v) : Nat) : Int)) := by
  intro m
  induction m with
  | zero => intro u h t ht; rw [toks_end (by omega)] at ht; cases ht
  | succ m ih =>
    intro u h t ht
    by_cases hu : u < bs.length
    · rw [toks_at hu] at ht
      rcases List.mem_cons.1 ht with rfl | ht
      · exact ⟨u, Nat.le_refl _, hu, rfl⟩
      · have := tl_pos (bs.drop u)
        obtain ⟨v, h1, h2, h3⟩ := ih (u + tl (bs.drop u)) (by omega) t ht
        exact ⟨v, by omega, h2, h3⟩
    · rw [toks_end (by omega)] at ht; cases ht
theorem mem_live {bs : List Int} {t : Tk} (h : t ∈ live bs 0) : ∃ v, v < bs.length ∧ t = (tk (bs.drop v), (v : Int), ((v + tl (bs.drop v) : Nat) : Int)) := by
  obtain ⟨v, _, h2, h3⟩ := mem_toks bs _ 0 (Nat.le_refl _) t (List.mem_filter.1 h).1
  exact ⟨v, h2, h3⟩
theorem live_len (bs : List Int) : (live bs 0).length ≤ bs.length := by
  have h1 := toks_len bs bs.length 0 (by omega)
  have h2 : (live bs 0).length ≤ (toks bs 0).length := List.length_filter_le _ _
  omega
theorem live_ok {T : ByteArray} {bs : List Int} (hb : bts T = bs) (hn : bs.length ≤ 1000000) : TokOk T (live bs 0) := by
  have hs : T.size = bs.length := by rw [← hb, bts_len]
  have := live_len bs
  refine ⟨by omega, by omega, fun t ht => ?_⟩
  obtain ⟨v, hv, rfl⟩ := mem_live ht
  have := tl_in hv
  exact ⟨by show (0 : Int) ≤ (v : Int); omega, by show (v : Int) ≤ ((v + tl (bs.drop v) : Nat) : Int); omega, by show ((v + tl (bs.drop v) : Nat) : Int) ≤ (T.size : Int); omega⟩
theorem ext_bts (T : ByteArray) (a b : Nat) : (T.extract a b).data.toList.map (fun u => (u.toNat : Int)) = ((bts T).take b).drop a := by
  unfold bts
  have : (T.extract a b).data.toList = (T.data.toList.take b).drop a := by simp [List.drop_take]
  rw [this, List.map_drop, List.map_take]
theorem runB_mem (p : Int → Bool) (l : List Int) : ∀ x ∈ l.take (runB p l), p x = true := by
  induction l with
  | nil => intro x hx; cases hx
  | cons y l ih =>
    intro x hx
    cases h : p y
    · rw [runB_no h] at hx; cases hx
    · rw [runB_yes h, List.take_succ_cons] at hx
      rcases List.mem_cons.1 hx with rfl | hx
      · exact h
      · exact ih x hx
theorem live_dig {T : ByteArray} {bs : List Int} (hb : bts T = bs) (p : Nat) (h : (rowT T (live bs 0)).kd p = 3) : ((rowT T (live bs 0)).wd p).data.toList ≠ [] ∧ ∀ c ∈ ((rowT T (live bs 0)).wd p).data.toList, 48 ≤ c.toNat ∧ c.toNat ≤ 57 := by
  cases hp : (live bs 0)[p]? with
  | none =>
    have : (rowT T (live bs 0)).kd p = 0 := by simp only [rowT, hp]
    rw [this] at h; cases h
  | some t =>
    have hk : (rowT T (live bs 0)).kd p = t.1 := by simp only [rowT, hp]
    have hw : (rowT T (live bs 0)).wd p = T.extract t.2.1.toNat t.2.2.toNat := by
      show wdT T (live bs 0) p = _
      simp only [wdT, hp]
    rw [hk] at h
    rw [hw]
    obtain ⟨v, hv, rfl⟩ := mem_live (List.mem_of_getElem? hp)
    obtain ⟨c, r, hd⟩ : ∃ c r, bs.drop v = c :: r := by
      cases hh : bs.drop v with
      | nil => have := congrArg List.length hh; simp at this; omega
      | cons c r => exact ⟨c, r, rfl⟩
    have h3 : tk (c :: r) = 3 := by rw [← hd]; exact h
    have hkc : kd c = 3 := by
      rw [tk_cons] at h3
      by_cases h4 : kd c < 4
      · rwa [if_pos h4] at h3
      · rw [if_neg h4] at h3
        split at h3
        · cases h3
        · omega
    have htl : tl (bs.drop v) = 1 + runB (goes 3) r := by rw [hd, tl_cons, if_pos (by omega), hkc]
    have hlist : (T.extract v (v + tl (bs.drop v))).data.toList.map (fun u => (u.toNat : Int)) = c :: r.take (runB (goes 3) r) := by
      rw [ext_bts, hb, List.drop_take, htl, hd, show v + (1 + runB (goes 3) r) - v = runB (goes 3) r + 1 by omega, List.take_succ_cons]
    have hall : ∀ x ∈ c :: r.take (runB (goes 3) r), 48 ≤ x ∧ x ≤ 57 := fun x hx => by
      rcases List.mem_cons.1 hx with rfl | hx
      · exact (kd_3 x).1 hkc
      · have := runB_mem (goes 3) r x hx
        have h9 : kd x = 3 := by simpa [goes] using this
        exact (kd_3 x).1 h9
    show (T.extract v (v + tl (bs.drop v))).data.toList ≠ [] ∧ ∀ c ∈ (T.extract v (v + tl (bs.drop v))).data.toList, 48 ≤ c.toNat ∧ c.toNat ≤ 57
    refine ⟨fun e => ?_, fun u hu => ?_⟩
    · rw [e] at hlist; cases hlist
    · have := hall (u.toNat : Int) (by rw [← hlist]; exact List.mem_map.2 ⟨u, hu, rfl⟩)
      omega
/-- The first bad token counts. -/
theorem bad_live (bs : List Int) : ((live bs 0).find? fun t => t.1 == 5) = ((toks bs 0).find? fun t => t.1 == 5) := by
  unfold live
  rw [List.find?_filter]
  congr 1
  funext t
  cases h : (t.1 == 5)
  · simp
  · have : t.1 = 5 := by simpa using h
    simp [lv, this]
end Go.Proofs.YtnhhdafhnngolaaDoor
