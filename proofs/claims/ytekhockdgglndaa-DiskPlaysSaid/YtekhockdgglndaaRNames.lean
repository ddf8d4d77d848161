/-
  THE DOCUMENT'S NAMES AS PLAIN RISING LISTS.
-/
import Derived.Test.YtekhockdgglndaaRBoot
import Derived.Test.YtekhockdgglndaaDState
namespace Go.Proofs.Ytekhockdgglndaa
set_option linter.unusedVariables false
set_option linter.unusedSimpArgs false
open Go.RowKit

theorem toList_loop (bs : ByteArray) (i : Nat) (r : List UInt8) : ByteArray.toList.loop bs i r = r.reverse ++ bs.data.toList.drop i := by
  unfold ByteArray.toList.loop
  split
  · rename_i h
    have h' : i < bs.data.size := h
    rw [toList_loop bs (i + 1)]
    have hl : i < bs.data.toList.length := by simpa using h'
    rw [List.drop_eq_getElem_cons hl]
    have : bs.get! i = bs.data.toList[i] := by
      show bs.data[i]! = _
      rw [getElem!_pos bs.data i h']
      simp
    rw [this]
    simp
  · rename_i h
    have h' : ¬ i < bs.data.size := h
    rw [List.drop_eq_nil_of_le (by simpa using h')]
    simp
termination_by bs.size - i
theorem bl (s : ByteArray) : s.toList = s.data.toList := by
  unfold ByteArray.toList
  rw [toList_loop]
  simp
theorem bless_eq : ∀ a b : Nm, Op.bytesLess a b = bytesBefore a b
  | [], [] => rfl
  | [], _ :: _ => rfl
  | _ :: _, [] => rfl
  | a :: x, b :: y => by simp only [Op.bytesLess, bytesBefore, bless_eq x y]
theorem eqs_nm (s t : ByteArray) : eqs s t = (s.data.toList == t.data.toList) := by simp only [eqs, bl]
theorem lesss_nm (s t : ByteArray) : lesss s t = bytesBefore s.data.toList t.data.toList := by simp only [lesss, bl, bless_eq]

/-- As a plain list. -/
def nl (N : List RE) : NL := N.map fun q => (q.1.data.toList, q.2)
theorem nl_len (N : List RE) : (nl N).length = N.length := by simp [nl]
theorem nl_without (N : List RE) (s : ByteArray) : nl (rwithout N s) = ndel s.data.toList (nl N) := by
  unfold nl rwithout ndel
  rw [List.filter_map]
  congr 1
  refine List.filter_congr fun q _ => ?_
  simp [eqs_nm]
theorem rfind_nl (s : ByteArray) : ∀ N : List RE, rfind N s = match nat? s.data.toList (nl N) with | some i => (i : Int) | none => -1
  | [] => rfl
  | q :: N => by
    have ih := rfind_nl s N
    simp only [rfind, eqs_nm, nl, List.map_cons, nat?, List.find?_cons] at ih ⊢
    by_cases h : (q.1.data.toList == s.data.toList) = true
    · rw [if_pos h, h]
      rfl
    · rw [if_neg h, ih]
      have : (q.1.data.toList == s.data.toList) = false := by simpa using h
      rw [this]
def insX (x : RE) : List RE → List RE
  | [] => [x]
  | y :: r => if lesss x.1 y.1 = true then x :: y :: r else y :: insX x r
theorem nl_ins (x : RE) : ∀ N : List RE, nl (insX x N) = nins (x.1.data.toList, x.2) (nl N)
  | [] => rfl
  | y :: r => by
    have ih := nl_ins x r
    simp only [insX, lesss_nm]
    have e : nl (y :: r) = (y.1.data.toList, y.2) :: nl r := rfl
    rw [e]
    simp only [nins]
    split
    · rfl
    · rw [← ih]; rfl
theorem pfold_true (x : RE) : ∀ (N out : List RE), N.foldl (pstep x) (out, true) = (out ++ rwithout N x.1, true)
  | [], out => by simp [rwithout]
  | p :: N, out => by
    rw [List.foldl_cons]
    by_cases h : eqs p.1 x.1 = true
    · have e : pstep x (out, true) p = (out, true) := by unfold pstep; rw [if_pos h]
      rw [e, pfold_true x N out]
      simp [rwithout, h]
    · have e : pstep x (out, true) p = (out ++ [p], true) := by unfold pstep; rw [if_neg h, if_neg (by simp)]
      rw [e, pfold_true x N]
      have h' : eqs p.1 x.1 = false := by simpa using h
      simp [rwithout, h']
theorem pfold_false (x : RE) : ∀ (N out : List RE), (if (N.foldl (pstep x) (out, false)).2 = true then (N.foldl (pstep x) (out, false)).1 else (N.foldl (pstep x) (out, false)).1 ++ [x]) = out ++ insX x (rwithout N x.1)
  | [], out => by simp [rwithout, insX]
  | p :: N, out => by
    rw [List.foldl_cons]
    by_cases h : eqs p.1 x.1 = true
    · have e : pstep x (out, false) p = (out, false) := by unfold pstep; rw [if_pos h]
      rw [e, pfold_false x N out]
      simp [rwithout, h]
    · have h' : eqs p.1 x.1 = false := by simpa using h
      have hne : p.1.data.toList ≠ x.1.data.toList := by rw [eqs_nm] at h'; simpa using h'
      have hw : rwithout (p :: N) x.1 = p :: rwithout N x.1 := by simp [rwithout, h']
      rw [hw]
      by_cases hl : lesss p.1 x.1 = false
      · have e : pstep x (out, false) p = (out ++ [x, p], true) := by unfold pstep; rw [if_neg h, if_pos ⟨rfl, hl⟩]
        rw [e, pfold_true]
        have hlt : lesss x.1 p.1 = true := by
          rw [lesss_nm] at hl ⊢
          rcases bb_total hne with h1 | h1
          · rw [hl] at h1; cases h1
          · exact h1
        simp [insX, hlt]
      · have e : pstep x (out, false) p = (out ++ [p], false) := by unfold pstep; rw [if_neg h, if_neg (fun hh => hl hh.2)]
        rw [e, pfold_false x N]
        have hlt : lesss x.1 p.1 = false := by
          have hl' : lesss p.1 x.1 = true := by simpa using hl
          rw [lesss_nm] at hl' ⊢
          cases hb : bytesBefore x.1.data.toList p.1.data.toList
          · rfl
          · have := bb_trans hl' hb
            rw [bb_irr] at this
            cases this
        simp [insX, hlt]
theorem nl_put (N : List RE) (x : RE) : nl (rput N x) = nput x.1.data.toList x.2 (nl N) := by
  have h : rput N x = insX x (rwithout N x.1) := by
    have := pfold_false x N []
    rw [List.nil_append] at this
    exact this
  rw [h, nl_ins, nl_without]
  rfl

/-! ### names with other numbers -/
def mapI (ι : Nat → Nat) (N : NL) : NL := N.map fun p => (p.1, ι p.2)
theorem mapI_del (ι : Nat → Nat) (k : Nm) (N : NL) : mapI ι (ndel k N) = ndel k (mapI ι N) := by
  unfold mapI ndel
  rw [List.filter_map]
  rfl
theorem mapI_ins (ι : Nat → Nat) (k : Nm) (b : Nat) : ∀ N : NL, mapI ι (nins (k, b) N) = nins (k, ι b) (mapI ι N)
  | [] => rfl
  | y :: r => by
    have ih := mapI_ins ι k b r
    have e : mapI ι (y :: r) = (y.1, ι y.2) :: mapI ι r := rfl
    rw [e]
    simp only [nins]
    split
    · rfl
    · rw [← ih]; rfl
theorem mapI_put (ι : Nat → Nat) (k : Nm) (b : Nat) (N : NL) : mapI ι (nput k b N) = nput k (ι b) (mapI ι N) := by
  unfold nput
  rw [mapI_ins, mapI_del]
theorem mapI_at (ι : Nat → Nat) (k : Nm) : ∀ N : NL, nat? k (mapI ι N) = (nat? k N).map ι
  | [] => rfl
  | y :: r => by
    have ih := mapI_at ι k r
    unfold nat? mapI at ih ⊢
    simp only [List.map_cons, List.find?_cons]
    cases h : (y.1 == k)
    · exact ih
    · rfl
theorem ndel_none {k : Nm} {N : NL} (h : nat? k N = none) : ndel k N = N := by
  unfold ndel
  rw [List.filter_eq_self]
  intro p hp
  have := nat?_none.1 h p hp
  simpa using this
/-- A turn, and the document's. -/
def TnRel (ι : Nat → Nat) : Tn → RT → Prop
  | .create k b, T => T.to.data.toList = k ∧ k ≠ [] ∧ T.file = (ι b : Int)
  | .rename k m, T => T.fr.data.toList = k ∧ T.to.data.toList = m ∧ m ≠ [] ∧ T.file = -1
  | .remove k, T => T.fr.data.toList = k ∧ T.to.data.toList = [] ∧ T.file = -1
theorem nl_do {ι : Nat → Nat} {t : Tn} {T : RT} (h : TnRel ι t T) {N : List RE} {M : NL} (hN : nl N = mapI ι M) : nl (rdo N T) = mapI ι (t.act M) := by
  cases t with
  | create k b =>
    obtain ⟨h1, h2, h3⟩ := h
    have hto : ¬ (T.to.toList == []) = true := by rw [bl, h1]; simpa using h2
    unfold rdo
    rw [if_neg (by rw [h3]; exact Int.not_lt.2 (Int.natCast_nonneg _)), if_neg hto, nl_put, hN, h3, Int.toNat_natCast, h1]
    exact (mapI_put _ _ _ _).symm
  | rename k m =>
    obtain ⟨h0, h1, h2, h3⟩ := h
    have hto : ¬ (T.to.toList == []) = true := by rw [bl, h1]; simpa using h2
    have hf := rfind_nl T.fr N
    rw [hN, h0, mapI_at] at hf
    unfold rdo
    rw [if_pos (by omega)]
    show nl _ = mapI ι (match nat? k M with | some b => nput m b (ndel k M) | none => M)
    cases hk : nat? k M with
    | none =>
      rw [hk] at hf
      simp only [Option.map_none] at hf
      rw [if_pos (.inr (by omega)), nl_without, hN, h0, ← mapI_del, ndel_none hk]
    | some b =>
      rw [hk] at hf
      simp only [Option.map_some] at hf
      rw [if_neg (fun hh => hh.elim hto (fun hh => by rw [hf] at hh; exact absurd hh (Int.not_lt.2 (Int.natCast_nonneg _)))), nl_put, nl_without, hN, h0, h1, hf, Int.toNat_natCast, mapI_put, mapI_del]
  | remove k =>
    obtain ⟨h0, h1, h3⟩ := h
    unfold rdo
    rw [if_pos (by omega), if_pos (.inl (by rw [bl, h1]; rfl)), nl_without, hN, h0]
    exact (mapI_del _ _ _).symm
end Go.Proofs.Ytekhockdgglndaa
