/-
  CONTRACT OF the document's 'do': names behind a turn.
-/
import Derived.Test.YtekhockdgglndaaRPut2
namespace Go.Proofs.Ytekhockdgglndaa
set_option linter.unusedVariables false
set_option linter.unusedSimpArgs false
open Go.RowKit

/-- X, and what was made since. -/
def wid (X : Nat → Prop) (w w' : World) : Nat → Prop := fun b => X b ∨ (w.heap.size ≤ b ∧ b < w'.heap.size)
theorem wid_trans {X : Nat → Prop} {a b c : World} (h : a.heap.size ≤ b.heap.size) (h' : b.heap.size ≤ c.heap.size) {k : Nat} (hk : wid (wid X a b) b c k) : wid X a c k := by
  rcases hk with (hk | hk) | hk
  · exact .inl hk
  · exact .inr ⟨hk.1, by omega⟩
  · exact .inr ⟨by omega, hk.2⟩
theorem wid_old {X : Nat → Prop} {w w' : World} (hX : ∀ b, X b → b < w.heap.size) (hs : w.heap.size ≤ w'.heap.size) : ∀ b, wid X w w' b → b < w'.heap.size := fun b h => by
  rcases h with h | h
  · have := hX b h; omega
  · exact h.2

theorem rput_len (N : List RE) (x : RE) : (rput N x).length ≤ N.length + 1 := by
  have key : ∀ k, k ≤ N.length → (pfold (N.take k) x).1.length ≤ k + (if (pfold (N.take k) x).2 = true then 1 else 0) := by
    intro k
    induction k with
    | zero => intro _; simp [pfold]
    | succ k ih =>
      intro hk
      have ih := ih (by omega)
      rw [pfold_next (List.getElem?_eq_getElem (show k < N.length by omega))]
      obtain ⟨st, hst⟩ : ∃ st, st = pfold (N.take k) x := ⟨_, rfl⟩
      rw [← hst] at ih ⊢
      obtain ⟨out, done⟩ := st
      unfold pstep
      split
      · simp only at ih ⊢; split at ih <;> simp_all <;> omega
      · split
        · rename_i h1 h2
          simp only at h2 ih ⊢
          rw [h2.1] at ih
          simp at ih ⊢
          omega
        · simp only at ih ⊢
          simp only [List.length_append, List.length_singleton]
          split at ih <;> simp_all <;> omega
  have := key N.length (Nat.le_refl _)
  rw [List.take_of_length_le (Nat.le_refl _)] at this
  unfold rput
  split
  · rename_i h
    rw [if_pos h] at this
    exact this
  · rename_i h
    rw [if_neg h] at this
    simp
    omega

/-- A turn of names. -/
structure RT where
  fr : ByteArray
  to : ByteArray
  file : Int
def RT.cells (t : RT) : List Value := [.string t.fr, .string t.to, .int .i64 t.file]
/-- Names behind a turn. -/
def rdo (N : List RE) (t : RT) : List RE :=
  if t.file < 0 then
    if (t.to.toList == []) = true ∨ rfind N t.fr < 0 then rwithout N t.fr else rput (rwithout N t.fr) (t.to, (rfind N t.fr).toNat)
  else if (t.to.toList == []) = true then N else rput N (t.to, t.file.toNat)
theorem rdo_len (N : List RE) (t : RT) : (rdo N t).length ≤ N.length + 1 := by
  have h1 := rwithout_len N t.fr
  have h2 := rput_len (rwithout N t.fr) (t.to, (rfind N t.fr).toNat)
  have h3 := rput_len N (t.to, t.file.toNat)
  unfold rdo
  split
  · split <;> omega
  · split <;> omega
theorem rfind_ge (N : List RE) (s : ByteArray) : -1 ≤ rfind N s := by
  induction N with
  | nil => simp [rfind]
  | cons q N ih => simp only [rfind]; split <;> omega

/-- The names that are told. -/
def NamesTo (X : Nat → Prop) (w : World) (N : List RE) (e : Ending) (w' : World) : Prop :=
  ∃ A c, e = .returned (.slice A N.length c) ∧ N.length ≤ c ∧ c ≤ maxLen ∧ SX w' (wid X w w') A N.length 2 (recells N) ∧ Below w.heap.size w w'
theorem Own.namesTo {X : Nat → Prop} {w w' : World} {N : List RE} {v : Value} (h : Own w' w.heap.size 77 2 v N.length (recells N)) (hb : Below w.heap.size w w') : NamesTo X w N (.returned v) w' := by
  obtain ⟨A, c, rfl⟩ := h.form
  exact ⟨A, c, rfl, h.cap.1, h.cap.2, SX.of_own h fun b h1 h2 => .inr ⟨h1, h2⟩, hb⟩

set_option maxRecDepth 10000 in
set_option maxHeartbeats 1600000 in
theorem rdo_any (X : Nat → Prop) (A : Option Addr) (n c : Nat) (N : List RE) (t : RT) (w : World) (hX : ∀ b, X b → b < w.heap.size) (hl : N.length = n) (hn : n ≤ 900) (hnc : n ≤ c) (hcm : c ≤ maxLen) (h : SX w X A n 2 (recells N)) :
    Calls Try.prog 61 #[.slice A n c, .agg #[.string t.fr, .string t.to, .int .i64 t.file]] w (NamesTo X w (rdo N t)) := by
  obtain ⟨W0, hW0⟩ : ∃ W0, W0 = w.alloc (.cells #[.string t.fr, .string t.to, .int .i64 t.file] 102) := ⟨_, rfl⟩
  have HW0 := Lib.hid hW0
  have hsz : W0.heap.size = w.heap.size + 1 := by rw [hW0]; simp
  have hb0 : Below w.heap.size w W0 := by rw [hW0]; exact (Below.refl _ _).alloc (Nat.le_refl _) _
  have HB0 := Lib.hid hb0
  have hs0 : SX W0 X A n 2 (recells N) := h.stay fun b hx => hb0.block b (hX b hx)
  have HFI := Lib.hid (find_any X A n c N t.fr W0 hl (by omega) hs0)
  have HWO := Lib.hid (without_any X A n c N t.fr W0 (fun b hx => by have := hX b hx; omega) hl (by omega) hs0)
  have HPU := Lib.hid (fun (f : Nat) => put_any X A n c N (t.to, f) W0 (fun b hx => by have := hX b hx; omega) hl (by omega) hs0)
  have HC : Hid (∀ w', Below W0.heap.size W0 w' → w'.cell? ⟨w.heap.size, 0, none⟩ = some (.string t.fr) ∧ w'.cell? ⟨w.heap.size, 1, none⟩ = some (.string t.to) ∧ w'.cell? ⟨w.heap.size, 2, none⟩ = some (.int .i64 t.file)) := Lib.hid fun w' b => by
    have e1 : ∀ j, w'.cell? ⟨w.heap.size, j, none⟩ = W0.cell? ⟨w.heap.size, j, none⟩ := fun j => b.cell (p := ⟨w.heap.size, j, none⟩) (by simp only; omega)
    refine ⟨?_, ?_, ?_⟩
    · rw [e1, hW0, World.cell?_alloc_at _ _ _ _ rfl]; rfl
    · rw [e1, hW0, World.cell?_alloc_at _ _ _ _ rfl]; rfl
    · rw [e1, hW0, World.cell?_alloc_at _ _ _ _ rfl]; rfl
  have HS := Lib.hid hs0
  have HLN := Lib.hid hl
  have hfg := rfind_ge N t.fr
  have hwl := rwithout_len N t.fr
  obtain ⟨t0, t1, t2⟩ := HC.out W0 (Below.refl _ _)
  clear h hs0 hb0 hW0
  obtain ⟨f, hf⟩ : ∃ f, f = rfind N t.fr := ⟨_, rfl⟩
  rw [← hf] at hfg HFI
  have HF := Lib.hid hf
  have hle : w.heap.size ≤ W0.heap.size := by omega
  by_cases hneg : t.file < 0
  · have hneg' : decide (t.file < 0) = true := by simpa using hneg
    by_cases hto : (t.to.toList == []) = true
    · have HR : Hid (rdo N t = rwithout N t.fr) := Lib.hid (by unfold rdo; rw [if_pos hneg, if_pos (.inl hto)])
      rw [HR.out]
      clear hf
      go_enter Try.func61, Try.ntmps61
      go_wp2_with (first
        | (go_at_call 25; rw [← HW0.out]; refine HFI.out.mono ?_; rintro e w' ⟨rfl, rfl⟩)
        | (go_at_call 69; refine HWO.out.mono ?_; rintro e w2 ⟨v2, rfl, ho2, hb2⟩; obtain ⟨u0, u1, u2⟩ := HC.out w2 hb2)
        | fail)
      go_ret
      exact (ho2.lower hle).namesTo (HB0.out.trans (hb2.mono hle))
    · have hto' : (t.to.toList == []) = false := by simpa using hto
      by_cases hf0 : f < 0
      · have HR : Hid (rdo N t = rwithout N t.fr) := Lib.hid (by unfold rdo; rw [if_pos hneg, if_pos (.inr (by rw [← hf]; exact hf0))])
        rw [HR.out]
        clear hf hto
        go_enter Try.func61, Try.ntmps61
        go_wp2_with (first
          | (go_at_call 25; rw [← HW0.out]; refine HFI.out.mono ?_; rintro e w' ⟨rfl, rfl⟩)
          | (go_at_call 69; refine HWO.out.mono ?_; rintro e w2 ⟨v2, rfl, ho2, hb2⟩; obtain ⟨u0, u1, u2⟩ := HC.out w2 hb2)
          | fail)
        go_ret
        exact (ho2.lower hle).namesTo (HB0.out.trans (hb2.mono hle))
      · obtain ⟨fn, rfl⟩ : ∃ fn : Nat, f = (fn : Int) := ⟨f.toNat, by omega⟩
        have HR : Hid (rdo N t = rput (rwithout N t.fr) (t.to, fn)) := Lib.hid (by
          unfold rdo
          rw [if_pos hneg, if_neg (by rw [← hf]; exact fun hh => hh.elim hto hf0), ← hf]
          rfl)
        rw [HR.out]
        clear hf hto
        go_enter Try.func61, Try.ntmps61
        go_wp2_with (first
          | (go_at_call 25; rw [← HW0.out]; refine HFI.out.mono ?_; rintro e w' ⟨rfl, rfl⟩)
          | (go_at_call 69; refine HWO.out.mono ?_; rintro e w2 ⟨v2, rfl, ho2, hb2⟩; obtain ⟨A2, c2, rfl⟩ := ho2.form; obtain ⟨u0, u1, u2⟩ := HC.out w2 hb2; have HP2 := Lib.hid (put_any (wid X W0 w2) A2 _ c2 (rwithout N t.fr) (t.to, fn) w2 (wid_old (fun b hx => by have := hX b hx; omega) hb2.size) rfl (by omega) (SX.of_own ho2 fun b h1 h2 => .inr ⟨h1, h2⟩)))
          | (go_at_call 26; refine HP2.out.mono ?_; rintro e w3 ⟨v3, rfl, ho3, hb3⟩)
          | fail)
        go_ret
        have hs2 := hb2.size
        exact (ho3.lower (by omega)).namesTo ((HB0.out.trans (hb2.mono hle)).trans (hb3.mono (by omega)))
  · have hneg' : decide (t.file < 0) = false := by simpa using hneg
    by_cases hto : (t.to.toList == []) = true
    · have HR : Hid (rdo N t = N) := Lib.hid (by unfold rdo; rw [if_neg hneg, if_pos hto])
      rw [HR.out]
      clear hf
      go_enter Try.func61, Try.ntmps61
      go_wp2
      rw [← HW0.out]
      go_ret
      subst hl
      exact ⟨A, c, rfl, hnc, hcm, HS.out.more fun b hb => .inl hb, HB0.out⟩
    · have hto' : (t.to.toList == []) = false := by simpa using hto
      obtain ⟨fz, hfz⟩ : ∃ fz : Nat, t.file = (fz : Int) := ⟨t.file.toNat, by omega⟩
      have hfz0 : ¬ ((fz : Int) < 0) := by omega
      have HR : Hid (rdo N t = rput N (t.to, fz)) := Lib.hid (by unfold rdo; rw [if_neg hneg, if_neg hto, hfz]; rfl)
      rw [HR.out]
      rw [hfz] at t2 HW0 ⊢
      clear hf hto hneg hneg' HC
      go_enter Try.func61, Try.ntmps61
      go_wp2_with (first
        | (go_at_call 26; rw [← HW0.out]; refine (HPU.out fz).mono ?_; rintro e w3 ⟨v3, rfl, ho3, hb3⟩)
        | fail)
      go_ret
      exact (ho3.lower hle).namesTo (HB0.out.trans (hb3.mono hle))
end Go.Proofs.Ytekhockdgglndaa
