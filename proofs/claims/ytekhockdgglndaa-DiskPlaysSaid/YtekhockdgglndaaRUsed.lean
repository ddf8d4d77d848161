/-
  CONTRACT OF the document's Used.
-/
import Derived.Test.YtekhockdgglndaaRSimple
namespace Go.Proofs.Ytekhockdgglndaa
set_option linter.unusedVariables false
set_option linter.unusedSimpArgs false
open Go.RowKit

/-- How long a file is. -/
def lenAt (l : List RFl) (i : Nat) : Nat := match l[i]? with | some f => f.n | none => 0
theorem lenAt_of {l : List RFl} {i : Nat} {f : RFl} (h : l[i]? = some f) : lenAt l i = f.n := by simp [lenAt, h]
def usedOf (l : List RFl) (N : List RE) : Nat := (N.map fun q => lenAt l q.2).sum
theorem usedOf_next {l : List RFl} {N : List RE} {k : Nat} {q : RE} (h : N[k]? = some q) : usedOf l (N.take (k + 1)) = usedOf l (N.take k) + lenAt l q.2 := by
  rw [take_more h]; simp [usedOf]
theorem usedOf_le {l : List RFl} (hb : ∀ f ∈ l, f.n ≤ 1100000) (N : List RE) : usedOf l N ≤ 1100000 * N.length := by
  induction N with
  | nil => simp [usedOf]
  | cons q N ih =>
    have e : usedOf l (q :: N) = lenAt l q.2 + usedOf l N := by simp [usedOf]
    have h1 : lenAt l q.2 ≤ 1100000 := by
      unfold lenAt
      split
      · rename_i f hf
        exact hb f (List.mem_of_getElem? hf)
      · omega
    rw [e, List.length_cons]
    omega
def RS.used (R : RS) : Nat := usedOf R.files R.now

set_option maxRecDepth 10000 in
set_option maxHeartbeats 800000 in
theorem rused_any (X : Nat → Prop) (x : Nat) (V : RL) (R : RS) (w : World) (h : RAt w X x V R) (hn : R.now.length ≤ 900) (hp : ∀ q ∈ R.now, q.2 < R.files.length) (hb : ∀ f ∈ R.files, f.n ≤ 1100000) :
    Calls Try.prog 44 #[.pointer (some ⟨x, 0, none⟩)] w fun e w' => e = .returned (.int .i64 (R.used : Nat)) ∧ Quiet w w' := by
  have c0 : w.cell? ⟨x, 0, none⟩ = some (.slice V.fA R.files.length V.fc) := h.cell 0
  have c1 : w.cell? ⟨x, 1, none⟩ = some (.slice V.nA R.now.length V.nc) := h.cell 1
  obtain ⟨n, hnn⟩ : ∃ n, n = R.now.length := ⟨_, rfl⟩
  obtain ⟨nf, hnf⟩ : ∃ nf, nf = R.files.length := ⟨_, rfl⟩
  rw [← hnn] at hn c1
  rw [← hnf] at c0
  have HN := Lib.hid hnn
  have HNF := Lib.hid hnf
  have H := Lib.hid h
  have HP := Lib.hid hp
  have HB := Lib.hid hb
  have HU : Hid (∀ k, usedOf R.files (R.now.take k) ≤ 990000000) := Lib.hid fun k => by
    have := usedOf_le hb (R.now.take k)
    rw [List.length_take] at this
    omega
  clear h hp hb hnn hnf
  go_enter Try.func44, Try.ntmps44
  go_wp2
  go_loopw [3, 4] (fun s i wr => ∃ k : Nat, k ≤ n ∧ i = .int .i64 k ∧ s = .int .i64 (usedOf R.files (R.now.take k) : Nat) ∧ Quiet w wr) (fun _ i _ => n - (intOf i).toNat)
  case atStart => exact ⟨0, Nat.zero_le _, rfl, rfl, Quiet.refl _⟩
  case round =>
    obtain ⟨k, hk, rfl, rfl, qq, rfl⟩ := hrel
    have hu := HU.out k
    by_cases hlt : k < n
    · obtain ⟨q, hq⟩ : ∃ q, R.now[k]? = some q := ⟨_, List.getElem?_eq_getElem (by rw [← HN.out]; exact hlt)⟩
      have hqf := HP.out q (List.mem_of_getElem? hq)
      obtain ⟨f, hf⟩ : ∃ f, R.files[q.2]? = some f := ⟨_, List.getElem?_eq_getElem hqf⟩
      have hfn := HB.out f (List.mem_of_getElem? hf)
      obtain ⟨b, off, hA, _, e0, e1⟩ := NX.at H.out.nr.sh rfl hq
      obtain ⟨b2, off2, hA2, d0, d1⟩ := H.out.file hf
      have HX := Lib.hid (usedOf_next (l := R.files) hq)
      have HF := Lib.hid (lenAt_of hf)
      obtain ⟨u, hu0⟩ : ∃ u, u = usedOf R.files (R.now.take k) := ⟨_, rfl⟩
      rw [← hu0] at hu HX ⊢
      rw [← HNF.out] at hqf
      obtain ⟨i, hi⟩ : ∃ i, i = q.2 := ⟨_, rfl⟩
      rw [← hi] at d0 d1 hqf e1 HX HF
      have c0' : w.cell? ⟨x, 0, none⟩ = some (.slice (some ⟨b2, off2, none⟩) nf V.fc) := by rw [← hA2]; exact c0
      have c1' : w.cell? ⟨x, 1, none⟩ = some (.slice (some ⟨b, off, none⟩) n V.nc) := by rw [← hA]; exact c1
      have hki : (i : Int) < (nf : Int) := by omega
      clear c0 c1 hA hA2 hq hf hu0 hi d1 e0
      go_wp2
      go_quiet (fail)
      go_wp2
      go_roundw
      case rel => exact ⟨k + 1, by omega, by go_num, congrArg (Value.int .i64) (by rw [HX.out, HF.out]; omega), Quiet.one _ _⟩
      case measure => simp [intOf]; omega
    · obtain rfl : k = n := by omega
      have HT : Hid (R.now.take k = R.now) := Lib.hid (List.take_of_length_le (by rw [← HN.out]; exact Nat.le_refl _))
      rw [HT.out]
      go_wp2
      go_ret
      exact ⟨rfl, Quiet.one _ _⟩
end Go.Proofs.Ytekhockdgglndaa
