/-
  CONTRACTS OF (*expr.Cursor).sign, number.
-/
import Derived.Test.YtnhhdafhnngolaaDoorEpP
namespace Go.Proofs.YtnhhdafhnngolaaDoor
set_option linter.unusedVariables false
set_option linter.unusedSimpArgs false
open Go.RowKit

theorem ex_taken {C : Cx} {p : Nat} {s : ByteArray} (h : C.R.is p s.toList = true) : C.R.wd p = s := by
  unfold Rw.is at h
  rw [ByteArray.toList_eq, ByteArray.toList_eq] at h
  apply ByteArray.ext
  apply Array.ext'
  simpa using h
/-- An operation that yields a value, told. -/
theorem wpList_val {P : Program} {ops : Array Oper} {rest : List Oper} {o : Oper} {a : Act} {w : World} {Q : Exit → Act → World → Prop} (t : TypeId) (x i : Operand) (ho : o.op = .index t x i) (hgd : o.guard = none) (v : Value) (h : (execOp a.eval o).run P w = .ok (.value v) w) (hK : wpList P ops Q rest (a.put o.dst v) w) : wpList P ops Q (o :: rest) a w :=
  wpList_plain hgd fun K hK' => by
    unfold Oper.wp
    rw [h]
    exact hK' _ _ hK
/-- What sign answers. -/
def SgTo (C : Cx) (p : Nat) (y : Bool) (w : World) (e : Ending) (w' : World) : Prop :=
  e = .returned (.string (if y = true then C.R.wd p else ⟨#[]⟩)) ∧ Cur C w' (if y = true then p + 1 else p) ∧ w.grownBy w' (some C.g)
set_option maxRecDepth 10000 in
set_option maxHeartbeats 800000 in
theorem sign_gen (C : Cx) (hC : TokOk C.T C.L) (p l : Nat) (w : World) (h : Cur C w p) (hl : l < 6) (s0 s1 : ByteArray) (h0 : s0.size ≠ 0) (c0 : w.cell? ⟨0, l * 2, none⟩ = some (.string s0)) (c1 : w.cell? ⟨0, l * 2 + 1, none⟩ = some (.string s1)) :
    Calls Tryd.prog 68 #[C.ptr, .int .i64 (l : Int)] w (SgTo C p (C.R.is p s0.toList || (decide (s1.size ≠ 0) && C.R.is p s1.toList)) w) := by
  have H := Lib.hid h
  clear h
  go_enter Tryd.func68, Tryd.ntmps68
  go_wp2
  go_loopw [10] (fun iv wr => ∃ k : Nat, iv = .int .i64 (k : Int) ∧ k ≤ 2 ∧ Cur C wr p ∧ w.grownBy wr (some C.g) ∧ (1 ≤ k → C.R.is p s0.toList = false) ∧ (2 ≤ k → (decide (s1.size ≠ 0) && C.R.is p s1.toList) = false)) (fun iv _ => 2 - (intOf iv).toNat)
  case atStart => exact ⟨0, rfl, by omega, H.out, World.grownBy.refl _ _, (fun h => by omega), (fun h => by omega)⟩
  case round =>
    obtain ⟨k, rfl, hk, hcur, hg, hk1, hk2⟩ := hrel
    have HC := Lib.hid hcur
    have HG := Lib.hid hg
    have HK1 := Lib.hid hk1
    have HK2 := Lib.hid hk2
    clear hcur hg hk1 hk2
    obtain rfl | rfl | rfl : k = 0 ∨ k = 1 ∨ k = 2 := by omega
    · have HT := Lib.hid (takeL C hC p wr HC.out s0 h0)
      cases hq : C.R.is p s0.toList with
      | true =>
        rw [hq] at HT
        go_wp2_with (first
          | (go_at_call 27; refine HT.out.mono ?_; rintro e w2 ⟨rfl, hc2, hg2, _⟩; have HC2 := Lib.hid hc2; have HG2 := Lib.hid hg2; clear hc2 hg2; dsimp only)
          | (refine wpList_val 116 (.tmp 9) (.tmp 10) rfl rfl (.string s0) (by kernel_rfl) ?_)
          | fail)
        go_ret
        exact ⟨by rw [ex_taken hq]; rfl, HC2.out, gb_trans HG.out HG2.out⟩
      | false =>
        rw [hq] at HT
        go_wp2_with (first
          | (go_at_call 27; refine HT.out.mono ?_; rintro e w2 ⟨rfl, hc2, hg2, _⟩; have HC2 := Lib.hid hc2; have HG2 := Lib.hid hg2; clear hc2 hg2; dsimp only)
          | (refine wpList_val 116 (.tmp 9) (.tmp 10) rfl rfl (.string s0) (by kernel_rfl) ?_)
          | fail)
        go_roundw
        case rel => exact ⟨1, by go_num, by omega, HC2.out, gb_trans HG.out HG2.out, (fun _ => by first | rfl | trivial), (fun h => by omega)⟩
        case measure => simp [intOf]
    · by_cases hs1 : s1.size = 0
      · have hs2 : s1 = ⟨#[]⟩ := by
          apply ByteArray.ext
          exact Array.eq_empty_of_size_eq_zero hs1
        subst hs2
        have HT := Lib.hid (takeNone_any C hC p wr HC.out)
        have HQ : Hid (C.R.is p s0.toList = false) := Lib.hid (HK1.out (by omega))
        go_wp2_with (first
          | (go_at_call 27; refine HT.out.mono ?_; rintro e w2 ⟨rfl, rfl⟩; dsimp only)
          | (refine wpList_val 116 (.tmp 9) (.tmp 10) rfl rfl (.string ⟨#[]⟩) (by kernel_rfl) ?_)
          | fail)
        go_roundw
        case rel => exact ⟨2, by go_num, by omega, HC.out, HG.out, (fun _ => by first | exact HQ.out | trivial), (fun h => by first | rfl | trivial)⟩
        case measure => simp [intOf]
      · have HT := Lib.hid (takeL C hC p wr HC.out s1 hs1)
        have HQ : Hid (C.R.is p s0.toList = false) := Lib.hid (HK1.out (by omega))
        have HD : Hid (decide (s1.size ≠ 0) = true) := Lib.hid (by simpa using hs1)
        rw [HQ.out, HD.out]
        cases hq : C.R.is p s1.toList with
        | true =>
          rw [hq] at HT
          go_wp2_with (first
            | (go_at_call 27; refine HT.out.mono ?_; rintro e w2 ⟨rfl, hc2, hg2, _⟩; have HC2 := Lib.hid hc2; have HG2 := Lib.hid hg2; clear hc2 hg2; dsimp only)
            | (refine wpList_val 116 (.tmp 9) (.tmp 10) rfl rfl (.string s1) (by kernel_rfl) ?_)
            | fail)
          go_ret
          exact ⟨by rw [ex_taken hq]; rfl, HC2.out, gb_trans HG.out HG2.out⟩
        | false =>
          rw [hq] at HT
          go_wp2_with (first
            | (go_at_call 27; refine HT.out.mono ?_; rintro e w2 ⟨rfl, hc2, hg2, _⟩; have HC2 := Lib.hid hc2; have HG2 := Lib.hid hg2; clear hc2 hg2; dsimp only)
            | (refine wpList_val 116 (.tmp 9) (.tmp 10) rfl rfl (.string s1) (by kernel_rfl) ?_)
            | fail)
          go_roundw
          case rel => exact ⟨2, by go_num, by omega, HC2.out, gb_trans HG.out HG2.out, (fun _ => by first | exact HQ.out | trivial), (fun h => by first | (rw [HD.out, hq]; rfl) | rfl | trivial)⟩
          case measure => simp [intOf]
    · have HQ : Hid ((C.R.is p s0.toList || (decide (s1.size ≠ 0) && C.R.is p s1.toList)) = false) := Lib.hid (by rw [HK1.out (by omega), HK2.out (by omega)]; rfl)
      go_wp2
      go_ret
      unfold SgTo
      rw [HQ.out]
      exact ⟨rfl, HC.out, HG.out⟩
theorem sign_lev (C : Cx) (hC : TokOk C.T C.L) (p l : Nat) (w : World) (h : Cur C w p) (h1 : 1 ≤ l) (h5 : l ≤ 5) :
    Calls Tryd.prog 68 #[C.ptr, .int .i64 (l : Int)] w (SgTo C p (sgnL l (C.R.wd p)) w) := by
  have hv := h.vars.lev
  have hcell : ∀ (j : Nat) v, levC[j]? = some v → w.cell? ⟨0, j, none⟩ = some v := fun j v hj => by simpa using hv j v hj
  obtain rfl | rfl | rfl | rfl | rfl : l = 1 ∨ l = 2 ∨ l = 3 ∨ l = 4 ∨ l = 5 := by omega
  · have e : sgnL 1 (C.R.wd p) = (C.R.is p (⟨#[124, 124]⟩ : ByteArray).toList || (decide ((⟨#[]⟩ : ByteArray).size ≠ 0) && C.R.is p (⟨#[]⟩ : ByteArray).toList)) := by
      rw [show decide ((⟨#[]⟩ : ByteArray).size ≠ 0) = false by decide, Bool.false_and, Bool.or_false, ByteArray.toList_eq]
      rfl
    rw [e]
    exact sign_gen C hC p 1 w h (by omega) ⟨#[124, 124]⟩ ⟨#[]⟩ (by decide) (hcell 2 _ rfl) (hcell 3 _ rfl)
  · have e : sgnL 2 (C.R.wd p) = (C.R.is p (⟨#[38, 38]⟩ : ByteArray).toList || (decide ((⟨#[]⟩ : ByteArray).size ≠ 0) && C.R.is p (⟨#[]⟩ : ByteArray).toList)) := by
      rw [show decide ((⟨#[]⟩ : ByteArray).size ≠ 0) = false by decide, Bool.false_and, Bool.or_false, ByteArray.toList_eq]
      rfl
    rw [e]
    exact sign_gen C hC p 2 w h (by omega) ⟨#[38, 38]⟩ ⟨#[]⟩ (by decide) (hcell 4 _ rfl) (hcell 5 _ rfl)
  · have e : sgnL 3 (C.R.wd p) = (C.R.is p (⟨#[61, 61]⟩ : ByteArray).toList || (decide ((⟨#[60]⟩ : ByteArray).size ≠ 0) && C.R.is p (⟨#[60]⟩ : ByteArray).toList)) := by
      rw [show decide ((⟨#[60]⟩ : ByteArray).size ≠ 0) = true by decide, Bool.true_and, ByteArray.toList_eq, ByteArray.toList_eq]
      rfl
    rw [e]
    exact sign_gen C hC p 3 w h (by omega) ⟨#[61, 61]⟩ ⟨#[60]⟩ (by decide) (hcell 6 _ rfl) (hcell 7 _ rfl)
  · have e : sgnL 4 (C.R.wd p) = (C.R.is p (⟨#[43]⟩ : ByteArray).toList || (decide ((⟨#[45]⟩ : ByteArray).size ≠ 0) && C.R.is p (⟨#[45]⟩ : ByteArray).toList)) := by
      rw [show decide ((⟨#[45]⟩ : ByteArray).size ≠ 0) = true by decide, Bool.true_and, ByteArray.toList_eq, ByteArray.toList_eq]
      rfl
    rw [e]
    exact sign_gen C hC p 4 w h (by omega) ⟨#[43]⟩ ⟨#[45]⟩ (by decide) (hcell 8 _ rfl) (hcell 9 _ rfl)
  · have e : sgnL 5 (C.R.wd p) = (C.R.is p (⟨#[42]⟩ : ByteArray).toList || (decide ((⟨#[]⟩ : ByteArray).size ≠ 0) && C.R.is p (⟨#[]⟩ : ByteArray).toList)) := by
      rw [show decide ((⟨#[]⟩ : ByteArray).size ≠ 0) = false by decide, Bool.false_and, Bool.or_false, ByteArray.toList_eq]
      rfl
    rw [e]
    exact sign_gen C hC p 5 w h (by omega) ⟨#[42]⟩ ⟨#[]⟩ (by decide) (hcell 10 _ rfl) (hcell 11 _ rfl)
end Go.Proofs.YtnhhdafhnngolaaDoor
