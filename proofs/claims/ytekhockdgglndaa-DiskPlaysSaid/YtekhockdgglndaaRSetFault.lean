/-
  CONTRACT OF the document's SetFault.
-/
import Derived.Test.YtekhockdgglndaaRSimple
namespace Go.Proofs.Ytekhockdgglndaa
set_option linter.unusedVariables false
set_option linter.unusedSimpArgs false
open Go.RowKit

def RS.setFault (R : RS) (n e : Int) : RS := { R with fault := if e = 0 ∨ e = 9 then 0 else armed n, e := e }

set_option maxRecDepth 10000 in
set_option maxHeartbeats 800000 in
theorem rsetFault_any (X : Nat → Prop) (x : Nat) (V : RL) (R : RS) (n e : Int) (w : World) (h : RAt w X x V R) :
    Calls Try.prog 37 #[.pointer (some ⟨x, 0, none⟩), .int .i64 n, .int .i64 e] w fun e' w' => e' = .returned (.tuple #[]) ∧ (∃ V', RAt w' (wid X w w') x V' (R.setFault n e)) ∧ w.grownBy w' (some x) := by
  have HA := Lib.hid (arm_any n w)
  obtain ⟨k, hk⟩ : ∃ k, armed n = k := ⟨_, rfl⟩
  have c8 : w.cell? ⟨x, 8, none⟩ = some (.int .i64 (R.fault : Int)) := h.cell 8
  have c9 : w.cell? ⟨x, 9, none⟩ = some (.int .i64 R.e) := h.cell 9
  have hnf := h.nf
  rw [hk] at HA
  by_cases h0 : e = 0
  · subst h0
    have HR : Hid (RAt (((w.setCell ⟨x, 8, none⟩ (.int .i64 (k : Int))).setCell ⟨x, 9, none⟩ (.int .i64 0)).setCell ⟨x, 8, none⟩ (.int .i64 0)) X x V (R.setFault n 0)) :=
      Lib.hid (((h.set (R' := { R with fault := k }) 8 _ rfl rfl rfl rfl rfl).set (R' := { R with fault := k, e := 0 }) 9 _ rfl rfl rfl rfl rfl).set 8 _ (by simp [RS.setFault, rcellsOf]) rfl rfl rfl rfl)
    clear h hk
    go_enter Try.func37, Try.ntmps37
    go_wp2_with (first
      | (go_at_call 35; refine HA.out.mono ?_; rintro e w' ⟨rfl, rfl⟩)
      | fail)
    first | go_end0 | skip
    exact ⟨rfl, ⟨_, HR.out.widen w⟩, grownx_set (grownx_set (grownx_set (grownx_refl w x) 8 _) 9 _) 8 _⟩
  · by_cases h9 : e = 9
    · subst h9
      have HR : Hid (RAt (((w.setCell ⟨x, 8, none⟩ (.int .i64 (k : Int))).setCell ⟨x, 9, none⟩ (.int .i64 9)).setCell ⟨x, 8, none⟩ (.int .i64 0)) X x V (R.setFault n 9)) :=
        Lib.hid (((h.set (R' := { R with fault := k }) 8 _ rfl rfl rfl rfl rfl).set (R' := { R with fault := k, e := 9 }) 9 _ rfl rfl rfl rfl rfl).set 8 _ (by simp [RS.setFault, rcellsOf]) rfl rfl rfl rfl)
      clear h hk
      go_enter Try.func37, Try.ntmps37
      go_wp2_with (first
        | (go_at_call 35; refine HA.out.mono ?_; rintro e w' ⟨rfl, rfl⟩)
        | fail)
      first | go_end0 | skip
      exact ⟨rfl, ⟨_, HR.out.widen w⟩, grownx_set (grownx_set (grownx_set (grownx_refl w x) 8 _) 9 _) 8 _⟩
    · have t0 : (e == 0) = false := by simpa using h0
      have t9 : (e == 9) = false := by simpa using h9
      have HR : Hid (RAt ((w.setCell ⟨x, 8, none⟩ (.int .i64 (k : Int))).setCell ⟨x, 9, none⟩ (.int .i64 e)) X x V (R.setFault n e)) :=
        Lib.hid ((h.set (R' := { R with fault := k }) 8 _ rfl rfl rfl rfl rfl).set 9 _ (by simp [RS.setFault, rcellsOf, h0, h9, hk]) rfl rfl rfl rfl)
      clear h hk
      go_enter Try.func37, Try.ntmps37
      go_wp2_with (first
        | (go_at_call 35; refine HA.out.mono ?_; rintro e' w' ⟨rfl, rfl⟩)
        | fail)
      first | go_end0 | skip
      exact ⟨rfl, ⟨_, HR.out.widen w⟩, grownx_set (grownx_set (grownx_refl w x) 8 _) 9 _⟩
end Go.Proofs.Ytekhockdgglndaa
