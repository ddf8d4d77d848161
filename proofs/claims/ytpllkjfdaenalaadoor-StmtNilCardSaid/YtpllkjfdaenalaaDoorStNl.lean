/-
  CONTRACTS OF Type, Mark, Stmt, Row of a cursor that is none.
-/
import Derived.Test.YtpllkjfdaenalaaDoorMSy
import Derived.Test.YtpllkjfdaenalaaDoorEpI
namespace Go.Proofs.YtpllkjfdaenalaaDoor
set_option linter.unusedVariables false
set_option linter.unusedSimpArgs false
open Go.RowKit

set_option maxRecDepth 10000 in
theorem stypeN (w : World) : Calls Tryd.prog 9 #[nilP] w fun e w' => e = .returned (.tuple #[.int .i64 0, .int .i64 1]) ∧ Below w.heap.size w w' := by
  go_enter Tryd.func9, Tryd.ntmps9
  go_wp2
  go_ret2
  exact ⟨rfl, Below.refl _ _⟩
theorem bel_tn {w a b : World} {M : Nat → Prop} (h : Below w.heap.size w a) (k : Tn M a b) (hM : ∀ i, i < w.heap.size → ¬ M i) : Below w.heap.size w b := h.trans (k.below h.size hM)
set_option maxRecDepth 10000 in
set_option maxHeartbeats 800000 in
theorem smarkN (w : World) : Calls Tryd.prog 10 #[nilP] w fun e w' => e = .returned (.tuple #[anV An.nul, .int .i64 1]) ∧ Below w.heap.size w w' := by
  have hz := zeroAn
  have b1 : Below w.heap.size w (w.alloc (.cells #[.bool false, .bool false, .string ⟨#[]⟩, .int .i64 0, .int .i64 0] 34)) := (Below.refl _ w).alloc (Nat.le_refl _) _
  have JV : Hid (Var (w.alloc (.cells #[.bool false, .bool false, .string ⟨#[]⟩, .int .i64 0, .int .i64 0] 34)) w.heap.size (anC An.nul)) := Lib.hid (Var.new w (anC An.nul) 34 rfl)
  have B1 := Lib.hid b1
  clear b1
  go_enter Tryd.func10, Tryd.ntmps10
  go_wp2_with (first
    | (refine wpList_stV rfl 34 (.tmp 2) (.tmp 10) rfl rfl (us := anC An.nul) JV.out rfl info_an (Nat.le_refl 5) (anC_one _) ?_; intro w3 ht hs; have JV := Lib.hid (show Var w3 w.heap.size (anC An.nul) from hs); have B3 := Lib.hid (bel_tn B1.out ht (fun i hi e => by omega)); clear ht hs)
    | fail)
  exact v_done 34 rfl rfl rfl rfl JV.out Tryd.underlying34 rfl info_an ⟨rfl, B3.out⟩
set_option maxRecDepth 10000 in
set_option maxHeartbeats 800000 in
theorem sstmtN (D : Int) (w : World) : Calls Tryd.prog 11 #[nilP, .int .i64 D] w fun e w' => e = .returned (.tuple #[.agg (stC St.nul Tv.nul).toArray, .int .i64 1]) ∧ Below w.heap.size w w' := by
  have hzS := zeroSt
  have B1 : Hid (Below w.heap.size w (w.alloc (.cells #[.int .i64 0, .int .i64 0, .string ⟨#[]⟩, .int .i64 0, .bool false, .bool false, .string ⟨#[]⟩, .int .i64 0, .int .i64 0, .int .i64 0, .int .i64 0, .int .i64 0, .string ⟨#[]⟩, .string ⟨#[]⟩, .slice none 0 0, .slice none 0 0, .slice none 0 0] 41))) := Lib.hid ((Below.refl _ w).alloc (Nat.le_refl _) _)
  have JV : Hid (Var (w.alloc (.cells #[.int .i64 0, .int .i64 0, .string ⟨#[]⟩, .int .i64 0, .bool false, .bool false, .string ⟨#[]⟩, .int .i64 0, .int .i64 0, .int .i64 0, .int .i64 0, .int .i64 0, .string ⟨#[]⟩, .string ⟨#[]⟩, .slice none 0 0, .slice none 0 0, .slice none 0 0] 41)) w.heap.size (stC St.nul Tv.nul)) := Lib.hid (Var.new w (stC St.nul Tv.nul) 41 rfl)
  go_enter Tryd.func11, Tryd.ntmps11
  go_wp2_with (first
    | (refine wpList_stV rfl 41 (.tmp 4) (.tmp 9) rfl rfl (us := stC St.nul Tv.nul) JV.out rfl info_st (Nat.le_refl 17) (st_one0 St.nul) ?_; intro w3 ht hs; have JV := Lib.hid (show Var w3 w.heap.size (stC St.nul Tv.nul) from hs); have B3 := Lib.hid (bel_tn B1.out ht (fun i hi e => by omega)); clear ht hs)
    | fail)
  exact v_done 41 rfl rfl rfl rfl JV.out Tryd.underlying41 rfl info_st ⟨rfl, B3.out⟩
set_option maxRecDepth 10000 in
theorem srowN (D : Int) (w : World) : Calls Tryd.prog 12 #[nilP, .int .i64 D] w fun e w' => e = .returned (.tuple #[.slice none 0 0, .int .i64 1]) ∧ Below w.heap.size w w' := by
  go_enter Tryd.func12, Tryd.ntmps12
  go_wp2
  go_ret2
  exact ⟨rfl, Below.refl _ _⟩
end Go.Proofs.YtpllkjfdaenalaaDoor
