/-
  blazonlaw09.StmtNil, walked: of a cursor that is none nothing is read.
-/
import Derived.Test.YtpllkjfdaenalaaDoorStNl
import Derived.Test.YtpllkjfdaenalaaDoorStAw
namespace Go.Proofs.YtpllkjfdaenalaaDoor
set_option linter.unusedVariables false
set_option linter.unusedSimpArgs false
open Go.RowKit

set_option maxRecDepth 100000 in
set_option maxHeartbeats 1600000 in
theorem stmtNil_walk (z : Int) (w : World) (wz : (Lit.int .i64 z).wf) (hv : Vars w) :
    Calls Tryd.prog 4 #[.int .i64 z] w fun e w' => e = .returned (.bool true) ∧ Below w.heap.size w w' := by
  have hzA := zeroAn
  have hzS := zeroSt
  have hvs := hv.size
  have HAW : Hid (∀ W, Below w.heap.size w W → Calls Tryd.prog 5 #[] W fun e w' => e = .returned (.bool true) ∧ Below W.heap.size W w') := Lib.hid fun W hW => awake9_any W (hv.under hW hvs)
  have HB := Lib.hid (Below.refl w.heap.size w)
  clear hv
  go_enter Tryd.func4, Tryd.ntmps4
  go_wp2_with (first
    | (go_at_call 9; (with_reducible refine (stypeN _).mono ?_); rintro e w1 ⟨rfl, b⟩; have HB := Lib.hid (HB.out.trans (b.mono HB.out.size)); clear b; dsimp only)
    | (go_at_call 10; (with_reducible refine (smarkN _).mono ?_); rintro e w2 ⟨rfl, b⟩; have HB := Lib.hid (HB.out.trans (b.mono HB.out.size)); clear b; have hge := HB.out.size; have HV := Lib.hid (Var.new w2 (anC An.nul) 34 rfl); have HB1 := Lib.hid (HB.out.alloc hge (.cells #[.bool false, .bool false, .string ⟨#[]⟩, .int .i64 0, .int .i64 0] 34)); dsimp only; refine Hid.out ?_)
    | fail)
  refine Lib.hid ?_
  go_wp2_with (first
    | (refine wpList_stV rfl 34 (.tmp 5) (.tmp 17) rfl (G := w2.heap.size) (off := 0) rfl (us := anC An.nul) HV.out rfl info_an (Nat.le_refl 5) (anC_one _) ?_; intro w3 ht hs; have HB3 := Lib.hid (HB1.out.trans (ht.below HB1.out.size (fun k hk e => by omega))); clear ht hs)
    | (go_at_call 11; (with_reducible refine (sstmtN _ _).mono ?_); rintro e w4 ⟨rfl, b⟩; have HB4 := Lib.hid (HB3.out.trans (b.mono HB3.out.size)); clear b; have hge4 := HB4.out.size; have HV4 := Lib.hid (Var.new w4 (stC St.nul Tv.nul) 41 rfl); have HB5 := Lib.hid (HB4.out.alloc hge4 (.cells #[.int .i64 0, .int .i64 0, .string ⟨#[]⟩, .int .i64 0, .bool false, .bool false, .string ⟨#[]⟩, .int .i64 0, .int .i64 0, .int .i64 0, .int .i64 0, .int .i64 0, .string ⟨#[]⟩, .string ⟨#[]⟩, .slice none 0 0, .slice none 0 0, .slice none 0 0] 41)); dsimp only; refine Hid.out ?_)
    | fail)
  refine Lib.hid ?_
  go_wp2_with (first
    | (refine wpList_stV rfl 41 (.tmp 7) (.tmp 22) rfl (G := w4.heap.size) (off := 0) rfl (us := stC St.nul Tv.nul) HV4.out rfl info_st (Nat.le_refl 17) (st_one0 St.nul) ?_; intro w6 ht hs; have HB6 := Lib.hid (HB5.out.trans (ht.below HB5.out.size (fun k hk e => by omega))); clear ht hs)
    | (go_at_call 12; (with_reducible refine (srowN _ _).mono ?_); rintro e w7 ⟨rfl, b⟩; have HB7 := Lib.hid (HB6.out.trans (b.mono HB6.out.size)); clear b; dsimp only)
    | (go_at_call 5; (with_reducible refine (HAW.out _ HB7.out).mono ?_); rintro e w8 ⟨rfl, b⟩; have HB8 := Lib.hid (HB7.out.trans (b.mono HB7.out.size)); clear b)
    | fail)
  go_ret
  exact ⟨rfl, HB8.out⟩
end Go.Proofs.YtpllkjfdaenalaaDoor
