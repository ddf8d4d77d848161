import Derived.Test.YtkjhlgnpohamnaaGreatDoorSame
namespace Go.Proofs.YtkjhlgnpohamnaaGreatDoor
set_option linter.unusedVariables false
set_option linter.unusedSimpArgs false
open Go.RowKit
theorem rowB : RowT Tryz.prog 22 5 1 1:=RowT.mk (z:=.int .u8 0) Tryz.underlying22 (by kernel_rfl) rfl (by omega)
end Go.Proofs.YtkjhlgnpohamnaaGreatDoor
