import Derived.Test.YtkjhlgnpohamnaaGreatDoorMSy
import Derived.Test.YtkjhlgnpohamnaaGreatDoorMSz
import Derived.BigQuiet
import Derived.Test.YtkjhlgnpohamnaaGreatDoorMEi
import Derived.BigRegion
namespace Go.Proofs.YtkjhlgnpohamnaaGreatDoor
set_option linter.unusedVariables false
set_option linter.unusedSimpArgs false
open Go.RowKit
theorem bad_toks (bs : List Int) : isBad (toks bs 0) = isBad (live bs 0) ∧ badOf (toks bs 0) = badOf (live bs 0):=by
 unfold isBad badOf
 rw [bad_live]
 exact ⟨rfl,rfl⟩
def ex9 : List Int:=[108,101,116,32,120,58,32,105,110,116,32,64,108,111,119,32,61,32,49,59]
abbrev L9 : List Tk:=[(2,0,3),(2,4,5),(4,5,6),(2,7,10),(4,11,12),(2,12,15),(4,16,17),(3,18,19),(4,19,20)]
abbrev R9 : Rw:=rowT (strOfNums ex9) L9
theorem v0 : R9.wd 0 = ⟨#[108,101,116]⟩:=by rfl
theorem v1 : R9.wd 1 = ⟨#[120]⟩:=by rfl
theorem v2 : R9.wd 2 = ⟨#[58]⟩:=by rfl
theorem v3 : R9.wd 3 = ⟨#[105,110,116]⟩:=by rfl
theorem v4 : R9.wd 4 = ⟨#[64]⟩:=by rfl
theorem v6 : R9.wd 6 = ⟨#[61]⟩:=by rfl
theorem v7 : R9.wd 7 = ⟨#[49]⟩:=by rfl
theorem v8 : R9.wd 8 = ⟨#[59]⟩:=by rfl
theorem v9 : R9.wd 9 = ⟨#[]⟩:=by rfl
abbrev s9 : St:=.mk 0 0 ⟨#[120]⟩ 0 ⟨true,false,⟨#[108,111,119]⟩,12,15⟩ (eNum 18 1) [] []
end Go.Proofs.YtkjhlgnpohamnaaGreatDoor
