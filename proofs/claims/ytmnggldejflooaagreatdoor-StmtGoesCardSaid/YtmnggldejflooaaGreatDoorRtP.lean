import Derived.Test.YtmnggldejflooaaGreatDoorMRg
import Derived.Test.YtmnggldejflooaaGreatDoorMPa
namespace Go.Proofs.YtmnggldejflooaaGreatDoor
set_option linter.unusedVariables false
set_option linter.unusedSimpArgs false
open Go.RowKit
theorem Ry.fit9 {X : Ry} {T : ByteArray} {bs : List Int} (hT : X.T = T) (hL : X.L = live bs 0) (hb : bts T = bs) (hm : T.size ≤ 1000000) : X.Fit ∧ ∀ i, (X.R.wd i).size ≤ 1000000 := by
 have hn : bs.length ≤ 1000000 := by rw [← hb, bts_len]; exact hm
 have hok := live_ok hb hn
 have hR : X.R = rowT T (live bs 0) := by show rowT X.T X.L = _; rw [hT, hL]
 rw [← hL, ← hT] at hok
 exact ⟨⟨fun i => wd_size hok i, fun i hi => by rw [hR] at hi ⊢; exact live_dig hb i hi⟩, fun i => wd_size hok i⟩
end Go.Proofs.YtmnggldejflooaaGreatDoor
