/-
  No cell of these rows narrows 'for every input' (looked for: loops, veiled, ifaces, maps, wideKeys, modest, calm, conditions, laid).
  DERIVED. THE GIVEN ROWS OF THIS SEAT. 5 by the template 'for every input the law returns true; each argument reads behind the call as it read before'; 0 by the template 'total and deterministic' (their statements: YtmodcdpljflmaaaTotals.lean).
  GIVEN WITH THE SEED: the statements are not yours to turn. If you find one false, say at which input.
  Laid BY PROGRAM, IN A SANDBOX (cutbox-rows.mjs): the forced cells as the released guide's own fill.sh prints them over the translation 05322d6c20c963e0… (all of the seat's roots in one cut). By AI agents, Wed Nov 11 2026. No macro, syntax, notation, axiom, sorry.
-/
import Derived.Test.YtmodcdpljflmaaaChecked
import GoSem.Claim
import GoSem.ClaimJoined
import GoSem.ClaimMapViews
import Derived.JoinedTies
import Derived.KernelRfl
namespace Go.Proofs.Ytmodcdpljflmaaa
/- THE CELL 'sum', in the pinned program and in every row, IS THE sha256 OF THE DUMP (.gsa) THAT YtmodcdpljflmaaaProg.lean LOADS. Nothing in Lean hashes anything: it is a label: what it is worth is what the hold of that sum in a sandbox is worth. -/
noncomputable def Try.pinned : Pinned := { name := "ytmodcdpljflmaaa", sum := "05322d6c20c963e0fa7cdc5fe9cd1d167561932dfe85d88fc968768e11895473", checked := Try.checked }
namespace Rows
def none {H : Type} : Left H := { results := [], args := [] }

/-- 'blazonlaw01.NumShorts': WHATEVER THE INPUT: true; the input reads as it did. -/
def numShortsSpec : ChangeSpec := { name := "numShorts", fn := fun _ => fun
  | [d1, d2] => { results := [.lit (.bool true)], args := [d1, d2] }
  | _ => none }
def numShortsRow : OpenClaim := { program := "ytmodcdpljflmaaa", sum := "05322d6c20c963e0fa7cdc5fe9cd1d167561932dfe85d88fc968768e11895473", func := "blazon/blazonlaw01.NumShorts", spec := "numShorts", apart := false }
def NumShortsSaid : Prop := numShortsRow.holds Try.pinned (OpenSpec.ofChange numShortsSpec)

/-- ITS FALSE NEIGHBOUR: 'it returns false'. Refute it at one input. -/
def numShortsWrong : ChangeSpec := { name := "numShorts", fn := fun _ => fun
  | [d1, d2] => { results := [.lit (.bool false)], args := [d1, d2] }
  | _ => none }
def NumShortsWrongFalsely : Prop := numShortsRow.holds Try.pinned (OpenSpec.ofChange numShortsWrong)

/-- 'blazonlaw01.NumFours': WHATEVER THE INPUT: true; the input reads as it did. -/
def numFoursSpec : ChangeSpec := { name := "numFours", fn := fun _ => fun
  | [d1, d2] => { results := [.lit (.bool true)], args := [d1, d2] }
  | _ => none }
def numFoursRow : OpenClaim := { program := "ytmodcdpljflmaaa", sum := "05322d6c20c963e0fa7cdc5fe9cd1d167561932dfe85d88fc968768e11895473", func := "blazon/blazonlaw01.NumFours", spec := "numFours", apart := false }
def NumFoursSaid : Prop := numFoursRow.holds Try.pinned (OpenSpec.ofChange numFoursSpec)

/-- ITS FALSE NEIGHBOUR: 'it returns false'. Refute it at one input. -/
def numFoursWrong : ChangeSpec := { name := "numFours", fn := fun _ => fun
  | [d1, d2] => { results := [.lit (.bool false)], args := [d1, d2] }
  | _ => none }
def NumFoursWrongFalsely : Prop := numFoursRow.holds Try.pinned (OpenSpec.ofChange numFoursWrong)

/-- 'blazonlaw01.NumSums': WHATEVER THE INPUT: true; the input reads as it did. -/
def numSumsSpec : ChangeSpec := { name := "numSums", fn := fun _ => fun
  | [d1, d2, d3] => { results := [.lit (.bool true)], args := [d1, d2, d3] }
  | _ => none }
def numSumsRow : OpenClaim := { program := "ytmodcdpljflmaaa", sum := "05322d6c20c963e0fa7cdc5fe9cd1d167561932dfe85d88fc968768e11895473", func := "blazon/blazonlaw01.NumSums", spec := "numSums", apart := false }
def NumSumsSaid : Prop := numSumsRow.holds Try.pinned (OpenSpec.ofChange numSumsSpec)

/-- ITS FALSE NEIGHBOUR: 'it returns false'. Refute it at one input. -/
def numSumsWrong : ChangeSpec := { name := "numSums", fn := fun _ => fun
  | [d1, d2, d3] => { results := [.lit (.bool false)], args := [d1, d2, d3] }
  | _ => none }
def NumSumsWrongFalsely : Prop := numSumsRow.holds Try.pinned (OpenSpec.ofChange numSumsWrong)

/-- 'blazonlaw01.NumBack': WHATEVER THE INPUT: true; the input reads as it did. -/
def numBackSpec : ChangeSpec := { name := "numBack", fn := fun _ => fun
  | [d1, d2, d3, d4] => { results := [.lit (.bool true)], args := [d1, d2, d3, d4] }
  | _ => none }
def numBackRow : OpenClaim := { program := "ytmodcdpljflmaaa", sum := "05322d6c20c963e0fa7cdc5fe9cd1d167561932dfe85d88fc968768e11895473", func := "blazon/blazonlaw01.NumBack", spec := "numBack", apart := false }
def NumBackSaid : Prop := numBackRow.holds Try.pinned (OpenSpec.ofChange numBackSpec)

/-- ITS FALSE NEIGHBOUR: 'it returns false'. Refute it at one input. -/
def numBackWrong : ChangeSpec := { name := "numBack", fn := fun _ => fun
  | [d1, d2, d3, d4] => { results := [.lit (.bool false)], args := [d1, d2, d3, d4] }
  | _ => none }
def NumBackWrongFalsely : Prop := numBackRow.holds Try.pinned (OpenSpec.ofChange numBackWrong)

/-- 'blazonlaw01.NumLonger': WHATEVER THE INPUT: true; the input reads as it did. -/
def numLongerSpec : ChangeSpec := { name := "numLonger", fn := fun _ => fun
  | [d1, d2] => { results := [.lit (.bool true)], args := [d1, d2] }
  | _ => none }
def numLongerRow : OpenClaim := { program := "ytmodcdpljflmaaa", sum := "05322d6c20c963e0fa7cdc5fe9cd1d167561932dfe85d88fc968768e11895473", func := "blazon/blazonlaw01.NumLonger", spec := "numLonger", apart := false }
def NumLongerSaid : Prop := numLongerRow.holds Try.pinned (OpenSpec.ofChange numLongerSpec)

/-- ITS FALSE NEIGHBOUR: 'it returns false'. Refute it at one input. -/
def numLongerWrong : ChangeSpec := { name := "numLonger", fn := fun _ => fun
  | [d1, d2] => { results := [.lit (.bool false)], args := [d1, d2] }
  | _ => none }
def NumLongerWrongFalsely : Prop := numLongerRow.holds Try.pinned (OpenSpec.ofChange numLongerWrong)

/- THE SECOND FORM. 'bulk': how many values and letters a reading holds, each counted each time it is reached (what is shared counts as often as it is met; a slice's spare places count too). A statement '..UptoSaid' is the law's where the arguments, and the package variables that the reading takes, are together of bulk at most 1048576: NARROWER than '..Said'. Prove '..Said' where nothing that the law and all that it calls make is longer than what came in: it says more and counts as full. Else prove '..UptoSaid'. A law counts once. -/
mutual
def uptoBulk {H : Type} : DataW H → Nat
  | .lit (.string bytes) => bytes.length + 1
  | .lit _ => 1
  | .nil => 1
  | .ptr d => uptoBulk d + 1
  | .slice elems spare => uptoBulkAll elems + uptoBulkAll spare + 1
  | .agg parts => uptoBulkAll parts + 1
  | .iface _ d => uptoBulk d + 1
  | .map entries => uptoBulkEntries entries + 1
  | .held _ => 1
def uptoBulkAll {H : Type} : List (DataW H) → Nat
  | [] => 0
  | d :: r => uptoBulk d + uptoBulkAll r
def uptoBulkEntries {H : Type} : List (Lit × DataW H) → Nat
  | [] => 0
  | x :: r => uptoBulkEntry x + uptoBulkEntries r
def uptoBulkEntry {H : Type} : Lit × DataW H → Nat
  | (.string bytes, d) => bytes.length + uptoBulk d + 1
  | (_, d) => uptoBulk d + 1
 end
def uptoSmall : (H : Type) → List (DataW H) → Bool := fun _ ds => decide (uptoBulkAll ds ≤ 1048576)
def OpenSpec.upto (s : _root_.Go.ChangeSpec) : _root_.Go.OpenSpec := { _root_.Go.OpenSpec.ofChange s with cond := some uptoSmall }

/-- 'blazonlaw01.NumShorts', WHERE WHAT IT READS IS OF BULK AT MOST 1048576: true; the input reads as it did. -/
def numShortsUptoRow : OpenClaim := { program := "ytmodcdpljflmaaa", sum := "05322d6c20c963e0fa7cdc5fe9cd1d167561932dfe85d88fc968768e11895473", func := "blazon/blazonlaw01.NumShorts", spec := "numShorts", apart := false, narrowed := true }
def NumShortsUptoSaid : Prop := numShortsUptoRow.holds Try.pinned (OpenSpec.upto numShortsSpec)

/-- 'blazonlaw01.NumFours', WHERE WHAT IT READS IS OF BULK AT MOST 1048576: true; the input reads as it did. -/
def numFoursUptoRow : OpenClaim := { program := "ytmodcdpljflmaaa", sum := "05322d6c20c963e0fa7cdc5fe9cd1d167561932dfe85d88fc968768e11895473", func := "blazon/blazonlaw01.NumFours", spec := "numFours", apart := false, narrowed := true }
def NumFoursUptoSaid : Prop := numFoursUptoRow.holds Try.pinned (OpenSpec.upto numFoursSpec)

/-- 'blazonlaw01.NumSums', WHERE WHAT IT READS IS OF BULK AT MOST 1048576: true; the input reads as it did. -/
def numSumsUptoRow : OpenClaim := { program := "ytmodcdpljflmaaa", sum := "05322d6c20c963e0fa7cdc5fe9cd1d167561932dfe85d88fc968768e11895473", func := "blazon/blazonlaw01.NumSums", spec := "numSums", apart := false, narrowed := true }
def NumSumsUptoSaid : Prop := numSumsUptoRow.holds Try.pinned (OpenSpec.upto numSumsSpec)

/-- 'blazonlaw01.NumBack', WHERE WHAT IT READS IS OF BULK AT MOST 1048576: true; the input reads as it did. -/
def numBackUptoRow : OpenClaim := { program := "ytmodcdpljflmaaa", sum := "05322d6c20c963e0fa7cdc5fe9cd1d167561932dfe85d88fc968768e11895473", func := "blazon/blazonlaw01.NumBack", spec := "numBack", apart := false, narrowed := true }
def NumBackUptoSaid : Prop := numBackUptoRow.holds Try.pinned (OpenSpec.upto numBackSpec)

/-- 'blazonlaw01.NumLonger', WHERE WHAT IT READS IS OF BULK AT MOST 1048576: true; the input reads as it did. -/
def numLongerUptoRow : OpenClaim := { program := "ytmodcdpljflmaaa", sum := "05322d6c20c963e0fa7cdc5fe9cd1d167561932dfe85d88fc968768e11895473", func := "blazon/blazonlaw01.NumLonger", spec := "numLonger", apart := false, narrowed := true }
def NumLongerUptoSaid : Prop := numLongerUptoRow.holds Try.pinned (OpenSpec.upto numLongerSpec)

end Rows
end Go.Proofs.Ytmodcdpljflmaaa
