/-
  No cell of these rows narrows 'for every input' (looked for: loops, veiled, ifaces, maps, wideKeys, modest, calm, conditions, laid).
  DERIVED. THE GIVEN ROWS OF THIS SEAT. 6 by the template 'for every input the law returns true; each argument reads behind the call as it read before'; 0 by the template 'total and deterministic' (their statements: YthdfoahnkkkbmaaTotals.lean).
  GIVEN WITH THE SEED: the statements are not yours to turn. If you find one false, say at which input.
  Laid BY PROGRAM, IN A SANDBOX (cutbox-rows.mjs): the forced cells as the released guide's own fill.sh prints them over the translation e87543177dfc590a… (all of the seat's roots in one cut). By AI agents, Wed Nov 11 2026. No macro, syntax, notation, axiom, sorry.
-/
import Derived.Test.YthdfoahnkkkbmaaChecked
import GoSem.Claim
import GoSem.ClaimJoined
import GoSem.ClaimMapViews
import Derived.JoinedTies
import Derived.KernelRfl
namespace Go.Proofs.Ythdfoahnkkkbmaa
/- THE CELL 'sum', in the pinned program and in every row, IS THE sha256 OF THE DUMP (.gsa) THAT YthdfoahnkkkbmaaProg.lean LOADS. Nothing in Lean hashes anything: it is a label: what it is worth is what the hold of that sum in a sandbox is worth. -/
noncomputable def Try.pinned : Pinned := { name := "ythdfoahnkkkbmaa", sum := "e87543177dfc590a80942de1a99c8fbc5056f364ca01c9eb854e9c64a85582a0", checked := Try.checked }
namespace Rows
def none {H : Type} : Left H := { results := [], args := [] }

/-- 'blazonlaw13.OrderFull': WHATEVER THE INPUT: true; the input reads as it did. -/
def orderFullSpec : ChangeSpec := { name := "orderFull", fn := fun _ => fun
  | [d1, d2] => { results := [.lit (.bool true)], args := [d1, d2] }
  | _ => none }
def orderFullRow : OpenClaim := { program := "ythdfoahnkkkbmaa", sum := "e87543177dfc590a80942de1a99c8fbc5056f364ca01c9eb854e9c64a85582a0", func := "blazon/blazonlaw13.OrderFull", spec := "orderFull", unfollowed := true, recurses := true, apart := false }
def OrderFullSaid : Prop := orderFullRow.holds Try.pinned (OpenSpec.ofChange orderFullSpec)

/-- ITS FALSE NEIGHBOUR: 'it returns false'. Refute it at one input. -/
def orderFullWrong : ChangeSpec := { name := "orderFull", fn := fun _ => fun
  | [d1, d2] => { results := [.lit (.bool false)], args := [d1, d2] }
  | _ => none }
def OrderFullWrongFalsely : Prop := orderFullRow.holds Try.pinned (OpenSpec.ofChange orderFullWrong)

/-- 'blazonlaw14.LatticeNil': WHATEVER THE INPUT: true; the input reads as it did. -/
def latticeNilSpec : ChangeSpec := { name := "latticeNil", fn := fun _ => fun
  | [d1, d2] => { results := [.lit (.bool true)], args := [d1, d2] }
  | _ => none }
def latticeNilRow : OpenClaim := { program := "ythdfoahnkkkbmaa", sum := "e87543177dfc590a80942de1a99c8fbc5056f364ca01c9eb854e9c64a85582a0", func := "blazon/blazonlaw14.LatticeNil", spec := "latticeNil", inPlace := ["sync/atomic.LoadUint32", "(*internal/sync.Mutex).Lock", "internal/race.Disable", "sync/atomic.CompareAndSwapInt32", "internal/race.Enable", "internal/race.Acquire", "(*internal/sync.Mutex).lockSlow", "internal/sync.runtime_canSpin", "internal/sync.runtime_doSpin", "internal/sync.throw", "internal/sync.runtime_nanotime", "internal/sync.runtime_SemacquireMutex", "sync/atomic.AddInt32", "(*internal/sync.Mutex).Unlock", "internal/race.ReleaseMerge", "(*internal/sync.Mutex).unlockSlow", "internal/sync.fatal", "internal/sync.runtime_Semrelease", "sync/atomic.StoreUint32", "sync/atomic.AddInt64", "sync/atomic.LoadInt64"], unfollowed := true, recurses := true, apart := false }
def LatticeNilSaid : Prop := latticeNilRow.holds Try.pinned (OpenSpec.ofChange latticeNilSpec)

/-- ITS FALSE NEIGHBOUR: 'it returns false'. Refute it at one input. -/
def latticeNilWrong : ChangeSpec := { name := "latticeNil", fn := fun _ => fun
  | [d1, d2] => { results := [.lit (.bool false)], args := [d1, d2] }
  | _ => none }
def LatticeNilWrongFalsely : Prop := latticeNilRow.holds Try.pinned (OpenSpec.ofChange latticeNilWrong)

/-- 'blazonlaw16.RowFull': WHATEVER THE INPUT: true; the input reads as it did. -/
def rowFullSpec : ChangeSpec := { name := "rowFull", fn := fun _ => fun
  | [d] => { results := [.lit (.bool true)], args := [d] }
  | _ => none }
def rowFullRow : OpenClaim := { program := "ythdfoahnkkkbmaa", sum := "e87543177dfc590a80942de1a99c8fbc5056f364ca01c9eb854e9c64a85582a0", func := "blazon/blazonlaw16.RowFull", spec := "rowFull", unfollowed := true, recurses := true, apart := false }
def RowFullSaid : Prop := rowFullRow.holds Try.pinned (OpenSpec.ofChange rowFullSpec)

/-- ITS FALSE NEIGHBOUR: 'it returns false'. Refute it at one input. -/
def rowFullWrong : ChangeSpec := { name := "rowFull", fn := fun _ => fun
  | [d] => { results := [.lit (.bool false)], args := [d] }
  | _ => none }
def RowFullWrongFalsely : Prop := rowFullRow.holds Try.pinned (OpenSpec.ofChange rowFullWrong)

/-- 'blazonlaw16.RowWithin': WHATEVER THE INPUT: true; the input reads as it did. -/
def rowWithinSpec : ChangeSpec := { name := "rowWithin", fn := fun _ => fun
  | [d1, d2] => { results := [.lit (.bool true)], args := [d1, d2] }
  | _ => none }
def rowWithinRow : OpenClaim := { program := "ythdfoahnkkkbmaa", sum := "e87543177dfc590a80942de1a99c8fbc5056f364ca01c9eb854e9c64a85582a0", func := "blazon/blazonlaw16.RowWithin", spec := "rowWithin", unfollowed := true, recurses := true, apart := false }
def RowWithinSaid : Prop := rowWithinRow.holds Try.pinned (OpenSpec.ofChange rowWithinSpec)

/-- ITS FALSE NEIGHBOUR: 'it returns false'. Refute it at one input. -/
def rowWithinWrong : ChangeSpec := { name := "rowWithin", fn := fun _ => fun
  | [d1, d2] => { results := [.lit (.bool false)], args := [d1, d2] }
  | _ => none }
def RowWithinWrongFalsely : Prop := rowWithinRow.holds Try.pinned (OpenSpec.ofChange rowWithinWrong)

/-- 'blazonlaw16.RowBack': WHATEVER THE INPUT: true; the input reads as it did. -/
def rowBackSpec : ChangeSpec := { name := "rowBack", fn := fun _ => fun
  | [d1, d2] => { results := [.lit (.bool true)], args := [d1, d2] }
  | _ => none }
def rowBackRow : OpenClaim := { program := "ythdfoahnkkkbmaa", sum := "e87543177dfc590a80942de1a99c8fbc5056f364ca01c9eb854e9c64a85582a0", func := "blazon/blazonlaw16.RowBack", spec := "rowBack", unfollowed := true, recurses := true, apart := false }
def RowBackSaid : Prop := rowBackRow.holds Try.pinned (OpenSpec.ofChange rowBackSpec)

/-- ITS FALSE NEIGHBOUR: 'it returns false'. Refute it at one input. -/
def rowBackWrong : ChangeSpec := { name := "rowBack", fn := fun _ => fun
  | [d1, d2] => { results := [.lit (.bool false)], args := [d1, d2] }
  | _ => none }
def RowBackWrongFalsely : Prop := rowBackRow.holds Try.pinned (OpenSpec.ofChange rowBackWrong)

/-- 'blazonlaw16.RowBoth': WHATEVER THE INPUT: true; the input reads as it did. -/
def rowBothSpec : ChangeSpec := { name := "rowBoth", fn := fun _ => fun
  | [d1, d2, d3] => { results := [.lit (.bool true)], args := [d1, d2, d3] }
  | _ => none }
def rowBothRow : OpenClaim := { program := "ythdfoahnkkkbmaa", sum := "e87543177dfc590a80942de1a99c8fbc5056f364ca01c9eb854e9c64a85582a0", func := "blazon/blazonlaw16.RowBoth", spec := "rowBoth", unfollowed := true, recurses := true, apart := false }
def RowBothSaid : Prop := rowBothRow.holds Try.pinned (OpenSpec.ofChange rowBothSpec)

/-- ITS FALSE NEIGHBOUR: 'it returns false'. Refute it at one input. -/
def rowBothWrong : ChangeSpec := { name := "rowBoth", fn := fun _ => fun
  | [d1, d2, d3] => { results := [.lit (.bool false)], args := [d1, d2, d3] }
  | _ => none }
def RowBothWrongFalsely : Prop := rowBothRow.holds Try.pinned (OpenSpec.ofChange rowBothWrong)

/- THE SECOND FORM. 'bulk': how many values and letters a reading holds, each counted each time it is reached (what is shared counts as often as it is met; a slice's spare places count too). A statement '..UptoSaid' is the law's where the arguments, and the package variables that the reading takes, are together of bulk at most 1048576: NARROWER than '..Said'. Prove '..Said' where nothing that the law and all that it calls make is longer than what came in: it says more and counts as full. Else prove '..UptoSaid'. A law counts once. -/
mutual
def uptoBulk {H : Type} : DataW H → Nat
  | .lit (.string bytes) => bytes.length + 1
  | .lit _ => 1
  | .nil => 1
  | .ptr d => uptoBulk d + 1
  | .slice elems spare => uptoBulkAll elems + uptoBulkAll spare + 1
  | .agg parts => uptoBulkAll parts + 1
  | .iface _ d => uptoBulk d + 1
  | .map entries => uptoBulkEntries entries + 1
  | .held _ => 1
def uptoBulkAll {H : Type} : List (DataW H) → Nat
  | [] => 0
  | d :: r => uptoBulk d + uptoBulkAll r
def uptoBulkEntries {H : Type} : List (Lit × DataW H) → Nat
  | [] => 0
  | x :: r => uptoBulkEntry x + uptoBulkEntries r
def uptoBulkEntry {H : Type} : Lit × DataW H → Nat
  | (.string bytes, d) => bytes.length + uptoBulk d + 1
  | (_, d) => uptoBulk d + 1
 end
def uptoSmall : (H : Type) → List (DataW H) → Bool := fun _ ds => decide (uptoBulkAll ds ≤ 1048576)
def OpenSpec.upto (s : _root_.Go.ChangeSpec) : _root_.Go.OpenSpec := { _root_.Go.OpenSpec.ofChange s with cond := some uptoSmall }

/-- 'blazonlaw13.OrderFull', WHERE WHAT IT READS IS OF BULK AT MOST 1048576: true; the input reads as it did. -/
def orderFullUptoRow : OpenClaim := { program := "ythdfoahnkkkbmaa", sum := "e87543177dfc590a80942de1a99c8fbc5056f364ca01c9eb854e9c64a85582a0", func := "blazon/blazonlaw13.OrderFull", spec := "orderFull", unfollowed := true, recurses := true, apart := false, narrowed := true }
def OrderFullUptoSaid : Prop := orderFullUptoRow.holds Try.pinned (OpenSpec.upto orderFullSpec)

/-- 'blazonlaw14.LatticeNil', WHERE WHAT IT READS IS OF BULK AT MOST 1048576: true; the input reads as it did. -/
def latticeNilUptoRow : OpenClaim := { program := "ythdfoahnkkkbmaa", sum := "e87543177dfc590a80942de1a99c8fbc5056f364ca01c9eb854e9c64a85582a0", func := "blazon/blazonlaw14.LatticeNil", spec := "latticeNil", inPlace := ["sync/atomic.LoadUint32", "(*internal/sync.Mutex).Lock", "internal/race.Disable", "sync/atomic.CompareAndSwapInt32", "internal/race.Enable", "internal/race.Acquire", "(*internal/sync.Mutex).lockSlow", "internal/sync.runtime_canSpin", "internal/sync.runtime_doSpin", "internal/sync.throw", "internal/sync.runtime_nanotime", "internal/sync.runtime_SemacquireMutex", "sync/atomic.AddInt32", "(*internal/sync.Mutex).Unlock", "internal/race.ReleaseMerge", "(*internal/sync.Mutex).unlockSlow", "internal/sync.fatal", "internal/sync.runtime_Semrelease", "sync/atomic.StoreUint32", "sync/atomic.AddInt64", "sync/atomic.LoadInt64"], unfollowed := true, recurses := true, apart := false, narrowed := true }
def LatticeNilUptoSaid : Prop := latticeNilUptoRow.holds Try.pinned (OpenSpec.upto latticeNilSpec)

/-- 'blazonlaw16.RowFull', WHERE WHAT IT READS IS OF BULK AT MOST 1048576: true; the input reads as it did. -/
def rowFullUptoRow : OpenClaim := { program := "ythdfoahnkkkbmaa", sum := "e87543177dfc590a80942de1a99c8fbc5056f364ca01c9eb854e9c64a85582a0", func := "blazon/blazonlaw16.RowFull", spec := "rowFull", unfollowed := true, recurses := true, apart := false, narrowed := true }
def RowFullUptoSaid : Prop := rowFullUptoRow.holds Try.pinned (OpenSpec.upto rowFullSpec)

/-- 'blazonlaw16.RowWithin', WHERE WHAT IT READS IS OF BULK AT MOST 1048576: true; the input reads as it did. -/
def rowWithinUptoRow : OpenClaim := { program := "ythdfoahnkkkbmaa", sum := "e87543177dfc590a80942de1a99c8fbc5056f364ca01c9eb854e9c64a85582a0", func := "blazon/blazonlaw16.RowWithin", spec := "rowWithin", unfollowed := true, recurses := true, apart := false, narrowed := true }
def RowWithinUptoSaid : Prop := rowWithinUptoRow.holds Try.pinned (OpenSpec.upto rowWithinSpec)

/-- 'blazonlaw16.RowBack', WHERE WHAT IT READS IS OF BULK AT MOST 1048576: true; the input reads as it did. -/
def rowBackUptoRow : OpenClaim := { program := "ythdfoahnkkkbmaa", sum := "e87543177dfc590a80942de1a99c8fbc5056f364ca01c9eb854e9c64a85582a0", func := "blazon/blazonlaw16.RowBack", spec := "rowBack", unfollowed := true, recurses := true, apart := false, narrowed := true }
def RowBackUptoSaid : Prop := rowBackUptoRow.holds Try.pinned (OpenSpec.upto rowBackSpec)

/-- 'blazonlaw16.RowBoth', WHERE WHAT IT READS IS OF BULK AT MOST 1048576: true; the input reads as it did. -/
def rowBothUptoRow : OpenClaim := { program := "ythdfoahnkkkbmaa", sum := "e87543177dfc590a80942de1a99c8fbc5056f364ca01c9eb854e9c64a85582a0", func := "blazon/blazonlaw16.RowBoth", spec := "rowBoth", unfollowed := true, recurses := true, apart := false, narrowed := true }
def RowBothUptoSaid : Prop := rowBothUptoRow.holds Try.pinned (OpenSpec.upto rowBothSpec)

end Rows
end Go.Proofs.Ythdfoahnkkkbmaa
