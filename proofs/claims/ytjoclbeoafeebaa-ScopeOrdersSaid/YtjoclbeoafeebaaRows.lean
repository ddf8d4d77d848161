/-
  No cell of these rows narrows 'for every input' (looked for: loops, veiled, ifaces, maps, wideKeys, modest, calm, conditions, laid).
  DERIVED. THE GIVEN ROWS OF THIS SEAT. 3 by the template 'for every input the law returns true; each argument reads behind the call as it read before'; 0 by the template 'total and deterministic' (their statements: YtjoclbeoafeebaaTotals.lean).
  GIVEN WITH THE SEED: the statements are not yours to turn. If you find one false, say at which input.
  Laid BY PROGRAM, IN A SANDBOX (cutbox-rows.mjs): the forced cells as the released guide's own fill.sh prints them over the translation b3cccd8f939d1ac9… (all of the seat's roots in one cut). By AI agents, Wed Nov 11 2026. No macro, syntax, notation, axiom, sorry.
-/
import Derived.Test.YtjoclbeoafeebaaChecked
import GoSem.Claim
import GoSem.ClaimJoined
import GoSem.ClaimMapViews
import Derived.JoinedTies
import Derived.KernelRfl
namespace Go.Proofs.Ytjoclbeoafeebaa
/- THE CELL 'sum', in the pinned program and in every row, IS THE sha256 OF THE DUMP (.gsa) THAT YtjoclbeoafeebaaProg.lean LOADS. Nothing in Lean hashes anything: it is a label: what it is worth is what the hold of that sum in a sandbox is worth. -/
noncomputable def Try.pinned : Pinned := { name := "ytjoclbeoafeebaa", sum := "b3cccd8f939d1ac90b4d807f90024bd323172437d2d31a4ec2d64f8e1b5afd77", checked := Try.checked }
namespace Rows
def none {H : Type} : Left H := { results := [], args := [] }

/-- 'blazonlaw17.ScopeNews': WHATEVER THE INPUT: true; the input reads as it did. -/
def scopeNewsSpec : ChangeSpec := { name := "scopeNews", fn := fun _ => fun
  | [d1, d2, d3, d4] => { results := [.lit (.bool true)], args := [d1, d2, d3, d4] }
  | _ => none }
def scopeNewsRow : OpenClaim := { program := "ytjoclbeoafeebaa", sum := "b3cccd8f939d1ac90b4d807f90024bd323172437d2d31a4ec2d64f8e1b5afd77", func := "blazon/blazonlaw17.ScopeNews", spec := "scopeNews", inPlace := ["internal/bytealg.IndexByteString", "internal/bytealg.IndexString"], unfollowed := true, recurses := true, named := ["internal/bytealg.MaxLen"], plainKeys := false, apart := false }
def ScopeNewsSaid : Prop := scopeNewsRow.holds Try.pinned (OpenSpec.ofChange scopeNewsSpec)

/-- ITS FALSE NEIGHBOUR: 'it returns false'. Refute it at one input. -/
def scopeNewsWrong : ChangeSpec := { name := "scopeNews", fn := fun _ => fun
  | [d1, d2, d3, d4] => { results := [.lit (.bool false)], args := [d1, d2, d3, d4] }
  | _ => none }
def ScopeNewsWrongFalsely : Prop := scopeNewsRow.holds Try.pinned (OpenSpec.ofChange scopeNewsWrong)

/-- 'blazonlaw17.ScopeOrders': WHATEVER THE INPUT: true; the input reads as it did. -/
def scopeOrdersSpec : ChangeSpec := { name := "scopeOrders", fn := fun _ => fun
  | [d1, d2] => { results := [.lit (.bool true)], args := [d1, d2] }
  | _ => none }
def scopeOrdersRow : OpenClaim := { program := "ytjoclbeoafeebaa", sum := "b3cccd8f939d1ac90b4d807f90024bd323172437d2d31a4ec2d64f8e1b5afd77", func := "blazon/blazonlaw17.ScopeOrders", spec := "scopeOrders", unfollowed := true, recurses := true, plainKeys := false, apart := false }
def ScopeOrdersSaid : Prop := scopeOrdersRow.holds Try.pinned (OpenSpec.ofChange scopeOrdersSpec)

/-- ITS FALSE NEIGHBOUR: 'it returns false'. Refute it at one input. -/
def scopeOrdersWrong : ChangeSpec := { name := "scopeOrders", fn := fun _ => fun
  | [d1, d2] => { results := [.lit (.bool false)], args := [d1, d2] }
  | _ => none }
def ScopeOrdersWrongFalsely : Prop := scopeOrdersRow.holds Try.pinned (OpenSpec.ofChange scopeOrdersWrong)

/-- 'blazonlaw17.ScopeNil': WHATEVER THE INPUT: true; the input reads as it did. -/
def scopeNilSpec : ChangeSpec := { name := "scopeNil", fn := fun _ => fun
  | [d1, d2] => { results := [.lit (.bool true)], args := [d1, d2] }
  | _ => none }
def scopeNilRow : OpenClaim := { program := "ytjoclbeoafeebaa", sum := "b3cccd8f939d1ac90b4d807f90024bd323172437d2d31a4ec2d64f8e1b5afd77", func := "blazon/blazonlaw17.ScopeNil", spec := "scopeNil", inPlace := ["internal/bytealg.IndexByteString", "internal/bytealg.IndexString"], unfollowed := true, recurses := true, named := ["internal/bytealg.MaxLen"], plainKeys := false, apart := false }
def ScopeNilSaid : Prop := scopeNilRow.holds Try.pinned (OpenSpec.ofChange scopeNilSpec)

/-- ITS FALSE NEIGHBOUR: 'it returns false'. Refute it at one input. -/
def scopeNilWrong : ChangeSpec := { name := "scopeNil", fn := fun _ => fun
  | [d1, d2] => { results := [.lit (.bool false)], args := [d1, d2] }
  | _ => none }
def ScopeNilWrongFalsely : Prop := scopeNilRow.holds Try.pinned (OpenSpec.ofChange scopeNilWrong)

/- THE SECOND FORM. 'bulk': how many values and letters a reading holds, each counted each time it is reached (what is shared counts as often as it is met; a slice's spare places count too). A statement '..UptoSaid' is the law's where the arguments, and the package variables that the reading takes, are together of bulk at most 1048576: NARROWER than '..Said'. Prove '..Said' where nothing that the law and all that it calls make is longer than what came in: it says more and counts as full. Else prove '..UptoSaid'. A law counts once. -/
mutual
def uptoBulk {H : Type} : DataW H → Nat
  | .lit (.string bytes) => bytes.length + 1
  | .lit _ => 1
  | .nil => 1
  | .ptr d => uptoBulk d + 1
  | .slice elems spare => uptoBulkAll elems + uptoBulkAll spare + 1
  | .agg parts => uptoBulkAll parts + 1
  | .iface _ d => uptoBulk d + 1
  | .map entries => uptoBulkEntries entries + 1
  | .held _ => 1
def uptoBulkAll {H : Type} : List (DataW H) → Nat
  | [] => 0
  | d :: r => uptoBulk d + uptoBulkAll r
def uptoBulkEntries {H : Type} : List (Lit × DataW H) → Nat
  | [] => 0
  | x :: r => uptoBulkEntry x + uptoBulkEntries r
def uptoBulkEntry {H : Type} : Lit × DataW H → Nat
  | (.string bytes, d) => bytes.length + uptoBulk d + 1
  | (_, d) => uptoBulk d + 1
 end
def uptoSmall : (H : Type) → List (DataW H) → Bool := fun _ ds => decide (uptoBulkAll ds ≤ 1048576)
def OpenSpec.upto (s : _root_.Go.ChangeSpec) : _root_.Go.OpenSpec := { _root_.Go.OpenSpec.ofChange s with cond := some uptoSmall }

/-- 'blazonlaw17.ScopeNews', WHERE WHAT IT READS IS OF BULK AT MOST 1048576: true; the input reads as it did. -/
def scopeNewsUptoRow : OpenClaim := { program := "ytjoclbeoafeebaa", sum := "b3cccd8f939d1ac90b4d807f90024bd323172437d2d31a4ec2d64f8e1b5afd77", func := "blazon/blazonlaw17.ScopeNews", spec := "scopeNews", inPlace := ["internal/bytealg.IndexByteString", "internal/bytealg.IndexString"], unfollowed := true, recurses := true, named := ["internal/bytealg.MaxLen"], plainKeys := false, apart := false, narrowed := true }
def ScopeNewsUptoSaid : Prop := scopeNewsUptoRow.holds Try.pinned (OpenSpec.upto scopeNewsSpec)

/-- 'blazonlaw17.ScopeOrders', WHERE WHAT IT READS IS OF BULK AT MOST 1048576: true; the input reads as it did. -/
def scopeOrdersUptoRow : OpenClaim := { program := "ytjoclbeoafeebaa", sum := "b3cccd8f939d1ac90b4d807f90024bd323172437d2d31a4ec2d64f8e1b5afd77", func := "blazon/blazonlaw17.ScopeOrders", spec := "scopeOrders", unfollowed := true, recurses := true, plainKeys := false, apart := false, narrowed := true }
def ScopeOrdersUptoSaid : Prop := scopeOrdersUptoRow.holds Try.pinned (OpenSpec.upto scopeOrdersSpec)

/-- 'blazonlaw17.ScopeNil', WHERE WHAT IT READS IS OF BULK AT MOST 1048576: true; the input reads as it did. -/
def scopeNilUptoRow : OpenClaim := { program := "ytjoclbeoafeebaa", sum := "b3cccd8f939d1ac90b4d807f90024bd323172437d2d31a4ec2d64f8e1b5afd77", func := "blazon/blazonlaw17.ScopeNil", spec := "scopeNil", inPlace := ["internal/bytealg.IndexByteString", "internal/bytealg.IndexString"], unfollowed := true, recurses := true, named := ["internal/bytealg.MaxLen"], plainKeys := false, apart := false, narrowed := true }
def ScopeNilUptoSaid : Prop := scopeNilUptoRow.holds Try.pinned (OpenSpec.upto scopeNilSpec)

end Rows
end Go.Proofs.Ytjoclbeoafeebaa
