/-
  NARROWER THAN 'FOR EVERY INPUT', by the rows' own cells (each row's printed sentence says how): StmtGoes: laid · FileMarks: laid · FileJoins: laid · FileLater: laid · ShowFiles: laid · ShowBack: laid.
  DERIVED. THE GIVEN ROWS OF THIS SEAT. 6 by the template 'for every input the law returns true; each argument reads behind the call as it read before'; 0 by the template 'total and deterministic' (their statements: YtmnggldejflooaaGreatDoorTotals.lean).
  GIVEN WITH THE SEED: the statements are not yours to turn. If you find one false, say at which input.
  Laid BY PROGRAM, IN A SANDBOX (cutbox-rows.mjs): the forced cells as the released guide's own fill.sh prints them over the translation e95a94f6d3bb0776… (all of the seat's roots in one cut). By AI agents, Wed Nov 11 2026. No macro, syntax, notation, axiom, sorry.
-/
import Derived.Test.YtmnggldejflooaaGreatDoorChecked
import GoSem.Claim
import GoSem.ClaimJoined
import GoSem.ClaimMapViews
import Derived.JoinedTies
import Derived.KernelRfl
namespace Go.Proofs.YtmnggldejflooaaGreatDoor
/- THE CELL 'sum', in the pinned program and in every row, IS THE sha256 OF THE DUMP (.gsa) THAT YtmnggldejflooaaGreatDoorProg.lean LOADS. Nothing in Lean hashes anything: it is a label: what it is worth is what the hold of that sum in a sandbox is worth. -/
noncomputable def Tryz.pinned : Pinned := { name := "ytmnggldejflooaagreatdoor", sum := "e95a94f6d3bb07763cd3b59a372116a7dd7c44e7d7982658977d3ba29ac0c268", checked := Tryz.checked }
namespace Rows
def none {H : Type} : Left H := { results := [], args := [] }

/- WHAT THE LISTED PACKAGE-LEVEL VARIABLES READ AS WHEN THE CALL BEGINS. Each datum BY PROGRAM (the guide's laid-datum.mjs) off the statement by which the dump's own 'gosem.cut.vars' lays the variable. In a bare row this is a premise. The card (YtmnggldejflooaaGreatDoorCards.lean) ties it to the program's text. -/
def laid_math_bits_deBruijn32tab {H : Type} : DataW H := .agg [.lit (.int .u8 0), .lit (.int .u8 1), .lit (.int .u8 28), .lit (.int .u8 2), .lit (.int .u8 29), .lit (.int .u8 14), .lit (.int .u8 24), .lit (.int .u8 3), .lit (.int .u8 30), .lit (.int .u8 22), .lit (.int .u8 20), .lit (.int .u8 15), .lit (.int .u8 25), .lit (.int .u8 17), .lit (.int .u8 4), .lit (.int .u8 8), .lit (.int .u8 31), .lit (.int .u8 27), .lit (.int .u8 13), .lit (.int .u8 23), .lit (.int .u8 21), .lit (.int .u8 19), .lit (.int .u8 16), .lit (.int .u8 7), .lit (.int .u8 26), .lit (.int .u8 12), .lit (.int .u8 18), .lit (.int .u8 6), .lit (.int .u8 11), .lit (.int .u8 5), .lit (.int .u8 10), .lit (.int .u8 9)]
def laid_math_bits_deBruijn64tab {H : Type} : DataW H := .agg [.lit (.int .u8 0), .lit (.int .u8 1), .lit (.int .u8 56), .lit (.int .u8 2), .lit (.int .u8 57), .lit (.int .u8 49), .lit (.int .u8 28), .lit (.int .u8 3), .lit (.int .u8 61), .lit (.int .u8 58), .lit (.int .u8 42), .lit (.int .u8 50), .lit (.int .u8 38), .lit (.int .u8 29), .lit (.int .u8 17), .lit (.int .u8 4), .lit (.int .u8 62), .lit (.int .u8 47), .lit (.int .u8 59), .lit (.int .u8 36), .lit (.int .u8 45), .lit (.int .u8 43), .lit (.int .u8 51), .lit (.int .u8 22), .lit (.int .u8 53), .lit (.int .u8 39), .lit (.int .u8 33), .lit (.int .u8 30), .lit (.int .u8 24), .lit (.int .u8 18), .lit (.int .u8 12), .lit (.int .u8 5), .lit (.int .u8 63), .lit (.int .u8 55), .lit (.int .u8 48), .lit (.int .u8 27), .lit (.int .u8 60), .lit (.int .u8 41), .lit (.int .u8 37), .lit (.int .u8 16), .lit (.int .u8 46), .lit (.int .u8 35), .lit (.int .u8 44), .lit (.int .u8 21), .lit (.int .u8 52), .lit (.int .u8 32), .lit (.int .u8 23), .lit (.int .u8 11), .lit (.int .u8 54), .lit (.int .u8 26), .lit (.int .u8 40), .lit (.int .u8 15), .lit (.int .u8 34), .lit (.int .u8 20), .lit (.int .u8 31), .lit (.int .u8 10), .lit (.int .u8 25), .lit (.int .u8 14), .lit (.int .u8 19), .lit (.int .u8 9), .lit (.int .u8 13), .lit (.int .u8 8), .lit (.int .u8 7), .lit (.int .u8 6)]
def laid_internal_strconv_uint64pow10 {H : Type} : DataW H := .agg [.lit (.int .u64 1), .lit (.int .u64 10), .lit (.int .u64 100), .lit (.int .u64 1000), .lit (.int .u64 10000), .lit (.int .u64 100000), .lit (.int .u64 1000000), .lit (.int .u64 10000000), .lit (.int .u64 100000000), .lit (.int .u64 1000000000), .lit (.int .u64 10000000000), .lit (.int .u64 100000000000), .lit (.int .u64 1000000000000), .lit (.int .u64 10000000000000), .lit (.int .u64 100000000000000), .lit (.int .u64 1000000000000000), .lit (.int .u64 10000000000000000), .lit (.int .u64 100000000000000000), .lit (.int .u64 1000000000000000000), .lit (.int .u64 10000000000000000000)]
def laid_strconv_ErrRange {H : Type} : DataW H := .iface "*errors.errorString" (.ptr (.agg [.lit (.string [118, 97, 108, 117, 101, 32, 111, 117, 116, 32, 111, 102, 32, 114, 97, 110, 103, 101])]))
def laid_strconv_ErrSyntax {H : Type} : DataW H := .iface "*errors.errorString" (.ptr (.agg [.lit (.string [105, 110, 118, 97, 108, 105, 100, 32, 115, 121, 110, 116, 97, 120])]))
def laid_blazon_expr_levels {H : Type} : DataW H := .agg [.agg [.lit (.string []), .lit (.string [])], .agg [.lit (.string [124, 124]), .lit (.string [])], .agg [.lit (.string [38, 38]), .lit (.string [])], .agg [.lit (.string [61, 61]), .lit (.string [60])], .agg [.lit (.string [43]), .lit (.string [45])], .agg [.lit (.string [42]), .lit (.string [])]]
def laid_blazon_show_levels {H : Type} : DataW H := .agg [.agg [.lit (.string [42]), .lit (.int .i64 5)], .agg [.lit (.string [43]), .lit (.int .i64 4)], .agg [.lit (.string [45]), .lit (.int .i64 4)], .agg [.lit (.string [61, 61]), .lit (.int .i64 3)], .agg [.lit (.string [60]), .lit (.int .i64 3)], .agg [.lit (.string [38, 38]), .lit (.int .i64 2)], .agg [.lit (.string [124, 124]), .lit (.int .i64 1)]]

/-- 'blazonlaw09.StmtGoes': WHATEVER THE INPUT: true; the input reads as it did. -/
def stmtGoesSpec : ChangeSpec := { name := "stmtGoes", fn := fun _ => fun
  | [d1, d2, d3, d4] => { results := [.lit (.bool true)], args := [d1, d2, d3, d4] }
  | _ => none }
def stmtGoesRow : OpenClaim := { program := "ytmnggldejflooaagreatdoor", sum := "e95a94f6d3bb07763cd3b59a372116a7dd7c44e7d7982658977d3ba29ac0c268", func := "blazon/blazonlaw09.StmtGoes", spec := "stmtGoes", unfollowed := true, recurses := true, named := ["strconv.ErrSyntax", "strconv.ErrRange", "internal/strconv.uint64pow10", "math/bits.deBruijn32tab", "math/bits.deBruijn64tab", "blazon/expr.levels"], apart := false, laid := [("math/bits.deBruijn32tab", laid_math_bits_deBruijn32tab), ("math/bits.deBruijn64tab", laid_math_bits_deBruijn64tab), ("internal/strconv.uint64pow10", laid_internal_strconv_uint64pow10), ("strconv.ErrRange", laid_strconv_ErrRange), ("strconv.ErrSyntax", laid_strconv_ErrSyntax), ("blazon/expr.levels", laid_blazon_expr_levels)] }
def StmtGoesSaid : Prop := stmtGoesRow.holds Tryz.pinned (OpenSpec.ofChange stmtGoesSpec)

/-- ITS FALSE NEIGHBOUR: 'it returns false'. Refute it at one input. -/
def stmtGoesWrong : ChangeSpec := { name := "stmtGoes", fn := fun _ => fun
  | [d1, d2, d3, d4] => { results := [.lit (.bool false)], args := [d1, d2, d3, d4] }
  | _ => none }
def StmtGoesWrongFalsely : Prop := stmtGoesRow.holds Tryz.pinned (OpenSpec.ofChange stmtGoesWrong)

/-- 'blazonlaw10.FileMarks': WHATEVER THE INPUT: true; the input reads as it did. -/
def fileMarksSpec : ChangeSpec := { name := "fileMarks", fn := fun _ => fun
  | [d] => { results := [.lit (.bool true)], args := [d] }
  | _ => none }
def fileMarksRow : OpenClaim := { program := "ytmnggldejflooaagreatdoor", sum := "e95a94f6d3bb07763cd3b59a372116a7dd7c44e7d7982658977d3ba29ac0c268", func := "blazon/blazonlaw10.FileMarks", spec := "fileMarks", unfollowed := true, recurses := true, named := ["strconv.ErrSyntax", "strconv.ErrRange", "internal/strconv.uint64pow10", "math/bits.deBruijn32tab", "math/bits.deBruijn64tab", "blazon/expr.levels"], apart := false, laid := [("math/bits.deBruijn32tab", laid_math_bits_deBruijn32tab), ("math/bits.deBruijn64tab", laid_math_bits_deBruijn64tab), ("internal/strconv.uint64pow10", laid_internal_strconv_uint64pow10), ("strconv.ErrRange", laid_strconv_ErrRange), ("strconv.ErrSyntax", laid_strconv_ErrSyntax), ("blazon/expr.levels", laid_blazon_expr_levels)] }
def FileMarksSaid : Prop := fileMarksRow.holds Tryz.pinned (OpenSpec.ofChange fileMarksSpec)

/-- ITS FALSE NEIGHBOUR: 'it returns false'. Refute it at one input. -/
def fileMarksWrong : ChangeSpec := { name := "fileMarks", fn := fun _ => fun
  | [d] => { results := [.lit (.bool false)], args := [d] }
  | _ => none }
def FileMarksWrongFalsely : Prop := fileMarksRow.holds Tryz.pinned (OpenSpec.ofChange fileMarksWrong)

/-- 'blazonlaw10.FileJoins': WHATEVER THE INPUT: true; the input reads as it did. -/
def fileJoinsSpec : ChangeSpec := { name := "fileJoins", fn := fun _ => fun
  | [d1, d2] => { results := [.lit (.bool true)], args := [d1, d2] }
  | _ => none }
def fileJoinsRow : OpenClaim := { program := "ytmnggldejflooaagreatdoor", sum := "e95a94f6d3bb07763cd3b59a372116a7dd7c44e7d7982658977d3ba29ac0c268", func := "blazon/blazonlaw10.FileJoins", spec := "fileJoins", unfollowed := true, recurses := true, named := ["strconv.ErrSyntax", "strconv.ErrRange", "internal/strconv.uint64pow10", "math/bits.deBruijn32tab", "math/bits.deBruijn64tab", "blazon/expr.levels"], apart := false, laid := [("math/bits.deBruijn32tab", laid_math_bits_deBruijn32tab), ("math/bits.deBruijn64tab", laid_math_bits_deBruijn64tab), ("internal/strconv.uint64pow10", laid_internal_strconv_uint64pow10), ("strconv.ErrRange", laid_strconv_ErrRange), ("strconv.ErrSyntax", laid_strconv_ErrSyntax), ("blazon/expr.levels", laid_blazon_expr_levels)] }
def FileJoinsSaid : Prop := fileJoinsRow.holds Tryz.pinned (OpenSpec.ofChange fileJoinsSpec)

/-- ITS FALSE NEIGHBOUR: 'it returns false'. Refute it at one input. -/
def fileJoinsWrong : ChangeSpec := { name := "fileJoins", fn := fun _ => fun
  | [d1, d2] => { results := [.lit (.bool false)], args := [d1, d2] }
  | _ => none }
def FileJoinsWrongFalsely : Prop := fileJoinsRow.holds Tryz.pinned (OpenSpec.ofChange fileJoinsWrong)

/-- 'blazonlaw10.FileLater': WHATEVER THE INPUT: true; the input reads as it did. -/
def fileLaterSpec : ChangeSpec := { name := "fileLater", fn := fun _ => fun
  | [d1, d2] => { results := [.lit (.bool true)], args := [d1, d2] }
  | _ => none }
def fileLaterRow : OpenClaim := { program := "ytmnggldejflooaagreatdoor", sum := "e95a94f6d3bb07763cd3b59a372116a7dd7c44e7d7982658977d3ba29ac0c268", func := "blazon/blazonlaw10.FileLater", spec := "fileLater", unfollowed := true, recurses := true, named := ["strconv.ErrSyntax", "strconv.ErrRange", "internal/strconv.uint64pow10", "math/bits.deBruijn32tab", "math/bits.deBruijn64tab", "blazon/expr.levels"], apart := false, laid := [("math/bits.deBruijn32tab", laid_math_bits_deBruijn32tab), ("math/bits.deBruijn64tab", laid_math_bits_deBruijn64tab), ("internal/strconv.uint64pow10", laid_internal_strconv_uint64pow10), ("strconv.ErrRange", laid_strconv_ErrRange), ("strconv.ErrSyntax", laid_strconv_ErrSyntax), ("blazon/expr.levels", laid_blazon_expr_levels)] }
def FileLaterSaid : Prop := fileLaterRow.holds Tryz.pinned (OpenSpec.ofChange fileLaterSpec)

/-- ITS FALSE NEIGHBOUR: 'it returns false'. Refute it at one input. -/
def fileLaterWrong : ChangeSpec := { name := "fileLater", fn := fun _ => fun
  | [d1, d2] => { results := [.lit (.bool false)], args := [d1, d2] }
  | _ => none }
def FileLaterWrongFalsely : Prop := fileLaterRow.holds Tryz.pinned (OpenSpec.ofChange fileLaterWrong)

/-- 'blazonlaw11.ShowFiles': WHATEVER THE INPUT: true; the input reads as it did. -/
def showFilesSpec : ChangeSpec := { name := "showFiles", fn := fun _ => fun
  | [d1, d2, d3, d4, d5] => { results := [.lit (.bool true)], args := [d1, d2, d3, d4, d5] }
  | _ => none }
def showFilesRow : OpenClaim := { program := "ytmnggldejflooaagreatdoor", sum := "e95a94f6d3bb07763cd3b59a372116a7dd7c44e7d7982658977d3ba29ac0c268", func := "blazon/blazonlaw11.ShowFiles", spec := "showFiles", inPlace := ["internal/abi.NoEscape"], unfollowed := true, recurses := true, named := ["strconv.ErrSyntax", "strconv.ErrRange", "internal/strconv.uint64pow10", "math/bits.deBruijn32tab", "math/bits.deBruijn64tab", "blazon/expr.levels", "blazon/show.levels"], apart := false, laid := [("math/bits.deBruijn32tab", laid_math_bits_deBruijn32tab), ("math/bits.deBruijn64tab", laid_math_bits_deBruijn64tab), ("internal/strconv.uint64pow10", laid_internal_strconv_uint64pow10), ("strconv.ErrRange", laid_strconv_ErrRange), ("strconv.ErrSyntax", laid_strconv_ErrSyntax), ("blazon/expr.levels", laid_blazon_expr_levels), ("blazon/show.levels", laid_blazon_show_levels)] }
def ShowFilesSaid : Prop := showFilesRow.holds Tryz.pinned (OpenSpec.ofChange showFilesSpec)

/-- ITS FALSE NEIGHBOUR: 'it returns false'. Refute it at one input. -/
def showFilesWrong : ChangeSpec := { name := "showFiles", fn := fun _ => fun
  | [d1, d2, d3, d4, d5] => { results := [.lit (.bool false)], args := [d1, d2, d3, d4, d5] }
  | _ => none }
def ShowFilesWrongFalsely : Prop := showFilesRow.holds Tryz.pinned (OpenSpec.ofChange showFilesWrong)

/-- 'blazonlaw11.ShowBack': WHATEVER THE INPUT: true; the input reads as it did. -/
def showBackSpec : ChangeSpec := { name := "showBack", fn := fun _ => fun
  | [d] => { results := [.lit (.bool true)], args := [d] }
  | _ => none }
def showBackRow : OpenClaim := { program := "ytmnggldejflooaagreatdoor", sum := "e95a94f6d3bb07763cd3b59a372116a7dd7c44e7d7982658977d3ba29ac0c268", func := "blazon/blazonlaw11.ShowBack", spec := "showBack", inPlace := ["internal/abi.NoEscape"], unfollowed := true, recurses := true, named := ["strconv.ErrSyntax", "strconv.ErrRange", "internal/strconv.uint64pow10", "math/bits.deBruijn32tab", "math/bits.deBruijn64tab", "blazon/expr.levels", "blazon/show.levels"], apart := false, laid := [("math/bits.deBruijn32tab", laid_math_bits_deBruijn32tab), ("math/bits.deBruijn64tab", laid_math_bits_deBruijn64tab), ("internal/strconv.uint64pow10", laid_internal_strconv_uint64pow10), ("strconv.ErrRange", laid_strconv_ErrRange), ("strconv.ErrSyntax", laid_strconv_ErrSyntax), ("blazon/expr.levels", laid_blazon_expr_levels), ("blazon/show.levels", laid_blazon_show_levels)] }
def ShowBackSaid : Prop := showBackRow.holds Tryz.pinned (OpenSpec.ofChange showBackSpec)

/-- ITS FALSE NEIGHBOUR: 'it returns false'. Refute it at one input. -/
def showBackWrong : ChangeSpec := { name := "showBack", fn := fun _ => fun
  | [d] => { results := [.lit (.bool false)], args := [d] }
  | _ => none }
def ShowBackWrongFalsely : Prop := showBackRow.holds Tryz.pinned (OpenSpec.ofChange showBackWrong)

/- THE SECOND FORM. 'bulk': how many values and letters a reading holds, each counted each time it is reached (what is shared counts as often as it is met; a slice's spare places count too). A statement '..UptoSaid' is the law's where the arguments, and the package variables that the reading takes, are together of bulk at most 1048576: NARROWER than '..Said'. Prove '..Said' where nothing that the law and all that it calls make is longer than what came in: it says more and counts as full. Else prove '..UptoSaid'. A law counts once. -/
mutual
def uptoBulk {H : Type} : DataW H → Nat
  | .lit (.string bytes) => bytes.length + 1
  | .lit _ => 1
  | .nil => 1
  | .ptr d => uptoBulk d + 1
  | .slice elems spare => uptoBulkAll elems + uptoBulkAll spare + 1
  | .agg parts => uptoBulkAll parts + 1
  | .iface _ d => uptoBulk d + 1
  | .map entries => uptoBulkEntries entries + 1
  | .held _ => 1
def uptoBulkAll {H : Type} : List (DataW H) → Nat
  | [] => 0
  | d :: r => uptoBulk d + uptoBulkAll r
def uptoBulkEntries {H : Type} : List (Lit × DataW H) → Nat
  | [] => 0
  | x :: r => uptoBulkEntry x + uptoBulkEntries r
def uptoBulkEntry {H : Type} : Lit × DataW H → Nat
  | (.string bytes, d) => bytes.length + uptoBulk d + 1
  | (_, d) => uptoBulk d + 1
 end
def uptoSmall : (H : Type) → List (DataW H) → Bool := fun _ ds => decide (uptoBulkAll ds ≤ 1048576)
def OpenSpec.upto (s : _root_.Go.ChangeSpec) : _root_.Go.OpenSpec := { _root_.Go.OpenSpec.ofChange s with cond := some uptoSmall }

/-- 'blazonlaw09.StmtGoes', WHERE WHAT IT READS IS OF BULK AT MOST 1048576: true; the input reads as it did. -/
def stmtGoesUptoRow : OpenClaim := { program := "ytmnggldejflooaagreatdoor", sum := "e95a94f6d3bb07763cd3b59a372116a7dd7c44e7d7982658977d3ba29ac0c268", func := "blazon/blazonlaw09.StmtGoes", spec := "stmtGoes", unfollowed := true, recurses := true, named := ["strconv.ErrSyntax", "strconv.ErrRange", "internal/strconv.uint64pow10", "math/bits.deBruijn32tab", "math/bits.deBruijn64tab", "blazon/expr.levels"], apart := false, laid := [("math/bits.deBruijn32tab", laid_math_bits_deBruijn32tab), ("math/bits.deBruijn64tab", laid_math_bits_deBruijn64tab), ("internal/strconv.uint64pow10", laid_internal_strconv_uint64pow10), ("strconv.ErrRange", laid_strconv_ErrRange), ("strconv.ErrSyntax", laid_strconv_ErrSyntax), ("blazon/expr.levels", laid_blazon_expr_levels)], narrowed := true }
def StmtGoesUptoSaid : Prop := stmtGoesUptoRow.holds Tryz.pinned (OpenSpec.upto stmtGoesSpec)

/-- 'blazonlaw10.FileMarks', WHERE WHAT IT READS IS OF BULK AT MOST 1048576: true; the input reads as it did. -/
def fileMarksUptoRow : OpenClaim := { program := "ytmnggldejflooaagreatdoor", sum := "e95a94f6d3bb07763cd3b59a372116a7dd7c44e7d7982658977d3ba29ac0c268", func := "blazon/blazonlaw10.FileMarks", spec := "fileMarks", unfollowed := true, recurses := true, named := ["strconv.ErrSyntax", "strconv.ErrRange", "internal/strconv.uint64pow10", "math/bits.deBruijn32tab", "math/bits.deBruijn64tab", "blazon/expr.levels"], apart := false, laid := [("math/bits.deBruijn32tab", laid_math_bits_deBruijn32tab), ("math/bits.deBruijn64tab", laid_math_bits_deBruijn64tab), ("internal/strconv.uint64pow10", laid_internal_strconv_uint64pow10), ("strconv.ErrRange", laid_strconv_ErrRange), ("strconv.ErrSyntax", laid_strconv_ErrSyntax), ("blazon/expr.levels", laid_blazon_expr_levels)], narrowed := true }
def FileMarksUptoSaid : Prop := fileMarksUptoRow.holds Tryz.pinned (OpenSpec.upto fileMarksSpec)

/-- 'blazonlaw10.FileJoins', WHERE WHAT IT READS IS OF BULK AT MOST 1048576: true; the input reads as it did. -/
def fileJoinsUptoRow : OpenClaim := { program := "ytmnggldejflooaagreatdoor", sum := "e95a94f6d3bb07763cd3b59a372116a7dd7c44e7d7982658977d3ba29ac0c268", func := "blazon/blazonlaw10.FileJoins", spec := "fileJoins", unfollowed := true, recurses := true, named := ["strconv.ErrSyntax", "strconv.ErrRange", "internal/strconv.uint64pow10", "math/bits.deBruijn32tab", "math/bits.deBruijn64tab", "blazon/expr.levels"], apart := false, laid := [("math/bits.deBruijn32tab", laid_math_bits_deBruijn32tab), ("math/bits.deBruijn64tab", laid_math_bits_deBruijn64tab), ("internal/strconv.uint64pow10", laid_internal_strconv_uint64pow10), ("strconv.ErrRange", laid_strconv_ErrRange), ("strconv.ErrSyntax", laid_strconv_ErrSyntax), ("blazon/expr.levels", laid_blazon_expr_levels)], narrowed := true }
def FileJoinsUptoSaid : Prop := fileJoinsUptoRow.holds Tryz.pinned (OpenSpec.upto fileJoinsSpec)

/-- 'blazonlaw10.FileLater', WHERE WHAT IT READS IS OF BULK AT MOST 1048576: true; the input reads as it did. -/
def fileLaterUptoRow : OpenClaim := { program := "ytmnggldejflooaagreatdoor", sum := "e95a94f6d3bb07763cd3b59a372116a7dd7c44e7d7982658977d3ba29ac0c268", func := "blazon/blazonlaw10.FileLater", spec := "fileLater", unfollowed := true, recurses := true, named := ["strconv.ErrSyntax", "strconv.ErrRange", "internal/strconv.uint64pow10", "math/bits.deBruijn32tab", "math/bits.deBruijn64tab", "blazon/expr.levels"], apart := false, laid := [("math/bits.deBruijn32tab", laid_math_bits_deBruijn32tab), ("math/bits.deBruijn64tab", laid_math_bits_deBruijn64tab), ("internal/strconv.uint64pow10", laid_internal_strconv_uint64pow10), ("strconv.ErrRange", laid_strconv_ErrRange), ("strconv.ErrSyntax", laid_strconv_ErrSyntax), ("blazon/expr.levels", laid_blazon_expr_levels)], narrowed := true }
def FileLaterUptoSaid : Prop := fileLaterUptoRow.holds Tryz.pinned (OpenSpec.upto fileLaterSpec)

/-- 'blazonlaw11.ShowFiles', WHERE WHAT IT READS IS OF BULK AT MOST 1048576: true; the input reads as it did. -/
def showFilesUptoRow : OpenClaim := { program := "ytmnggldejflooaagreatdoor", sum := "e95a94f6d3bb07763cd3b59a372116a7dd7c44e7d7982658977d3ba29ac0c268", func := "blazon/blazonlaw11.ShowFiles", spec := "showFiles", inPlace := ["internal/abi.NoEscape"], unfollowed := true, recurses := true, named := ["strconv.ErrSyntax", "strconv.ErrRange", "internal/strconv.uint64pow10", "math/bits.deBruijn32tab", "math/bits.deBruijn64tab", "blazon/expr.levels", "blazon/show.levels"], apart := false, laid := [("math/bits.deBruijn32tab", laid_math_bits_deBruijn32tab), ("math/bits.deBruijn64tab", laid_math_bits_deBruijn64tab), ("internal/strconv.uint64pow10", laid_internal_strconv_uint64pow10), ("strconv.ErrRange", laid_strconv_ErrRange), ("strconv.ErrSyntax", laid_strconv_ErrSyntax), ("blazon/expr.levels", laid_blazon_expr_levels), ("blazon/show.levels", laid_blazon_show_levels)], narrowed := true }
def ShowFilesUptoSaid : Prop := showFilesUptoRow.holds Tryz.pinned (OpenSpec.upto showFilesSpec)

/-- 'blazonlaw11.ShowBack', WHERE WHAT IT READS IS OF BULK AT MOST 1048576: true; the input reads as it did. -/
def showBackUptoRow : OpenClaim := { program := "ytmnggldejflooaagreatdoor", sum := "e95a94f6d3bb07763cd3b59a372116a7dd7c44e7d7982658977d3ba29ac0c268", func := "blazon/blazonlaw11.ShowBack", spec := "showBack", inPlace := ["internal/abi.NoEscape"], unfollowed := true, recurses := true, named := ["strconv.ErrSyntax", "strconv.ErrRange", "internal/strconv.uint64pow10", "math/bits.deBruijn32tab", "math/bits.deBruijn64tab", "blazon/expr.levels", "blazon/show.levels"], apart := false, laid := [("math/bits.deBruijn32tab", laid_math_bits_deBruijn32tab), ("math/bits.deBruijn64tab", laid_math_bits_deBruijn64tab), ("internal/strconv.uint64pow10", laid_internal_strconv_uint64pow10), ("strconv.ErrRange", laid_strconv_ErrRange), ("strconv.ErrSyntax", laid_strconv_ErrSyntax), ("blazon/expr.levels", laid_blazon_expr_levels), ("blazon/show.levels", laid_blazon_show_levels)], narrowed := true }
def ShowBackUptoSaid : Prop := showBackUptoRow.holds Tryz.pinned (OpenSpec.upto showBackSpec)

end Rows
end Go.Proofs.YtmnggldejflooaaGreatDoor
