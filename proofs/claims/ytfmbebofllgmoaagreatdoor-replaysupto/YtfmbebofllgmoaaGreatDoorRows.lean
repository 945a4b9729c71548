/-
  NARROWER THAN 'FOR EVERY INPUT', by the rows' own cells (each row's printed sentence says how): Checks: laid · Records: laid · Reads: laid · Replays: laid · Same: laid · Torn: laid · Harmed: laid · Other: laid · All: laid.
  DERIVED. THE GIVEN ROWS OF THIS SEAT. 9 by the template 'for every input the law returns true; each argument reads behind the call as it read before'; 0 by the template 'total and deterministic' (their statements: YtfmbebofllgmoaaGreatDoorTotals.lean).
  GIVEN WITH THE SEED: the statements are not yours to turn. If you find one false, say at which input.
  Laid BY PROGRAM, IN A SANDBOX (cutbox-rows.mjs): the forced cells as the released guide's own fill.sh prints them over the translation 79ce1418f592a706… (all of the seat's roots in one cut). By AI agents, Wed Nov 11 2026. No macro, syntax, notation, axiom, sorry.
-/
import Derived.Test.YtfmbebofllgmoaaGreatDoorChecked
import GoSem.Claim
import GoSem.ClaimJoined
import GoSem.ClaimMapViews
import Derived.JoinedTies
import Derived.KernelRfl
namespace Go.Proofs.YtfmbebofllgmoaaGreatDoor
/- THE CELL 'sum', in the pinned program and in every row, IS THE sha256 OF THE DUMP (.gsa) THAT YtfmbebofllgmoaaGreatDoorProg.lean LOADS. Nothing in Lean hashes anything: it is a label: what it is worth is what the hold of that sum in a sandbox is worth. -/
noncomputable def Tryz.pinned : Pinned := { name := "ytfmbebofllgmoaagreatdoor", sum := "79ce1418f592a70608b7f6ad9cf8b0ee247f9ee909f7bd18ee739271e88f69a4", checked := Tryz.checked }
namespace Rows
def none {H : Type} : Left H := { results := [], args := [] }

/- WHAT THE LISTED PACKAGE-LEVEL VARIABLES READ AS WHEN THE CALL BEGINS. Each datum BY PROGRAM (the guide's laid-datum.mjs) off the statement by which the dump's own 'gosem.cut.vars' lays the variable. In a bare row this is a premise. The card (YtfmbebofllgmoaaGreatDoorCards.lean) ties it to the program's text. -/
def laid_rerun_check_meanings {H : Type} : DataW H := .agg [.agg [.lit (.int .i64 0), .lit (.int .i64 0)], .agg [.lit (.int .i64 1), .lit (.int .i64 0)], .agg [.lit (.int .i64 1), .lit (.int .i64 1)], .agg [.lit (.int .i64 2), .lit (.int .i64 1)], .agg [.lit (.int .i64 2), .lit (.int .i64 0)], .agg [.lit (.int .i64 3), .lit (.int .i64 0)], .agg [.lit (.int .i64 3), .lit (.int .i64 0)], .agg [.lit (.int .i64 1), .lit (.int .i64 0)], .agg [.lit (.int .i64 1), .lit (.int .i64 4)], .agg [.lit (.int .i64 1), .lit (.int .i64 0)], .agg [.lit (.int .i64 1), .lit (.int .i64 0)], .agg [.lit (.int .i64 0), .lit (.int .i64 0)]]

/-- 'rerunlaw.Checks': WHATEVER THE INPUT: true; the input reads as it did. -/
def checksSpec : ChangeSpec := { name := "checks", fn := fun _ => fun
  | [d] => { results := [.lit (.bool true)], args := [d] }
  | _ => none }
def checksRow : OpenClaim := { program := "ytfmbebofllgmoaagreatdoor", sum := "79ce1418f592a70608b7f6ad9cf8b0ee247f9ee909f7bd18ee739271e88f69a4", func := "rerun/rerunlaw.Checks", spec := "checks", unfollowed := true, recurses := true, named := ["rerun/check.meanings"], apart := false, laid := [("rerun/check.meanings", laid_rerun_check_meanings)] }
def ChecksSaid : Prop := checksRow.holds Tryz.pinned (OpenSpec.ofChange checksSpec)

/-- ITS FALSE NEIGHBOUR: 'it returns false'. Refute it at one input. -/
def checksWrong : ChangeSpec := { name := "checks", fn := fun _ => fun
  | [d] => { results := [.lit (.bool false)], args := [d] }
  | _ => none }
def ChecksWrongFalsely : Prop := checksRow.holds Tryz.pinned (OpenSpec.ofChange checksWrong)

/-- 'rerunlaw.Records': WHATEVER THE INPUT: true; the input reads as it did. -/
def recordsSpec : ChangeSpec := { name := "records", fn := fun _ => fun
  | [d] => { results := [.lit (.bool true)], args := [d] }
  | _ => none }
def recordsRow : OpenClaim := { program := "ytfmbebofllgmoaagreatdoor", sum := "79ce1418f592a70608b7f6ad9cf8b0ee247f9ee909f7bd18ee739271e88f69a4", func := "rerun/rerunlaw.Records", spec := "records", unfollowed := true, recurses := true, named := ["rerun/check.meanings"], apart := false, laid := [("rerun/check.meanings", laid_rerun_check_meanings)] }
def RecordsSaid : Prop := recordsRow.holds Tryz.pinned (OpenSpec.ofChange recordsSpec)

/-- ITS FALSE NEIGHBOUR: 'it returns false'. Refute it at one input. -/
def recordsWrong : ChangeSpec := { name := "records", fn := fun _ => fun
  | [d] => { results := [.lit (.bool false)], args := [d] }
  | _ => none }
def RecordsWrongFalsely : Prop := recordsRow.holds Tryz.pinned (OpenSpec.ofChange recordsWrong)

/-- 'rerunlaw.Reads': WHATEVER THE INPUT: true; the input reads as it did. -/
def readsSpec : ChangeSpec := { name := "reads", fn := fun _ => fun
  | [d] => { results := [.lit (.bool true)], args := [d] }
  | _ => none }
def readsRow : OpenClaim := { program := "ytfmbebofllgmoaagreatdoor", sum := "79ce1418f592a70608b7f6ad9cf8b0ee247f9ee909f7bd18ee739271e88f69a4", func := "rerun/rerunlaw.Reads", spec := "reads", unfollowed := true, recurses := true, named := ["rerun/check.meanings"], apart := false, laid := [("rerun/check.meanings", laid_rerun_check_meanings)] }
def ReadsSaid : Prop := readsRow.holds Tryz.pinned (OpenSpec.ofChange readsSpec)

/-- ITS FALSE NEIGHBOUR: 'it returns false'. Refute it at one input. -/
def readsWrong : ChangeSpec := { name := "reads", fn := fun _ => fun
  | [d] => { results := [.lit (.bool false)], args := [d] }
  | _ => none }
def ReadsWrongFalsely : Prop := readsRow.holds Tryz.pinned (OpenSpec.ofChange readsWrong)

/-- 'rerunlaw.Replays': WHATEVER THE INPUT: true; the input reads as it did. -/
def replaysSpec : ChangeSpec := { name := "replays", fn := fun _ => fun
  | [d] => { results := [.lit (.bool true)], args := [d] }
  | _ => none }
def replaysRow : OpenClaim := { program := "ytfmbebofllgmoaagreatdoor", sum := "79ce1418f592a70608b7f6ad9cf8b0ee247f9ee909f7bd18ee739271e88f69a4", func := "rerun/rerunlaw.Replays", spec := "replays", unfollowed := true, recurses := true, named := ["rerun/check.meanings"], apart := false, laid := [("rerun/check.meanings", laid_rerun_check_meanings)] }
def ReplaysSaid : Prop := replaysRow.holds Tryz.pinned (OpenSpec.ofChange replaysSpec)

/-- ITS FALSE NEIGHBOUR: 'it returns false'. Refute it at one input. -/
def replaysWrong : ChangeSpec := { name := "replays", fn := fun _ => fun
  | [d] => { results := [.lit (.bool false)], args := [d] }
  | _ => none }
def ReplaysWrongFalsely : Prop := replaysRow.holds Tryz.pinned (OpenSpec.ofChange replaysWrong)

/-- 'rerunkeep.Same': WHATEVER THE INPUT: true; the input reads as it did. -/
def sameSpec : ChangeSpec := { name := "same", fn := fun _ => fun
  | [d1, d2, d3] => { results := [.lit (.bool true)], args := [d1, d2, d3] }
  | _ => none }
def sameRow : OpenClaim := { program := "ytfmbebofllgmoaagreatdoor", sum := "79ce1418f592a70608b7f6ad9cf8b0ee247f9ee909f7bd18ee739271e88f69a4", func := "rerun/rerunkeep.Same", spec := "same", unfollowed := true, recurses := true, named := ["rerun/check.meanings"], apart := false, laid := [("rerun/check.meanings", laid_rerun_check_meanings)] }
def SameSaid : Prop := sameRow.holds Tryz.pinned (OpenSpec.ofChange sameSpec)

/-- ITS FALSE NEIGHBOUR: 'it returns false'. Refute it at one input. -/
def sameWrong : ChangeSpec := { name := "same", fn := fun _ => fun
  | [d1, d2, d3] => { results := [.lit (.bool false)], args := [d1, d2, d3] }
  | _ => none }
def SameWrongFalsely : Prop := sameRow.holds Tryz.pinned (OpenSpec.ofChange sameWrong)

/-- 'rerunkeep.Torn': WHATEVER THE INPUT: true; the input reads as it did. -/
def tornSpec : ChangeSpec := { name := "torn", fn := fun _ => fun
  | [d1, d2, d3, d4] => { results := [.lit (.bool true)], args := [d1, d2, d3, d4] }
  | _ => none }
def tornRow : OpenClaim := { program := "ytfmbebofllgmoaagreatdoor", sum := "79ce1418f592a70608b7f6ad9cf8b0ee247f9ee909f7bd18ee739271e88f69a4", func := "rerun/rerunkeep.Torn", spec := "torn", unfollowed := true, recurses := true, named := ["rerun/check.meanings"], apart := false, laid := [("rerun/check.meanings", laid_rerun_check_meanings)] }
def TornSaid : Prop := tornRow.holds Tryz.pinned (OpenSpec.ofChange tornSpec)

/-- ITS FALSE NEIGHBOUR: 'it returns false'. Refute it at one input. -/
def tornWrong : ChangeSpec := { name := "torn", fn := fun _ => fun
  | [d1, d2, d3, d4] => { results := [.lit (.bool false)], args := [d1, d2, d3, d4] }
  | _ => none }
def TornWrongFalsely : Prop := tornRow.holds Tryz.pinned (OpenSpec.ofChange tornWrong)

/-- 'rerunkeep.Harmed': WHATEVER THE INPUT: true; the input reads as it did. -/
def harmedSpec : ChangeSpec := { name := "harmed", fn := fun _ => fun
  | [d1, d2, d3, d4, d5] => { results := [.lit (.bool true)], args := [d1, d2, d3, d4, d5] }
  | _ => none }
def harmedRow : OpenClaim := { program := "ytfmbebofllgmoaagreatdoor", sum := "79ce1418f592a70608b7f6ad9cf8b0ee247f9ee909f7bd18ee739271e88f69a4", func := "rerun/rerunkeep.Harmed", spec := "harmed", unfollowed := true, recurses := true, named := ["rerun/check.meanings"], apart := false, laid := [("rerun/check.meanings", laid_rerun_check_meanings)] }
def HarmedSaid : Prop := harmedRow.holds Tryz.pinned (OpenSpec.ofChange harmedSpec)

/-- ITS FALSE NEIGHBOUR: 'it returns false'. Refute it at one input. -/
def harmedWrong : ChangeSpec := { name := "harmed", fn := fun _ => fun
  | [d1, d2, d3, d4, d5] => { results := [.lit (.bool false)], args := [d1, d2, d3, d4, d5] }
  | _ => none }
def HarmedWrongFalsely : Prop := harmedRow.holds Tryz.pinned (OpenSpec.ofChange harmedWrong)

/-- 'rerunkeep.Other': WHATEVER THE INPUT: true; the input reads as it did. -/
def otherSpec : ChangeSpec := { name := "other", fn := fun _ => fun
  | [d1, d2, d3, d4] => { results := [.lit (.bool true)], args := [d1, d2, d3, d4] }
  | _ => none }
def otherRow : OpenClaim := { program := "ytfmbebofllgmoaagreatdoor", sum := "79ce1418f592a70608b7f6ad9cf8b0ee247f9ee909f7bd18ee739271e88f69a4", func := "rerun/rerunkeep.Other", spec := "other", unfollowed := true, recurses := true, named := ["rerun/check.meanings"], apart := false, laid := [("rerun/check.meanings", laid_rerun_check_meanings)] }
def OtherSaid : Prop := otherRow.holds Tryz.pinned (OpenSpec.ofChange otherSpec)

/-- ITS FALSE NEIGHBOUR: 'it returns false'. Refute it at one input. -/
def otherWrong : ChangeSpec := { name := "other", fn := fun _ => fun
  | [d1, d2, d3, d4] => { results := [.lit (.bool false)], args := [d1, d2, d3, d4] }
  | _ => none }
def OtherWrongFalsely : Prop := otherRow.holds Tryz.pinned (OpenSpec.ofChange otherWrong)

/-- 'rerunlaw.All': WHATEVER THE INPUT: true; the input reads as it did. -/
def allSpec : ChangeSpec := { name := "all", fn := fun _ => fun
  | [d] => { results := [.lit (.bool true)], args := [d] }
  | _ => none }
def allRow : OpenClaim := { program := "ytfmbebofllgmoaagreatdoor", sum := "79ce1418f592a70608b7f6ad9cf8b0ee247f9ee909f7bd18ee739271e88f69a4", func := "rerun/rerunlaw.All", spec := "all", unfollowed := true, recurses := true, named := ["rerun/check.meanings"], apart := false, laid := [("rerun/check.meanings", laid_rerun_check_meanings)] }
def AllSaid : Prop := allRow.holds Tryz.pinned (OpenSpec.ofChange allSpec)

/-- ITS FALSE NEIGHBOUR: 'it returns false'. Refute it at one input. -/
def allWrong : ChangeSpec := { name := "all", fn := fun _ => fun
  | [d] => { results := [.lit (.bool false)], args := [d] }
  | _ => none }
def AllWrongFalsely : Prop := allRow.holds Tryz.pinned (OpenSpec.ofChange allWrong)

/- THE SECOND FORM. 'bulk': how many values and letters a reading holds, each counted each time it is reached (what is shared counts as often as it is met; a slice's spare places count too). A statement '..UptoSaid' is the law's where the arguments, and the package variables that the reading takes, are together of bulk at most 1048576: NARROWER than '..Said'. Prove '..Said' where nothing that the law and all that it calls make is longer than what came in: it says more and counts as full. Else prove '..UptoSaid'. A law counts once. -/
mutual
def uptoBulk {H : Type} : DataW H → Nat
  | .lit (.string bytes) => bytes.length + 1
  | .lit _ => 1
  | .nil => 1
  | .ptr d => uptoBulk d + 1
  | .slice elems spare => uptoBulkAll elems + uptoBulkAll spare + 1
  | .agg parts => uptoBulkAll parts + 1
  | .iface _ d => uptoBulk d + 1
  | .map entries => uptoBulkEntries entries + 1
  | .held _ => 1
def uptoBulkAll {H : Type} : List (DataW H) → Nat
  | [] => 0
  | d :: r => uptoBulk d + uptoBulkAll r
def uptoBulkEntries {H : Type} : List (Lit × DataW H) → Nat
  | [] => 0
  | x :: r => uptoBulkEntry x + uptoBulkEntries r
def uptoBulkEntry {H : Type} : Lit × DataW H → Nat
  | (.string bytes, d) => bytes.length + uptoBulk d + 1
  | (_, d) => uptoBulk d + 1
 end
def uptoSmall : (H : Type) → List (DataW H) → Bool := fun _ ds => decide (uptoBulkAll ds ≤ 1048576)
def OpenSpec.upto (s : _root_.Go.ChangeSpec) : _root_.Go.OpenSpec := { _root_.Go.OpenSpec.ofChange s with cond := some uptoSmall }

/-- 'rerunlaw.Checks', WHERE WHAT IT READS IS OF BULK AT MOST 1048576: true; the input reads as it did. -/
def checksUptoRow : OpenClaim := { program := "ytfmbebofllgmoaagreatdoor", sum := "79ce1418f592a70608b7f6ad9cf8b0ee247f9ee909f7bd18ee739271e88f69a4", func := "rerun/rerunlaw.Checks", spec := "checks", unfollowed := true, recurses := true, named := ["rerun/check.meanings"], apart := false, laid := [("rerun/check.meanings", laid_rerun_check_meanings)], narrowed := true }
def ChecksUptoSaid : Prop := checksUptoRow.holds Tryz.pinned (OpenSpec.upto checksSpec)

/-- 'rerunlaw.Records', WHERE WHAT IT READS IS OF BULK AT MOST 1048576: true; the input reads as it did. -/
def recordsUptoRow : OpenClaim := { program := "ytfmbebofllgmoaagreatdoor", sum := "79ce1418f592a70608b7f6ad9cf8b0ee247f9ee909f7bd18ee739271e88f69a4", func := "rerun/rerunlaw.Records", spec := "records", unfollowed := true, recurses := true, named := ["rerun/check.meanings"], apart := false, laid := [("rerun/check.meanings", laid_rerun_check_meanings)], narrowed := true }
def RecordsUptoSaid : Prop := recordsUptoRow.holds Tryz.pinned (OpenSpec.upto recordsSpec)

/-- 'rerunlaw.Reads', WHERE WHAT IT READS IS OF BULK AT MOST 1048576: true; the input reads as it did. -/
def readsUptoRow : OpenClaim := { program := "ytfmbebofllgmoaagreatdoor", sum := "79ce1418f592a70608b7f6ad9cf8b0ee247f9ee909f7bd18ee739271e88f69a4", func := "rerun/rerunlaw.Reads", spec := "reads", unfollowed := true, recurses := true, named := ["rerun/check.meanings"], apart := false, laid := [("rerun/check.meanings", laid_rerun_check_meanings)], narrowed := true }
def ReadsUptoSaid : Prop := readsUptoRow.holds Tryz.pinned (OpenSpec.upto readsSpec)

/-- 'rerunlaw.Replays', WHERE WHAT IT READS IS OF BULK AT MOST 1048576: true; the input reads as it did. -/
def replaysUptoRow : OpenClaim := { program := "ytfmbebofllgmoaagreatdoor", sum := "79ce1418f592a70608b7f6ad9cf8b0ee247f9ee909f7bd18ee739271e88f69a4", func := "rerun/rerunlaw.Replays", spec := "replays", unfollowed := true, recurses := true, named := ["rerun/check.meanings"], apart := false, laid := [("rerun/check.meanings", laid_rerun_check_meanings)], narrowed := true }
def ReplaysUptoSaid : Prop := replaysUptoRow.holds Tryz.pinned (OpenSpec.upto replaysSpec)

/-- 'rerunkeep.Same', WHERE WHAT IT READS IS OF BULK AT MOST 1048576: true; the input reads as it did. -/
def sameUptoRow : OpenClaim := { program := "ytfmbebofllgmoaagreatdoor", sum := "79ce1418f592a70608b7f6ad9cf8b0ee247f9ee909f7bd18ee739271e88f69a4", func := "rerun/rerunkeep.Same", spec := "same", unfollowed := true, recurses := true, named := ["rerun/check.meanings"], apart := false, laid := [("rerun/check.meanings", laid_rerun_check_meanings)], narrowed := true }
def SameUptoSaid : Prop := sameUptoRow.holds Tryz.pinned (OpenSpec.upto sameSpec)

/-- 'rerunkeep.Torn', WHERE WHAT IT READS IS OF BULK AT MOST 1048576: true; the input reads as it did. -/
def tornUptoRow : OpenClaim := { program := "ytfmbebofllgmoaagreatdoor", sum := "79ce1418f592a70608b7f6ad9cf8b0ee247f9ee909f7bd18ee739271e88f69a4", func := "rerun/rerunkeep.Torn", spec := "torn", unfollowed := true, recurses := true, named := ["rerun/check.meanings"], apart := false, laid := [("rerun/check.meanings", laid_rerun_check_meanings)], narrowed := true }
def TornUptoSaid : Prop := tornUptoRow.holds Tryz.pinned (OpenSpec.upto tornSpec)

/-- 'rerunkeep.Harmed', WHERE WHAT IT READS IS OF BULK AT MOST 1048576: true; the input reads as it did. -/
def harmedUptoRow : OpenClaim := { program := "ytfmbebofllgmoaagreatdoor", sum := "79ce1418f592a70608b7f6ad9cf8b0ee247f9ee909f7bd18ee739271e88f69a4", func := "rerun/rerunkeep.Harmed", spec := "harmed", unfollowed := true, recurses := true, named := ["rerun/check.meanings"], apart := false, laid := [("rerun/check.meanings", laid_rerun_check_meanings)], narrowed := true }
def HarmedUptoSaid : Prop := harmedUptoRow.holds Tryz.pinned (OpenSpec.upto harmedSpec)

/-- 'rerunkeep.Other', WHERE WHAT IT READS IS OF BULK AT MOST 1048576: true; the input reads as it did. -/
def otherUptoRow : OpenClaim := { program := "ytfmbebofllgmoaagreatdoor", sum := "79ce1418f592a70608b7f6ad9cf8b0ee247f9ee909f7bd18ee739271e88f69a4", func := "rerun/rerunkeep.Other", spec := "other", unfollowed := true, recurses := true, named := ["rerun/check.meanings"], apart := false, laid := [("rerun/check.meanings", laid_rerun_check_meanings)], narrowed := true }
def OtherUptoSaid : Prop := otherUptoRow.holds Tryz.pinned (OpenSpec.upto otherSpec)

/-- 'rerunlaw.All', WHERE WHAT IT READS IS OF BULK AT MOST 1048576: true; the input reads as it did. -/
def allUptoRow : OpenClaim := { program := "ytfmbebofllgmoaagreatdoor", sum := "79ce1418f592a70608b7f6ad9cf8b0ee247f9ee909f7bd18ee739271e88f69a4", func := "rerun/rerunlaw.All", spec := "all", unfollowed := true, recurses := true, named := ["rerun/check.meanings"], apart := false, laid := [("rerun/check.meanings", laid_rerun_check_meanings)], narrowed := true }
def AllUptoSaid : Prop := allUptoRow.holds Tryz.pinned (OpenSpec.upto allSpec)

end Rows
end Go.Proofs.YtfmbebofllgmoaaGreatDoor
