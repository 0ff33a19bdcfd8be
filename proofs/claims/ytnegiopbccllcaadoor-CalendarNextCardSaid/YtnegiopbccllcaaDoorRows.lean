/-
  NARROWER THAN 'FOR EVERY INPUT', by the rows' own cells (each row's printed sentence says how): CalendarDates: laid · CalendarNumbers: laid · CalendarNext: laid · CalendarMonths: laid · CalendarMonthsMonotone: laid · CalendarWorking: laid · CalendarWorkingSteps: laid · CalendarDeadline: laid.
  DERIVED. THE GIVEN ROWS OF THIS SEAT. 8 by the template 'for every input the law returns true; each argument reads behind the call as it read before'; 0 by the template 'total and deterministic' (their statements: YtnegiopbccllcaaDoorTotals.lean).
  GIVEN WITH THE SEED: the statements are not yours to turn. If you find one false, say at which input.
  Laid BY PROGRAM, IN A SANDBOX (cutbox-rows.mjs): the forced cells as the released guide's own fill.sh prints them over the translation 480312b4ffb835ef… (all of the seat's roots in one cut). By AI agents, Wed Nov 11 2026. No macro, syntax, notation, axiom, sorry.
-/
import Derived.Test.YtnegiopbccllcaaDoorChecked
import GoSem.Claim
import GoSem.ClaimJoined
import GoSem.ClaimMapViews
import Derived.JoinedTies
import Derived.KernelRfl
namespace Go.Proofs.YtnegiopbccllcaaDoor
/- THE CELL 'sum', in the pinned program and in every row, IS THE sha256 OF THE DUMP (.gsa) THAT YtnegiopbccllcaaDoorProg.lean LOADS. Nothing in Lean hashes anything: it is a label: what it is worth is what the hold of that sum in a sandbox is worth. -/
noncomputable def Tryd.pinned : Pinned := { name := "ytnegiopbccllcaadoor", sum := "480312b4ffb835ef738bb8084f0e63f68a3305fd1354b8bf0604e39d67b4727f", checked := Tryd.checked }
namespace Rows
def none {H : Type} : Left H := { results := [], args := [] }

/- WHAT THE LISTED PACKAGE-LEVEL VARIABLES READ AS WHEN THE CALL BEGINS. Each datum BY PROGRAM (the guide's laid-datum.mjs) off the statement by which the dump's own 'gosem.cut.vars' lays the variable. In a bare row this is a premise. The card (YtnegiopbccllcaaDoorCards.lean) ties it to the program's text. -/
def laid_customs_calendar_daysBefore {H : Type} : DataW H := .agg [.lit (.int .i64 0), .lit (.int .i64 31), .lit (.int .i64 59), .lit (.int .i64 90), .lit (.int .i64 120), .lit (.int .i64 151), .lit (.int .i64 181), .lit (.int .i64 212), .lit (.int .i64 243), .lit (.int .i64 273), .lit (.int .i64 304), .lit (.int .i64 334)]

/-- 'customslaw04.CalendarDates': WHATEVER THE INPUT: true; the input reads as it did. -/
def calendarDatesSpec : ChangeSpec := { name := "calendarDates", fn := fun _ => fun
  | [d1, d2] => { results := [.lit (.bool true)], args := [d1, d2] }
  | _ => none }
def calendarDatesRow : OpenClaim := { program := "ytnegiopbccllcaadoor", sum := "480312b4ffb835ef738bb8084f0e63f68a3305fd1354b8bf0604e39d67b4727f", func := "customs/customslaw04.CalendarDates", spec := "calendarDates", unfollowed := true, recurses := true, named := ["customs/calendar.daysBefore"], apart := false, laid := [("customs/calendar.daysBefore", laid_customs_calendar_daysBefore)] }
def CalendarDatesSaid : Prop := calendarDatesRow.holds Tryd.pinned (OpenSpec.ofChange calendarDatesSpec)

/-- ITS FALSE NEIGHBOUR: 'it returns false'. Refute it at one input. -/
def calendarDatesWrong : ChangeSpec := { name := "calendarDates", fn := fun _ => fun
  | [d1, d2] => { results := [.lit (.bool false)], args := [d1, d2] }
  | _ => none }
def CalendarDatesWrongFalsely : Prop := calendarDatesRow.holds Tryd.pinned (OpenSpec.ofChange calendarDatesWrong)

/-- 'customslaw04.CalendarNumbers': WHATEVER THE INPUT: true; the input reads as it did. -/
def calendarNumbersSpec : ChangeSpec := { name := "calendarNumbers", fn := fun _ => fun
  | [d1, d2, d3, d4] => { results := [.lit (.bool true)], args := [d1, d2, d3, d4] }
  | _ => none }
def calendarNumbersRow : OpenClaim := { program := "ytnegiopbccllcaadoor", sum := "480312b4ffb835ef738bb8084f0e63f68a3305fd1354b8bf0604e39d67b4727f", func := "customs/customslaw04.CalendarNumbers", spec := "calendarNumbers", unfollowed := true, recurses := true, named := ["customs/calendar.daysBefore"], apart := false, laid := [("customs/calendar.daysBefore", laid_customs_calendar_daysBefore)] }
def CalendarNumbersSaid : Prop := calendarNumbersRow.holds Tryd.pinned (OpenSpec.ofChange calendarNumbersSpec)

/-- ITS FALSE NEIGHBOUR: 'it returns false'. Refute it at one input. -/
def calendarNumbersWrong : ChangeSpec := { name := "calendarNumbers", fn := fun _ => fun
  | [d1, d2, d3, d4] => { results := [.lit (.bool false)], args := [d1, d2, d3, d4] }
  | _ => none }
def CalendarNumbersWrongFalsely : Prop := calendarNumbersRow.holds Tryd.pinned (OpenSpec.ofChange calendarNumbersWrong)

/-- 'customslaw04.CalendarNext': WHATEVER THE INPUT: true; the input reads as it did. -/
def calendarNextSpec : ChangeSpec := { name := "calendarNext", fn := fun _ => fun
  | [d] => { results := [.lit (.bool true)], args := [d] }
  | _ => none }
def calendarNextRow : OpenClaim := { program := "ytnegiopbccllcaadoor", sum := "480312b4ffb835ef738bb8084f0e63f68a3305fd1354b8bf0604e39d67b4727f", func := "customs/customslaw04.CalendarNext", spec := "calendarNext", unfollowed := true, recurses := true, named := ["customs/calendar.daysBefore"], apart := false, laid := [("customs/calendar.daysBefore", laid_customs_calendar_daysBefore)] }
def CalendarNextSaid : Prop := calendarNextRow.holds Tryd.pinned (OpenSpec.ofChange calendarNextSpec)

/-- ITS FALSE NEIGHBOUR: 'it returns false'. Refute it at one input. -/
def calendarNextWrong : ChangeSpec := { name := "calendarNext", fn := fun _ => fun
  | [d] => { results := [.lit (.bool false)], args := [d] }
  | _ => none }
def CalendarNextWrongFalsely : Prop := calendarNextRow.holds Tryd.pinned (OpenSpec.ofChange calendarNextWrong)

/-- 'customslaw04.CalendarMonths': WHATEVER THE INPUT: true; the input reads as it did. -/
def calendarMonthsSpec : ChangeSpec := { name := "calendarMonths", fn := fun _ => fun
  | [d1, d2, d3] => { results := [.lit (.bool true)], args := [d1, d2, d3] }
  | _ => none }
def calendarMonthsRow : OpenClaim := { program := "ytnegiopbccllcaadoor", sum := "480312b4ffb835ef738bb8084f0e63f68a3305fd1354b8bf0604e39d67b4727f", func := "customs/customslaw04.CalendarMonths", spec := "calendarMonths", unfollowed := true, recurses := true, named := ["customs/calendar.daysBefore"], apart := false, laid := [("customs/calendar.daysBefore", laid_customs_calendar_daysBefore)] }
def CalendarMonthsSaid : Prop := calendarMonthsRow.holds Tryd.pinned (OpenSpec.ofChange calendarMonthsSpec)

/-- ITS FALSE NEIGHBOUR: 'it returns false'. Refute it at one input. -/
def calendarMonthsWrong : ChangeSpec := { name := "calendarMonths", fn := fun _ => fun
  | [d1, d2, d3] => { results := [.lit (.bool false)], args := [d1, d2, d3] }
  | _ => none }
def CalendarMonthsWrongFalsely : Prop := calendarMonthsRow.holds Tryd.pinned (OpenSpec.ofChange calendarMonthsWrong)

/-- 'customslaw04.CalendarMonthsMonotone': WHATEVER THE INPUT: true; the input reads as it did. -/
def calendarMonthsMonotoneSpec : ChangeSpec := { name := "calendarMonthsMonotone", fn := fun _ => fun
  | [d1, d2, d3, d4] => { results := [.lit (.bool true)], args := [d1, d2, d3, d4] }
  | _ => none }
def calendarMonthsMonotoneRow : OpenClaim := { program := "ytnegiopbccllcaadoor", sum := "480312b4ffb835ef738bb8084f0e63f68a3305fd1354b8bf0604e39d67b4727f", func := "customs/customslaw04.CalendarMonthsMonotone", spec := "calendarMonthsMonotone", unfollowed := true, recurses := true, named := ["customs/calendar.daysBefore"], apart := false, laid := [("customs/calendar.daysBefore", laid_customs_calendar_daysBefore)] }
def CalendarMonthsMonotoneSaid : Prop := calendarMonthsMonotoneRow.holds Tryd.pinned (OpenSpec.ofChange calendarMonthsMonotoneSpec)

/-- ITS FALSE NEIGHBOUR: 'it returns false'. Refute it at one input. -/
def calendarMonthsMonotoneWrong : ChangeSpec := { name := "calendarMonthsMonotone", fn := fun _ => fun
  | [d1, d2, d3, d4] => { results := [.lit (.bool false)], args := [d1, d2, d3, d4] }
  | _ => none }
def CalendarMonthsMonotoneWrongFalsely : Prop := calendarMonthsMonotoneRow.holds Tryd.pinned (OpenSpec.ofChange calendarMonthsMonotoneWrong)

/-- 'customslaw04.CalendarWorking': WHATEVER THE INPUT: true; the input reads as it did. -/
def calendarWorkingSpec : ChangeSpec := { name := "calendarWorking", fn := fun _ => fun
  | [d1, d2, d3, d4] => { results := [.lit (.bool true)], args := [d1, d2, d3, d4] }
  | _ => none }
def calendarWorkingRow : OpenClaim := { program := "ytnegiopbccllcaadoor", sum := "480312b4ffb835ef738bb8084f0e63f68a3305fd1354b8bf0604e39d67b4727f", func := "customs/customslaw04.CalendarWorking", spec := "calendarWorking", unfollowed := true, recurses := true, named := ["customs/calendar.daysBefore"], apart := false, laid := [("customs/calendar.daysBefore", laid_customs_calendar_daysBefore)] }
def CalendarWorkingSaid : Prop := calendarWorkingRow.holds Tryd.pinned (OpenSpec.ofChange calendarWorkingSpec)

/-- ITS FALSE NEIGHBOUR: 'it returns false'. Refute it at one input. -/
def calendarWorkingWrong : ChangeSpec := { name := "calendarWorking", fn := fun _ => fun
  | [d1, d2, d3, d4] => { results := [.lit (.bool false)], args := [d1, d2, d3, d4] }
  | _ => none }
def CalendarWorkingWrongFalsely : Prop := calendarWorkingRow.holds Tryd.pinned (OpenSpec.ofChange calendarWorkingWrong)

/-- 'customslaw04.CalendarWorkingSteps': WHATEVER THE INPUT: true; the input reads as it did. -/
def calendarWorkingStepsSpec : ChangeSpec := { name := "calendarWorkingSteps", fn := fun _ => fun
  | [d1, d2, d3, d4] => { results := [.lit (.bool true)], args := [d1, d2, d3, d4] }
  | _ => none }
def calendarWorkingStepsRow : OpenClaim := { program := "ytnegiopbccllcaadoor", sum := "480312b4ffb835ef738bb8084f0e63f68a3305fd1354b8bf0604e39d67b4727f", func := "customs/customslaw04.CalendarWorkingSteps", spec := "calendarWorkingSteps", unfollowed := true, recurses := true, named := ["customs/calendar.daysBefore"], apart := false, laid := [("customs/calendar.daysBefore", laid_customs_calendar_daysBefore)] }
def CalendarWorkingStepsSaid : Prop := calendarWorkingStepsRow.holds Tryd.pinned (OpenSpec.ofChange calendarWorkingStepsSpec)

/-- ITS FALSE NEIGHBOUR: 'it returns false'. Refute it at one input. -/
def calendarWorkingStepsWrong : ChangeSpec := { name := "calendarWorkingSteps", fn := fun _ => fun
  | [d1, d2, d3, d4] => { results := [.lit (.bool false)], args := [d1, d2, d3, d4] }
  | _ => none }
def CalendarWorkingStepsWrongFalsely : Prop := calendarWorkingStepsRow.holds Tryd.pinned (OpenSpec.ofChange calendarWorkingStepsWrong)

/-- 'customslaw04.CalendarDeadline': WHATEVER THE INPUT: true; the input reads as it did. -/
def calendarDeadlineSpec : ChangeSpec := { name := "calendarDeadline", fn := fun _ => fun
  | [d1, d2, d3, d4, d5, d6] => { results := [.lit (.bool true)], args := [d1, d2, d3, d4, d5, d6] }
  | _ => none }
def calendarDeadlineRow : OpenClaim := { program := "ytnegiopbccllcaadoor", sum := "480312b4ffb835ef738bb8084f0e63f68a3305fd1354b8bf0604e39d67b4727f", func := "customs/customslaw04.CalendarDeadline", spec := "calendarDeadline", unfollowed := true, recurses := true, named := ["customs/calendar.daysBefore"], apart := false, laid := [("customs/calendar.daysBefore", laid_customs_calendar_daysBefore)] }
def CalendarDeadlineSaid : Prop := calendarDeadlineRow.holds Tryd.pinned (OpenSpec.ofChange calendarDeadlineSpec)

/-- ITS FALSE NEIGHBOUR: 'it returns false'. Refute it at one input. -/
def calendarDeadlineWrong : ChangeSpec := { name := "calendarDeadline", fn := fun _ => fun
  | [d1, d2, d3, d4, d5, d6] => { results := [.lit (.bool false)], args := [d1, d2, d3, d4, d5, d6] }
  | _ => none }
def CalendarDeadlineWrongFalsely : Prop := calendarDeadlineRow.holds Tryd.pinned (OpenSpec.ofChange calendarDeadlineWrong)

/- THE SECOND FORM. 'bulk': how many values and letters a reading holds, each counted each time it is reached (what is shared counts as often as it is met; a slice's spare places count too). A statement '..UptoSaid' is the law's where the arguments, and the package variables that the reading takes, are together of bulk at most 1048576: NARROWER than '..Said'. Prove '..Said' where nothing that the law and all that it calls make is longer than what came in: it says more and counts as full. Else prove '..UptoSaid'. A law counts once. -/
mutual
def uptoBulk {H : Type} : DataW H → Nat
  | .lit (.string bytes) => bytes.length + 1
  | .lit _ => 1
  | .nil => 1
  | .ptr d => uptoBulk d + 1
  | .slice elems spare => uptoBulkAll elems + uptoBulkAll spare + 1
  | .agg parts => uptoBulkAll parts + 1
  | .iface _ d => uptoBulk d + 1
  | .map entries => uptoBulkEntries entries + 1
  | .held _ => 1
def uptoBulkAll {H : Type} : List (DataW H) → Nat
  | [] => 0
  | d :: r => uptoBulk d + uptoBulkAll r
def uptoBulkEntries {H : Type} : List (Lit × DataW H) → Nat
  | [] => 0
  | x :: r => uptoBulkEntry x + uptoBulkEntries r
def uptoBulkEntry {H : Type} : Lit × DataW H → Nat
  | (.string bytes, d) => bytes.length + uptoBulk d + 1
  | (_, d) => uptoBulk d + 1
 end
def uptoSmall : (H : Type) → List (DataW H) → Bool := fun _ ds => decide (uptoBulkAll ds ≤ 1048576)
def OpenSpec.upto (s : _root_.Go.ChangeSpec) : _root_.Go.OpenSpec := { _root_.Go.OpenSpec.ofChange s with cond := some uptoSmall }

/-- 'customslaw04.CalendarDates', WHERE WHAT IT READS IS OF BULK AT MOST 1048576: true; the input reads as it did. -/
def calendarDatesUptoRow : OpenClaim := { program := "ytnegiopbccllcaadoor", sum := "480312b4ffb835ef738bb8084f0e63f68a3305fd1354b8bf0604e39d67b4727f", func := "customs/customslaw04.CalendarDates", spec := "calendarDates", unfollowed := true, recurses := true, named := ["customs/calendar.daysBefore"], apart := false, laid := [("customs/calendar.daysBefore", laid_customs_calendar_daysBefore)], narrowed := true }
def CalendarDatesUptoSaid : Prop := calendarDatesUptoRow.holds Tryd.pinned (OpenSpec.upto calendarDatesSpec)

/-- 'customslaw04.CalendarNumbers', WHERE WHAT IT READS IS OF BULK AT MOST 1048576: true; the input reads as it did. -/
def calendarNumbersUptoRow : OpenClaim := { program := "ytnegiopbccllcaadoor", sum := "480312b4ffb835ef738bb8084f0e63f68a3305fd1354b8bf0604e39d67b4727f", func := "customs/customslaw04.CalendarNumbers", spec := "calendarNumbers", unfollowed := true, recurses := true, named := ["customs/calendar.daysBefore"], apart := false, laid := [("customs/calendar.daysBefore", laid_customs_calendar_daysBefore)], narrowed := true }
def CalendarNumbersUptoSaid : Prop := calendarNumbersUptoRow.holds Tryd.pinned (OpenSpec.upto calendarNumbersSpec)

/-- 'customslaw04.CalendarNext', WHERE WHAT IT READS IS OF BULK AT MOST 1048576: true; the input reads as it did. -/
def calendarNextUptoRow : OpenClaim := { program := "ytnegiopbccllcaadoor", sum := "480312b4ffb835ef738bb8084f0e63f68a3305fd1354b8bf0604e39d67b4727f", func := "customs/customslaw04.CalendarNext", spec := "calendarNext", unfollowed := true, recurses := true, named := ["customs/calendar.daysBefore"], apart := false, laid := [("customs/calendar.daysBefore", laid_customs_calendar_daysBefore)], narrowed := true }
def CalendarNextUptoSaid : Prop := calendarNextUptoRow.holds Tryd.pinned (OpenSpec.upto calendarNextSpec)

/-- 'customslaw04.CalendarMonths', WHERE WHAT IT READS IS OF BULK AT MOST 1048576: true; the input reads as it did. -/
def calendarMonthsUptoRow : OpenClaim := { program := "ytnegiopbccllcaadoor", sum := "480312b4ffb835ef738bb8084f0e63f68a3305fd1354b8bf0604e39d67b4727f", func := "customs/customslaw04.CalendarMonths", spec := "calendarMonths", unfollowed := true, recurses := true, named := ["customs/calendar.daysBefore"], apart := false, laid := [("customs/calendar.daysBefore", laid_customs_calendar_daysBefore)], narrowed := true }
def CalendarMonthsUptoSaid : Prop := calendarMonthsUptoRow.holds Tryd.pinned (OpenSpec.upto calendarMonthsSpec)

/-- 'customslaw04.CalendarMonthsMonotone', WHERE WHAT IT READS IS OF BULK AT MOST 1048576: true; the input reads as it did. -/
def calendarMonthsMonotoneUptoRow : OpenClaim := { program := "ytnegiopbccllcaadoor", sum := "480312b4ffb835ef738bb8084f0e63f68a3305fd1354b8bf0604e39d67b4727f", func := "customs/customslaw04.CalendarMonthsMonotone", spec := "calendarMonthsMonotone", unfollowed := true, recurses := true, named := ["customs/calendar.daysBefore"], apart := false, laid := [("customs/calendar.daysBefore", laid_customs_calendar_daysBefore)], narrowed := true }
def CalendarMonthsMonotoneUptoSaid : Prop := calendarMonthsMonotoneUptoRow.holds Tryd.pinned (OpenSpec.upto calendarMonthsMonotoneSpec)

/-- 'customslaw04.CalendarWorking', WHERE WHAT IT READS IS OF BULK AT MOST 1048576: true; the input reads as it did. -/
def calendarWorkingUptoRow : OpenClaim := { program := "ytnegiopbccllcaadoor", sum := "480312b4ffb835ef738bb8084f0e63f68a3305fd1354b8bf0604e39d67b4727f", func := "customs/customslaw04.CalendarWorking", spec := "calendarWorking", unfollowed := true, recurses := true, named := ["customs/calendar.daysBefore"], apart := false, laid := [("customs/calendar.daysBefore", laid_customs_calendar_daysBefore)], narrowed := true }
def CalendarWorkingUptoSaid : Prop := calendarWorkingUptoRow.holds Tryd.pinned (OpenSpec.upto calendarWorkingSpec)

/-- 'customslaw04.CalendarWorkingSteps', WHERE WHAT IT READS IS OF BULK AT MOST 1048576: true; the input reads as it did. -/
def calendarWorkingStepsUptoRow : OpenClaim := { program := "ytnegiopbccllcaadoor", sum := "480312b4ffb835ef738bb8084f0e63f68a3305fd1354b8bf0604e39d67b4727f", func := "customs/customslaw04.CalendarWorkingSteps", spec := "calendarWorkingSteps", unfollowed := true, recurses := true, named := ["customs/calendar.daysBefore"], apart := false, laid := [("customs/calendar.daysBefore", laid_customs_calendar_daysBefore)], narrowed := true }
def CalendarWorkingStepsUptoSaid : Prop := calendarWorkingStepsUptoRow.holds Tryd.pinned (OpenSpec.upto calendarWorkingStepsSpec)

/-- 'customslaw04.CalendarDeadline', WHERE WHAT IT READS IS OF BULK AT MOST 1048576: true; the input reads as it did. -/
def calendarDeadlineUptoRow : OpenClaim := { program := "ytnegiopbccllcaadoor", sum := "480312b4ffb835ef738bb8084f0e63f68a3305fd1354b8bf0604e39d67b4727f", func := "customs/customslaw04.CalendarDeadline", spec := "calendarDeadline", unfollowed := true, recurses := true, named := ["customs/calendar.daysBefore"], apart := false, laid := [("customs/calendar.daysBefore", laid_customs_calendar_daysBefore)], narrowed := true }
def CalendarDeadlineUptoSaid : Prop := calendarDeadlineUptoRow.holds Tryd.pinned (OpenSpec.upto calendarDeadlineSpec)

end Rows
end Go.Proofs.YtnegiopbccllcaaDoor
