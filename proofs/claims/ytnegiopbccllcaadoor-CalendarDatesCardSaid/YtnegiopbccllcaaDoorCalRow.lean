/- What a row's list says of the package calendar's table. No condition. -/
import Derived.Test.YtnegiopbccllcaaDoorCalTab
import Derived.Test.YtnegiopbccllcaaDoorVarRow
namespace Go.Proofs.YtnegiopbccllcaaDoor
open Go.RowKit Go.WideShapes Go.ChangeShapes

theorem calTab_of {l : List (String × DataW Unit)} {W : World} (h : laidMet Tryd.prog l W) (m1 : ("customs/calendar.daysBefore", Rows.laid_customs_calendar_daysBefore) ∈ l) : CalTab W := by
  obtain ⟨r1, h1⟩ := laid_at m1 h
  have e1 : (Rows.laid_customs_calendar_daysBefore : DataW Unit) = Lib.tabData .i64 dbTab := by kernel_rfl
  rw [e1] at h1
  exact ⟨Lib.tabIs_of_head (g := 0) (t := 55) (e := 3) (n := 12) (by kernel_rfl) (by kernel_rfl) Tryd.underlying55 Tryd.underlying3 (by kernel_rfl) (by kernel_rfl) h1⟩
end Go.Proofs.YtnegiopbccllcaaDoor
