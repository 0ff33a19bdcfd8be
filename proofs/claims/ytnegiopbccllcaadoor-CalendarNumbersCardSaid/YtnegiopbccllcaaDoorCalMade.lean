/- What Within and Day of the made inputs return, for every number. -/
import Derived.Test.YtnegiopbccllcaaDoorCalRef
import Derived.Test.YtnegiopbccllcaaDoorWithin
import Derived.Test.YtnegiopbccllcaaDoorInts
namespace Go.Proofs.YtnegiopbccllcaaDoor
open Go.RowKit

set_option maxHeartbeats 400000 in
theorem madeDay_any (x : Int) (w : World) : Calls Tryd.prog 11 #[.int .i64 x] w fun e w' => e = .returned (.int .i64 (x % 36525)) ∧ w = w' := by
  have H := Lib.hid (madeWithin_any x 36525 (by omega) (by omega))
  go_enter Tryd.func11, Tryd.ntmps11
  go_wp2_with fail
  refine (H.out _).mono ?_
  rintro e w1 ⟨rfl, rfl⟩
  go_wp2_with fail
  go_ret
  exact ⟨rfl, rfl⟩
/-- A list of given numbers. -/
def litI (l : List Int) (i : Nat) : Int := l.getD i 0
theorem lit_at (l : List Int) (hl : l.length ≤ 1000) (hwf : ∀ x ∈ l, (Lit.int .i64 x).wf = true) (w : World) :
    ListAt (w.alloc (.cells (l.map fun x => Value.int .i64 x).toArray 3)) .i64 (.slice (some ⟨w.heap.size, 0, none⟩) l.length l.length) l.length (litI l) := by
  refine .inr ⟨_, _, rfl, Nat.le_refl _, by unfold maxLen; omega, fun i hi => ⟨?_, ?_⟩⟩
  · have e : (⟨w.heap.size, 0, none⟩ : Addr).add i = ⟨w.heap.size, i, none⟩ := by
      unfold Addr.add
      by_cases hz : i = 0 <;> simp [hz]
    rw [e]
    refine (World.cell?_alloc_mark w _ _ _ i).trans ?_
    unfold litI
    simp [List.getD, List.getElem?_eq_getElem hi]
  · unfold litI
    have : l.getD i 0 = l[i] := by simp [List.getD, List.getElem?_eq_getElem hi]
    rw [this]
    exact hwf _ (List.getElem_mem _)

end Go.Proofs.YtnegiopbccllcaaDoor
