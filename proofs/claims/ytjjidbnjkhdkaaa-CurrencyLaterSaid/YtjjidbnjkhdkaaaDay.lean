/- What Day of the reference of layers 4 and 5 returns, for every number. No condition. -/
import Derived.Test.YtjjidbnjkhdkaaaBase
namespace Go.Proofs.Ytjjidbnjkhdkaaa
open Go.RowKit

/-- Is a number a day? -/
def dayB (n : Int) : Bool := decide (0 ≤ n) && decide (n ≤ 36524)
theorem dayB_iff (n : Int) : dayB n = true ↔ 0 ≤ n ∧ n ≤ 36524 := by simp [dayB]
theorem dayB_false (n : Int) : dayB n = false ↔ n < 0 ∨ 36524 < n := by
  rw [← Bool.not_eq_true, dayB_iff]; omega

set_option maxHeartbeats 400000 in
theorem refDay_any (n : Int) (w : World) : Calls Try.prog 29 #[.int .i64 n] w fun e w' => e = .returned (.bool (dayB n)) ∧ w = w' := by
  by_cases h1 : 0 ≤ n
  · by_cases h2 : n ≤ 36524
    · rw [(dayB_iff n).2 ⟨h1, h2⟩]
      go_enter Try.func29, Try.ntmps29
      go_wp2
      go_ret
      exact ⟨rfl, rfl⟩
    · rw [(dayB_false n).2 (by omega)]
      go_enter Try.func29, Try.ntmps29
      go_wp2
      go_ret
      exact ⟨rfl, rfl⟩
  · rw [(dayB_false n).2 (by omega)]
    go_enter Try.func29, Try.ntmps29
    go_wp2
    go_ret
    exact ⟨rfl, rfl⟩
end Go.Proofs.Ytjjidbnjkhdkaaa
