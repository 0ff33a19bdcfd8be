/- What Amount of the reference of layer 2 returns, for every number. No condition. -/
import Derived.Test.YtjjidbnjkhdkaaaMoneySpec
namespace Go.Proofs.Ytjjidbnjkhdkaaa
open Go.RowKit

theorem refAmount_any (n : Int) (w : World) : Calls Try.prog 33 #[.int .i64 n] w fun e w' => e = .returned (.bool (amtB n)) ∧ w = w' := by
  by_cases h1 : -1000000000000 ≤ n
  · by_cases h2 : n ≤ 1000000000000
    · have e0 : amtB n = true := (amtB_iff n).2 ⟨h1, h2⟩
      rw [e0]
      clear e0
      go_enter Try.func33, Try.ntmps33
      go_wp2
      go_ret
      exact ⟨rfl, rfl⟩
    · have e0 : amtB n = false := (amtB_false n).2 (by omega)
      rw [e0]
      clear e0
      go_enter Try.func33, Try.ntmps33
      go_wp2
      go_ret
      exact ⟨rfl, rfl⟩
  · have e0 : amtB n = false := (amtB_false n).2 (by omega)
    rw [e0]
    clear e0
    go_enter Try.func33, Try.ntmps33
    go_wp2
    go_ret
    exact ⟨rfl, rfl⟩
end Go.Proofs.Ytjjidbnjkhdkaaa
