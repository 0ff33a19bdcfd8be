/- What the small functions of the package exact and of its reference return, for every input. No condition. -/
import Derived.Test.YtbaghdiimkenkaaDoorBase
import Derived.Deep.QuietTactic
import Derived.BigQuiet
namespace Go.Proofs.YtbaghdiimkenkaaDoor
open Go.RowKit

set_option maxHeartbeats 400000 in
theorem refAdd_any (ah al bh bl : Nat) (h1 : ah < 18446744073709551616) (h2 : al < 18446744073709551616) (h3 : bh < 18446744073709551616) (h4 : bl < 18446744073709551616) (w : World) :
    Calls Tryd.prog 47 #[.agg #[.int .u64 ah, .int .u64 al], .agg #[.int .u64 bh, .int .u64 bl]] w fun e w' =>
      e = .returned (.tuple #[.agg #[.int .u64 (sHi ah al bh bl), .int .u64 (sLo al bl)], .bool (sOv ah al bh bl)]) ∧ Below w.heap.size w w' := by
  go_enter Tryd.func47, Tryd.ntmps47
  go_wp2
  go_quiet (fail)
  go_wp2
  all_goals
    simp [bodyPost, results, Tryd.results47, go_sem]
    refine ⟨⟨⟨?_, ?_⟩, ?_⟩, by repeat (first | exact Below.refl _ _ | (refine Below.setCell ?_ (by simp; try omega) _) | (refine below_drewN ?_ _) | (refine Below.alloc ?_ (by simp; try omega) _))⟩
    · simp only [IntKind.wrap_u64] at *; unfold sHi; omega
    · simp only [IntKind.wrap_u64] at *; unfold sLo; omega
    · simp only [IntKind.wrap_u64] at *; unfold sOv; try rw [Bool.eq_iff_iff]
      simp
      omega

set_option maxHeartbeats 400000 in
theorem words_any (a b : Nat) (w : World) :
    Calls Tryd.prog 61 #[.int .u64 a, .int .u64 b] w fun e w' => e = .returned (.int .i64 (if a < b then -1 else if b < a then 1 else 0)) ∧ w = w' := by
  by_cases h1 : a < b
  · rw [if_pos h1]
    go_enter Tryd.func61, Tryd.ntmps61
    go_wp2
    go_ret
    exact ⟨rfl, rfl⟩
  · rw [if_neg h1]
    by_cases h2 : b < a
    · rw [if_pos h2]
      go_enter Tryd.func61, Tryd.ntmps61
      go_wp2
      go_ret
      exact ⟨rfl, rfl⟩
    · rw [if_neg h2]
      go_enter Tryd.func61, Tryd.ntmps61
      go_wp2
      go_ret
      exact ⟨rfl, rfl⟩

/-- The order of two numbers, as -1, 0 or 1. -/
def cmpN (a b : Nat) : Int := if a < b then -1 else if b < a then 1 else 0
theorem words_cmp (a b : Nat) (w : World) :
    Calls Tryd.prog 61 #[.int .u64 a, .int .u64 b] w fun e w' => e = .returned (.int .i64 (cmpN a b)) ∧ w = w' := words_any a b w
end Go.Proofs.YtbaghdiimkenkaaDoor
