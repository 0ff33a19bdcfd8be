/- What the small function Add of the reference of the package exact returns, for every input. No condition. -/
import Derived.Test.YtjjidbnjkhdkaaaBase
import Derived.Deep.QuietTactic
import Derived.BigQuiet
namespace Go.Proofs.Ytjjidbnjkhdkaaa
open Go.RowKit

set_option maxHeartbeats 400000 in
theorem refAdd_any (ah al bh bl : Nat) (h1 : ah < 18446744073709551616) (h2 : al < 18446744073709551616) (h3 : bh < 18446744073709551616) (h4 : bl < 18446744073709551616) (w : World) :
    Calls Try.prog 48 #[.agg #[.int .u64 ah, .int .u64 al], .agg #[.int .u64 bh, .int .u64 bl]] w fun e w' =>
      e = .returned (.tuple #[.agg #[.int .u64 (sHi ah al bh bl), .int .u64 (sLo al bl)], .bool (sOv ah al bh bl)]) ∧ Below w.heap.size w w' := by
  go_enter Try.func48, Try.ntmps48
  go_wp2
  go_quiet (fail)
  go_wp2
  all_goals
    simp [bodyPost, results, Try.results48, go_sem]
    refine ⟨⟨⟨?_, ?_⟩, ?_⟩, by repeat (first | exact Below.refl _ _ | (refine Below.setCell ?_ (by simp; try omega) _) | (refine below_drewN ?_ _) | (refine Below.alloc ?_ (by simp; try omega) _))⟩
    · simp only [IntKind.wrap_u64] at *; unfold sHi; omega
    · simp only [IntKind.wrap_u64] at *; unfold sLo; omega
    · simp only [IntKind.wrap_u64] at *; unfold sOv; try rw [Bool.eq_iff_iff]
      simp
      omega
end Go.Proofs.Ytjjidbnjkhdkaaa
