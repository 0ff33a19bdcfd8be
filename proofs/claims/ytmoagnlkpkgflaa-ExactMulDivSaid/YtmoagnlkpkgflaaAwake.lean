/- The laws' sanity check on fixed numbers returns true. No condition. -/
import Derived.Test.YtmoagnlkpkgflaaCore2
import Derived.Test.YtmoagnlkpkgflaaGcd
namespace Go.Proofs.Ytmoagnlkpkgflaa
open Go.RowKit

theorem awake_1 (w : World) : Calls Try.prog 21 #[.int .u64 7, .int .u64 1, .int .u64 2, .int .i64 3] w fun e w' =>
    e = .returned (.tuple #[.int .u64 4, .int .i64 0]) ∧ Below w.heap.size w w' := by
  have h := mulDiv_any 7 1 2 3 (by omega) (by omega) (by omega) w
  have e1 : mdV 7 1 2 3 = 4 := by decide +kernel
  have e2 : mdE 7 1 2 3 = 0 := by decide +kernel
  rw [e1, e2] at h
  exact h
theorem awake_2 (w : World) : Calls Try.prog 21 #[.int .u64 5, .int .u64 1, .int .u64 2, .int .i64 3] w fun e w' =>
    e = .returned (.tuple #[.int .u64 2, .int .i64 0]) ∧ Below w.heap.size w w' := by
  have h := mulDiv_any 5 1 2 3 (by omega) (by omega) (by omega) w
  have e1 : mdV 5 1 2 3 = 2 := by decide +kernel
  have e2 : mdE 5 1 2 3 = 0 := by decide +kernel
  rw [e1, e2] at h
  exact h
theorem awake_3 (w : World) : Calls Try.prog 21 #[.int .u64 9223372036854775808, .int .u64 4, .int .u64 8, .int .i64 0] w fun e w' =>
    e = .returned (.tuple #[.int .u64 4611686018427387904, .int .i64 0]) ∧ Below w.heap.size w w' := by
  have h := mulDiv_any 9223372036854775808 4 8 0 (by omega) (by omega) (by omega) w
  have e1 : mdV 9223372036854775808 4 8 0 = 4611686018427387904 := by decide +kernel
  have e2 : mdE 9223372036854775808 4 8 0 = 0 := by decide +kernel
  rw [e1, e2] at h
  exact h
theorem awake_4 (w : World) : Calls Try.prog 27 #[.int .u64 12, .int .u64 18] w fun e w' =>
    e = .returned (.int .u64 6) ∧ ∃ m, w' = w.drewN m := by
  have h := gcd_any 12 18 (by omega) (by omega) w
  have e1 : gN 12 18 = 6 := by decide +kernel
  rw [e1] at h
  exact h

set_option maxHeartbeats 400000 in
theorem awake_any (w : World) : Calls Try.prog 14 #[] w fun e w' => e = .returned (.bool true) ∧ Below w.heap.size w w' := by
  go_enter Try.func14, Try.ntmps14
  go_wp2_with fail
  refine (awake_1 _).mono ?_
  rintro e w1 ⟨rfl, hb1⟩
  have hz1 := hb1.size
  go_wp2_with fail
  refine (awake_2 _).mono ?_
  rintro e w2 ⟨rfl, hb2⟩
  have hz2 := hb2.size
  go_wp2_with fail
  refine (awake_3 _).mono ?_
  rintro e w3 ⟨rfl, hb3⟩
  have hz3 := hb3.size
  go_wp2_with fail
  refine (awake_4 _).mono ?_
  rintro e w4 ⟨rfl, m, rfl⟩
  go_wp2_with fail
  go_ret
  exact ⟨rfl, by repeat (first | exact Below.refl _ _ | (refine Below.setCell ?_ (by first | omega | (simp; done) | (simp; omega)) _) | (refine below_drewN ?_ _) | (refine Below.alloc ?_ (by first | omega | (simp; done) | (simp; omega)) _) | (refine Below.trans ?_ (Below.mono (by assumption) (by first | omega | (simp; done) | (simp; omega)))))⟩
end Go.Proofs.Ytmoagnlkpkgflaa
