/- What Within of the made inputs returns, for every number. Condition: the bound is above 0 and no great number. -/
import Derived.Test.YtenlfapdmknkjaaBase
namespace Go.Proofs.Ytenlfapdmknkjaa
open Go.RowKit

theorem within_arith (x n : Int) (hn : 0 < n) : (x.tmod n + n).tmod n = x % n ∧ -n < x.tmod n ∧ x.tmod n < n := by
  have h1 : x.tmod n < n := Int.tmod_lt_of_pos x hn
  have h2 : -n < x.tmod n := by
    have := Int.tmod_lt_of_pos (-x) hn
    rw [Int.neg_tmod] at this
    omega
  refine ⟨?_, h2, h1⟩
  rw [Int.tmod_eq_emod_of_nonneg (by omega), Int.add_emod_right]
  have h3 := Int.mul_tdiv_add_tmod x n
  conv => rhs; rw [← h3, Int.add_comm, Int.add_mul_emod_self_left]

set_option maxHeartbeats 400000 in
theorem madeWithin_any (x n : Int) (h1 : 0 < n) (h2 : n ≤ 1000000000000) (w : World) : Calls Try.prog 15 #[.int .i64 x, .int .i64 n] w fun e w' => e = .returned (.int .i64 (x % n)) ∧ w = w' := by
  obtain ⟨h3, h4, h5⟩ := within_arith x n h1
  have d1 : (n == 0) = false := by rw [beq_eq_false_iff_ne]; omega
  have hn : n ≠ 0 := by omega
  go_enter Try.func15, Try.ntmps15
  go_wp2_with fail
  go_ret
  exact ⟨rfl, rfl⟩
end Go.Proofs.Ytenlfapdmknkjaa
