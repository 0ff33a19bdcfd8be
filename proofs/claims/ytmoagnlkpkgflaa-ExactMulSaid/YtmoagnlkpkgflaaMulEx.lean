/- What Mul and Add of the package exact return, and which new variables they leave, for every input. No condition. -/
import Derived.Test.YtmoagnlkpkgflaaMul
namespace Go.Proofs.Ytmoagnlkpkgflaa
open Go.RowKit

theorem cell_alloc {w : World} {a : Addr} {v : Value} {o : Obj} (h : w.cell? a = some v) : (w.alloc o).cell? a = some v :=
  (((Below.refl w.heap.size w).alloc (Nat.le_refl _) o).cell (World.block_lt_of_cell? w _ h)).trans h
theorem cell_drew {w : World} {a : Addr} {v : Value} (h : w.cell? a = some v) : w.drew.cell? a = some v := h

set_option maxHeartbeats 400000 in
theorem mul_ex (a b : Nat) (ha : a < 18446744073709551616) (hb : b < 18446744073709551616) (w : World) :
    Calls Try.prog 11 #[.int .u64 a, .int .u64 b] w fun e w' => e = .returned (.agg #[.int .u64 (hiN a b), .int .u64 (loN a b)]) ∧ ∃ c1 : Array Value, w' = w.alloc (.cells c1 24) := by
  go_enter Try.func11, Try.ntmps11
  go_wp2_with (go_at_call 31; refine (mul64_any _ _ ha hb _).mono ?_; rintro e w' ⟨rfl, rfl⟩)
  simp [bodyPost, results, Try.results11, go_sem]
  exact ⟨_, rfl⟩

set_option maxHeartbeats 400000 in
theorem add_ex (ah al bh bl : Nat) (h1 : ah < 18446744073709551616) (h2 : al < 18446744073709551616) (h3 : bh < 18446744073709551616) (h4 : bl < 18446744073709551616) (w : World) (ho : sOv ah al bh bl = false) :
    Calls Try.prog 15 #[.agg #[.int .u64 ah, .int .u64 al], .agg #[.int .u64 bh, .int .u64 bl]] w fun e w' =>
      e = .returned (.tuple #[.agg #[.int .u64 (sHi ah al bh bl), .int .u64 (sLo al bl)], .int .i64 0]) ∧ ∃ c1 c2 c3 : Array Value, w' = ((w.alloc (.cells c1 24)).alloc (.cells c2 24)).alloc (.cells c3 24) := by
  have k0 : 0 ≤ ((al : Int) + bl) / 18446744073709551616 := by omega
  have k1 : ((al : Int) + bl) / 18446744073709551616 ≤ 1 := by omega
  have k2 : ((ah : Int) + bh + ((al : Int) + bl) / 18446744073709551616) / 18446744073709551616 = 0 := by
    unfold sOv at ho; simp at ho; omega
  clear ho
  go_enter Try.func15, Try.ntmps15
  go_wp2_with (first | simp only [add64_0 (al : Int) bl (by omega) (by omega)] | simp only [add64 (ah : Int) bh _ (by omega) (by omega) k0 k1])
  simp [bodyPost, results, Try.results15, go_sem]
  refine ⟨⟨?_, ?_⟩, ⟨_, _, _, rfl⟩⟩
  · unfold sHi; omega
  · unfold sLo; omega
end Go.Proofs.Ytmoagnlkpkgflaa
