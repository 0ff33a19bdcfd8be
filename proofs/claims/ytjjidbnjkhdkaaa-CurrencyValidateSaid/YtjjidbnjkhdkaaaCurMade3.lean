/- What Currency of the made inputs returns, for every number. No condition. -/
import Derived.Test.YtjjidbnjkhdkaaaCurMade2
namespace Go.Proofs.Ytjjidbnjkhdkaaa
open Go.RowKit

def cur5 (k : Int) : ByteArray := if k = 0 then ⟨#[67, 72, 70]⟩ else if k = 1 then ⟨#[71, 66, 80]⟩ else if k = 2 then ⟨#[85, 83, 68]⟩ else if k = 3 then ⟨#[69, 85, 82]⟩ else ⟨#[88, 88, 88]⟩
theorem cur5_size (k : Int) : (cur5 k).size ≤ maxLen := by
  unfold cur5
  split
  · decide +kernel
  split
  · decide +kernel
  split
  · decide +kernel
  split <;> decide +kernel
set_option maxHeartbeats 400000 in
theorem currency_any (x : Int) (w : World) : Calls Try.prog 16 #[.int .i64 x] w fun e w' => e = .returned (.string (cur5 (x % 5))) ∧ Below w.heap.size w w' := by
  have H := Lib.hid (fun w => madeWithin_any x 5 (by omega) (by omega) w)
  obtain h | h | h | h | h : x % 5 = 0 ∨ x % 5 = 1 ∨ x % 5 = 2 ∨ x % 5 = 3 ∨ x % 5 = 4 := by omega
  all_goals
    rw [h] at H ⊢
    clear h
    go_enter Try.func16, Try.ntmps16
    go_wp2_with fail
    refine (H.out _).mono ?_
    rintro e w1 ⟨rfl, rfl⟩
    go_wp2_with fail
    go_ret
    exact ⟨rfl, (Below.refl _ _).alloc (Nat.le_refl _) _⟩
end Go.Proofs.Ytjjidbnjkhdkaaa
