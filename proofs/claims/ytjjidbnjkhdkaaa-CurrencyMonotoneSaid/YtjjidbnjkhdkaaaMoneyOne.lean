/- What the range tests of the package money return for one number. Condition: the number's cell is known. -/
import Derived.Test.YtjjidbnjkhdkaaaMoneyRange
namespace Go.Proofs.Ytjjidbnjkhdkaaa
open Go.RowKit

theorem allAmt_one (f : Nat → Int) : allAmt f 1 = amtB (f 0) := by
  show (true && amtB (f 0)) = _
  simp
theorem allIn_one (lo hi : Int) (f : Nat → Int) : allIn lo hi f 1 = (decide (lo ≤ f 0) && decide (f 0 ≤ hi)) := by
  show (true && _) = _
  simp

/-- A list of one number, wherever it lies. -/
theorem one_at {x : Int} {b : Nat} {w : World} (h : w.cell? ⟨b, 0, none⟩ = some (.int .i64 x)) : ∀ j, j < 1 → w.cell? ((⟨b, 0, none⟩ : Addr).add j) = some (.int .i64 x) := by
  intro j hj
  obtain rfl : j = 0 := by omega
  exact h
theorem within_one (lo hi x : Int) (b : Nat) (w : World) (h : w.cell? ⟨b, 0, none⟩ = some (.int .i64 x)) :
    Calls Try.prog 39 #[.int .i64 lo, .int .i64 hi, .slice (some ⟨b, 0, none⟩) 1 1] w fun e w' => e = .returned (.bool (decide (lo ≤ x) && decide (x ≤ hi))) ∧ w = w' := by
  have h := within_some lo hi ⟨b, 0, none⟩ 1 1 (fun _ => x) (by omega) _ (one_at h)
  rw [allIn_one] at h
  exact h
theorem areAmounts_one (x : Int) (b : Nat) (w : World) (h : w.cell? ⟨b, 0, none⟩ = some (.int .i64 x)) :
    Calls Try.prog 38 #[.slice (some ⟨b, 0, none⟩) 1 1] w fun e w' => e = .returned (.bool (amtB x)) ∧ w = w' := by
  have h := areAmounts_any (some ⟨b, 0, none⟩) 1 1 (fun _ => x) (by omega) _ (.inr ⟨_, rfl, one_at h⟩)
  rw [allAmt_one] at h
  exact h
end Go.Proofs.Ytjjidbnjkhdkaaa
