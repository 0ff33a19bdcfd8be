/- Plain definitions of layer 2's answers: amounts, scaled amounts. No condition. -/
import Derived.Test.YtjjidbnjkhdkaaaCore2
namespace Go.Proofs.Ytjjidbnjkhdkaaa
open Go.RowKit

/-- Is a number an amount? -/
def amtB (n : Int) : Bool := decide (-1000000000000 ≤ n) && decide (n ≤ 1000000000000)
theorem amtB_iff (n : Int) : amtB n = true ↔ -1000000000000 ≤ n ∧ n ≤ 1000000000000 := by simp [amtB]
theorem amtB_false (n : Int) : amtB n = false ↔ n < -1000000000000 ∨ 1000000000000 < n := by
  rw [← Bool.not_eq_true, amtB_iff]; omega

/-- Are the arguments of Scale out of range? -/
def scBad (a n d m : Int) : Prop := amtB a = false ∨ n < 0 ∨ 1000000000000 < n ∨ d < 1 ∨ 1000000000000 < d ∨ m < 0 ∨ 3 < m
instance (a n d m : Int) : Decidable (scBad a n d m) := by unfold scBad; infer_instance
def scQ (a n d m : Int) : Nat := mdV a.natAbs n.toNat d.toNat m
def scF (a n d m : Int) : Int := mdE a.natAbs n.toNat d.toNat m
/-- What Scale returns: the amount and the error. -/
def scV (a n d m : Int) : Int := if scBad a n d m then 0 else if scF a n d m ≠ 0 ∨ 1000000000000 < scQ a n d m then 0 else if a < 0 then -(scQ a n d m : Int) else scQ a n d m
def scE (a n d m : Int) : Int := if scBad a n d m then 2 else if scF a n d m ≠ 0 ∨ 1000000000000 < scQ a n d m then 3 else 0
theorem sc_bad {a n d m : Int} (h : scBad a n d m) : scV a n d m = 0 ∧ scE a n d m = 2 := ⟨if_pos h, if_pos h⟩
theorem sc_big {a n d m : Int} (h : ¬ scBad a n d m) (h2 : scF a n d m ≠ 0 ∨ 1000000000000 < scQ a n d m) : scV a n d m = 0 ∧ scE a n d m = 3 :=
  ⟨(if_neg h).trans (if_pos h2), (if_neg h).trans (if_pos h2)⟩
theorem sc_neg {a n d m : Int} (h : ¬ scBad a n d m) (h2 : ¬ (scF a n d m ≠ 0 ∨ 1000000000000 < scQ a n d m)) (h3 : a < 0) : scV a n d m = -(scQ a n d m : Int) ∧ scE a n d m = 0 :=
  ⟨((if_neg h).trans (if_neg h2)).trans (if_pos h3), (if_neg h).trans (if_neg h2)⟩
theorem sc_pos {a n d m : Int} (h : ¬ scBad a n d m) (h2 : ¬ (scF a n d m ≠ 0 ∨ 1000000000000 < scQ a n d m)) (h3 : ¬ a < 0) : scV a n d m = (scQ a n d m : Int) ∧ scE a n d m = 0 :=
  ⟨((if_neg h).trans (if_neg h2)).trans (if_neg h3), (if_neg h).trans (if_neg h2)⟩
/-- What Part returns. -/
def ptV (a r m : Int) : Int := if r < 0 ∨ 10000000 < r then 0 else scV a r 1000000 m
def ptE (a r m : Int) : Int := if r < 0 ∨ 10000000 < r then 2 else scE a r 1000000 m
theorem scV_bounds (a n d m : Int) : -1000000000000 ≤ scV a n d m ∧ scV a n d m ≤ 1000000000000 := by
  unfold scV
  split
  · omega
  · split
    · omega
    · split <;> omega

/-- The sum of f 0 .. f (n - 1); what Sum returns. -/
def sumT (f : Nat → Int) : Nat → Int
  | 0 => 0
  | n + 1 => sumT f n + f n
def allAmt (f : Nat → Int) : Nat → Bool
  | 0 => true
  | n + 1 => allAmt f n && amtB (f n)
def suV (f : Nat → Int) (n : Nat) : Int := if allAmt f n then (if amtB (sumT f n) then sumT f n else 0) else 0
def suE (f : Nat → Int) (n : Nat) : Int := if allAmt f n then (if amtB (sumT f n) then 0 else 3) else 2
theorem sumT_add (f : Nat → Int) (k : Nat) : ∀ m : Nat, sumT f (k + m) = sumT f k + sumT (fun j => f (k + j)) m
  | 0 => by simp [sumT]
  | m + 1 => by
    have h := sumT_add f k m
    show sumT f (k + m) + f (k + m) = _
    rw [h]
    show _ = sumT f k + (sumT (fun j => f (k + j)) m + f (k + m))
    omega
theorem sum_small (f : Nat → Int) : ∀ n : Nat, (∀ j, j < n → -1000000 < f j ∧ f j < 1000000) → allAmt f n = true ∧ -1000000 * (n : Int) ≤ sumT f n ∧ sumT f n ≤ 1000000 * (n : Int)
  | 0, _ => ⟨rfl, by simp [sumT], by simp [sumT]⟩
  | n + 1, h => by
    obtain ⟨h1, h2, h3⟩ := sum_small f n (fun j hj => h j (by omega))
    have hn := h n (by omega)
    refine ⟨?_, ?_, ?_⟩
    · show (allAmt f n && amtB (f n)) = true
      rw [h1, (amtB_iff _).2 (by omega)]
      rfl
    · show _ ≤ sumT f n + f n
      omega
    · show sumT f n + f n ≤ _
      omega
theorem su_small (f : Nat → Int) (n : Nat) (hn : n ≤ 500) (h : ∀ j, j < n → -1000000 < f j ∧ f j < 1000000) : suV f n = sumT f n ∧ suE f n = 0 ∧ -500000000 ≤ sumT f n ∧ sumT f n ≤ 500000000 := by
  obtain ⟨h1, h2, h3⟩ := sum_small f n h
  have ha : amtB (sumT f n) = true := (amtB_iff _).2 (by omega)
  unfold suV suE
  rw [h1, ha]
  exact ⟨rfl, rfl, by omega, by omega⟩
end Go.Proofs.Ytjjidbnjkhdkaaa
