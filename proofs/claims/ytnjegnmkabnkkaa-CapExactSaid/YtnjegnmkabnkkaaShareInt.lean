/- Plain definitions of layer 3's answers over lists of integers: shares, spread totals, capped requests. No condition. -/
import Derived.Test.YtnjegnmkabnkkaaShareSpec
namespace Go.Proofs.Ytnjegnmkabnkkaa

/-- The weights as natural numbers. -/
def wN (g : Nat → Int) (i : Nat) : Nat := (g i).toNat
/-- Are g 0 .. g (n - 1) all from 0 to the greatest amount? -/
def amts0 (g : Nat → Int) : Nat → Bool
  | 0 => true
  | n + 1 => amts0 g n && (decide (0 ≤ g n) && decide (g n ≤ 1000000000000))
theorem amts0_at {g : Nat → Int} : ∀ {n : Nat}, amts0 g n = true → ∀ i, i < n → 0 ≤ g i ∧ g i ≤ 1000000000000
  | 0, _, i, hi => absurd hi (by omega)
  | n + 1, h, i, hi => by
    have h' : (amts0 g n && (decide (0 ≤ g n) && decide (g n ≤ 1000000000000))) = true := h
    simp only [Bool.and_eq_true, decide_eq_true_eq] at h'
    by_cases e : i = n
    · rw [e]; exact h'.2
    · exact amts0_at h'.1 i (by omega)
theorem amts0_of {g : Nat → Int} : ∀ {n : Nat}, (∀ i, i < n → 0 ≤ g i ∧ g i ≤ 1000000000000) → amts0 g n = true
  | 0, _ => rfl
  | n + 1, h => by
    show (amts0 g n && (decide (0 ≤ g n) && decide (g n ≤ 1000000000000))) = true
    rw [amts0_of (fun i hi => h i (by omega)), decide_eq_true (h n (by omega)).1, decide_eq_true (h n (by omega)).2]
    rfl
theorem amts0_no {g : Nat → Int} {k : Nat} (h : g k < 0 ∨ 1000000000000 < g k) : ∀ n, k < n → amts0 g n = false := by
  intro n hk
  cases ha : amts0 g n with
  | false => rfl
  | true =>
    have := amts0_at ha k hk
    omega
/-- What Share returns: the error, how many shares, and each share. -/
def shE (T : Int) (n : Nat) (g : Nat → Int) : Int := if 1000 < n then 8 else if T < 0 ∨ 1000000000000 < T ∨ amts0 g n = false then 2 else if n = 0 ∧ 0 < T then 7 else 0
def shI (T : Int) (n : Nat) (g : Nat → Int) (i : Nat) : Int := (shV T.toNat (wN g) n i : Nat)
def shN (T : Int) (n : Nat) (g : Nat → Int) : Nat := if shE T n g = 0 then n else 0
theorem sh_ok {T : Int} {n : Nat} {g : Nat → Int} (h : shE T n g = 0) : n ≤ 1000 ∧ 0 ≤ T ∧ T ≤ 1000000000000 ∧ amts0 g n = true ∧ (1 ≤ n ∨ T = 0) := by
  unfold shE at h
  split at h
  · omega
  · split at h
    · omega
    · split at h
      · omega
      · rename_i h1 h2 h3
        refine ⟨by omega, by omega, by omega, ?_, by omega⟩
        cases ha : amts0 g n with
        | true => rfl
        | false => exact absurd (.inr (.inr ha)) h2
/-- The sum of the weights. -/
def sumI (g : Nat → Int) : Nat → Int
  | 0 => 0
  | n + 1 => sumI g n + g n
theorem sumI_nat {g : Nat → Int} : ∀ {n : Nat}, amts0 g n = true → sumI g n = (sumN (wN g) n : Nat) ∧ sumN (wN g) n ≤ n * 1000000000000
  | 0, _ => ⟨rfl, Nat.le_refl _⟩
  | n + 1, h => by
    have h' : (amts0 g n && (decide (0 ≤ g n) && decide (g n ≤ 1000000000000))) = true := h
    simp only [Bool.and_eq_true, decide_eq_true_eq] at h'
    obtain ⟨h1, h2⟩ := sumI_nat h'.1
    show sumI g n + g n = ((sumN (wN g) n + (g n).toNat : Nat) : Int) ∧ sumN (wN g) n + (g n).toNat ≤ (n + 1) * 1000000000000
    omega
theorem sumN_at {g : Nat → Int} {n k : Nat} (h : amts0 g n = true) (hk : k ≤ n) : sumI g k = (sumN (wN g) k : Nat) ∧ sumN (wN g) k ≤ k * 1000000000000 :=
  sumI_nat (amts0_of (fun i hi => amts0_at h i (by omega)))
/-- A share is at most the total. -/
theorem sh_le {T : Int} {n : Nat} {g : Nat → Int} (h0 : 0 ≤ T) (hn : 1 ≤ n) (i : Nat) (hi : i < n) : 0 ≤ shI T n g i ∧ shI T n g i ≤ T := by
  have h1 := sum_at_le (shV T.toNat (wN g) n) n i hi
  rw [sh_total _ _ _ hn] at h1
  unfold shI
  omega
/-- What Spread returns. -/
def spT (T : Int) : Int := if T < 0 then (if T < -1000000000000 then 1000000000001 else -T) else T
def spI (T : Int) (n : Nat) (g : Nat → Int) (i : Nat) : Int := if T < 0 then -shI (-T) n g i else shI T n g i
/-- What Cap returns. -/
def cpE (A : Int) (n : Nat) (g : Nat → Int) : Int := if shE A n g = 7 then 0 else shE A n g
def cpI (A : Int) (n : Nat) (g : Nat → Int) (i : Nat) : Int := if sumI g n ≤ A then g i else shI A n g i
def cpN (A : Int) (n : Nat) (g : Nat → Int) : Nat := if cpE A n g = 0 then n else 0
end Go.Proofs.Ytnjegnmkabnkkaa
