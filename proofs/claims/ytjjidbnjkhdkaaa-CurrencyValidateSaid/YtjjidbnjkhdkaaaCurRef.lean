/- Tables of rates of exchange, as Go holds them, and what currency and Table of the reference of layer 5 return. Condition: the table's cells are known. -/
import Derived.Test.YtjjidbnjkhdkaaaDay
import Derived.Test.YtjjidbnjkhdkaaaLawRow
import Derived.Deep.QuietTactic
import Derived.BigQuiet
namespace Go.Proofs.Ytjjidbnjkhdkaaa
open Go.RowKit

/-- May a text be a currency of a table? -/
def curB (s : ByteArray) : Bool := decide (∀ i (h : i < s.size), 65 ≤ (s[i]'h).toNat ∧ (s[i]'h).toNat ≤ 90) && (s.size == 3 && !(s.toList == [69, 85, 82]))

theorem refCurrency_any (s : ByteArray) (hs : s.size ≤ maxLen) (w : World) : Calls Try.prog 28 #[.string s] w fun e w' => e = .returned (.bool (curB s)) ∧ w = w' := by
  have hs2 : s.size ≤ 9223372036854775807 := by unfold maxLen at hs; omega
  have hno : Hid (∀ i (h : i < s.size), ((s[i]'h).toNat < 65 ∨ 90 < (s[i]'h).toNat) → curB s = false) := Lib.hid (fun i h hx => by
    unfold curB
    rw [decide_eq_false (fun hall => by have := hall i h; omega)]
    rfl)
  have hyes : Hid ((∀ i (h : i < s.size), 65 ≤ (s[i]'h).toNat ∧ (s[i]'h).toNat ≤ 90) → curB s = (s.size == 3 && !(s.toList == [69, 85, 82]))) := Lib.hid (fun hall => by
    unfold curB
    rw [decide_eq_true hall, Bool.true_and])
  obtain ⟨B, hB⟩ : ∃ B, B = curB s := ⟨_, rfl⟩
  rw [← hB] at hno hyes ⊢
  clear hB
  go_enter Try.func28, Try.ntmps28
  go_wp2_with fail
  go_loop [3] (fun vi => ∃ i : Nat, vi = .int .i64 i ∧ i ≤ s.size ∧ Hid (∀ j (h : j < s.size), j < i → 65 ≤ (s[j]'h).toNat ∧ (s[j]'h).toNat ≤ 90)) (fun vi => s.size - (intOf vi).toNat)
  case atStart => exact ⟨0, by go_num, by omega, Lib.hid (fun j h hj => absurd hj (by omega))⟩
  case round =>
    obtain ⟨i, rfl, hi, hA⟩ := hrel
    by_cases hlt : i < s.size
    · by_cases h1 : (s[i]'hlt).toNat < 65
      · have hb := hno.out i hlt (.inl h1)
        subst hb
        have d1 : decide ((((s[i]'hlt).toNat : Nat) : Int) < 65) = true := decide_eq_true (by omega)
        clear hno hyes hA h1
        go_wp2_with fail
        go_ret
        exact ⟨rfl, rfl⟩
      · by_cases h2 : 90 < (s[i]'hlt).toNat
        · have hb := hno.out i hlt (.inr h2)
          subst hb
          have d1 : decide ((((s[i]'hlt).toNat : Nat) : Int) < 65) = false := decide_eq_false (by omega)
          have d2 : decide ((90 : Int) < (((s[i]'hlt).toNat : Nat) : Int)) = true := decide_eq_true (by omega)
          clear hno hyes hA h1 h2
          go_wp2_with fail
          go_ret
          exact ⟨rfl, rfl⟩
        · have hN : Hid (∀ j (h : j < s.size), j < i + 1 → 65 ≤ (s[j]'h).toNat ∧ (s[j]'h).toNat ≤ 90) := Lib.hid (fun j h hj => by
            by_cases e : j = i
            · subst e; omega
            · exact hA.out j h (by omega))
          have d1 : decide ((((s[i]'hlt).toNat : Nat) : Int) < 65) = false := decide_eq_false (by omega)
          have d2 : decide ((90 : Int) < (((s[i]'hlt).toNat : Nat) : Int)) = false := decide_eq_false (by omega)
          clear hno hyes hA h1 h2
          go_wp2_with fail
          go_round
          case rel => exact ⟨i + 1, by go_num, by omega, hN⟩
          case measure => simp [intOf]; omega
    · obtain rfl : i = s.size := by omega
      have hb := hyes.out (fun j h => hA.out j h h)
      clear hno hyes hA
      by_cases h3 : s.size = 3
      · have e1 : (((s.size : Nat) : Int) == 3) = true := by rw [beq_iff_eq]; omega
        have e2 : (s.size == 3) = true := by rw [beq_iff_eq]; exact h3
        rw [e2, Bool.true_and] at hb
        subst hb
        clear e2
        go_wp2_with fail
        all_goals go_ret
        all_goals exact ⟨rfl, rfl⟩
      · have e1 : (((s.size : Nat) : Int) == 3) = false := by rw [beq_eq_false_iff_ne]; omega
        have e2 : (s.size == 3) = false := by rw [beq_eq_false_iff_ne]; exact h3
        rw [e2, Bool.false_and] at hb
        subst hb
        clear e2
        go_wp2_with fail
        all_goals go_ret
        all_goals exact ⟨rfl, rfl⟩
end Go.Proofs.Ytjjidbnjkhdkaaa
