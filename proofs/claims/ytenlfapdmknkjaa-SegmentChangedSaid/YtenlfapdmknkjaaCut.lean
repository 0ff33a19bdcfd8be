/- What Cut of the made inputs returns: the list's first numbers. Condition: the list's cells are known. -/
import Derived.Test.YtenlfapdmknkjaaLawRow
import Derived.Test.YtenlfapdmknkjaaBase
namespace Go.Proofs.Ytenlfapdmknkjaa
open Go.RowKit

theorem cut_any (c : Nat) (v : Value) (n : Nat) (f : Nat → Int) (w : World) (h : ListAt w .i64 v n f) :
    Calls Try.prog 24 #[v, .int .i64 (c : Int)] w fun e w' => ∃ u, e = .returned u ∧ ListAt w .i64 u (min n c) f ∧ w = w' := by
  rcases h with ⟨rfl, rfl⟩ | ⟨a, cap, rfl, h1, h2, h3⟩
  · go_enter Try.func24, Try.ntmps24
    go_wp2_with fail
    go_ret
    exact ⟨_, rfl, .inl ⟨rfl, by omega⟩, rfl⟩
  · have hx := Lib.hid h3
    clear h3
    have s2 : n ≤ 9223372036854775807 := by unfold maxLen at h2; omega
    by_cases hc : c < n
    · have d1 : decide (c < n) = true := decide_eq_true hc
      have s1 : (c : Int) ≤ (cap : Int) := by omega
      go_enter Try.func24, Try.ntmps24
      go_wp2_with fail
      go_ret
      exact ⟨_, rfl, .inr ⟨a, cap, by rw [Nat.min_eq_right (by omega)]; rfl, by omega, h2, fun i hi => hx.out i (by omega)⟩, rfl⟩
    · have d1 : decide (c < n) = false := decide_eq_false hc
      go_enter Try.func24, Try.ntmps24
      go_wp2_with fail
      go_ret
      exact ⟨_, rfl, .inr ⟨a, cap, by rw [Nat.min_eq_left (by omega)]; rfl, by omega, h2, fun i hi => hx.out i (by omega)⟩, rfl⟩
end Go.Proofs.Ytenlfapdmknkjaa
