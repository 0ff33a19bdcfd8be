/- What the small functions of the package exact and of its reference return, for every input. No condition. -/
import Derived.Test.YtmoagnlkpkgflaaBase
import Derived.Deep.QuietTactic
import Derived.BigQuiet
namespace Go.Proofs.Ytmoagnlkpkgflaa
open Go.RowKit

set_option maxHeartbeats 400000 in
theorem refAdd_any (ah al bh bl : Nat) (h1 : ah < 18446744073709551616) (h2 : al < 18446744073709551616) (h3 : bh < 18446744073709551616) (h4 : bl < 18446744073709551616) (w : World) :
    Calls Try.prog 16 #[.agg #[.int .u64 ah, .int .u64 al], .agg #[.int .u64 bh, .int .u64 bl]] w fun e w' =>
      e = .returned (.tuple #[.agg #[.int .u64 (sHi ah al bh bl), .int .u64 (sLo al bl)], .bool (sOv ah al bh bl)]) ∧ Below w.heap.size w w' := by
  go_enter Try.func16, Try.ntmps16
  go_wp2
  go_quiet (fail)
  go_wp2
  all_goals
    simp [bodyPost, results, Try.results16, go_sem]
    refine ⟨⟨⟨?_, ?_⟩, ?_⟩, by repeat (first | exact Below.refl _ _ | (refine Below.setCell ?_ (by simp; try omega) _) | (refine below_drewN ?_ _) | (refine Below.alloc ?_ (by simp; try omega) _))⟩
    · simp only [IntKind.wrap_u64] at *; unfold sHi; omega
    · simp only [IntKind.wrap_u64] at *; unfold sLo; omega
    · simp only [IntKind.wrap_u64] at *; unfold sOv; try rw [Bool.eq_iff_iff]
      simp
      omega

set_option maxHeartbeats 400000 in
theorem words_any (a b : Nat) (w : World) :
    Calls Try.prog 33 #[.int .u64 a, .int .u64 b] w fun e w' => e = .returned (.int .i64 (if a < b then -1 else if b < a then 1 else 0)) ∧ w = w' := by
  by_cases h1 : a < b
  · rw [if_pos h1]
    go_enter Try.func33, Try.ntmps33
    go_wp2
    go_ret
    exact ⟨rfl, rfl⟩
  · rw [if_neg h1]
    by_cases h2 : b < a
    · rw [if_pos h2]
      go_enter Try.func33, Try.ntmps33
      go_wp2
      go_ret
      exact ⟨rfl, rfl⟩
    · rw [if_neg h2]
      go_enter Try.func33, Try.ntmps33
      go_wp2
      go_ret
      exact ⟨rfl, rfl⟩

/-- The order of two numbers, as -1, 0 or 1. -/
def cmpN (a b : Nat) : Int := if a < b then -1 else if b < a then 1 else 0
theorem words_cmp (a b : Nat) (w : World) :
    Calls Try.prog 33 #[.int .u64 a, .int .u64 b] w fun e w' => e = .returned (.int .i64 (cmpN a b)) ∧ w = w' := words_any a b w
/-- The order of two numbers of two words. -/
def cmpW (ah al bh bl : Nat) : Int := if ah = bh then cmpN al bl else cmpN ah bh

set_option maxHeartbeats 400000 in
theorem wide_any (ah al bh bl : Nat) (w : World) :
    Calls Try.prog 17 #[.agg #[.int .u64 ah, .int .u64 al], .agg #[.int .u64 bh, .int .u64 bl]] w fun e w' =>
      e = .returned (.int .i64 (cmpW ah al bh bl)) ∧ Below w.heap.size w w' := by
  by_cases h1 : ah = bh
  · have e0 : cmpW ah al bh bl = cmpN al bl := if_pos h1
    rw [e0]
    clear e0
    subst h1
    go_enter Try.func17, Try.ntmps17
    go_wp2_with (go_at_call 33; refine (words_cmp _ _ _).mono ?_; rintro e w' ⟨rfl, rfl⟩)
    go_ret
    exact ⟨rfl, by repeat (first | exact Below.refl _ _ | (refine Below.setCell ?_ (by simp; try omega) _) | (refine below_drewN ?_ _) | (refine Below.alloc ?_ (by simp; try omega) _))⟩
  · have e0 : cmpW ah al bh bl = cmpN ah bh := if_neg h1
    rw [e0]
    clear e0
    have h2 : ((ah : Int) != bh) = true := by rw [bne_iff_ne]; omega
    have h3 : ((ah : Int) == bh) = false := by rw [beq_eq_false_iff_ne]; omega
    go_enter Try.func17, Try.ntmps17
    go_wp2_with (go_at_call 33; refine (words_cmp _ _ _).mono ?_; rintro e w' ⟨rfl, rfl⟩)
    go_ret
    exact ⟨rfl, by repeat (first | exact Below.refl _ _ | (refine Below.setCell ?_ (by simp; try omega) _) | (refine below_drewN ?_ _) | (refine Below.alloc ?_ (by simp; try omega) _))⟩

/-- Is the first number of two words the lesser one? -/
def lessW (ah al bh bl : Nat) : Bool := decide (ah < bh) || (decide (ah = bh) && decide (al < bl))

set_option maxHeartbeats 400000 in
theorem refLess_any (ah al bh bl : Nat) (w : World) :
    Calls Try.prog 34 #[.agg #[.int .u64 ah, .int .u64 al], .agg #[.int .u64 bh, .int .u64 bl]] w fun e w' =>
      e = .returned (.bool (lessW ah al bh bl)) ∧ Below w.heap.size w w' := by
  by_cases h1 : ah < bh
  · have e0 : lessW ah al bh bl = true := by simp [lessW, h1]
    rw [e0]
    clear e0
    go_enter Try.func34, Try.ntmps34
    go_wp2
    go_ret
    exact ⟨rfl, by repeat (first | exact Below.refl _ _ | (refine Below.setCell ?_ (by simp; try omega) _) | (refine below_drewN ?_ _) | (refine Below.alloc ?_ (by simp; try omega) _))⟩
  · by_cases h2 : ah = bh
    · have e0 : lessW ah al bh bl = decide (al < bl) := by simp [lessW, h2]
      rw [e0]
      clear e0
      subst h2
      by_cases h3 : al < bl
      all_goals
        simp only [h3, decide_true, decide_false]
        go_enter Try.func34, Try.ntmps34
        go_wp2
        go_ret
        exact ⟨rfl, by repeat (first | exact Below.refl _ _ | (refine Below.setCell ?_ (by simp; try omega) _) | (refine below_drewN ?_ _) | (refine Below.alloc ?_ (by simp; try omega) _))⟩
    · have e0 : lessW ah al bh bl = false := by simp [lessW, h1, h2]
      rw [e0]
      clear e0
      have h3 : ((ah : Int) == bh) = false := by rw [beq_eq_false_iff_ne]; omega
      go_enter Try.func34, Try.ntmps34
      go_wp2
      go_ret
      exact ⟨rfl, by repeat (first | exact Below.refl _ _ | (refine Below.setCell ?_ (by simp; try omega) _) | (refine below_drewN ?_ _) | (refine Below.alloc ?_ (by simp; try omega) _))⟩
end Go.Proofs.Ytmoagnlkpkgflaa
