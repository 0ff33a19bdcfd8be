/- What the comparison that the package apportion sorts by returns. Condition: the list of remainders lies there. -/
import Derived.Test.YtnjegnmkabnkkaaInts
import Derived.Test.YtnjegnmkabnkkaaSortPlain
import Derived.Deep.QuietTactic
import Derived.BigQuiet
import Derived.Deep.DeepCutAuto
import Derived.Deep.CutBlock
namespace Go.Proofs.Ytnjegnmkabnkkaa
open Go.RowKit

/-- Minus one, one, or zero: the greater number first. -/
def cmpD (a b : Nat) : Int := if a < b then -1 else if b < a then 1 else 0
theorem cmpD_neg (a b : Nat) : decide (cmpD a b < 0) = decide (a < b) := by
  unfold cmpD
  by_cases h : a < b
  · rw [if_pos h, decide_eq_true h]; rfl
  · rw [if_neg h, decide_eq_false h]
    split <;> rfl

theorem notNaN_any (a : Nat) (w : World) : Calls Try.prog 43 #[.int .u64 a] w fun e w' => e = .returned (.bool false) ∧ w = w' := by
  have h0 : ((a : Int) != (a : Int)) = false := by simp
  go_enter Try.func43, Try.ntmps43
  go_wp2_with fail
  go_ret
  exact ⟨rfl, rfl⟩

theorem compare_u64 (a b : Nat) (w : World) : Calls Try.prog 35 #[.int .u64 a, .int .u64 b] w fun e w' => e = .returned (.int .i64 (cmpD a b)) ∧ w = w' := by
  have n1 := notNaN_any a
  have n2 := notNaN_any b
  by_cases h1 : a < b
  · have e1 : cmpD a b = -1 := if_pos h1
    have d1 : decide (a < b) = true := decide_eq_true h1
    rw [e1]
    clear e1
    go_enter Try.func35, Try.ntmps35
    go_wp2_with fail
    refine (n1 _).mono ?_
    rintro e w1 ⟨rfl, rfl⟩
    go_wp2_with fail
    refine (n2 _).mono ?_
    rintro e w1 ⟨rfl, rfl⟩
    go_wp2_with fail
    go_ret
    exact ⟨rfl, rfl⟩
  · by_cases h2 : b < a
    · have e1 : cmpD a b = 1 := (if_neg h1).trans (if_pos h2)
      have d1 : decide (a < b) = false := decide_eq_false h1
      have d2 : decide (b < a) = true := decide_eq_true h2
      rw [e1]
      clear e1
      go_enter Try.func35, Try.ntmps35
      go_wp2_with fail
      refine (n1 _).mono ?_
      rintro e w1 ⟨rfl, rfl⟩
      go_wp2_with fail
      refine (n2 _).mono ?_
      rintro e w1 ⟨rfl, rfl⟩
      go_wp2_with fail
      go_ret
      exact ⟨rfl, rfl⟩
    · have e1 : cmpD a b = 0 := (if_neg h1).trans (if_neg h2)
      have d1 : decide (a < b) = false := decide_eq_false h1
      have d2 : decide (b < a) = false := decide_eq_false h2
      rw [e1]
      clear e1
      go_enter Try.func35, Try.ntmps35
      go_wp2_with fail
      refine (n1 _).mono ?_
      rintro e w1 ⟨rfl, rfl⟩
      go_wp2_with fail
      refine (n2 _).mono ?_
      rintro e w1 ⟨rfl, rfl⟩
      go_wp2_with fail
      go_ret
      exact ⟨rfl, rfl⟩

/-- The variable that the comparison holds, and the remainders. -/
structure RestsAt (w : World) (C BR n cap : Nat) (r : Nat → Nat) : Prop where
  box : w.cell? ⟨C, 0, none⟩ = some (.slice (some ⟨BR, 0, none⟩) n cap)
  cells : ∀ i, i < n → w.cell? ⟨BR, i, none⟩ = some (.int .u64 (r i))
theorem RestsAt.keep {w w1 : World} {C BR n cap B : Nat} {r : Nat → Nat} (h : RestsAt w C BR n cap r) (hb : Below B w w1) (h1 : C < B) (h2 : BR < B) : RestsAt w1 C BR n cap r :=
  ⟨(hb.cell h1).trans h.box, fun i hi => (hb.cell h2).trans (h.cells i hi)⟩
theorem RestsAt.drewN {w : World} {C BR n cap : Nat} {r : Nat → Nat} (h : RestsAt w C BR n cap r) (k : Nat) : RestsAt (w.drewN k) C BR n cap r := ⟨h.box, h.cells⟩

set_option maxRecDepth 100000 in
theorem byRest_any (C BR n cap : Nat) (r : Nat → Nat) (i j : Nat) (hi : i < n) (hj : j < n) (w : World) (h : RestsAt w C BR n cap r) :
    Calls Try.prog 34 #[.int .i64 i, .int .i64 j, .pointer (some ⟨C, 0, none⟩)] w fun e w' => e = .returned (.int .i64 (cmpD (r j) (r i))) ∧ ∃ m, w' = w.drewN m := by
  have hb := h.box
  have hci := h.cells i hi
  have hcj := h.cells j hj
  have HC := Lib.hid (fun w => (compare_u64 (r j) (r i) w).mono fun _ _ h => (⟨h.1, h.2.symm⟩ : _ ∧ _))
  clear h
  generalize r i = x at *
  generalize r j = y at *
  go_enter Try.func34, Try.ntmps34
  go_wp2_with fail
  go_quiet ((go_at_call 35; refine Calls.quiet_of_same (HC.out _)))
  go_wp2_with fail
  go_ret
  exact ⟨rfl, _, rfl⟩
end Go.Proofs.Ytnjegnmkabnkkaa
