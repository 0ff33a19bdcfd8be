/- What Gcd, Reduce and the denominator of the package exact return, and Gcd and Reduce of its reference, for every input. No condition. -/
import Derived.Test.YtmoagnlkpkgflaaBase
import Derived.Deep.QuietTactic
import Derived.BigQuiet
namespace Go.Proofs.Ytmoagnlkpkgflaa
open Go.RowKit

def gN (a b : Nat) : Nat := Nat.gcd a b
def den (n : Nat) : Nat := if n = 0 then 1 else n
theorem den_pos (n : Nat) : 0 < den n := by unfold den; split <;> omega
theorem den_lt (n : Nat) (h : n < 18446744073709551616) : den n < 18446744073709551616 := by unfold den; split <;> omega
theorem gcd_step (x y : Nat) : Nat.gcd y (x % y) = Nat.gcd x y := by
  rw [Nat.gcd_comm y, ← Nat.gcd_rec, Nat.gcd_comm]

set_option maxHeartbeats 400000 in
theorem gcd_any (a b : Nat) (ha : a < 18446744073709551616) (hb : b < 18446744073709551616) (w : World) :
    Calls Try.prog 27 #[.int .u64 a, .int .u64 b] w fun e w' => e = .returned (.int .u64 (gN a b)) ∧ ∃ m, w' = w.drewN m := by
  go_enter Try.func27, Try.ntmps27
  go_wp2
  go_loopw [0, 1] (fun p q wr => ∃ x y : Nat, p = .int .u64 x ∧ q = .int .u64 y ∧ Hid (Nat.gcd x y = gN a b) ∧ x < 18446744073709551616 ∧ y < 18446744073709551616 ∧ ∃ m, wr = w.drewN m)
    (fun _ q _ => (intOf q).toNat)
  case atStart => exact ⟨a, b, rfl, rfl, Lib.hid rfl, ha, hb, 0, rfl⟩
  case round =>
    obtain ⟨x, y, rfl, rfl, hg, hx, hy, m, rfl⟩ := hrel
    rcases Nat.eq_zero_or_pos y with h0 | h0
    · subst h0
      go_wp2
      go_ret
      refine ⟨?_, m, rfl⟩
      rw [← hg.out, Nat.gcd_zero_right]
      rfl
    · have e1 : ((y : Int) != 0) = true := by rw [bne_iff_ne]; omega
      have hl := Nat.mod_lt x h0
      have e2 : (x : Int) % (y : Int) = ((x % y : Nat) : Int) := by simp
      have hg2 : Hid (Nat.gcd y (x % y) = gN a b) := Lib.hid ((gcd_step x y).trans hg.out)
      generalize x % y = z at *
      go_wp2
      go_quiet (fail)
      go_wp2
      go_roundw
      case rel => exact ⟨y, z, rfl, int_eq e2, hg2, hy, by omega, _, World.drewN_drewN _ _ _⟩
      case measure => simp [intOf]; omega

set_option maxHeartbeats 400000 in
theorem refGcd_any (a b : Nat) (ha : a < 18446744073709551616) (hb : b < 18446744073709551616) (w : World) :
    Calls Try.prog 30 #[.int .u64 a, .int .u64 b] w fun e w' => e = .returned (.int .u64 (gN a b)) ∧ ∃ m, w' = w.drewN m := by
  go_enter Try.func30, Try.ntmps30
  go_wp2
  go_loopw [0, 1] (fun p q wr => ∃ x y : Nat, p = .int .u64 x ∧ q = .int .u64 y ∧ Hid (Nat.gcd x y = gN a b) ∧ x < 18446744073709551616 ∧ y < 18446744073709551616 ∧ ∃ m, wr = w.drewN m)
    (fun _ q _ => (intOf q).toNat)
  case atStart => exact ⟨a, b, rfl, rfl, Lib.hid rfl, ha, hb, 0, rfl⟩
  case round =>
    obtain ⟨x, y, rfl, rfl, hg, hx, hy, m, rfl⟩ := hrel
    rcases Nat.eq_zero_or_pos y with h0 | h0
    · subst h0
      go_wp2
      go_ret
      refine ⟨?_, m, rfl⟩
      rw [← hg.out, Nat.gcd_zero_right]
      rfl
    · have hl := Nat.mod_lt x h0
      have e1 : ((y : Int) == 0) = false := by rw [beq_eq_false_iff_ne]; omega
      have e2 : (x : Int) % (y : Int) = ((x % y : Nat) : Int) := by simp
      have hg2 : Hid (Nat.gcd y (x % y) = gN a b) := Lib.hid ((gcd_step x y).trans hg.out)
      generalize x % y = z at *
      go_wp2
      go_quiet (fail)
      go_wp2
      go_roundw
      case rel => exact ⟨y, z, rfl, int_eq e2, hg2, hy, by omega, _, World.drewN_drewN _ _ _⟩
      case measure => simp [intOf]; omega

set_option maxHeartbeats 400000 in
theorem den_any (n : Nat) (w : World) : Calls Try.prog 39 #[.int .u64 n] w fun e w' => e = .returned (.int .u64 (den n)) ∧ w = w' := by
  by_cases h : n = 0
  · have e0 : den n = 1 := if_pos h
    have e1 : ((n : Int) == 0) = true := by rw [beq_iff_eq]; omega
    rw [e0]
    clear h e0
    go_enter Try.func39, Try.ntmps39
    go_wp2
    go_ret
    exact ⟨rfl, rfl⟩
  · have e0 : den n = n := if_neg h
    have e1 : ((n : Int) == 0) = false := by rw [beq_eq_false_iff_ne]; omega
    rw [e0]
    clear h e0
    go_enter Try.func39, Try.ntmps39
    go_wp2
    go_ret
    exact ⟨rfl, rfl⟩

/-- Numerator and denominator in lowest terms. -/
def redN (a b : Nat) : Nat := a / gN a (den b)
def redD (a b : Nat) : Nat := den b / gN a (den b)
theorem gN_pos (a b : Nat) : 0 < gN a (den b) := Nat.gcd_pos_of_pos_right _ (den_pos b)
theorem gN_le (a b : Nat) : gN a (den b) ≤ den b := Nat.gcd_le_right _ (den_pos b)

set_option maxHeartbeats 400000 in
theorem reduce_any (a b : Nat) (ha : a < 18446744073709551616) (hb : b < 18446744073709551616) (w : World) :
    Calls Try.prog 28 #[.int .u64 a, .int .u64 b] w fun e w' => e = .returned (.tuple #[.int .u64 (redN a b), .int .u64 (redD a b)]) ∧ ∃ m, w' = w.drewN m := by
  have hd := den_lt b hb
  have hp := gN_pos a b
  have hg := gcd_any a (den b) ha hd
  have hgl : gN a (den b) < 18446744073709551616 := Nat.lt_of_le_of_lt (gN_le a b) hd
  have hn : redN a b < 18446744073709551616 := Nat.lt_of_le_of_lt (Nat.div_le_self _ _) ha
  have hm : redD a b < 18446744073709551616 := Nat.lt_of_le_of_lt (Nat.div_le_self _ _) hd
  have e1 : (a : Int) / (gN a (den b) : Int) = (redN a b : Int) := by unfold redN; simp
  have e2 : (den b : Int) / (gN a (den b) : Int) = (redD a b : Int) := by unfold redD; simp
  generalize gN a (den b) = g at *
  generalize redN a b = rn at *
  generalize redD a b = rd at *
  have HG := Lib.hid hg
  clear hg
  have e3 : ((g : Int) == 0) = false := by rw [beq_eq_false_iff_ne]; omega
  go_enter Try.func28, Try.ntmps28
  go_wp2_with fail
  refine (den_any _ _).mono ?_
  rintro e w1 ⟨rfl, rfl⟩
  go_wp2_with fail
  refine (HG.out _).mono ?_
  rintro e w1 ⟨rfl, m, rfl⟩
  go_wp2_with fail
  go_quiet (fail)
  go_wp2_with fail
  go_ret2
  exact ⟨rfl, _, World.drewN_drewN _ _ _⟩

set_option maxHeartbeats 400000 in
theorem refReduce_any (a b : Nat) (ha : a < 18446744073709551616) (hb : b < 18446744073709551616) (w : World) :
    Calls Try.prog 29 #[.int .u64 a, .int .u64 b] w fun e w' => e = .returned (.tuple #[.int .u64 (redN a b), .int .u64 (redD a b)]) ∧ ∃ m, w' = w.drewN m := by
  have hd := den_lt b hb
  have hp := gN_pos a b
  have hg := refGcd_any a (den b) ha hd
  have hgl : gN a (den b) < 18446744073709551616 := Nat.lt_of_le_of_lt (gN_le a b) hd
  have hn : redN a b < 18446744073709551616 := Nat.lt_of_le_of_lt (Nat.div_le_self _ _) ha
  have hm : redD a b < 18446744073709551616 := Nat.lt_of_le_of_lt (Nat.div_le_self _ _) hd
  have e1 : (a : Int) / (gN a (den b) : Int) = (redN a b : Int) := by unfold redN; simp
  have e2 : (den b : Int) / (gN a (den b) : Int) = (redD a b : Int) := by unfold redD; simp
  generalize gN a (den b) = g at *
  generalize redN a b = rn at *
  generalize redD a b = rd at *
  have e3 : ((g : Int) == 0) = false := by rw [beq_eq_false_iff_ne]; omega
  have e5 : den b = 1 ∧ b = 0 ∨ den b = b ∧ 1 ≤ b := by
    unfold den
    by_cases h : b = 0
    · exact .inl ⟨if_pos h, h⟩
    · exact .inr ⟨if_neg h, by omega⟩
  generalize den b = db at *
  rcases e5 with ⟨h1, h2⟩ | ⟨h1, h2⟩
  · subst h1
    subst h2
    have e6 : (1 : Int) / (g : Int) = (rd : Int) := e2
    clear e2
    have HG := Lib.hid hg
    clear hg
    go_enter Try.func29, Try.ntmps29
    go_wp2_with fail
    refine (HG.out _).mono ?_
    rintro e w1 ⟨rfl, m, rfl⟩
    go_wp2_with fail
    go_quiet (fail)
    go_wp2_with fail
    go_ret2
    exact ⟨congrArg (fun z => Ending.returned (.tuple #[.int .u64 rn, .int .u64 z])) e6, _, World.drewN_drewN _ _ _⟩
  · subst h1
    have HG := Lib.hid hg
    clear hg
    go_enter Try.func29, Try.ntmps29
    go_wp2_with fail
    refine (HG.out _).mono ?_
    rintro e w1 ⟨rfl, m, rfl⟩
    go_wp2_with fail
    go_quiet (fail)
    go_wp2_with fail
    go_ret2
    exact ⟨rfl, _, World.drewN_drewN _ _ _⟩
end Go.Proofs.Ytmoagnlkpkgflaa
