/- Plain facts on dividing a number of two words bit by bit, and digit by digit. No condition. -/
import Derived.Test.YtjjidbnjkhdkaaaBase
import Derived.Laws.BitsAllLaws
import Derived.Laws.BitsLemmas
namespace Go.Proofs.Ytjjidbnjkhdkaaa
open Go.RowKit

/-- The first k bits of 128, as a number; its quotient and remainder. -/
def dP (n k : Nat) : Nat := n / 2 ^ (128 - k)
def dQ (n c k : Nat) : Nat := dP n k / c
def dR (n c k : Nat) : Nat := dP n k % c
def dBit (n k : Nat) : Nat := n / 2 ^ (127 - k) % 2
/-- The remainder with the next bit behind it. -/
def dNext (n c k : Nat) : Nat := dR n c k + dR n c k + dBit n k

theorem dP_zero (n : Nat) (hn : n < 340282366920938463463374607431768211456) : dP n 0 = 0 := by
  unfold dP
  exact Nat.div_eq_of_lt (by omega)
theorem dP_end (n : Nat) : dP n 128 = n := by simp [dP]
theorem dP_succ (n k : Nat) (hk : k < 128) : dP n (k + 1) = dP n k + dP n k + dBit n k := by
  unfold dP dBit
  have e1 : 128 - k = (127 - k) + 1 := by omega
  have e2 : 128 - (k + 1) = 127 - k := by omega
  rw [e1, e2, Nat.pow_succ, ← Nat.div_div_eq_div_mul]
  generalize n / 2 ^ (127 - k) = q
  omega
theorem dBit_lt (n k : Nat) : dBit n k < 2 := by unfold dBit; omega
theorem dR_lt (n c k : Nat) (hc : 0 < c) : dR n c k < c := Nat.mod_lt _ hc
theorem dP_le (n k : Nat) : dP n k ≤ n := Nat.div_le_self _ _
theorem dQ_le (n c k : Nat) : dQ n c k ≤ n := Nat.le_trans (Nat.div_le_self _ _) (dP_le n k)
theorem dQR (n c k : Nat) : c * dQ n c k + dR n c k = dP n k := Nat.div_add_mod _ _

theorem step_up (n c k : Nat) (hk : k < 128) (hc : 0 < c) (h : c ≤ dNext n c k) : dQ n c (k + 1) = dQ n c k + dQ n c k + 1 ∧ dR n c (k + 1) = dNext n c k - c := by
  have h1 := dP_succ n k hk
  have h2 := dQR n c k
  have h3 := dR_lt n c k hc
  have h4 := dBit_lt n k
  have e : dP n (k + 1) = (dNext n c k - c) + c * (dQ n c k + dQ n c k + 1) := by
    rw [h1, ← h2, Nat.mul_add, Nat.mul_add]
    unfold dNext at *
    omega
  have hl : dNext n c k - c < c := by unfold dNext at *; omega
  constructor
  · show dP n (k + 1) / c = _
    rw [e, Nat.add_mul_div_left _ _ hc, Nat.div_eq_of_lt hl, Nat.zero_add]
  · show dP n (k + 1) % c = _
    rw [e, Nat.add_mul_mod_self_left, Nat.mod_eq_of_lt hl]
theorem step_down (n c k : Nat) (hk : k < 128) (hc : 0 < c) (h : dNext n c k < c) : dQ n c (k + 1) = dQ n c k + dQ n c k ∧ dR n c (k + 1) = dNext n c k := by
  have h1 := dP_succ n k hk
  have h2 := dQR n c k
  have e : dP n (k + 1) = dNext n c k + c * (dQ n c k + dQ n c k) := by
    rw [h1, ← h2, Nat.mul_add]
    unfold dNext at *
    omega
  constructor
  · show dP n (k + 1) / c = _
    rw [e, Nat.add_mul_div_left _ _ hc, Nat.div_eq_of_lt h, Nat.zero_add]
  · show dP n (k + 1) % c = _
    rw [e, Nat.add_mul_mod_self_left, Nat.mod_eq_of_lt h]
theorem dQ_dbl (n c k : Nat) (hk : k < 128) (hc : 0 < c) (hn : n < 340282366920938463463374607431768211456) : dQ n c k + dQ n c k + 1 < 340282366920938463463374607431768211457 := by
  have h1 := dQ_le n c (k + 1)
  by_cases h : c ≤ dNext n c k
  · have := (step_up n c k hk hc h).1; omega
  · have := (step_down n c k hk hc (by omega)).1; omega

/-- The bit of round k, off the two words. -/
theorem bit_of_hi (hi lo k : Nat) (hl : lo < 18446744073709551616) (hk : k < 64) : dBit (hi * 18446744073709551616 + lo) k = hi / 2 ^ (63 - k) % 2 := by
  unfold dBit
  have e : 127 - k = 64 + (63 - k) := by omega
  rw [e, Nat.pow_add, ← Nat.div_div_eq_div_mul]
  have e2 : (hi * 18446744073709551616 + lo) / 2 ^ 64 = hi := by omega
  rw [e2]
theorem bit_of_lo (hi lo k : Nat) (hk : 64 ≤ k) (hk2 : k < 128) : dBit (hi * 18446744073709551616 + lo) k = lo / 2 ^ (127 - k) % 2 := by
  unfold dBit
  have e : (18446744073709551616 : Nat) = 2 ^ (127 - k) * (2 ^ (k - 64) * 2) := by
    have : (18446744073709551616 : Nat) = 2 ^ 64 := by decide
    rw [this, ← Nat.pow_succ, ← Nat.pow_add]
    congr 1
    omega
  rw [e, show hi * (2 ^ (127 - k) * (2 ^ (k - 64) * 2)) + lo = lo + 2 ^ (127 - k) * (hi * 2 ^ (k - 64) * 2) from by
    rw [Nat.add_comm, Nat.mul_comm hi, Nat.mul_assoc, Nat.mul_comm _ hi, ← Nat.mul_assoc hi], Nat.add_mul_div_left _ _ (Nat.two_pow_pos _), Nat.add_mul_mod_self_right]

theorem or_bit (x b : Nat) (hx : x < 9223372036854775808) (hb : b < 2) : bits .or .u64 ((x * 2 : Nat) : Int) (b : Int) = ((x * 2 + b : Nat) : Int) := by
  refine (bits_or_u64_nat (x * 2) b (by omega) (by omega)).trans ?_
  have h := Nat.two_pow_add_eq_or_of_lt (i := 1) (b := b) (by omega) x
  rw [show x * 2 = 2 ^ 1 * x from by omega, ← h]
theorem ofInt_i64 (a : Nat) (ha : a < 9223372036854775808) : (BitVec.ofInt 64 (a : Int)).toNat = a := by
  rw [BitVec.ofInt_natCast, BitVec.toNat_ofNat]; exact Nat.mod_eq_of_lt (by omega)
theorem i64_and_nat (a b : Nat) (ha : a < 9223372036854775808) (hb : b < 9223372036854775808) : bits .and .i64 (a : Int) (b : Int) = ((a &&& b : Nat) : Int) := by
  have hx : a &&& b < 2 ^ 63 := Nat.and_lt_two_pow _ (by omega)
  show IntKind.i64.wrap ((BitVec.ofInt 64 (a : Int) &&& BitVec.ofInt 64 (b : Int)).toNat : Int) = _
  rw [BitVec.toNat_and, ofInt_i64 a ha, ofInt_i64 b hb, IntKind.wrap_i64]
  omega
theorem low_six (k : Nat) (hk : k < 128) : bits .and .i64 (127 - (k : Int)) 63 = (((127 - k) % 64 : Nat) : Int) := by
  have e : (127 - (k : Int)) = ((127 - k : Nat) : Int) := by omega
  rw [e]
  refine (i64_and_nat (127 - k) 63 (by omega) (by omega)).trans ?_
  rw [show (63 : Nat) = 2 ^ 6 - 1 from rfl, Nat.and_two_pow_sub_one_eq_mod]
theorem low_six_hi (k : Nat) (hk : k < 64) : bits .and .i64 (127 - (k : Int)) 63 = 63 - (k : Int) := by
  rw [low_six k (by omega)]; omega
theorem low_six_lo (k : Nat) (hk : 64 ≤ k) (hk2 : k < 128) : bits .and .i64 (127 - (k : Int)) 63 = 127 - (k : Int) := by
  rw [low_six k (by omega)]; omega
theorem bit_val (x j : Nat) (hx : x < 18446744073709551616) : bits .and .u64 ((x : Int) / 2 ^ j) 1 = ((x / 2 ^ j % 2 : Nat) : Int) := by
  have e : ((x : Int) / 2 ^ j) = ((x / 2 ^ j : Nat) : Int) := by simp
  have h := Nat.div_le_self x (2 ^ j)
  rw [e]
  refine (bits_and_u64_nat (x / 2 ^ j) 1 (by omega) (by omega)).trans ?_
  rw [Nat.and_one_is_mod]
/-- The same without its topmost bit. -/
def dNextA (n c k : Nat) : Nat := dNext n c k - 18446744073709551616
theorem or_next (n c k : Nat) (h : dR n c k < 9223372036854775808) : bits .or .u64 ((dR n c k : Int) * 2) (dBit n k : Int) = (dNext n c k : Int) := by
  have h1 := or_bit (dR n c k) (dBit n k) h (dBit_lt n k)
  have e : ((dR n c k : Int) * 2) = ((dR n c k * 2 : Nat) : Int) := by omega
  rw [e, h1]
  unfold dNext
  omega
theorem or_nextA (n c k : Nat) (h : 9223372036854775808 ≤ dR n c k) (h2 : dR n c k < 18446744073709551616) : bits .or .u64 (IntKind.u64.wrap ((dR n c k : Int) * 2)) (dBit n k : Int) = (dNextA n c k : Int) := by
  have h1 := or_bit (dR n c k - 9223372036854775808) (dBit n k) (by omega) (dBit_lt n k)
  have e : IntKind.u64.wrap ((dR n c k : Int) * 2) = (((dR n c k - 9223372036854775808) * 2 : Nat) : Int) := by rw [IntKind.wrap_u64]; omega
  rw [e, h1]
  unfold dNextA dNext
  omega
end Go.Proofs.Ytjjidbnjkhdkaaa
