/- Plain facts on dividing a number of two words digit by digit (two digits of 32 bits), as the library's Div64 does. No condition. -/
import Derived.Test.YtjjidbnjkhdkaaaBase
import Derived.Lib.ItoaNum
import Derived.Laws.BitsAllLaws
namespace Go.Proofs.Ytjjidbnjkhdkaaa
open Go.RowKit

/-- What holds of a guessed digit q and what it leaves of u: y = the divisor, d = the digit that follows. -/
def Guess (u d y q r : Nat) : Prop := q * (y / 4294967296) + r = u ∧ (u * 4294967296 + d) / y ≤ q

theorem guess_start (u d y : Nat) (hy : 9223372036854775808 ≤ y) (hd : d < 4294967296) : Guess u d y (u / (y / 4294967296)) (u - u / (y / 4294967296) * (y / 4294967296)) := by
  have h1 : u / (y / 4294967296) * (y / 4294967296) ≤ u := Nat.div_mul_le_self _ _
  have hp : 0 < y / 4294967296 := by omega
  refine ⟨by omega, ?_⟩
  have e1 : (u * 4294967296 + d) / (y / 4294967296 * 4294967296) = u / (y / 4294967296) := by
    rw [Nat.mul_comm (y / 4294967296), ← Nat.div_div_eq_div_mul]
    congr 1
    omega
  rw [← e1]
  exact Nat.div_le_div_left (Nat.div_mul_le_self _ _) (Nat.mul_pos hp (by omega))
theorem guess_rest (u y : Nat) (hy : 9223372036854775808 ≤ y) : u - u / (y / 4294967296) * (y / 4294967296) < y / 4294967296 := by
  have h := Nat.div_add_mod u (y / 4294967296)
  have hp : 0 < y / 4294967296 := by omega
  have h2 := Nat.mod_lt u hp
  rw [Nat.mul_comm] at h
  omega
theorem true_lt (u d y : Nat) (hu : u < y) (hd : d < 4294967296) : (u * 4294967296 + d) / y < 4294967296 := by
  apply Nat.div_lt_of_lt_mul
  have h : (u + 1) * 4294967296 ≤ y * 4294967296 := Nat.mul_le_mul_right _ hu
  omega
theorem past_digit (u d y q r : Nat) (h1 : q * (y / 4294967296) + r = u) (h : 4294967296 * r + d < q * (y % 4294967296)) : u * 4294967296 + d < q * y := by
  have e : q * y = q * (y / 4294967296) * 4294967296 + q * (y % 4294967296) := by
    rw [Nat.mul_assoc, ← Nat.mul_add, Nat.mul_comm (y / 4294967296), Nat.div_add_mod]
  rw [Nat.mul_comm u]
  omega
theorem guess_step (u d y q r : Nat) (hu : u < y) (hd : d < 4294967296) (hJ : Guess u d y q r) (hc : 4294967296 ≤ q ∨ 4294967296 * r + d < q * (y % 4294967296)) :
    1 ≤ q ∧ Guess u d y (q - 1) (r + y / 4294967296) := by
  obtain ⟨h1, h2⟩ := hJ
  have hq : 1 ≤ q := by
    rcases hc with h | h
    · omega
    · rcases Nat.eq_zero_or_pos q with e | e
      · rw [e] at h; omega
      · exact e
  refine ⟨hq, ?_, ?_⟩
  · obtain ⟨p, rfl⟩ : ∃ p, q = p + 1 := ⟨q - 1, by omega⟩
    rw [Nat.add_mul] at h1
    rw [Nat.add_sub_cancel]
    omega
  · have hlt : (u * 4294967296 + d) / y < q := by
      rcases hc with h | h
      · exact Nat.lt_of_lt_of_le (true_lt u d y hu hd) h
      · exact (Nat.div_lt_iff_lt_mul (Nat.lt_of_le_of_lt (Nat.zero_le u) hu)).2 (past_digit u d y q r h1 h)
    omega
theorem guess_exit (u d y q r : Nat) (hy : 0 < y) (hJ : Guess u d y q r) (hc : q * (y % 4294967296) ≤ 4294967296 * r + d) : q = (u * 4294967296 + d) / y := by
  obtain ⟨h1, h2⟩ := hJ
  refine Nat.le_antisymm ?_ h2
  rw [Nat.le_div_iff_mul_le hy]
  have e : q * y = q * (y / 4294967296) * 4294967296 + q * (y % 4294967296) := by
    rw [Nat.mul_assoc, ← Nat.mul_add, Nat.mul_comm (y / 4294967296), Nat.div_add_mod]
  rw [e]
  omega
theorem guess_break (u d y q r : Nat) (hu : u < y) (hJ : Guess u d y q r) (hr : 4294967296 ≤ r) : q = (u * 4294967296 + d) / y := by
  refine guess_exit u d y q r (by omega) hJ ?_
  obtain ⟨h1, h2⟩ := hJ
  have hq : q < 4294967296 := by
    rcases Nat.lt_or_ge q 4294967296 with h | h
    · exact h
    · have h3 : 4294967296 * (y / 4294967296) ≤ q * (y / 4294967296) := Nat.mul_le_mul_right _ h
      omega
  have h3 : q * (y % 4294967296) ≤ 4294967296 * 4294967296 := Nat.mul_le_mul (by omega) (by omega)
  omega
theorem guess_le (u d y q r : Nat) (hy : 9223372036854775808 ≤ y) (hu : u < 18446744073709551616) (hJ : Guess u d y q r) : q < 18446744073709551616 := by
  obtain ⟨h1, _⟩ := hJ
  have h2 : q * 1 ≤ q * (y / 4294967296) := Nat.mul_le_mul_left _ (by omega)
  omega

/-- Two digits make the whole quotient. -/
theorem two_digits (u d1 d0 y : Nat) (hy : 0 < y) :
    (u * 18446744073709551616 + (d1 * 4294967296 + d0)) / y = (u * 4294967296 + d1) / y * 4294967296 + ((u * 4294967296 + d1) % y * 4294967296 + d0) / y ∧
    (u * 18446744073709551616 + (d1 * 4294967296 + d0)) % y = ((u * 4294967296 + d1) % y * 4294967296 + d0) % y := by
  have e : u * 18446744073709551616 + (d1 * 4294967296 + d0) = ((u * 4294967296 + d1) % y * 4294967296 + d0) + y * ((u * 4294967296 + d1) / y * 4294967296) := by
    have h := Nat.div_add_mod (u * 4294967296 + d1) y
    rw [← Nat.mul_assoc]
    omega
  rw [e]
  refine ⟨?_, Nat.add_mul_mod_self_left _ _ _⟩
  rw [Nat.add_mul_div_left _ _ hy]
  omega

/-- How many zeros lead y. -/
def lz (y : Nat) : Nat := 64 - Lib.bitLen y
theorem lz_bounds (y : Nat) (h0 : 0 < y) (hy : y < 18446744073709551616) : lz y ≤ 63 ∧ 9223372036854775808 ≤ y * 2 ^ lz y ∧ y * 2 ^ lz y < 18446744073709551616 := by
  obtain ⟨a, b, c⟩ := Lib.bitLenAux_bounds 64 y hy (by omega)
  have d := Lib.bitLenAux_le 64 y 64 hy
  change 1 ≤ Lib.bitLen y at a
  change 2 ^ (Lib.bitLen y - 1) ≤ y at b
  change y < 2 ^ Lib.bitLen y at c
  change Lib.bitLen y ≤ 64 at d
  unfold lz
  refine ⟨by omega, ?_, ?_⟩
  · have e : (9223372036854775808 : Nat) = 2 ^ (Lib.bitLen y - 1) * 2 ^ (64 - Lib.bitLen y) := by
      rw [← Nat.pow_add, show Lib.bitLen y - 1 + (64 - Lib.bitLen y) = 63 from by omega]
    rw [e]
    exact Nat.mul_le_mul_right _ b
  · have e : (18446744073709551616 : Nat) = 2 ^ Lib.bitLen y * 2 ^ (64 - Lib.bitLen y) := by
      rw [← Nat.pow_add, show Lib.bitLen y + (64 - Lib.bitLen y) = 64 from by omega]
    rw [e]
    exact Nat.mul_lt_mul_of_pos_right c (Nat.two_pow_pos _)

/-- The shifted dividend's three parts, of a dividend (hi, lo) shifted by s. -/
def uTop (hi lo s : Nat) : Nat := hi * 2 ^ s + lo / 2 ^ (64 - s)
def uLow (lo s : Nat) : Nat := lo * 2 ^ s % 18446744073709551616
theorem shifted (hi lo s : Nat) (hs : s ≤ 63) : uTop hi lo s * 18446744073709551616 + uLow lo s = (hi * 18446744073709551616 + lo) * 2 ^ s := by
  unfold uTop uLow
  have e : lo / 2 ^ (64 - s) = lo * 2 ^ s / 18446744073709551616 := by
    have e1 : (18446744073709551616 : Nat) = 2 ^ (64 - s) * 2 ^ s := by
      rw [← Nat.pow_add, show 64 - s + s = 64 from by omega]
    rw [e1, Nat.mul_div_mul_right _ _ (Nat.two_pow_pos s)]
  rw [e, Nat.add_mul, Nat.add_mul, Nat.mul_assoc hi, Nat.mul_comm (2 ^ s) 18446744073709551616, ← Nat.mul_assoc hi]
  omega
theorem uTop_lt (hi lo y s : Nat) (hs : s ≤ 63) (hl : lo < 18446744073709551616) (h : hi < y) : uTop hi lo s < y * 2 ^ s := by
  have h1 := shifted hi lo s hs
  have h2 : (hi * 18446744073709551616 + lo) * 2 ^ s < (y * 18446744073709551616) * 2 ^ s := Nat.mul_lt_mul_of_pos_right (by omega) (Nat.two_pow_pos s)
  rw [Nat.mul_assoc, Nat.mul_comm 18446744073709551616, ← Nat.mul_assoc] at h2
  omega
theorem uLow_lt (lo s : Nat) : uLow lo s < 18446744073709551616 := by unfold uLow; omega
theorem low_part (lo s : Nat) (hs : s ≤ 63) (hl : lo < 18446744073709551616) : lo / 2 ^ (64 - s) < 2 ^ s := by
  apply Nat.div_lt_of_lt_mul
  rw [← Nat.pow_add, show 64 - s + s = 64 from by omega]
  exact hl
theorem or_top (hi lo s : Nat) (hs : s ≤ 63) (hl : lo < 18446744073709551616) (h : hi * 2 ^ s < 18446744073709551616) : bits .or .u64 ((hi * 2 ^ s : Nat) : Int) ((lo / 2 ^ (64 - s) : Nat) : Int) = (uTop hi lo s : Int) := by
  have hb := low_part lo s hs hl
  have h2 := Nat.div_le_self lo (2 ^ (64 - s))
  refine (bits_or_u64_nat _ _ h (by omega)).trans ?_
  have e := Nat.two_pow_add_eq_or_of_lt hb hi
  rw [Nat.mul_comm hi, ← e]
  unfold uTop
  rw [Nat.mul_comm hi]

/-- The quotient of the shifted numbers is the quotient; the remainder is the shifted remainder. -/
theorem quot_shift (n y s : Nat) : n * 2 ^ s / (y * 2 ^ s) = n / y := Nat.mul_div_mul_right _ _ (Nat.two_pow_pos s)
theorem rem_shift (n y s : Nat) : n * 2 ^ s % (y * 2 ^ s) / 2 ^ s = n % y := by
  rw [Nat.mul_mod_mul_right, Nat.mul_div_cancel _ (Nat.two_pow_pos s)]
end Go.Proofs.Ytjjidbnjkhdkaaa
