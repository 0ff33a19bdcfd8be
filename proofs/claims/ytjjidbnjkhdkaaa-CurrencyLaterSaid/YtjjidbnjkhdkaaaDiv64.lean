/- What the library's Div64 returns: quotient and remainder of a number of two words. Condition: the divisor is above the upper word. -/
import Derived.Test.YtjjidbnjkhdkaaaMul
import Derived.Test.YtjjidbnjkhdkaaaDigits
import Derived.Deep.QuietTactic
import Derived.BigQuiet
import Derived.Deep.DeepCutAuto
import Derived.Deep.CutBlock
namespace Go.Proofs.Ytjjidbnjkhdkaaa
open Go.RowKit

theorem lead_any (y : Nat) (h0 : 0 < y) (hy : y < 18446744073709551616) (w : World) :
    Calls Try.prog 52 #[.int .u64 y] w fun e w' => e = .returned (.int .i64 (lz y)) ∧ w = w' := by
  refine (Try.bits_LeadingZeros64 y w (by omega) (by omega)).mono fun _ _ h => ⟨?_, h.2.symm⟩
  rw [h.1]
  have d := Lib.bitLenAux_le 64 y 64 hy
  change Lib.bitLen y ≤ 64 at d
  have e : (64 - (Lib.bitLen (y : Int).toNat : Int)) = ((lz y : Nat) : Int) := by
    unfold lz
    simp only [Int.toNat_natCast]
    omega
  rw [e]

/-- Quotient and remainder, under names. -/
def qN (n y : Nat) : Nat := n / y
def rN (n y : Nat) : Nat := n % y

set_option maxHeartbeats 1000000 in
theorem div64_small (lo y : Nat) (h1 : 0 < y) (h2 : lo < 18446744073709551616) (h3 : y < 18446744073709551616) (w : World) :
    Calls Try.prog 49 #[.int .u64 0, .int .u64 lo, .int .u64 y] w fun e w' =>
      e = .returned (.tuple #[.int .u64 (qN lo y), .int .u64 (rN lo y)]) ∧ ∃ m, w' = w.drewN m := by
  have e1 : (lo : Int) / (y : Int) = (qN lo y : Int) := by unfold qN; simp
  have e2 : (lo : Int) % (y : Int) = (rN lo y : Int) := by unfold rN; simp
  have b1 : qN lo y < 18446744073709551616 := by have := Nat.div_le_self lo y; unfold qN; omega
  go_enter Try.func49, Try.ntmps49
  go_wp2
  go_quiet (fail)
  go_wp2
  go_ret2
  exact ⟨rfl, _, rfl⟩

theorem mask32 (a : Nat) (ha : a < 18446744073709551616) : bits .and .u64 (a : Int) 4294967295 = ((a % 4294967296 : Nat) : Int) := by
  have h := bits_and_u64_nat a 4294967295 ha (by omega)
  have e : a &&& 4294967295 = a % 4294967296 := Nat.and_two_pow_sub_one_eq_mod a 32
  rw [e] at h
  exact h

/-- What is left when a digit has been taken away, as the words have it. -/
theorem rest_word (u d t y r : Nat) (hr : r < 18446744073709551616) (h : t * y + r = 4294967296 * u + d) :
    IntKind.u64.wrap (IntKind.u64.wrap (IntKind.u64.wrap ((u : Int) * 4294967296) + (d : Int)) - IntKind.u64.wrap ((t : Int) * (y : Int))) = (r : Int) := by
  have e : (t : Int) * (y : Int) = ((t * y : Nat) : Int) := by simp
  rw [e]
  generalize t * y = m at *
  simp only [IntKind.wrap_u64]
  omega

set_option maxRecDepth 100000 in
set_option maxHeartbeats 2000000 in
theorem div64_great (hi lo y : Nat) (h0 : 0 < hi) (h1 : hi < y) (h2 : lo < 18446744073709551616) (h3 : y < 18446744073709551616) (w : World) :
    Calls Try.prog 49 #[.int .u64 hi, .int .u64 lo, .int .u64 y] w fun e w' =>
      e = .returned (.tuple #[.int .u64 (qN (hi * 18446744073709551616 + lo) y), .int .u64 (rN (hi * 18446744073709551616 + lo) y)]) ∧ ∃ m, w' = w.drewN m := by
  obtain ⟨hs, hY1, hY2⟩ := lz_bounds y (by omega) h3
  have hlead := fun w => lead_any y (by omega) h3 w
  generalize lz y = s at *
  have HL := Lib.hid hlead
  clear hlead
  have hH : hi * 2 ^ s < 18446744073709551616 := Nat.lt_of_le_of_lt (Nat.mul_le_mul_right _ (Nat.le_of_lt h1)) hY2
  have hU := uTop_lt hi lo y s hs h2 h1
  have hor := or_top hi lo s hs h2 hH
  have hsh := shifted hi lo s hs
  have hL := uLow_lt lo s
  have e1 : IntKind.u64.wrap ((y : Int) * 2 ^ s) = ((y * 2 ^ s : Nat) : Int) := by
    rw [IntKind.wrap_u64, show ((y : Int) * 2 ^ s) = ((y * 2 ^ s : Nat) : Int) from by simp]; omega
  have e2 : IntKind.u64.wrap ((hi : Int) * 2 ^ s) = ((hi * 2 ^ s : Nat) : Int) := by
    rw [IntKind.wrap_u64, show ((hi : Int) * 2 ^ s) = ((hi * 2 ^ s : Nat) : Int) from by simp]; omega
  have e3 : IntKind.u64.wrap ((lo : Int) * 2 ^ s) = (uLow lo s : Int) := by
    rw [IntKind.wrap_u64, show ((lo : Int) * 2 ^ s) = ((lo * 2 ^ s : Nat) : Int) from by simp]; unfold uLow; omega
  rw [show ((lo / 2 ^ (64 - s) : Nat) : Int) = (lo : Int) / 2 ^ (64 - s) from by simp] at hor
  have hq := quot_shift (hi * 18446744073709551616 + lo) y s
  have hr := rem_shift (hi * 18446744073709551616 + lo) y s
  rw [← hsh] at hq hr
  clear hsh
  generalize hi * 2 ^ s = H at *
  generalize uTop hi lo s = U at *
  generalize uLow lo s = L at *
  generalize y * 2 ^ s = Y at *
  have e4 := mask32 Y hY2
  have e5 := mask32 L hL
  have e6 : L = L / 4294967296 * 4294967296 + L % 4294967296 := by omega
  rw [e6] at hq hr
  have e7 : (Y : Int) / 4294967296 = ((Y / 4294967296 : Nat) : Int) := by omega
  have e8 : (L : Int) / 4294967296 = ((L / 4294967296 : Nat) : Int) := by omega
  have bd1 : L / 4294967296 < 4294967296 := by omega
  have bd0 : L % 4294967296 < 4294967296 := by omega
  have by0 : Y % 4294967296 < 4294967296 := by omega
  have by1 : Y / 4294967296 < 4294967296 := by omega
  have by2 : 2147483648 ≤ Y / 4294967296 := by omega
  have t1 := two_digits U (L / 4294967296) (L % 4294967296) Y (by omega)
  rw [t1.1] at hq
  rw [t1.2] at hr
  clear t1 e6
  have HQ := Lib.hid hq
  have HR := Lib.hid hr
  clear hq hr
  have g1 := guess_start U (L / 4294967296) Y hY1 bd1
  have g2 := guess_rest U Y hY1
  have g3 : U / (Y / 4294967296) * (Y / 4294967296) ≤ U := Nat.div_mul_le_self _ _
  have g4 : U / (Y / 4294967296) ≤ U := Nat.div_le_self _ _
  have g5 : Y = Y / 4294967296 * 4294967296 + Y % 4294967296 := by omega
  have HG1 := Lib.hid g1
  have HY := Lib.hid g5
  clear g1 g5
  generalize L / 4294967296 = d1 at *
  generalize L % 4294967296 = d0 at *
  obtain ⟨y1, hy1⟩ : ∃ y1, y1 = Y / 4294967296 := ⟨_, rfl⟩
  obtain ⟨y0, hy0⟩ : ∃ y0, y0 = Y % 4294967296 := ⟨_, rfl⟩
  rw [← hy1] at e7 by1 by2 g2 g3 g4 HG1 HY
  rw [← hy0] at e4 by0 HY
  have HY1 := Lib.hid hy1
  have HY0 := Lib.hid hy0
  clear hy1 hy0
  have e9 : (U : Int) / (y1 : Int) = ((U / y1 : Nat) : Int) := by simp
  have e10 : ((U / y1 : Nat) : Int) * (y1 : Int) = ((U / y1 * y1 : Nat) : Int) := by simp
  generalize U / y1 = q0 at *
  generalize q0 * y1 = m0 at *
  go_enter Try.func49, Try.ntmps49
  go_wp2_with fail
  refine (HL.out _).mono ?_
  rintro e w' ⟨rfl, rfl⟩
  have hT1 := true_lt U d1 Y hU bd1
  have hT1b : (U * 4294967296 + d1) / Y < 18446744073709551616 := by omega
  obtain ⟨T1, hT⟩ : ∃ T1, T1 = (U * 4294967296 + d1) / Y := ⟨_, rfl⟩
  rw [← hT] at hT1 hT1b HQ
  have HT := Lib.hid hT
  clear hT
  go_upto_block 0 with fail
  go_cut [15, 16] (fun q _ wx => q = .int .u64 T1 ∧ w = wx)
  case first =>
    go_wp2_with fail
    go_loop [15, 16] (fun q r => ∃ a b : Nat, q = .int .u64 a ∧ r = .int .u64 b ∧ Guess U d1 Y a b ∧ a < 18446744073709551616 ∧ b < 4294967296) (fun q _ => (intOf q).toNat)
    case atStart => exact ⟨q0, U - m0, rfl, int_eq (by omega), HG1.out, by omega, by omega⟩
    case round =>
      obtain ⟨a, b, rfl, rfl, hJ, ha, hb⟩ := hrel
      have st := guess_step U d1 Y a b hU bd1 hJ
      have ex := guess_exit U d1 Y a b (by omega) hJ
      rw [← HY0.out] at st ex
      rw [← HY1.out] at st
      clear e1 e2 e3 hor e7 e8 e4 e5 e9 e10 g2 g3 g4 hT1 hT1b
      by_cases hc1 : 4294967296 ≤ a
      · obtain ⟨s1, s2⟩ := st (.inl hc1)
        have hd1 : decide ((4294967296 : Int) ≤ (a : Int)) = true := decide_eq_true (by omega)
        clear hc1
        have br := Lib.hid (guess_break U d1 Y (a - 1) (b + y1) hU s2)
        clear st ex hJ
        by_cases hc3 : 4294967296 ≤ b + y1
        · have hd3 : decide ((4294967296 : Int) ≤ (b : Int) + (y1 : Int)) = true := decide_eq_true (by omega)
          have H3 := Lib.hid hc3
          clear hc3
          go_wp2_with fail
          go_meet
          exact ⟨int_eq (by have := br.out H3.out; have := HT.out; omega), rfl⟩
        · have hd3 : decide ((4294967296 : Int) ≤ (b : Int) + (y1 : Int)) = false := decide_eq_false (by omega)
          have H3 := Lib.hid hc3
          clear hc3
          have hs3 : b + y1 < 4294967296 := Nat.lt_of_not_ge H3.out
          go_wp2_with fail
          go_round
          case rel => exact ⟨a - 1, b + y1, int_eq (by omega), int_eq (by omega), s2, by omega, hs3⟩
          case measure => simp [intOf]; omega
      · have hd1 : decide ((4294967296 : Int) ≤ (a : Int)) = false := decide_eq_false (by omega)
        have hp : a * y0 < 18446744073709551616 := Nat.lt_of_lt_of_le (Nat.mul_lt_mul'' (Nat.lt_of_not_ge hc1) by0) (by decide)
        have e11 : (a : Int) * (y0 : Int) = ((a * y0 : Nat) : Int) := by simp
        clear hc1
        by_cases hc2 : 4294967296 * b + d1 < a * y0
        · obtain ⟨s1, s2⟩ := st (.inr hc2)
          generalize a * y0 = p0 at *
          have hd2 : decide (4294967296 * (b : Int) + (d1 : Int) < (p0 : Int)) = true := decide_eq_true (by omega)
          clear hc2
          have br := Lib.hid (guess_break U d1 Y (a - 1) (b + y1) hU s2)
          clear st ex hJ
          by_cases hc3 : 4294967296 ≤ b + y1
          · have hd3 : decide ((4294967296 : Int) ≤ (b : Int) + (y1 : Int)) = true := decide_eq_true (by omega)
            have H3 := Lib.hid hc3
            clear hc3
            go_wp2_with fail
            go_meet
            exact ⟨int_eq (by have := br.out H3.out; have := HT.out; omega), rfl⟩
          · have hd3 : decide ((4294967296 : Int) ≤ (b : Int) + (y1 : Int)) = false := decide_eq_false (by omega)
            have H3 := Lib.hid hc3
            clear hc3
            have hs3 : b + y1 < 4294967296 := Nat.lt_of_not_ge H3.out
            go_wp2_with fail
            go_round
            case rel => exact ⟨a - 1, b + y1, int_eq (by omega), int_eq (by omega), s2, by omega, hs3⟩
            case measure => simp [intOf]; omega
        · have eq := Lib.hid (ex (Nat.le_of_not_lt hc2))
          generalize a * y0 = p0 at *
          have hd2 : decide (4294967296 * (b : Int) + (d1 : Int) < (p0 : Int)) = false := decide_eq_false (by omega)
          clear hc2 st ex hJ
          go_wp2_with fail
          go_meet
          exact ⟨int_eq (by have := eq.out; have := HT.out; omega), rfl⟩
  case rest =>
    obtain ⟨rfl, rfl⟩ := hcut
    clear e1 e2 e3 hor e7 e8 e4 e5 e9 e10 g2 g3 g4 HG1
    have hu2 : (U * 4294967296 + d1) % Y < Y := Nat.mod_lt _ (by omega)
    have hdm := Nat.div_add_mod (U * 4294967296 + d1) Y
    rw [← HT.out, Nat.mul_comm Y, Nat.mul_comm U] at hdm
    rw [Nat.mul_comm U] at hu2 HQ HR
    generalize (4294967296 * U + d1) % Y = u2 at *
    have e17 := rest_word U d1 T1 Y u2 (by omega) hdm
    have hT0 := true_lt u2 d0 Y hu2 bd0
    have hdm2 := Nat.div_add_mod (u2 * 4294967296 + d0) Y
    have hr2 : (u2 * 4294967296 + d0) % Y < Y := Nat.mod_lt _ (by omega)
    obtain ⟨T0, hT⟩ : ∃ T0, T0 = (u2 * 4294967296 + d0) / Y := ⟨_, rfl⟩
    rw [← hT] at hT0 hdm2 HQ
    rw [Nat.mul_comm Y, Nat.mul_comm u2] at hdm2
    rw [Nat.mul_comm u2] at HR hr2
    generalize (4294967296 * u2 + d0) % Y = r2 at *
    have e27 := rest_word u2 d0 T0 Y r2 (by omega) hdm2
    have HT0 := Lib.hid hT
    clear hT hdm hdm2
    have g1 := guess_start u2 d0 Y hY1 bd0
    have g2 := guess_rest u2 Y hY1
    have g3 : u2 / (Y / 4294967296) * (Y / 4294967296) ≤ u2 := Nat.div_mul_le_self _ _
    have g4 : u2 / (Y / 4294967296) ≤ u2 := Nat.div_le_self _ _
    rw [← HY1.out] at g1 g2 g3 g4
    have e9 : (u2 : Int) / (y1 : Int) = ((u2 / y1 : Nat) : Int) := by simp
    have e10 : ((u2 / y1 : Nat) : Int) * (y1 : Int) = ((u2 / y1 * y1 : Nat) : Int) := by simp
    have HG2 := Lib.hid g1
    clear g1
    generalize u2 / y1 = q2 at *
    generalize q2 * y1 = m2 at *
    have e30 : (r2 : Int) / 2 ^ s = (rN (hi * 18446744073709551616 + lo) y : Int) := by
      unfold rN
      rw [← HR.out]
      simp
    go_upto_block 2 with fail
    go_cut [16, 18] (fun _ q wx => q = .int .u64 T0 ∧ w = wx)
    case first =>
      go_wp2_with fail
      go_loop [16, 18] (fun r q => ∃ a b : Nat, q = .int .u64 a ∧ r = .int .u64 b ∧ Guess u2 d0 Y a b ∧ a < 18446744073709551616 ∧ b < 4294967296) (fun _ q => (intOf q).toNat)
      case atStart => exact ⟨q2, u2 - m2, rfl, int_eq (by omega), HG2.out, by omega, by omega⟩
      case round =>
        obtain ⟨a, b, rfl, rfl, hJ, ha, hb⟩ := hrel
        have st := guess_step u2 d0 Y a b hu2 bd0 hJ
        have ex := guess_exit u2 d0 Y a b (by omega) hJ
        rw [← HY0.out] at st ex
        rw [← HY1.out] at st
        clear e17 e27 e9 e10 e30 g2 g3 g4 hT0 hT1 hT1b
        by_cases hc1 : 4294967296 ≤ a
        · obtain ⟨s1, s2⟩ := st (.inl hc1)
          have hd1 : decide ((4294967296 : Int) ≤ (a : Int)) = true := decide_eq_true (by omega)
          clear hc1
          have br := Lib.hid (guess_break u2 d0 Y (a - 1) (b + y1) hu2 s2)
          clear st ex hJ
          by_cases hc3 : 4294967296 ≤ b + y1
          · have hd3 : decide ((4294967296 : Int) ≤ (b : Int) + (y1 : Int)) = true := decide_eq_true (by omega)
            have H3 := Lib.hid hc3
            clear hc3
            go_wp2_with fail
            go_meet
            exact ⟨int_eq (by have := br.out H3.out; have := HT0.out; omega), rfl⟩
          · have hd3 : decide ((4294967296 : Int) ≤ (b : Int) + (y1 : Int)) = false := decide_eq_false (by omega)
            have H3 := Lib.hid hc3
            clear hc3
            have hs3 : b + y1 < 4294967296 := Nat.lt_of_not_ge H3.out
            go_wp2_with fail
            go_round
            case rel => exact ⟨a - 1, b + y1, int_eq (by omega), int_eq (by omega), s2, by omega, hs3⟩
            case measure => simp [intOf]; omega
        · have hd1 : decide ((4294967296 : Int) ≤ (a : Int)) = false := decide_eq_false (by omega)
          have hp : a * y0 < 18446744073709551616 := Nat.lt_of_lt_of_le (Nat.mul_lt_mul'' (Nat.lt_of_not_ge hc1) by0) (by decide)
          have e11 : (a : Int) * (y0 : Int) = ((a * y0 : Nat) : Int) := by simp
          clear hc1
          by_cases hc2 : 4294967296 * b + d0 < a * y0
          · obtain ⟨s1, s2⟩ := st (.inr hc2)
            generalize a * y0 = p0 at *
            have hd2 : decide (4294967296 * (b : Int) + (d0 : Int) < (p0 : Int)) = true := decide_eq_true (by omega)
            clear hc2
            have br := Lib.hid (guess_break u2 d0 Y (a - 1) (b + y1) hu2 s2)
            clear st ex hJ
            by_cases hc3 : 4294967296 ≤ b + y1
            · have hd3 : decide ((4294967296 : Int) ≤ (b : Int) + (y1 : Int)) = true := decide_eq_true (by omega)
              have H3 := Lib.hid hc3
              clear hc3
              go_wp2_with fail
              go_meet
              exact ⟨int_eq (by have := br.out H3.out; have := HT0.out; omega), rfl⟩
            · have hd3 : decide ((4294967296 : Int) ≤ (b : Int) + (y1 : Int)) = false := decide_eq_false (by omega)
              have H3 := Lib.hid hc3
              clear hc3
              have hs3 : b + y1 < 4294967296 := Nat.lt_of_not_ge H3.out
              go_wp2_with fail
              go_round
              case rel => exact ⟨a - 1, b + y1, int_eq (by omega), int_eq (by omega), s2, by omega, hs3⟩
              case measure => simp [intOf]; omega
          · have eq := Lib.hid (ex (Nat.le_of_not_lt hc2))
            generalize a * y0 = p0 at *
            have hd2 : decide (4294967296 * (b : Int) + (d0 : Int) < (p0 : Int)) = false := decide_eq_false (by omega)
            clear hc2 st ex hJ
            go_wp2_with fail
            go_meet
            exact ⟨int_eq (by have := eq.out; have := HT0.out; omega), rfl⟩
    case rest =>
      obtain ⟨rfl, rfl⟩ := hcut
      clear e17 e9 e10 g2 g3 g4 HG2
      have e31 : ((T1 : Int) * 4294967296 + (T0 : Int)) = (qN (hi * 18446744073709551616 + lo) y : Int) := by
        unfold qN
        have := HQ.out
        omega
      go_wp2_with fail
      go_ret2
      exact ⟨rfl, 0, rfl⟩

theorem div64_any (hi lo y : Nat) (h1 : hi < y) (h2 : lo < 18446744073709551616) (h3 : y < 18446744073709551616) (w : World) :
    Calls Try.prog 49 #[.int .u64 hi, .int .u64 lo, .int .u64 y] w fun e w' =>
      e = .returned (.tuple #[.int .u64 (qN (hi * 18446744073709551616 + lo) y), .int .u64 (rN (hi * 18446744073709551616 + lo) y)]) ∧ ∃ m, w' = w.drewN m := by
  rcases Nat.eq_zero_or_pos hi with h | h
  · subst h
    have h0 := div64_small lo y h1 h2 h3 w
    simp only [Nat.zero_mul, Nat.zero_add]
    exact h0
  · exact div64_great hi lo y h h1 h2 h3 w

end Go.Proofs.Ytjjidbnjkhdkaaa
