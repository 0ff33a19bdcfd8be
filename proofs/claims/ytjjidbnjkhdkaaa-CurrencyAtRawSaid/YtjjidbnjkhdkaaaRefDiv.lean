/- What DivMod of the reference of the package exact returns, for every input: quotient and remainder, found bit by bit. Condition: the divisor is not 0. -/
import Derived.Test.YtjjidbnjkhdkaaaRefMul
import Derived.Test.YtjjidbnjkhdkaaaDivArith
namespace Go.Proofs.Ytjjidbnjkhdkaaa
open Go.RowKit

/-- An even number with 1 behind it. -/
theorem or_one (q : Nat) : bits .or .u64 (wLo (q + q) : Int) 1 = (wLo (q + q + 1) : Int) := by
  have h := or_bit (wLo (q + q) / 2) 1 (by unfold wLo; omega) (by omega)
  have e : (wLo (q + q) / 2 * 2) = wLo (q + q) := by unfold wLo; omega
  rw [e] at h
  refine h.trans ?_
  unfold wLo
  omega
theorem wHi_one (q : Nat) : wHi (q + q + 1) = wHi (q + q) := by unfold wHi; omega

set_option maxHeartbeats 1000000 in
theorem refDivMod_any (hi lo c : Nat) (h1 : hi < 18446744073709551616) (h2 : lo < 18446744073709551616) (h3 : c < 18446744073709551616) (hc0 : 0 < c) (n : Nat) (hn : n = hi * 18446744073709551616 + lo) (w : World) :
    Calls Try.prog 47 #[.agg #[.int .u64 hi, .int .u64 lo], .int .u64 c] w fun e w' =>
      e = .returned (.tuple #[.agg #[.int .u64 (wHi (n / c)), .int .u64 (wLo (n / c))], .int .u64 ((n % c : Nat) : Int)]) ∧ Below w.heap.size w w' := by
  have hn2 : n < 340282366920938463463374607431768211456 := by omega
  have HN := Lib.hid hn
  clear hn
  go_enter Try.func47, Try.ntmps47
  go_wp2
  go_loopw [7, 8] (fun r i wr => ∃ k : Nat, k ≤ 128 ∧ i = .int .i64 (127 - (k : Int)) ∧ r = .int .u64 (dR n c k) ∧ TwoCells wr w.heap.size hi lo ∧ TwoCells wr (w.heap.size + 1) 0 0 ∧ TwoCells wr (w.heap.size + 2) (wHi (dQ n c k)) (wLo (dQ n c k)) ∧ Below w.heap.size w wr ∧ w.heap.size + 3 ≤ wr.heap.size)
    (fun _ i _ => (intOf i + 1).toNat)
  case atStart =>
    have z : dP n 0 = 0 := dP_zero n hn2
    refine ⟨0, by omega, by simp, by simp [dR, z], ?_, ?_, ?_, ?_, ?_⟩
    · unfold TwoCells
      simp [go_sem]
    · unfold TwoCells
      simp [go_sem]
    · unfold TwoCells
      simp [go_sem, dQ, z, wHi, wLo]
    · repeat (first | exact Below.refl _ _ | (refine Below.alloc ?_ (by first | omega | (simp; done) | (simp; omega)) _))
    · simp
  case round =>
    obtain ⟨k, hk, rfl, rfl, t0, t1, t2, hB, hz⟩ := hrel
    obtain ⟨⟨c0, c1⟩, f0, f1⟩ := id t0
    obtain ⟨⟨c2, c3⟩, f2, f3⟩ := id t1
    obtain ⟨⟨c4, c5⟩, f4, f5⟩ := id t2
    by_cases hlt : k < 128
    · have hr := dR_lt n c k hc0
      by_cases h64 : k < 64
      · have hm := low_six_hi k h64
        have hv : bits .and .u64 ((hi : Int) / 2 ^ (127 - k - 64)) 1 = (dBit n k : Int) := by
          rw [HN.out, bit_of_hi hi lo k h2 h64, show 127 - k - 64 = 63 - k from by omega]
          exact bit_val hi (63 - k) h1
        have hd : dQ n c k + dQ n c k < 340282366920938463463374607431768211456 := by have := dQ_dbl n c k hlt hc0 hn2; omega
        have hlb := dBit_lt n k
        rcases Nat.lt_or_ge (dR n c k) 9223372036854775808 with hT | hT
        · have ho := or_next n c k hT
          have hF : ((dR n c k : Int) / 9223372036854775808 == 1) = false := by rw [beq_eq_false_iff_ne]; omega
          rcases Nat.lt_or_ge (dNext n c k) c with hN | hN
          · have sq := Lib.hid (step_down n c k hlt hc0 hN)
            go_wp2_with fail
            refine (refAdd_num _ _ hd _).mono ?_
            rintro e w1 ⟨rfl, hb1⟩
            have hz1 := hb1.size
            have t3 := t0.keep hb1 (by omega)
            have t4 := t1.keep hb1 (by omega)
            have t5 := t2.keep hb1 (by omega)
            obtain ⟨⟨c6, c7⟩, f6, f7⟩ := id t3
            obtain ⟨⟨c8, c9⟩, f8, f9⟩ := id t4
            obtain ⟨⟨c10, c11⟩, f10, f11⟩ := id t5
            go_wp2_with fail
            go_roundw
            case rel =>
              refine ⟨k + 1, by omega, int_eq (by omega), by rw [sq.out.2], (t3.other (by omega)).other (by omega), (t4.other (by omega)).other (by omega), ?_, ?_, ?_⟩
              · rw [sq.out.1]
                exact t5.set _ _
              · repeat (first | exact Below.refl _ _ | (refine Below.setCell ?_ (by first | omega | (simp; done) | (simp; omega)) _) | (refine below_drewN ?_ _) | (refine Below.alloc ?_ (by first | omega | (simp; done) | (simp; omega)) _) | exact hB | (refine Below.trans ?_ (Below.mono (by assumption) (by first | omega | (simp; done) | (simp; omega)))))
              · simp [World.setCell]; omega
            case measure => simp [intOf]; omega
          · have sq := Lib.hid (step_up n c k hlt hc0 hN)
            go_wp2_with fail
            refine (refAdd_num _ _ hd _).mono ?_
            rintro e w1 ⟨rfl, hb1⟩
            have hz1 := hb1.size
            have t3 := t0.keep hb1 (by omega)
            have t4 := t1.keep hb1 (by omega)
            have t5 := t2.keep hb1 (by omega)
            obtain ⟨⟨c6, c7⟩, f6, f7⟩ := id t3
            obtain ⟨⟨c8, c9⟩, f8, f9⟩ := id t4
            obtain ⟨⟨c10, c11⟩, f10, f11⟩ := id t5
            go_wp2_with fail
            go_roundw
            case rel =>
              refine ⟨k + 1, by omega, int_eq (by omega), ?_, ((t3.other (by omega)).other (by omega)).other (by omega), ((t4.other (by omega)).other (by omega)).other (by omega), ?_, ?_, ?_⟩
              · rw [sq.out.2]; refine int_eq ?_; (try rw [IntKind.wrap_u64]); unfold dNext at *; omega
              · rw [sq.out.1, wHi_one, ← or_one]
                exact (t5.set _ _).set1 _
              · repeat (first | exact Below.refl _ _ | (refine Below.setCell ?_ (by first | omega | (simp; done) | (simp; omega)) _) | (refine below_drewN ?_ _) | (refine Below.alloc ?_ (by first | omega | (simp; done) | (simp; omega)) _) | exact hB | (refine Below.trans ?_ (Below.mono (by assumption) (by first | omega | (simp; done) | (simp; omega)))))
              · simp [World.setCell]; omega
            case measure => simp [intOf]; omega
        · have ho := or_nextA n c k hT (by omega)
          have hF : ((dR n c k : Int) / 9223372036854775808 == 1) = true := by rw [beq_iff_eq]; omega
          have hN : c ≤ dNext n c k := by unfold dNext; omega
          have sq := Lib.hid (step_up n c k hlt hc0 hN)
          go_wp2_with fail
          refine (refAdd_num _ _ hd _).mono ?_
          rintro e w1 ⟨rfl, hb1⟩
          have hz1 := hb1.size
          have t3 := t0.keep hb1 (by omega)
          have t4 := t1.keep hb1 (by omega)
          have t5 := t2.keep hb1 (by omega)
          obtain ⟨⟨c6, c7⟩, f6, f7⟩ := id t3
          obtain ⟨⟨c8, c9⟩, f8, f9⟩ := id t4
          obtain ⟨⟨c10, c11⟩, f10, f11⟩ := id t5
          go_wp2_with fail
          go_roundw
          case rel =>
            refine ⟨k + 1, by omega, int_eq (by omega), ?_, ((t3.other (by omega)).other (by omega)).other (by omega), ((t4.other (by omega)).other (by omega)).other (by omega), ?_, ?_, ?_⟩
            · rw [sq.out.2]; refine int_eq ?_; rw [IntKind.wrap_u64]; unfold dNextA; unfold dNext at *; omega
            · rw [sq.out.1, wHi_one, ← or_one]
              exact (t5.set _ _).set1 _
            · repeat (first | exact Below.refl _ _ | (refine Below.setCell ?_ (by first | omega | (simp; done) | (simp; omega)) _) | (refine below_drewN ?_ _) | (refine Below.alloc ?_ (by first | omega | (simp; done) | (simp; omega)) _) | exact hB | (refine Below.trans ?_ (Below.mono (by assumption) (by first | omega | (simp; done) | (simp; omega)))))
            · simp [World.setCell]; omega
          case measure => simp [intOf]; omega
      · have h64' : 64 ≤ k := by omega
        have hm := low_six_lo k h64' hlt
        have hv : bits .and .u64 ((lo : Int) / 2 ^ (127 - k)) 1 = (dBit n k : Int) := by
          rw [HN.out, bit_of_lo hi lo k h64' hlt]
          exact bit_val lo (127 - k) h2
        have hd : dQ n c k + dQ n c k < 340282366920938463463374607431768211456 := by have := dQ_dbl n c k hlt hc0 hn2; omega
        have hlb := dBit_lt n k
        rcases Nat.lt_or_ge (dR n c k) 9223372036854775808 with hT | hT
        · have ho := or_next n c k hT
          have hF : ((dR n c k : Int) / 9223372036854775808 == 1) = false := by rw [beq_eq_false_iff_ne]; omega
          rcases Nat.lt_or_ge (dNext n c k) c with hN | hN
          · have sq := Lib.hid (step_down n c k hlt hc0 hN)
            go_wp2_with fail
            refine (refAdd_num _ _ hd _).mono ?_
            rintro e w1 ⟨rfl, hb1⟩
            have hz1 := hb1.size
            have t3 := t0.keep hb1 (by omega)
            have t4 := t1.keep hb1 (by omega)
            have t5 := t2.keep hb1 (by omega)
            obtain ⟨⟨c6, c7⟩, f6, f7⟩ := id t3
            obtain ⟨⟨c8, c9⟩, f8, f9⟩ := id t4
            obtain ⟨⟨c10, c11⟩, f10, f11⟩ := id t5
            go_wp2_with fail
            go_roundw
            case rel =>
              refine ⟨k + 1, by omega, int_eq (by omega), by rw [sq.out.2], (t3.other (by omega)).other (by omega), (t4.other (by omega)).other (by omega), ?_, ?_, ?_⟩
              · rw [sq.out.1]
                exact t5.set _ _
              · repeat (first | exact Below.refl _ _ | (refine Below.setCell ?_ (by first | omega | (simp; done) | (simp; omega)) _) | (refine below_drewN ?_ _) | (refine Below.alloc ?_ (by first | omega | (simp; done) | (simp; omega)) _) | exact hB | (refine Below.trans ?_ (Below.mono (by assumption) (by first | omega | (simp; done) | (simp; omega)))))
              · simp [World.setCell]; omega
            case measure => simp [intOf]; omega
          · have sq := Lib.hid (step_up n c k hlt hc0 hN)
            go_wp2_with fail
            refine (refAdd_num _ _ hd _).mono ?_
            rintro e w1 ⟨rfl, hb1⟩
            have hz1 := hb1.size
            have t3 := t0.keep hb1 (by omega)
            have t4 := t1.keep hb1 (by omega)
            have t5 := t2.keep hb1 (by omega)
            obtain ⟨⟨c6, c7⟩, f6, f7⟩ := id t3
            obtain ⟨⟨c8, c9⟩, f8, f9⟩ := id t4
            obtain ⟨⟨c10, c11⟩, f10, f11⟩ := id t5
            go_wp2_with fail
            go_roundw
            case rel =>
              refine ⟨k + 1, by omega, int_eq (by omega), ?_, ((t3.other (by omega)).other (by omega)).other (by omega), ((t4.other (by omega)).other (by omega)).other (by omega), ?_, ?_, ?_⟩
              · rw [sq.out.2]; refine int_eq ?_; (try rw [IntKind.wrap_u64]); unfold dNext at *; omega
              · rw [sq.out.1, wHi_one, ← or_one]
                exact (t5.set _ _).set1 _
              · repeat (first | exact Below.refl _ _ | (refine Below.setCell ?_ (by first | omega | (simp; done) | (simp; omega)) _) | (refine below_drewN ?_ _) | (refine Below.alloc ?_ (by first | omega | (simp; done) | (simp; omega)) _) | exact hB | (refine Below.trans ?_ (Below.mono (by assumption) (by first | omega | (simp; done) | (simp; omega)))))
              · simp [World.setCell]; omega
            case measure => simp [intOf]; omega
        · have ho := or_nextA n c k hT (by omega)
          have hF : ((dR n c k : Int) / 9223372036854775808 == 1) = true := by rw [beq_iff_eq]; omega
          have hN : c ≤ dNext n c k := by unfold dNext; omega
          have sq := Lib.hid (step_up n c k hlt hc0 hN)
          go_wp2_with fail
          refine (refAdd_num _ _ hd _).mono ?_
          rintro e w1 ⟨rfl, hb1⟩
          have hz1 := hb1.size
          have t3 := t0.keep hb1 (by omega)
          have t4 := t1.keep hb1 (by omega)
          have t5 := t2.keep hb1 (by omega)
          obtain ⟨⟨c6, c7⟩, f6, f7⟩ := id t3
          obtain ⟨⟨c8, c9⟩, f8, f9⟩ := id t4
          obtain ⟨⟨c10, c11⟩, f10, f11⟩ := id t5
          go_wp2_with fail
          go_roundw
          case rel =>
            refine ⟨k + 1, by omega, int_eq (by omega), ?_, ((t3.other (by omega)).other (by omega)).other (by omega), ((t4.other (by omega)).other (by omega)).other (by omega), ?_, ?_, ?_⟩
            · rw [sq.out.2]; refine int_eq ?_; rw [IntKind.wrap_u64]; unfold dNextA; unfold dNext at *; omega
            · rw [sq.out.1, wHi_one, ← or_one]
              exact (t5.set _ _).set1 _
            · repeat (first | exact Below.refl _ _ | (refine Below.setCell ?_ (by first | omega | (simp; done) | (simp; omega)) _) | (refine below_drewN ?_ _) | (refine Below.alloc ?_ (by first | omega | (simp; done) | (simp; omega)) _) | exact hB | (refine Below.trans ?_ (Below.mono (by assumption) (by first | omega | (simp; done) | (simp; omega)))))
            · simp [World.setCell]; omega
          case measure => simp [intOf]; omega
    · have hge : 128 ≤ k := by omega
      go_wp2_with fail
      have e128 : k = 128 := by omega
      simp [bodyPost, results, Try.results47, go_sem, c2, c3]
      refine ⟨⟨⟨?_, ?_⟩, ?_⟩, by repeat (first | exact hB | (refine Below.setCell ?_ (by first | omega | (simp; done) | (simp; omega)) _))⟩
      · rw [e128, dQ, dP_end]
      · rw [e128, dQ, dP_end]
      · rw [e128, dR, dP_end]; simp
end Go.Proofs.Ytjjidbnjkhdkaaa
