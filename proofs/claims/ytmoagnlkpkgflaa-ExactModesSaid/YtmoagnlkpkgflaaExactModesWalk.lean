/- The law ExactModes, walked: it returns true at every input. No condition. -/
import Derived.Test.YtmoagnlkpkgflaaCompare
import Derived.Test.YtmoagnlkpkgflaaAwake
namespace Go.Proofs.Ytmoagnlkpkgflaa
open Go.RowKit

theorem err_or (a b c : Nat) (m : Int) (hc : 0 < c) (h0 : 0 ≤ m) (h3 : m ≤ 3) : mdE a b c m = 3 ∧ 18446744073709551616 ≤ divUp (a * b) c m ∨ mdE a b c m = 0 ∧ divUp (a * b) c m < 18446744073709551616 ∧ mdV a b c m = divUp (a * b) c m := by
  have hg : ¬ (c = 0 ∨ m < 0 ∨ 3 < m) := by omega
  rcases Nat.lt_or_ge (divUp (a * b) c m) 18446744073709551616 with h | h
  · exact .inr ⟨(div_fits _ _ _ hg h).2, h, (div_fits _ _ _ hg h).1⟩
  · exact .inl ⟨(div_big _ _ _ hg h).2, h⟩

theorem and_one (x : Nat) (hx : x < 18446744073709551616) : bits .and .u64 (x : Int) 1 = ((x % 2 : Nat) : Int) := by
  refine (bits_and_u64_nat x 1 hx (by omega)).trans ?_
  rw [Nat.and_one_is_mod]
/-- The four rounding modes, where Up has a quotient. -/
theorem modes (a b c : Nat) (hc : 0 < c) (h1 : mdE a b c 1 = 0) :
    mdE a b c 2 = 0 ∧ mdE a b c 3 = 0 ∧ ∃ q r : Nat, mmN a b c = r ∧ r < c ∧ q < 18446744073709551616 ∧ mdV a b c 0 = q ∧
      ((r = 0 ∧ mdV a b c 1 = q ∧ mdV a b c 2 = q ∧ mdV a b c 3 = q) ∨ (0 < r ∧ r + r < c ∧ mdV a b c 1 = q + 1 ∧ mdV a b c 2 = q ∧ mdV a b c 3 = q ∧ q + 1 < 18446744073709551616) ∨
       (0 < r ∧ r + r = c ∧ mdV a b c 1 = q + 1 ∧ mdV a b c 2 = q + 1 ∧ (mdV a b c 3 = q ∧ q % 2 = 0 ∨ mdV a b c 3 = q + 1 ∧ q % 2 = 1) ∧ q + 1 < 18446744073709551616) ∨
       (0 < r ∧ c < r + r ∧ mdV a b c 1 = q + 1 ∧ mdV a b c 2 = q + 1 ∧ mdV a b c 3 = q + 1 ∧ q + 1 < 18446744073709551616)) := by
  have e0 := err_or a b c 0 hc (by omega) (by omega)
  have e1 := err_or a b c 1 hc (by omega) (by omega)
  have e2 := err_or a b c 2 hc (by omega) (by omega)
  have e3 := err_or a b c 3 hc (by omega) (by omega)
  have hr := Nat.mod_lt (a * b) hc
  have u0 : divUp (a * b) c 0 = a * b / c := rfl
  have u1 : divUp (a * b) c 1 = a * b / c + if decide (0 < a * b % c) = true then 1 else 0 := rfl
  have u2 : divUp (a * b) c 2 = a * b / c + if decide (c ≤ a * b % c + a * b % c) = true then 1 else 0 := rfl
  have u3 : divUp (a * b) c 3 = a * b / c + if (decide (c < a * b % c + a * b % c) || (decide (a * b % c + a * b % c = c) && decide (a * b / c % 2 = 1))) = true then 1 else 0 := rfl
  have hM : mmN a b c = a * b % c := if_neg (by omega)
  rw [hM]
  rw [u0] at e0
  rw [u1] at e1
  rw [u2] at e2
  rw [u3] at e3
  clear u0 u1 u2 u3 hM
  generalize a * b / c = q at *
  generalize a * b % c = r at *
  generalize mdV a b c 0 = v0 at *
  generalize mdV a b c 1 = v1 at *
  generalize mdV a b c 2 = v2 at *
  generalize mdV a b c 3 = v3 at *
  generalize mdE a b c 0 = x0 at *
  generalize mdE a b c 1 = x1 at *
  generalize mdE a b c 2 = x2 at *
  generalize mdE a b c 3 = x3 at *
  rcases Nat.eq_zero_or_pos r with z | z
  · have d1 : decide (0 < r) = false := decide_eq_false (by omega)
    have d2 : decide (c ≤ r + r) = false := decide_eq_false (by omega)
    have d3 : decide (c < r + r) = false := decide_eq_false (by omega)
    have d4 : decide (r + r = c) = false := decide_eq_false (by omega)
    rw [d1] at e1
    rw [d2] at e2
    rw [d3, d4] at e3
    simp at e1 e2 e3
    exact ⟨by omega, by omega, q, r, rfl, hr, by omega, by omega, .inl ⟨by omega, by omega, by omega, by omega⟩⟩
  · have d1 : decide (0 < r) = true := decide_eq_true z
    rw [d1] at e1
    rcases Nat.lt_trichotomy (r + r) c with h | h | h
    · have d2 : decide (c ≤ r + r) = false := decide_eq_false (by omega)
      have d3 : decide (c < r + r) = false := decide_eq_false (by omega)
      have d4 : decide (r + r = c) = false := decide_eq_false (by omega)
      rw [d2] at e2
      rw [d3, d4] at e3
      simp at e1 e2 e3
      exact ⟨by omega, by omega, q, r, rfl, hr, by omega, by omega, .inr (.inl ⟨z, h, by omega, by omega, by omega, by omega⟩)⟩
    · have d2 : decide (c ≤ r + r) = true := decide_eq_true (by omega)
      have d3 : decide (c < r + r) = false := decide_eq_false (by omega)
      have d4 : decide (r + r = c) = true := decide_eq_true h
      rw [d2] at e2
      rw [d3, d4] at e3
      rcases Nat.mod_two_eq_zero_or_one q with o | o
      · rw [o] at e3
        simp at e1 e2 e3
        exact ⟨by omega, by omega, q, r, rfl, hr, by omega, by omega, .inr (.inr (.inl ⟨z, h, by omega, by omega, .inl ⟨by omega, o⟩, by omega⟩))⟩
      · rw [o] at e3
        simp at e1 e2 e3
        exact ⟨by omega, by omega, q, r, rfl, hr, by omega, by omega, .inr (.inr (.inl ⟨z, h, by omega, by omega, .inr ⟨by omega, o⟩, by omega⟩))⟩
    · have d2 : decide (c ≤ r + r) = true := decide_eq_true (by omega)
      have d3 : decide (c < r + r) = true := decide_eq_true (by omega)
      rw [d2] at e2
      rw [d3] at e3
      simp at e1 e2 e3
      exact ⟨by omega, by omega, q, r, rfl, hr, by omega, by omega, .inr (.inr (.inr ⟨z, h, by omega, by omega, by omega, by omega⟩))⟩

set_option maxRecDepth 100000 in
set_option maxHeartbeats 1000000 in
theorem exactModes_walk (a b c : Nat) (h1 : a < 18446744073709551616) (h2 : b < 18446744073709551616) (h3 : c < 18446744073709551616) (w : World) :
    Calls Try.prog 7 #[.int .u64 a, .int .u64 b, .int .u64 c] w fun e w' => e = .returned (.bool true) ∧ Below w.heap.size w w' := by
  have hc := den_pos c
  have hl := den_lt c h3
  have hm := max_den c
  generalize den c = d at *
  have i0 := mulDiv_any a b d 0 h1 h2 hl
  have i1 := mulDiv_any a b d 1 h1 h2 hl
  have i2 := mulDiv_any a b d 2 h1 h2 hl
  have i3 := mulDiv_any a b d 3 h1 h2 hl
  have im := mulMod_any a b d h1 h2 hl
  have hor : mdE a b d 1 = 3 ∨ mdE a b d 1 = 0 := by
    rcases err_or a b d 1 hc (by omega) (by omega) with h | h
    · exact .inl h.1
    · exact .inr h.1
  by_cases hE : mdE a b d 0 = 0 ∧ mdE a b d 1 = 0
  · obtain ⟨x0, x1⟩ := hE
    obtain ⟨x2, x3, q, r, hr, hrc, hq, v0, hcase⟩ := modes a b d hc x1
    rw [x0, v0] at i0
    rw [x1] at i1
    rw [x2] at i2
    rw [x3] at i3
    rw [hr] at im
    clear x0 x1 x2 x3 v0 hr hor
    rcases hcase with ⟨g0, g1, g2, g3⟩ | ⟨g0, gr, g1, g2, g3, g4⟩ | ⟨g0, gr, g1, g2, g3, g4⟩ | ⟨g0, gr, g1, g2, g3, g4⟩
    · rw [g1] at i1
      rw [g2] at i2
      rw [g3] at i3
      have b8 : ((r : Int) == 0) = true := by rw [beq_iff_eq]; omega
      have b9 : decide (0 < r) = false := decide_eq_false (by omega)
      clear g0 g1 g2 g3
      have H0 := Lib.hid i0
      have H1 := Lib.hid i1
      have H2 := Lib.hid i2
      have H3 := Lib.hid i3
      have HM := Lib.hid im
      clear i0 i1 i2 i3 im
      go_enter Try.func7, Try.ntmps7
      go_wp2_with fail
      refine (H0.out _).mono ?_
      rintro e w1 ⟨rfl, hb1⟩
      have hz1 := hb1.size
      go_wp2_with fail
      refine (H1.out _).mono ?_
      rintro e w2 ⟨rfl, hb2⟩
      have hz2 := hb2.size
      go_wp2_with fail
      refine (H2.out _).mono ?_
      rintro e w3 ⟨rfl, hb3⟩
      have hz3 := hb3.size
      go_wp2_with fail
      refine (H3.out _).mono ?_
      rintro e w4 ⟨rfl, hb4⟩
      have hz4 := hb4.size
      go_wp2_with fail
      refine (HM.out _).mono ?_
      rintro e w5 ⟨rfl, hb5⟩
      have hz5 := hb5.size
      go_wp2_with fail
      refine (awake_any _).mono ?_
      rintro e w6 ⟨rfl, hb6⟩
      have hz6 := hb6.size
      go_wp2_with fail
      go_ret
      exact ⟨rfl, by repeat (first | exact Below.refl _ _ | (refine Below.setCell ?_ (by first | omega | (simp; done) | (simp; omega)) _) | (refine below_drewN ?_ _) | (refine Below.alloc ?_ (by first | omega | (simp; done) | (simp; omega)) _) | (refine Below.trans ?_ (Below.mono (by assumption) (by first | omega | (simp; done) | (simp; omega)))))⟩
    · obtain ⟨t, ht⟩ : ∃ t, t = q + 1 := ⟨_, rfl⟩
      rw [g1, ← ht] at i1
      rw [g2] at i2
      rw [g3] at i3
      have b1 : ((r : Int) == (d : Int) - (r : Int)) = false := by rw [beq_eq_false_iff_ne]; omega
      have b4 : ((t : Int) == (q : Int)) = false := by rw [beq_eq_false_iff_ne]; omega
      have b5 : decide (1 < (t : Int) - (q : Int)) = false := decide_eq_false (by omega)
      have b6 : ((t : Int) != (q : Int)) = true := by rw [bne_iff_ne]; omega
      have b7 : ((q : Int) != (t : Int)) = true := by rw [bne_iff_ne]; omega
      have b8 : ((r : Int) == 0) = false := by rw [beq_eq_false_iff_ne]; omega
      have b9 : decide (0 < r) = true := decide_eq_true (by omega)
      have b11 : q ≤ t := by omega
      have b12 : t < 18446744073709551616 := by omega
      have b13 : t ≤ q + 1 := by omega
      clear g0 gr g1 g2 g3 g4 ht
      have H0 := Lib.hid i0
      have H1 := Lib.hid i1
      have H2 := Lib.hid i2
      have H3 := Lib.hid i3
      have HM := Lib.hid im
      clear i0 i1 i2 i3 im
      go_enter Try.func7, Try.ntmps7
      go_wp2_with fail
      refine (H0.out _).mono ?_
      rintro e w1 ⟨rfl, hb1⟩
      have hz1 := hb1.size
      go_wp2_with fail
      refine (H1.out _).mono ?_
      rintro e w2 ⟨rfl, hb2⟩
      have hz2 := hb2.size
      go_wp2_with fail
      refine (H2.out _).mono ?_
      rintro e w3 ⟨rfl, hb3⟩
      have hz3 := hb3.size
      go_wp2_with fail
      refine (H3.out _).mono ?_
      rintro e w4 ⟨rfl, hb4⟩
      have hz4 := hb4.size
      go_wp2_with fail
      refine (HM.out _).mono ?_
      rintro e w5 ⟨rfl, hb5⟩
      have hz5 := hb5.size
      go_wp2_with fail
      refine (awake_any _).mono ?_
      rintro e w6 ⟨rfl, hb6⟩
      have hz6 := hb6.size
      go_wp2_with fail
      go_ret
      exact ⟨rfl, by repeat (first | exact Below.refl _ _ | (refine Below.setCell ?_ (by first | omega | (simp; done) | (simp; omega)) _) | (refine below_drewN ?_ _) | (refine Below.alloc ?_ (by first | omega | (simp; done) | (simp; omega)) _) | (refine Below.trans ?_ (Below.mono (by assumption) (by first | omega | (simp; done) | (simp; omega)))))⟩
    · obtain ⟨t, ht⟩ : ∃ t, t = q + 1 := ⟨_, rfl⟩
      rw [g1, ← ht] at i1
      rw [g2, ← ht] at i2
      have b1 : ((r : Int) == (d : Int) - (r : Int)) = true := by rw [beq_iff_eq]; omega
      have b4 : ((t : Int) == (q : Int)) = false := by rw [beq_eq_false_iff_ne]; omega
      have b5 : decide (1 < (t : Int) - (q : Int)) = false := decide_eq_false (by omega)
      have b6 : ((t : Int) != (q : Int)) = true := by rw [bne_iff_ne]; omega
      have b7 : ((q : Int) != (t : Int)) = true := by rw [bne_iff_ne]; omega
      have b8 : ((r : Int) == 0) = false := by rw [beq_eq_false_iff_ne]; omega
      have b9 : decide (0 < r) = true := decide_eq_true (by omega)
      have b11 : q ≤ t := by omega
      have b12 : t < 18446744073709551616 := by omega
      have b13 : t ≤ q + 1 := by omega
      rcases g3 with ⟨g3, o⟩ | ⟨g3, o⟩
      · rw [g3] at i3
        have b10 : bits .and .u64 (q : Int) 1 = 0 := by
          rw [and_one q hq, o]; rfl
        clear g0 gr g1 g2 g3 g4 ht o
        have H0 := Lib.hid i0
        have H1 := Lib.hid i1
        have H2 := Lib.hid i2
        have H3 := Lib.hid i3
        have HM := Lib.hid im
        clear i0 i1 i2 i3 im
        go_enter Try.func7, Try.ntmps7
        go_wp2_with fail
        refine (H0.out _).mono ?_
        rintro e w1 ⟨rfl, hb1⟩
        have hz1 := hb1.size
        go_wp2_with fail
        refine (H1.out _).mono ?_
        rintro e w2 ⟨rfl, hb2⟩
        have hz2 := hb2.size
        go_wp2_with fail
        refine (H2.out _).mono ?_
        rintro e w3 ⟨rfl, hb3⟩
        have hz3 := hb3.size
        go_wp2_with fail
        refine (H3.out _).mono ?_
        rintro e w4 ⟨rfl, hb4⟩
        have hz4 := hb4.size
        go_wp2_with fail
        refine (HM.out _).mono ?_
        rintro e w5 ⟨rfl, hb5⟩
        have hz5 := hb5.size
        go_wp2_with fail
        refine (awake_any _).mono ?_
        rintro e w6 ⟨rfl, hb6⟩
        have hz6 := hb6.size
        go_wp2_with fail
        go_ret
        exact ⟨rfl, by repeat (first | exact Below.refl _ _ | (refine Below.setCell ?_ (by first | omega | (simp; done) | (simp; omega)) _) | (refine below_drewN ?_ _) | (refine Below.alloc ?_ (by first | omega | (simp; done) | (simp; omega)) _) | (refine Below.trans ?_ (Below.mono (by assumption) (by first | omega | (simp; done) | (simp; omega)))))⟩
      · rw [g3, ← ht] at i3
        have b10 : bits .and .u64 (t : Int) 1 = 0 := by
          rw [and_one t b12, show t % 2 = 0 from by omega]; rfl
        clear g0 gr g1 g2 g3 g4 ht o
        have H0 := Lib.hid i0
        have H1 := Lib.hid i1
        have H2 := Lib.hid i2
        have H3 := Lib.hid i3
        have HM := Lib.hid im
        clear i0 i1 i2 i3 im
        go_enter Try.func7, Try.ntmps7
        go_wp2_with fail
        refine (H0.out _).mono ?_
        rintro e w1 ⟨rfl, hb1⟩
        have hz1 := hb1.size
        go_wp2_with fail
        refine (H1.out _).mono ?_
        rintro e w2 ⟨rfl, hb2⟩
        have hz2 := hb2.size
        go_wp2_with fail
        refine (H2.out _).mono ?_
        rintro e w3 ⟨rfl, hb3⟩
        have hz3 := hb3.size
        go_wp2_with fail
        refine (H3.out _).mono ?_
        rintro e w4 ⟨rfl, hb4⟩
        have hz4 := hb4.size
        go_wp2_with fail
        refine (HM.out _).mono ?_
        rintro e w5 ⟨rfl, hb5⟩
        have hz5 := hb5.size
        go_wp2_with fail
        refine (awake_any _).mono ?_
        rintro e w6 ⟨rfl, hb6⟩
        have hz6 := hb6.size
        go_wp2_with fail
        go_ret
        exact ⟨rfl, by repeat (first | exact Below.refl _ _ | (refine Below.setCell ?_ (by first | omega | (simp; done) | (simp; omega)) _) | (refine below_drewN ?_ _) | (refine Below.alloc ?_ (by first | omega | (simp; done) | (simp; omega)) _) | (refine Below.trans ?_ (Below.mono (by assumption) (by first | omega | (simp; done) | (simp; omega)))))⟩
    · obtain ⟨t, ht⟩ : ∃ t, t = q + 1 := ⟨_, rfl⟩
      rw [g1, ← ht] at i1
      rw [g2, ← ht] at i2
      rw [g3, ← ht] at i3
      have b1 : ((r : Int) == (d : Int) - (r : Int)) = false := by rw [beq_eq_false_iff_ne]; omega
      have b4 : ((t : Int) == (q : Int)) = false := by rw [beq_eq_false_iff_ne]; omega
      have b5 : decide (1 < (t : Int) - (q : Int)) = false := decide_eq_false (by omega)
      have b6 : ((t : Int) != (q : Int)) = true := by rw [bne_iff_ne]; omega
      have b7 : ((q : Int) != (t : Int)) = true := by rw [bne_iff_ne]; omega
      have b8 : ((r : Int) == 0) = false := by rw [beq_eq_false_iff_ne]; omega
      have b9 : decide (0 < r) = true := decide_eq_true (by omega)
      have b11 : q ≤ t := by omega
      have b12 : t < 18446744073709551616 := by omega
      have b13 : t ≤ q + 1 := by omega
      clear g0 gr g1 g2 g3 g4 ht
      have H0 := Lib.hid i0
      have H1 := Lib.hid i1
      have H2 := Lib.hid i2
      have H3 := Lib.hid i3
      have HM := Lib.hid im
      clear i0 i1 i2 i3 im
      go_enter Try.func7, Try.ntmps7
      go_wp2_with fail
      refine (H0.out _).mono ?_
      rintro e w1 ⟨rfl, hb1⟩
      have hz1 := hb1.size
      go_wp2_with fail
      refine (H1.out _).mono ?_
      rintro e w2 ⟨rfl, hb2⟩
      have hz2 := hb2.size
      go_wp2_with fail
      refine (H2.out _).mono ?_
      rintro e w3 ⟨rfl, hb3⟩
      have hz3 := hb3.size
      go_wp2_with fail
      refine (H3.out _).mono ?_
      rintro e w4 ⟨rfl, hb4⟩
      have hz4 := hb4.size
      go_wp2_with fail
      refine (HM.out _).mono ?_
      rintro e w5 ⟨rfl, hb5⟩
      have hz5 := hb5.size
      go_wp2_with fail
      refine (awake_any _).mono ?_
      rintro e w6 ⟨rfl, hb6⟩
      have hz6 := hb6.size
      go_wp2_with fail
      go_ret
      exact ⟨rfl, by repeat (first | exact Below.refl _ _ | (refine Below.setCell ?_ (by first | omega | (simp; done) | (simp; omega)) _) | (refine below_drewN ?_ _) | (refine Below.alloc ?_ (by first | omega | (simp; done) | (simp; omega)) _) | (refine Below.trans ?_ (Below.mono (by assumption) (by first | omega | (simp; done) | (simp; omega)))))⟩
  · by_cases g0 : mdE a b d 0 = 0
    · have g1 : mdE a b d 1 = 3 := by
        rcases hor with h | h
        · exact h
        · exact absurd ⟨g0, h⟩ hE
      rw [g0] at i0
      rw [g1] at i1
      generalize mdV a b d 0 = v0 at *
      generalize mdV a b d 1 = v1 at *
      generalize mdV a b d 2 = v2 at *
      generalize mdV a b d 3 = v3 at *
      generalize mdE a b d 2 = x2 at *
      generalize mdE a b d 3 = x3 at *
      have H0 := Lib.hid i0
      have H1 := Lib.hid i1
      have H2 := Lib.hid i2
      have H3 := Lib.hid i3
      clear i0 i1 i2 i3 im g0 g1 hE hor
      go_enter Try.func7, Try.ntmps7
      go_wp2_with fail
      refine (H0.out _).mono ?_
      rintro e w1 ⟨rfl, hb1⟩
      have hz1 := hb1.size
      go_wp2_with fail
      refine (H1.out _).mono ?_
      rintro e w2 ⟨rfl, hb2⟩
      have hz2 := hb2.size
      go_wp2_with fail
      refine (H2.out _).mono ?_
      rintro e w3 ⟨rfl, hb3⟩
      have hz3 := hb3.size
      go_wp2_with fail
      refine (H3.out _).mono ?_
      rintro e w4 ⟨rfl, hb4⟩
      have hz4 := hb4.size
      go_wp2_with fail
      refine (awake_any _).mono ?_
      rintro e w5 ⟨rfl, hb5⟩
      go_wp2_with fail
      go_ret
      exact ⟨rfl, by repeat (first | exact Below.refl _ _ | (refine Below.setCell ?_ (by first | omega | (simp; done) | (simp; omega)) _) | (refine below_drewN ?_ _) | (refine Below.alloc ?_ (by first | omega | (simp; done) | (simp; omega)) _) | (refine Below.trans ?_ (Below.mono (by assumption) (by first | omega | (simp; done) | (simp; omega)))))⟩
    · have bx : (mdE a b d 0 != 0) = true := by rw [bne_iff_ne]; exact g0
      generalize mdE a b d 0 = x0 at *
      generalize mdV a b d 0 = v0 at *
      generalize mdV a b d 1 = v1 at *
      generalize mdV a b d 2 = v2 at *
      generalize mdV a b d 3 = v3 at *
      generalize mdE a b d 2 = x2 at *
      generalize mdE a b d 3 = x3 at *
      rcases hor with g1 | g1
      all_goals
        rw [g1] at i1
        have H0 := Lib.hid i0
        have H1 := Lib.hid i1
        have H2 := Lib.hid i2
        have H3 := Lib.hid i3
        clear i0 i1 i2 i3 im g0 g1 hE
        go_enter Try.func7, Try.ntmps7
        go_wp2_with fail
        refine (H0.out _).mono ?_
        rintro e w1 ⟨rfl, hb1⟩
        have hz1 := hb1.size
        go_wp2_with fail
        refine (H1.out _).mono ?_
        rintro e w2 ⟨rfl, hb2⟩
        have hz2 := hb2.size
        go_wp2_with fail
        refine (H2.out _).mono ?_
        rintro e w3 ⟨rfl, hb3⟩
        have hz3 := hb3.size
        go_wp2_with fail
        refine (H3.out _).mono ?_
        rintro e w4 ⟨rfl, hb4⟩
        have hz4 := hb4.size
        go_wp2_with fail
        refine (awake_any _).mono ?_
        rintro e w5 ⟨rfl, hb5⟩
        go_wp2_with fail
        go_ret
        exact ⟨rfl, by repeat (first | exact Below.refl _ _ | (refine Below.setCell ?_ (by first | omega | (simp; done) | (simp; omega)) _) | (refine below_drewN ?_ _) | (refine Below.alloc ?_ (by first | omega | (simp; done) | (simp; omega)) _) | (refine Below.trans ?_ (Below.mono (by assumption) (by first | omega | (simp; done) | (simp; omega)))))⟩
end Go.Proofs.Ytmoagnlkpkgflaa
