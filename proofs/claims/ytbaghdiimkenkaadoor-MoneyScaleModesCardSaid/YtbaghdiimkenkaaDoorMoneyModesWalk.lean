/- The law MoneyScaleModes, walked: it returns true at every input. Condition: the library's variables hold what they were given. -/
import Derived.Test.YtbaghdiimkenkaaDoorMoneyScaleWalk
namespace Go.Proofs.YtbaghdiimkenkaaDoor
open Go.RowKit

/-- The two lowest bits of a number are a mode. -/
theorem low_two (m : Int) : 0 ≤ bits .and .i64 m 3 ∧ bits .and .i64 m 3 ≤ 3 := by
  have h : (BitVec.ofInt 64 m &&& BitVec.ofInt 64 3).toNat ≤ 3 := by
    rw [BitVec.toNat_and]
    exact Nat.le_trans Nat.and_le_right (by decide)
  have e : bits .and .i64 m 3 = IntKind.i64.wrap ((BitVec.ofInt 64 m &&& BitVec.ofInt 64 3).toNat : Int) := rfl
  rw [e, IntKind.wrap_i64]
  omega

/-- The quotients of the modes of small numbers: no error, Down and Up next to each other, every mode one of both. -/
theorem small_modes (A N D : Nat) (m : Int) (hA : A < 1000000) (hN : N < 1000000) (hD : 0 < D) (h0 : 0 ≤ m) (h3 : m ≤ 3) :
    ∃ q q' : Nat, (mdE A N D m = 0 ∧ mdV A N D m ≤ 1000000000000) ∧ mdV A N D 0 = q ∧ mdV A N D 1 = q' ∧ q ≤ q' ∧ q' ≤ q + 1 ∧ (mdV A N D m = q ∨ mdV A N D m = q') := by
  have hle : A * N / D ≤ 999999000000 := by
    have h1 : A * N ≤ 999999 * 1000000 := Nat.mul_le_mul (by omega) (by omega)
    exact Nat.le_trans (Nat.div_le_self _ _) (Nat.le_trans h1 (by decide))
  have hfit : ∀ k : Int, 0 ≤ k → k ≤ 3 → mdE A N D k = 0 ∧ mdV A N D k = A * N / D + (if upN (A * N / D) (A * N % D) D k then 1 else 0) := by
    intro k hk0 hk3
    have hg : ¬ (D = 0 ∨ k < 0 ∨ 3 < k) := by omega
    have hu : divUp (A * N) D k < 18446744073709551616 := by
      unfold divUp
      split <;> omega
    exact ⟨(div_fits _ _ _ hg hu).2, (div_fits _ _ _ hg hu).1⟩
  have hup : upN (A * N / D) (A * N % D) D m = true → 0 < A * N % D := by
    intro hu
    rcases Nat.eq_zero_or_pos (A * N % D) with z | z
    · rw [z] at hu
      have h1 : upN (A * N / D) 0 D m = false := by
        unfold upN
        split
        · rfl
        · split
          · exact decide_eq_false (by omega)
          · split
            · rw [show decide (D < 0 + 0) = false from decide_eq_false (by omega), show decide (0 + 0 = D) = false from decide_eq_false (by omega)]
              rfl
            · rfl
      rw [h1] at hu
      exact absurd hu (by simp)
    · exact z
  obtain ⟨_, v0⟩ := hfit 0 (by omega) (by omega)
  obtain ⟨_, v1⟩ := hfit 1 (by omega) (by omega)
  obtain ⟨em, vm⟩ := hfit m h0 h3
  have u0 : upN (A * N / D) (A * N % D) D 0 = false := rfl
  have u1 : upN (A * N / D) (A * N % D) D 1 = decide (0 < A * N % D) := rfl
  rw [u0] at v0
  rw [u1] at v1
  generalize A * N / D = q at *
  generalize A * N % D = r at *
  generalize upN q r D m = b at *
  simp only [Bool.false_eq_true, if_false, Nat.add_zero] at v0
  by_cases hr : 0 < r
  · rw [decide_eq_true hr] at v1
    simp only [if_true] at v1
    refine ⟨q, q + 1, ⟨em, ?_⟩, v0, v1, by omega, by omega, ?_⟩
    · rw [vm]; split <;> omega
    · rw [vm]
      cases b
      · exact .inl rfl
      · exact .inr rfl
  · rw [decide_eq_false hr] at v1
    simp only [Bool.false_eq_true, if_false, Nat.add_zero] at v1
    have hb : b = false := by
      cases b
      · rfl
      · exact absurd (hup rfl) hr
    rw [hb] at vm
    simp only [Bool.false_eq_true, if_false, Nat.add_zero] at vm
    exact ⟨q, q, ⟨em, by omega⟩, v0, v1, by omega, by omega, .inl vm⟩

/-- What Scale returns of small numbers. -/
theorem sc_small (a n d m : Int) (ha : -1000000 < a) (ha2 : a < 1000000) (hn : 0 ≤ n) (hn2 : n < 1000000) (hd : 1 ≤ d) (hd2 : d ≤ 1000000) (h0 : 0 ≤ m) (h3 : m ≤ 3) :
    ∃ x y z : Int, scV a n d 0 = x ∧ scV a n d 1 = y ∧ scV a n d m = z ∧ scV (-a) n d m = -z ∧ scE a n d 0 = 0 ∧ scE a n d 1 = 0 ∧ scE a n d m = 0 ∧ scE (-a) n d m = 0 ∧
      -1000000000000 ≤ x ∧ x ≤ 1000000000000 ∧ -1000000000000 ≤ y ∧ y ≤ 1000000000000 ∧ -1000000000000 ≤ z ∧ z ≤ 1000000000000 ∧ x - y ≤ 1 ∧ y - x ≤ 1 ∧ (z = x ∨ z = y) := by
  have hp := fun k (hk0 : (0 : Int) ≤ k) (hk3 : k ≤ 3) => small_modes a.natAbs n.toNat d.toNat k (by omega) (by omega) (by omega) hk0 hk3
  have ok : ∀ (b k : Int), (b = a ∨ b = -a) → 0 ≤ k → k ≤ 3 → scE b n d k = 0 ∧ scV b n d k = if b < 0 then -(mdV a.natAbs n.toNat d.toNat k : Int) else (mdV a.natAbs n.toNat d.toNat k : Int) := by
    intro b k hb hk0 hk3
    have hn' : b.natAbs = a.natAbs := by omega
    have hg : ¬ scBad b n d k := by
      unfold scBad
      rw [amtB_false]
      omega
    obtain ⟨q, q', ⟨g1, g2⟩, _⟩ := hp k hk0 hk3
    have h2 : ¬ (scF b n d k ≠ 0 ∨ 1000000000000 < scQ b n d k) := by
      unfold scF scQ
      rw [hn']
      omega
    by_cases hs : b < 0
    · rw [if_pos hs]
      obtain ⟨r1, r2⟩ := sc_neg hg h2 hs
      rw [r1, r2]
      unfold scQ
      rw [hn']
      exact ⟨rfl, rfl⟩
    · rw [if_neg hs]
      obtain ⟨r1, r2⟩ := sc_pos hg h2 hs
      rw [r1, r2]
      unfold scQ
      rw [hn']
      exact ⟨rfl, rfl⟩
  obtain ⟨e0, v0⟩ := ok a 0 (.inl rfl) (by omega) (by omega)
  obtain ⟨e1, v1⟩ := ok a 1 (.inl rfl) (by omega) (by omega)
  obtain ⟨em, vm⟩ := ok a m (.inl rfl) h0 h3
  obtain ⟨en, vn⟩ := ok (-a) m (.inr rfl) h0 h3
  obtain ⟨q, q', ⟨_, g2⟩, g3, g4, g5, g6, g7⟩ := hp m h0 h3
  obtain ⟨_, _, ⟨_, g8⟩, _⟩ := hp 0 (by omega) (by omega)
  obtain ⟨_, _, ⟨_, g9⟩, _⟩ := hp 1 (by omega) (by omega)
  have hz : a = 0 → mdV a.natAbs n.toNat d.toNat m = 0 := by
    intro h
    obtain ⟨_, _, ⟨_, _⟩, p3, p4, _, _, p7⟩ := hp m h0 h3
    have k0 : mdV a.natAbs n.toNat d.toNat 0 = 0 := by
      rw [h]
      have hg : ¬ (d.toNat = 0 ∨ (0 : Int) < 0 ∨ (3 : Int) < 0) := by omega
      have hu : divUp (Int.natAbs 0 * n.toNat) d.toNat 0 = 0 := by simp [divUp, upN]
      have := (div_fits (Int.natAbs 0 * n.toNat) d.toNat 0 hg (by omega)).1
      exact this.trans hu
    have k1 : mdV a.natAbs n.toNat d.toNat 1 = 0 := by
      rw [h]
      have hg : ¬ (d.toNat = 0 ∨ (1 : Int) < 0 ∨ (3 : Int) < 1) := by omega
      have hu : divUp (Int.natAbs 0 * n.toNat) d.toNat 1 = 0 := by simp [divUp, upN]
      have := (div_fits (Int.natAbs 0 * n.toNat) d.toNat 1 hg (by omega)).1
      exact this.trans hu
    omega
  generalize mdV a.natAbs n.toNat d.toNat m = u at *
  generalize mdV a.natAbs n.toNat d.toNat 0 = u0 at *
  generalize mdV a.natAbs n.toNat d.toNat 1 = u1 at *
  refine ⟨_, _, _, rfl, rfl, rfl, ?_, e0, e1, em, en, ?_⟩
  · rw [vm, vn]
    by_cases h : a = 0
    · have := hz h
      subst this
      split <;> split <;> rfl
    · by_cases hs : a < 0
      · rw [if_pos hs, if_neg (by omega)]; omega
      · rw [if_neg hs, if_pos (by omega)]
  · rw [v0, v1, vm]
    by_cases hs : a < 0
    · rw [if_pos hs, if_pos hs, if_pos hs]
      omega
    · rw [if_neg hs, if_neg hs, if_neg hs]
      omega

set_option maxRecDepth 100000 in
set_option maxHeartbeats 1000000 in
theorem moneyScaleModes_walk (a n d m : Int) (w : World) (hL : Libs w) :
    Calls Tryd.prog 6 #[.int .i64 a, .int .i64 n, .int .i64 d, .int .i64 m] w fun e w' => e = .returned (.bool true) ∧ Below w.heap.size w w' := by
  obtain ⟨b1, b2⟩ := amtOf_bounds a
  have hm := low_two m
  have t1 := Int.tmod_lt_of_pos (amtOf a) (show (0 : Int) < 1000000 by omega)
  have t2 := Int.lt_tmod_of_pos (amtOf a) (show (0 : Int) < 1000000 by omega)
  have t3 := Int.tmod_lt_of_pos n (show (0 : Int) < 1000000 by omega)
  have t4 := Int.lt_tmod_of_pos n (show (0 : Int) < 1000000 by omega)
  have t5 := Int.tmod_lt_of_pos d (show (0 : Int) < 1000000 by omega)
  have t6 := Int.lt_tmod_of_pos d (show (0 : Int) < 1000000 by omega)
  obtain ⟨x, y, z, x1, x2, x3, x4, x5, x6, x7, x8, l1, l2, l3, l4, l5, l6, l7, l8, l9⟩ := sc_small ((amtOf a).tmod 1000000) (max (n.tmod 1000000) (-(n.tmod 1000000))) (1 + max (d.tmod 1000000) (-(d.tmod 1000000))) (bits .and .i64 m 3) (by omega) (by omega) (by omega) (by omega) (by omega) (by omega) hm.1 hm.2
  have i0 := moneyScale_any ((amtOf a).tmod 1000000) (max (n.tmod 1000000) (-(n.tmod 1000000))) (1 + max (d.tmod 1000000) (-(d.tmod 1000000))) 0
  have i1 := moneyScale_any ((amtOf a).tmod 1000000) (max (n.tmod 1000000) (-(n.tmod 1000000))) (1 + max (d.tmod 1000000) (-(d.tmod 1000000))) 1
  have i2 := moneyScale_any ((amtOf a).tmod 1000000) (max (n.tmod 1000000) (-(n.tmod 1000000))) (1 + max (d.tmod 1000000) (-(d.tmod 1000000))) (bits .and .i64 m 3)
  have i3 := moneyScale_any (-(amtOf a).tmod 1000000) (max (n.tmod 1000000) (-(n.tmod 1000000))) (1 + max (d.tmod 1000000) (-(d.tmod 1000000))) (bits .and .i64 m 3)
  rw [x1, x5] at i0
  rw [x2, x6] at i1
  rw [x3, x7] at i2
  rw [x4, x8] at i3
  clear x1 x2 x3 x4 x5 x6 x7 x8
  have H0 := Lib.hid i0
  have H1 := Lib.hid i1
  have H2 := Lib.hid i2
  have H3 := Lib.hid i3
  clear i0 i1 i2 i3
  have dm : decide (max (x - y) (y - x) ≤ 1) = true := decide_eq_true (by omega)
  by_cases hzx : z = x
  · have bz : (z == x) = true := by rw [beq_iff_eq]; exact hzx
    clear hzx l9
    go_enter Tryd.func6, Tryd.ntmps6
    go_wp2_with (go_at_call 12; refine (amount_any _ _).mono ?_; rintro e w0 ⟨rfl, rfl⟩)
    refine (H0.out _).mono ?_
    rintro e w1 ⟨rfl, hb1⟩
    have hz1 := hb1.size
    have hL1 := hL.keep hb1
    go_wp2_with fail
    refine (H1.out _).mono ?_
    rintro e w2 ⟨rfl, hb2⟩
    have hz2 := hb2.size
    have hL2 := hL1.keep hb2
    go_wp2_with fail
    refine (H2.out _).mono ?_
    rintro e w3 ⟨rfl, hb3⟩
    have hz3 := hb3.size
    have hL3 := hL2.keep hb3
    go_wp2_with fail
    refine (H3.out _).mono ?_
    rintro e w4 ⟨rfl, hb4⟩
    have hz4 := hb4.size
    have hL4 := hL3.keep hb4
    go_wp2_with fail
    refine (awake2_any _ hL4).mono ?_
    rintro e w5 ⟨rfl, hb5⟩
    have hz5 := hb5.size
    go_wp2_with fail
    go_ret
    exact ⟨rfl, by repeat (first | exact Below.refl _ _ | (refine Below.setCell ?_ (by first | omega | (simp; done) | (simp; omega)) _) | (refine below_drewN ?_ _) | (refine Below.alloc ?_ (by first | omega | (simp; done) | (simp; omega)) _) | (refine Below.trans ?_ (Below.mono (by assumption) (by first | omega | (simp; done) | (simp; omega)))))⟩
  · have bz : (z == x) = false := by rw [beq_eq_false_iff_ne]; exact hzx
    have by1 : (z == y) = true := by rw [beq_iff_eq]; omega
    clear hzx l9
    go_enter Tryd.func6, Tryd.ntmps6
    go_wp2_with (go_at_call 12; refine (amount_any _ _).mono ?_; rintro e w0 ⟨rfl, rfl⟩)
    refine (H0.out _).mono ?_
    rintro e w1 ⟨rfl, hb1⟩
    have hz1 := hb1.size
    have hL1 := hL.keep hb1
    go_wp2_with fail
    refine (H1.out _).mono ?_
    rintro e w2 ⟨rfl, hb2⟩
    have hz2 := hb2.size
    have hL2 := hL1.keep hb2
    go_wp2_with fail
    refine (H2.out _).mono ?_
    rintro e w3 ⟨rfl, hb3⟩
    have hz3 := hb3.size
    have hL3 := hL2.keep hb3
    go_wp2_with fail
    refine (H3.out _).mono ?_
    rintro e w4 ⟨rfl, hb4⟩
    have hz4 := hb4.size
    have hL4 := hL3.keep hb4
    go_wp2_with fail
    refine (awake2_any _ hL4).mono ?_
    rintro e w5 ⟨rfl, hb5⟩
    have hz5 := hb5.size
    go_wp2_with fail
    go_ret
    exact ⟨rfl, by repeat (first | exact Below.refl _ _ | (refine Below.setCell ?_ (by first | omega | (simp; done) | (simp; omega)) _) | (refine below_drewN ?_ _) | (refine Below.alloc ?_ (by first | omega | (simp; done) | (simp; omega)) _) | (refine Below.trans ?_ (Below.mono (by assumption) (by first | omega | (simp; done) | (simp; omega)))))⟩
end Go.Proofs.YtbaghdiimkenkaaDoor
