/- What the functions Scale and Part of the package money return, for every input. No condition. -/
import Derived.Test.YtjjidbnjkhdkaaaMoneyOne
import Derived.Test.YtjjidbnjkhdkaaaCore2
namespace Go.Proofs.Ytjjidbnjkhdkaaa
open Go.RowKit

/-- What MulDiv's answer makes of the amount. -/
theorem sc_code (a n d m : Int) (ha : amtB a = true) (hn : 0 ≤ n ∧ n ≤ 1000000000000) (hd : 1 ≤ d ∧ d ≤ 1000000000000) :
    (scF a n d m ≠ 0 → scV a n d m = 0 ∧ scE a n d m = scF a n d m) ∧ (scF a n d m = 0 → 1000000000000 < scQ a n d m → scV a n d m = 0 ∧ scE a n d m = 3) ∧
    (scF a n d m = 0 → ¬ 1000000000000 < scQ a n d m → a < 0 → scV a n d m = -(scQ a n d m : Int) ∧ scE a n d m = 0) ∧ (scF a n d m = 0 → ¬ 1000000000000 < scQ a n d m → ¬ a < 0 → scV a n d m = (scQ a n d m : Int) ∧ scE a n d m = 0) := by
  by_cases hm : m < 0 ∨ 3 < m
  · have hb : scBad a n d m := by unfold scBad; omega
    have e2 : scF a n d m = 2 := (div_bad _ _ _ (.inr hm)).2
    obtain ⟨b1, b2⟩ := sc_bad hb
    exact ⟨fun _ => ⟨b1, b2.trans e2.symm⟩, fun h => absurd h (by omega), fun h => absurd h (by omega), fun h => absurd h (by omega)⟩
  · have hb : ¬ scBad a n d m := by
      unfold scBad
      rw [ha]
      simp
      omega
    have hg : ¬ (d.toNat = 0 ∨ m < 0 ∨ 3 < m) := by omega
    have h3 : scF a n d m ≠ 0 → scF a n d m = 3 := fun h => by
      by_cases hu : 18446744073709551616 ≤ divUp (a.natAbs * n.toNat) d.toNat m
      · exact (div_big _ _ _ hg hu).2
      · exact absurd (div_fits _ _ _ hg (by omega)).2 h
    exact ⟨fun h => ⟨(sc_big hb (.inl h)).1, (sc_big hb (.inl h)).2.trans (h3 h).symm⟩, fun _ h => sc_big hb (.inr h), fun h0 h => sc_neg hb (by omega), fun h0 h => sc_pos hb (by omega)⟩

set_option maxHeartbeats 1600000 in
theorem moneyScale_any (a n d m : Int) (w : World) :
    Calls Try.prog 32 #[.int .i64 a, .int .i64 n, .int .i64 d, .int .i64 m] w fun e w' =>
      e = .returned (.tuple #[.int .i64 (scV a n d m), .int .i64 (scE a n d m)]) ∧ Below w.heap.size w w' := by
  by_cases ha : amtB a = false
  · have hb : scBad a n d m := .inl ha
    rw [(sc_bad hb).1, (sc_bad hb).2]
    clear hb
    go_enter Try.func32, Try.ntmps32
    go_wp2_with fail
    refine (areAmounts_one a _ _ (by simp [go_sem])).mono ?_
    rintro e w1 ⟨rfl, rfl⟩
    go_wp2_with fail
    go_ret2
    exact ⟨rfl, by repeat (first | exact Below.refl _ _ | (refine Below.alloc ?_ (by first | omega | (simp; done) | (simp; omega)) _))⟩
  have ha1 : amtB a = true := by simpa using ha
  clear ha
  have hN := within_one 0 1000000000000 n
  by_cases cn : n < 0 ∨ 1000000000000 < n
  · have hb : scBad a n d m := by unfold scBad; omega
    rw [(sc_bad hb).1, (sc_bad hb).2]
    rw [show (decide (0 ≤ n) && decide (n ≤ 1000000000000)) = false by rw [Bool.and_eq_false_iff, decide_eq_false_iff_not, decide_eq_false_iff_not]; omega] at hN
    have HN := Lib.hid hN
    clear hb cn hN
    go_enter Try.func32, Try.ntmps32
    go_wp2_with fail
    refine (areAmounts_one a _ _ (by simp [go_sem])).mono ?_
    rintro e w1 ⟨rfl, rfl⟩
    go_wp2_with fail
    refine (HN.out _ _ (by simp [go_sem])).mono ?_
    rintro e w1 ⟨rfl, rfl⟩
    go_wp2_with fail
    go_ret2
    exact ⟨rfl, by repeat (first | exact Below.refl _ _ | (refine Below.alloc ?_ (by first | omega | (simp; done) | (simp; omega)) _))⟩
  rw [show (decide (0 ≤ n) && decide (n ≤ 1000000000000)) = true by rw [Bool.and_eq_true, decide_eq_true_eq, decide_eq_true_eq]; omega] at hN
  have HN := Lib.hid hN
  clear hN
  have hD := within_one 1 1000000000000 d
  by_cases cd : d < 1 ∨ 1000000000000 < d
  · have hb : scBad a n d m := by unfold scBad; omega
    rw [(sc_bad hb).1, (sc_bad hb).2]
    rw [show (decide (1 ≤ d) && decide (d ≤ 1000000000000)) = false by rw [Bool.and_eq_false_iff, decide_eq_false_iff_not, decide_eq_false_iff_not]; omega] at hD
    have HD := Lib.hid hD
    clear hb cn cd hD
    go_enter Try.func32, Try.ntmps32
    go_wp2_with fail
    refine (areAmounts_one a _ _ (by simp [go_sem])).mono ?_
    rintro e w1 ⟨rfl, rfl⟩
    go_wp2_with fail
    refine (HN.out _ _ (by simp [go_sem])).mono ?_
    rintro e w1 ⟨rfl, rfl⟩
    go_wp2_with fail
    refine (HD.out _ _ (by simp [go_sem])).mono ?_
    rintro e w1 ⟨rfl, rfl⟩
    go_wp2_with fail
    go_ret2
    exact ⟨rfl, by repeat (first | exact Below.refl _ _ | (refine Below.alloc ?_ (by first | omega | (simp; done) | (simp; omega)) _))⟩
  rw [show (decide (1 ≤ d) && decide (d ≤ 1000000000000)) = true by rw [Bool.and_eq_true, decide_eq_true_eq, decide_eq_true_eq]; omega] at hD
  have HD := Lib.hid hD
  clear hD
  obtain ⟨hbig, hbig2, hneg, hpos⟩ := sc_code a n d m ha1 (by omega) (by omega)
  obtain ⟨a1, a2⟩ := (amtB_iff a).1 ha1
  obtain ⟨n', rfl⟩ := Int.eq_ofNat_of_zero_le (show 0 ≤ n by omega)
  obtain ⟨d', rfl⟩ := Int.eq_ofNat_of_zero_le (show 0 ≤ d by omega)
  have hx := mulDiv_any a.natAbs n' d' m (by omega) (by omega) (by omega)
  have e1 : scQ a n' d' m = mdV a.natAbs n' d' m := rfl
  have e2 : scF a n' d' m = mdE a.natAbs n' d' m := rfl
  rw [← e1, ← e2] at hx
  have hV : scQ a n' d' m < 18446744073709551616 := mdV_lt _ _ _ _
  have hm : max a (-a) = (a.natAbs : Int) := by omega
  have hA : a.natAbs ≤ 1000000000000 := by omega
  have hn1 : n' ≤ 1000000000000 := by omega
  have hd1 : d' ≤ 1000000000000 := by omega
  generalize scV a n' d' m = V at *
  generalize scE a n' d' m = E at *
  generalize scQ a n' d' m = q at *
  generalize scF a n' d' m = f at *
  generalize a.natAbs = A at *
  have HX := Lib.hid hx
  clear hx e1 e2 cn cd
  by_cases hf : f = 0
  · have bf : (f != 0) = false := by rw [hf]; rfl
    by_cases hq : 1000000000000 < q
    · have hr := Lib.hid (hbig2 hf hq)
      clear hf hbig hbig2 hneg hpos
      go_enter Try.func32, Try.ntmps32
      go_wp2_with fail
      refine (areAmounts_one a _ _ (by simp [go_sem])).mono ?_
      rintro e w1 ⟨rfl, rfl⟩
      go_wp2_with fail
      refine (HN.out _ _ (by simp [go_sem])).mono ?_
      rintro e w1 ⟨rfl, rfl⟩
      go_wp2_with fail
      refine (HD.out _ _ (by simp [go_sem])).mono ?_
      rintro e w1 ⟨rfl, rfl⟩
      go_wp2_with fail
      have hB : Below w.heap.size w (((w.alloc (.cells #[.int .i64 a] 3)).alloc (.cells #[.int .i64 (n' : Int)] 3)).alloc (.cells #[.int .i64 (d' : Int)] 3)) := (((Below.refl _ _).alloc (Nat.le_refl _) _).alloc (by simp) _).alloc (by simp; omega) _
      refine (HX.out _).mono ?_
      rintro e w2 ⟨rfl, hb2⟩
      have hB2 := hB.trans (hb2.mono hB.size)
      clear hB hb2
      go_wp2_with fail
      go_ret2
      exact ⟨by rw [hr.out.1, hr.out.2]; rfl, hB2⟩
    · by_cases hs : a < 0
      · have hr := Lib.hid (hneg hf hq hs)
        clear hf hbig hbig2 hneg hpos
        go_enter Try.func32, Try.ntmps32
        go_wp2_with fail
        refine (areAmounts_one a _ _ (by simp [go_sem])).mono ?_
        rintro e w1 ⟨rfl, rfl⟩
        go_wp2_with fail
        refine (HN.out _ _ (by simp [go_sem])).mono ?_
        rintro e w1 ⟨rfl, rfl⟩
        go_wp2_with fail
        refine (HD.out _ _ (by simp [go_sem])).mono ?_
        rintro e w1 ⟨rfl, rfl⟩
        go_wp2_with fail
        have hB : Below w.heap.size w (((w.alloc (.cells #[.int .i64 a] 3)).alloc (.cells #[.int .i64 (n' : Int)] 3)).alloc (.cells #[.int .i64 (d' : Int)] 3)) := (((Below.refl _ _).alloc (Nat.le_refl _) _).alloc (by simp) _).alloc (by simp; omega) _
        refine (HX.out _).mono ?_
        rintro e w2 ⟨rfl, hb2⟩
        have hB2 := hB.trans (hb2.mono hB.size)
        clear hB hb2
        go_wp2_with fail
        go_ret2
        exact ⟨by rw [hr.out.1, hr.out.2]; rfl, hB2⟩
      · have hr := Lib.hid (hpos hf hq hs)
        clear hf hbig hbig2 hneg hpos
        go_enter Try.func32, Try.ntmps32
        go_wp2_with fail
        refine (areAmounts_one a _ _ (by simp [go_sem])).mono ?_
        rintro e w1 ⟨rfl, rfl⟩
        go_wp2_with fail
        refine (HN.out _ _ (by simp [go_sem])).mono ?_
        rintro e w1 ⟨rfl, rfl⟩
        go_wp2_with fail
        refine (HD.out _ _ (by simp [go_sem])).mono ?_
        rintro e w1 ⟨rfl, rfl⟩
        go_wp2_with fail
        have hB : Below w.heap.size w (((w.alloc (.cells #[.int .i64 a] 3)).alloc (.cells #[.int .i64 (n' : Int)] 3)).alloc (.cells #[.int .i64 (d' : Int)] 3)) := (((Below.refl _ _).alloc (Nat.le_refl _) _).alloc (by simp) _).alloc (by simp; omega) _
        refine (HX.out _).mono ?_
        rintro e w2 ⟨rfl, hb2⟩
        have hB2 := hB.trans (hb2.mono hB.size)
        clear hB hb2
        go_wp2_with fail
        go_ret2
        exact ⟨by rw [hr.out.1, hr.out.2]; rfl, hB2⟩
  · have bf : (f != 0) = true := by rw [bne_iff_ne]; exact hf
    have hr := Lib.hid (hbig hf)
    clear hf hbig hbig2 hneg hpos
    go_enter Try.func32, Try.ntmps32
    go_wp2_with fail
    refine (areAmounts_one a _ _ (by simp [go_sem])).mono ?_
    rintro e w1 ⟨rfl, rfl⟩
    go_wp2_with fail
    refine (HN.out _ _ (by simp [go_sem])).mono ?_
    rintro e w1 ⟨rfl, rfl⟩
    go_wp2_with fail
    refine (HD.out _ _ (by simp [go_sem])).mono ?_
    rintro e w1 ⟨rfl, rfl⟩
    go_wp2_with fail
    have hB : Below w.heap.size w (((w.alloc (.cells #[.int .i64 a] 3)).alloc (.cells #[.int .i64 (n' : Int)] 3)).alloc (.cells #[.int .i64 (d' : Int)] 3)) := (((Below.refl _ _).alloc (Nat.le_refl _) _).alloc (by simp) _).alloc (by simp; omega) _
    refine (HX.out _).mono ?_
    rintro e w2 ⟨rfl, hb2⟩
    have hB2 := hB.trans (hb2.mono hB.size)
    clear hB hb2
    go_wp2_with fail
    go_ret2
    exact ⟨by rw [hr.out.1, hr.out.2]; rfl, hB2⟩
end Go.Proofs.Ytjjidbnjkhdkaaa
