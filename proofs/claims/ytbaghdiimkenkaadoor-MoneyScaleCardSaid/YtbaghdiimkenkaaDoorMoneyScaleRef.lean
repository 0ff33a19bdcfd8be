/- What Scale and Part of the reference of layer 2 return, for every input. No condition. -/
import Derived.Test.YtbaghdiimkenkaaDoorMoneySpec
import Derived.Test.YtbaghdiimkenkaaDoorRefCore
namespace Go.Proofs.YtbaghdiimkenkaaDoor
open Go.RowKit

set_option maxHeartbeats 400000 in
theorem refAmount_any (n : Int) (w : World) : Calls Tryd.prog 24 #[.int .i64 n] w fun e w' => e = .returned (.bool (amtB n)) ∧ w = w' := by
  by_cases h1 : -1000000000000 ≤ n
  · by_cases h2 : n ≤ 1000000000000
    · have e0 : amtB n = true := (amtB_iff n).2 ⟨h1, h2⟩
      rw [e0]
      clear e0
      go_enter Tryd.func24, Tryd.ntmps24
      go_wp2
      go_ret
      exact ⟨rfl, rfl⟩
    · have e0 : amtB n = false := (amtB_false n).2 (by omega)
      rw [e0]
      clear e0
      go_enter Tryd.func24, Tryd.ntmps24
      go_wp2
      go_ret
      exact ⟨rfl, rfl⟩
  · have e0 : amtB n = false := (amtB_false n).2 (by omega)
    rw [e0]
    clear e0
    go_enter Tryd.func24, Tryd.ntmps24
    go_wp2
    go_ret
    exact ⟨rfl, rfl⟩

set_option maxHeartbeats 800000 in
theorem refScale_any (a n d m : Int) (w : World) :
    Calls Tryd.prog 14 #[.int .i64 a, .int .i64 n, .int .i64 d, .int .i64 m] w fun e w' =>
      e = .returned (.tuple #[.int .i64 (scV a n d m), .int .i64 (scE a n d m)]) ∧ Below w.heap.size w w' := by
  by_cases hb : scBad a n d m
  · rw [(sc_bad hb).1, (sc_bad hb).2]
    have hb' := hb
    clear hb
    unfold scBad at hb'
    rcases hb' with h | hb'
    · go_enter Tryd.func14, Tryd.ntmps14
      go_wp2_with (go_at_call 24; refine (refAmount_any _ _).mono ?_; rintro e w1 ⟨rfl, rfl⟩)
      go_ret2
      exact ⟨rfl, Below.refl _ _⟩
    by_cases ha : amtB a = false
    · go_enter Tryd.func14, Tryd.ntmps14
      go_wp2_with (go_at_call 24; refine (refAmount_any _ _).mono ?_; rintro e w1 ⟨rfl, rfl⟩)
      go_ret2
      exact ⟨rfl, Below.refl _ _⟩
    have ha' : amtB a = true := by simpa using ha
    clear ha
    by_cases c1 : n < 0
    · clear hb'
      go_enter Tryd.func14, Tryd.ntmps14
      go_wp2_with (go_at_call 24; refine (refAmount_any _ _).mono ?_; rintro e w1 ⟨rfl, rfl⟩)
      go_ret2
      exact ⟨rfl, Below.refl _ _⟩
    by_cases c2 : 1000000000000 < n
    · clear hb'
      go_enter Tryd.func14, Tryd.ntmps14
      go_wp2_with (go_at_call 24; refine (refAmount_any _ _).mono ?_; rintro e w1 ⟨rfl, rfl⟩)
      go_ret2
      exact ⟨rfl, Below.refl _ _⟩
    by_cases c3 : d < 1
    · clear hb'
      go_enter Tryd.func14, Tryd.ntmps14
      go_wp2_with (go_at_call 24; refine (refAmount_any _ _).mono ?_; rintro e w1 ⟨rfl, rfl⟩)
      go_ret2
      exact ⟨rfl, Below.refl _ _⟩
    by_cases c4 : 1000000000000 < d
    · clear hb'
      go_enter Tryd.func14, Tryd.ntmps14
      go_wp2_with (go_at_call 24; refine (refAmount_any _ _).mono ?_; rintro e w1 ⟨rfl, rfl⟩)
      go_ret2
      exact ⟨rfl, Below.refl _ _⟩
    by_cases c5 : m < 0
    · clear hb'
      go_enter Tryd.func14, Tryd.ntmps14
      go_wp2_with (go_at_call 24; refine (refAmount_any _ _).mono ?_; rintro e w1 ⟨rfl, rfl⟩)
      go_ret2
      exact ⟨rfl, Below.refl _ _⟩
    · have c6 : 3 < m := by omega
      clear hb'
      go_enter Tryd.func14, Tryd.ntmps14
      go_wp2_with (go_at_call 24; refine (refAmount_any _ _).mono ?_; rintro e w1 ⟨rfl, rfl⟩)
      go_ret2
      exact ⟨rfl, Below.refl _ _⟩
  · obtain ⟨ha, c1, c2, c3, c4, c5, c6⟩ : amtB a = true ∧ 0 ≤ n ∧ n ≤ 1000000000000 ∧ 1 ≤ d ∧ d ≤ 1000000000000 ∧ 0 ≤ m ∧ m ≤ 3 := by
      have h := hb
      unfold scBad at h
      by_cases h0 : amtB a = false
      · exact absurd (Or.inl h0) h
      · exact ⟨by simpa using h0, by omega, by omega, by omega, by omega, by omega, by omega⟩
    obtain ⟨a1, a2⟩ := (amtB_iff a).1 ha
    obtain ⟨n', rfl⟩ := Int.eq_ofNat_of_zero_le c1
    obtain ⟨d', rfl⟩ := Int.eq_ofNat_of_zero_le (show 0 ≤ d by omega)
    have hx := refMulDiv_any a.natAbs n' d' m (by omega) (by omega) (by omega)
    have e1 : scQ a n' d' m = mdV a.natAbs n' d' m := rfl
    have e2 : scF a n' d' m = mdE a.natAbs n' d' m := rfl
    rw [← e1, ← e2] at hx
    have hV : scQ a n' d' m < 18446744073709551616 := mdV_lt _ _ _ _
    have hbig := fun h => sc_big hb (.inl h)
    have hbig2 := fun h => sc_big hb (.inr h)
    have hneg := fun h => sc_neg hb h
    have hpos := fun h => sc_pos hb h
    have hm : max a (-a) = (a.natAbs : Int) := by omega
    have hA : a.natAbs ≤ 1000000000000 := by omega
    have hna : a < 0 → -a = (a.natAbs : Int) := by omega
    have hpa : 0 ≤ a → a = (a.natAbs : Int) := by omega
    generalize scV a n' d' m = V at *
    generalize scE a n' d' m = E at *
    generalize scQ a n' d' m = q at *
    generalize scF a n' d' m = f at *
    generalize a.natAbs = A at *
    have HX := Lib.hid hx
    clear hx e1 e2 hb
    by_cases hf : f = 0
    · have bf : (f != 0) = false := by rw [hf]; rfl
      by_cases hq : 1000000000000 < q
      · obtain ⟨v1, v2⟩ := hbig2 hq
        have F1 := Lib.hid v1
        have F2 := Lib.hid v2
        clear hf v1 v2 hbig hbig2 hneg hpos
        go_enter Tryd.func14, Tryd.ntmps14
        go_wp2_with fail
        refine (refAmount_any _ _).mono ?_
        rintro e w1 ⟨rfl, rfl⟩
        go_wp2_with fail
        refine (HX.out _).mono ?_
        rintro e w2 ⟨rfl, hb2⟩
        go_wp2_with fail
        go_ret2
        exact ⟨by rw [F2.out, F1.out]; rfl, hb2⟩
      · have hno : ¬ (f ≠ 0 ∨ 1000000000000 < q) := by omega
        by_cases hs : a < 0
        · obtain ⟨v1, v2⟩ := hneg hno hs
          have F1 := Lib.hid v1
          have F2 := Lib.hid v2
          have NA := Lib.hid (hna hs)
          clear hf v1 v2 hbig hbig2 hneg hpos hno hna hpa
          go_enter Tryd.func14, Tryd.ntmps14
          go_wp2_with fail
          refine (refAmount_any _ _).mono ?_
          rintro e w1 ⟨rfl, rfl⟩
          go_wp2_with fail
          refine (HX.out _).mono ?_
          rintro e w2 ⟨rfl, hb2⟩
          go_wp2_with fail
          go_ret2
          exact ⟨by rw [F2.out, F1.out]; rfl, hb2⟩
        · obtain ⟨v1, v2⟩ := hpos hno hs
          have F1 := Lib.hid v1
          have F2 := Lib.hid v2
          have PA := Lib.hid (hpa (by omega))
          clear hf v1 v2 hbig hbig2 hneg hpos hno hna hpa
          go_enter Tryd.func14, Tryd.ntmps14
          go_wp2_with fail
          refine (refAmount_any _ _).mono ?_
          rintro e w1 ⟨rfl, rfl⟩
          go_wp2_with fail
          refine (HX.out _).mono ?_
          rintro e w2 ⟨rfl, hb2⟩
          go_wp2_with fail
          go_ret2
          exact ⟨by rw [F2.out, F1.out]; rfl, hb2⟩
    · have bf : (f != 0) = true := by rw [bne_iff_ne]; exact hf
      obtain ⟨v1, v2⟩ := hbig hf
      have F1 := Lib.hid v1
      have F2 := Lib.hid v2
      clear hf v1 v2 hbig hbig2 hneg hpos
      go_enter Tryd.func14, Tryd.ntmps14
      go_wp2_with fail
      refine (refAmount_any _ _).mono ?_
      rintro e w1 ⟨rfl, rfl⟩
      go_wp2_with fail
      refine (HX.out _).mono ?_
      rintro e w2 ⟨rfl, hb2⟩
      go_wp2_with fail
      go_ret2
      exact ⟨by rw [F2.out, F1.out]; rfl, hb2⟩

set_option maxHeartbeats 400000 in
theorem refPart_any (a r m : Int) (w : World) :
    Calls Tryd.prog 16 #[.int .i64 a, .int .i64 r, .int .i64 m] w fun e w' =>
      e = .returned (.tuple #[.int .i64 (ptV a r m), .int .i64 (ptE a r m)]) ∧ Below w.heap.size w w' := by
  by_cases hb : r < 0 ∨ 10000000 < r
  · have e1 : ptV a r m = 0 := if_pos hb
    have e2 : ptE a r m = 2 := if_pos hb
    rw [e1, e2]
    clear e1 e2
    by_cases c1 : r < 0
    · clear hb
      go_enter Tryd.func16, Tryd.ntmps16
      go_wp2
      go_ret2
      exact ⟨rfl, Below.refl _ _⟩
    · have c2 : 10000000 < r := by omega
      clear hb
      go_enter Tryd.func16, Tryd.ntmps16
      go_wp2
      go_ret2
      exact ⟨rfl, Below.refl _ _⟩
  · have e1 : ptV a r m = scV a r 1000000 m := if_neg hb
    have e2 : ptE a r m = scE a r 1000000 m := if_neg hb
    have c1 : 0 ≤ r := by omega
    have c2 : r ≤ 10000000 := by omega
    have hx := refScale_any a r 1000000 m
    rw [e1, e2]
    generalize scV a r 1000000 m = V at *
    generalize scE a r 1000000 m = E at *
    have HX := Lib.hid hx
    clear hx hb e1 e2
    go_enter Tryd.func16, Tryd.ntmps16
    go_wp2_with fail
    refine (HX.out _).mono ?_
    rintro e w1 ⟨rfl, hb1⟩
    go_wp2_with fail
    go_ret2
    exact ⟨rfl, hb1⟩
end Go.Proofs.YtbaghdiimkenkaaDoor
