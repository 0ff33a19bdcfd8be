/- The law ExactMulDiv, walked: it returns true at every input. No condition. -/
import Derived.Test.YtmoagnlkpkgflaaHas
import Derived.Test.YtmoagnlkpkgflaaRefCore
import Derived.Test.YtmoagnlkpkgflaaAwake
import Derived.Deep.RegionHeld3
namespace Go.Proofs.Ytmoagnlkpkgflaa
open Go.RowKit

/-- Where a product divided with Down has a quotient, quotient times divisor and remainder add up to the product, in words. -/
theorem back_words (a b c : Nat) (h1 : a < 18446744073709551616) (h2 : b < 18446744073709551616) (hE : mdE a b c 0 = 0) :
    0 < c ∧ mmN a b c < c ∧ sHi (hiN (mdV a b c 0) c) (loN (mdV a b c 0) c) 0 (mmN a b c) = hiN a b ∧ sLo (loN (mdV a b c 0) c) (mmN a b c) = loN a b ∧ sOv (hiN (mdV a b c 0) c) (loN (mdV a b c 0) c) 0 (mmN a b c) = false := by
  have hc : ¬ (c = 0 ∨ (0 : Int) < 0 ∨ (3 : Int) < 0) := by
    intro h
    have := (div_bad (a * b) c 0 h).2
    unfold mdE at hE
    omega
  have hc0 : 0 < c := by omega
  have hu : divUp (a * b) c 0 = a * b / c := rfl
  have hf : divUp (a * b) c 0 < 18446744073709551616 := by
    rcases Nat.lt_or_ge (divUp (a * b) c 0) 18446744073709551616 with h | h
    · exact h
    · have := (div_big (a * b) c 0 hc h).2
      unfold mdE at hE
      omega
  have hV : mdV a b c 0 = a * b / c := (div_fits (a * b) c 0 hc hf).1.trans hu
  have hM : mmN a b c = a * b % c := if_neg (by omega)
  have hdm := Nat.div_add_mod (a * b) c
  have hab : a * b < 340282366920938463463374607431768211456 := Nat.mul_lt_mul'' h1 h2
  have hlt := Nat.mod_lt (a * b) hc0
  rw [hV, hM]
  refine ⟨hc0, hlt, ?_⟩
  unfold sHi sLo sOv hiN loN
  rw [Nat.mul_comm c] at hdm
  generalize a * b / c * c = x at *
  generalize a * b % c = r at *
  generalize a * b = n at *
  refine ⟨by omega, by omega, ?_⟩
  rw [decide_eq_false_iff_not]
  omega

set_option maxHeartbeats 1000000 in
theorem exactMulDiv_walk (a b c : Nat) (m : Int) (h1 : a < 18446744073709551616) (h2 : b < 18446744073709551616) (h3 : c < 18446744073709551616) (w : World) :
    Calls Try.prog 6 #[.int .u64 a, .int .u64 b, .int .u64 c, .int .i64 m] w fun e w' => e = .returned (.bool true) ∧ Below w.heap.size w w' := by
  have hd := mulDiv_any a b c m h1 h2 h3
  have hr := refMulDiv_any a b c m h1 h2 h3
  have hm := mulMod_any a b c h1 h2 h3
  have hn := refMulMod_any a b c h1 h2 h3
  have hV := mdV_lt a b c m
  have hM := mmN_lt a b c h3
  by_cases hE : mdE a b c m = 0 ∧ m = 0
  · obtain ⟨hE0, rfl⟩ := hE
    obtain ⟨hc0, g1, g2, g3, g4⟩ := back_words a b c h1 h2 hE0
    have hx := mul_any (mdV a b c 0) c hV h3
    have hy := mul_any a b h1 h2
    have ha := fun w => add_ok (hiN (mdV a b c 0) c) (loN (mdV a b c 0) c) 0 (mmN a b c) (hiN_lt hV h3) (loN_lt _ _) (by omega) hM w g4
    rw [g2, g3] at ha
    rw [hE0] at hd hr
    generalize mdV a b c 0 = V at *
    generalize mmN a b c = M at *
    generalize hiN V c = vh at *
    generalize loN V c = vl at *
    generalize hiN a b = ph at *
    generalize loN a b = pl at *
    have HD := Lib.hid hd
    have HR := Lib.hid hr
    have HM := Lib.hid hm
    have HN := Lib.hid hn
    have HX := Lib.hid hx
    have HY := Lib.hid hy
    have HA := Lib.hid ha
    have g1' : decide (M < c) = true := decide_eq_true g1
    clear hd hr hm hn hx hy ha g2 g3 g4 hE0
    go_enter Try.func6, Try.ntmps6
    go_wp2_with fail
    refine (HD.out _).mono ?_
    rintro e w1 ⟨rfl, hb1⟩
    have hz1 := hb1.size
    go_wp2_with fail
    refine (HR.out _).mono ?_
    rintro e w2 ⟨rfl, hb2⟩
    have hz2 := hb2.size
    go_wp2_with fail
    refine (HM.out _).mono ?_
    rintro e w3 ⟨rfl, hb3⟩
    have hz3 := hb3.size
    go_wp2_with fail
    refine (HN.out _).mono ?_
    rintro e w4 ⟨rfl, hb4⟩
    have hz4 := hb4.size
    go_wp2_with fail
    refine (HX.out _).mono ?_
    rintro e w5 ⟨rfl, hb5⟩
    have hz5 := hb5.size
    go_wp2_with fail
    refine (HM.out _).mono ?_
    rintro e w6 ⟨rfl, hb6⟩
    have hz6 := hb6.size
    go_wp2_with fail
    refine (HA.out _).mono ?_
    rintro e w7 ⟨rfl, hb7⟩
    have hz7 := hb7.size
    go_wp2_with fail
    have hB : Below w.heap.size w (w7.alloc (.cells #[.int .u64 ph, .int .u64 pl] 24)) := by
      repeat (first | exact Below.refl _ _ | (refine Below.setCell ?_ (by first | omega | (simp; done) | (simp; omega)) _) | (refine below_drewN ?_ _) | (refine Below.alloc ?_ (by first | omega | (simp; done) | (simp; omega)) _) | (refine Below.trans ?_ (Below.mono (by assumption) (by first | omega | (simp; done) | (simp; omega)))))
    have hS := Has.made w7 ph pl 24
    generalize w7.alloc (.cells #[.int .u64 ph, .int .u64 pl] 24) = W at *
    generalize w7.heap.size = B at *
    clear hb1 hb2 hb3 hb4 hb5 hb6 hb7 hz1 hz2 hz3 hz4 hz5 hz6 hz7
    obtain ⟨⟨⟨c0, c1⟩, _, _⟩, z0⟩ := hS
    have zW := hB.size
    have hS0 : W.cell? ⟨B, 0, none⟩ = some (.int .u64 ph) ∧ W.cell? ⟨B, 1, none⟩ = some (.int .u64 pl) ∧ Below w.heap.size w W ∧ B < W.heap.size := ⟨c0, c1, hB, z0⟩
    go_region_held3 (fun w' => w'.cell? ⟨B, 0, none⟩ = some (.int .u64 ph) ∧ w'.cell? ⟨B, 1, none⟩ = some (.int .u64 pl) ∧ Below w.heap.size w w' ∧ B < w'.heap.size)
      (first
        | exact keeps_drew (by assumption)
        | exact keeps_call (by assumption) (by assumption))
      (first
        | (go_at_call 11; refine (HY.out _).mono ?_; rintro e w' ⟨rfl, hbk⟩)
        | (go_at_call 23; refine (HM.out _).mono ?_; rintro e w' ⟨rfl, hbk⟩)
        | (go_at_call 14; refine (awake_any _).mono ?_; rintro e w' ⟨rfl, hbk⟩))
    rename_i hh
    have hL := hh.2.2.1
    go_wp2_with fail
    go_ret
    exact ⟨rfl, hL⟩
  · have hd1 : mdE a b c m ≠ 0 ∨ m ≠ 0 := by
      by_cases h : mdE a b c m = 0
      · exact .inr fun h0 => hE ⟨h, h0⟩
      · exact .inl h
    clear hE
    generalize mdV a b c m = V at *
    generalize mdE a b c m = E at *
    generalize mmN a b c = M at *
    have HD := Lib.hid hd
    have HR := Lib.hid hr
    have HM := Lib.hid hm
    have HN := Lib.hid hn
    clear hd hr hm hn
    by_cases hE : E = 0
    · have b1 : (E != 0) = false := by rw [hE]; rfl
      have b2 : (m != 0) = true := by rw [bne_iff_ne]; omega
      clear hE hd1
      go_enter Try.func6, Try.ntmps6
      go_wp2_with fail
      refine (HD.out _).mono ?_
      rintro e w1 ⟨rfl, hb1⟩
      have hz1 := hb1.size
      go_wp2_with fail
      refine (HR.out _).mono ?_
      rintro e w2 ⟨rfl, hb2⟩
      have hz2 := hb2.size
      go_wp2_with fail
      refine (HM.out _).mono ?_
      rintro e w3 ⟨rfl, hb3⟩
      have hz3 := hb3.size
      go_wp2_with fail
      refine (HN.out _).mono ?_
      rintro e w4 ⟨rfl, hb4⟩
      have hz4 := hb4.size
      go_wp2_with fail
      refine (awake_any _).mono ?_
      rintro e w5 ⟨rfl, hb5⟩
      go_wp2_with fail
      go_ret
      exact ⟨rfl, by repeat (first | exact Below.refl _ _ | (refine Below.setCell ?_ (by first | omega | (simp; done) | (simp; omega)) _) | (refine below_drewN ?_ _) | (refine Below.alloc ?_ (by first | omega | (simp; done) | (simp; omega)) _) | (refine Below.trans ?_ (Below.mono (by assumption) (by first | omega | (simp; done) | (simp; omega)))))⟩
    · have b1 : (E != 0) = true := by rw [bne_iff_ne]; exact hE
      clear hE hd1
      go_enter Try.func6, Try.ntmps6
      go_wp2_with fail
      refine (HD.out _).mono ?_
      rintro e w1 ⟨rfl, hb1⟩
      have hz1 := hb1.size
      go_wp2_with fail
      refine (HR.out _).mono ?_
      rintro e w2 ⟨rfl, hb2⟩
      have hz2 := hb2.size
      go_wp2_with fail
      refine (HM.out _).mono ?_
      rintro e w3 ⟨rfl, hb3⟩
      have hz3 := hb3.size
      go_wp2_with fail
      refine (HN.out _).mono ?_
      rintro e w4 ⟨rfl, hb4⟩
      have hz4 := hb4.size
      go_wp2_with fail
      refine (awake_any _).mono ?_
      rintro e w5 ⟨rfl, hb5⟩
      go_wp2_with fail
      go_ret
      exact ⟨rfl, by repeat (first | exact Below.refl _ _ | (refine Below.setCell ?_ (by first | omega | (simp; done) | (simp; omega)) _) | (refine below_drewN ?_ _) | (refine Below.alloc ?_ (by first | omega | (simp; done) | (simp; omega)) _) | (refine Below.trans ?_ (Below.mono (by assumption) (by first | omega | (simp; done) | (simp; omega)))))⟩
end Go.Proofs.Ytmoagnlkpkgflaa
