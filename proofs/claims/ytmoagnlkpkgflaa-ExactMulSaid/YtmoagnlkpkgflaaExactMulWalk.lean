/- The law ExactMul, walked: it returns true at every input. No condition. -/
import Derived.Test.YtmoagnlkpkgflaaHas
import Derived.Test.YtmoagnlkpkgflaaMulEx
import Derived.Test.YtmoagnlkpkgflaaAwake
import Derived.Deep.RegionHeld3
import Derived.Deep.CutBlock
import Derived.Deep.DeepCutAuto
namespace Go.Proofs.Ytmoagnlkpkgflaa
open Go.RowKit

/-- Two products with one factor add up to the product with the sum. -/
theorem spread_words (a b c : Nat) (h1 : a < 18446744073709551616) (h : b + c < 18446744073709551616) :
    sHi (hiN a b) (loN a b) (hiN a c) (loN a c) = hiN a (b + c) ∧ sLo (loN a b) (loN a c) = loN a (b + c) ∧ sOv (hiN a b) (loN a b) (hiN a c) (loN a c) = false := by
  have e : a * (b + c) = a * b + a * c := Nat.mul_add _ _ _
  have hl : a * (b + c) < 340282366920938463463374607431768211456 := Nat.mul_lt_mul'' h1 h
  unfold sHi sLo sOv hiN loN
  rw [e] at hl ⊢
  generalize a * b = x at *
  generalize a * c = y at *
  refine ⟨by omega, by omega, ?_⟩
  rw [decide_eq_false_iff_not]
  omega

set_option maxHeartbeats 800000 in
theorem exactMul_walk (a b c : Nat) (h1 : a < 18446744073709551616) (h2 : b < 18446744073709551616) (h3 : c < 18446744073709551616) (w : World) :
    Calls Try.prog 3 #[.int .u64 a, .int .u64 b, .int .u64 c] w fun e w' => e = .returned (.bool true) ∧ Below w.heap.size w w' := by
  have hx := mul_any a b h1 h2
  have hy := mul_any b a h2 h1
  have hr := refMul_any a b h1 h2
  rw [show hiN b a = hiN a b from by unfold hiN; rw [Nat.mul_comm], show loN b a = loN a b from by unfold loN; rw [Nat.mul_comm]] at hy
  have hs : ∀ w, Calls Try.prog 12 #[.agg #[.int .u64 (hiN a b), .int .u64 (loN a b)], .agg #[.int .u64 (hiN a b), .int .u64 (loN a b)]] w fun e w' =>
      e = .returned (.bool true) ∧ Below w.heap.size w w' := by
    intro w
    have h := same_any (hiN a b) (loN a b) (hiN a b) (loN a b) w
    rw [decide_eq_true ⟨rfl, rfl⟩] at h
    exact h
  by_cases hbc : b + c < 18446744073709551616
  · obtain ⟨g1, g2, g3⟩ := spread_words a b c h1 hbc
    have hz := mul_ex a c h1 h3
    have ha := fun w => add_ex (hiN a b) (loN a b) (hiN a c) (loN a c) (hiN_lt h1 h2) (loN_lt _ _) (hiN_lt h1 h3) (loN_lt _ _) w g3
    rw [g1, g2] at ha
    have hw := mul_any a (b + c) h1 hbc
    rw [show ((b + c : Nat) : Int) = (b : Int) + (c : Int) from by simp] at hw
    clear g1 g2 g3
    generalize hiN a b = ph at *
    generalize loN a b = pl at *
    generalize hiN a c = qh at *
    generalize loN a c = ql at *
    generalize hiN a (b + c) = sh at *
    generalize loN a (b + c) = sl at *
    have HX := Lib.hid hx
    have HY := Lib.hid hy
    have HR := Lib.hid hr
    have HS := Lib.hid hs
    have HZ := Lib.hid hz
    have HA := Lib.hid ha
    have HW := Lib.hid hw
    clear hx hy hr hs hz ha hw
    go_enter Try.func3, Try.ntmps3
    go_wp2_with fail
    refine (HX.out _).mono ?_
    rintro e w1 ⟨rfl, hb1⟩
    have hz1 := hb1.size
    go_wp2_with fail
    have hB : Below w.heap.size w (w1.alloc (.cells #[.int .u64 ph, .int .u64 pl] 24)) := (hb1.alloc hz1 _)
    obtain ⟨⟨⟨c0, c1⟩, _, _⟩, z0⟩ := Has.made w1 ph pl 24
    generalize w1.alloc (.cells #[.int .u64 ph, .int .u64 pl] 24) = W at *
    generalize w1.heap.size = B at *
    have hS0 : W.cell? ⟨B, 0, none⟩ = some (.int .u64 ph) ∧ W.cell? ⟨B, 1, none⟩ = some (.int .u64 pl) ∧ Below w.heap.size w W ∧ B < W.heap.size := ⟨c0, c1, hB, z0⟩
    go_region_held3 (fun w' => w'.cell? ⟨B, 0, none⟩ = some (.int .u64 ph) ∧ w'.cell? ⟨B, 1, none⟩ = some (.int .u64 pl) ∧ Below w.heap.size w w' ∧ B < w'.heap.size)
      (first
        | exact keeps_drew (by assumption)
        | exact keeps_call (by assumption) (by assumption))
      (first
        | (go_at_call 13; refine (HR.out _).mono ?_; rintro e w' ⟨rfl, hbk⟩)
        | (go_at_call 12; refine (HS.out _).mono ?_; rintro e w' ⟨rfl, hbk⟩)
        | (go_at_call 11; refine (HY.out _).mono ?_; rintro e w' ⟨rfl, hbk⟩))
    rename_i hh
    have hL := hh.2.2.1
    have hz9 := hh.2.2.2
    clear hB c0 c1 z0 hS0 hb1 hz1
    go_upto_region 6 with fail
    obtain ⟨l0, l1, _, _⟩ := hh
    have l2 := World.new_ne _ _ l0
    have l3 := World.new_ne _ _ l1
    go_cut [8, 9] (fun s8 s9 wx => ∃ D : Nat, s8 = .pointer (some ⟨D, 0, none⟩) ∧ s9 = .int .i64 0 ∧ (wx.cell? ⟨D, 0, none⟩ = some (.int .u64 sh) ∧ wx.cell? ⟨D, 1, none⟩ = some (.int .u64 sl) ∧ Below w.heap.size w wx ∧ D < wx.heap.size))
    case first =>
      go_region_held3 (fun w' => w'.cell? ⟨B, 0, none⟩ = some (.int .u64 ph) ∧ w'.cell? ⟨B, 1, none⟩ = some (.int .u64 pl))
        (exact ⟨by repeat (first | assumption | refine cell_alloc ?_ | refine cell_drew ?_), by repeat (first | assumption | refine cell_alloc ?_ | refine cell_drew ?_)⟩)
        (first
          | (go_at_call 11; refine (HZ.out _).mono ?_; rintro e w' ⟨rfl, x1, rfl⟩)
          | (go_at_call 15; refine (HA.out _).mono ?_; rintro e w' ⟨rfl, x1, x2, x3, rfl⟩))
      all_goals
        have hz8 := hL.size
        go_wp2_with fail
        go_meet
        refine ⟨_, rfl, rfl, ?_, ?_, ?_, ?_⟩
        · simp [go_sem]
        · simp [go_sem]
        · repeat (first | exact hL | (refine Below.drew ?_) | (refine below_drewN ?_ _) | (refine Below.alloc ?_ (by first | omega | (simp; done) | (simp; omega)) _))
        · first | (simp [World.drew]; done) | (simp [World.drew]; omega)
    case rest =>
      obtain ⟨D, rfl, rfl, hS1⟩ := hcut
      clear hL hz9 l0 l1 l2 l3
      have hwr : IntKind.u64.wrap ((b : Int) + (c : Int)) = (b : Int) + (c : Int) := by rw [IntKind.wrap_u64]; omega
      go_wp2_with fail
      go_region_held3 (fun w' => w'.cell? ⟨D, 0, none⟩ = some (.int .u64 sh) ∧ w'.cell? ⟨D, 1, none⟩ = some (.int .u64 sl) ∧ Below w.heap.size w w' ∧ D < w'.heap.size)
        (first
          | exact keeps_drew (by assumption)
          | exact keeps_call (by assumption) (by assumption))
        (first
          | (go_at_call 11; refine (HW.out _).mono ?_; rintro e w' ⟨rfl, hbk⟩)
          | (go_at_call 14; refine (awake_any _).mono ?_; rintro e w' ⟨rfl, hbk⟩))
      rename_i hh
      have hL := hh.2.2.1
      go_wp2_with fail
      go_ret
      exact ⟨rfl, hL⟩
  · have hlt : decide (IntKind.u64.wrap ((b : Int) + (c : Int)) < (b : Int)) = true := decide_eq_true (by rw [IntKind.wrap_u64]; omega)
    generalize hiN a b = ph at *
    generalize loN a b = pl at *
    have HX := Lib.hid hx
    have HY := Lib.hid hy
    have HR := Lib.hid hr
    have HS := Lib.hid hs
    clear hx hy hr hs hbc
    go_enter Try.func3, Try.ntmps3
    go_wp2_with fail
    refine (HX.out _).mono ?_
    rintro e w1 ⟨rfl, hb1⟩
    have hz1 := hb1.size
    go_wp2_with fail
    have hB : Below w.heap.size w (w1.alloc (.cells #[.int .u64 ph, .int .u64 pl] 24)) := (hb1.alloc hz1 _)
    obtain ⟨⟨⟨c0, c1⟩, _, _⟩, z0⟩ := Has.made w1 ph pl 24
    generalize w1.alloc (.cells #[.int .u64 ph, .int .u64 pl] 24) = W at *
    generalize w1.heap.size = B at *
    have hS0 : W.cell? ⟨B, 0, none⟩ = some (.int .u64 ph) ∧ W.cell? ⟨B, 1, none⟩ = some (.int .u64 pl) ∧ Below w.heap.size w W ∧ B < W.heap.size := ⟨c0, c1, hB, z0⟩
    go_region_held3 (fun w' => w'.cell? ⟨B, 0, none⟩ = some (.int .u64 ph) ∧ w'.cell? ⟨B, 1, none⟩ = some (.int .u64 pl) ∧ Below w.heap.size w w' ∧ B < w'.heap.size)
      (first
        | exact keeps_drew (by assumption)
        | exact keeps_call (by assumption) (by assumption))
      (first
        | (go_at_call 13; refine (HR.out _).mono ?_; rintro e w' ⟨rfl, hbk⟩)
        | (go_at_call 12; refine (HS.out _).mono ?_; rintro e w' ⟨rfl, hbk⟩)
        | (go_at_call 11; refine (HY.out _).mono ?_; rintro e w' ⟨rfl, hbk⟩))
    rename_i hh
    have hL := hh.2.2.1
    go_wp2_with fail
    refine (awake_any _).mono ?_
    rintro e w9 ⟨rfl, hb9⟩
    go_wp2_with fail
    go_ret
    exact ⟨rfl, hL.trans (hb9.mono hL.size)⟩
end Go.Proofs.Ytmoagnlkpkgflaa
