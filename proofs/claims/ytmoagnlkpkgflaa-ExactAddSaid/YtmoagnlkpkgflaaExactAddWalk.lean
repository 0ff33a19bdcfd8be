/- The law ExactAdd, walked: it returns true at every input. No condition. -/
import Derived.Test.YtmoagnlkpkgflaaHas
import Derived.Test.YtmoagnlkpkgflaaAwake
namespace Go.Proofs.Ytmoagnlkpkgflaa
open Go.RowKit

set_option maxHeartbeats 1000000 in
theorem exactAdd_walk (a b c d : Nat) (h1 : a < 18446744073709551616) (h2 : b < 18446744073709551616) (h3 : c < 18446744073709551616) (h4 : d < 18446744073709551616) (w : World) :
    Calls Try.prog 4 #[.int .u64 a, .int .u64 b, .int .u64 c, .int .u64 d] w fun e w' => e = .returned (.bool true) ∧ Below w.heap.size w w' := by
  have hr := refAdd_any a b c d h1 h2 h3 h4
  have k1 := (Has.made w a b 24).alloc (.cells #[.int .u64 c, .int .u64 d] 24)
  have k2 : Has ((w.alloc (.cells #[.int .u64 a, .int .u64 b] 24)).alloc (.cells #[.int .u64 c, .int .u64 d] 24)) (w.heap.size + 1) c d := by
    have h := Has.made (w.alloc (.cells #[.int .u64 a, .int .u64 b] 24)) c d 24
    have e : (w.alloc (.cells #[.int .u64 a, .int .u64 b] 24)).heap.size = w.heap.size + 1 := by simp
    rw [e] at h
    exact h
  by_cases ho : sOv a b c d = true
  · have hx := fun w => add_over a b c d h1 h2 h3 h4 w ho
    rw [ho] at hr
    have HX := Lib.hid hx
    have HR := Lib.hid hr
    clear hx hr ho
    go_enter Try.func4, Try.ntmps4
    go_wp2_with fail
    refine (HX.out _).mono ?_
    rintro e w1 ⟨rfl, hb1⟩
    have hz1 := hb1.size
    simp at hz1
    go_wp2_with fail
    refine (HR.out _).mono ?_
    rintro e w2 ⟨rfl, hb2⟩
    have hz2 := hb2.size
    simp at hz2
    obtain ⟨⟨⟨c0, c1⟩, f0, f1⟩, z1⟩ := (Has.made w1 0 0 24).keep hb2
    go_wp2_with fail
    refine (awake_any _).mono ?_
    rintro e w3 ⟨rfl, hb3⟩
    go_wp2_with fail
    go_ret
    exact ⟨rfl, by repeat (first | exact Below.refl _ _ | (refine Below.setCell ?_ (by first | omega | (simp; done) | (simp; omega)) _) | (refine below_drewN ?_ _) | (refine Below.alloc ?_ (by first | omega | (simp; done) | (simp; omega)) _) | (refine Below.trans ?_ (Below.mono (by assumption) (by first | omega | (simp; done) | (simp; omega)))))⟩
  · have ho' : sOv a b c d = false := by simpa using ho
    have hx := fun w => add_ok a b c d h1 h2 h3 h4 w ho'
    rw [ho'] at hr
    have hs : ∀ w, Calls Try.prog 12 #[.agg #[.int .u64 (sHi a b c d), .int .u64 (sLo b d)], .agg #[.int .u64 (sHi a b c d), .int .u64 (sLo b d)]] w fun e w' =>
        e = .returned (.bool true) ∧ Below w.heap.size w w' := by
      intro w
      have h := same_any (sHi a b c d) (sLo b d) (sHi a b c d) (sLo b d) w
      rw [decide_eq_true ⟨rfl, rfl⟩] at h
      exact h
    have hcw := wide_any a b c d
    have hco := refOrder_any a b c d
    rw [← cmpW_ordW] at hco
    have hcs := wide_any (sHi a b c d) (sLo b d) a b
    have hn : 0 ≤ cmpW (sHi a b c d) (sLo b d) a b := by
      rw [cmpW_num _ _ _ _ (by unfold sLo; omega) h2]
      refine cmpN_nonneg ?_
      unfold sOv at ho'
      simp at ho'
      unfold sHi sLo
      omega
    generalize cmpW (sHi a b c d) (sLo b d) a b = u at *
    generalize cmpW a b c d = v at *
    have hnd : decide (0 ≤ u) = true := decide_eq_true hn
    generalize sHi a b c d = sh at *
    generalize sLo b d = sl at *
    have HX := Lib.hid hx
    have HR := Lib.hid hr
    have HS := Lib.hid hs
    have HCW := Lib.hid hcw
    have HCO := Lib.hid hco
    have HCS := Lib.hid hcs
    clear hx hr ho ho' hs hcw hco hcs hn
    go_enter Try.func4, Try.ntmps4
    go_wp2_with fail
    refine (HX.out _).mono ?_
    rintro e w1 ⟨rfl, hb1⟩
    have hz1 := hb1.size
    simp at hz1
    have m1 := k1.keep hb1
    have m2 := k2.keep hb1
    have m1a := m1.alloc (.cells #[.int .u64 sh, .int .u64 sl] 24)
    have m2a := m2.alloc (.cells #[.int .u64 sh, .int .u64 sl] 24)
    go_wp2_with fail
    refine (HR.out _).mono ?_
    rintro e w2 ⟨rfl, hb2⟩
    have hz2 := hb2.size
    simp at hz2
    have o1 := m1a.keep hb2
    have o2 := m2a.keep hb2
    have o3 := (Has.made w1 sh sl 24).keep hb2
    have o1a := o1.alloc (.cells #[.int .u64 sh, .int .u64 sl] 27)
    have o2a := o2.alloc (.cells #[.int .u64 sh, .int .u64 sl] 27)
    have o3a := o3.alloc (.cells #[.int .u64 sh, .int .u64 sl] 27)
    obtain ⟨⟨⟨c1, c2⟩, f1, f2⟩, z1⟩ := id o3
    obtain ⟨⟨⟨c3, c4⟩, f3, f4⟩, z2⟩ := id o1
    obtain ⟨⟨⟨c5, c6⟩, f5, f6⟩, z3⟩ := id o2
    go_wp2_with fail
    refine (HS.out _).mono ?_
    rintro e w3 ⟨rfl, hb3⟩
    have hz3 := hb3.size
    simp at hz3
    have p1 := o1a.keep hb3
    have p2 := o2a.keep hb3
    have p3 := o3a.keep hb3
    obtain ⟨⟨⟨c7, c8⟩, f7, f8⟩, z4⟩ := id p1
    obtain ⟨⟨⟨c9, c10⟩, f9, f10⟩, z5⟩ := id p2
    go_wp2_with fail
    refine (HCW.out _).mono ?_
    rintro e w4 ⟨rfl, hb4⟩
    have hz4 := hb4.size
    have q1 := p1.keep hb4
    have q3 := p3.keep hb4
    go_wp2_with fail
    refine (HCO.out _).mono ?_
    rintro e w5 ⟨rfl, hb5⟩
    have hz5 := hb5.size
    obtain ⟨⟨⟨c11, c12⟩, f11, f12⟩, z6⟩ := q1.keep hb5
    obtain ⟨⟨⟨c13, c14⟩, f13, f14⟩, z7⟩ := q3.keep hb5
    go_wp2_with fail
    refine (HCS.out _).mono ?_
    rintro e w6 ⟨rfl, hb6⟩
    have hz6 := hb6.size
    go_wp2_with fail
    refine (awake_any _).mono ?_
    rintro e w7 ⟨rfl, hb7⟩
    go_wp2_with fail
    go_ret
    exact ⟨rfl, by repeat (first | exact Below.refl _ _ | (refine Below.setCell ?_ (by first | omega | (simp; done) | (simp; omega)) _) | (refine below_drewN ?_ _) | (refine Below.alloc ?_ (by first | omega | (simp; done) | (simp; omega)) _) | (refine Below.trans ?_ (Below.mono (by assumption) (by first | omega | (simp; done) | (simp; omega)))))⟩
end Go.Proofs.Ytmoagnlkpkgflaa
