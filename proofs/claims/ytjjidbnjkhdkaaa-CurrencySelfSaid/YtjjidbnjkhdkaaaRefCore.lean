/- What Div, MulDiv and MulMod of the reference of the package exact return, for every input. No condition. -/
import Derived.Test.YtjjidbnjkhdkaaaCore2
import Derived.Deep.CutBlock
import Derived.Deep.DeepCutAuto
namespace Go.Proofs.Ytjjidbnjkhdkaaa
open Go.RowKit

theorem refAdd_1 (n : Nat) (h : n + 1 < 340282366920938463463374607431768211456) (w : World) :
    Calls Try.prog 48 #[.agg #[.int .u64 (wHi n), .int .u64 (wLo n)], .agg #[.int .u64 0, .int .u64 1]] w fun e w' =>
      e = .returned (.tuple #[.agg #[.int .u64 (wHi (n + 1)), .int .u64 (wLo (n + 1))], .bool false]) ∧ Below w.heap.size w w' :=
  refAdd_one n 1 (by omega) h w

theorem low_bit (q : Nat) : ∃ o : Nat, bits .and .u64 (wLo q : Int) 1 = (o : Int) ∧ ((o : Int) == 1) = decide (q % 2 = 1) := by
  refine ⟨wLo q % 2, ?_, ?_⟩
  · have h := bit_val (wLo q) 0 (wLo_lt q)
    simpa using h
  · rw [Bool.eq_iff_iff]
    simp
    unfold wLo
    omega

set_option maxHeartbeats 1000000 in
theorem refDiv_any (hi lo c : Nat) (m : Int) (h1 : hi < 18446744073709551616) (h2 : lo < 18446744073709551616) (h3 : c < 18446744073709551616) (w : World) :
    Calls Try.prog 41 #[.agg #[.int .u64 hi, .int .u64 lo], .int .u64 c, .int .i64 m] w fun e w' =>
      e = .returned (.tuple #[.int .u64 (divV (hi * 18446744073709551616 + lo) c m), .int .i64 (divE (hi * 18446744073709551616 + lo) c m)]) ∧ Below w.heap.size w w' := by
  by_cases hb : c = 0 ∨ m < 0 ∨ 3 < m
  · rw [(div_bad (hi * 18446744073709551616 + lo) c m hb).1, (div_bad (hi * 18446744073709551616 + lo) c m hb).2]
    by_cases hc : c = 0
    · have e1 : ((c : Int) == 0) = true := by rw [beq_iff_eq]; omega
      clear hb hc
      go_enter Try.func41, Try.ntmps41
      go_wp2
      go_ret2
      exact ⟨rfl, by repeat (first | exact Below.refl _ _ | (refine Below.setCell ?_ (by first | omega | (simp; done) | (simp; omega)) _) | (refine below_drewN ?_ _) | (refine Below.alloc ?_ (by first | omega | (simp; done) | (simp; omega)) _) | (refine Below.trans ?_ (Below.mono (by assumption) (by first | omega | (simp; done) | (simp; omega)))))⟩
    · have e1 : ((c : Int) == 0) = false := by rw [beq_eq_false_iff_ne]; omega
      by_cases hm : m < 0
      · clear hb hc
        go_enter Try.func41, Try.ntmps41
        go_wp2
        go_ret2
        exact ⟨rfl, by repeat (first | exact Below.refl _ _ | (refine Below.setCell ?_ (by first | omega | (simp; done) | (simp; omega)) _) | (refine below_drewN ?_ _) | (refine Below.alloc ?_ (by first | omega | (simp; done) | (simp; omega)) _) | (refine Below.trans ?_ (Below.mono (by assumption) (by first | omega | (simp; done) | (simp; omega)))))⟩
      · have hm3 : 3 < m := by omega
        clear hb hc
        go_enter Try.func41, Try.ntmps41
        go_wp2
        go_ret2
        exact ⟨rfl, by repeat (first | exact Below.refl _ _ | (refine Below.setCell ?_ (by first | omega | (simp; done) | (simp; omega)) _) | (refine below_drewN ?_ _) | (refine Below.alloc ?_ (by first | omega | (simp; done) | (simp; omega)) _) | (refine Below.trans ?_ (Below.mono (by assumption) (by first | omega | (simp; done) | (simp; omega)))))⟩
  · have hc : 0 < c := by omega
    have hm0 : 0 ≤ m := by omega
    have hm3 : m ≤ 3 := by omega
    have e1 : ((c : Int) == 0) = false := by rw [beq_eq_false_iff_ne]; omega
    obtain ⟨n, hn⟩ : ∃ n, n = hi * 18446744073709551616 + lo := ⟨_, rfl⟩
    have hn2 : n < 340282366920938463463374607431768211456 := by omega
    have hcall := fun w => refDivMod_any hi lo c h1 h2 h3 hc n hn w
    rw [← hn]
    clear hn
    have hr : n % c < c := Nat.mod_lt _ hc
    have hq1 : upN (n / c) (n % c) c m = true → n / c + 1 < 340282366920938463463374607431768211456 := by
      intro hu
      have h2c : 2 ≤ c := by
        rcases Nat.lt_or_ge c 2 with h | h
        · have hc1 : c = 1 := by omega
          rw [hc1] at hu hr
          have hr0 : n % 1 = 0 := by omega
          rw [hr0] at hu
          simp [upN] at hu
        · exact h
      have := Nat.div_le_div_left h2c (by omega) (a := n)
      omega
    obtain ⟨V, hV⟩ : ∃ V, V = divV n c m := ⟨_, rfl⟩
    obtain ⟨E, hE⟩ : ∃ E, E = divE n c m := ⟨_, rfl⟩
    rw [← hV, ← hE]
    have hbig : 18446744073709551616 ≤ divUp n c m → V = 0 ∧ E = 3 := by
      intro h; rw [hV, hE]; exact div_big n c m hb h
    have hfit : divUp n c m < 18446744073709551616 → V = divUp n c m ∧ E = 0 := by
      intro h; rw [hV, hE]; exact div_fits n c m hb h
    unfold divUp at hbig hfit
    clear hV hE hb
    have hqb : n / c < 340282366920938463463374607431768211456 := Nat.lt_of_le_of_lt (Nat.div_le_self _ _) hn2
    generalize n / c = q at *
    generalize n % c = r at *
    have HC := Lib.hid hcall
    obtain ⟨o, ho1, ho2⟩ := low_bit q
    have e2 : (c : Int) - (r : Int) = ((c - r : Nat) : Int) := by omega
    have hcr : c - r < 18446744073709551616 := by omega
    obtain ⟨t, ht⟩ : ∃ t, t = c - r := ⟨_, rfl⟩
    rw [← ht] at e2 hcr
    have HT := Lib.hid ht
    obtain ⟨u, hu⟩ : ∃ u, u = upN q r c m := ⟨_, rfl⟩
    rw [← hu] at hbig hfit hq1
    have HU := Lib.hid hu
    have HB := Lib.hid hbig
    have HF := Lib.hid hfit
    clear hcall ht hu hbig hfit
    go_enter Try.func41, Try.ntmps41
    go_wp2_with fail
    refine (HC.out _).mono ?_
    rintro e w1 ⟨rfl, hb1⟩
    have hz1 := hb1.size
    simp at hz1
    go_upto_block 0 with fail
    go_cut [10] (fun s wx => s = .bool u ∧ wx = w1.alloc (.cells #[.int .u64 (wHi q), .int .u64 (wLo q)] 72))
    case first =>
      have HU' := HU.out
      clear HC HB HF hq1
      obtain h | h | h | h : m = 0 ∨ m = 1 ∨ m = 2 ∨ m = 3 := by omega
      · have b1 : (m == 1) = false := by rw [h]; rfl
        have b2 : (m == 2) = false := by rw [h]; rfl
        have b3 : (m == 3) = false := by rw [h]; rfl
        have hu : u = false := by rw [HU', h]; rfl
        clear h HU'
        have hu' := Lib.hid hu
        clear hu
        go_wp2_with fail
        go_meet
        exact ⟨by rw [hu'.out], rfl⟩
      · have b1 : (m == 1) = true := by rw [h]; rfl
        have hu : u = decide (0 < r) := by rw [HU', h]; rfl
        clear h HU'
        have hu' := Lib.hid hu
        clear hu
        go_wp2_with fail
        go_meet
        exact ⟨by rw [hu'.out], rfl⟩
      · have b1 : (m == 1) = false := by rw [h]; rfl
        have b2 : (m == 2) = true := by rw [h]; rfl
        have hu : u = decide (t ≤ r) := by
          rw [HU', h]
          show decide (c ≤ r + r) = decide (t ≤ r)
          have := HT.out
          rw [Bool.eq_iff_iff]
          simp
          omega
        clear h HU'
        have hu' := Lib.hid hu
        clear hu
        go_wp2_with fail
        go_meet
        exact ⟨by rw [hu'.out], rfl⟩
      · have b1 : (m == 1) = false := by rw [h]; rfl
        have b2 : (m == 2) = false := by rw [h]; rfl
        have b3 : (m == 3) = true := by rw [h]; rfl
        have hu : u = (decide (c < r + r) || (decide (r + r = c) && decide (q % 2 = 1))) := by rw [HU', h]; rfl
        clear h HU'
        have ht := HT.out
        rcases Nat.lt_trichotomy r t with h | h | h
        · have d1 : decide (t < r) = false := decide_eq_false (by omega)
          have d2 : ((r : Int) == (t : Int)) = false := by rw [beq_eq_false_iff_ne]; omega
          have hu2 : u = false := by rw [hu]; simp; omega
          have hu' := Lib.hid hu2
          clear hu hu2 ht
          go_wp2_with fail
          go_meet
          exact ⟨by rw [hu'.out], rfl⟩
        · have d1 : decide (t < r) = false := decide_eq_false (by omega)
          have d2 : ((r : Int) == (t : Int)) = true := by rw [beq_iff_eq]; omega
          have hu2 : u = decide (q % 2 = 1) := by
            rw [hu, show decide (c < r + r) = false from decide_eq_false (by omega), show decide (r + r = c) = true from decide_eq_true (by omega)]
            rfl
          have hu' := Lib.hid hu2
          clear hu hu2 ht h
          go_wp2_with fail
          go_meet
          exact ⟨by rw [hu'.out], rfl⟩
        · have d1 : decide (t < r) = true := decide_eq_true (by omega)
          have hu2 : u = true := by rw [hu, show decide (c < r + r) = true from decide_eq_true (by omega)]; rfl
          have hu' := Lib.hid hu2
          clear hu hu2 ht h
          go_wp2_with fail
          go_meet
          exact ⟨by rw [hu'.out], rfl⟩
    case rest =>
      obtain ⟨rfl, rfl⟩ := hcut
      clear HU HT HC e2 ho1 ho2
      cases u with
      | false =>
        have HB' := HB.out
        have HF' := HF.out
        simp only [Bool.false_eq_true, if_false, Nat.add_zero] at HB' HF'
        rcases Nat.lt_or_ge q 18446744073709551616 with hf | hf
        · obtain ⟨f1, f2⟩ := HF' hf
          have e5 : wHi q = 0 := by unfold wHi; omega
          have e6 : wLo q = V := by unfold wLo; omega
          have F2 := Lib.hid f2
          clear HB HF HB' HF' hq1 f1 f2
          go_wp2_with fail
          go_ret2
          exact ⟨by rw [F2.out]; rfl, by repeat (first | exact Below.refl _ _ | (refine Below.setCell ?_ (by first | omega | (simp; done) | (simp; omega)) _) | (refine below_drewN ?_ _) | (refine Below.alloc ?_ (by first | omega | (simp; done) | (simp; omega)) _) | (refine Below.trans ?_ (Below.mono (by assumption) (by first | omega | (simp; done) | (simp; omega)))))⟩
        · obtain ⟨f1, f2⟩ := HB' hf
          have e5 : 0 < wHi q := by unfold wHi; omega
          have F1 := Lib.hid f1
          have F2 := Lib.hid f2
          clear HB HF HB' HF' hq1 f1 f2
          go_wp2_with fail
          go_ret2
          exact ⟨by rw [F2.out, F1.out]; rfl, by repeat (first | exact Below.refl _ _ | (refine Below.setCell ?_ (by first | omega | (simp; done) | (simp; omega)) _) | (refine below_drewN ?_ _) | (refine Below.alloc ?_ (by first | omega | (simp; done) | (simp; omega)) _) | (refine Below.trans ?_ (Below.mono (by assumption) (by first | omega | (simp; done) | (simp; omega)))))⟩
      | true =>
        have HB' := HB.out
        have HF' := HF.out
        have hq2 := hq1 rfl
        simp only [if_true] at HB' HF'
        have tc : TwoCells (w1.alloc (.cells #[.int .u64 (wHi q), .int .u64 (wLo q)] 72)) w1.heap.size (wHi q) (wLo q) := by
          unfold TwoCells
          simp [go_sem]
        rcases Nat.lt_or_ge (q + 1) 18446744073709551616 with hf | hf
        · obtain ⟨f1, f2⟩ := HF' hf
          have e5 : wHi (q + 1) = 0 := by unfold wHi; omega
          have e6 : wLo (q + 1) = V := by unfold wLo; omega
          have F2 := Lib.hid f2
          clear HB HF HB' HF' hq1 f1 f2
          go_wp2_with fail
          refine (refAdd_1 q hq2 _).mono ?_
          rintro e w2 ⟨rfl, hb2⟩
          have hz2 := hb2.size
          simp at hz2
          obtain ⟨⟨c0, c1⟩, g0, g1⟩ := tc.keep hb2 (by simp)
          go_wp2_with fail
          go_ret2
          exact ⟨by rw [F2.out]; rfl, by repeat (first | exact Below.refl _ _ | (refine Below.setCell ?_ (by first | omega | (simp; done) | (simp; omega)) _) | (refine below_drewN ?_ _) | (refine Below.alloc ?_ (by first | omega | (simp; done) | (simp; omega)) _) | (refine Below.trans ?_ (Below.mono (by assumption) (by first | omega | (simp; done) | (simp; omega)))))⟩
        · obtain ⟨f1, f2⟩ := HB' hf
          have e5 : 0 < wHi (q + 1) := by unfold wHi; omega
          have F1 := Lib.hid f1
          have F2 := Lib.hid f2
          clear HB HF HB' HF' hq1 f1 f2
          go_wp2_with fail
          refine (refAdd_1 q hq2 _).mono ?_
          rintro e w2 ⟨rfl, hb2⟩
          have hz2 := hb2.size
          simp at hz2
          obtain ⟨⟨c0, c1⟩, g0, g1⟩ := tc.keep hb2 (by simp)
          go_wp2_with fail
          go_ret2
          exact ⟨by rw [F2.out, F1.out]; rfl, by repeat (first | exact Below.refl _ _ | (refine Below.setCell ?_ (by first | omega | (simp; done) | (simp; omega)) _) | (refine below_drewN ?_ _) | (refine Below.alloc ?_ (by first | omega | (simp; done) | (simp; omega)) _) | (refine Below.trans ?_ (Below.mono (by assumption) (by first | omega | (simp; done) | (simp; omega)))))⟩

set_option maxHeartbeats 400000 in
theorem refMulDiv_any (a b c : Nat) (m : Int) (h1 : a < 18446744073709551616) (h2 : b < 18446744073709551616) (h3 : c < 18446744073709551616) (w : World) :
    Calls Try.prog 34 #[.int .u64 a, .int .u64 b, .int .u64 c, .int .i64 m] w fun e w' =>
      e = .returned (.tuple #[.int .u64 (mdV a b c m), .int .i64 (mdE a b c m)]) ∧ Below w.heap.size w w' := by
  have hl := loN_lt a b
  have hh := hiN_lt h1 h2
  have hd := fun w => refDiv_any (hiN a b) (loN a b) c m hh hl h3 w
  rw [hilo] at hd
  change ∀ w, Calls _ _ _ _ (fun e w' => e = .returned (.tuple #[.int .u64 (mdV a b c m), .int .i64 (mdE a b c m)]) ∧ Below w.heap.size w w') at hd
  have HD := Lib.hid hd
  clear hd
  go_enter Try.func34, Try.ntmps34
  go_wp2_with fail
  refine (refMul_any a b h1 h2 _).mono ?_
  rintro e w1 ⟨rfl, hb1⟩
  have hz1 := hb1.size
  go_wp2_with fail
  refine (HD.out _).mono ?_
  rintro e w2 ⟨rfl, hb2⟩
  go_wp2_with fail
  go_ret2
  exact ⟨rfl, by repeat (first | exact Below.refl _ _ | (refine Below.setCell ?_ (by first | omega | (simp; done) | (simp; omega)) _) | (refine below_drewN ?_ _) | (refine Below.alloc ?_ (by first | omega | (simp; done) | (simp; omega)) _) | (refine Below.trans ?_ (Below.mono (by assumption) (by first | omega | (simp; done) | (simp; omega)))))⟩

end Go.Proofs.Ytjjidbnjkhdkaaa
