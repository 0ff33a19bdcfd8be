/- What AddMonths of the package calendar returns, for every input. Condition: the package's table holds what the program lays in it. -/
import Derived.Test.YtnegiopbccllcaaDoorCalCode1
import Derived.Test.YtnegiopbccllcaaDoorCalRef3
namespace Go.Proofs.YtnegiopbccllcaaDoor
open Go.RowKit

set_option maxRecDepth 100000 in
set_option maxHeartbeats 1600000 in
theorem calAddMonths_in (d : Nat) (hd : d ≤ 36524) (k : Nat) (hk : k < 1200) (n : Int) (hn : (monthOf d : Int) + n = k) (w : World) (hT : CalTab w) :
    Calls Tryd.prog 20 #[.int .i64 d, .int .i64 n] w fun e w' => e = .returned (.tuple #[.int .i64 (amDay d k), .int .i64 0]) ∧ Below w.heap.size w w' := by
  have hm := month_lt hd
  have HD := Lib.hid (isDay_any d)
  rw [show dayB (d : Int) = true from (dayB_iff _).2 (by omega)] at HD
  have HW := Lib.hid (fun lo hi x b w1 h => calWithin_one lo hi x b w1 h)
  have HM := Lib.hid (fun w1 (h : CalTab w1) => monthOf_any d hd w1 h)
  have HL := Lib.hid (fun w1 (h : CalTab w1) => length_any k hk w1 h)
  have HF := Lib.hid (fun w1 (h : CalTab w1) => firstDay_any k (by omega) w1 h)
  have HG := Lib.hid (fun w1 (h : CalTab w1) => firstDay_any (monthOf d) (by omega) w1 h)
  have hdd := dom_bounds d
  have hlb := lenK_bounds k
  have hmb : msK k ≤ 36525 := by rw [← ms_end]; exact ms_mono (by omega)
  have hgb : msK (monthOf d) ≤ d := (month_spec d).1
  have hA := Lib.hid (show ((amDay d k : Nat) : Int) = (msK k : Int) + min ((d : Int) - (msK (monthOf d) : Nat)) ((lenK k : Int) - 1) by unfold amDay domOf; omega)
  have dn : (decide (-1200 ≤ n) && decide (n ≤ 1200)) = true := by simp; omega
  have dk : (decide (0 ≤ (k : Int)) && decide ((k : Int) ≤ 1199)) = true := by simp; omega
  generalize amDay d k = A at *
  have hdl : d - msK (monthOf d) ≤ 36524 := by omega
  clear hdd
  generalize lenK k = L at *
  generalize msK k = F at *
  generalize msK (monthOf d) = G at *
  generalize monthOf d = M at *
  go_enter Tryd.func20, Tryd.ntmps20
  go_wp2_with fail
  refine (HD.out _).mono ?_
  rintro e w1 ⟨rfl, hB1⟩
  clear HD
  go_wp2_with fail
  have hB2 := hB1.alloc (o := .cells #[.int .i64 n] 3) hB1.size
  refine (HW.out (-1200) 1200 n _ _ (by simp [go_sem])).mono ?_
  rintro e w2 ⟨rfl, rfl⟩
  rw [dn]
  clear hB1 dn
  generalize w1.alloc (.cells #[.int .i64 n] 3) = W2 at *
  go_wp2_with fail
  refine (HM.out _ (hT.keep hB2)).mono ?_
  rintro e w3 ⟨rfl, hb3⟩
  have hB3 := hB2.trans (hb3.mono hB2.size)
  clear hB2 hb3 HM
  go_wp2_with fail
  try simp only [hn]
  have hB4 := hB3.alloc (o := .cells #[.int .i64 k] 3) hB3.size
  refine (HW.out 0 1199 k _ _ (by simp [go_sem])).mono ?_
  rintro e w4 ⟨rfl, rfl⟩
  rw [dk]
  clear hB3 dk HW
  generalize w3.alloc (.cells #[.int .i64 k] 3) = W4 at *
  have hT4 := Lib.hid (hT.keep hB4)
  clear hT
  go_wp2_with fail
  refine (HF.out _ hT4.out).mono ?_
  rintro e w5 ⟨rfl, rfl⟩
  go_wp2_with fail
  refine (HG.out _ hT4.out).mono ?_
  rintro e w5 ⟨rfl, rfl⟩
  go_wp2_with fail
  refine (HL.out _ hT4.out).mono ?_
  rintro e w5 ⟨rfl, rfl⟩
  clear HF HG HL hT4
  go_wp2_with fail
  · have e : (A : Int) = (F : Int) + ((L : Int) - 1) := by have := hA.out; omega
    go_ret2
    exact ⟨by rw [e]; rfl, hB4⟩
  · have e : (A : Int) = (F : Int) + ((d : Int) - (G : Int)) := by have := hA.out; omega
    go_ret2
    exact ⟨by rw [e]; rfl, hB4⟩

set_option maxRecDepth 100000 in
set_option maxHeartbeats 1600000 in
theorem calAddMonths_out (d : Nat) (hd : d ≤ 36524) (n : Int) (h1 : -1200 ≤ n) (h2 : n ≤ 1200) (hn : (monthOf d : Int) + n < 0 ∨ 1199 < (monthOf d : Int) + n) (w : World) (hT : CalTab w) :
    Calls Tryd.prog 20 #[.int .i64 d, .int .i64 n] w fun e w' => e = .returned (.tuple #[.int .i64 0, .int .i64 3]) ∧ Below w.heap.size w w' := by
  have hm := month_lt hd
  have HD := Lib.hid (isDay_any d)
  rw [show dayB (d : Int) = true from (dayB_iff _).2 (by omega)] at HD
  have HW := Lib.hid (fun lo hi x b w1 h => calWithin_one lo hi x b w1 h)
  have HM := Lib.hid (fun w1 (h : CalTab w1) => monthOf_any d hd w1 h)
  have dn : (decide (-1200 ≤ n) && decide (n ≤ 1200)) = true := by simp; omega
  have dk : (decide (0 ≤ (monthOf d : Int) + n) && decide ((monthOf d : Int) + n ≤ 1199)) = false := by simp; omega
  clear hn
  generalize monthOf d = M at *
  go_enter Tryd.func20, Tryd.ntmps20
  go_wp2_with fail
  refine (HD.out _).mono ?_
  rintro e w1 ⟨rfl, hB1⟩
  clear HD
  go_wp2_with fail
  have hB2 := hB1.alloc (o := .cells #[.int .i64 n] 3) hB1.size
  refine (HW.out (-1200) 1200 n _ _ (by simp [go_sem])).mono ?_
  rintro e w2 ⟨rfl, rfl⟩
  rw [dn]
  clear hB1 dn
  generalize w1.alloc (.cells #[.int .i64 n] 3) = W2 at *
  go_wp2_with fail
  refine (HM.out _ (hT.keep hB2)).mono ?_
  rintro e w3 ⟨rfl, hb3⟩
  have hB3 := hB2.trans (hb3.mono hB2.size)
  clear hB2 hb3 HM
  go_wp2_with fail
  have hB4 := hB3.alloc (o := .cells #[.int .i64 ((M : Int) + n)] 3) hB3.size
  refine (HW.out 0 1199 ((M : Int) + n) _ _ (by simp [go_sem])).mono ?_
  rintro e w4 ⟨rfl, rfl⟩
  rw [dk]
  clear hB3 dk HW
  go_wp2_with fail
  go_ret2
  exact ⟨rfl, hB4⟩

set_option maxRecDepth 100000 in
set_option maxHeartbeats 800000 in
theorem calAddMonths_bad (x n : Int) (h : amBad x n = true) (w : World) :
    Calls Tryd.prog 20 #[.int .i64 x, .int .i64 n] w fun e w' => e = .returned (.tuple #[.int .i64 0, .int .i64 2]) ∧ Below w.heap.size w w' := by
  have HD := Lib.hid (isDay_any x)
  have HW := Lib.hid (fun lo hi x b w1 h => calWithin_one lo hi x b w1 h)
  cases hd : dayB x with
  | false =>
    rw [hd] at HD
    clear h hd
    go_enter Tryd.func20, Tryd.ntmps20
    go_wp2_with fail
    refine (HD.out _).mono ?_
    rintro e w1 ⟨rfl, hB1⟩
    go_wp2_with fail
    go_ret2
    exact ⟨rfl, hB1⟩
  | true =>
    have hc : (decide (n < -1200) || decide (1200 < n)) = true := by
      unfold amBad at h
      rw [hd] at h
      exact h
    have dn : (decide (-1200 ≤ n) && decide (n ≤ 1200)) = false := by simp at hc; simp; omega
    rw [hd] at HD
    clear h hd hc
    go_enter Tryd.func20, Tryd.ntmps20
    go_wp2_with fail
    refine (HD.out _).mono ?_
    rintro e w1 ⟨rfl, hB1⟩
    clear HD
    go_wp2_with fail
    have hB2 := hB1.alloc (o := .cells #[.int .i64 n] 3) hB1.size
    refine (HW.out (-1200) 1200 n _ _ (by simp [go_sem])).mono ?_
    rintro e w2 ⟨rfl, rfl⟩
    rw [dn]
    go_wp2_with fail
    go_ret2
    exact ⟨rfl, hB2⟩

theorem calAddMonths_any (x n : Int) (w : World) (hT : CalTab w) :
    Calls Tryd.prog 20 #[.int .i64 x, .int .i64 n] w fun e w' => e = .returned (.tuple #[.int .i64 (amV x n), .int .i64 (amE x n)]) ∧ Below w.heap.size w w' := by
  cases h : amBad x n with
  | true =>
    rw [show amV x n = 0 from if_pos h, show amE x n = 2 from if_pos h]
    exact calAddMonths_bad x n h w
  | false =>
    have hn : ¬ amBad x n = true := by rw [h]; simp
    have e1 : amV x n = if amIn x n then (amDay x.toNat (amK x n).toNat : Int) else 0 := if_neg hn
    have e2 : amE x n = if amIn x n then 0 else 3 := if_neg hn
    rw [e1, e2]
    unfold amBad at h
    simp only [Bool.or_eq_false_iff, decide_eq_false_iff_not, Bool.not_eq_false'] at h
    obtain ⟨h1, h2, h3⟩ := h
    obtain ⟨h4, h5⟩ := (dayB_iff x).1 h1
    obtain ⟨d, rfl⟩ := Int.eq_ofNat_of_zero_le h4
    have hK : amK (d : Int) n = (monthOf d : Int) + n := rfl
    by_cases hin : 0 ≤ (monthOf d : Int) + n ∧ (monthOf d : Int) + n < 1200
    · have hI : amIn (d : Int) n = true := by unfold amIn; rw [hK]; simp; omega
      rw [if_pos hI, if_pos hI]
      exact calAddMonths_in d (by omega) (amK (d : Int) n).toNat (by rw [hK]; omega) n (by rw [hK]; omega) w hT
    · have hI : ¬ amIn (d : Int) n = true := by unfold amIn; rw [hK]; simp; omega
      rw [if_neg hI, if_neg hI]
      exact calAddMonths_out d (by omega) n (by omega) (by omega) (by omega) w hT
end Go.Proofs.YtnegiopbccllcaaDoor
