/- What NextWorking and AddWorking of the package calendar return. Condition: the list's cells are known. -/
import Derived.Test.YtnegiopbccllcaaDoorCalCode3
namespace Go.Proofs.YtnegiopbccllcaaDoor
open Go.RowKit

/-- The first working day from x on, if x is a day. -/
def fwR (n : Nat) (g : Nat → Int) (x : Nat) : Option Nat := if x ≤ 36524 then nwR n g x else none

/-- A step of n + 1: the next day that has p, and n steps from there. -/
theorem adv_step (p : Nat → Bool) : ∀ (f day n : Nat), advN p f day (n + 1) = if f = 0 then none else (nextN p (f - 1) (day + 1)).bind fun r => advN p (f - (r - day)) r n
  | 0, day, n => by rw [adv_end _ _ _ (by omega)]; rfl
  | f + 1, day, n => by
    rw [if_neg (by omega), show f + 1 - 1 = f by omega]
    cases hp : p (day + 1) with
    | true =>
      rw [adv_yes (by omega) hp, next_yes hp]
      show advN p f (day + 1) (n + 1 - 1) = advN p (f + 1 - (day + 1 - day)) (day + 1) n
      rw [show n + 1 - 1 = n by omega, show f + 1 - (day + 1 - day) = f by omega]
    | false =>
      rw [adv_no (by omega) hp, adv_step p f (day + 1) n]
      cases f with
      | zero =>
        rw [if_pos rfl, next_end hp]
        rfl
      | succ k =>
        rw [if_neg (by omega), next_no hp, show k + 1 - 1 = k by omega]
        cases hN : nextN p k (day + 1 + 1) with
        | none => rfl
        | some r =>
          have := next_spec p _ _ _ hN
          show advN p (k + 1 - (r - (day + 1))) r n = advN p (k + 1 + 1 - (r - day)) r n
          rw [show k + 1 - (r - (day + 1)) = k + 1 + 1 - (r - day) by omega]
theorem aw_step {n : Nat} {g : Nat → Int} {x q : Nat} : advN (wkB n g) (36524 - x) x (q + 1) = (fwR n g (x + 1)).bind fun r => advN (wkB n g) (36524 - r) r q := by
  rw [adv_step]
  unfold fwR nwR
  by_cases h : x + 1 ≤ 36524
  · rw [if_neg (by omega), if_pos h, show 36524 - x - 1 = 36524 - (x + 1) by omega]
    cases hN : nextN (wkB n g) (36524 - (x + 1)) (x + 1) with
    | none => rfl
    | some r =>
      have := next_spec _ _ _ _ hN
      show advN (wkB n g) (36524 - x - (r - x)) r q = advN (wkB n g) (36524 - r) r q
      rw [show 36524 - x - (r - x) = 36524 - r by omega]
  · rw [if_pos (by omega), if_neg h]
    rfl
theorem fw_day {n : Nat} {g : Nat → Int} {x r : Nat} (h : fwR n g x = some r) : r ≤ 36524 := by
  unfold fwR nwR at h
  by_cases hx : x ≤ 36524
  · rw [if_pos hx] at h
    have := next_spec _ _ _ _ h
    omega
  · rw [if_neg hx] at h
    cases h

set_option maxRecDepth 100000 in
set_option maxHeartbeats 1600000 in
theorem firstWorking_any (v : Value) (n : Nat) (g : Nat → Int) (x : Nat) (hx : x ≤ 36525) (w : World) (h : ListAt w .i64 v n g) (hv : validE n g = 0) :
    Calls Tryd.prog 43 #[v, .int .i64 x] w fun e w' => e = .returned (.tuple #[.int .i64 (outV (fwR n g x)), .int .i64 (outE (fwR n g x))]) ∧ Below w.heap.size w w' := by
  have HW := Lib.hid (fun (k : Nat) (w1 : World) (hb : Below w.heap.size w w1) => calWorking_any v n g k w1 (listAt_below h hb) hv)
  have HD := Lib.hid (fun (k : Nat) => isDay_any k)
  clear h hv
  generalize hR0 : fwR n g x = R
  have hR := Lib.hid hR0
  clear hR0
  go_enter Tryd.func43, Tryd.ntmps43
  go_wp2_with fail
  go_loopw [1] (fun dy wx => ∃ k : Nat, k ≤ 36525 ∧ dy = .int .i64 (k : Int) ∧ Hid (fwR n g k = R) ∧ Below w.heap.size w wx) (fun dy _ => 36526 - (intOf dy).toNat)
  case atStart => exact ⟨x, hx, rfl, hR, Below.refl _ _⟩
  case round =>
    obtain ⟨k, hk, rfl, hN, hB⟩ := hrel
    clear hR
    have HDk := Lib.hid (HD.out k)
    clear HD
    by_cases hl : k ≤ 36524
    · rw [show dayB (k : Int) = true from (dayB_iff _).2 (by omega)] at HDk
      have HWk := Lib.hid (HW.out k)
      have hfw : fwR n g k = nextN (wkB n g) (36524 - k) k := if_pos hl
      cases c : workB n g k with
      | true =>
        have e := (hfw.trans (next_yes (p := wkB n g) (f := 36524 - k) c)).symm.trans hN.out
        rw [c] at HWk
        clear hN HW c hfw
        subst e
        go_wp2_with fail
        refine (HDk.out _).mono ?_
        rintro e w1 ⟨rfl, hb1⟩
        have hB1 := hB.trans (hb1.mono hB.size)
        go_wp2_with fail
        refine (HWk.out _ hB1).mono ?_
        rintro e w2 ⟨rfl, hb2⟩
        have hB2 := hB1.trans (hb2.mono hB1.size)
        go_wp2_with fail
        go_ret2
        exact ⟨rfl, hB2⟩
      | false =>
        have e := Lib.hid (show fwR n g (k + 1) = R by
          rw [← hN.out, hfw]
          unfold fwR nwR
          by_cases h2 : k + 1 ≤ 36524
          · rw [if_pos h2, show 36524 - k = 36524 - (k + 1) + 1 by omega]
            exact (next_no (p := wkB n g) c).symm
          · rw [if_neg h2, show 36524 - k = 0 by omega]
            exact (next_end (p := wkB n g) c).symm)
        rw [c] at HWk
        clear hN HW c hfw
        go_wp2_with fail
        refine (HDk.out _).mono ?_
        rintro e w1 ⟨rfl, hb1⟩
        have hB1 := hB.trans (hb1.mono hB.size)
        go_wp2_with fail
        refine (HWk.out _ hB1).mono ?_
        rintro e w2 ⟨rfl, hb2⟩
        have hB2 := hB1.trans (hb2.mono hB1.size)
        clear HDk HWk
        go_wp2_with fail
        go_roundw
        case rel => exact ⟨k + 1, by omega, int_eq (by omega), e, hB2⟩
        case measure => simp [intOf]; omega
    · rw [show dayB (k : Int) = false from (dayB_false _).2 (by omega)] at HDk
      have e : none = R := (if_neg hl : fwR n g k = none).symm.trans hN.out
      clear hN HW
      subst e
      go_wp2_with fail
      refine (HDk.out _).mono ?_
      rintro e w1 ⟨rfl, hb1⟩
      have hB1 := hB.trans (hb1.mono hB.size)
      go_wp2_with fail
      go_ret2
      exact ⟨rfl, hB1⟩

set_option maxRecDepth 100000 in
set_option maxHeartbeats 1600000 in
theorem calNext_any (v : Value) (n : Nat) (g : Nat → Int) (x : Int) (w : World) (h : ListAt w .i64 v n g) :
    Calls Tryd.prog 27 #[v, .int .i64 x] w fun e w' => e = .returned (.tuple #[.int .i64 (nwV n g x), .int .i64 (nwE n g x)]) ∧ Below w.heap.size w w' := by
  have HV := Lib.hid (calValid_any v n g w h)
  by_cases hv : validE n g = 0
  · rw [hv] at HV
    have HD := Lib.hid (isDay_any x)
    cases hd : dayB x with
    | true =>
      obtain ⟨h1, h2⟩ := (dayB_iff x).1 hd
      obtain ⟨d, rfl⟩ := Int.eq_ofNat_of_zero_le h1
      have hfw : fwR n g d = nwR n g d := if_pos (by omega)
      have HF := Lib.hid (fun (w1 : World) (hb : Below w.heap.size w w1) => firstWorking_any v n g d (by omega) w1 (listAt_below h hb) hv)
      have e1 : nwV n g d = outV (nwR n g d) := by unfold nwV; rw [if_pos hv, if_pos hd]; rfl
      have e2 : nwE n g d = outE (nwR n g d) := by unfold nwE; rw [if_pos hv, if_pos hd]; rfl
      rw [e1, e2]
      rw [hfw] at HF
      rw [hd] at HD
      clear e1 e2 hfw hd h hv
      generalize nwR n g d = R at *
      go_enter Tryd.func27, Tryd.ntmps27
      go_wp2_with fail
      refine HV.out.mono ?_
      rintro e w1 ⟨rfl, hB1⟩
      go_wp2_with fail
      refine (HD.out _).mono ?_
      rintro e w2 ⟨rfl, hb2⟩
      have hB2 := hB1.trans (hb2.mono hB1.size)
      go_wp2_with fail
      refine (HF.out _ hB2).mono ?_
      rintro e w3 ⟨rfl, hb3⟩
      have hB3 := hB2.trans (hb3.mono hB2.size)
      go_wp2_with fail
      go_ret2
      exact ⟨rfl, hB3⟩
    | false =>
      have e1 : nwV n g x = 0 := by unfold nwV; rw [if_pos hv, if_neg (by rw [hd]; simp)]
      have e2 : nwE n g x = 2 := by unfold nwE; rw [if_pos hv, if_neg (by rw [hd]; simp)]
      rw [e1, e2]
      rw [hd] at HD
      clear e1 e2 hd h hv
      go_enter Tryd.func27, Tryd.ntmps27
      go_wp2_with fail
      refine HV.out.mono ?_
      rintro e w1 ⟨rfl, hB1⟩
      go_wp2_with fail
      refine (HD.out _).mono ?_
      rintro e w2 ⟨rfl, hb2⟩
      have hB2 := hB1.trans (hb2.mono hB1.size)
      go_wp2_with fail
      go_ret2
      exact ⟨rfl, hB2⟩
  · have e1 : nwV n g x = 0 := if_neg hv
    have e2 : nwE n g x = validE n g := if_neg hv
    rw [e1, e2]
    have d1 : (validE n g != 0) = true := by rw [bne_iff_ne]; exact hv
    clear e1 e2 h hv
    generalize validE n g = E at *
    go_enter Tryd.func27, Tryd.ntmps27
    go_wp2_with fail
    refine HV.out.mono ?_
    rintro e w1 ⟨rfl, hB1⟩
    go_wp2_with fail
    go_ret2
    exact ⟨rfl, hB1⟩

set_option maxRecDepth 100000 in
set_option maxHeartbeats 1600000 in
theorem calAdd_day (v : Value) (n : Nat) (g : Nat → Int) (x c : Nat) (hx : x ≤ 36524) (hc : c ≤ 1000) (hv : validE n g = 0) (w : World) (h : ListAt w .i64 v n g) :
    Calls Tryd.prog 29 #[v, .int .i64 x, .int .i64 c] w fun e w' => e = .returned (.tuple #[.int .i64 (outV (awR n g x c)), .int .i64 (outE (awR n g x c))]) ∧ Below w.heap.size w w' := by
  have HV := Lib.hid (calValid_any v n g w h)
  rw [hv] at HV
  have HD := Lib.hid (isDay_any x)
  rw [show dayB (x : Int) = true from (dayB_iff _).2 (by omega)] at HD
  have HW := Lib.hid (fun lo hi x b w1 h => calWithin_one lo hi x b w1 h)
  have dc : (decide (0 ≤ (c : Int)) && decide ((c : Int) ≤ 1000)) = true := by simp; omega
  have HF := Lib.hid (fun (k : Nat) (hk : k ≤ 36525) (w1 : World) (hb : Below w.heap.size w w1) => firstWorking_any v n g k hk w1 (listAt_below h hb) hv)
  clear h hv
  generalize hR0 : awR n g x c = R
  have hR := Lib.hid (show advN (wkB n g) (36524 - x) x c = R from hR0)
  clear hR0
  go_enter Tryd.func29, Tryd.ntmps29
  go_wp2_with fail
  refine HV.out.mono ?_
  rintro e w1 ⟨rfl, hB1⟩
  clear HV
  go_wp2_with fail
  refine (HD.out _).mono ?_
  rintro e w2 ⟨rfl, hb2⟩
  have hB2 := hB1.trans (hb2.mono hB1.size)
  clear HD hB1 hb2
  go_wp2_with fail
  have hB3 := hB2.alloc (o := .cells #[.int .i64 c] 3) hB2.size
  refine (HW.out 0 1000 c _ _ (by simp [go_sem])).mono ?_
  rintro e w3 ⟨rfl, rfl⟩
  rw [dc]
  clear HW hB2 dc
  generalize w2.alloc (.cells #[.int .i64 c] 3) = W3 at *
  go_wp2_with fail
  go_loopw [1, 26] (fun dy vk wx => ∃ k j : Nat, k ≤ 36524 ∧ j ≤ c ∧ dy = .int .i64 (k : Int) ∧ vk = .int .i64 (j : Int) ∧ Hid (advN (wkB n g) (36524 - k) k (c - j) = R) ∧ Below w.heap.size w wx) (fun _ vk _ => c - (intOf vk).toNat)
  case atStart => exact ⟨x, 0, hx, by omega, rfl, rfl, hR, hB3⟩
  case round =>
    obtain ⟨k, j, hk, hj, rfl, rfl, hN, hB⟩ := hrel
    clear hR hB3
    by_cases hq : j < c
    · have HFk := Lib.hid (HF.out (k + 1) (by omega))
      rw [show ((k + 1 : Nat) : Int) = (k : Int) + 1 by omega] at HFk
      have hst := hN.out
      rw [show c - j = (c - (j + 1)) + 1 by omega, aw_step] at hst
      clear hN HF
      cases hf : fwR n g (k + 1) with
      | none =>
        rw [hf] at HFk hst
        have e : none = R := hst
        clear hst hf
        subst e
        go_wp2_with fail
        refine (HFk.out _ hB).mono ?_
        rintro e w4 ⟨rfl, hb4⟩
        have hB4 := hB.trans (hb4.mono hB.size)
        have o1 : outV none = 0 := rfl
        have o2 : outE none = 3 := rfl
        rw [o2]
        go_wp2_with fail
        go_ret2
        exact ⟨rfl, hB4⟩
      | some r =>
        rw [hf] at HFk hst
        have hr := fw_day hf
        have e := Lib.hid (show advN (wkB n g) (36524 - r) r (c - (j + 1)) = R from hst)
        have o1 : outV (some r) = (r : Int) := rfl
        have o2 : outE (some r) = 0 := rfl
        rw [o1, o2] at HFk
        clear hst hf o1 o2
        go_wp2_with fail
        refine (HFk.out _ hB).mono ?_
        rintro e1 w4 ⟨rfl, hb4⟩
        have hB4 := hB.trans (hb4.mono hB.size)
        clear HFk hb4 hB
        go_wp2_with fail
        go_roundw
        case rel => exact ⟨r, j + 1, hr, by omega, rfl, int_eq (by omega), e, hB4⟩
        case measure => simp [intOf]; omega
    · obtain rfl : j = c := by omega
      have e : some k = R := by
        have := hN.out
        rw [show j - j = 0 by omega, adv_zero] at this
        exact this
      clear hN HF
      subst e
      go_wp2_with fail
      go_ret2
      exact ⟨rfl, hB⟩

set_option maxRecDepth 100000 in
set_option maxHeartbeats 1600000 in
theorem calAdd_any (v : Value) (n : Nat) (g : Nat → Int) (x c : Int) (w : World) (h : ListAt w .i64 v n g) :
    Calls Tryd.prog 29 #[v, .int .i64 x, .int .i64 c] w fun e w' => e = .returned (.tuple #[.int .i64 (awV n g x c), .int .i64 (awE n g x c)]) ∧ Below w.heap.size w w' := by
  by_cases hv : validE n g = 0
  · cases hi : awIn x c with
    | true =>
      have e1 : awV n g x c = outV (awR n g x.toNat c.toNat) := by unfold awV; rw [if_pos hv, if_pos hi]
      have e2 : awE n g x c = outE (awR n g x.toNat c.toNat) := by unfold awE; rw [if_pos hv, if_pos hi]
      rw [e1, e2]
      unfold awIn at hi
      simp only [Bool.and_eq_true, decide_eq_true_eq] at hi
      obtain ⟨h1, h2, h3⟩ := hi
      obtain ⟨h4, h5⟩ := (dayB_iff x).1 h1
      obtain ⟨d, rfl⟩ := Int.eq_ofNat_of_zero_le h4
      obtain ⟨q, rfl⟩ := Int.eq_ofNat_of_zero_le h2
      exact calAdd_day v n g d q (by omega) (by omega) hv w h
    | false =>
      have e1 : awV n g x c = 0 := by unfold awV; rw [if_pos hv, if_neg (by rw [hi]; simp)]
      have e2 : awE n g x c = 2 := by unfold awE; rw [if_pos hv, if_neg (by rw [hi]; simp)]
      rw [e1, e2]
      have HV := Lib.hid (calValid_any v n g w h)
      rw [hv] at HV
      have HD := Lib.hid (isDay_any x)
      have HW := Lib.hid (fun lo hi x b w1 h => calWithin_one lo hi x b w1 h)
      clear hv h e1 e2
      unfold awIn at hi
      cases hd : dayB x with
      | false =>
        rw [hd] at HD
        clear hd hi HW
        go_enter Tryd.func29, Tryd.ntmps29
        go_wp2_with fail
        refine HV.out.mono ?_
        rintro e w1 ⟨rfl, hB1⟩
        go_wp2_with fail
        refine (HD.out _).mono ?_
        rintro e w2 ⟨rfl, hb2⟩
        have hB2 := hB1.trans (hb2.mono hB1.size)
        go_wp2_with fail
        go_ret2
        exact ⟨rfl, hB2⟩
      | true =>
        rw [hd, Bool.true_and] at hi
        rw [hd] at HD
        clear hd
        go_enter Tryd.func29, Tryd.ntmps29
        go_wp2_with fail
        refine HV.out.mono ?_
        rintro e w1 ⟨rfl, hB1⟩
        go_wp2_with fail
        refine (HD.out _).mono ?_
        rintro e w2 ⟨rfl, hb2⟩
        have hB2 := hB1.trans (hb2.mono hB1.size)
        go_wp2_with fail
        have hB3 := hB2.alloc (o := .cells #[.int .i64 c] 3) hB2.size
        refine (HW.out 0 1000 c _ _ (by simp [go_sem])).mono ?_
        rintro e w3 ⟨rfl, rfl⟩
        rw [hi]
        go_wp2_with fail
        go_ret2
        exact ⟨rfl, hB3⟩
  · have e1 : awV n g x c = 0 := if_neg hv
    have e2 : awE n g x c = validE n g := if_neg hv
    rw [e1, e2]
    have HV := Lib.hid (calValid_any v n g w h)
    have d1 : (validE n g != 0) = true := by rw [bne_iff_ne]; exact hv
    clear e1 e2 h hv
    generalize validE n g = E at *
    go_enter Tryd.func29, Tryd.ntmps29
    go_wp2_with fail
    refine HV.out.mono ?_
    rintro e w1 ⟨rfl, hB1⟩
    go_wp2_with fail
    go_ret2
    exact ⟨rfl, hB1⟩
end Go.Proofs.YtnegiopbccllcaaDoor
