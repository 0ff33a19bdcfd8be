/- What NextWorking and AddWorking of the reference of layer 4 return. Condition: the list's cells are known. -/
import Derived.Test.YtnegiopbccllcaaDoorCalRef4
namespace Go.Proofs.YtnegiopbccllcaaDoor
open Go.RowKit

theorem listAt_drewN {w : World} {k : IntKind} {v : Value} {n : Nat} {f : Nat → Int} (h : ListAt w k v n f) (m : Nat) : ListAt (w.drewN m) k v n f := h
/-- Is a day a working day? -/
def wkB (n : Nat) (g : Nat → Int) (k : Nat) : Bool := workB n g k
def outV : Option Nat → Int
  | some r => r
  | none => 0
def outE : Option Nat → Int
  | some _ => 0
  | none => 3
def nwR (n : Nat) (g : Nat → Int) (x : Nat) : Option Nat := nextN (wkB n g) (36524 - x) x
def nwV (n : Nat) (g : Nat → Int) (x : Int) : Int := if validE n g = 0 then (if dayB x then outV (nwR n g x.toNat) else 0) else 0
def nwE (n : Nat) (g : Nat → Int) (x : Int) : Int := if validE n g = 0 then (if dayB x then outE (nwR n g x.toNat) else 2) else validE n g
def awR (n : Nat) (g : Nat → Int) (x c : Nat) : Option Nat := advN (wkB n g) (36524 - x) x c
def awIn (x c : Int) : Bool := dayB x && (decide (0 ≤ c) && decide (c ≤ 1000))
def awV (n : Nat) (g : Nat → Int) (x c : Int) : Int := if validE n g = 0 then (if awIn x c then outV (awR n g x.toNat c.toNat) else 0) else 0
def awE (n : Nat) (g : Nat → Int) (x c : Int) : Int := if validE n g = 0 then (if awIn x c then outE (awR n g x.toNat c.toNat) else 2) else validE n g

set_option maxHeartbeats 800000 in
theorem refNext_day (v : Value) (n : Nat) (g : Nat → Int) (x : Nat) (hx : x ≤ 36524) (hv : validE n g = 0) (w : World) (h : ListAt w .i64 v n g) :
    Calls Tryd.prog 28 #[v, .int .i64 x] w fun e w' => e = .returned (.tuple #[.int .i64 (outV (nwR n g x)), .int .i64 (outE (nwR n g x))]) ∧ ∃ m, w' = w.drewN m := by
  have HV := Lib.hid (refValid_any v n g w h)
  rw [hv] at HV
  have HD := Lib.hid (fun (k : Nat) => refDay_any k)
  have HW := Lib.hid (fun (k : Nat) (m : Nat) => refWorking_any v n g k (w.drewN m) (listAt_drewN h m))
  have hd : dayB (x : Int) = true := (dayB_iff _).2 (by omega)
  have HD0 := Lib.hid (refDay_any x)
  rw [hd] at HD0
  clear hd hv h
  generalize hR : nwR n g x = R
  have hR2 : Hid (nextN (wkB n g) (36524 - x) x = R) := Lib.hid hR
  clear hR
  go_enter Tryd.func28, Tryd.ntmps28
  go_wp2_with fail
  refine HV.out.mono ?_
  rintro e w1 ⟨rfl, m, rfl⟩
  go_wp2_with fail
  refine (HD0.out _).mono ?_
  rintro e w1 ⟨rfl, rfl⟩
  go_wp2_with fail
  go_loopw [1] (fun dy wx => ∃ k : Nat, k ≤ 36524 ∧ dy = .int .i64 (k : Int) ∧ Hid (nextN (wkB n g) (36524 - k) k = R) ∧ ∃ m, wx = w.drewN m) (fun dy _ => 36525 - (intOf dy).toNat)
  case atStart => exact ⟨x, hx, rfl, hR2, m, rfl⟩
  case round =>
    obtain ⟨k, hk, rfl, hN, m2, rfl⟩ := hrel
    have HWk := Lib.hid (HW.out k m2)
    cases c : workB n g k with
    | true =>
      have e := (next_yes (p := wkB n g) (f := 36524 - k) c).symm.trans hN.out
      rw [c] at HWk
      clear hN hR2 HW HD c HD0
      subst e
      go_wp2_with fail
      refine HWk.out.mono ?_
      rintro e w1 ⟨rfl, rfl⟩
      go_wp2_with fail
      go_ret2
      exact ⟨rfl, _, rfl⟩
    | false =>
      rw [c] at HWk
      have HDk := Lib.hid (HD.out (k + 1))
      by_cases hl : k = 36524
      · have e : R = none := by
          rw [← hN.out, hl]
          exact next_end (p := wkB n g) (by rw [← hl]; exact c)
        rw [show dayB ((k + 1 : Nat) : Int) = false from (dayB_false _).2 (by omega), show ((k + 1 : Nat) : Int) = (k : Int) + 1 by omega] at HDk
        clear hN hR2 HW HD c HD0 hl
        subst e
        go_wp2_with fail
        refine HWk.out.mono ?_
        rintro e w1 ⟨rfl, rfl⟩
        go_wp2_with fail
        refine (HDk.out _).mono ?_
        rintro e w1 ⟨rfl, rfl⟩
        go_wp2_with fail
        go_ret2
        exact ⟨rfl, _, rfl⟩
      · have e := Lib.hid (show nextN (wkB n g) (36524 - (k + 1)) (k + 1) = R by
          rw [← hN.out, show 36524 - k = 36524 - (k + 1) + 1 by omega]
          exact (next_no (p := wkB n g) c).symm)
        rw [show dayB ((k + 1 : Nat) : Int) = true from (dayB_iff _).2 (by omega), show ((k + 1 : Nat) : Int) = (k : Int) + 1 by omega] at HDk
        have hk1 : k + 1 ≤ 36524 := by omega
        clear hN hR2 HW HD c HD0 hl
        go_wp2_with fail
        refine HWk.out.mono ?_
        rintro e w1 ⟨rfl, rfl⟩
        go_wp2_with fail
        refine (HDk.out _).mono ?_
        rintro e w1 ⟨rfl, rfl⟩
        go_wp2_with fail
        go_roundw
        case rel => exact ⟨k + 1, hk1, int_eq (by omega), e, _, rfl⟩
        case measure => simp [intOf]; omega

set_option maxHeartbeats 800000 in
theorem refNext_any (v : Value) (n : Nat) (g : Nat → Int) (x : Int) (w : World) (h : ListAt w .i64 v n g) :
    Calls Tryd.prog 28 #[v, .int .i64 x] w fun e w' => e = .returned (.tuple #[.int .i64 (nwV n g x), .int .i64 (nwE n g x)]) ∧ ∃ m, w' = w.drewN m := by
  by_cases hv : validE n g = 0
  · cases hd : dayB x with
    | true =>
      obtain ⟨h1, h2⟩ := (dayB_iff x).1 hd
      obtain ⟨d, rfl⟩ := Int.eq_ofNat_of_zero_le h1
      have e1 : nwV n g d = outV (nwR n g d) := by unfold nwV; rw [if_pos hv, if_pos hd]; rfl
      have e2 : nwE n g d = outE (nwR n g d) := by unfold nwE; rw [if_pos hv, if_pos hd]; rfl
      rw [e1, e2]
      exact refNext_day v n g d (by omega) hv w h
    | false =>
      have e1 : nwV n g x = 0 := by unfold nwV; rw [if_pos hv, if_neg (by rw [hd]; simp)]
      have e2 : nwE n g x = 2 := by unfold nwE; rw [if_pos hv, if_neg (by rw [hd]; simp)]
      rw [e1, e2]
      have HV := Lib.hid (refValid_any v n g w h)
      rw [hv] at HV
      have HD0 := Lib.hid (refDay_any x)
      rw [hd] at HD0
      clear hd hv h e1 e2
      go_enter Tryd.func28, Tryd.ntmps28
      go_wp2_with fail
      refine HV.out.mono ?_
      rintro e w1 ⟨rfl, m, rfl⟩
      go_wp2_with fail
      refine (HD0.out _).mono ?_
      rintro e w1 ⟨rfl, rfl⟩
      go_wp2_with fail
      go_ret2
      exact ⟨rfl, _, rfl⟩
  · have e1 : nwV n g x = 0 := if_neg hv
    have e2 : nwE n g x = validE n g := if_neg hv
    rw [e1, e2]
    have HV := Lib.hid (refValid_any v n g w h)
    have d1 : (validE n g != 0) = true := by rw [bne_iff_ne]; exact hv
    clear e1 e2 h hv
    generalize validE n g = E at *
    go_enter Tryd.func28, Tryd.ntmps28
    go_wp2_with fail
    refine HV.out.mono ?_
    rintro e w1 ⟨rfl, m, rfl⟩
    go_wp2_with fail
    go_ret2
    exact ⟨rfl, _, rfl⟩

set_option maxHeartbeats 800000 in
theorem refAdd_day (v : Value) (n : Nat) (g : Nat → Int) (x c : Nat) (hx : x ≤ 36524) (hc : c ≤ 1000) (hv : validE n g = 0) (w : World) (h : ListAt w .i64 v n g) :
    Calls Tryd.prog 30 #[v, .int .i64 x, .int .i64 c] w fun e w' => e = .returned (.tuple #[.int .i64 (outV (awR n g x c)), .int .i64 (outE (awR n g x c))]) ∧ ∃ m, w' = w.drewN m := by
  have HV := Lib.hid (refValid_any v n g w h)
  rw [hv] at HV
  have HD := Lib.hid (fun (k : Nat) => refDay_any k)
  have HW := Lib.hid (fun (k : Nat) (m : Nat) => refWorking_any v n g k (w.drewN m) (listAt_drewN h m))
  have hd : dayB (x : Int) = true := (dayB_iff _).2 (by omega)
  have HD0 := Lib.hid (refDay_any x)
  rw [hd] at HD0
  clear hd hv h
  generalize hR : awR n g x c = R
  have hR2 : Hid (advN (wkB n g) (36524 - x) x c = R) := Lib.hid hR
  clear hR
  have d1 : decide ((c : Int) < 0) = false := decide_eq_false (by omega)
  have d2 : decide (1000 < (c : Int)) = false := decide_eq_false (by omega)
  go_enter Tryd.func30, Tryd.ntmps30
  go_wp2_with fail
  refine HV.out.mono ?_
  rintro e w1 ⟨rfl, m, rfl⟩
  go_wp2_with fail
  refine (HD0.out _).mono ?_
  rintro e w1 ⟨rfl, rfl⟩
  go_wp2_with fail
  go_loopw [1, 2] (fun dy cc wx => ∃ k q : Nat, k ≤ 36524 ∧ q ≤ 1000 ∧ dy = .int .i64 (k : Int) ∧ cc = .int .i64 (q : Int) ∧ Hid (advN (wkB n g) (36524 - k) k q = R) ∧ ∃ m, wx = w.drewN m) (fun dy _ _ => 36525 - (intOf dy).toNat)
  case atStart => exact ⟨x, c, hx, hc, rfl, rfl, hR2, m, rfl⟩
  case round =>
    obtain ⟨k, q, hk, hq, rfl, rfl, hN, m2, rfl⟩ := hrel
    clear d1 d2
    by_cases hq0 : q = 0
    · have e : some k = R := by
        have := hN.out
        rw [hq0, adv_zero] at this
        exact this
      clear hN hR2 HW HD HD0
      subst hq0
      subst e
      go_wp2_with fail
      go_ret2
      exact ⟨rfl, _, rfl⟩
    · have d3 : decide (0 < (q : Int)) = true := decide_eq_true (by omega)
      have HDk := Lib.hid (HD.out (k + 1))
      have hq1 : 0 < q := by omega
      by_cases hl : k = 36524
      · have e : R = none := by
          rw [← hN.out, hl]
          exact adv_end _ _ _ hq1
        rw [show dayB ((k + 1 : Nat) : Int) = false from (dayB_false _).2 (by omega), show ((k + 1 : Nat) : Int) = (k : Int) + 1 by omega] at HDk
        clear hN hR2 HW HD HD0 hl hq0
        subst e
        go_wp2_with fail
        refine (HDk.out _).mono ?_
        rintro e w1 ⟨rfl, rfl⟩
        go_wp2_with fail
        go_ret2
        exact ⟨rfl, _, rfl⟩
      · have hk1 : k + 1 ≤ 36524 := by omega
        rw [show dayB ((k + 1 : Nat) : Int) = true from (dayB_iff _).2 (by omega), show ((k + 1 : Nat) : Int) = (k : Int) + 1 by omega] at HDk
        have HWk := Lib.hid (HW.out (k + 1) m2)
        have hf : 36524 - k = 36524 - (k + 1) + 1 := by omega
        rw [show ((k + 1 : Nat) : Int) = (k : Int) + 1 by omega] at HWk
        cases cw : workB n g ((k : Int) + 1) with
        | true =>
          have e := Lib.hid (show advN (wkB n g) (36524 - (k + 1)) (k + 1) (q - 1) = R by
            rw [← hN.out, hf]
            exact (adv_yes (p := wkB n g) hq1 (by show workB n g ((k + 1 : Nat) : Int) = true; rw [show ((k + 1 : Nat) : Int) = (k : Int) + 1 by omega]; exact cw)).symm)
          rw [cw] at HWk
          clear hN hR2 HW HD cw HD0 hl hq0 hf
          go_wp2_with fail
          refine (HDk.out _).mono ?_
          rintro e w1 ⟨rfl, rfl⟩
          go_wp2_with fail
          refine HWk.out.mono ?_
          rintro e w1 ⟨rfl, rfl⟩
          go_wp2_with fail
          go_roundw
          case rel => exact ⟨k + 1, q - 1, hk1, by omega, int_eq (by omega), int_eq (by omega), e, _, rfl⟩
          case measure => simp [intOf]; omega
        | false =>
          have e := Lib.hid (show advN (wkB n g) (36524 - (k + 1)) (k + 1) q = R by
            rw [← hN.out, hf]
            exact (adv_no (p := wkB n g) hq1 (by show workB n g ((k + 1 : Nat) : Int) = false; rw [show ((k + 1 : Nat) : Int) = (k : Int) + 1 by omega]; exact cw)).symm)
          rw [cw] at HWk
          clear hN hR2 HW HD cw HD0 hl hq0 hf
          go_wp2_with fail
          refine (HDk.out _).mono ?_
          rintro e w1 ⟨rfl, rfl⟩
          go_wp2_with fail
          refine HWk.out.mono ?_
          rintro e w1 ⟨rfl, rfl⟩
          go_wp2_with fail
          go_roundw
          case rel => exact ⟨k + 1, q, hk1, hq, int_eq (by omega), rfl, e, _, rfl⟩
          case measure => simp [intOf]; omega

set_option maxHeartbeats 800000 in
theorem refAdd_any (v : Value) (n : Nat) (g : Nat → Int) (x c : Int) (w : World) (h : ListAt w .i64 v n g) :
    Calls Tryd.prog 30 #[v, .int .i64 x, .int .i64 c] w fun e w' => e = .returned (.tuple #[.int .i64 (awV n g x c), .int .i64 (awE n g x c)]) ∧ ∃ m, w' = w.drewN m := by
  by_cases hv : validE n g = 0
  · cases hi : awIn x c with
    | true =>
      have e1 : awV n g x c = outV (awR n g x.toNat c.toNat) := by unfold awV; rw [if_pos hv, if_pos hi]
      have e2 : awE n g x c = outE (awR n g x.toNat c.toNat) := by unfold awE; rw [if_pos hv, if_pos hi]
      rw [e1, e2]
      unfold awIn at hi
      simp only [Bool.and_eq_true, decide_eq_true_eq] at hi
      obtain ⟨h1, h2, h3⟩ := hi
      obtain ⟨h4, h5⟩ := (dayB_iff x).1 h1
      obtain ⟨d, rfl⟩ := Int.eq_ofNat_of_zero_le h4
      obtain ⟨q, rfl⟩ := Int.eq_ofNat_of_zero_le h2
      exact refAdd_day v n g d q (by omega) (by omega) hv w h
    | false =>
      have e1 : awV n g x c = 0 := by unfold awV; rw [if_pos hv, if_neg (by rw [hi]; simp)]
      have e2 : awE n g x c = 2 := by unfold awE; rw [if_pos hv, if_neg (by rw [hi]; simp)]
      rw [e1, e2]
      have HV := Lib.hid (refValid_any v n g w h)
      rw [hv] at HV
      have HD0 := Lib.hid (refDay_any x)
      clear hv h e1 e2
      unfold awIn at hi
      cases hd : dayB x with
      | false =>
        rw [hd] at HD0
        clear hd hi
        go_enter Tryd.func30, Tryd.ntmps30
        go_wp2_with fail
        refine HV.out.mono ?_
        rintro e w1 ⟨rfl, m, rfl⟩
        go_wp2_with fail
        refine (HD0.out _).mono ?_
        rintro e w1 ⟨rfl, rfl⟩
        go_wp2_with fail
        go_ret2
        exact ⟨rfl, _, rfl⟩
      | true =>
        rw [hd] at HD0 hi
        have hc : c < 0 ∨ 1000 < c := by
          simp at hi
          omega
        clear hd hi
        by_cases c1 : c < 0
        · have d1 : decide (c < 0) = true := decide_eq_true c1
          clear hc
          go_enter Tryd.func30, Tryd.ntmps30
          go_wp2_with fail
          refine HV.out.mono ?_
          rintro e w1 ⟨rfl, m, rfl⟩
          go_wp2_with fail
          refine (HD0.out _).mono ?_
          rintro e w1 ⟨rfl, rfl⟩
          go_wp2_with fail
          go_ret2
          exact ⟨rfl, _, rfl⟩
        · have d1 : decide (c < 0) = false := decide_eq_false c1
          have d2 : decide (1000 < c) = true := decide_eq_true (by omega)
          clear hc
          go_enter Tryd.func30, Tryd.ntmps30
          go_wp2_with fail
          refine HV.out.mono ?_
          rintro e w1 ⟨rfl, m, rfl⟩
          go_wp2_with fail
          refine (HD0.out _).mono ?_
          rintro e w1 ⟨rfl, rfl⟩
          go_wp2_with fail
          go_ret2
          exact ⟨rfl, _, rfl⟩
  · have e1 : awV n g x c = 0 := if_neg hv
    have e2 : awE n g x c = validE n g := if_neg hv
    rw [e1, e2]
    have HV := Lib.hid (refValid_any v n g w h)
    have d1 : (validE n g != 0) = true := by rw [bne_iff_ne]; exact hv
    clear e1 e2 h hv
    generalize validE n g = E at *
    go_enter Tryd.func30, Tryd.ntmps30
    go_wp2_with fail
    refine HV.out.mono ?_
    rintro e w1 ⟨rfl, m, rfl⟩
    go_wp2_with fail
    go_ret2
    exact ⟨rfl, _, rfl⟩
end Go.Proofs.YtnegiopbccllcaaDoor
