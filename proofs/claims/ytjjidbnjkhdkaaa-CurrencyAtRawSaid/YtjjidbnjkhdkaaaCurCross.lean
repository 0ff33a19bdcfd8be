/- What Cross and Convert of the reference of layer 5 return, for every table, amount, texts, day and mode. Condition: the table's cells are known. -/
import Derived.Test.YtjjidbnjkhdkaaaCurAt
import Derived.Test.YtjjidbnjkhdkaaaRefAmount
import Derived.Test.YtjjidbnjkhdkaaaRefCore
namespace Go.Proofs.Ytjjidbnjkhdkaaa
open Go.RowKit

theorem tabF_rows {S : Nat → ByteArray} {F R : Nat → Int} : ∀ {n : Nat}, tabF S F R n = 0 → ∀ i, i < n → rowE S F R i = 0
  | 0, _, i, hi => absurd hi (by omega)
  | n + 1, h, i, hi => by
    have h' : (if tabF S F R n = 0 then rowE S F R n else tabF S F R n) = 0 := h
    by_cases h0 : tabF S F R n = 0
    · rw [if_pos h0] at h'
      by_cases e : i = n
      · rw [e]; exact h'
      · exact tabF_rows h0 i (by omega)
    · rw [if_neg h0] at h'
      exact absurd h' h0
theorem rowE_rate {S : Nat → ByteArray} {F R : Nat → Int} {i : Nat} (h : rowE S F R i = 0) : 1 ≤ R i ∧ R i ≤ 1000000000 := by
  unfold rowE at h
  split at h
  · omega
  · split at h
    · omega
    · rename_i h2
      omega
theorem lastR_bounds {S : Nat → ByteArray} {F R : Nat → Int} {c : ByteArray} {day : Int} : ∀ {n : Nat}, (∀ i, i < n → 1 ≤ R i ∧ R i ≤ 1000000000) → lastR S F R c day n = 0 ∨ (1 ≤ lastR S F R c day n ∧ lastR S F R c day n ≤ 1000000000)
  | 0, _ => .inl rfl
  | n + 1, h => by
    show (if ((S n).toList == c.toList && decide (F n ≤ day)) = true then R n else lastR S F R c day n) = 0 ∨ (1 ≤ (if ((S n).toList == c.toList && decide (F n ≤ day)) = true then R n else lastR S F R c day n) ∧ (if ((S n).toList == c.toList && decide (F n ≤ day)) = true then R n else lastR S F R c day n) ≤ 1000000000)
    split
    · exact .inr (h n (by omega))
    · exact lastR_bounds (fun i hi => h i (by omega))
/-- A rate that is found is one of a table's. -/
theorem at_bounds {S : Nat → ByteArray} {F R : Nat → Int} {n : Nat} {c : ByteArray} {day : Int} (h : atE S F R n c day = 0) : 1 ≤ atV S F R n c day ∧ atV S F R n c day ≤ 1000000000 := by
  unfold atE at h
  unfold atV
  by_cases h1 : tabE S F R n ≠ 0
  · rw [if_pos h1] at h; exact absurd h h1
  · rw [if_neg h1] at h ⊢
    by_cases h2 : dayB day = false
    · rw [if_pos h2] at h; omega
    · rw [if_neg h2] at h ⊢
      by_cases h3 : (c.toList == [69, 85, 82]) = true
      · rw [if_pos h3]; omega
      · rw [if_neg h3] at h ⊢
        have h4 : tabE S F R n = 0 := by simpa using h1
        have h5 : tabF S F R n = 0 := by
          unfold tabE at h4
          split at h4
          · omega
          · exact h4
        rcases lastR_bounds (S := S) (F := F) (R := R) (c := c) (day := day) (n := n) (fun i hi => rowE_rate (tabF_rows h5 i hi)) with h6 | h6
        · rw [if_pos h6] at h; omega
        · exact h6
/-- What Cross returns. -/
def crE (S : Nat → ByteArray) (F R : Nat → Int) (n : Nat) (x y : ByteArray) (a day m : Int) : Int :=
  if atE S F R n x day ≠ 0 then atE S F R n x day else if atE S F R n y day ≠ 0 then atE S F R n y day else scE a (atV S F R n x day) (atV S F R n y day) m
def crV (S : Nat → ByteArray) (F R : Nat → Int) (n : Nat) (x y : ByteArray) (a day m : Int) : Int :=
  if atE S F R n x day ≠ 0 then 0 else if atE S F R n y day ≠ 0 then 0 else scV a (atV S F R n x day) (atV S F R n y day) m

set_option maxRecDepth 100000 in
set_option maxHeartbeats 3200000 in
theorem refCross_any (v : Value) (n : Nat) (S : Nat → ByteArray) (F R : Nat → Int) (x y : ByteArray) (a day m : Int) (w : World) (h : TabAt w v n S F R) :
    Calls Try.prog 21 #[v, .int .i64 a, .string x, .string y, .int .i64 day, .int .i64 m] w fun e w' => e = .returned (.tuple #[.int .i64 (crV S F R n x y a day m), .int .i64 (crE S F R n x y a day m)]) ∧ Below w.heap.size w w' := by
  have HA := Lib.hid (refAt_any v n S F R x day w h)
  have HBt := Lib.hid (fun w1 (hb : Below w.heap.size w w1) => refAt_any v n S F R y day w1 (h.keep hb))
  have hform : ∃ b cap, v = .slice b n cap := by
    rcases h with ⟨h, h0⟩ | ⟨a, cap, h, _⟩
    · exact ⟨none, 0, by rw [h, h0]⟩
    · exact ⟨some a, cap, h⟩
  obtain ⟨b, cap, rfl⟩ := hform
  have ba := fun h => at_bounds (S := S) (F := F) (R := R) (n := n) (c := x) (day := day) h
  have bb := fun h => at_bounds (S := S) (F := F) (R := R) (n := n) (c := y) (day := day) h
  have k1 : crE S F R n x y a day m = if atE S F R n x day ≠ 0 then atE S F R n x day else if atE S F R n y day ≠ 0 then atE S F R n y day else scE a (atV S F R n x day) (atV S F R n y day) m := rfl
  have k2 : crV S F R n x y a day m = if atE S F R n x day ≠ 0 then 0 else if atE S F R n y day ≠ 0 then 0 else scV a (atV S F R n x day) (atV S F R n y day) m := rfl
  rw [k1, k2]
  clear k1 k2 h
  generalize atE S F R n x day = ex at *
  generalize atE S F R n y day = ey at *
  generalize atV S F R n x day = p at *
  generalize atV S F R n y day = q at *
  by_cases h1 : ex = 0
  · subst h1
    by_cases h2 : ey = 0
    · subst h2
      obtain ⟨p1, p2⟩ := ba rfl
      obtain ⟨q1, q2⟩ := bb rfl
      clear ba bb
      rw [if_neg (by omega), if_neg (by omega), if_neg (by omega), if_neg (by omega)]
      have HM := Lib.hid (fun w => refAmount_any a w)
      by_cases hb : scBad a p q m
      · rw [(sc_bad hb).1, (sc_bad hb).2]
        have hb' : amtB a = false ∨ m < 0 ∨ 3 < m := by
          unfold scBad at hb
          rcases hb with h | h
          · exact .inl h
          · exact .inr (by omega)
        clear hb
        by_cases ha : amtB a = false
        · rw [ha] at HM
          clear hb' ha
          go_enter Try.func21, Try.ntmps21
          go_wp2_with fail
          refine HA.out.mono ?_
          rintro e w1 ⟨rfl, hb1⟩
          have HB1 := Lib.hid hb1
          have HW2 := Lib.hid (HBt.out w1 hb1)
          clear hb1
          go_wp2_with fail
          refine HW2.out.mono ?_
          rintro e w2 ⟨rfl, hb2⟩
          have HB2 := Lib.hid (HB1.out.trans (hb2.mono HB1.out.size))
          clear hb2 HW2
          go_wp2_with fail
          refine (HM.out _).mono ?_
          rintro e w3 ⟨rfl, rfl⟩
          go_wp2_with fail

          go_ret2
          exact ⟨rfl, HB2.out⟩
        · have ha' : amtB a = true := by simpa using ha
          rw [ha'] at HM
          have hm2 : m < 0 ∨ 3 < m := by
            rcases hb' with h | h
            · exact absurd h ha
            · exact h
          clear hb' ha ha'
          by_cases c5 : m < 0
          · have d5 : decide (m < 0) = true := decide_eq_true c5
            clear hm2 c5
            go_enter Try.func21, Try.ntmps21
            go_wp2_with fail
            refine HA.out.mono ?_
            rintro e w1 ⟨rfl, hb1⟩
            have HB1 := Lib.hid hb1
            have HW2 := Lib.hid (HBt.out w1 hb1)
            clear hb1
            go_wp2_with fail
            refine HW2.out.mono ?_
            rintro e w2 ⟨rfl, hb2⟩
            have HB2 := Lib.hid (HB1.out.trans (hb2.mono HB1.out.size))
            clear hb2 HW2
            go_wp2_with fail
            refine (HM.out _).mono ?_
            rintro e w3 ⟨rfl, rfl⟩
            go_wp2_with fail

            go_ret2
            exact ⟨rfl, HB2.out⟩
          · have d5 : decide (m < 0) = false := decide_eq_false c5
            have d6 : decide (3 < m) = true := decide_eq_true (by omega)
            clear hm2 c5
            go_enter Try.func21, Try.ntmps21
            go_wp2_with fail
            refine HA.out.mono ?_
            rintro e w1 ⟨rfl, hb1⟩
            have HB1 := Lib.hid hb1
            have HW2 := Lib.hid (HBt.out w1 hb1)
            clear hb1
            go_wp2_with fail
            refine HW2.out.mono ?_
            rintro e w2 ⟨rfl, hb2⟩
            have HB2 := Lib.hid (HB1.out.trans (hb2.mono HB1.out.size))
            clear hb2 HW2
            go_wp2_with fail
            refine (HM.out _).mono ?_
            rintro e w3 ⟨rfl, rfl⟩
            go_wp2_with fail

            go_ret2
            exact ⟨rfl, HB2.out⟩
      · obtain ⟨ha, c5, c6⟩ : amtB a = true ∧ 0 ≤ m ∧ m ≤ 3 := by
          unfold scBad at hb
          refine ⟨?_, by by_cases hx : m < 0 <;> simp_all <;> omega, by by_cases hx : 3 < m <;> simp_all <;> omega⟩
          cases hh : amtB a with
          | true => rfl
          | false => exact absurd (.inl hh) hb
        obtain ⟨a1, a2⟩ := (amtB_iff a).1 ha
        rw [ha] at HM
        obtain ⟨p', rfl⟩ := Int.eq_ofNat_of_zero_le (show 0 ≤ p by omega)
        obtain ⟨q', rfl⟩ := Int.eq_ofNat_of_zero_le (show 0 ≤ q by omega)
        have hx := refMulDiv_any a.natAbs p' q' m (by omega) (by omega) (by omega)
        have e1 : scQ a p' q' m = mdV a.natAbs p' q' m := rfl
        have e2 : scF a p' q' m = mdE a.natAbs p' q' m := rfl
        rw [← e1, ← e2] at hx
        have hV : scQ a p' q' m < 18446744073709551616 := mdV_lt _ _ _ _
        have hbig := fun h => sc_big hb (.inl h)
        have hbig2 := fun h => sc_big hb (.inr h)
        have hneg := fun h => sc_neg hb h
        have hpos := fun h => sc_pos hb h
        have hm : max a (-a) = (a.natAbs : Int) := by omega
        have hA : a.natAbs ≤ 1000000000000 := by omega
        have hna : a < 0 → -a = (a.natAbs : Int) := by omega
        have hpa : 0 ≤ a → a = (a.natAbs : Int) := by omega
        have d5 : decide (m < 0) = false := decide_eq_false (by omega)
        have d6 : decide (3 < m) = false := decide_eq_false (by omega)
        generalize scV a p' q' m = V at *
        generalize scE a p' q' m = E at *
        generalize scQ a p' q' m = r at *
        generalize scF a p' q' m = f at *
        generalize a.natAbs = A at *
        have HX := Lib.hid hx
        clear hx e1 e2 hb ha
        by_cases hf : f = 0
        · have bf : (f != 0) = false := by rw [hf]; rfl
          by_cases hq : 1000000000000 < r
          · obtain ⟨v1, v2⟩ := hbig2 hq
            have F1 := Lib.hid v1
            have F2 := Lib.hid v2
            clear hf v1 v2 hbig hbig2 hneg hpos
            go_enter Try.func21, Try.ntmps21
            go_wp2_with fail
            refine HA.out.mono ?_
            rintro e w1 ⟨rfl, hb1⟩
            have HB1 := Lib.hid hb1
            have HW2 := Lib.hid (HBt.out w1 hb1)
            clear hb1
            go_wp2_with fail
            refine HW2.out.mono ?_
            rintro e w2 ⟨rfl, hb2⟩
            have HB2 := Lib.hid (HB1.out.trans (hb2.mono HB1.out.size))
            clear hb2 HW2
            go_wp2_with fail
            refine (HM.out _).mono ?_
            rintro e w3 ⟨rfl, rfl⟩
            go_wp2_with fail
            refine (HX.out _).mono ?_
            rintro e w4 ⟨rfl, hb4⟩
            have HB4 := Lib.hid (HB2.out.trans (hb4.mono HB2.out.size))
            clear hb4
            go_wp2_with fail
            go_ret2
            exact ⟨by rw [F2.out, F1.out]; rfl, HB4.out⟩
          · have hno : ¬ (f ≠ 0 ∨ 1000000000000 < r) := by omega
            by_cases hs : a < 0
            · obtain ⟨v1, v2⟩ := hneg hno hs
              have F1 := Lib.hid v1
              have F2 := Lib.hid v2
              have NA := Lib.hid (hna hs)
              clear hf v1 v2 hbig hbig2 hneg hpos hno hna hpa
              go_enter Try.func21, Try.ntmps21
              go_wp2_with fail
              refine HA.out.mono ?_
              rintro e w1 ⟨rfl, hb1⟩
              have HB1 := Lib.hid hb1
              have HW2 := Lib.hid (HBt.out w1 hb1)
              clear hb1
              go_wp2_with fail
              refine HW2.out.mono ?_
              rintro e w2 ⟨rfl, hb2⟩
              have HB2 := Lib.hid (HB1.out.trans (hb2.mono HB1.out.size))
              clear hb2 HW2
              go_wp2_with fail
              refine (HM.out _).mono ?_
              rintro e w3 ⟨rfl, rfl⟩
              go_wp2_with fail
              refine (HX.out _).mono ?_
              rintro e w4 ⟨rfl, hb4⟩
              have HB4 := Lib.hid (HB2.out.trans (hb4.mono HB2.out.size))
              clear hb4
              go_wp2_with fail
              go_ret2
              exact ⟨by rw [F2.out, F1.out]; rfl, HB4.out⟩
            · obtain ⟨v1, v2⟩ := hpos hno hs
              have F1 := Lib.hid v1
              have F2 := Lib.hid v2
              have PA := Lib.hid (hpa (by omega))
              clear hf v1 v2 hbig hbig2 hneg hpos hno hna hpa
              go_enter Try.func21, Try.ntmps21
              go_wp2_with fail
              refine HA.out.mono ?_
              rintro e w1 ⟨rfl, hb1⟩
              have HB1 := Lib.hid hb1
              have HW2 := Lib.hid (HBt.out w1 hb1)
              clear hb1
              go_wp2_with fail
              refine HW2.out.mono ?_
              rintro e w2 ⟨rfl, hb2⟩
              have HB2 := Lib.hid (HB1.out.trans (hb2.mono HB1.out.size))
              clear hb2 HW2
              go_wp2_with fail
              refine (HM.out _).mono ?_
              rintro e w3 ⟨rfl, rfl⟩
              go_wp2_with fail
              refine (HX.out _).mono ?_
              rintro e w4 ⟨rfl, hb4⟩
              have HB4 := Lib.hid (HB2.out.trans (hb4.mono HB2.out.size))
              clear hb4
              go_wp2_with fail
              go_ret2
              exact ⟨by rw [F2.out, F1.out]; rfl, HB4.out⟩
        · have bf : (f != 0) = true := by rw [bne_iff_ne]; exact hf
          obtain ⟨v1, v2⟩ := hbig hf
          have F1 := Lib.hid v1
          have F2 := Lib.hid v2
          clear hf v1 v2 hbig hbig2 hneg hpos
          go_enter Try.func21, Try.ntmps21
          go_wp2_with fail
          refine HA.out.mono ?_
          rintro e w1 ⟨rfl, hb1⟩
          have HB1 := Lib.hid hb1
          have HW2 := Lib.hid (HBt.out w1 hb1)
          clear hb1
          go_wp2_with fail
          refine HW2.out.mono ?_
          rintro e w2 ⟨rfl, hb2⟩
          have HB2 := Lib.hid (HB1.out.trans (hb2.mono HB1.out.size))
          clear hb2 HW2
          go_wp2_with fail
          refine (HM.out _).mono ?_
          rintro e w3 ⟨rfl, rfl⟩
          go_wp2_with fail
          refine (HX.out _).mono ?_
          rintro e w4 ⟨rfl, hb4⟩
          have HB4 := Lib.hid (HB2.out.trans (hb4.mono HB2.out.size))
          clear hb4
          go_wp2_with fail
          go_ret2
          exact ⟨by rw [F2.out, F1.out]; rfl, HB4.out⟩
    · have b1 : (ey != 0) = true := by rw [bne_iff_ne]; exact h2
      rw [if_neg (by omega), if_pos h2, if_neg (by omega), if_pos h2]
      clear ba bb h2
      go_enter Try.func21, Try.ntmps21
      go_wp2_with fail
      refine HA.out.mono ?_
      rintro e w1 ⟨rfl, hb1⟩
      have HB1 := Lib.hid hb1
      have HW2 := Lib.hid (HBt.out w1 hb1)
      clear hb1
      go_wp2_with fail
      refine HW2.out.mono ?_
      rintro e w2 ⟨rfl, hb2⟩
      have HB2 := Lib.hid (HB1.out.trans (hb2.mono HB1.out.size))
      clear hb2 HW2
      go_wp2_with fail
      go_ret2
      exact ⟨rfl, HB2.out⟩
  · have b1 : (ex != 0) = true := by rw [bne_iff_ne]; exact h1
    rw [if_pos h1, if_pos h1]
    clear ba bb h1
    go_enter Try.func21, Try.ntmps21
    go_wp2_with fail
    refine HA.out.mono ?_
    rintro e w1 ⟨rfl, hb1⟩
    have HB1 := Lib.hid hb1
    go_wp2_with fail
    go_ret2
    exact ⟨rfl, HB1.out⟩

/-- The union's own currency. -/
def ownC : ByteArray := ⟨#[69, 85, 82]⟩
theorem refConvert_any (v : Value) (n : Nat) (S : Nat → ByteArray) (F R : Nat → Int) (x : ByteArray) (a day m : Int) (w : World) (h : TabAt w v n S F R) :
    Calls Try.prog 19 #[v, .int .i64 a, .string x, .int .i64 day, .int .i64 m] w fun e w' => e = .returned (.tuple #[.int .i64 (crV S F R n x ownC a day m), .int .i64 (crE S F R n x ownC a day m)]) ∧ Below w.heap.size w w' := by
  have H := refCross_any v n S F R x ownC a day m w h
  unfold ownC at H
  have HC := Lib.hid H
  have k1 : crV S F R n x ownC a day m = crV S F R n x ⟨#[69, 85, 82]⟩ a day m := rfl
  have k2 : crE S F R n x ownC a day m = crE S F R n x ⟨#[69, 85, 82]⟩ a day m := rfl
  rw [k1, k2]
  clear H h k1 k2
  generalize crV S F R n x ⟨#[69, 85, 82]⟩ a day m = V at *
  generalize crE S F R n x ⟨#[69, 85, 82]⟩ a day m = E at *
  go_enter Try.func19, Try.ntmps19
  go_wp2_with fail
  refine HC.out.mono ?_
  rintro e w1 ⟨rfl, hb⟩
  go_wp2_with fail
  go_ret2
  exact ⟨rfl, hb⟩
end Go.Proofs.Ytjjidbnjkhdkaaa
