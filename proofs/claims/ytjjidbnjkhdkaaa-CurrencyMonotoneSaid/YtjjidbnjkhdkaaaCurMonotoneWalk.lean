/- The law CurrencyMonotone, walked: it returns true at every input. No condition. -/
import Derived.Test.YtjjidbnjkhdkaaaCurSelfWalk
namespace Go.Proofs.Ytjjidbnjkhdkaaa
open Go.RowKit

set_option maxHeartbeats 1600000 in
theorem currencyMonotone_walk (v : Value) (n : Nat) (f : Nat → Int) (w : World) (h : ListAt w .i64 v n f) (a more fr too day mode : Int) : Calls Try.prog 8 #[v, .int .i64 a, .int .i64 more, .int .i64 fr, .int .i64 too, .int .i64 day, .int .i64 mode] w fun e w' => e = .returned (.bool true) ∧ Below w.heap.size w w' := by
  have HT := Lib.hid (madeTab_any v n f w h)
  have HW := Lib.hid (fun w => madeWithin_any day 120 (by omega) (by omega) w)
  have HM := Lib.hid (fun w => madeWithin_any more 1000000 (by omega) (by omega) w)
  have HX := Lib.hid (fun w => currency_any fr w)
  have HY := Lib.hid (fun w => currency_any too w)
  have HA := Lib.hid (fun w => awake5_any w)
  have hX := cur5_size (fr % 5)
  have hY := cur5_size (too % 5)
  obtain ⟨ha1, ha2⟩ := tmod_bounds a 1000000 (by omega)
  have hm1 : 0 ≤ more % 1000000 := by omega
  have hm2 : more % 1000000 < 1000000 := by omega
  generalize more % 1000000 = mo at *
  generalize cur5 (fr % 5) = X at *
  generalize cur5 (too % 5) = Y at *
  generalize day % 120 = dw at *
  go_enter Try.func8, Try.ntmps8
  go_wp2_with fail
  refine HT.out.mono ?_
  rintro e w1 ⟨u, L, rfl, hlen, hg, ht, hB1⟩
  obtain ⟨n1, n2⟩ := cr_neg (sX L) (fX L) (rX L) L.length X Y (a.tmod 1000000) dw (bits .and .i64 mode 3)
  have H1 := Lib.hid (fun w2 (hb : Below w1.heap.size w1 w2) => curCross_any u L.length (sX L) (fX L) (rX L) X Y hX hY (a.tmod 1000000) dw (bits .and .i64 mode 3) w2 (ht.keep hb))
  have H2 := Lib.hid (fun w2 (hb : Below w1.heap.size w1 w2) => curCross_any u L.length (sX L) (fX L) (rX L) X Y hX hY (a.tmod 1000000 + mo) dw (bits .and .i64 mode 3) w2 (ht.keep hb))
  have H3 := Lib.hid (fun w2 (hb : Below w1.heap.size w1 w2) => curCross_any u L.length (sX L) (fX L) (rX L) X Y hX hY (-a.tmod 1000000) dw (bits .and .i64 mode 3) w2 (ht.keep hb))
  rw [n1, n2] at H3
  have hmono := cr_mono (S := sX L) (F := fX L) (R := rX L) (n := L.length) (x := X) (y := Y) (a := a.tmod 1000000) (b := a.tmod 1000000 + mo) (day := dw) (m := bits .and .i64 mode 3) (by omega)
  have hP : -1000000000000 ≤ crV (sX L) (fX L) (rX L) L.length X Y (a.tmod 1000000) dw (bits .and .i64 mode 3) ∧ crV (sX L) (fX L) (rX L) L.length X Y (a.tmod 1000000) dw (bits .and .i64 mode 3) ≤ 1000000000000 := by
    unfold crV
    split
    · omega
    · split
      · omega
      · exact scV_bounds _ _ _ _
  obtain ⟨p1, p2⟩ := hP
  generalize crV (sX L) (fX L) (rX L) L.length X Y (a.tmod 1000000) dw (bits .and .i64 mode 3) = P at *
  generalize crV (sX L) (fX L) (rX L) L.length X Y (a.tmod 1000000 + mo) dw (bits .and .i64 mode 3) = Q at *
  generalize crE (sX L) (fX L) (rX L) L.length X Y (a.tmod 1000000) dw (bits .and .i64 mode 3) = E at *
  generalize crE (sX L) (fX L) (rX L) L.length X Y (a.tmod 1000000 + mo) dw (bits .and .i64 mode 3) = G at *
  clear ht hg hlen n1 n2
  have hcase : (E = 0 ∧ G = 0 ∧ P ≤ Q) ∨ (E = 0 ∧ (G == 0) = false) ∨ (E == 0) = false := by
    by_cases x1 : E = 0
    · by_cases x2 : G = 0
      · exact .inl ⟨x1, x2, hmono x1 x2⟩
      · exact .inr (.inl ⟨x1, beq_eq_false_iff_ne.2 x2⟩)
    · exact .inr (.inr (beq_eq_false_iff_ne.2 x1))
  clear hmono
  rcases hcase with ⟨rfl, rfl, hPQ⟩ | ⟨rfl, d1⟩ | d1
  all_goals
    go_wp2_with fail
    refine (HW.out _).mono ?_
    rintro e w2 ⟨rfl, rfl⟩
    go_wp2_with fail
    refine (HM.out _).mono ?_
    rintro e w2 ⟨rfl, rfl⟩
    go_wp2_with fail
    refine (HX.out _).mono ?_
    rintro e w3 ⟨rfl, hb3⟩
    go_wp2_with fail
    refine (HY.out _).mono ?_
    rintro e w4 ⟨rfl, hb4⟩
    have hb4 := hb3.trans (hb4.mono hb3.size)
    go_wp2_with fail
    refine (H1.out _ hb4).mono ?_
    rintro e w5 ⟨rfl, hb5⟩
    have hb5 := hb4.trans (hb5.mono hb4.size)
    go_wp2_with fail
    refine (H2.out _ hb5).mono ?_
    rintro e w6 ⟨rfl, hb6⟩
    have hb6 := hb5.trans (hb6.mono hb5.size)
    go_wp2_with fail
    refine (H3.out _ hb6).mono ?_
    rintro e w7 ⟨rfl, hb7⟩
    have hb7 := hb6.trans (hb7.mono hb6.size)
    go_wp2_with fail
    refine (HA.out _).mono ?_
    rintro e w8 ⟨rfl, hb8⟩
    have hb8 := hb7.trans (hb8.mono hb7.size)
    go_wp2_with fail
    go_ret
    exact ⟨rfl, hB1.trans (hb8.mono hB1.size)⟩
end Go.Proofs.Ytjjidbnjkhdkaaa
