/- The law CurrencySelf, walked: it returns true at every input. No condition. -/
import Derived.Test.YtjjidbnjkhdkaaaCurSpec
import Derived.Test.YtjjidbnjkhdkaaaCurAtWalk
namespace Go.Proofs.Ytjjidbnjkhdkaaa
open Go.RowKit

set_option maxHeartbeats 1600000 in
theorem currencySelf_walk (v : Value) (n : Nat) (f : Nat → Int) (w : World) (h : ListAt w .i64 v n f) (amount c day mode : Int) : Calls Try.prog 7 #[v, .int .i64 amount, .int .i64 c, .int .i64 day, .int .i64 mode] w fun e w' => e = .returned (.bool true) ∧ Below w.heap.size w w' := by
  have HT := Lib.hid (madeTab_any v n f w h)
  have HW := Lib.hid (fun w => madeWithin_any day 120 (by omega) (by omega) w)
  have HX := Lib.hid (fun w => currency_any c w)
  have HA := Lib.hid (fun w => awake5_any w)
  have hX := cur5_size (c % 5)
  have hdw : dayB (day % 120) = true := (dayB_iff _).2 (by omega)
  obtain ⟨ha1, ha2⟩ := tmod_bounds amount 1000000000001 (by omega)
  obtain ⟨hm1, hm2⟩ := two_bits mode
  generalize cur5 (c % 5) = X at *
  generalize day % 120 = dw at *
  go_enter Try.func7, Try.ntmps7
  go_wp2_with fail
  refine HT.out.mono ?_
  rintro e w1 ⟨u, L, rfl, hlen, hg, ht, hB1⟩
  have h0 := at_own (hg.tab (by omega)) hdw
  obtain ⟨e1, e2⟩ := cr_self (x := ownC) (a := amount.tmod 1000000000001) (m := bits .and .i64 mode 3) h0 (by omega) (by omega) hm1 hm2
  have H1 := Lib.hid (fun w2 (hb : Below w1.heap.size w1 w2) => curConvert_any u L.length (sX L) (fX L) (rX L) ownC (by decide +kernel) (amount.tmod 1000000000001) dw (bits .and .i64 mode 3) w2 (ht.keep hb))
  rw [e1, e2] at H1
  have H2 := Lib.hid (fun w2 (hb : Below w1.heap.size w1 w2) => curAt_any u L.length (sX L) (fX L) (rX L) X hX dw w2 (ht.keep hb))
  by_cases hx : atE (sX L) (fX L) (rX L) L.length X dw = 0
  · obtain ⟨e3, e4⟩ := cr_self (x := X) (a := amount.tmod 1000000000001) (m := bits .and .i64 mode 3) hx (by omega) (by omega) hm1 hm2
    have H3 := Lib.hid (fun w2 (hb : Below w1.heap.size w1 w2) => curCross_any u L.length (sX L) (fX L) (rX L) X X hX hX (amount.tmod 1000000000001) dw (bits .and .i64 mode 3) w2 (ht.keep hb))
    rw [e3, e4] at H3
    rw [hx] at H2
    generalize atV (sX L) (fX L) (rX L) L.length X dw = V at *
    clear ht hg hlen hx h0 e1 e2 e3 e4 hm1 hm2 hdw
    go_wp2_with fail
    refine (HW.out _).mono ?_
    rintro e w2 ⟨rfl, rfl⟩
    go_wp2_with fail
    refine (HX.out _).mono ?_
    rintro e w3 ⟨rfl, hb3⟩
    go_wp2_with fail
    refine (H1.out _ hb3).mono ?_
    rintro e w4 ⟨rfl, hb4⟩
    have hb4 := hb3.trans (hb4.mono hb3.size)
    go_wp2_with fail
    refine (H2.out _ hb4).mono ?_
    rintro e w5 ⟨rfl, hb5⟩
    have hb5 := hb4.trans (hb5.mono hb4.size)
    go_wp2_with fail
    refine (H3.out _ hb5).mono ?_
    rintro e w6 ⟨rfl, hb6⟩
    have hb6 := hb5.trans (hb6.mono hb5.size)
    go_wp2_with fail
    refine (HA.out _).mono ?_
    rintro e w7 ⟨rfl, hb7⟩
    have hb7 := hb6.trans (hb7.mono hb6.size)
    go_wp2_with fail
    go_ret
    exact ⟨rfl, hB1.trans (hb7.mono hB1.size)⟩
  · generalize atV (sX L) (fX L) (rX L) L.length X dw = V at *
    generalize atE (sX L) (fX L) (rX L) L.length X dw = E at *
    have d1 : (E == 0) = false := beq_eq_false_iff_ne.2 hx
    clear ht hg hlen h0 e1 e2 hm1 hm2 hdw
    go_wp2_with fail
    refine (HW.out _).mono ?_
    rintro e w2 ⟨rfl, rfl⟩
    go_wp2_with fail
    refine (HX.out _).mono ?_
    rintro e w3 ⟨rfl, hb3⟩
    go_wp2_with fail
    refine (H1.out _ hb3).mono ?_
    rintro e w4 ⟨rfl, hb4⟩
    have hb4 := hb3.trans (hb4.mono hb3.size)
    go_wp2_with fail
    refine (H2.out _ hb4).mono ?_
    rintro e w5 ⟨rfl, hb5⟩
    have hb5 := hb4.trans (hb5.mono hb4.size)
    go_wp2_with fail
    refine (HA.out _).mono ?_
    rintro e w7 ⟨rfl, hb7⟩
    have hb7 := hb5.trans (hb7.mono hb5.size)
    go_wp2_with fail
    go_ret
    exact ⟨rfl, hB1.trans (hb7.mono hB1.size)⟩
end Go.Proofs.Ytjjidbnjkhdkaaa
