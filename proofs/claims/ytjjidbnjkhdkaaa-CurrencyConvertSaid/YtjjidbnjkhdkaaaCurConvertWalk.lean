/- The law CurrencyConvert, walked: it returns true at every input. No condition. -/
import Derived.Test.YtjjidbnjkhdkaaaCurAtWalk
namespace Go.Proofs.Ytjjidbnjkhdkaaa
open Go.RowKit

set_option maxHeartbeats 1600000 in
theorem currencyConvert_walk (v : Value) (n : Nat) (f : Nat → Int) (w : World) (h : ListAt w .i64 v n f) (amount fr too day mode : Int) (raw : Bool) : Calls Try.prog 6 #[v, .int .i64 amount, .int .i64 fr, .int .i64 too, .int .i64 day, .int .i64 mode, .bool raw] w fun e w' => e = .returned (.bool true) ∧ Below w.heap.size w w' := by
  have HT := Lib.hid (madeTab_any v n f w h)
  have HW := Lib.hid (fun w => madeWithin_any day 120 (by omega) (by omega) w)
  have HX := Lib.hid (fun w => currency_any fr w)
  have HY := Lib.hid (fun w => currency_any too w)
  have HA := Lib.hid (fun w => awake5_any w)
  have hX := cur5_size (fr % 5)
  have hY := cur5_size (too % 5)
  generalize cur5 (fr % 5) = X at *
  generalize cur5 (too % 5) = Y at *
  generalize day % 120 = dw at *
  cases raw
  all_goals
    go_enter Try.func6, Try.ntmps6
    go_wp2_with fail
    refine HT.out.mono ?_
    rintro e w1 ⟨u, L, rfl, hlen, hg, ht, hB1⟩
    have H1 := Lib.hid (fun a m w2 (hb : Below w1.heap.size w1 w2) => curConvert_any u L.length (sX L) (fX L) (rX L) X hX a dw m w2 (ht.keep hb))
    have H2 := Lib.hid (fun a m w2 (hb : Below w1.heap.size w1 w2) => refConvert_any u L.length (sX L) (fX L) (rX L) X a dw m w2 (ht.keep hb))
    have H3 := Lib.hid (fun a m w2 (hb : Below w1.heap.size w1 w2) => curCross_any u L.length (sX L) (fX L) (rX L) X Y hX hY a dw m w2 (ht.keep hb))
    have H4 := Lib.hid (fun a m w2 (hb : Below w1.heap.size w1 w2) => refCross_any u L.length (sX L) (fX L) (rX L) X Y a dw m w2 (ht.keep hb))
    generalize crV (sX L) (fX L) (rX L) L.length = V at *
    generalize crE (sX L) (fX L) (rX L) L.length = E at *
    clear ht hg hlen
    go_wp2_with fail
    refine (HW.out _).mono ?_
    rintro e w2 ⟨rfl, rfl⟩
    go_wp2_with fail
    refine (HX.out _).mono ?_
    rintro e w3 ⟨rfl, hb3⟩
    go_wp2_with fail
    refine (HY.out _).mono ?_
    rintro e w4 ⟨rfl, hb4⟩
    have hb4 := hb3.trans (hb4.mono hb3.size)
    go_wp2_with fail
    refine (H1.out _ _ _ hb4).mono ?_
    rintro e w5 ⟨rfl, hb5⟩
    have hb5 := hb4.trans (hb5.mono hb4.size)
    go_wp2_with fail
    refine (H2.out _ _ _ hb5).mono ?_
    rintro e w6 ⟨rfl, hb6⟩
    have hb6 := hb5.trans (hb6.mono hb5.size)
    go_wp2_with fail
    refine (H3.out _ _ _ hb6).mono ?_
    rintro e w7 ⟨rfl, hb7⟩
    have hb7 := hb6.trans (hb7.mono hb6.size)
    go_wp2_with fail
    refine (H4.out _ _ _ hb7).mono ?_
    rintro e w8 ⟨rfl, hb8⟩
    have hb8 := hb7.trans (hb8.mono hb7.size)
    go_wp2_with fail
    refine (HA.out _).mono ?_
    rintro e w9 ⟨rfl, hb9⟩
    have hb9 := hb8.trans (hb9.mono hb8.size)
    go_wp2_with fail
    go_ret
    exact ⟨rfl, hB1.trans (hb9.mono hB1.size)⟩
end Go.Proofs.Ytjjidbnjkhdkaaa
