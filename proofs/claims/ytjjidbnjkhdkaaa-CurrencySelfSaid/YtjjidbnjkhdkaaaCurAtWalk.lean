/- The law CurrencyAt, walked: it returns true at every input. No condition. -/
import Derived.Test.YtjjidbnjkhdkaaaCurMade3
import Derived.Test.YtjjidbnjkhdkaaaCurAwake
namespace Go.Proofs.Ytjjidbnjkhdkaaa
open Go.RowKit

/-- The made table, as a table. -/
theorem madeTab_any (v : Value) (n : Nat) (f : Nat → Int) (w : World) (h : ListAt w .i64 v n f) :
    Calls Try.prog 10 #[v] w fun e w' => ∃ (u : Value) (L : List Exch), e = .returned u ∧ L.length ≤ 9 ∧ GoodX L ∧ TabAt w' u L.length (sX L) (fX L) (rX L) ∧ Below w.heap.size w w' := by
  refine (madeTable_any v n f w h).mono ?_
  rintro e w1 ⟨u, L, SB, CB, rfl, h1, h2, _, h3⟩
  exact ⟨u, L, rfl, h1, h2, h3.tab h2, h3.src.below⟩

set_option maxHeartbeats 800000 in
theorem currencyAt_walk (v : Value) (n : Nat) (f : Nat → Int) (w : World) (h : ListAt w .i64 v n f) (c day : Int) (raw : Bool) : Calls Try.prog 4 #[v, .int .i64 c, .int .i64 day, .bool raw] w fun e w' => e = .returned (.bool true) ∧ Below w.heap.size w w' := by
  have HT := Lib.hid (madeTab_any v n f w h)
  have HW := Lib.hid (fun w => madeWithin_any day 120 (by omega) (by omega) w)
  have HC := Lib.hid (fun w => currency_any c w)
  have HA := Lib.hid (fun w => awake5_any w)
  have hC := cur5_size (c % 5)
  generalize cur5 (c % 5) = C at *
  generalize day % 120 = dw at *
  cases raw with
  | true =>
    go_enter Try.func4, Try.ntmps4
    go_wp2_with fail
    refine HT.out.mono ?_
    rintro e w1 ⟨u, L, rfl, hlen, hg, ht, hB1⟩
    have H1 := Lib.hid (fun w2 (hb : Below w1.heap.size w1 w2) => curAt_any u L.length (sX L) (fX L) (rX L) C hC day w2 (ht.keep hb))
    have H2 := Lib.hid (fun w2 (hb : Below w1.heap.size w1 w2) => refAt_any u L.length (sX L) (fX L) (rX L) C day w2 (ht.keep hb))
    generalize atV (sX L) (fX L) (rX L) L.length C day = V at *
    generalize atE (sX L) (fX L) (rX L) L.length C day = E at *
    clear ht hg hlen
    go_wp2_with fail
    refine (HC.out _).mono ?_
    rintro e w2 ⟨rfl, hb2⟩
    go_wp2_with fail
    refine (H1.out _ hb2).mono ?_
    rintro e w3 ⟨rfl, hb3⟩
    have hb3 := hb2.trans (hb3.mono hb2.size)
    go_wp2_with fail
    refine (HC.out _).mono ?_
    rintro e w4 ⟨rfl, hb4⟩
    have hb4 := hb3.trans (hb4.mono hb3.size)
    go_wp2_with fail
    refine (H2.out _ hb4).mono ?_
    rintro e w5 ⟨rfl, hb5⟩
    have hb5 := hb4.trans (hb5.mono hb4.size)
    go_wp2_with fail
    refine (HA.out _).mono ?_
    rintro e w6 ⟨rfl, hb6⟩
    have hb6 := hb5.trans (hb6.mono hb5.size)
    go_wp2_with fail
    go_ret
    exact ⟨rfl, hB1.trans (hb6.mono hB1.size)⟩
  | false =>
    go_enter Try.func4, Try.ntmps4
    go_wp2_with fail
    refine HT.out.mono ?_
    rintro e w1 ⟨u, L, rfl, hlen, hg, ht, hB1⟩
    have H1 := Lib.hid (fun w2 (hb : Below w1.heap.size w1 w2) => curAt_any u L.length (sX L) (fX L) (rX L) C hC dw w2 (ht.keep hb))
    have H2 := Lib.hid (fun w2 (hb : Below w1.heap.size w1 w2) => refAt_any u L.length (sX L) (fX L) (rX L) C dw w2 (ht.keep hb))
    generalize atV (sX L) (fX L) (rX L) L.length C dw = V at *
    generalize atE (sX L) (fX L) (rX L) L.length C dw = E at *
    clear ht hg hlen
    go_wp2_with fail
    refine (HW.out _).mono ?_
    rintro e w1 ⟨rfl, rfl⟩
    go_wp2_with fail
    refine (HC.out _).mono ?_
    rintro e w2 ⟨rfl, hb2⟩
    go_wp2_with fail
    refine (H1.out _ hb2).mono ?_
    rintro e w3 ⟨rfl, hb3⟩
    have hb3 := hb2.trans (hb3.mono hb2.size)
    go_wp2_with fail
    refine (HC.out _).mono ?_
    rintro e w4 ⟨rfl, hb4⟩
    have hb4 := hb3.trans (hb4.mono hb3.size)
    go_wp2_with fail
    refine (H2.out _ hb4).mono ?_
    rintro e w5 ⟨rfl, hb5⟩
    have hb5 := hb4.trans (hb5.mono hb4.size)
    go_wp2_with fail
    refine (HA.out _).mono ?_
    rintro e w6 ⟨rfl, hb6⟩
    have hb6 := hb5.trans (hb6.mono hb5.size)
    go_wp2_with fail
    go_ret
    exact ⟨rfl, hB1.trans (hb6.mono hB1.size)⟩
end Go.Proofs.Ytjjidbnjkhdkaaa
