/- What At, Cross and Convert of the landed package currency return, for every table, texts, amount, day and mode. Condition: the table's cells are known. -/
import Derived.Test.YtjjidbnjkhdkaaaCurRates
import Derived.Test.YtjjidbnjkhdkaaaMoneyScaleCode
namespace Go.Proofs.Ytjjidbnjkhdkaaa
open Go.RowKit Go.Maps

/-- What is found at a currency, in a map that reads as the rates of a valid table. -/
theorem rate_found {S : Nat → ByteArray} {F R : Nat → Int} {n : Nat} {day : Int} (ht : tabE S F R n = 0) (hd : dayB day = true) (c : ByteArray) (he : atE S F R n c day = 0) {k : Int}
    (hat : (ratesD S F R day n).atKey (rateK c) (.lit (.int .i64 0)) = .lit (.int .i64 k)) : k = atV S F R n c day := by
  have h := (rates_at ht hd c).2.1 he (.lit (.int .i64 0))
  rw [hat] at h
  simpa using h
theorem at_first {S : Nat → ByteArray} {F R : Nat → Int} {n : Nat} {day : Int} {c : ByteArray} (h : tabE S F R n ≠ 0) : atE S F R n c day = tabE S F R n ∧ atV S F R n c day = 0 := ⟨if_pos h, if_pos h⟩
theorem at_second {S : Nat → ByteArray} {F R : Nat → Int} {n : Nat} {day : Int} {c : ByteArray} (h : tabE S F R n = 0) (hd : dayB day = false) : atE S F R n c day = 2 ∧ atV S F R n c day = 0 :=
  ⟨(if_neg (by simpa using h)).trans (if_pos hd), (if_neg (by simpa using h)).trans (if_pos hd)⟩

set_option maxRecDepth 100000 in
set_option maxHeartbeats 1600000 in
theorem curAt_any (v : Value) (n : Nat) (S : Nat → ByteArray) (F R : Nat → Int) (c : ByteArray) (hc : c.size ≤ maxLen) (day : Int) (w : World) (h : TabAt w v n S F R) :
    Calls Try.prog 15 #[v, .string c, .int .i64 day] w fun e w' => e = .returned (.tuple #[.int .i64 (atV S F R n c day), .int .i64 (atE S F R n c day)]) ∧ Below w.heap.size w w' := by
  have HR := Lib.hid (ratesOf_any v n S F R day w h)
  have hkey := keyS c hc
  obtain ⟨a, cap, rfl⟩ : ∃ a cap, v = .slice a n cap := by
    rcases h with ⟨h, h0⟩ | ⟨a, cap, h, _⟩
    · exact ⟨none, 0, by rw [h, h0]⟩
    · exact ⟨some a, cap, h⟩
  clear h
  obtain ⟨V, hV⟩ : ∃ V, V = atV S F R n c day := ⟨_, rfl⟩
  obtain ⟨E, hE⟩ : ∃ E, E = atE S F R n c day := ⟨_, rfl⟩
  rw [← hV, ← hE]
  have hV := Lib.hid hV
  have hE := Lib.hid hE
  go_enter Try.func15, Try.ntmps15
  go_wp2_with fail
  refine HR.out.mono ?_
  rintro e w1 ⟨⟨he, rfl⟩ | ⟨he, hd, rfl⟩ | ⟨he, hd, B, rfl, hown⟩, hb⟩
  · have b1 : (tabE S F R n != 0) = true := by rw [bne_iff_ne]; exact he
    have f := Lib.hid (at_first (day := day) (c := c) he)
    clear he HR hkey
    go_wp2_with fail
    go_ret2
    exact ⟨by (rw [hV.out, hE.out, f.out.1, f.out.2]; try rfl), hb⟩
  · have f := Lib.hid (at_second (c := c) he hd)
    clear he HR hkey hd
    go_wp2_with fail
    go_ret2
    exact ⟨by (rw [hV.out, hE.out, f.out.1, f.out.2]; try rfl), hb⟩
  · have f := Lib.hid (rates_at he hd c)
    have g := Lib.hid (fun k h0 hat => rate_found he hd c h0 (k := k) hat)
    clear he hd HR
    by_cases h0 : atE S F R n c day = 0
    · have hh : has (ratesD S F R day n) (rateK c) = true := f.out.1.trans (decide_eq_true h0)
      have g := Lib.hid (fun k hat => g.out k h0 hat)
      have hE0 : Hid (E = 0) := Lib.hid (hE.out.trans h0)
      clear f h0 hE
      generalize ratesD S F R day n = D at *
      go_wp2_with (at_lookup; refine wpList_lookup_own_ok_int (H := Unit) _ rfl _ _ 57 rfl 9 3 .i64 keysS undM undI (zeroI _) B (n + 1) D rfl hown _ _ rfl hkey ?_; intro k hat hwk)
      go_ret2
      exact ⟨by (rw [hV.out, hE0.out, g.out k hat]; try rfl), hb⟩
    · have hh : has (ratesD S F R day n) (rateK c) = false := f.out.1.trans (decide_eq_false h0)
      have f2 := Lib.hid (f.out.2.2 h0)
      clear f h0 g
      generalize ratesD S F R day n = D at *
      go_wp2_with (at_lookup; refine wpList_lookup_own_ok_int (H := Unit) _ rfl _ _ 57 rfl 9 3 .i64 keysS undM undI (zeroI _) B (n + 1) D rfl hown _ _ rfl hkey ?_; intro k hat hwk)
      go_ret2
      exact ⟨by (rw [hV.out, hE.out, f2.out.1, f2.out.2]; try rfl), hb⟩

set_option maxRecDepth 100000 in
set_option maxHeartbeats 1600000 in
theorem curCross_any (v : Value) (n : Nat) (S : Nat → ByteArray) (F R : Nat → Int) (x y : ByteArray) (hx : x.size ≤ maxLen) (hy : y.size ≤ maxLen) (a day m : Int) (w : World) (h : TabAt w v n S F R) :
    Calls Try.prog 20 #[v, .int .i64 a, .string x, .string y, .int .i64 day, .int .i64 m] w fun e w' => e = .returned (.tuple #[.int .i64 (crV S F R n x y a day m), .int .i64 (crE S F R n x y a day m)]) ∧ Below w.heap.size w w' := by
  have HR := Lib.hid (ratesOf_any v n S F R day w h)
  have HS := Lib.hid (fun p q w => moneyScale_any a p q m w)
  have hkx := keyS x hx
  have hky := keyS y hy
  obtain ⟨ad, cap, rfl⟩ : ∃ a cap, v = .slice a n cap := by
    rcases h with ⟨h, h0⟩ | ⟨a, cap, h, _⟩
    · exact ⟨none, 0, by rw [h, h0]⟩
    · exact ⟨some a, cap, h⟩
  clear h
  obtain ⟨V, hV⟩ : ∃ V, V = crV S F R n x y a day m := ⟨_, rfl⟩
  obtain ⟨E, hE⟩ : ∃ E, E = crE S F R n x y a day m := ⟨_, rfl⟩
  rw [← hV, ← hE]
  have hV := Lib.hid hV
  have hE := Lib.hid hE
  have hbad : Hid (∀ k, atE S F R n x day = k → k ≠ 0 → V = 0 ∧ E = k) := Lib.hid (fun k h1 h2 => ⟨hV.out.trans (if_pos (by rw [h1]; exact h2)), hE.out.trans ((if_pos (by rw [h1]; exact h2)).trans h1)⟩)
  have hbad2 : Hid (∀ k, atE S F R n x day = 0 → atE S F R n y day = k → k ≠ 0 → V = 0 ∧ E = k) := Lib.hid (fun k h1 h2 h3 =>
    ⟨hV.out.trans ((if_neg (by simpa using h1)).trans (if_pos (by rw [h2]; exact h3))), hE.out.trans ((if_neg (by simpa using h1)).trans ((if_pos (by rw [h2]; exact h3)).trans h2))⟩)
  have hgood : Hid (atE S F R n x day = 0 → atE S F R n y day = 0 → V = scV a (atV S F R n x day) (atV S F R n y day) m ∧ E = scE a (atV S F R n x day) (atV S F R n y day) m) := Lib.hid (fun h1 h2 =>
    ⟨hV.out.trans ((if_neg (by simpa using h1)).trans (if_neg (by simpa using h2))), hE.out.trans ((if_neg (by simpa using h1)).trans (if_neg (by simpa using h2)))⟩)
  clear hV hE
  go_enter Try.func20, Try.ntmps20
  go_wp2_with fail
  refine HR.out.mono ?_
  rintro e w1 ⟨⟨he, rfl⟩ | ⟨he, hd, rfl⟩ | ⟨he, hd, B, rfl, hown⟩, hb⟩
  · have b1 : (tabE S F R n != 0) = true := by rw [bne_iff_ne]; exact he
    have f := Lib.hid (hbad.out _ (at_first (day := day) (c := x) he).1 he)
    clear he HR hkx hky hbad hbad2 hgood HS
    go_wp2_with fail
    go_ret2
    exact ⟨by (rw [f.out.1, f.out.2]; try rfl), hb⟩
  · have f := Lib.hid (hbad.out _ (at_second (c := x) he hd).1 (by omega))
    clear he HR hkx hky hd hbad hbad2 hgood HS
    go_wp2_with fail
    go_ret2
    exact ⟨by (rw [f.out.1, f.out.2]; try rfl), hb⟩
  · have fx := Lib.hid (rates_at he hd x)
    have fy := Lib.hid (rates_at he hd y)
    have gx := Lib.hid (fun k h0 hat => rate_found he hd x h0 (k := k) hat)
    have gy := Lib.hid (fun k h0 hat => rate_found he hd y h0 (k := k) hat)
    have hB := Lib.hid hb
    clear he hd HR hb
    by_cases h0 : atE S F R n x day = 0
    · have hh : has (ratesD S F R day n) (rateK x) = true := fx.out.1.trans (decide_eq_true h0)
      by_cases h1 : atE S F R n y day = 0
      · have hh2 : has (ratesD S F R day n) (rateK y) = true := fy.out.1.trans (decide_eq_true h1)
        have gx := Lib.hid (fun k hat => gx.out k h0 hat)
        have gy := Lib.hid (fun k hat => gy.out k h1 hat)
        have hg := Lib.hid (hgood.out h0 h1)
        clear fx fy h0 h1 hbad hbad2 hgood
        generalize ratesD S F R day n = D at *
        go_wp2_with (first
          | (at_lookup; refine wpList_lookup_own_ok_int (H := Unit) _ rfl _ _ 57 rfl 9 3 .i64 keysS undM undI (zeroI _) B (n + 1) D rfl hown _ _ rfl hkx ?_; intro k hat hwk)
          | (at_lookup; refine wpList_lookup_own_ok_int (H := Unit) _ rfl _ _ 57 rfl 9 3 .i64 keysS undM undI (zeroI _) B (n + 1) D rfl hown _ _ rfl hky ?_; intro k2 hat2 hwk2))
        refine (HS.out k k2 _).mono ?_
        rintro e w3 ⟨rfl, hb3⟩
        go_wp2_with fail
        go_ret2
        exact ⟨by (rw [hg.out.1, hg.out.2, gx.out k hat, gy.out k2 hat2]; try rfl), hB.out.trans (hb3.mono hB.out.size)⟩
      · have hh2 : has (ratesD S F R day n) (rateK y) = false := fy.out.1.trans (decide_eq_false h1)
        have hg := Lib.hid (hbad2.out 6 h0 (fy.out.2.2 h1).1 (by omega))
        clear fx fy gx gy h0 h1 hbad hbad2 hgood
        generalize ratesD S F R day n = D at *
        go_wp2_with (first
          | (at_lookup; refine wpList_lookup_own_ok_int (H := Unit) _ rfl _ _ 57 rfl 9 3 .i64 keysS undM undI (zeroI _) B (n + 1) D rfl hown _ _ rfl hkx ?_; intro k hat hwk)
          | (at_lookup; refine wpList_lookup_own_ok_int (H := Unit) _ rfl _ _ 57 rfl 9 3 .i64 keysS undM undI (zeroI _) B (n + 1) D rfl hown _ _ rfl hky ?_; intro k2 hat2 hwk2))
        go_ret2
        exact ⟨by (rw [hg.out.1, hg.out.2]; try rfl), hB.out⟩
    · have hh : has (ratesD S F R day n) (rateK x) = false := fx.out.1.trans (decide_eq_false h0)
      have hg := Lib.hid (hbad.out 6 (fx.out.2.2 h0).1 (by omega))
      clear fx fy gx gy h0 hbad hbad2 hgood
      generalize ratesD S F R day n = D at *
      go_wp2_with (first
        | (at_lookup; refine wpList_lookup_own_ok_int (H := Unit) _ rfl _ _ 57 rfl 9 3 .i64 keysS undM undI (zeroI _) B (n + 1) D rfl hown _ _ rfl hkx ?_; intro k hat hwk)
        | (at_lookup; refine wpList_lookup_own_ok_int (H := Unit) _ rfl _ _ 57 rfl 9 3 .i64 keysS undM undI (zeroI _) B (n + 1) D rfl hown _ _ rfl hky ?_; intro k2 hat2 hwk2))
      go_ret2
      exact ⟨by (rw [hg.out.1, hg.out.2]; try rfl), hB.out⟩

set_option maxHeartbeats 800000 in
theorem curConvert_any (v : Value) (n : Nat) (S : Nat → ByteArray) (F R : Nat → Int) (x : ByteArray) (hx : x.size ≤ maxLen) (a day m : Int) (w : World) (h : TabAt w v n S F R) :
    Calls Try.prog 18 #[v, .int .i64 a, .string x, .int .i64 day, .int .i64 m] w fun e w' => e = .returned (.tuple #[.int .i64 (crV S F R n x ownC a day m), .int .i64 (crE S F R n x ownC a day m)]) ∧ Below w.heap.size w w' := by
  have HC := Lib.hid (curCross_any v n S F R x ownC hx (by decide) a day m w h)
  obtain ⟨ad, cap, rfl⟩ : ∃ a cap, v = .slice a n cap := by
    rcases h with ⟨h, h0⟩ | ⟨a, cap, h, _⟩
    · exact ⟨none, 0, by rw [h, h0]⟩
    · exact ⟨some a, cap, h⟩
  clear h
  generalize crV S F R n x ownC a day m = V at *
  generalize crE S F R n x ownC a day m = E at *
  go_enter Try.func18, Try.ntmps18
  go_wp2_with fail
  refine HC.out.mono ?_
  rintro e w1 ⟨rfl, hb⟩
  go_wp2_with fail
  go_ret2
  exact ⟨rfl, hb⟩
end Go.Proofs.Ytjjidbnjkhdkaaa
