/- The laws SpreadSign and CapExact, walked: they return true at every input. No condition. -/
import Derived.Test.YtnjegnmkabnkkaaShareExactWalk
namespace Go.Proofs.Ytnjegnmkabnkkaa
open Go.RowKit

set_option maxHeartbeats 1600000 in
theorem capExact_raw (x : Int) (v u : Value) (n m : Nat) (f : Nat → Int) (small : Bool) (w : World) (h : CutTo 1100 w v n f u m) :
    Calls Try.prog 8 #[.int .i64 x, v, .bool small, .bool true] w fun e w' => e = .returned (.bool true) ∧ Below w.heap.size w w' := by
  obtain ⟨hl, hst⟩ := h
  have H1 := Lib.hid (cap_any x u m f w hl)
  have H2 := Lib.hid (fun w1 (hb : Below w.heap.size w w1) => refCap_any x u m f w1 (ListAt.keep hl hb))
  unfold CapGives at H1 H2
  generalize cpE x m f = E at *
  generalize cpN x m f = N at *
  generalize cpI x m f = g at *
  clear hl
  rcases hst with ⟨rfl, rfl⟩ | ⟨a, cap, rfl, h1, rfl⟩ | ⟨a, cap, rfl, h1, h2, rfl⟩
  all_goals
    go_enter Try.func8, Try.ntmps8
    go_wp2_with fail
    refine H1.out.mono ?_
    rintro e w1 ⟨u1, rfl, hO1, hb1⟩
    go_wp2_with fail
    refine (H2.out w1 hb1).mono ?_
    rintro e w2 ⟨u2, rfl, hO2, hb2⟩
    have hB2 := hb1.trans (hb2.mono hb1.size)
    have HS := Lib.hid (refSame_true u1 u2 N g g w2 (ListAt.keep hO1.list hb2) hO2.list (fun _ _ => rfl))
    clear hO1 hO2 hb1 hb2 H1 H2
    go_wp2_with fail
    refine HS.out.mono ?_
    rintro e w3 ⟨rfl, hb3⟩
    have hB3 := hB2.trans (hb3.mono hB2.size)
    go_wp2_with fail
    refine (awake3_any w3).mono ?_
    rintro e w4 ⟨rfl, hb4⟩
    have hB4 := hB3.trans (hb4.mono hB3.size)
    go_wp2_with fail
    go_ret
    exact ⟨rfl, hB4⟩

set_option maxHeartbeats 1600000 in
theorem capExact_made (x : Int) (v u : Value) (n m : Nat) (f : Nat → Int) (small : Bool) (w : World) (h : CutTo 1100 w v n f u m) :
    Calls Try.prog 8 #[.int .i64 x, v, .bool small, .bool false] w fun e w' => e = .returned (.bool true) ∧ Below w.heap.size w w' := by
  obtain ⟨hl, hst⟩ := h
  have HT := Lib.hid (total_any x small)
  have HW := Lib.hid (fun w1 (hb : Below w.heap.size w w1) => weights_any small u m f w1 (ListAt.keep hl hb))
  have H1 := Lib.hid (fun B (w1 : World) (hI : Ints w1 B (cut60 m) (fun i => wtOf small (f i))) => cap_any (totOf small x) (.slice (some ⟨B, 0, none⟩) (cut60 m) (cut60 m)) (cut60 m) _ w1 (hI.list (by have := cut60_le m; omega) (fun i _ => wt_wf small (f i))))
  have H2 := Lib.hid (fun B (w1 : World) (hI : Ints w1 B (cut60 m) (fun i => wtOf small (f i))) => refCap_any (totOf small x) (.slice (some ⟨B, 0, none⟩) (cut60 m) (cut60 m)) (cut60 m) _ w1 (hI.list (by have := cut60_le m; omega) (fun i _ => wt_wf small (f i))))
  unfold CapGives at H1 H2
  generalize cpE (totOf small x) (cut60 m) (fun i => wtOf small (f i)) = E at *
  generalize cpN (totOf small x) (cut60 m) (fun i => wtOf small (f i)) = N at *
  generalize cpI (totOf small x) (cut60 m) (fun i => wtOf small (f i)) = g at *
  generalize cut60 m = c at *
  generalize totOf small x = t at *
  clear hl
  rcases hst with ⟨rfl, rfl⟩ | ⟨a, cap, rfl, h1, rfl⟩ | ⟨a, cap, rfl, h1, h2, rfl⟩
  all_goals
    go_enter Try.func8, Try.ntmps8
    go_wp2_with fail
    refine (HT.out _).mono ?_
    rintro e w0 ⟨rfl, rfl⟩
    go_wp2_with fail
    refine (HW.out _ (Below.refl _ _)).mono ?_
    rintro e w0 ⟨B, rfl, hI, hnB, hb0⟩
    have HI := Lib.hid hI
    clear hI hnB
    go_wp2_with fail
    refine (H1.out B w0 HI.out).mono ?_
    rintro e w1 ⟨u1, rfl, hO1, hb1⟩
    have hB1 := hb0.trans (hb1.mono hb0.size)
    have HI1 := Lib.hid (HI.out.keep hb1)
    go_wp2_with fail
    refine (H2.out B w1 HI1.out).mono ?_
    rintro e w2 ⟨u2, rfl, hO2, hb2⟩
    have hB2 := hB1.trans (hb2.mono hB1.size)
    have HS := Lib.hid (refSame_true u1 u2 N g g w2 (ListAt.keep hO1.list hb2) hO2.list (fun _ _ => rfl))
    clear hO1 hO2 hb1 hb2 hb0 hB1 H1 H2
    go_wp2_with fail
    refine HS.out.mono ?_
    rintro e w3 ⟨rfl, hb3⟩
    have hB3 := hB2.trans (hb3.mono hB2.size)
    go_wp2_with fail
    refine (awake3_any w3).mono ?_
    rintro e w4 ⟨rfl, hb4⟩
    have hB4 := hB3.trans (hb4.mono hB3.size)
    go_wp2_with fail
    go_ret
    exact ⟨rfl, hB4⟩
theorem capExact_walk (x : Int) (v : Value) (n : Nat) (f : Nat → Int) (w : World) (h : ListAt w .i64 v n f) (small raw : Bool) :
    Calls Try.prog 8 #[.int .i64 x, v, .bool small, .bool raw] w fun e w' => e = .returned (.bool true) ∧ Below w.heap.size w w' := by
  obtain ⟨u, m, hc⟩ := cut_to 1100 h
  cases raw
  · exact capExact_made x v u n m f small w hc
  · exact capExact_raw x v u n m f small w hc
set_option maxHeartbeats 1600000 in
theorem spreadSign_raw (x : Int) (hx : -9223372036854775808 ≤ x) (v u : Value) (n m : Nat) (f : Nat → Int) (small : Bool) (w : World) (h : CutTo 1100 w v n f u m) :
    Calls Try.prog 7 #[.int .i64 x, v, .bool small, .bool true] w fun e w' => e = .returned (.bool true) ∧ Below w.heap.size w w' := by
  obtain ⟨hl, hst⟩ := h
  have H1 := Lib.hid (spread_any x hx u m f w hl)
  have H2 := Lib.hid (fun w1 (hb : Below w.heap.size w w1) => refSpread_any x u m f w1 (ListAt.keep hl hb))
  unfold SpreadGives at H1 H2
  generalize shE (spT x) m f = E at *
  generalize shN (spT x) m f = N at *
  generalize spI x m f = g at *
  clear hl hx
  rcases hst with ⟨rfl, rfl⟩ | ⟨a, cap, rfl, h1, rfl⟩ | ⟨a, cap, rfl, h1, h2, rfl⟩
  all_goals
    go_enter Try.func7, Try.ntmps7
    go_wp2_with fail
    refine H1.out.mono ?_
    rintro e w1 ⟨u1, rfl, hO1, hb1⟩
    go_wp2_with fail
    refine (H2.out w1 hb1).mono ?_
    rintro e w2 ⟨u2, rfl, hO2, hb2⟩
    have hB2 := hb1.trans (hb2.mono hb1.size)
    have HS := Lib.hid (refSame_true u1 u2 N g g w2 (ListAt.keep hO1.list hb2) hO2.list (fun _ _ => rfl))
    clear hO1 hO2 hb1 hb2 H1 H2
    go_wp2_with fail
    refine HS.out.mono ?_
    rintro e w3 ⟨rfl, hb3⟩
    have hB3 := hB2.trans (hb3.mono hB2.size)
    go_wp2_with fail
    refine (awake3_any w3).mono ?_
    rintro e w4 ⟨rfl, hb4⟩
    have hB4 := hB3.trans (hb4.mono hB3.size)
    go_wp2_with fail
    go_ret
    exact ⟨rfl, hB4⟩

set_option maxHeartbeats 1600000 in
theorem spreadSign_made (x : Int) (v : Value) (n : Nat) (f : Nat → Int) (small : Bool) (w : World) (h : ListAt w .i64 v n f) :
    Calls Try.prog 7 #[.int .i64 x, v, .bool small, .bool false] w fun e w' => e = .returned (.bool true) ∧ Below w.heap.size w w' := by
  have HW := Lib.hid (weights_any small v n f w h)
  have H1 := Lib.hid (fun B (w1 : World) (hI : Ints w1 B (cut60 n) (fun i => wtOf small (f i))) => spread_any (x.tmod 1000000000001) (by have := Int.lt_tmod_of_pos x (show (0 : Int) < 1000000000001 by omega); omega) (.slice (some ⟨B, 0, none⟩) (cut60 n) (cut60 n)) (cut60 n) _ w1 (hI.list (by have := cut60_le n; omega) (fun i _ => wt_wf small (f i))))
  have H2 := Lib.hid (fun B (w1 : World) (hI : Ints w1 B (cut60 n) (fun i => wtOf small (f i))) => refSpread_any (x.tmod 1000000000001) (.slice (some ⟨B, 0, none⟩) (cut60 n) (cut60 n)) (cut60 n) _ w1 (hI.list (by have := cut60_le n; omega) (fun i _ => wt_wf small (f i))))
  unfold SpreadGives at H1 H2
  generalize shE (spT (x.tmod 1000000000001)) (cut60 n) (fun i => wtOf small (f i)) = E at *
  generalize shN (spT (x.tmod 1000000000001)) (cut60 n) (fun i => wtOf small (f i)) = N at *
  generalize spI (x.tmod 1000000000001) (cut60 n) (fun i => wtOf small (f i)) = g at *
  have hc60 := cut60_le n
  generalize cut60 n = c at *
  have dc : decide ((1100 : Int) < (c : Int)) = false := decide_eq_false (by omega)
  have h' := h
  clear h
  rcases h' with ⟨rfl, rfl⟩ | ⟨a, cap, rfl, h1, h2, h3⟩
  all_goals
    go_enter Try.func7, Try.ntmps7
    go_wp2_with fail
    refine HW.out.mono ?_
    rintro e w0 ⟨B, rfl, hI, hnB, hb0⟩
    have HI := Lib.hid hI
    clear hI hnB
    go_wp2_with fail
    refine (H1.out B w0 HI.out).mono ?_
    rintro e w1 ⟨u1, rfl, hO1, hb1⟩
    have hB1 := hb0.trans (hb1.mono hb0.size)
    have HI1 := Lib.hid (HI.out.keep hb1)
    go_wp2_with fail
    refine (H2.out B w1 HI1.out).mono ?_
    rintro e w2 ⟨u2, rfl, hO2, hb2⟩
    have hB2 := hB1.trans (hb2.mono hB1.size)
    have HS := Lib.hid (refSame_true u1 u2 N g g w2 (ListAt.keep hO1.list hb2) hO2.list (fun _ _ => rfl))
    clear hO1 hO2 hb1 hb2 hb0 hB1 H1 H2
    go_wp2_with fail
    refine HS.out.mono ?_
    rintro e w3 ⟨rfl, hb3⟩
    have hB3 := hB2.trans (hb3.mono hB2.size)
    go_wp2_with fail
    refine (awake3_any w3).mono ?_
    rintro e w4 ⟨rfl, hb4⟩
    have hB4 := hB3.trans (hb4.mono hB3.size)
    go_wp2_with fail
    go_ret
    exact ⟨rfl, hB4⟩
theorem spreadSign_walk (x : Int) (hx : -9223372036854775808 ≤ x) (v : Value) (n : Nat) (f : Nat → Int) (w : World) (h : ListAt w .i64 v n f) (small raw : Bool) :
    Calls Try.prog 7 #[.int .i64 x, v, .bool small, .bool raw] w fun e w' => e = .returned (.bool true) ∧ Below w.heap.size w w' := by
  obtain ⟨u, m, hc⟩ := cut_to 1100 h
  cases raw
  · exact spreadSign_made x v n f small w h
  · exact spreadSign_raw x hx v u n m f small w hc
end Go.Proofs.Ytnjegnmkabnkkaa
