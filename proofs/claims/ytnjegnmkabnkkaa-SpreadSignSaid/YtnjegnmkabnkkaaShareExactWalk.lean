/- The law ShareExact, walked: it returns true at every input. No condition. -/
import Derived.Test.YtnjegnmkabnkkaaShareAwake
import Derived.Test.YtnjegnmkabnkkaaShareMade
namespace Go.Proofs.Ytnjegnmkabnkkaa
open Go.RowKit

/-- The list as a law's function takes it: no longer than N. -/
def CutTo (N : Nat) (w : World) (v : Value) (n : Nat) (f : Nat → Int) (u : Value) (m : Nat) : Prop :=
  ListAt w .i64 u m f ∧ ((v = .slice none 0 0 ∧ u = v) ∨ (∃ (a : Addr) (cap : Nat), v = .slice (some a) n cap ∧ n ≤ N ∧ u = v) ∨ (∃ (a : Addr) (cap : Nat), v = .slice (some a) n cap ∧ N < n ∧ n ≤ cap ∧ u = .slice (some a) N cap))
theorem cut_to (N : Nat) {w : World} {v : Value} {n : Nat} {f : Nat → Int} (h : ListAt w .i64 v n f) : ∃ u m, CutTo N w v n f u m := by
  rcases h with ⟨rfl, rfl⟩ | ⟨a, cap, rfl, h1, h2, h3⟩
  · exact ⟨_, 0, Or.inl ⟨rfl, rfl⟩, Or.inl ⟨rfl, rfl⟩⟩
  · by_cases hn : n ≤ N
    · exact ⟨_, n, Or.inr ⟨a, cap, rfl, h1, h2, h3⟩, Or.inr (Or.inl ⟨a, cap, rfl, hn, rfl⟩)⟩
    · exact ⟨.slice (some a) N cap, N, Or.inr ⟨a, cap, rfl, by omega, h2, fun i hi => h3 i (by omega)⟩, Or.inr (Or.inr ⟨a, cap, rfl, by omega, h1, rfl⟩)⟩

set_option maxHeartbeats 1600000 in
theorem shareExact_raw (x : Int) (v u : Value) (n m : Nat) (f : Nat → Int) (small : Bool) (w : World) (h : CutTo 1100 w v n f u m) :
    Calls Try.prog 3 #[.int .i64 x, v, .bool small, .bool true] w fun e w' => e = .returned (.bool true) ∧ Below w.heap.size w w' := by
  obtain ⟨hl, hst⟩ := h
  have H1 := Lib.hid (share_any x u m f w hl)
  have H2 := Lib.hid (fun w1 (hb : Below w.heap.size w w1) => refShare_any x u m f w1 (ListAt.keep hl hb))
  unfold ShareGives at H1 H2
  generalize shE x m f = E at *
  generalize shN x m f = N at *
  generalize shI x m f = g at *
  clear hl
  rcases hst with ⟨rfl, rfl⟩ | ⟨a, cap, rfl, h1, rfl⟩ | ⟨a, cap, rfl, h1, h2, rfl⟩
  all_goals
    go_enter Try.func3, Try.ntmps3
    go_wp2_with fail
    refine H1.out.mono ?_
    rintro e w1 ⟨u1, rfl, hO1, hb1⟩
    go_wp2_with fail
    refine (H2.out w1 hb1).mono ?_
    rintro e w2 ⟨u2, rfl, hO2, hb2⟩
    have hB2 := hb1.trans (hb2.mono hb1.size)
    have HS := Lib.hid (refSame_true u1 u2 N g g w2 (ListAt.keep hO1.list hb2) hO2.list (fun _ _ => rfl))
    clear hO1 hO2 hb1 hb2 H1 H2
    go_wp2_with fail
    refine HS.out.mono ?_
    rintro e w3 ⟨rfl, hb3⟩
    have hB3 := hB2.trans (hb3.mono hB2.size)
    go_wp2_with fail
    refine (awake3_any w3).mono ?_
    rintro e w4 ⟨rfl, hb4⟩
    have hB4 := hB3.trans (hb4.mono hB3.size)
    go_wp2_with fail
    go_ret
    exact ⟨rfl, hB4⟩

set_option maxHeartbeats 1600000 in
theorem shareExact_made (x : Int) (v u : Value) (n m : Nat) (f : Nat → Int) (small : Bool) (w : World) (h : CutTo 1100 w v n f u m) :
    Calls Try.prog 3 #[.int .i64 x, v, .bool small, .bool false] w fun e w' => e = .returned (.bool true) ∧ Below w.heap.size w w' := by
  obtain ⟨hl, hst⟩ := h
  have HT := Lib.hid (total_any x small)
  have HW := Lib.hid (fun w1 (hb : Below w.heap.size w w1) => weights_any small u m f w1 (ListAt.keep hl hb))
  have H1 := Lib.hid (fun B (w1 : World) (hI : Ints w1 B (cut60 m) (fun i => wtOf small (f i))) => share_any (totOf small x) (.slice (some ⟨B, 0, none⟩) (cut60 m) (cut60 m)) (cut60 m) _ w1 (hI.list (by have := cut60_le m; omega) (fun i _ => wt_wf small (f i))))
  have H2 := Lib.hid (fun B (w1 : World) (hI : Ints w1 B (cut60 m) (fun i => wtOf small (f i))) => refShare_any (totOf small x) (.slice (some ⟨B, 0, none⟩) (cut60 m) (cut60 m)) (cut60 m) _ w1 (hI.list (by have := cut60_le m; omega) (fun i _ => wt_wf small (f i))))
  unfold ShareGives at H1 H2
  generalize shE (totOf small x) (cut60 m) (fun i => wtOf small (f i)) = E at *
  generalize shN (totOf small x) (cut60 m) (fun i => wtOf small (f i)) = N at *
  generalize shI (totOf small x) (cut60 m) (fun i => wtOf small (f i)) = g at *
  generalize cut60 m = c at *
  generalize totOf small x = t at *
  clear hl
  rcases hst with ⟨rfl, rfl⟩ | ⟨a, cap, rfl, h1, rfl⟩ | ⟨a, cap, rfl, h1, h2, rfl⟩
  all_goals
    go_enter Try.func3, Try.ntmps3
    go_wp2_with fail
    refine (HT.out _).mono ?_
    rintro e w0 ⟨rfl, rfl⟩
    go_wp2_with fail
    refine (HW.out _ (Below.refl _ _)).mono ?_
    rintro e w0 ⟨B, rfl, hI, hnB, hb0⟩
    have HI := Lib.hid hI
    clear hI hnB
    go_wp2_with fail
    refine (H1.out B w0 HI.out).mono ?_
    rintro e w1 ⟨u1, rfl, hO1, hb1⟩
    have hB1 := hb0.trans (hb1.mono hb0.size)
    have HI1 := Lib.hid (HI.out.keep hb1)
    go_wp2_with fail
    refine (H2.out B w1 HI1.out).mono ?_
    rintro e w2 ⟨u2, rfl, hO2, hb2⟩
    have hB2 := hB1.trans (hb2.mono hB1.size)
    have HS := Lib.hid (refSame_true u1 u2 N g g w2 (ListAt.keep hO1.list hb2) hO2.list (fun _ _ => rfl))
    clear hO1 hO2 hb1 hb2 hb0 hB1 H1 H2
    go_wp2_with fail
    refine HS.out.mono ?_
    rintro e w3 ⟨rfl, hb3⟩
    have hB3 := hB2.trans (hb3.mono hB2.size)
    go_wp2_with fail
    refine (awake3_any w3).mono ?_
    rintro e w4 ⟨rfl, hb4⟩
    have hB4 := hB3.trans (hb4.mono hB3.size)
    go_wp2_with fail
    go_ret
    exact ⟨rfl, hB4⟩
theorem shareExact_walk (x : Int) (v : Value) (n : Nat) (f : Nat → Int) (w : World) (h : ListAt w .i64 v n f) (small raw : Bool) :
    Calls Try.prog 3 #[.int .i64 x, v, .bool small, .bool raw] w fun e w' => e = .returned (.bool true) ∧ Below w.heap.size w w' := by
  obtain ⟨u, m, hc⟩ := cut_to 1100 h
  cases raw
  · exact shareExact_made x v u n m f small w hc
  · exact shareExact_raw x v u n m f small w hc
end Go.Proofs.Ytnjegnmkabnkkaa
