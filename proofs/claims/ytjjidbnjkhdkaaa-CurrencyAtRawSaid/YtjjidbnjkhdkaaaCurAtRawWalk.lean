/- The law CurrencyAtRaw, walked: it returns true at every input. No condition. -/
import Derived.Test.YtjjidbnjkhdkaaaCurAwake
namespace Go.Proofs.Ytjjidbnjkhdkaaa
open Go.RowKit

/-- The table as a law's function takes it: no longer than N. -/
def TabCut (N : Nat) (w : World) (v : Value) (n : Nat) (S : Nat → ByteArray) (F R : Nat → Int) (u : Value) (m : Nat) : Prop :=
  TabAt w u m S F R ∧ ((v = .slice none 0 0 ∧ u = v) ∨ (∃ (a : Addr) (cap : Nat), v = .slice (some a) n cap ∧ n ≤ N ∧ u = v) ∨ (∃ (a : Addr) (cap : Nat), v = .slice (some a) n cap ∧ N < n ∧ n ≤ cap ∧ cap ≤ maxLen ∧ u = .slice (some a) N cap))
theorem tab_cut (N : Nat) {w : World} {v : Value} {n : Nat} {S : Nat → ByteArray} {F R : Nat → Int} (h : TabAt w v n S F R) : ∃ u m, TabCut N w v n S F R u m := by
  rcases h with ⟨rfl, rfl⟩ | ⟨a, cap, rfl, h1, h2, h3⟩
  · exact ⟨_, 0, Or.inl ⟨rfl, rfl⟩, Or.inl ⟨rfl, rfl⟩⟩
  · by_cases hn : n ≤ N
    · exact ⟨_, n, Or.inr ⟨a, cap, rfl, h1, h2, h3⟩, Or.inr (Or.inl ⟨a, cap, rfl, hn, rfl⟩)⟩
    · exact ⟨.slice (some a) N cap, N, Or.inr ⟨a, cap, rfl, by omega, h2, fun i hi => h3 i (by omega)⟩, Or.inr (Or.inr ⟨a, cap, rfl, by omega, h1, h2, rfl⟩)⟩

set_option maxHeartbeats 800000 in
theorem currencyAtRaw_walk (v : Value) (n : Nat) (S : Nat → ByteArray) (F R : Nat → Int) (w : World) (h : TabAt w v n S F R) (c : ByteArray) (hc : c.size ≤ maxLen) (day : Int) : Calls Try.prog 5 #[v, .string c, .int .i64 day] w fun e w' => e = .returned (.bool true) ∧ Below w.heap.size w w' := by
  obtain ⟨u, m, ht, hv⟩ := tab_cut 300 h
  clear h
  have HA := Lib.hid (fun w => awake5_any w)
  have H1 := Lib.hid (fun w2 (hb : Below w.heap.size w w2) => curAt_any u m S F R c hc day w2 (ht.keep hb))
  have H2 := Lib.hid (fun w2 (hb : Below w.heap.size w w2) => refAt_any u m S F R c day w2 (ht.keep hb))
  generalize atV S F R m c day = V at *
  generalize atE S F R m c day = E at *
  clear ht
  rcases hv with ⟨rfl, rfl⟩ | ⟨a, cap, rfl, h1, rfl⟩ | ⟨a, cap, rfl, h1, h2, h3, rfl⟩
  · go_enter Try.func5, Try.ntmps5
    go_wp2_with fail
    refine (H1.out _ (Below.refl _ _)).mono ?_
    rintro e w1 ⟨rfl, hb1⟩
    go_wp2_with fail
    refine (H2.out _ hb1).mono ?_
    rintro e w2 ⟨rfl, hb2⟩
    have hb2 := hb1.trans (hb2.mono hb1.size)
    go_wp2_with fail
    refine (HA.out _).mono ?_
    rintro e w3 ⟨rfl, hb3⟩
    have hb3 := hb2.trans (hb3.mono hb2.size)
    go_wp2_with fail
    go_ret
    exact ⟨rfl, hb3⟩
  · have d1 : decide (300 < (n : Int)) = false := decide_eq_false (by omega)
    have d2 : decide (300 < n) = false := decide_eq_false (by omega)
    go_enter Try.func5, Try.ntmps5
    go_wp2_with fail
    refine (H1.out _ (Below.refl _ _)).mono ?_
    rintro e w1 ⟨rfl, hb1⟩
    go_wp2_with fail
    refine (H2.out _ hb1).mono ?_
    rintro e w2 ⟨rfl, hb2⟩
    have hb2 := hb1.trans (hb2.mono hb1.size)
    go_wp2_with fail
    refine (HA.out _).mono ?_
    rintro e w3 ⟨rfl, hb3⟩
    have hb3 := hb2.trans (hb3.mono hb2.size)
    go_wp2_with fail
    go_ret
    exact ⟨rfl, hb3⟩
  · have d1 : decide (300 < (n : Int)) = true := decide_eq_true (by omega)
    have d2 : decide (300 < n) = true := decide_eq_true (by omega)
    have s1 : (300 : Int) ≤ (cap : Int) := by omega
    go_enter Try.func5, Try.ntmps5
    go_wp2_with fail
    refine (H1.out _ (Below.refl _ _)).mono ?_
    rintro e w1 ⟨rfl, hb1⟩
    go_wp2_with fail
    refine (H2.out _ hb1).mono ?_
    rintro e w2 ⟨rfl, hb2⟩
    have hb2 := hb1.trans (hb2.mono hb1.size)
    go_wp2_with fail
    refine (HA.out _).mono ?_
    rintro e w3 ⟨rfl, hb3⟩
    have hb3 := hb2.trans (hb3.mono hb2.size)
    go_wp2_with fail
    go_ret
    exact ⟨rfl, hb3⟩
end Go.Proofs.Ytjjidbnjkhdkaaa
