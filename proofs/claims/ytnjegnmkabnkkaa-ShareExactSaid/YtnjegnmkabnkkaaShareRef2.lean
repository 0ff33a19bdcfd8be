/- What Share, Spread, Cap and Same of the reference of layer 3 return. Condition: the lists' cells are known. -/
import Derived.Test.YtnjegnmkabnkkaaShareRef
namespace Go.Proofs.Ytnjegnmkabnkkaa
open Go.RowKit

/-- A list that a call hands back: none, or one of its own. -/
def ListOut (w w1 : World) (u : Value) (n : Nat) (f : Nat → Int) : Prop :=
  (u = .slice none 0 0 ∧ n = 0) ∨ ∃ B cap : Nat, u = .slice (some ⟨B, 0, none⟩) n cap ∧ n ≤ cap ∧ cap ≤ maxLen ∧ w.heap.size ≤ B ∧ Ints w1 B n f ∧ ∀ i, i < n → (Lit.int .i64 (f i)).wf = true
theorem ListOut.list {w w1 : World} {u : Value} {n : Nat} {f : Nat → Int} (h : ListOut w w1 u n f) : ListAt w1 .i64 u n f := by
  rcases h with h | ⟨B, cap, h1, h2, h3, _, h5, h6⟩
  · exact .inl h
  · refine .inr ⟨_, cap, h1, h2, h3, fun i hi => ⟨?_, h6 i hi⟩⟩
    have := h5.at_ 0 i (by omega)
    rw [Nat.zero_add] at this
    exact this
theorem ListOut.congr {w w1 : World} {u : Value} {n : Nat} {f g : Nat → Int} (h : ListOut w w1 u n f) (e : ∀ i, i < n → f i = g i) : ListOut w w1 u n g := by
  rcases h with h | ⟨B, cap, h1, h2, h3, h4, h5, h6⟩
  · exact .inl h
  · exact .inr ⟨B, cap, h1, h2, h3, h4, h5.congr e, fun i hi => by rw [← e i hi]; exact h6 i hi⟩
theorem ListAt.keep {w w1 : World} {v : Value} {n : Nat} {f : Nat → Int} (h : ListAt w .i64 v n f) (hb : Below w.heap.size w w1) : ListAt w1 .i64 v n f := by
  rcases h with h | ⟨a, cap, h1, h2, h3, h4⟩
  · exact .inl h
  · exact .inr ⟨a, cap, h1, h2, h3, fun i hi => ⟨(hb.cell (World.block_lt_of_cell? w _ (h4 i hi).1)).trans (h4 i hi).1, (h4 i hi).2⟩⟩
theorem small_wf {x : Int} (h : -9223372036854775808 ≤ x ∧ x ≤ 9223372036854775807) : (Lit.int .i64 x).wf = true := by
  simp [Lit.wf, IntKind.min, IntKind.max, IntKind.signed, IntKind.bits]
  omega

set_option maxRecDepth 100000 in
set_option maxHeartbeats 800000 in
theorem refShare_none (t : Nat) (v : Value) (hv : v = .slice none 0 0 ∨ ∃ a cap, v = .slice (some a) 0 cap) (ht : t ≤ 1000000000000) (h1 : 0 < t) (w : World) :
    Calls Try.prog 13 #[.int .i64 (t : Int), v] w fun e w' => e = .returned (.tuple #[.slice none 0 0, .int .i64 7]) ∧ w = w' := by
  have d0 : decide ((t : Int) < 0) = false := decide_eq_false (by omega)
  have d1 : decide (1000000000000 < (t : Int)) = false := decide_eq_false (by omega)
  have d2 : decide (0 < (t : Int)) = true := decide_eq_true (by omega)
  have d3 : decide (0 < t) = true := decide_eq_true h1
  rcases hv with rfl | ⟨a, cap, rfl⟩
  all_goals
    go_enter Try.func13, Try.ntmps13
    go_wp2_with fail
    go_loop [6, 8] (fun b i => i = .int .i64 0 ∧ b = .bool false) (fun _ _ => 0)
    case atStart => exact ⟨rfl, rfl⟩
    case round =>
      obtain ⟨rfl, rfl⟩ := hrel
      go_wp2
      go_ret2
      exact ⟨rfl, rfl⟩

set_option maxRecDepth 100000 in
set_option maxHeartbeats 1600000 in
theorem refShare_empty (v : Value) (hv : v = .slice none 0 0 ∨ ∃ a cap, v = .slice (some a) 0 cap) (w : World) :
    Calls Try.prog 13 #[.int .i64 0, v] w fun e w' => ∃ B : Nat, e = .returned (.tuple #[.slice (some ⟨B, 0, none⟩) 0 0, .int .i64 0]) ∧ w.heap.size ≤ B ∧ B < w'.heap.size ∧ Below w.heap.size w w' := by
  have hm0 := fun W => (ints_made 0 (by omega) W).1
  have hmk : ∀ W : World, (Instr.makeSlice 22 (.int .i64 0) (.int .i64 0)).run Try.prog W = .ok (.slice (some ⟨W.heap.size, 0, none⟩) 0 0) (W.alloc (.cells (madeCells #[.int .i64 0] 0) 3)) := hm0
  clear hm0
  have hm1 := Lib.hid (two_made w 0 (by omega)).1
  have hm2 := Lib.hid (two_made w 0 (by omega)).2
  rcases hv with rfl | ⟨a, cap, rfl⟩
  all_goals
    go_enter Try.func13, Try.ntmps13
    go_wp2_with fail
    go_loop [6, 8] (fun b i => i = .int .i64 0 ∧ b = .bool false) (fun _ _ => 0)
    case atStart => exact ⟨rfl, rfl⟩
    case round =>
      obtain ⟨rfl, rfl⟩ := hrel
      go_wp2_with fail
      go_loop [7, 9] (fun s i => i = .int .i64 0 ∧ s = .int .i64 0) (fun _ _ => 0)
      case atStart => exact ⟨rfl, rfl⟩
      case round =>
        obtain ⟨rfl, rfl⟩ := hrel
        go_wp2_with fail
        go_cut [10, 11, 12] (fun o r l wx => ∃ BO BR : Nat, o = .slice (some ⟨BO, 0, none⟩) 0 0 ∧ r = .slice (some ⟨BR, 0, none⟩) 0 0 ∧ l = .int .i64 0 ∧ Hid (TwoLists w wx BO BR 0 (fun _ => 0) (fun _ => 0)))
        case first =>
          go_region
          all_goals
            go_wp2_with fail
            go_meet
            first
              | exact ⟨_, _, rfl, rfl, rfl, hm1⟩
              | exact ⟨_, _, rfl, rfl, rfl, hm2⟩
        case rest =>
          obtain ⟨BO, BR, rfl, rfl, rfl, hTL⟩ := hcut
          clear hmk
          go_wp2_with fail
          go_loop [12, 13] (fun l i => i = .int .i64 0 ∧ l = .int .i64 0) (fun _ _ => 0)
          case atStart => exact ⟨rfl, rfl⟩
          case round =>
            obtain ⟨rfl, rfl⟩ := hrel
            go_wp2_with fail
            go_loop [12] (fun l => l = .int .i64 0) (fun _ => 0)
            case atStart => rfl
            case round =>
              subst hrel
              go_wp2_with fail
              go_ret2
              exact ⟨BO, rfl, hTL.out.newO, hTL.out.out.2, hTL.out.below⟩

/-- What a call of Share hands back. -/
def ShareGives (w : World) (T : Int) (n : Nat) (g : Nat → Int) (e : Ending) (w1 : World) : Prop :=
  ∃ u, e = .returned (.tuple #[u, .int .i64 (shE T n g)]) ∧ ListOut w w1 u (shN T n g) (shI T n g) ∧ Below w.heap.size w w1
theorem refShare_any (T : Int) (v : Value) (n : Nat) (g : Nat → Int) (w : World) (h : ListAt w .i64 v n g) :
    Calls Try.prog 13 #[.int .i64 T, v] w (ShareGives w T n g) := by
  by_cases hn : 1000 < n
  · refine (refShare_long T v n g w h hn).mono ?_
    rintro e w1 ⟨rfl, rfl⟩
    have e1 : shE T n g = 8 := if_pos hn
    have e2 : shN T n g = 0 := by unfold shN; rw [e1]; rfl
    refine ⟨_, by rw [e1], .inl ⟨rfl, e2⟩, Below.refl _ _⟩
  by_cases hb : badB T g n = true
  · have e1 : shE T n g = 2 := by
      unfold shE
      rw [if_neg hn, if_pos ((badB_iff T g n).1 hb)]
    have e2 : shN T n g = 0 := by unfold shN; rw [e1]; rfl
    rcases h with ⟨rfl, rfl⟩ | ⟨a, cap, rfl, h1, h2, h3⟩
    · refine (refShare_bad0 T g w hb).mono ?_
      rintro e w1 ⟨rfl, rfl⟩
      exact ⟨_, by rw [e1], .inl ⟨rfl, e2⟩, Below.refl _ _⟩
    · refine (refShare_bad T a n cap g w (by omega) (fun i hi => (h3 i hi).1) hb).mono ?_
      rintro e w1 ⟨rfl, rfl⟩
      exact ⟨_, by rw [e1], .inl ⟨rfl, e2⟩, Below.refl _ _⟩
  have hb' : ¬ (T < 0 ∨ 1000000000000 < T ∨ amts0 g n = false) := fun x => hb ((badB_iff T g n).2 x)
  have hg : amts0 g n = true := by
    cases ha : amts0 g n with
    | true => rfl
    | false => exact absurd (.inr (.inr ha)) hb'
  obtain ⟨t, rfl⟩ := Int.eq_ofNat_of_zero_le (show 0 ≤ T by omega)
  by_cases h0 : n = 0
  · subst h0
    have hv : v = .slice none 0 0 ∨ ∃ a cap, v = .slice (some a) 0 cap := by
      rcases h with ⟨h, _⟩ | ⟨a, cap, h, _⟩
      · exact .inl h
      · exact .inr ⟨a, cap, h⟩
    by_cases h1 : 0 < t
    · have e1 : shE (t : Int) 0 g = 7 := by
        unfold shE
        rw [if_neg hn, if_neg hb', if_pos (by omega)]
      have e2 : shN (t : Int) 0 g = 0 := by unfold shN; rw [e1]; rfl
      refine (refShare_none t v hv (by omega) h1 w).mono ?_
      rintro e w1 ⟨rfl, rfl⟩
      exact ⟨_, by rw [e1], .inl ⟨rfl, e2⟩, Below.refl _ _⟩
    · obtain rfl : t = 0 := by omega
      have e1 : shE ((0 : Nat) : Int) 0 g = 0 := by
        unfold shE
        rw [if_neg hn, if_neg hb', if_neg (by omega)]
      have e2 : shN ((0 : Nat) : Int) 0 g = 0 := by unfold shN; rw [e1]; rfl
      refine (refShare_empty v hv w).mono ?_
      rintro e w1 ⟨B, rfl, h2, h3, h4⟩
      refine ⟨_, by rw [e1], .inr ⟨B, 0, by rw [e2], by rw [e2]; exact Nat.le_refl _, Nat.zero_le _, h2, ⟨fun j hj => absurd hj (by rw [e2]; omega), h3⟩, fun i hi => absurd hi (by rw [e2]; omega)⟩, h4⟩
  · have e1 : shE (t : Int) n g = 0 := by
      unfold shE
      rw [if_neg hn, if_neg hb', if_neg (by omega)]
    have e2 : shN (t : Int) n g = n := by unfold shN; rw [e1]; rfl
    rcases h with ⟨_, h⟩ | ⟨a, cap, rfl, h1, h2, h3⟩
    · exact absurd h h0
    · refine (refShare_ok t a n cap g w (by omega) (by omega) (by omega) hg (fun i hi => (h3 i hi).1)).mono ?_
      rintro e w1 ⟨B, rfl, h4, h5, h6⟩
      refine ⟨_, by rw [e1], ?_, h6⟩
      rw [e2]
      refine .inr ⟨B, n, rfl, Nat.le_refl _, by unfold maxLen; omega, h5, h4, fun i hi => ?_⟩
      have := sh_le (T := (t : Int)) (g := g) (by omega) (show 1 ≤ n by omega) i hi
      exact small_wf (by omega)
end Go.Proofs.Ytnjegnmkabnkkaa
