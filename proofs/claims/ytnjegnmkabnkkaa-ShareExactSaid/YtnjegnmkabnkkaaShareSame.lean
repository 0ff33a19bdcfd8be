/- What Same of the reference of layer 3 returns for equal lists; what Spread returns. Condition: the lists' cells are known. -/
import Derived.Test.YtnjegnmkabnkkaaShareRef2
namespace Go.Proofs.Ytnjegnmkabnkkaa
open Go.RowKit

set_option maxHeartbeats 800000 in
theorem refSame_true (u v : Value) (n : Nat) (f g : Nat → Int) (w : World) (hu : ListAt w .i64 u n f) (hv : ListAt w .i64 v n g) (hfg : ∀ i, i < n → f i = g i) :
    Calls Try.prog 14 #[u, v] w fun e w' => e = .returned (.bool true) ∧ Below w.heap.size w w' := by
  rcases hu with ⟨rfl, rfl⟩ | ⟨a, ca, rfl, a1, a2, a3⟩ <;> rcases hv with ⟨rfl, h0⟩ | ⟨b, cb, rfl, b1, b2, b3⟩
  · go_enter Try.func14, Try.ntmps14
    go_wp2
    go_loopw [5] (fun i wx => i = .int .i64 0 ∧ Below w.heap.size w wx) (fun _ _ => 0)
    case atStart => exact ⟨rfl, by repeat (first | exact Below.refl _ _ | (refine below_drewN ?_ _) | (refine Below.drew ?_))⟩
    case round =>
      obtain ⟨rfl, hB⟩ := hrel
      go_wp2
      go_ret
      exact ⟨rfl, hB⟩
  · go_enter Try.func14, Try.ntmps14
    go_wp2
    go_loopw [5] (fun i wx => i = .int .i64 0 ∧ Below w.heap.size w wx) (fun _ _ => 0)
    case atStart => exact ⟨rfl, by repeat (first | exact Below.refl _ _ | (refine below_drewN ?_ _) | (refine Below.drew ?_))⟩
    case round =>
      obtain ⟨rfl, hB⟩ := hrel
      go_wp2
      go_ret
      exact ⟨rfl, hB⟩
  · subst h0
    go_enter Try.func14, Try.ntmps14
    go_wp2
    go_loopw [5] (fun i wx => i = .int .i64 0 ∧ Below w.heap.size w wx) (fun _ _ => 0)
    case atStart => exact ⟨rfl, by repeat (first | exact Below.refl _ _ | (refine below_drewN ?_ _) | (refine Below.drew ?_))⟩
    case round =>
      obtain ⟨rfl, hB⟩ := hrel
      go_wp2
      go_ret
      exact ⟨rfl, hB⟩
  · have hn : n ≤ 9223372036854775807 := by unfold maxLen at *; omega
    have e0 : ((n : Int) != (n : Int)) = false := by simp
    go_enter Try.func14, Try.ntmps14
    go_wp2
    go_loopw [5] (fun i wx => ∃ k : Nat, k ≤ n ∧ i = .int .i64 k ∧ Below w.heap.size w wx) (fun i _ => n - (intOf i).toNat)
    case atStart => exact ⟨0, Nat.zero_le _, rfl, by repeat (first | exact Below.refl _ _ | (refine below_drewN ?_ _) | (refine Below.drew ?_))⟩
    case round =>
      obtain ⟨k, hk, rfl, hB⟩ := hrel
      by_cases hlt : k < n
      · have c1 := (hB.cell (World.block_lt_of_cell? w _ (a3 k hlt).1)).trans (a3 k hlt).1
        have c2 := (hB.cell (World.block_lt_of_cell? w _ (b3 k hlt).1)).trans (b3 k hlt).1
        have hx := hfg k hlt
        rw [hx] at c1
        clear a3 b3 hx hfg
        generalize g k = x at *
        have e1 : (x != x) = false := by simp
        go_wp2_with fail
        go_quiet (fail)
        go_wp2
        go_roundw
        case rel => exact ⟨k + 1, by omega, by go_num, below_drewN hB _⟩
        case measure => simp [intOf]; omega
      · have : k = n := by omega
        subst this
        go_wp2
        go_ret
        exact ⟨rfl, hB⟩

/-- What a call of Spread hands back. -/
def SpreadGives (w : World) (T : Int) (n : Nat) (g : Nat → Int) (e : Ending) (w1 : World) : Prop :=
  ∃ u, e = .returned (.tuple #[u, .int .i64 (shE (spT T) n g)]) ∧ ListOut w w1 u (shN (spT T) n g) (spI T n g) ∧ Below w.heap.size w w1

set_option maxHeartbeats 800000 in
theorem refSpread_pos (T : Int) (v : Value) (n : Nat) (g : Nat → Int) (w : World) (h : ListAt w .i64 v n g) (hT : 0 ≤ T) :
    Calls Try.prog 17 #[.int .i64 T, v] w (SpreadGives w T n g) := by
  have e1 : spT T = T := if_neg (by omega)
  have e2 : spI T n g = shI T n g := by funext i; exact if_neg (by omega)
  unfold SpreadGives
  rw [e1, e2]
  have HS := Lib.hid (refShare_any T v n g w h)
  clear e1 e2 h
  go_enter Try.func17, Try.ntmps17
  go_wp2_with fail
  refine HS.out.mono ?_
  rintro e w1 ⟨u, rfl, h1, h2⟩
  go_wp2_with fail
  go_ret2
  exact ⟨u, rfl, h1, h2⟩

theorem sh_big (n : Nat) (g : Nat → Int) : shE 1000000000001 n g ≠ 0 := by
  unfold shE
  split
  · omega
  · rw [if_pos (by omega)]
    omega

set_option maxHeartbeats 800000 in
theorem refSpread_low (T : Int) (v : Value) (n : Nat) (g : Nat → Int) (w : World) (h : ListAt w .i64 v n g) (hT : T < -1000000000000) :
    Calls Try.prog 17 #[.int .i64 T, v] w (SpreadGives w T n g) := by
  have e1 : spT T = 1000000000001 := (if_pos (by omega)).trans (if_pos hT)
  unfold SpreadGives
  rw [e1]
  have hn : shN 1000000000001 n g = 0 := if_neg (sh_big n g)
  have HS := Lib.hid (refShare_any 1000000000001 v n g w h)
  have HN := Lib.hid hn
  clear e1 h hn
  go_enter Try.func17, Try.ntmps17
  go_wp2_with fail
  refine HS.out.mono ?_
  rintro e w1 ⟨u, rfl, h1, h2⟩
  go_wp2_with fail
  go_ret2
  refine ⟨u, rfl, ?_, h2⟩
  rw [HN.out] at h1 ⊢
  exact h1.congr (fun i hi => absurd hi (by omega))

set_option maxHeartbeats 1600000 in
theorem refSpread_neg (t : Nat) (v : Value) (n : Nat) (g : Nat → Int) (w : World) (h : ListAt w .i64 v n g) (h1 : 1 ≤ t) (h2 : t ≤ 1000000000000) :
    Calls Try.prog 17 #[.int .i64 (-(t : Int)), v] w (SpreadGives w (-(t : Int)) n g) := by
  have e1 : spT (-(t : Int)) = (t : Int) := by
    unfold spT
    rw [if_pos (by omega), if_neg (by omega)]
    omega
  have e2 : ∀ i, spI (-(t : Int)) n g i = -shI (t : Int) n g i := fun i => by
    unfold spI
    rw [if_pos (by omega), show -(-(t : Int)) = (t : Int) by omega]
  have e3 : ∀ i, i < shN (t : Int) n g → 0 ≤ shI (t : Int) n g i ∧ shI (t : Int) n g i ≤ 1000000000000 := fun i hi => by
    have hz : shE (t : Int) n g = 0 := by
      cases Classical.em (shE (t : Int) n g = 0) with
      | inl h => exact h
      | inr h => rw [show shN (t : Int) n g = 0 from if_neg h] at hi; omega
    have hnn : shN (t : Int) n g = n := if_pos hz
    rw [hnn] at hi
    have := sh_le (T := (t : Int)) (g := g) (by omega) (show 1 ≤ n by omega) i hi
    omega
  unfold SpreadGives
  rw [e1]
  have hm : shN (t : Int) n g ≤ 1000 := by
    unfold shN
    split
    · rename_i hz
      exact (sh_ok hz).1
    · omega
  have HS := Lib.hid (refShare_any (t : Int) v n g w h)
  unfold ShareGives at HS
  have E2 := Lib.hid e2
  generalize shN (t : Int) n g = m at *
  generalize shE (t : Int) n g = E at *
  generalize shI (t : Int) n g = f at *
  clear e1 h e2
  go_enter Try.func17, Try.ntmps17
  go_wp2_with fail
  refine HS.out.mono ?_
  rintro e w1 ⟨u, rfl, hO, hB⟩
  clear HS
  rcases hO with ⟨rfl, rfl⟩ | ⟨B, cap, rfl, c1, c2, c3, c4, c5⟩
  · go_wp2_with fail
    go_loop [8] (fun i => i = .int .i64 0) (fun _ => 0)
    case atStart => rfl
    case round =>
      subst hrel
      go_wp2_with fail
      go_ret2
      exact ⟨_, rfl, .inl ⟨rfl, rfl⟩, hB⟩
  · go_wp2_with fail
    go_loopw [8] (fun i wx => ∃ k : Nat, k ≤ m ∧ i = .int .i64 k ∧ Hid (Ints wx B m (fun j => if j < k then -f j else f j)) ∧ Below w.heap.size w wx) (fun i _ => m - (intOf i).toNat)
    case atStart => exact ⟨0, Nat.zero_le _, rfl, Lib.hid (c4.congr (fun j _ => by rw [if_neg (by omega)])), hB⟩
    case round =>
      obtain ⟨k, hk, rfl, hI, hB2⟩ := hrel
      by_cases hlt : k < m
      · obtain ⟨d1, d2⟩ := hI.out.1 k hlt
        simp only [Nat.lt_irrefl, if_false] at d1
        have hx := e3 k hlt
        have hnx := Lib.hid (hI.out.set k (-f k) (fun j => if j < k + 1 then -f j else f j) (fun j _ => by
          by_cases e : j = k
          · subst e; simp
          · by_cases h2 : j < k
            · rw [if_pos (by omega), if_neg e, if_pos h2]
            · rw [if_neg (by omega), if_neg e, if_neg h2]))
        clear e3
        generalize f k = x at *
        go_wp2_with fail
        go_roundw
        case rel => exact ⟨k + 1, by omega, by go_num, hnx, hB2.setCell c3 _⟩
        case measure => simp [intOf]; omega
      · have : k = m := by omega
        subst this
        go_wp2_with fail
        go_ret2
        refine ⟨_, rfl, .inr ⟨B, cap, rfl, c1, c2, c3, hI.out.congr (fun j hj => by rw [if_pos hj, E2.out]), fun j hj => ?_⟩, hB2⟩
        have := e3 j hj
        rw [E2.out]
        exact small_wf (by omega)

theorem refSpread_any (T : Int) (v : Value) (n : Nat) (g : Nat → Int) (w : World) (h : ListAt w .i64 v n g) :
    Calls Try.prog 17 #[.int .i64 T, v] w (SpreadGives w T n g) := by
  by_cases h1 : 0 ≤ T
  · exact refSpread_pos T v n g w h h1
  · by_cases h2 : T < -1000000000000
    · exact refSpread_low T v n g w h h2
    · have := refSpread_neg T.natAbs v n g w h (by omega) (by omega)
      rw [show -(T.natAbs : Int) = T by omega] at this
      exact this
end Go.Proofs.Ytnjegnmkabnkkaa
