/- The law MoneySumSplit, walked: it returns true at every input. Condition: the library's variables hold what they were given. -/
import Derived.Test.YtbaghdiimkenkaaDoorMoneyInts
import Derived.Test.YtbaghdiimkenkaaDoorMoneyAwake
namespace Go.Proofs.YtbaghdiimkenkaaDoor
open Go.RowKit

theorem Ints.at_ {w : World} {b n : Nat} {f : Nat → Int} (h : Ints w b n f) (k j : Nat) (hj : k + j < n) : w.cell? ((⟨b, k, none⟩ : Addr).add j) = some (.int .i64 (f (k + j))) := by
  have e : (⟨b, k, none⟩ : Addr).add j = ⟨b, k + j, none⟩ := by
    unfold Addr.add
    by_cases hz : j = 0 <;> simp [hz]
  rw [e]
  exact (h.1 (k + j) hj).1
/-- The sum of a part of a list of small amounts, as Sum returns it. -/
theorem sum_part {g : Nat → Int} (m k n cap : Nat) (hm : m ≤ 500) (hk : k + n ≤ m) (hg : ∀ j, -1000000 < g j ∧ g j < 1000000) (w : World) (B : Nat) (hI : Ints w B m g) :
    Calls Tryd.prog 10 #[.slice (some ⟨B, k, none⟩) n cap] w fun e w' => e = .returned (.tuple #[.int .i64 (sumT (fun j => g (k + j)) n), .int .i64 0]) ∧ Below w.heap.size w w' := by
  have h := moneySum_any ⟨B, k, none⟩ n cap (fun j => g (k + j)) (by omega) w (fun j hj => hI.at_ k j (by omega))
  obtain ⟨h1, h2, _⟩ := su_small (fun j => g (k + j)) n (by omega) (fun j _ => hg (k + j))
  rw [h1, h2] at h
  exact h

set_option maxHeartbeats 1000000 in
theorem moneySumSplit_cut (v u : Value) (n m : Nat) (f : Nat → Int) (at_ : Int) (w : World) (hL : Libs w) (h : CutAt w v n f u m) (k : Nat) (hk : k ≤ m) (hkk : max 0 (min at_ (m : Int)) = (k : Int)) :
    Calls Tryd.prog 3 #[v, .int .i64 at_] w fun e w' => e = .returned (.bool true) ∧ Below w.heap.size w w' := by
  obtain ⟨hm, hl, hst⟩ := h
  have HA := Lib.hid (amounts_of hm hl)
  have H1 := Lib.hid (sum_part (g := fun j => smallOf (f j)) m 0 k m hm (by omega) (fun j => smallOf_bounds _))
  obtain ⟨b2, hb2⟩ : ∃ b2, (k < m ∧ b2 = k) ∨ (k = m ∧ b2 = 0) := by
    by_cases hkm : k < m
    · exact ⟨k, Or.inl ⟨hkm, rfl⟩⟩
    · exact ⟨0, Or.inr ⟨by omega, rfl⟩⟩
  have H2 := Lib.hid (show ∀ (w : World) (B : Nat), Ints w B m (fun j => smallOf (f j)) → Calls Tryd.prog 10 #[.slice (some ⟨B, b2, none⟩) (m - k : Nat) (m - k : Nat)] w fun e w' => e = .returned (.tuple #[.int .i64 (sumT (fun j => smallOf (f (k + j))) (m - k)), .int .i64 0]) ∧ Below w.heap.size w w' by
    rcases hb2 with ⟨_, rfl⟩ | ⟨rfl, rfl⟩
    · exact sum_part (g := fun j => smallOf (f j)) m b2 (m - b2) (m - b2) hm (by omega) (fun j => smallOf_bounds _)
    · rw [Nat.sub_self]
      exact sum_part (g := fun j => smallOf (f j)) k 0 0 0 hm (by omega) (fun j => smallOf_bounds _))
  have H3 := Lib.hid (sum_part (g := fun j => smallOf (f j)) m 0 m m hm (by omega) (fun j => smallOf_bounds _))
  have hadd := sumT_add (fun j => smallOf (f (0 + j))) k (m - k)
  rw [show k + (m - k) = m by omega] at hadd
  have hx := (su_small (fun j => smallOf (f (0 + j))) k (by omega) (fun j _ => smallOf_bounds _)).2.2
  have hy := (su_small (fun j => smallOf (f (k + j))) (m - k) (by omega) (fun j _ => smallOf_bounds _)).2.2
  rw [show (fun j => smallOf (f (0 + (k + j)))) = fun j => smallOf (f (k + j)) by funext j; rw [Nat.zero_add]] at hadd
  generalize sumT (fun j => smallOf (f (0 + j))) k = x at *
  generalize sumT (fun j => smallOf (f (0 + j))) m = z at *
  generalize sumT (fun j => smallOf (f (k + j))) (m - k) = y at *
  generalize (fun j => smallOf (f j)) = g at *
  have c3 : (x + y == z) = true := by rw [beq_iff_eq]; omega
  subst hadd
  rcases hst with ⟨rfl, rfl⟩ | ⟨a, cap, rfl, h1, rfl⟩ | ⟨a, cap, rfl, h1, h2, rfl⟩ <;> rcases hb2 with ⟨h4, rfl⟩ | ⟨rfl, rfl⟩
  all_goals
    first | (rw [Nat.sub_self] at H2) | skip
    go_enter Tryd.func3, Tryd.ntmps3
    go_wp2_with fail
    refine HA.out.mono ?_
    rintro e w0 ⟨B, rfl, hI, hb0⟩
    have hz0 := hb0.size
    have HI := Lib.hid hI
    have HB0 := Lib.hid hb0
    clear hI hb0
    go_wp2_with fail
    refine (H1.out _ _ HI.out).mono ?_
    rintro e w1 ⟨rfl, hb1⟩
    have hz1 := hb1.size
    have HI1 := Lib.hid (HI.out.keep hb1)
    have HB1 := Lib.hid (HB0.out.trans (hb1.mono hz0))
    clear hb1
    go_wp2_with fail
    refine (H2.out _ _ HI1.out).mono ?_
    rintro e w2 ⟨rfl, hb2⟩
    have HI2 := Lib.hid (HI1.out.keep hb2)
    have HB2 := Lib.hid (HB1.out.trans (hb2.mono HB1.out.size))
    clear hb2
    go_wp2_with fail
    refine (H3.out _ _ HI2.out).mono ?_
    rintro e w3 ⟨rfl, hb3⟩
    have hB3 := HB2.out.trans (hb3.mono HB2.out.size)
    clear hb3
    go_wp2_with fail
    refine (awake2_any _ (hL.keep hB3)).mono ?_
    rintro e w4 ⟨rfl, hb4⟩
    have hx := hB3.trans (hb4.mono hB3.size)
    go_wp2_with fail
    go_ret
    exact ⟨rfl, hx⟩
theorem moneySumSplit_walk (v : Value) (n : Nat) (f : Nat → Int) (w : World) (hL : Libs w) (h : ListAt w .i64 v n f) (at_ : Int) :
    Calls Tryd.prog 3 #[v, .int .i64 at_] w fun e w' => e = .returned (.bool true) ∧ Below w.heap.size w w' := by
  obtain ⟨u, m, hc⟩ := cut_of h
  exact moneySumSplit_cut v u n m f at_ w hL hc (max 0 (min at_ (m : Int))).toNat (by omega) (by omega)
end Go.Proofs.YtbaghdiimkenkaaDoor
