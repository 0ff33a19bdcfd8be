/- What Share of the reference of layer 3 returns. Condition: the list's cells are known. -/
import Derived.Test.YtnjegnmkabnkkaaShareInt
import Derived.Test.YtnjegnmkabnkkaaInts
import Derived.Test.YtnjegnmkabnkkaaRefDiv
import Derived.Deep.QuietTactic
import Derived.BigQuiet
import Derived.Deep.DeepCutAuto
import Derived.Deep.CutBlock
namespace Go.Proofs.Ytnjegnmkabnkkaa
open Go.RowKit

set_option maxHeartbeats 800000 in
theorem refShare_long (T : Int) (v : Value) (n : Nat) (g : Nat → Int) (w : World) (h : ListAt w .i64 v n g) (hn : 1000 < n) :
    Calls Try.prog 13 #[.int .i64 T, v] w fun e w' => e = .returned (.tuple #[.slice none 0 0, .int .i64 8]) ∧ w = w' := by
  rcases h with ⟨rfl, rfl⟩ | ⟨a, cap, rfl, h1, h2, h3⟩
  · omega
  · go_enter Try.func13, Try.ntmps13
    go_wp2_with fail
    go_ret2
    exact ⟨rfl, rfl⟩

/-- Is something out of range, as far as the first k weights tell? -/
def badB (T : Int) (g : Nat → Int) (k : Nat) : Bool := (decide (T < 0) || decide (1000000000000 < T)) || !amts0 g k
theorem badB_iff (T : Int) (g : Nat → Int) (k : Nat) : badB T g k = true ↔ T < 0 ∨ 1000000000000 < T ∨ amts0 g k = false := by
  unfold badB
  cases amts0 g k <;> simp <;> omega
theorem badB_next (T : Int) (g : Nat → Int) (k : Nat) : badB T g (k + 1) = (badB T g k || decide (g k < 0) || decide (1000000000000 < g k)) := by
  unfold badB
  show (_ || !(amts0 g k && (decide (0 ≤ g k) && decide (g k ≤ 1000000000000)))) = _
  rw [Bool.eq_iff_iff]
  cases amts0 g k <;> simp <;> omega


set_option maxHeartbeats 800000 in
theorem refShare_bad (T : Int) (a : Addr) (n cap : Nat) (g : Nat → Int) (w : World) (hn : n ≤ 1000) (hc : ∀ i, i < n → w.cell? (a.add i) = some (.int .i64 (g i))) (hb : badB T g n = true) :
    Calls Try.prog 13 #[.int .i64 T, .slice (some a) n cap] w fun e w' => e = .returned (.tuple #[.slice none 0 0, .int .i64 2]) ∧ w = w' := by
  have h0 : badB T g 0 = (decide (T < 0) || decide (1000000000000 < T)) := by
    unfold badB
    show (_ || !true) = _
    simp
  have HB := Lib.hid hb
  have dn : decide ((1000 : Int) < (n : Int)) = false := decide_eq_false (by omega)
  clear hb
  by_cases c0 : T < 0
  · have d0 : decide (T < 0) = true := decide_eq_true c0
    have H0 := Lib.hid (show badB T g 0 = true by rw [h0, d0]; rfl)
    clear h0
    go_enter Try.func13, Try.ntmps13
    go_wp2_with fail
    go_loop [6, 8] (fun b i => ∃ k : Nat, k ≤ n ∧ i = .int .i64 k ∧ b = .bool (badB T g k)) (fun _ i => n - (intOf i).toNat)
    case atStart => exact ⟨0, Nat.zero_le _, rfl, by rw [H0.out]⟩
    case round =>
      obtain ⟨k, hk, rfl, rfl⟩ := hrel
      by_cases hlt : k < n
      · have hcell := hc k hlt
        have hx := Lib.hid (badB_next T g k)
        clear hc
        generalize badB T g k = b at *
        generalize g k = x at *
        cases b with
        | true =>
          have hx2 := Lib.hid (show badB T g (k + 1) = true by rw [hx.out]; rfl)
          clear hx
          go_wp2
          go_round
          case rel => exact ⟨k + 1, by omega, by go_num, by rw [hx2.out]⟩
          case measure => simp [intOf]; omega
        | false =>
          by_cases c1 : x < 0
          · have d1 : decide (x < 0) = true := decide_eq_true c1
            have hx2 := Lib.hid (show badB T g (k + 1) = true by rw [hx.out, d1]; rfl)
            clear hx c1
            go_wp2
            go_round
            case rel => exact ⟨k + 1, by omega, by go_num, by rw [hx2.out]⟩
            case measure => simp [intOf]; omega
          · have d1 : decide (x < 0) = false := decide_eq_false c1
            by_cases c2 : 1000000000000 < x
            · have d2 : decide (1000000000000 < x) = true := decide_eq_true c2
              have hx2 := Lib.hid (show badB T g (k + 1) = true by rw [hx.out, d1, d2]; rfl)
              clear hx c1 c2
              go_wp2
              go_round
              case rel => exact ⟨k + 1, by omega, by go_num, by rw [hx2.out]⟩
              case measure => simp [intOf]; omega
            · have d2 : decide (1000000000000 < x) = false := decide_eq_false c2
              have hx2 := Lib.hid (show badB T g (k + 1) = false by rw [hx.out, d1, d2]; rfl)
              clear hx c1 c2
              go_wp2
              go_round
              case rel => exact ⟨k + 1, by omega, by go_num, by rw [hx2.out]⟩
              case measure => simp [intOf]; omega
      · have : k = n := by omega
        subst this
        rw [HB.out]
        go_wp2
        go_ret2
        exact ⟨rfl, rfl⟩
  · have d0 : decide (T < 0) = false := decide_eq_false c0
    by_cases c9 : 1000000000000 < T
    · have d9 : decide (1000000000000 < T) = true := decide_eq_true c9
      have H0 := Lib.hid (show badB T g 0 = true by rw [h0, d0, d9]; rfl)
      clear h0
      go_enter Try.func13, Try.ntmps13
      go_wp2_with fail
      go_loop [6, 8] (fun b i => ∃ k : Nat, k ≤ n ∧ i = .int .i64 k ∧ b = .bool (badB T g k)) (fun _ i => n - (intOf i).toNat)
      case atStart => exact ⟨0, Nat.zero_le _, rfl, by rw [H0.out]⟩
      case round =>
        obtain ⟨k, hk, rfl, rfl⟩ := hrel
        by_cases hlt : k < n
        · have hcell := hc k hlt
          have hx := Lib.hid (badB_next T g k)
          clear hc
          generalize badB T g k = b at *
          generalize g k = x at *
          cases b with
          | true =>
            have hx2 := Lib.hid (show badB T g (k + 1) = true by rw [hx.out]; rfl)
            clear hx
            go_wp2
            go_round
            case rel => exact ⟨k + 1, by omega, by go_num, by rw [hx2.out]⟩
            case measure => simp [intOf]; omega
          | false =>
            by_cases c1 : x < 0
            · have d1 : decide (x < 0) = true := decide_eq_true c1
              have hx2 := Lib.hid (show badB T g (k + 1) = true by rw [hx.out, d1]; rfl)
              clear hx c1
              go_wp2
              go_round
              case rel => exact ⟨k + 1, by omega, by go_num, by rw [hx2.out]⟩
              case measure => simp [intOf]; omega
            · have d1 : decide (x < 0) = false := decide_eq_false c1
              by_cases c2 : 1000000000000 < x
              · have d2 : decide (1000000000000 < x) = true := decide_eq_true c2
                have hx2 := Lib.hid (show badB T g (k + 1) = true by rw [hx.out, d1, d2]; rfl)
                clear hx c1 c2
                go_wp2
                go_round
                case rel => exact ⟨k + 1, by omega, by go_num, by rw [hx2.out]⟩
                case measure => simp [intOf]; omega
              · have d2 : decide (1000000000000 < x) = false := decide_eq_false c2
                have hx2 := Lib.hid (show badB T g (k + 1) = false by rw [hx.out, d1, d2]; rfl)
                clear hx c1 c2
                go_wp2
                go_round
                case rel => exact ⟨k + 1, by omega, by go_num, by rw [hx2.out]⟩
                case measure => simp [intOf]; omega
        · have : k = n := by omega
          subst this
          rw [HB.out]
          go_wp2
          go_ret2
          exact ⟨rfl, rfl⟩
    · have d9 : decide (1000000000000 < T) = false := decide_eq_false c9
      have H0 := Lib.hid (show badB T g 0 = false by rw [h0, d0, d9]; rfl)
      clear h0
      go_enter Try.func13, Try.ntmps13
      go_wp2_with fail
      go_loop [6, 8] (fun b i => ∃ k : Nat, k ≤ n ∧ i = .int .i64 k ∧ b = .bool (badB T g k)) (fun _ i => n - (intOf i).toNat)
      case atStart => exact ⟨0, Nat.zero_le _, rfl, by rw [H0.out]⟩
      case round =>
        obtain ⟨k, hk, rfl, rfl⟩ := hrel
        by_cases hlt : k < n
        · have hcell := hc k hlt
          have hx := Lib.hid (badB_next T g k)
          clear hc
          generalize badB T g k = b at *
          generalize g k = x at *
          cases b with
          | true =>
            have hx2 := Lib.hid (show badB T g (k + 1) = true by rw [hx.out]; rfl)
            clear hx
            go_wp2
            go_round
            case rel => exact ⟨k + 1, by omega, by go_num, by rw [hx2.out]⟩
            case measure => simp [intOf]; omega
          | false =>
            by_cases c1 : x < 0
            · have d1 : decide (x < 0) = true := decide_eq_true c1
              have hx2 := Lib.hid (show badB T g (k + 1) = true by rw [hx.out, d1]; rfl)
              clear hx c1
              go_wp2
              go_round
              case rel => exact ⟨k + 1, by omega, by go_num, by rw [hx2.out]⟩
              case measure => simp [intOf]; omega
            · have d1 : decide (x < 0) = false := decide_eq_false c1
              by_cases c2 : 1000000000000 < x
              · have d2 : decide (1000000000000 < x) = true := decide_eq_true c2
                have hx2 := Lib.hid (show badB T g (k + 1) = true by rw [hx.out, d1, d2]; rfl)
                clear hx c1 c2
                go_wp2
                go_round
                case rel => exact ⟨k + 1, by omega, by go_num, by rw [hx2.out]⟩
                case measure => simp [intOf]; omega
              · have d2 : decide (1000000000000 < x) = false := decide_eq_false c2
                have hx2 := Lib.hid (show badB T g (k + 1) = false by rw [hx.out, d1, d2]; rfl)
                clear hx c1 c2
                go_wp2
                go_round
                case rel => exact ⟨k + 1, by omega, by go_num, by rw [hx2.out]⟩
                case measure => simp [intOf]; omega
        · have : k = n := by omega
          subst this
          rw [HB.out]
          go_wp2
          go_ret2
          exact ⟨rfl, rfl⟩
set_option maxHeartbeats 800000 in
theorem refShare_bad0 (T : Int) (g : Nat → Int) (w : World) (hb : badB T g 0 = true) :
    Calls Try.prog 13 #[.int .i64 T, .slice none 0 0] w fun e w' => e = .returned (.tuple #[.slice none 0 0, .int .i64 2]) ∧ w = w' := by
  have h0 : T < 0 ∨ 1000000000000 < T := by
    have h := (badB_iff T g 0).1 hb
    have e : amts0 g 0 = true := rfl
    rw [e] at h
    simp at h
    omega
  clear hb
  by_cases c0 : T < 0
  · have d0 : decide (T < 0) = true := decide_eq_true c0
    go_enter Try.func13, Try.ntmps13
    go_wp2_with fail
    go_loop [6, 8] (fun b i => i = .int .i64 0 ∧ b = .bool true) (fun _ _ => 0)
    case atStart => exact ⟨rfl, rfl⟩
    case round =>
      obtain ⟨rfl, rfl⟩ := hrel
      go_wp2
      go_ret2
      exact ⟨rfl, rfl⟩
  · have d0 : decide (T < 0) = false := decide_eq_false c0
    have d9 : decide (1000000000000 < T) = true := decide_eq_true (by omega)
    go_enter Try.func13, Try.ntmps13
    go_wp2_with fail
    go_loop [6, 8] (fun b i => i = .int .i64 0 ∧ b = .bool true) (fun _ _ => 0)
    case atStart => exact ⟨rfl, rfl⟩
    case round =>
      obtain ⟨rfl, rfl⟩ := hrel
      go_wp2
      go_ret2
      exact ⟨rfl, rfl⟩

/-- Two lists of the call's own, apart from each other. -/
structure TwoLists (w wx : World) (BO BR n : Nat) (f r : Nat → Int) : Prop where
  out : Ints wx BO n f
  rest : Ints wx BR n r
  ne : BO ≠ BR
  newO : w.heap.size ≤ BO
  newR : w.heap.size ≤ BR
  below : Below w.heap.size w wx

theorem two_made (w : World) (n : Nat) (hn : n ≤ 1000) : TwoLists w ((w.alloc (.cells (madeCells #[.int .i64 0] n) 3)).alloc (.cells (madeCells #[.int .i64 0] n) 3)).drew w.heap.size (w.heap.size + 1) n (fun _ => 0) (fun _ => 0) ∧
    TwoLists w ((w.alloc (.cells (madeCells #[.int .i64 0] n) 3)).alloc (.cells (madeCells #[.int .i64 0] n) 3)).drew (w.heap.size + 1) w.heap.size n (fun _ => 0) (fun _ => 0) := by
  have h1 := (ints_made n (by omega) w).2
  have h2 := (ints_made n (by omega) (w.alloc (.cells (madeCells #[.int .i64 0] n) 3))).2
  rw [show (w.alloc (.cells (madeCells #[.int .i64 0] n) 3)).heap.size = w.heap.size + 1 by simp] at h2
  have h3 := h1.alloc (.cells (madeCells #[.int .i64 0] n) 3)
  have hb : Below w.heap.size w ((w.alloc (.cells (madeCells #[.int .i64 0] n) 3)).alloc (.cells (madeCells #[.int .i64 0] n) 3)).drew := (((Below.refl _ _).alloc (Nat.le_refl _) _).alloc (by simp) _).drew
  exact ⟨⟨h3, h2, by omega, by omega, by omega, hb⟩, ⟨h2, h3, by omega, by omega, by omega, hb⟩⟩

theorem sum_prefix (f : Nat → Nat) (k : Nat) : ∀ n, k ≤ n → sumN f k ≤ sumN f n
  | 0, h => by
    obtain rfl : k = 0 := by omega
    exact Nat.le_refl _
  | n + 1, h => by
    show sumN f k ≤ sumN f n + f n
    by_cases e : k = n + 1
    · subst e; exact Nat.le_refl _
    · have := sum_prefix f k n (by omega); omega
theorem TwoLists.keep {w wx wy : World} {BO BR n : Nat} {f r : Nat → Int} (h : TwoLists w wx BO BR n f r) (hb : Below wx.heap.size wx wy) : TwoLists w wy BO BR n f r :=
  ⟨h.out.keep hb, h.rest.keep hb, h.ne, h.newO, h.newR, h.below.trans (hb.mono h.below.size)⟩
/-- What the loop over the weights meets: the weight and the sum as they count, the quotient and the remainder. -/
theorem weight_facts {t n : Nat} {g : Nat → Int} (hn : n ≤ 1000) (hn1 : 1 ≤ n) (hg : amts0 g n = true) (k : Nat) (hk : k < n) :
    ∃ e W q r : Nat, effW (wN g) n k = e ∧ allW (wN g) n = W ∧ shQ t (wN g) n k = q ∧ shR t (wN g) n k = r ∧ e ≤ 1000000000000 ∧ 1 ≤ W ∧ W ≤ 1000000000000000 ∧ q ≤ t ∧ r < W ∧ t * e / W = q ∧ t * e % W = r ∧
      (sumI g n = 0 → e = 1 ∧ W = n) ∧ (sumI g n ≠ 0 → g k = (e : Int) ∧ sumI g n = (W : Int)) := by
  obtain ⟨h1, h2⟩ := sumN_at hg (Nat.le_refl n)
  have hx := amts0_at hg k hk
  have hp := allW_pos (wN g) n hn1
  have hr : shR t (wN g) n k < allW (wN g) n := Nat.mod_lt _ hp
  have hle : effW (wN g) n k ≤ allW (wN g) n := by
    rw [← allW_sum]
    exact sum_at_le _ n k hk
  have hq : shQ t (wN g) n k ≤ t := by
    unfold shQ
    refine Nat.div_le_of_le_mul ?_
    rw [Nat.mul_comm]
    exact Nat.mul_le_mul_right _ hle
  have hw : wN g k = (g k).toNat := rfl
  have he : effW (wN g) n k ≤ 1000000000000 := by
    unfold effW
    split <;> omega
  have hW : allW (wN g) n ≤ 1000000000000000 := by
    unfold allW
    split <;> omega
  refine ⟨_, _, _, _, rfl, rfl, rfl, rfl, he, hp, hW, hq, hr, rfl, rfl, fun h => ?_, fun h => ?_⟩
  · have h0 : sumN (wN g) n = 0 := by omega
    exact ⟨if_pos h0, if_pos h0⟩
  · have h0 : sumN (wN g) n ≠ 0 := by omega
    have e1 : effW (wN g) n k = wN g k := if_neg h0
    have e2 : allW (wN g) n = sumN (wN g) n := if_neg h0
    rw [e1, e2]
    omega
/-- What the lists hold after k weights. -/
def upTo (f : Nat → Nat) (k i : Nat) : Int := if i < k then (f i : Int) else 0
theorem TwoLists.step {w wx : World} {BO BR n : Nat} {q r : Nat → Nat} {k : Nat} (h : TwoLists w wx BO BR n (upTo q k) (upTo r k)) :
    TwoLists w ((wx.setCell ⟨BO, k, none⟩ (.int .i64 (q k))).setCell ⟨BR, k, none⟩ (.int .i64 (r k))) BO BR n (upTo q (k + 1)) (upTo r (k + 1)) := by
  have e : ∀ (f : Nat → Nat) (j : Nat), upTo f (k + 1) j = if j = k then (f k : Int) else upTo f k j := by
    intro f j
    unfold upTo
    by_cases h1 : j = k
    · subst h1; simp
    · by_cases h2 : j < k
      · rw [if_pos (by omega), if_neg h1, if_pos h2]
      · rw [if_neg (by omega), if_neg h1, if_neg h2]
  refine ⟨(h.out.set k (q k) _ (fun j _ => e q j)).other (fun x => h.ne x.symm), (h.rest.other h.ne).set k (r k) _ (fun j _ => e r j), h.ne, h.newO, h.newR, (h.below.setCell h.newO _).setCell h.newR _⟩

/-- The shares while the units that are left are given out: t tells who has got one. -/
def withUnit (q : Nat → Nat) (t : Nat → Bool) (i : Nat) : Int := (q i : Int) + (if t i then 1 else 0)
theorem TwoLists.give {w wx : World} {BO BR n b : Nat} {q r : Nat → Nat} {t : Nat → Bool} (h : TwoLists w wx BO BR n (withUnit q t) (leftOf r t)) (hb : t b = false) :
    TwoLists w ((wx.setCell ⟨BO, b, none⟩ (.int .i64 ((q b : Int) + 1))).setCell ⟨BR, b, none⟩ (.int .i64 (-1))) BO BR n (withUnit q (fun i => t i || i == b)) (leftOf r (fun i => t i || i == b)) := by
  refine ⟨(h.out.set b ((q b : Int) + 1) _ (fun j _ => ?_)).other (fun x => h.ne x.symm), (h.rest.other h.ne).set b (-1) _ (fun j _ => ?_), h.ne, h.newO, h.newR, (h.below.setCell h.newO _).setCell h.newR _⟩
  · unfold withUnit
    by_cases e : j = b
    · subst e; simp
    · have : (j == b) = false := by rw [beq_eq_false_iff_ne]; exact e
      simp [e]
  · unfold leftOf
    by_cases e : j = b
    · subst e; simp
    · have : (j == b) = false := by rw [beq_eq_false_iff_ne]; exact e
      simp [e]

set_option maxRecDepth 100000 in
set_option maxHeartbeats 1600000 in
theorem refShare_ok (t : Nat) (a : Addr) (n cap : Nat) (g : Nat → Int) (w : World) (hn : n ≤ 1000) (hn1 : 1 ≤ n) (hT : t ≤ 1000000000000) (hg : amts0 g n = true) (hc : ∀ i, i < n → w.cell? (a.add i) = some (.int .i64 (g i))) :
    Calls Try.prog 13 #[.int .i64 (t : Int), .slice (some a) n cap] w fun e w' => ∃ B : Nat, e = .returned (.tuple #[.slice (some ⟨B, 0, none⟩) n n, .int .i64 0]) ∧ Ints w' B n (fun i => (shV t (wN g) n i : Int)) ∧ w.heap.size ≤ B ∧ Below w.heap.size w w' := by
  have d0 : decide ((t : Int) < 0) = false := decide_eq_false (by omega)
  have d1 : decide (1000000000000 < (t : Int)) = false := decide_eq_false (by omega)
  have d2 : decide ((1000 : Int) < (n : Int)) = false := decide_eq_false (by omega)
  have d3 : ((n : Int) == 0) = false := by rw [beq_eq_false_iff_ne]; omega
  have hat := amts0_at hg
  go_enter Try.func13, Try.ntmps13
  go_wp2_with fail
  go_loop [6, 8] (fun b i => ∃ k : Nat, k ≤ n ∧ i = .int .i64 k ∧ b = .bool false) (fun _ i => n - (intOf i).toNat)
  case atStart => exact ⟨0, Nat.zero_le _, rfl, rfl⟩
  case round =>
    obtain ⟨k, hk, rfl, rfl⟩ := hrel
    by_cases hlt : k < n
    · have hcell := hc k hlt
      have hx := hat k hlt
      clear hc
      generalize g k = x at *
      have c1 : decide (x < 0) = false := decide_eq_false (by omega)
      have c2 : decide (1000000000000 < x) = false := decide_eq_false (by omega)
      go_wp2
      go_round
      case rel => exact ⟨k + 1, by omega, by go_num, rfl⟩
      case measure => simp [intOf]; omega
    · have : k = n := by omega
      subst this
      have he : decide ((k : Int) < (k : Int)) = false := decide_eq_false (by omega)
      go_wp2_with fail
      go_loop [7, 9] (fun s i => ∃ j : Nat, j ≤ k ∧ i = .int .i64 j ∧ ∃ S : Int, s = .int .i64 S ∧ Hid (S = sumI g j)) (fun _ i => k - (intOf i).toNat)
      case atStart => exact ⟨0, Nat.zero_le _, rfl, 0, rfl, Lib.hid rfl⟩
      case round =>
        obtain ⟨j, hj, rfl, S, rfl, hS⟩ := hrel
        have hsum := sumN_at hg (Nat.le_trans hj (Nat.le_refl _))
        have hS0 : 0 ≤ S ∧ S ≤ 1000000000000000 := by rw [hS.out]; omega
        clear hsum
        by_cases hlt : j < k
        · have hcell := hc j hlt
          have hx := hat j hlt
          have hS2 := Lib.hid (show S + g j = sumI g (j + 1) by rw [hS.out]; rfl)
          clear hc hS
          generalize g j = x at *
          go_wp2
          go_round
          case rel => exact ⟨j + 1, by omega, by go_num, _, rfl, hS2⟩
          case measure => simp [intOf]; omega
        · have : j = k := by omega
          subst this
          have hmk := fun W => (ints_made j (by omega) W).1
          have he2 : decide ((j : Int) < (j : Int)) = false := decide_eq_false (by omega)
          go_wp2_with fail
          go_cut [10, 11, 12] (fun o r l wx => ∃ BO BR : Nat, o = .slice (some ⟨BO, 0, none⟩) j j ∧ r = .slice (some ⟨BR, 0, none⟩) j j ∧ l = .int .i64 (t : Int) ∧ Hid (TwoLists w wx BO BR j (fun _ => 0) (fun _ => 0)))
          case first =>
            have hm1 := Lib.hid (two_made w j (by omega)).1
            have hm2 := Lib.hid (two_made w j (by omega)).2
            go_region
            all_goals
              go_wp2_with fail
              go_meet
              first
                | exact ⟨_, _, rfl, rfl, rfl, hm1⟩
                | exact ⟨_, _, rfl, rfl, rfl, hm2⟩
          case rest =>
            obtain ⟨BO, BR, rfl, rfl, rfl, hTL⟩ := hcut
            clear hmk
            go_wp2_with fail
            go_loopw [12, 13] (fun l i wr => ∃ k : Nat, k ≤ j ∧ i = .int .i64 k ∧ ∃ L : Int, l = .int .i64 L ∧ Hid (L + (sumN (shQ t (wN g) j) k : Nat) = (t : Int)) ∧ Hid (TwoLists w wr BO BR j (upTo (shQ t (wN g) j) k) (upTo (shR t (wN g) j) k))) (fun _ i _ => j - (intOf i).toNat)
            case atStart => exact ⟨0, Nat.zero_le _, rfl, _, rfl, Lib.hid (by simp [sumN]), Lib.hid ⟨hTL.out.out.congr (fun _ _ => rfl), hTL.out.rest.congr (fun _ _ => rfl), hTL.out.ne, hTL.out.newO, hTL.out.newR, hTL.out.below⟩⟩
            case round =>
              obtain ⟨k, hk, rfl, L, rfl, hL, hR⟩ := hrel
              by_cases hlt : k < j
              · obtain ⟨e, W, q, r, e1, e2, e3, e4, b1, b2, b3, b4, b5, m1, m2, z1, z2⟩ := weight_facts (t := t) hn hn1 hg k hlt
                have hs1 := sum_prefix (shQ t (wN g) j) (k + 1) j (by omega)
                have hs2 := sh_sum_le t (wN g) j hn1
                have hs3 : sumN (shQ t (wN g) j) (k + 1) = sumN (shQ t (wN g) j) k + q := by rw [← e3]; rfl
                have hL2 : 0 ≤ L - q ∧ L ≤ t := by have := hL.out; omega
                have hL3 := Lib.hid (show (L - q) + (sumN (shQ t (wN g) j) (k + 1) : Nat) = (t : Int) by have := hL.out; omega)
                clear hs1 hs2 hs3 hL
                have hcell := (hR.out.below.cell (World.block_lt_of_cell? w _ (hc k hlt))).trans (hc k hlt)
                have hM := refMul_any t e (by omega) (by omega)
                have hD := refDivMod_any (hiN t e) (loN t e) W (hiN_lt (by omega) (by omega)) (loN_lt _ _) (by omega) (by omega) (t * e) (hilo t e).symm
                rw [m1, m2] at hD
                have hlo : wLo q = q := by unfold wLo; omega
                rw [hlo] at hD
                generalize wHi q = u at *
                generalize hiN t e = mh at *
                generalize loN t e = ml at *
                have HM := Lib.hid hM
                have HD := Lib.hid hD
                have Z1 := Lib.hid z1
                have Z2 := Lib.hid z2
                have E3 := Lib.hid e3
                have E4 := Lib.hid e4
                clear hM hD m1 m2 hlo z1 z2 e1 e2 e3 e4 hc
                have hS2 : sumI g j = S := hS.out.symm
                rw [hS2] at Z1 Z2
                go_upto_if 89 with fail
                go_cut [14, 15] (fun x s wx => x = .int .i64 (e : Int) ∧ s = .int .i64 (W : Int) ∧ wx = wr)
                case first =>
                  by_cases hz : S = 0
                  · have cz : (S == 0) = true := by rw [beq_iff_eq]; exact hz
                    obtain ⟨y1, y2⟩ := Z1.out hz
                    have Y1 := Lib.hid y1
                    have Y2 := Lib.hid y2
                    clear hz y1 y2 Z1 Z2 hS2 hS0
                    go_wp2_with fail
                    go_meet
                    exact ⟨by rw [Y1.out]; rfl, by rw [Y2.out], rfl⟩
                  · have cz : (S == 0) = false := by rw [beq_eq_false_iff_ne]; exact hz
                    obtain ⟨y1, y2⟩ := Z2.out hz
                    have Y1 := Lib.hid y1
                    have Y2 := Lib.hid y2
                    clear hz y1 y2 Z1 Z2 hS2 hS0
                    go_wp2_with fail
                    go_meet
                    exact ⟨by rw [Y1.out], by rw [← Y2.out], rfl⟩
                case rest =>
                  obtain ⟨rfl, rfl, rfl⟩ := hcut
                  clear Z1 Z2 hS2 hS0
                  go_wp2_with fail
                  refine (HM.out _).mono ?_
                  rintro _ w1 ⟨rfl, hb1⟩
                  go_wp2_with fail
                  refine (HD.out _).mono ?_
                  rintro _ w2 ⟨rfl, hb2⟩
                  have hR2 := (hR.out.keep (hb1.trans (hb2.mono hb1.size))).keep ((Below.refl _ _).alloc (Nat.le_refl _) (.cells #[.int .u64 (u : Int), .int .u64 (q : Int)] 45))
                  have q0 : (w2.alloc (.cells #[.int .u64 (u : Int), .int .u64 (q : Int)] 45)).cell? ⟨w2.heap.size, 0, none⟩ = some (.int .u64 (u : Int)) := by simp [go_sem]
                  have q1 : (w2.alloc (.cells #[.int .u64 (u : Int), .int .u64 (q : Int)] 45)).cell? ⟨w2.heap.size, 1, none⟩ = some (.int .u64 (q : Int)) := by simp [go_sem]
                  have hst2 := Lib.hid hR2.step
                  rw [E3.out, E4.out] at hst2
                  obtain ⟨o1, o2⟩ := hR2.out.1 k hlt
                  obtain ⟨o3, o4⟩ := hR2.rest.1 k hlt
                  have hne := hR2.ne
                  have hne2 := hR2.ne.symm
                  clear hb1 hb2 hR2 hR HM HD
                  go_upto_region 24 with fail
                  generalize w2.alloc (.cells #[.int .u64 (u : Int), .int .u64 (q : Int)] 45) = W3 at *
                  generalize w2.heap.size = D at *
                  go_wp2_with fail
                  go_roundw
                  case rel => exact ⟨k + 1, by omega, by go_num, _, rfl, hL3, hst2⟩
                  case measure => simp [intOf]; omega
              · have : k = j := by omega
                subst this
                have hs2 := sh_sum_le t (wN g) k hn1
                have hl := left_n t (wN g) k hn1
                obtain ⟨m0, rfl⟩ : ∃ m0 : Nat, L = (m0 : Int) := ⟨L.toNat, by have := hL.out; omega⟩
                have hm0 : m0 = shLeft t (wN g) k := by unfold shLeft; have := hL.out; omega
                have he3 : decide ((k : Int) < (k : Int)) = false := decide_eq_false (by omega)
                clear hs2 hL hTL hc hat
                go_wp2_with fail
                go_loopw [12] (fun l wr => ∃ (m : Nat) (tk : Nat → Bool), l = .int .i64 (m : Int) ∧ UpTo (shR t (wN g) k) k tk ∧ Hid (cntN tk k + m = shLeft t (wN g) k) ∧ Hid (TwoLists w wr BO BR k (withUnit (shQ t (wN g) k) tk) (leftOf (shR t (wN g) k) tk))) (fun l _ => (intOf l).toNat)
                case atStart =>
                  refine ⟨m0, fun _ => false, rfl, up_none _ _, Lib.hid ?_, Lib.hid ⟨hR.out.out.congr (fun i hi => ?_), hR.out.rest.congr (fun i hi => ?_), hR.out.ne, hR.out.newO, hR.out.newR, hR.out.below⟩⟩
                  · rw [cnt_none k (fun _ _ => rfl)]; omega
                  · unfold upTo withUnit
                    rw [if_pos hi]
                    simp
                  · unfold upTo leftOf
                    rw [if_pos hi]
                    simp
                case round =>
                  obtain ⟨m, tk, rfl, hu, hcm, hR4⟩ := hrel
                  have hmb : m ≤ 1000 := by have := hcm.out; omega
                  by_cases hm : 0 < m
                  · obtain ⟨n1, n2, n3, n4⟩ := take_next hu (by have := hcm.out; omega)
                    have hz0 : TwoLists w wr BO BR k (withUnit (shQ t (wN g) k) tk) (leftOf (shR t (wN g) k) tk) := hR4.out
                    have hb1 := best_one (leftOf (shR t (wN g) k) tk)
                    have hgive := Lib.hid (fun (wx : World) (h : TwoLists w wx BO BR k (withUnit (shQ t (wN g) k) tk) (leftOf (shR t (wN g) k) tk)) => h.give n2)
                    have hcm2 := Lib.hid (show cntN (fun i => tk i || i == bestN (leftOf (shR t (wN g) k) tk) k) k + (m - 1) = shLeft t (wN g) k by rw [n4]; have := hcm.out; omega)
                    have hu2 := Lib.hid n3
                    have hspec := fun c (h : 1 ≤ c) => (best_spec (leftOf (shR t (wN g) k) tk) c h).1
                    have hnext : ∀ c, bestN (leftOf (shR t (wN g) k) tk) (c + 1) = if leftOf (shR t (wN g) k) tk (bestN (leftOf (shR t (wN g) k) tk) c) < leftOf (shR t (wN g) k) tk c then c else bestN (leftOf (shR t (wN g) k) tk) c := fun c => rfl
                    have hfo : withUnit (shQ t (wN g) k) tk (bestN (leftOf (shR t (wN g) k) tk) k) = (shQ t (wN g) k (bestN (leftOf (shR t (wN g) k) tk) k) : Int) := by
                      unfold withUnit
                      rw [n2]
                      simp
                    have hq6 : shQ t (wN g) k (bestN (leftOf (shR t (wN g) k) tk) k) ≤ t := by
                      obtain ⟨_, _, _, _, _, _, e3, _, _, _, _, b4, _⟩ := weight_facts (t := t) hn hn1 hg _ n1
                      omega
                    clear hcm n2 n3 n4
                    generalize leftOf (shR t (wN g) k) tk = z at *
                    generalize hfw : withUnit (shQ t (wN g) k) tk = fo at *
                    have HFW := Lib.hid hfw
                    clear hfw
                    have HN2 := Lib.hid hnext
                    have HFO := Lib.hid hfo
                    clear hnext hfo
                    go_wp2_with fail
                    go_loopw [18, 19] (fun b i wx => ∃ c : Nat, 1 ≤ c ∧ c ≤ k ∧ i = .int .i64 c ∧ b = .int .i64 (bestN z c : Nat) ∧ Hid (TwoLists w wx BO BR k fo z)) (fun _ i _ => k - (intOf i).toNat)
                    case atStart => exact ⟨1, by omega, hn1, rfl, by rw [hb1]; rfl, Lib.hid hz0⟩
                    case round =>
                      obtain ⟨c, hc1, hck, rfl, rfl, hR5⟩ := hrel
                      by_cases hlt4 : c < k
                      · obtain ⟨r1, r2⟩ := hR5.out.rest.1 c hlt4
                        have hbc := hspec c hc1
                        obtain ⟨r3, r4⟩ := hR5.out.rest.1 (bestN z c) (by omega)
                        have hnx := HN2.out c
                        generalize bestN z c = b at *
                        generalize z c = zc at *
                        generalize z b = zb at *
                        by_cases hzz : zb < zc
                        · have hd : decide (zb < zc) = true := decide_eq_true hzz
                          have HX := Lib.hid (hnx.trans (if_pos hzz))
                          clear hnx hzz
                          go_wp2_with fail
                          go_quiet (fail)
                          go_wp2_with fail
                          go_roundw
                          case rel => exact ⟨c + 1, by omega, by omega, by go_num, by rw [HX.out], Lib.hid (hR5.out.keep (below_drewN (Below.refl _ _) _))⟩
                          case measure => simp [intOf]; omega
                        · have hd : decide (zb < zc) = false := decide_eq_false hzz
                          have HX := Lib.hid (hnx.trans (if_neg hzz))
                          clear hnx hzz
                          go_wp2_with fail
                          go_quiet (fail)
                          go_wp2_with fail
                          go_roundw
                          case rel => exact ⟨c + 1, by omega, by omega, by go_num, by rw [HX.out], Lib.hid (hR5.out.keep (below_drewN (Below.refl _ _) _))⟩
                          case measure => simp [intOf]; omega
                      · have : c = k := by omega
                        subst this
                        have hd : decide ((c : Int) < (c : Int)) = false := decide_eq_false (by omega)
                        obtain ⟨r1, r2⟩ := hR5.out.out.1 _ n1
                        obtain ⟨r3, r4⟩ := hR5.out.rest.1 _ n1
                        have hg6 := Lib.hid (hgive.out _ hR5.out)
                        rw [HFO.out] at r1
                        have hne := hR5.out.ne
                        have hne2 := hR5.out.ne.symm
                        clear hspec hgive HN2 HFO hz0 hb1 hR5
                        generalize bestN z c = b at *
                        generalize shQ t (wN g) c b = qb at *
                        go_wp2_with fail
                        go_roundw
                        case rel => exact ⟨m - 1, fun i => tk i || i == b, int_eq (by omega), hu2.out, hcm2, hg6⟩
                        case measure => simp [intOf]; omega
                  · obtain rfl : m = 0 := by omega
                    have hfin : ∀ i, i < k → withUnit (shQ t (wN g) k) tk i = (shV t (wN g) k i : Int) := fun i hi => by
                      have h1 := taken_rank hu i hi
                      have h2 : cntN tk k = shLeft t (wN g) k := by have := hcm.out; omega
                      rw [h2] at h1
                      unfold withUnit shV
                      rw [h1]
                      by_cases h3 : rankN (shR t (wN g) k) k i < shLeft t (wN g) k <;> simp [h3]
                    have hF := Lib.hid (hR4.out.out.congr hfin)
                    have hN := hR4.out.newO
                    have hBe := hR4.out.below
                    clear hR4 hfin hcm hu hR
                    go_wp2_with fail
                    go_ret2
                    exact ⟨BO, rfl, hF.out, hN, hBe⟩
end Go.Proofs.Ytnjegnmkabnkkaa
