/- What the small functions of the landed package currency return: the order of two rows, the form of a currency's name, the range of a day. No condition. -/
import Derived.Test.YtjjidbnjkhdkaaaCurCmp
namespace Go.Proofs.Ytjjidbnjkhdkaaa
open Go.RowKit

/-- A row of a table, as a value. -/
def rowV (s : ByteArray) (f r : Int) : Value := .agg #[.string s, .int .i64 f, .int .i64 r]

theorem rows_drew {n : Nat} {x y : ByteArray} {a b : Int} {w0 w : World} (h : w.cell? ⟨n, 0, none⟩ = some (.string x) ∧ w.cell? ⟨n + 1, 0, none⟩ = some (.string y) ∧ w.cell? ⟨n, 1, none⟩ = some (.int .i64 a) ∧ w.cell? ⟨n + 1, 1, none⟩ = some (.int .i64 b) ∧ Below n w0 w ∧ n ≤ w.heap.size) :
    w.drew.cell? ⟨n, 0, none⟩ = some (.string x) ∧ w.drew.cell? ⟨n + 1, 0, none⟩ = some (.string y) ∧ w.drew.cell? ⟨n, 1, none⟩ = some (.int .i64 a) ∧ w.drew.cell? ⟨n + 1, 1, none⟩ = some (.int .i64 b) ∧ Below n w0 w.drew ∧ n ≤ w.drew.heap.size :=
  ⟨h.1, h.2.1, h.2.2.1, h.2.2.2.1, h.2.2.2.2.1.drew, h.2.2.2.2.2⟩
theorem rows_alloc {n : Nat} {x y : ByteArray} {a b : Int} {w0 w : World} {o : Obj} (h : w.cell? ⟨n, 0, none⟩ = some (.string x) ∧ w.cell? ⟨n + 1, 0, none⟩ = some (.string y) ∧ w.cell? ⟨n, 1, none⟩ = some (.int .i64 a) ∧ w.cell? ⟨n + 1, 1, none⟩ = some (.int .i64 b) ∧ Below n w0 w ∧ n ≤ w.heap.size) :
    (w.alloc o).cell? ⟨n, 0, none⟩ = some (.string x) ∧ (w.alloc o).cell? ⟨n + 1, 0, none⟩ = some (.string y) ∧ (w.alloc o).cell? ⟨n, 1, none⟩ = some (.int .i64 a) ∧ (w.alloc o).cell? ⟨n + 1, 1, none⟩ = some (.int .i64 b) ∧ Below n w0 (w.alloc o) ∧ n ≤ (w.alloc o).heap.size := by
  have k := fun p u (h : w.cell? p = some u) => (((Below.refl w.heap.size w).alloc (Nat.le_refl _) o).cell (World.block_lt_of_cell? w p h)).trans h
  exact ⟨k _ _ h.1, k _ _ h.2.1, k _ _ h.2.2.1, k _ _ h.2.2.2.1, h.2.2.2.2.1.alloc h.2.2.2.2.2 _, Nat.le_trans h.2.2.2.2.2 (by simp)⟩

set_option maxRecDepth 100000 in
set_option maxHeartbeats 800000 in
theorem curCompare_any (x y : ByteArray) (a b r q : Int) (w : World) : Calls Try.prog 27 #[rowV x a r, rowV y b q] w fun e w' => e = .returned (.int .i64 (cmpR x y a b)) ∧ Below w.heap.size w w' := by
  have HS := Lib.hid (fun w => compare_str x y w)
  have HI := Lib.hid (fun w => compare_int a b w)
  have HO := Lib.hid (fun k w h0 h1 => or_two (cmpS x y) (cmpI a b) k w h0 h1)
  have hr : Hid (cmpR x y a b = orI (cmpS x y) (cmpI a b)) := Lib.hid rfl
  unfold rowV
  rw [hr.out]
  clear hr
  generalize cmpS x y = u at *
  generalize cmpI a b = v at *
  generalize orI u v = z at *
  go_enter Try.func27, Try.ntmps27
  go_wp2_with fail
  have hS0 : ((w.alloc (Obj.cells #[Value.string x, Value.int IntKind.i64 a, Value.int IntKind.i64 r] 25)).alloc
      (Obj.cells #[Value.string y, Value.int IntKind.i64 b, Value.int IntKind.i64 q] 25)).cell? ⟨w.heap.size, 0, none⟩ = some (.string x) ∧ ((w.alloc (Obj.cells #[Value.string x, Value.int IntKind.i64 a, Value.int IntKind.i64 r] 25)).alloc
      (Obj.cells #[Value.string y, Value.int IntKind.i64 b, Value.int IntKind.i64 q] 25)).cell? ⟨w.heap.size + 1, 0, none⟩ = some (.string y) ∧ ((w.alloc (Obj.cells #[Value.string x, Value.int IntKind.i64 a, Value.int IntKind.i64 r] 25)).alloc
      (Obj.cells #[Value.string y, Value.int IntKind.i64 b, Value.int IntKind.i64 q] 25)).cell? ⟨w.heap.size, 1, none⟩ = some (.int .i64 a) ∧ ((w.alloc (Obj.cells #[Value.string x, Value.int IntKind.i64 a, Value.int IntKind.i64 r] 25)).alloc
      (Obj.cells #[Value.string y, Value.int IntKind.i64 b, Value.int IntKind.i64 q] 25)).cell? ⟨w.heap.size + 1, 1, none⟩ = some (.int .i64 b) ∧ Below w.heap.size w ((w.alloc (Obj.cells #[Value.string x, Value.int IntKind.i64 a, Value.int IntKind.i64 r] 25)).alloc
      (Obj.cells #[Value.string y, Value.int IntKind.i64 b, Value.int IntKind.i64 q] 25)) ∧ w.heap.size ≤ ((w.alloc (Obj.cells #[Value.string x, Value.int IntKind.i64 a, Value.int IntKind.i64 r] 25)).alloc
      (Obj.cells #[Value.string y, Value.int IntKind.i64 b, Value.int IntKind.i64 q] 25)).heap.size :=
    ⟨by simp [go_sem], by simp [go_sem], by simp [go_sem], by simp [go_sem], (((Below.refl _ _).alloc (Nat.le_refl _) _).alloc (by simp) _), by simp; omega⟩
  generalize ((w.alloc (Obj.cells #[Value.string x, Value.int IntKind.i64 a, Value.int IntKind.i64 r] 25)).alloc
      (Obj.cells #[Value.string y, Value.int IntKind.i64 b, Value.int IntKind.i64 q] 25)) = W at *
  go_region_held3 (fun w' => w'.cell? ⟨w.heap.size, 0, none⟩ = some (.string x) ∧ w'.cell? ⟨w.heap.size + 1, 0, none⟩ = some (.string y) ∧ w'.cell? ⟨w.heap.size, 1, none⟩ = some (.int .i64 a) ∧ w'.cell? ⟨w.heap.size + 1, 1, none⟩ = some (.int .i64 b) ∧ Below w.heap.size w w' ∧ w.heap.size ≤ w'.heap.size)
    (first
      | assumption
      | exact rows_drew (by assumption)
      | exact rows_alloc (by assumption))
    (first
      | (go_at_call 36; refine (HS.out _).mono ?_; rintro e w' ⟨rfl, rfl⟩)
      | (go_at_call 37; refine (HI.out _).mono ?_; rintro e w' ⟨rfl, rfl⟩)
      | (go_at_call 35; refine (HO.out _ _ (by simp [go_sem]) (by simp [go_sem])).mono ?_; rintro e w' ⟨rfl, rfl⟩))
  all_goals
    go_wp2_with fail
    go_ret
    exact ⟨rfl, (rows_drew (rows_alloc hS0)).2.2.2.2.1⟩

theorem curDay_any (n : Int) (w : World) : Calls Try.prog 26 #[.int .i64 n] w fun e w' => e = .returned (.bool (dayB n)) ∧ w = w' := by
  by_cases h1 : 0 ≤ n
  · by_cases h2 : n ≤ 36524
    · rw [(dayB_iff n).2 ⟨h1, h2⟩]
      go_enter Try.func26, Try.ntmps26
      go_wp2
      go_ret
      exact ⟨rfl, rfl⟩
    · rw [(dayB_false n).2 (by omega)]
      go_enter Try.func26, Try.ntmps26
      go_wp2
      go_ret
      exact ⟨rfl, rfl⟩
  · rw [(dayB_false n).2 (by omega)]
    go_enter Try.func26, Try.ntmps26
    go_wp2
    go_ret
    exact ⟨rfl, rfl⟩

theorem isForeign_any (s : ByteArray) (hs : s.size ≤ maxLen) (w : World) : Calls Try.prog 25 #[.string s] w fun e w' => e = .returned (.bool (curB s)) ∧ w = w' := by
  have hs2 : s.size ≤ 9223372036854775807 := by unfold maxLen at hs; omega
  have hno : Hid (∀ i (h : i < s.size), ((s[i]'h).toNat < 65 ∨ 90 < (s[i]'h).toNat) → curB s = false) := Lib.hid (fun i h hx => by
    unfold curB
    rw [decide_eq_false (fun hall => by have := hall i h; omega)]
    rfl)
  have hyes : Hid ((∀ i (h : i < s.size), 65 ≤ (s[i]'h).toNat ∧ (s[i]'h).toNat ≤ 90) → s.size = 3 → (s.toList == [69, 85, 82]) = false → curB s = true) := Lib.hid (fun hall h3 h4 => by
    unfold curB
    rw [decide_eq_true hall, h3, h4]
    rfl)
  have hlen : Hid (s.size ≠ 3 → curB s = false) := Lib.hid (fun h => by
    unfold curB
    rw [show (s.size == 3) = false from by rw [beq_eq_false_iff_ne]; exact h]
    simp)
  have hown : Hid ((s.toList == [69, 85, 82]) = true → curB s = false) := Lib.hid (fun h => by
    unfold curB
    rw [h]
    simp)
  obtain ⟨B, hB⟩ : ∃ B, B = curB s := ⟨_, rfl⟩
  rw [← hB] at hno hyes hlen hown ⊢
  clear hB
  by_cases h3 : s.size = 3
  · have e1 : (((s.size : Nat) : Int) != 3) = false := by
      rw [bne_eq_false_iff_eq]
      omega
    have hyes2 := Lib.hid (fun h => hyes.out h h3)
    clear h3 hlen hyes
    cases h4 : (s.toList == [69, 85, 82]) with
    | true =>
      have hb := hown.out h4
      subst hb
      clear hyes2 hno hown
      go_enter Try.func25, Try.ntmps25
      go_wp2_with fail
      go_ret
      exact ⟨rfl, rfl⟩
    | false =>
      have hyes3 := Lib.hid (fun h => hyes2.out h h4)
      clear hyes2 hown
      go_enter Try.func25, Try.ntmps25
      go_wp2_with fail
      go_loop [13] (fun vi => ∃ i : Nat, vi = .int .i64 i ∧ i ≤ s.size ∧ Hid (∀ j (h : j < s.size), j < i → 65 ≤ (s[j]'h).toNat ∧ (s[j]'h).toNat ≤ 90)) (fun vi => s.size - (intOf vi).toNat)
      case atStart => exact ⟨0, by go_num, by omega, Lib.hid (fun j h hj => absurd hj (by omega))⟩
      case round =>
        obtain ⟨i, rfl, hi, hA⟩ := hrel
        by_cases hlt : i < s.size
        · by_cases h1 : (s[i]'hlt).toNat < 65
          · have hb := hno.out i hlt (.inl h1)
            subst hb
            have d1 : decide ((((s[i]'hlt).toNat : Nat) : Int) < 65) = true := decide_eq_true (by omega)
            clear hno hyes3 hA h1
            go_wp2_with fail
            go_ret
            exact ⟨rfl, rfl⟩
          · by_cases h2 : 90 < (s[i]'hlt).toNat
            · have hb := hno.out i hlt (.inr h2)
              subst hb
              have d1 : decide ((((s[i]'hlt).toNat : Nat) : Int) < 65) = false := decide_eq_false (by omega)
              have d2 : decide ((90 : Int) < (((s[i]'hlt).toNat : Nat) : Int)) = true := decide_eq_true (by omega)
              clear hno hyes3 hA h1 h2
              go_wp2_with fail
              go_ret
              exact ⟨rfl, rfl⟩
            · have hN : Hid (∀ j (h : j < s.size), j < i + 1 → 65 ≤ (s[j]'h).toNat ∧ (s[j]'h).toNat ≤ 90) := Lib.hid (fun j h hj => by
                by_cases e : j = i
                · subst e; omega
                · exact hA.out j h (by omega))
              have d1 : decide ((((s[i]'hlt).toNat : Nat) : Int) < 65) = false := decide_eq_false (by omega)
              have d2 : decide ((90 : Int) < (((s[i]'hlt).toNat : Nat) : Int)) = false := decide_eq_false (by omega)
              clear hno hyes3 hA h1 h2
              go_wp2_with fail
              go_round
              case rel => exact ⟨i + 1, by go_num, by omega, hN⟩
              case measure => simp [intOf]; omega
        · obtain rfl : i = s.size := by omega
          have hb := hyes3.out (fun j h => hA.out j h h)
          subst hb
          clear hno hA hyes3
          go_wp2_with fail
          go_ret
          exact ⟨rfl, rfl⟩
  · have e1 : (((s.size : Nat) : Int) != 3) = true := by
      rw [bne_iff_ne]
      omega
    have hb := hlen.out h3
    subst hb
    clear hno hyes hlen hown h3
    go_enter Try.func25, Try.ntmps25
    go_wp2_with fail
    go_ret
    exact ⟨rfl, rfl⟩
end Go.Proofs.Ytjjidbnjkhdkaaa
