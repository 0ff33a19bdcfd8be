/- What the functions divisionBy and part of the package apportion return: each weight's quotient and remainder. Condition: the list's cells are known. -/
import Derived.Test.YtnjegnmkabnkkaaShareVal
import Derived.Test.YtnjegnmkabnkkaaMulMod
import Derived.Laws.EntriesVeiled
namespace Go.Proofs.Ytnjegnmkabnkkaa
open Go.RowKit

/-- The division that divisionBy hands back. -/
def DivIs (w : World) (D v : Value) (n : Nat) (g : Nat → Int) : Prop :=
  (sumI g n = 0 ∧ D = .agg #[.int .i64 (n : Int), .func (.func 29) #[] #[]]) ∨
  (sumI g n ≠ 0 ∧ ∃ C : Nat, D = .agg #[.int .i64 (sumI g n), .func (.func 30) #[] #[.pointer (some ⟨C, 0, none⟩)]] ∧ w.cell? ⟨C, 0, none⟩ = some v)
theorem DivIs.keep {w w1 : World} {D v : Value} {n : Nat} {g : Nat → Int} (h : DivIs w D v n g) (hb : Below w.heap.size w w1) : DivIs w1 D v n g := by
  rcases h with h | ⟨h1, C, h2, h3⟩
  · exact .inl h
  · exact .inr ⟨h1, C, h2, (hb.cell (World.block_lt_of_cell? w _ h3)).trans h3⟩

/-- The world behind the two variables that divisionBy makes. -/
structure DivStart (w W1 : World) (v : Value) (C D : Nat) : Prop where
  box : W1.cell? ⟨C, 0, none⟩ = some v
  c0 : W1.cell? ⟨D, 0, none⟩ = some (.int .i64 0)
  c1 : W1.cell? ⟨D, 1, none⟩ = some .nilFunc
  f0 : W1.frozen? ⟨D, 0, none⟩ = false
  f1 : W1.frozen? ⟨D, 1, none⟩ = false
  c2 : ∀ x, (W1.setCell ⟨D, 0, none⟩ x).cell? ⟨D, 1, none⟩ = some .nilFunc
  f2 : ∀ x, (W1.setCell ⟨D, 0, none⟩ x).frozen? ⟨D, 1, none⟩ = false
  d0 : ∀ x y, ((W1.setCell ⟨D, 0, none⟩ x).setCell ⟨D, 1, none⟩ y).cell? ⟨D, 0, none⟩ = some x
  d1 : ∀ x y, ((W1.setCell ⟨D, 0, none⟩ x).setCell ⟨D, 1, none⟩ y).cell? ⟨D, 1, none⟩ = some y
  stays : ∀ x y, ((W1.setCell ⟨D, 0, none⟩ x).setCell ⟨D, 1, none⟩ y).cell? ⟨C, 0, none⟩ = some v
  old : ∀ p u, w.cell? p = some u → W1.cell? p = some u
  below : ∀ x y, Below w.heap.size w ((W1.setCell ⟨D, 0, none⟩ x).setCell ⟨D, 1, none⟩ y)
theorem div_start (v : Value) (w : World) : DivStart w ((w.alloc (.cells #[v] 22)).alloc (.cells #[.int .i64 0, .nilFunc] 37)) v w.heap.size (w.heap.size + 1) := by
  have hs : (w.alloc (.cells #[v] 22)).heap.size = w.heap.size + 1 := by simp
  have hb2 : Below (w.heap.size + 1) (w.alloc (.cells #[v] 22)) ((w.alloc (.cells #[v] 22)).alloc (.cells #[.int .i64 0, .nilFunc] 37)) := (Below.refl _ _).alloc (by rw [hs]; omega) _
  have hb : Below w.heap.size w ((w.alloc (.cells #[v] 22)).alloc (.cells #[.int .i64 0, .nilFunc] 37)) := ((Below.refl _ _).alloc (Nat.le_refl _) _).alloc (by rw [hs]; omega) _
  have hne : (⟨w.heap.size + 1, 0, none⟩ : Addr) ≠ ⟨w.heap.size + 1, 1, none⟩ := fun h => by injection h with _ h2; omega
  have hn0 : (⟨w.heap.size + 1, 0, none⟩ : Addr) ≠ ⟨w.heap.size, 0, none⟩ := fun h => by injection h with h2; omega
  have hn1 : (⟨w.heap.size + 1, 1, none⟩ : Addr) ≠ ⟨w.heap.size, 0, none⟩ := fun h => by injection h with h2; omega
  have hbox : ((w.alloc (.cells #[v] 22)).alloc (.cells #[.int .i64 0, .nilFunc] 37)).cell? ⟨w.heap.size, 0, none⟩ = some v := (hb2.cell (by show w.heap.size < w.heap.size + 1; omega)).trans (by simp)
  have hc0 : ((w.alloc (.cells #[v] 22)).alloc (.cells #[.int .i64 0, .nilFunc] 37)).cell? ⟨w.heap.size + 1, 0, none⟩ = some (.int .i64 0) := by rw [← hs]; simp
  have hc1 : ((w.alloc (.cells #[v] 22)).alloc (.cells #[.int .i64 0, .nilFunc] 37)).cell? ⟨w.heap.size + 1, 1, none⟩ = some .nilFunc := by rw [← hs]; simp
  have hf0 : ((w.alloc (.cells #[v] 22)).alloc (.cells #[.int .i64 0, .nilFunc] 37)).frozen? ⟨w.heap.size + 1, 0, none⟩ = false := by rw [← hs]; simp
  have hf1 : ((w.alloc (.cells #[v] 22)).alloc (.cells #[.int .i64 0, .nilFunc] 37)).frozen? ⟨w.heap.size + 1, 1, none⟩ = false := by rw [← hs]; simp
  generalize (w.alloc (.cells #[v] 22)).alloc (.cells #[.int .i64 0, .nilFunc] 37) = W1 at *
  have hc2 : ∀ x, (W1.setCell ⟨w.heap.size + 1, 0, none⟩ x).cell? ⟨w.heap.size + 1, 1, none⟩ = some .nilFunc := fun x => (World.cell?_setCell_other W1 _ _ _ hne).trans hc1
  exact ⟨hbox, hc0, hc1, hf0, hf1, hc2, fun x => (World.frozen?_setCell _ _ _ _).trans hf1,
    fun x y => (World.cell?_setCell_other _ _ _ _ hne.symm).trans (World.cell?_setCell_same W1 _ _ hc0), fun x y => World.cell?_setCell_same _ _ _ (hc2 x),
    fun x y => (World.cell?_setCell_other _ _ _ _ hn1).trans ((World.cell?_setCell_other _ _ _ _ hn0).trans hbox),
    fun p u h => (hb.cell (World.block_lt_of_cell? w _ h)).trans h, fun x y => (hb.setCell (by show w.heap.size ≤ w.heap.size + 1; omega) _).setCell (by show w.heap.size ≤ w.heap.size + 1; omega) _⟩

set_option maxRecDepth 100000 in
set_option maxHeartbeats 800000 in
theorem divisionBy_any (v : Value) (n : Nat) (g : Nat → Int) (hn : n ≤ 1000) (hg : amts0 g n = true) (w : World) (h : ListAt w .i64 v n g) :
    Calls Try.prog 21 #[v] w fun e w' => ∃ D, e = .returned D ∧ DivIs w' D v n g ∧ Below w.heap.size w w' := by
  have hat := amts0_at hg
  rcases h with ⟨rfl, rfl⟩ | ⟨a, cap, rfl, q1, q2, q3⟩
  · have HD := Lib.hid (div_start (.slice none 0 0) w)
    go_enter Try.func21, Try.ntmps21
    go_wp2_with fail
    generalize (w.alloc (.cells #[.slice none 0 0] 22)).alloc (.cells #[.int .i64 0, .nilFunc] 37) = W1 at *
    obtain ⟨C, hC⟩ : ∃ C, C = w.heap.size := ⟨_, rfl⟩
    rw [← hC] at HD ⊢
    obtain ⟨D, hD⟩ : ∃ D, D = C + 1 := ⟨_, rfl⟩
    rw [← hD] at HD ⊢
    clear hC hD
    obtain ⟨x0, x1, x2, x3, x4, x5, x6, x7, x8, x9, x10, x11⟩ := HD.out
    go_loop [3, 8] (fun s i => s = .int .i64 0 ∧ i = .int .i64 0) (fun _ _ => 0)
    case atStart => exact ⟨rfl, rfl⟩
    case round =>
      obtain ⟨rfl, rfl⟩ := hrel
      have e1 := x7 (.int .i64 0) (.func (.func 29) #[] #[])
      have e2 := x8 (.int .i64 0) (.func (.func 29) #[] #[])
      go_wp2_with fail
      simp [bodyPost, results, Try.results21, go_sem, e1, e2]
      exact ⟨.inl ⟨rfl, rfl⟩, HD.out.below _ _⟩
  · have HD := Lib.hid (div_start (.slice (some a) n cap) w)
    have hc := fun i hi => (q3 i hi).1
    clear q3
    go_enter Try.func21, Try.ntmps21
    go_wp2_with fail
    generalize (w.alloc (.cells #[.slice (some a) n cap] 22)).alloc (.cells #[.int .i64 0, .nilFunc] 37) = W1 at *
    obtain ⟨C, hC⟩ : ∃ C, C = w.heap.size := ⟨_, rfl⟩
    rw [← hC] at HD ⊢
    obtain ⟨D, hD⟩ : ∃ D, D = C + 1 := ⟨_, rfl⟩
    rw [← hD] at HD ⊢
    clear hC hD
    obtain ⟨x0, x1, x2, x3, x4, x5, x6, x7, x8, x9, x10, x11⟩ := HD.out
    have hc1 := fun i (hi : i < n) => x10 _ _ (hc i hi)
    clear x10 x11 hc
    go_loop [3, 8] (fun s i => ∃ k : Nat, k ≤ n ∧ i = .int .i64 k ∧ ∃ S : Int, s = .int .i64 S ∧ Hid (S = sumI g k)) (fun _ i => n - (intOf i).toNat)
    case atStart => exact ⟨0, Nat.zero_le _, by go_num, 0, rfl, Lib.hid rfl⟩
    case round =>
      obtain ⟨k, hk, rfl, S, rfl, hS⟩ := hrel
      have hsum := sumN_at hg hk
      have hS0 : 0 ≤ S ∧ S ≤ 1000000000000000 := by rw [hS.out]; omega
      clear hsum
      by_cases hlt : k < n
      · have hcell := hc1 k hlt
        have hx := hat k hlt
        have hS2 := Lib.hid (show S + g k = sumI g (k + 1) by rw [hS.out]; rfl)
        clear hc1 hS x5 x6 x7 x8 x9
        generalize g k = x at hcell hx hS2
        go_wp2
        go_round
        case rel => exact ⟨k + 1, by omega, by go_num, _, rfl, hS2⟩
        case measure => simp [intOf]; omega
      · obtain rfl : k = n := by omega
        by_cases hz : S = 0
        · have e0 : (S == 0) = true := by rw [beq_iff_eq]; exact hz
          have e1 := x7 (.int .i64 (k : Int)) (.func (.func 29) #[] #[])
          have e2 := x8 (.int .i64 (k : Int)) (.func (.func 29) #[] #[])
          have HS0 := Lib.hid (show sumI g k = 0 by rw [← hS.out]; exact hz)
          clear hc1 hS hz
          go_wp2_with fail
          simp [bodyPost, results, Try.results21, go_sem, e1, e2]
          exact ⟨.inl ⟨HS0.out, rfl⟩, HD.out.below _ _⟩
        · have e0 : (S == 0) = false := by rw [beq_eq_false_iff_ne]; exact hz
          have e1 := x7 (.int .i64 S) (.func (.func 30) #[] #[.pointer (some ⟨C, 0, none⟩)])
          have e2 := x8 (.int .i64 S) (.func (.func 30) #[] #[.pointer (some ⟨C, 0, none⟩)])
          have HS0 := Lib.hid (show sumI g k ≠ 0 by rw [← hS.out]; exact hz)
          clear hc1 hz
          go_wp2_with fail
          simp [bodyPost, results, Try.results21, go_sem, e1, e2]
          exact ⟨.inr ⟨HS0.out, C, by rw [hS.out], x9 _ _⟩, HD.out.below _ _⟩

theorem weightOne_any (i : Int) (w : World) : Calls Try.prog 29 #[.int .i64 i] w fun e w' => e = .returned (.int .i64 1) ∧ w' = w := by
  go_enter Try.func29, Try.ntmps29
  go_wp2_with fail
  go_ret
  exact ⟨rfl, rfl⟩
theorem weightAt_any (C : Nat) (a : Addr) (n cap i : Nat) (x : Int) (hi : i < n) (w : World) (h : w.cell? ⟨C, 0, none⟩ = some (.slice (some a) n cap)) (hc : w.cell? (a.add i) = some (.int .i64 x)) :
    Calls Try.prog 30 #[.int .i64 (i : Int), .pointer (some ⟨C, 0, none⟩)] w fun e w' => e = .returned (.int .i64 x) ∧ w' = w := by
  go_enter Try.func30, Try.ntmps30
  go_wp2_with fail
  go_ret
  exact ⟨rfl, rfl⟩

/-- MulDiv rounded down and MulMod, where nothing overflows. -/
theorem md_down {t e W q r : Nat} (h0 : 1 ≤ W) (h1 : t * e / W = q) (h2 : t * e % W = r) (hq : q < 18446744073709551616) : mdV t e W 0 = q ∧ mdE t e W 0 = 0 ∧ mmN t e W = r := by
  have hu : divUp (t * e) W 0 = q := by
    unfold divUp upN
    rw [h1]
    simp
  obtain ⟨a1, a2⟩ := div_fits (t * e) W 0 (by omega) (by rw [hu]; exact hq)
  refine ⟨?_, a2, ?_⟩
  · show divV (t * e) W 0 = q
    rw [a1, hu]
  · unfold mmN
    rw [if_neg (by omega), h2]

set_option maxRecDepth 100000 in
set_option maxHeartbeats 800000 in
theorem part_any (t : Nat) (D v : Value) (n i : Nat) (g : Nat → Int) (hn : n ≤ 1000) (hi : i < n) (ht : t ≤ 1000000000000) (hg : amts0 g n = true) (w : World) (hD : DivIs w D v n g) (h : ListAt w .i64 v n g) :
    Calls Try.prog 22 #[D, .int .i64 (t : Int), .int .i64 (i : Int)] w fun e w' =>
      e = .returned (.tuple #[.int .i64 (shQ t (wN g) n i), .int .u64 (shR t (wN g) n i)]) ∧ Below w.heap.size w w' := by
  obtain ⟨e, W, q, r, _, _, e3, e4, b1, b2, b3, b4, b5, m1, m2, z1, z2⟩ := weight_facts (t := t) hn (by omega) hg i hi
  rw [e3, e4]
  obtain ⟨k1, k2, k3⟩ := md_down b2 m1 m2 (by omega)
  have HM := Lib.hid (fun w => mulDiv_any t e W 0 (by omega) (by omega) (by omega) w)
  have HR := Lib.hid (fun w => mulMod_any t e W (by omega) (by omega) (by omega) w)
  rw [k1, k2] at HM
  rw [k3] at HR
  clear e3 e4 m1 m2 k1 k2 k3
  rcases hD with ⟨hz, rfl⟩ | ⟨hz, C, rfl, hC⟩
  · obtain ⟨y1, y2⟩ := z1 hz
    have HO := weightOne_any (i : Int)
    rw [show (1 : Int) = (e : Int) by omega] at HO
    have HO2 := Lib.hid (fun w => HO w)
    have zn : (n : Int) = (W : Int) := by omega
    rw [zn]
    clear z1 z2 hz y1 y2 h zn HO
    have HO := HO2
    clear HO2
    go_enter Try.func22, Try.ntmps22
    go_wp2_with fail
    go_quiet ((go_at_call 29; refine Calls.quiet_of_same (HO.out _)))
    go_wp2_with fail
    refine (HM.out _).mono ?_
    rintro x w1 ⟨rfl, hb1⟩
    have HB1 := Lib.hid hb1
    clear hb1 HM HO
    go_wp2_with fail
    refine (HR.out _).mono ?_
    rintro x w2 ⟨rfl, hb2⟩
    have HB2 := Lib.hid hb2
    clear hb2 HR
    go_wp2_with fail
    go_ret2
    have hs : w.heap.size ≤ w1.heap.size := Nat.le_trans (by simp) HB1.out.size
    exact ⟨rfl, ((below_drewN ((Below.refl _ _).alloc (Nat.le_refl _) _) _).trans (HB1.out.mono (by simp))).trans (HB2.out.mono hs)⟩
  · obtain ⟨y1, y2⟩ := z2 hz
    rw [y2]
    rcases h with ⟨_, h0⟩ | ⟨a, cap, rfl, q1, q2, q3⟩
    · omega
    have hci := (q3 i hi).1
    rw [y1] at hci
    have HO := Lib.hid (fun w1 (hb : Below w.heap.size w w1) => weightAt_any C a n cap i (e : Int) hi w1 ((hb.cell (World.block_lt_of_cell? w _ hC)).trans hC) ((hb.cell (World.block_lt_of_cell? w _ hci)).trans hci))
    clear z1 z2 hz y1 y2 q3 hC hci
    go_enter Try.func22, Try.ntmps22
    go_wp2_with fail
    go_quiet ((go_at_call 30; refine Calls.quiet_of_same (HO.out _ (below_drewN ((Below.refl _ _).alloc (Nat.le_refl _) _) _))))
    go_wp2_with fail
    refine (HM.out _).mono ?_
    rintro x w1 ⟨rfl, hb1⟩
    have HB1 := Lib.hid hb1
    clear hb1 HM HO
    go_wp2_with fail
    refine (HR.out _).mono ?_
    rintro x w2 ⟨rfl, hb2⟩
    have HB2 := Lib.hid hb2
    clear hb2 HR
    go_wp2_with fail
    go_ret2
    have hs : w.heap.size ≤ w1.heap.size := Nat.le_trans (by simp) HB1.out.size
    exact ⟨rfl, ((below_drewN ((Below.refl _ _).alloc (Nat.le_refl _) _) _).trans (HB1.out.mono (by simp))).trans (HB2.out.mono hs)⟩
end Go.Proofs.Ytnjegnmkabnkkaa
