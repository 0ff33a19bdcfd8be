/- What Mul of the reference of the package exact returns, for every input: the product, found bit by bit. No condition. -/
import Derived.Test.YtjjidbnjkhdkaaaRefAdd
namespace Go.Proofs.Ytjjidbnjkhdkaaa
open Go.RowKit

/-- What the loop has after k rounds. -/
def mulAcc (a b k : Nat) : Nat := a * (b / 2 ^ (64 - k))
/-- The bit that round k reads. -/
def mulBit (b k : Nat) : Nat := b / 2 ^ (63 - k) % 2
theorem mulAcc_zero (a b : Nat) (hb : b < 18446744073709551616) : mulAcc a b 0 = 0 := by
  unfold mulAcc
  rw [Nat.div_eq_of_lt (by omega)]
  rfl
theorem mulAcc_end (a b : Nat) : mulAcc a b 64 = a * b := by simp [mulAcc]
theorem mulAcc_succ (a b k : Nat) (hk : k < 64) : mulAcc a b (k + 1) = mulAcc a b k + mulAcc a b k + mulBit b k * a := by
  unfold mulAcc mulBit
  have e1 : 64 - k = (63 - k) + 1 := by omega
  have e2 : 64 - (k + 1) = 63 - k := by omega
  rw [e1, e2, Nat.pow_succ, ← Nat.div_div_eq_div_mul]
  generalize b / 2 ^ (63 - k) = q
  have h : q = q / 2 + q / 2 + q % 2 := by omega
  calc a * q = a * (q / 2 + q / 2 + q % 2) := by rw [← h]
    _ = a * (q / 2) + a * (q / 2) + q % 2 * a := by rw [Nat.mul_add, Nat.mul_add, Nat.mul_comm (q % 2) a]
theorem mulAcc_lt (a b k : Nat) (ha : a < 18446744073709551616) (hb : b < 18446744073709551616) : mulAcc a b k < 340282366920938463463374607431768211456 := by
  unfold mulAcc
  have h := Nat.div_le_self b (2 ^ (64 - k))
  exact Nat.mul_lt_mul'' ha (Nat.lt_of_le_of_lt h hb)

theorem sHi_num (n m : Nat) (h : n + m < 340282366920938463463374607431768211456) : sHi (n / 18446744073709551616) (n % 18446744073709551616) (m / 18446744073709551616) (m % 18446744073709551616) = (n + m) / 18446744073709551616 := by
  unfold sHi; omega
theorem sLo_num (n m : Nat) : sLo (n % 18446744073709551616) (m % 18446744073709551616) = (n + m) % 18446744073709551616 := by
  unfold sLo; omega

/-- The words of a number. -/
def wHi (n : Nat) : Nat := n / 18446744073709551616
def wLo (n : Nat) : Nat := n % 18446744073709551616
theorem wHi_lt {n : Nat} (h : n < 340282366920938463463374607431768211456) : wHi n < 18446744073709551616 := by unfold wHi; omega
theorem wLo_lt (n : Nat) : wLo n < 18446744073709551616 := by unfold wLo; omega

/-- A variable of two words. -/
def TwoCells (wr : World) (b : Nat) (x y : Int) : Prop :=
  (wr.cell? ⟨b, 0, none⟩ = some (.int .u64 x) ∧ wr.cell? ⟨b, 1, none⟩ = some (.int .u64 y)) ∧ wr.frozen? ⟨b, 0, none⟩ = false ∧ wr.frozen? ⟨b, 1, none⟩ = false

theorem refAdd_num (n m : Nat) (h : n + m < 340282366920938463463374607431768211456) (w : World) :
    Calls Try.prog 48 #[.agg #[.int .u64 (wHi n), .int .u64 (wLo n)], .agg #[.int .u64 (wHi m), .int .u64 (wLo m)]] w fun e w' =>
      e = .returned (.tuple #[.agg #[.int .u64 (wHi (n + m)), .int .u64 (wLo (n + m))], .bool false]) ∧ Below w.heap.size w w' := by
  have h0 := refAdd_any (wHi n) (wLo n) (wHi m) (wLo m) (wHi_lt (by omega)) (wLo_lt _) (wHi_lt (by omega)) (wLo_lt _) w
  have e1 : sHi (wHi n) (wLo n) (wHi m) (wLo m) = wHi (n + m) := sHi_num n m h
  have e2 : sLo (wLo n) (wLo m) = wLo (n + m) := sLo_num n m
  have e3 : sOv (wHi n) (wLo n) (wHi m) (wLo m) = false := by unfold sOv wHi wLo; simp; omega
  rw [e1, e2, e3] at h0
  exact h0
theorem refAdd_one (n a : Nat) (ha : a < 18446744073709551616) (h : n + a < 340282366920938463463374607431768211456) (w : World) :
    Calls Try.prog 48 #[.agg #[.int .u64 (wHi n), .int .u64 (wLo n)], .agg #[.int .u64 0, .int .u64 a]] w fun e w' =>
      e = .returned (.tuple #[.agg #[.int .u64 (wHi (n + a)), .int .u64 (wLo (n + a))], .bool false]) ∧ Below w.heap.size w w' := by
  have h0 := refAdd_num n a h w
  have e1 : wHi a = 0 := by unfold wHi; omega
  have e2 : wLo a = a := by unfold wLo; omega
  rw [e1, e2] at h0
  exact h0

theorem TwoCells.keep {w w1 : World} {b : Nat} {x y : Int} (h : TwoCells w b x y) (hb : Below w.heap.size w w1) (hz : b < w.heap.size) : TwoCells w1 b x y := by
  obtain ⟨hc, hf⟩ := bcell hb
  obtain ⟨⟨c0, c1⟩, f0, f1⟩ := h
  exact ⟨⟨(hc b 0 hz).trans c0, (hc b 1 hz).trans c1⟩, (hf b 0 hz).trans f0, (hf b 1 hz).trans f1⟩

theorem TwoCells.set {w : World} {b : Nat} {x y : Int} (h : TwoCells w b x y) (x' y' : Int) : TwoCells ((w.setCell ⟨b, 0, none⟩ (.int .u64 x')).setCell ⟨b, 1, none⟩ (.int .u64 y')) b x' y' := by
  obtain ⟨⟨c0, c1⟩, f0, f1⟩ := h
  unfold TwoCells
  simp [go_sem, c0, c1, f0, f1]
theorem TwoCells.set1 {w : World} {b : Nat} {x y : Int} (h : TwoCells w b x y) (y' : Int) : TwoCells (w.setCell ⟨b, 1, none⟩ (.int .u64 y')) b x y' := by
  obtain ⟨⟨c0, c1⟩, f0, f1⟩ := h
  unfold TwoCells
  simp [go_sem, c0, c1, f0, f1]
theorem TwoCells.other {w : World} {b d o : Nat} {x y : Int} {v : Value} (h : TwoCells w b x y) (hne : d ≠ b) : TwoCells (w.setCell ⟨d, o, none⟩ v) b x y := by
  have e : (w.setCell ⟨d, o, none⟩ v).heap[b]? = w.heap[b]? := Below.heap_setCell w ⟨d, o, none⟩ v b (fun h => hne h.symm)
  obtain ⟨⟨c0, c1⟩, f0, f1⟩ := h
  exact ⟨⟨(World.cell?_of_block (w := w) e).trans c0, (World.cell?_of_block (w := w) e).trans c1⟩, (World.frozen?_of_block (w := w) e).trans f0, (World.frozen?_of_block (w := w) e).trans f1⟩
theorem TwoCells.alloc {w : World} {b : Nat} {x y : Int} {o : Obj} (h : TwoCells w b x y) (hz : b < w.heap.size) : TwoCells (w.alloc o) b x y :=
  h.keep ((Below.refl _ _).alloc (Nat.le_refl _) _) hz

theorem bit_value (b k : Nat) (hb : b < 18446744073709551616) : bits .and .u64 ((b : Int) / 2 ^ (63 - k)) 1 = (mulBit b k : Int) := by
  have e : ((b : Int) / 2 ^ (63 - k)) = ((b / 2 ^ (63 - k) : Nat) : Int) := by simp
  have h := Nat.div_le_self b (2 ^ (63 - k))
  rw [e]
  refine (bits_and_u64_nat (b / 2 ^ (63 - k)) 1 (by omega) (by omega)).trans ?_
  rw [Nat.and_one_is_mod]
  rfl

set_option maxHeartbeats 1000000 in
theorem refMul_any (a b : Nat) (ha : a < 18446744073709551616) (hb : b < 18446744073709551616) (w : World) :
    Calls Try.prog 42 #[.int .u64 a, .int .u64 b] w fun e w' => e = .returned (.agg #[.int .u64 (hiN a b), .int .u64 (loN a b)]) ∧ Below w.heap.size w w' := by
  go_enter Try.func42, Try.ntmps42
  go_wp2
  go_loopw [6] (fun i wr => ∃ k : Nat, k ≤ 64 ∧ i = .int .i64 (63 - (k : Int)) ∧ TwoCells wr w.heap.size 0 0 ∧ TwoCells wr (w.heap.size + 1) (wHi (mulAcc a b k)) (wLo (mulAcc a b k)) ∧ Below w.heap.size w wr ∧ w.heap.size + 2 ≤ wr.heap.size)
    (fun i _ => (intOf i + 1).toNat)
  case atStart =>
    refine ⟨0, by omega, by simp, ?_, ?_, ?_, ?_⟩
    · unfold TwoCells
      simp [go_sem]
    · rw [mulAcc_zero a b hb]
      unfold TwoCells
      simp [go_sem, wHi, wLo]
    · repeat (first | exact Below.refl _ _ | (refine Below.alloc ?_ (by first | omega | (simp; done) | (simp; omega)) _))
    · simp
  case round =>
    obtain ⟨k, hk, rfl, t0, t1, hB, hz⟩ := hrel
    obtain ⟨⟨c0, c1⟩, f0, f1⟩ := id t0
    obtain ⟨⟨c2, c3⟩, f2, f3⟩ := id t1
    by_cases hlt : k < 64
    · have hs := mulAcc_succ a b k hlt
      have hl := mulAcc_lt a b (k + 1) ha hb
      have hbit : mulBit b k = 0 ∨ mulBit b k = 1 := by unfold mulBit; omega
      have Hs := Lib.hid hs
      clear hs
      have h2 : mulAcc a b k + mulAcc a b k < 340282366920938463463374607431768211456 := by have := Hs.out; omega
      go_wp2_with fail
      refine (refAdd_num _ _ h2 _).mono ?_
      rintro e w1 ⟨rfl, hb1⟩
      have hz1 := hb1.size
      have t2 := t0.keep hb1 (by omega)
      have t3 := t1.keep hb1 (by omega)
      obtain ⟨⟨c4, c5⟩, f4, f5⟩ := id t2
      obtain ⟨⟨c6, c7⟩, f6, f7⟩ := id t3
      have hv := bit_value b k hb
      rcases hbit with h0 | h1
      · rw [h0] at hv
        simp at hv
        go_wp2_with fail
        go_roundw
        case rel =>
          refine ⟨k + 1, by omega, by congr 1; omega, (t2.other (by omega)).other (by omega), ?_, ?_, ?_⟩
          · rw [Hs.out, h0, Nat.zero_mul, Nat.add_zero]
            exact t3.set _ _
          · repeat (first | exact Below.refl _ _ | (refine Below.setCell ?_ (by first | omega | (simp; done) | (simp; omega)) _) | (refine below_drewN ?_ _) | (refine Below.alloc ?_ (by first | omega | (simp; done) | (simp; omega)) _) | exact hB | (refine Below.trans ?_ (Below.mono (by assumption) (by first | omega | (simp; done) | (simp; omega)))))
          · simp [World.setCell]; omega
        case measure => simp [intOf]; omega
      · rw [h1] at hv
        simp at hv
        have h3 : mulAcc a b k + mulAcc a b k + a < 340282366920938463463374607431768211456 := by
          have := Hs.out
          rw [h1] at this
          omega
        have h4 : mulAcc a b (k + 1) = mulAcc a b k + mulAcc a b k + a := by rw [Hs.out, h1]; omega
        have H4 := Lib.hid h4
        clear h4
        go_wp2_with fail
        refine (refAdd_one _ _ ha h3 _).mono ?_
        rintro e w2 ⟨rfl, hb2⟩
        have hz2 := hb2.size
        simp [World.setCell] at hz2
        have t4 := ((t2.other (d := w.heap.size + 1) (by omega)).other (d := w.heap.size + 1) (by omega)).keep hb2 (by simp [World.setCell]; omega)
        have t5 := (t3.set _ _).keep hb2 (by simp [World.setCell]; omega)
        obtain ⟨⟨c8, c9⟩, f8, f9⟩ := id t4
        obtain ⟨⟨c10, c11⟩, f10, f11⟩ := id t5
        go_wp2_with fail
        go_roundw
        case rel =>
          refine ⟨k + 1, by omega, by congr 1; omega, (t4.other (by omega)).other (by omega), ?_, ?_, ?_⟩
          · rw [H4.out]
            exact t5.set _ _
          · repeat (first | exact Below.refl _ _ | (refine Below.setCell ?_ (by first | omega | (simp; done) | (simp; omega)) _) | (refine below_drewN ?_ _) | (refine Below.alloc ?_ (by first | omega | (simp; done) | (simp; omega)) _) | exact hB | (refine Below.trans ?_ (Below.mono (by assumption) (by first | omega | (simp; done) | (simp; omega)))))
          · simp [World.setCell]; omega
        case measure => simp [intOf]; omega
    · have hge : 64 ≤ k := by omega
      go_wp2_with fail
      have e64 : k = 64 := by omega
      simp [bodyPost, results, Try.results42, go_sem, c0, c1]
      refine ⟨⟨?_, ?_⟩, by repeat (first | exact hB | (refine Below.setCell ?_ (by first | omega | (simp; done) | (simp; omega)) _))⟩
      · rw [e64, mulAcc_end]; rfl
      · rw [e64, mulAcc_end]; rfl
end Go.Proofs.Ytjjidbnjkhdkaaa
