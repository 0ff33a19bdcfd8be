/- A variable of two words that a call keeps, through later calls and new variables. No condition. -/
import Derived.Test.YtmoagnlkpkgflaaRefMul
namespace Go.Proofs.Ytmoagnlkpkgflaa
open Go.RowKit

/-- Block b is there and holds the words x and y. -/
def Has (w : World) (b : Nat) (x y : Int) : Prop := TwoCells w b x y ∧ b < w.heap.size
theorem Has.keep {w w1 : World} {b : Nat} {x y : Int} (h : Has w b x y) (hb : Below w.heap.size w w1) : Has w1 b x y :=
  ⟨h.1.keep hb h.2, Nat.lt_of_lt_of_le h.2 hb.size⟩
theorem Has.alloc {w : World} {b : Nat} {x y : Int} (h : Has w b x y) (o : Obj) : Has (w.alloc o) b x y :=
  h.keep ((Below.refl _ _).alloc (Nat.le_refl _) _)
theorem Has.drew {w : World} {b : Nat} {x y : Int} (h : Has w b x y) : Has w.drew b x y := h
theorem Has.drewN {w : World} {b : Nat} {x y : Int} (h : Has w b x y) (n : Nat) : Has (w.drewN n) b x y := h
theorem Has.made (w : World) (x y : Int) (t : TypeId) : Has (w.alloc (.cells #[.int .u64 x, .int .u64 y] t)) w.heap.size x y := by
  refine ⟨?_, by simp⟩
  unfold TwoCells
  simp [go_sem]

theorem cmp_self (a : Nat) : cmpN a a = 0 := by simp [cmpN]
theorem cmpW_ordW (ah al bh bl : Nat) : cmpW ah al bh bl = ordW ah al bh bl := by
  unfold cmpW ordW lessW cmpN
  by_cases h : ah = bh
  · subst h
    by_cases h1 : al < bl
    · simp [h1]
    · by_cases h2 : bl < al
      · simp [h1, h2]
      · simp [h1, h2]
  · have h' : ¬ bh = ah := fun e => h e.symm
    by_cases h1 : ah < bh
    · simp [h, h1]
    · have h2 : bh < ah := by omega
      simp [h, h1, h2]
theorem cmpN_lt {a b : Nat} (h : a < b) : cmpN a b = -1 := if_pos h
theorem cmpN_gt {a b : Nat} (h : b < a) : cmpN a b = 1 := (if_neg (by omega)).trans (if_pos h)
theorem cmpN_eq {a b : Nat} (h : a = b) : cmpN a b = 0 := (if_neg (by omega)).trans (if_neg (by omega))
/-- The order of two numbers of two words is that of the numbers. -/
theorem cmpW_num (ah al bh bl : Nat) (h2 : al < 18446744073709551616) (h4 : bl < 18446744073709551616) :
    cmpW ah al bh bl = cmpN (ah * 18446744073709551616 + al) (bh * 18446744073709551616 + bl) := by
  unfold cmpW
  by_cases h : ah = bh
  · rw [if_pos h]
    rcases Nat.lt_trichotomy al bl with h1 | h1 | h1
    · rw [cmpN_lt h1, cmpN_lt (by omega)]
    · rw [cmpN_eq h1, cmpN_eq (by omega)]
    · rw [cmpN_gt h1, cmpN_gt (by omega)]
  · rw [if_neg h]
    rcases Nat.lt_or_ge ah bh with h1 | h1
    · rw [cmpN_lt h1, cmpN_lt (by omega)]
    · rw [cmpN_gt (by omega), cmpN_gt (by omega)]
theorem cmpN_nonneg {a b : Nat} (h : b ≤ a) : 0 ≤ cmpN a b := by
  unfold cmpN
  rw [if_neg (by omega)]
  split <;> omega

/-- Of a region that draws its order: what its loads read stays, behind a draw and behind a call. -/
theorem keeps_drew {w w1 : World} {b n : Nat} {x y : Int} (h : (w1.cell? ⟨b, 0, none⟩ = some (.int .u64 x) ∧ w1.cell? ⟨b, 1, none⟩ = some (.int .u64 y) ∧ Below n w w1 ∧ b < w1.heap.size)) :
    w1.drew.cell? ⟨b, 0, none⟩ = some (.int .u64 x) ∧ w1.drew.cell? ⟨b, 1, none⟩ = some (.int .u64 y) ∧ Below n w w1.drew ∧ b < w1.drew.heap.size :=
  ⟨h.1, h.2.1, h.2.2.1.drew, h.2.2.2⟩
theorem keeps_call {w w1 w2 : World} {b : Nat} {x y : Int} (hb : Below w1.heap.size w1 w2) (h : (w1.cell? ⟨b, 0, none⟩ = some (.int .u64 x) ∧ w1.cell? ⟨b, 1, none⟩ = some (.int .u64 y) ∧ Below w.heap.size w w1 ∧ b < w1.heap.size)) :
    w2.cell? ⟨b, 0, none⟩ = some (.int .u64 x) ∧ w2.cell? ⟨b, 1, none⟩ = some (.int .u64 y) ∧ Below w.heap.size w w2 ∧ b < w2.heap.size := by
  obtain ⟨c0, c1, hB, hz⟩ := h
  obtain ⟨hc, _⟩ := bcell hb
  exact ⟨(hc b 0 hz).trans c0, (hc b 1 hz).trans c1, hB.trans (hb.mono hB.size), Nat.lt_of_lt_of_le hz hb.size⟩
end Go.Proofs.Ytmoagnlkpkgflaa
