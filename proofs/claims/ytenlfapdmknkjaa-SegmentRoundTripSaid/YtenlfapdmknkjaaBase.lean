/- Plain facts on two-word numbers, and small helpers for the walks of the package exact and of its reference. No condition. -/
import Derived.Test.YtenlfapdmknkjaaRows
import Derived.WalkKit
import Derived.WalkSpells
import Derived.WalkLawsBesides
import Derived.Lib.Hide
namespace Go.Proofs.Ytenlfapdmknkjaa
open Go.RowKit

theorem bcell {W w1 : World} (hb : Below W.heap.size W w1) : (∀ b o, b < W.heap.size → w1.cell? ⟨b, o, none⟩ = W.cell? ⟨b, o, none⟩) ∧ (∀ b o, b < W.heap.size → w1.frozen? ⟨b, o, none⟩ = W.frozen? ⟨b, o, none⟩) :=
  ⟨fun b o h => hb.cell (p := ⟨b, o, none⟩) h, fun b o h => hb.frozen (p := ⟨b, o, none⟩) h⟩
theorem below_drewN {B : Nat} {a w : World} (h : Below B a w) (n : Nat) : Below B a (w.drewN n) := ⟨h.os, h.tape, h.output, h.size, h.block⟩

theorem int_eq {k : IntKind} {a b : Int} (h : a = b) : Value.int k a = Value.int k b := by rw [h]
/-- The words of a sum of two-word numbers, and whether it is too great. -/
def sLo (al bl : Nat) : Nat := (al + bl) % 18446744073709551616
def sHi (ah al bh bl : Nat) : Nat := (ah + bh + (al + bl) / 18446744073709551616) % 18446744073709551616
def sOv (ah al bh bl : Nat) : Bool := decide (18446744073709551616 ≤ ah + bh + (al + bl) / 18446744073709551616)
/-- The words of a product. -/
def hiN (a b : Nat) : Nat := a * b / 18446744073709551616
def loN (a b : Nat) : Nat := a * b % 18446744073709551616

theorem hiN_lt {a b : Nat} (ha : a < 18446744073709551616) (hb : b < 18446744073709551616) : hiN a b < 18446744073709551616 := by
  unfold hiN
  exact Nat.div_lt_of_lt_mul (Nat.mul_lt_mul'' ha hb)
theorem loN_lt (a b : Nat) : loN a b < 18446744073709551616 := by unfold loN; omega
theorem hilo (a b : Nat) : hiN a b * 18446744073709551616 + loN a b = a * b := by unfold hiN loN; omega
end Go.Proofs.Ytenlfapdmknkjaa
