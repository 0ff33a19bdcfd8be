/- What the library's Itoa, Atoi and Replace return to the program's calls, wherever the library's variables hold what they were given. Condition of Replace: a short text. -/
import Derived.Test.YtbaghdiimkenkaaDoorLibs
import Derived.Test.YtbaghdiimkenkaaDoorShelfText
import Derived.Lib.ConvBytes
import Derived.Lib.ItoaMem
namespace Go.Proofs.YtbaghdiimkenkaaDoor
open Go.RowKit

theorem below_grow (w : World) (k : Nat) (os : Array Obj) : Below w.heap.size w (Sort.grow (w.drewN k) os) := by
  refine ⟨rfl, rfl, rfl, ?_, fun i hi => ?_⟩
  · show w.heap.size ≤ (w.heap ++ os).size
    simp
  · show (w.heap ++ os)[i]? = _
    rw [Array.getElem?_append_left hi]

theorem itoa_any (n : Nat) (hn : n ≤ 9223372036854775807) (w : World) (hL : Libs w) :
    Calls Tryd.prog 26 #[.int .i64 n] w fun e w' => e = .returned (.string ⟨(Lib.decDigits n).toArray⟩) ∧ Below w.heap.size w w' := by
  have h := Tryd.strconv_Itoa (n : Int) (by omega) (by omega) w hL.pow10
  rw [Lib.itoa_nonneg] at h
  refine h.mono ?_
  rintro e w1 ⟨rfl, k, os, rfl⟩
  exact ⟨rfl, below_grow _ _ _⟩

/-- What is replaced: the first of the text old by new, in a short text. -/
theorem replace_any (s old new : List UInt8) (hs : s.length ≤ 1000000) (ho : 1 ≤ old.length) (hn : new.length ≤ 1000) (n : Int) (w : World) (hL : Libs w) :
    Calls Tryd.prog 29 #[.string ⟨s.toArray⟩, .string ⟨old.toArray⟩, .string ⟨new.toArray⟩, .int .i64 n] w fun e w' =>
      e = .returned (.string ⟨(Lib.replace s old new n).toArray⟩) ∧ Below w.heap.size w w' := by
  obtain ⟨m, hm⟩ := hL.maxLen
  have e1 : (⟨s.toArray⟩ : ByteArray).size = s.length := by show s.toArray.size = _; simp
  have e2 : (⟨old.toArray⟩ : ByteArray).size = old.length := by show old.toArray.size = _; simp
  have e3 : (⟨new.toArray⟩ : ByteArray).size = new.length := by show new.toArray.size = _; simp
  have hc := Lib.countB_mul_le ⟨old.toArray⟩ (by omega) _ ⟨s.toArray⟩ (Nat.le_refl _)
  have hc2 : Lib.countB ⟨s.toArray⟩ ⟨old.toArray⟩ ≤ 1000000 := by
    have := Nat.le_mul_of_pos_right (Lib.countB ⟨s.toArray⟩ ⟨old.toArray⟩) (show 0 < (⟨old.toArray⟩ : ByteArray).size by omega)
    omega
  have hc3 : Lib.countB ⟨s.toArray⟩ ⟨old.toArray⟩ * (⟨new.toArray⟩ : ByteArray).size ≤ 1000000 * 1000 := Nat.mul_le_mul hc2 (by omega)
  exact Tryd.strings_Replace ⟨s.toArray⟩ ⟨old.toArray⟩ ⟨new.toArray⟩ n m w (by omega) hm (by omega) (by omega)

/-- A text that is no number that an int holds: some number and an error that is not nil. -/
theorem atoi_ok (l : List UInt8) (hl : l.length ≤ 1000000) (v : Int) (h : Lib.atoiAll l = .ok v) (w : World) :
    Calls Tryd.prog 28 #[.string ⟨l.toArray⟩] w fun e w' => e = .returned (.tuple #[.int .i64 v, .nilIface]) ∧ Below w.heap.size w w' := by
  have e1 : (⟨l.toArray⟩ : ByteArray).size = l.length := by show l.toArray.size = _; simp
  refine (Tryd.strconv_Atoi_ok ⟨l.toArray⟩ (by omega) v h w).mono ?_
  rintro e w1 ⟨rfl, rfl | ⟨t, rfl⟩⟩
  · exact ⟨rfl, Below.refl _ _⟩
  · exact ⟨rfl, Lib.bytesWorld_below _ _ _⟩
theorem atoi_no (l : List UInt8) (hl : l.length ≤ 1000000) (h : ∀ v, Lib.atoiAll l ≠ .ok v) (w : World) (hL : Libs w) :
    Calls Tryd.prog 28 #[.string ⟨l.toArray⟩] w fun e w' => ∃ (v : Int) (N : Nat), e = .returned (.tuple #[.int .i64 v, .iface 83 (.pointer (some ⟨N, 0, none⟩))]) ∧ Below w.heap.size w w' := by
  have e1 : (⟨l.toArray⟩ : ByteArray).size = l.length := by show l.toArray.size = _; simp
  rcases hc : Lib.atoiAll l with v | _ | _
  · exact absurd hc (h v)
  · obtain ⟨tp, p, hv⟩ := hL.eSyntax
    refine (Any.strconv_Atoi_syntax_var Tryd.laysC172 ⟨l.toArray⟩ (by omega) hc tp p w hv).mono ?_
    rintro e w1 ⟨N, rfl, _, _, hb⟩
    exact ⟨_, N, rfl, hb⟩
  · obtain ⟨tp, p, hv⟩ := hL.eRange
    refine (Tryd.strconv_Atoi_range_var ⟨l.toArray⟩ (by omega) hc tp p w hv).mono ?_
    rintro e w1 ⟨N, rfl, _, _, hb⟩
    exact ⟨_, N, rfl, hb⟩
end Go.Proofs.YtbaghdiimkenkaaDoor
