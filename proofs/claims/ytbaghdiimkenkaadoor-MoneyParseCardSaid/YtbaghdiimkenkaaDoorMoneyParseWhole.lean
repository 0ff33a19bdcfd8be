/- The law MoneyParse, walked: it returns true at every input. Condition: the library's variables hold what they were given. -/
import Derived.Test.YtbaghdiimkenkaaDoorMoneyParseGood
import Derived.Test.YtbaghdiimkenkaaDoorMoneyParseBad
namespace Go.Proofs.YtbaghdiimkenkaaDoor
open Go.RowKit

theorem moneyParse_walk (s : ByteArray) (n at_ : Int) (by_ : Nat) (hby : by_ < 256) (w : World) (hL : Libs w) :
    Calls Tryd.prog 8 #[.string s, .int .i64 n, .int .i64 at_, .int .u8 by_] w fun e w' => e = .returned (.bool true) ∧ Below w.heap.size w w' := by
  have ha : amtB (amtOf n) = true := (amtB_iff _).2 (amtOf_bounds n)
  have hpos : 1 ≤ (fmt (amtOf n)).length := List.length_pos_iff.2 (fmt_ne ha)
  obtain ⟨i, hi, hix, t1, t2⟩ := ix_of at_ _ hpos
  obtain ⟨t, ht, hst⟩ : ∃ t : ByteArray, t.size ≤ 100 ∧ (s.size ≤ 100 ∧ t = s ∨ 100 < s.size ∧ t = s.extract 0 100) := by
    by_cases h : s.size ≤ 100
    · exact ⟨s, h, Or.inl ⟨h, rfl⟩⟩
    · exact ⟨s.extract 0 100, by rw [ByteArray.size_extract]; omega, Or.inr ⟨by omega, rfl⟩⟩
  by_cases h0 : psE ((fmt (amtOf n)).set i (UInt8.ofNat by_)) = 0
  · exact moneyParse_good s t ht hst n at_ by_ hby w hL i hi hix t1 t2 h0
  · exact moneyParse_bad s t ht hst n at_ by_ hby w hL i hi hix t1 t2 h0
end Go.Proofs.YtbaghdiimkenkaaDoor
