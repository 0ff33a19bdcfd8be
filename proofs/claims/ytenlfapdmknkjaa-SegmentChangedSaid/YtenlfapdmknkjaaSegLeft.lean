/- The made inputs' source of numbers: what Left returns. Condition: the source lies in a block of the call's own, its list in older ones. -/
import Derived.Test.YtenlfapdmknkjaaSegSrc
namespace Go.Proofs.Ytenlfapdmknkjaa
open Go.RowKit

set_option maxHeartbeats 800000 in
theorem left_any (SB : Nat) (W0 w : World) (h : SourceAt W0 w SB) :
    Calls Try.prog 25 #[.pointer (some ⟨SB, 0, none⟩)] w fun e w1 => ∃ b : Bool, e = .returned (.bool b) ∧ ∃ k, w1 = w.drewN k := by
  obtain ⟨s1, s2, v, m, f, k, a1, a2, a3, a4, a5, a6⟩ := h
  obtain ⟨a, cap, rfl⟩ : ∃ a cap, v = .slice a m cap := by
    rcases a1 with ⟨h, h0⟩ | ⟨a, cap, h, _⟩
    · exact ⟨none, 0, by rw [h, h0]⟩
    · exact ⟨some a, cap, h⟩
  clear a1
  go_enter Try.func25, Try.ntmps25
  go_wp2_with fail
  go_quiet (fail)
  go_wp2_with fail
  go_ret
  exact ⟨_, rfl, _, rfl⟩
end Go.Proofs.Ytenlfapdmknkjaa
