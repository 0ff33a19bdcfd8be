/- For every input the law SegmentDecode returns true, and each argument reads afterwards as it read before. No condition. -/
import Derived.Test.YtenlfapdmknkjaaSegOpen
import Derived.Test.YtenlfapdmknkjaaLawRow
import Derived.Test.YtenlfapdmknkjaaSegDecodeWalk
namespace Go.Proofs.Ytenlfapdmknkjaa
open Go.ChangeShapes Go.WideShapes Go.ChangeAt Go.RowKit Go.ChangeMaps

theorem segmentDecode_laidOut : laidOutB Try.prog = true := by kernel_rfl
set_option maxRecDepth 100000 in
theorem segmentDecode_lifted (os : Os) (started : os.Started) (H : Type) (enc : TypeId × Value → H) :
    ReturnsInHanded {} Try.checked os 6 .any (Rows.segmentDecodeSpec.pre6 enc Try.prog Try.f6 Rows.segmentDecodeRow.domain false) (Rows.segmentDecodeSpec.post enc Try.prog Try.f6 false true false false) := by
  refine returnsInHanded_of_change (C := Try.checked) own started (by kernel_rfl) Try.func6
    (ChangeSpec.witness6 (enc := enc) (C := Try.checked) false ⟨#[], #[.slice none 0 0], []⟩ 8 (by kernel_rfl) (by kernel_rfl) (by kernel_rfl) (by kernel_rfl)) ?_
  intro W base args ds gs before hval0 hW _ _
  have hval : ∀ (j : Nat) t v, Try.f6.params[j]? = some t → args[j]? = some v → Value.okWide Try.prog W .any base t v := hval0
  have hW' := hW
  obtain ⟨p, q, hA0, hV, rfl, _, _⟩ := hW
  have hA : DataW.TrodAll enc Try.prog W 0 (fun _ => true) true Try.f6.params.toList args.toList ds p := hA0
  rw [Try.params6] at hA hval
  obtain ⟨v0, vs0, d0, ds0, p0, q0, hargs, rfl, rfl, h0, r0⟩ := trodAll_cons hA
  obtain ⟨rfl, rfl, rfl⟩ := trodAll_nil r0
  obtain rfl : args = #[v0] := by cases args; simp_all
  suffices hwalk : Calls Try.prog 6 #[v0] W fun e W' => e = .returned (.bool true) ∧ Below W.heap.size W W' from
    hwalk.mono fun e W' ⟨he, hg⟩ => ⟨_, he, post_of_law hW' segmentDecode_laidOut (by kernel_rfl) rfl (fun l e => by subst e; rfl) (by kernel_rfl) Try.underlying4 hg⟩
  clear hW' hA0 hval0 hV
  obtain ⟨n0, f0, u0⟩ := open_list Try.underlying32 Try.underlying5 (by kernel_rfl) (hval 0 32 v0 rfl rfl) h0
  obtain ⟨b0, w0⟩ := bytes_of_list u0
  exact segmentDecode_walk (w := W) v0 b0 w0
theorem segmentDecode_holds : Rows.SegmentDecodeSaid :=
  OpenClaim.holds_of_wide 6 Try.f6 rfl rfl rfl rfl rfl rfl rfl ⟨rfl, rfl, rfl, rfl, rfl⟩ rfl rfl rfl rfl rfl (by kernel_rfl) Try.func6 (by kernel_rfl)
    (of_decide_eq_true (by kernel_rfl)) (by unfold Func.isWrapper; first | (rw [if_pos (by decide +kernel)]; kernel_rfl) | (rw [if_neg (by decide +kernel)]; exact ⟨rfl, rfl⟩))
    (fun os started H enc _ => segmentDecode_lifted os started H enc)
#print axioms segmentDecode_holds
end Go.Proofs.Ytenlfapdmknkjaa
