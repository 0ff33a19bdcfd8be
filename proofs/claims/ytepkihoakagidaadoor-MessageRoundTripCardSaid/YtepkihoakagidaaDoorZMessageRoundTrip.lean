/- For every input the law MessageRoundTrip returns true, and each argument reads afterwards as it read before: the row and its card, the library's variables tied to the program's text. Condition: the listed variables hold, when the call begins, what the program's text lays in them. -/
import Derived.Test.YtepkihoakagidaaDoorCards
import Derived.Test.YtepkihoakagidaaDoorTie
import Derived.Test.YtepkihoakagidaaDoorG1
import Derived.Test.YtepkihoakagidaaDoorG3
import Derived.Test.YtepkihoakagidaaDoorG5
namespace Go.Proofs.YtepkihoakagidaaDoor
open Go.ChangeShapes Go.WideShapes Go.ChangeAt Go.RowKit Go.ChangeMaps

theorem messageRoundTrip_laidOut : laidOutB Tryd.prog = true := by kernel_rfl
theorem messageRoundTrip_listed (W : World) : laidMetH Tryd.prog Rows.messageRoundTripRow.laid W = laidMet Tryd.prog Rows.messageRoundTripRow.laid W := MakeChecks.laidMetH_plain _ _ _ (by kernel_rfl)
set_option maxRecDepth 100000 in
theorem messageRoundTrip_lifted (os : Os) (started : os.Started) (H : Type) (enc : TypeId × Value → H) :
    ReturnsInHanded {} Tryd.checked os 6 .any (fun w args => (Rows.messageRoundTripSpec.pre enc Tryd.prog Tryd.f6 Rows.messageRoundTripRow.domain false w args ∧ laidMetH Tryd.prog Rows.messageRoundTripRow.laid w) ∧ sizedMet enc Tryd.prog Tryd.f6 (OpenSpec.ofChange Rows.messageRoundTripSpec) false w args)
      (Rows.messageRoundTripSpec.post enc Tryd.prog Tryd.f6 false true false false) := by
  refine returnsInHanded_of_vars (C := Tryd.checked) own started (by kernel_rfl) Tryd.func6
    (ChangeSpec.witness_shaped (enc := enc) (C := Tryd.checked) (os := os) (X := fun w _ => laidMetH Tryd.prog Rows.messageRoundTripRow.laid w) false (World.laidAll Tryd.prog os Rows.messageRoundTripRow.laid) #[.slice none 0 0] 8 (World.laidAll_os _ _ _) (World.shaped_of_ZipB (by kernel_rfl) (by kernel_rfl)) (by kernel_rfl) (by kernel_rfl) (by kernel_rfl)
      (by rw [messageRoundTrip_listed]; exact laidMet_laidAll _ (by kernel_rfl) (by kernel_rfl))) ?_
  intro W base args ds gs before hval0 hW hM shape
  have hL : MErr W := merr_of (by rw [← messageRoundTrip_listed]; exact hM) (by repeat (first | exact List.Mem.head _ | apply List.Mem.tail)) (by repeat (first | exact List.Mem.head _ | apply List.Mem.tail)) (by repeat (first | exact List.Mem.head _ | apply List.Mem.tail))
  have hval : ∀ (j : Nat) t v, Tryd.f6.params[j]? = some t → args[j]? = some v → Value.okWide Tryd.prog W .any base t v := hval0
  have hW' := hW
  obtain ⟨p, q, hA0, hV, rfl, _, _⟩ := hW
  have hA : DataW.TrodAll enc Tryd.prog W 0 (fun _ => true) true Tryd.f6.params.toList args.toList ds p := hA0
  rw [Tryd.params6] at hA hval
  obtain ⟨v0, vs0, d0, ds0, p0, q0, hargs, rfl, rfl, h0, r0⟩ := trodAll_cons hA
  obtain ⟨rfl, rfl, rfl⟩ := trodAll_nil r0
  obtain rfl : args = #[v0] := by cases args; simp_all
  suffices hwalk : Calls Tryd.prog 6 #[v0] W fun e W' => e = .returned (.bool true) ∧ Below W.heap.size W W' from
    hwalk.mono fun e W' ⟨he, hg⟩ => ⟨_, he, post_of_law hW' messageRoundTrip_laidOut (by kernel_rfl) rfl (fun l e => by subst e; rfl) (by kernel_rfl) Tryd.underlying4 hg⟩
  clear hW' hA0 hval0 hV hM shape
  obtain ⟨n0, f0, w0⟩ := open_list Tryd.underlying22 Tryd.underlying3 (by kernel_rfl) (hval 0 22 v0 rfl rfl) h0
  exact messageRoundTrip_walk v0 n0 f0 W hL w0
theorem messageRoundTrip_holds : Rows.MessageRoundTripSaid :=
  OpenClaim.holds_of_wide 6 Tryd.f6 rfl rfl rfl rfl rfl rfl rfl ⟨rfl, rfl, rfl, rfl, rfl⟩ rfl rfl rfl rfl rfl (by kernel_rfl) Tryd.func6 (by kernel_rfl)
    (of_decide_eq_true (by kernel_rfl)) (by unfold Func.isWrapper; first | (rw [if_pos (by decide +kernel)]; kernel_rfl) | (rw [if_neg (by decide +kernel)]; exact ⟨rfl, rfl⟩))
    (fun os started H enc _ => messageRoundTrip_lifted os started H enc)
theorem messageRoundTrip_card : Rows.MessageRoundTripCardSaid :=
  Claim7.holds_tied_plain_at .later [] Rows.messageRoundTripCard.laidKinds true Rows.messageRoundTripCard.stood.harness Rows.messageRoundTripCard.stood.looks messageRoundTrip_holds (fun _ h => by cases h) (by kernel_rfl) (fun _ h => by cases h) messageRoundTrip_row_tie rfl ⟨rfl, rfl⟩ (by kernel_rfl) rfl
    (fun f fn hf hfn => by
      obtain rfl : f = 6 := Option.some.inj ((show Tryd.prog.funcNamed "customs/customslaw07.MessageRoundTrip" = some 6 by kernel_rfl).symm.trans hf) |>.symm
      obtain rfl : fn = Tryd.f6 := (Option.some.inj (Tryd.func6.symm.trans hfn)).symm
      exact ⟨by kernel_rfl, fun j t ht => by
        rw [Tryd.params6] at ht
        have hm : t ∈ [22] := by simpa using Array.mem_of_getElem? ht
        have hall : ([22].all fun u => !Tryd.prog.wantsStandIn u) = true := by kernel_rfl
        exact (show Tryd.prog.wantsStandIn t = false by simpa using List.all_eq_true.1 hall t hm)⟩)
    (by kernel_rfl)
#print axioms messageRoundTrip_card
end Go.Proofs.YtepkihoakagidaaDoor
