/- For every input the law CalendarWorking returns true, and each argument reads afterwards as it read before: the row and its card, the package's table tied to the program's text. Condition: the listed variable holds, when the call begins, what the program's text lays in it. -/
import Derived.Test.YtnegiopbccllcaaDoorCards
import Derived.Test.YtnegiopbccllcaaDoorTie
import Derived.Test.YtnegiopbccllcaaDoorCalRow
import Derived.Test.YtnegiopbccllcaaDoorCalWorkingWalk
namespace Go.Proofs.YtnegiopbccllcaaDoor
open Go.ChangeShapes Go.WideShapes Go.ChangeAt Go.RowKit Go.ChangeMaps

theorem calendarWorking_laidOut : laidOutB Tryd.prog = true := by kernel_rfl
theorem calendarWorking_listed (W : World) : laidMetH Tryd.prog Rows.calendarWorkingRow.laid W = laidMet Tryd.prog Rows.calendarWorkingRow.laid W := MakeChecks.laidMetH_plain _ _ _ (by kernel_rfl)
set_option maxRecDepth 100000 in
theorem calendarWorking_lifted (os : Os) (started : os.Started) (H : Type) (enc : TypeId × Value → H) :
    ReturnsInHanded {} Tryd.checked os 8 .any (fun w args => (Rows.calendarWorkingSpec.pre enc Tryd.prog Tryd.f8 Rows.calendarWorkingRow.domain false w args ∧ laidMetH Tryd.prog Rows.calendarWorkingRow.laid w) ∧ sizedMet enc Tryd.prog Tryd.f8 (OpenSpec.ofChange Rows.calendarWorkingSpec) false w args)
      (Rows.calendarWorkingSpec.post enc Tryd.prog Tryd.f8 false true false false) := by
  refine returnsInHanded_of_vars (C := Tryd.checked) own started (by kernel_rfl) Tryd.func8
    (ChangeSpec.witness_shaped (enc := enc) (C := Tryd.checked) (os := os) (X := fun w _ => laidMetH Tryd.prog Rows.calendarWorkingRow.laid w) false (World.laidAll Tryd.prog os Rows.calendarWorkingRow.laid) #[.slice none 0 0, .int .i64 0, .int .i64 0, .bool false] 8 (World.laidAll_os _ _ _) (World.shaped_of_ZipB (by kernel_rfl) (by kernel_rfl)) (by kernel_rfl) (by kernel_rfl) (by kernel_rfl)
      (by rw [calendarWorking_listed]; exact laidMet_laidAll _ (by kernel_rfl) (by kernel_rfl))) ?_
  intro W base args ds gs before hval0 hW hM shape
  have hT : CalTab W := calTab_of (by rw [← calendarWorking_listed]; exact hM) (by repeat (first | exact List.Mem.head _ | apply List.Mem.tail))
  have hval : ∀ (j : Nat) t v, Tryd.f8.params[j]? = some t → args[j]? = some v → Value.okWide Tryd.prog W .any base t v := hval0
  have hW' := hW
  obtain ⟨p, q, hA0, hV, rfl, _, _⟩ := hW
  have hA : DataW.TrodAll enc Tryd.prog W 0 (fun _ => true) true Tryd.f8.params.toList args.toList ds p := hA0
  rw [Tryd.params8] at hA hval
  obtain ⟨v0, vs0, d0, ds0, p0, q0, hargs, rfl, rfl, h0, r0⟩ := trodAll_cons hA
  obtain ⟨v1, vs1, d1, ds1, p1, q1, rfl, rfl, rfl, h1, r1⟩ := trodAll_cons r0
  obtain ⟨v2, vs2, d2, ds2, p2, q2, rfl, rfl, rfl, h2, r2⟩ := trodAll_cons r1
  obtain ⟨v3, vs3, d3, ds3, p3, q3, rfl, rfl, rfl, h3, r3⟩ := trodAll_cons r2
  obtain ⟨rfl, rfl, rfl⟩ := trodAll_nil r3
  obtain rfl : args = #[v0, v1, v2, v3] := by cases args; simp_all
  suffices hwalk : Calls Tryd.prog 8 #[v0, v1, v2, v3] W fun e W' => e = .returned (.bool true) ∧ Below W.heap.size W W' from
    hwalk.mono fun e W' ⟨he, hg⟩ => ⟨_, he, post_of_law hW' calendarWorking_laidOut (by kernel_rfl) rfl (fun l e => by subst e; rfl) (by kernel_rfl) Tryd.underlying4 hg⟩
  clear hW' hA0 hval0 hV hM shape
  obtain ⟨n0, f0, w0⟩ := open_list Tryd.underlying38 Tryd.underlying3 (by kernel_rfl) (hval 0 38 v0 rfl rfl) h0
  obtain ⟨a1, rfl, _, _, w1⟩ := open_int Tryd.underlying3 (hval 1 3 v1 rfl rfl) h1
  obtain ⟨a2, rfl, _, _, w2⟩ := open_int Tryd.underlying3 (hval 2 3 v2 rfl rfl) h2
  obtain ⟨a3, rfl, _, _⟩ := open_bool Tryd.underlying4 (hval 3 4 v3 rfl rfl) h3
  exact calendarWorking_walk (w := W) (hT := hT) v0 n0 f0 w0 a1 a2 a3
theorem calendarWorking_holds : Rows.CalendarWorkingSaid :=
  OpenClaim.holds_of_wide 8 Tryd.f8 rfl rfl rfl rfl rfl rfl rfl ⟨rfl, rfl, rfl, rfl, rfl⟩ rfl rfl rfl rfl rfl (by kernel_rfl) Tryd.func8 (by kernel_rfl)
    (of_decide_eq_true (by kernel_rfl)) (by unfold Func.isWrapper; first | (rw [if_pos (by decide +kernel)]; kernel_rfl) | (rw [if_neg (by decide +kernel)]; exact ⟨rfl, rfl⟩))
    (fun os started H enc _ => calendarWorking_lifted os started H enc)
theorem calendarWorking_card : Rows.CalendarWorkingCardSaid :=
  Claim7.holds_tied_plain_at .later [] Rows.calendarWorkingCard.laidKinds true Rows.calendarWorkingCard.stood.harness Rows.calendarWorkingCard.stood.looks calendarWorking_holds (fun _ h => by cases h) (by kernel_rfl) (fun _ h => by cases h) calendarWorking_row_tie rfl ⟨rfl, rfl⟩ (by kernel_rfl) rfl
    (fun f fn hf hfn => by
      obtain rfl : f = 8 := Option.some.inj ((show Tryd.prog.funcNamed "customs/customslaw04.CalendarWorking" = some 8 by kernel_rfl).symm.trans hf) |>.symm
      obtain rfl : fn = Tryd.f8 := (Option.some.inj (Tryd.func8.symm.trans hfn)).symm
      exact ⟨by kernel_rfl, fun j t ht => by
        rw [Tryd.params8] at ht
        have hm : t ∈ [38, 3, 3, 4] := by simpa using Array.mem_of_getElem? ht
        have hall : ([38, 3, 3, 4].all fun u => !Tryd.prog.wantsStandIn u) = true := by kernel_rfl
        exact (show Tryd.prog.wantsStandIn t = false by simpa using List.all_eq_true.1 hall t hm)⟩)
    (by kernel_rfl)
#print axioms calendarWorking_card
end Go.Proofs.YtnegiopbccllcaaDoor
