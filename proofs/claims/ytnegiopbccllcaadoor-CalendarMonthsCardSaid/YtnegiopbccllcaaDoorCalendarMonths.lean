/- For every input the law CalendarMonths returns true, and each argument reads afterwards as it read before: the row and its card, the package's table tied to the program's text. Condition: the listed variable holds, when the call begins, what the program's text lays in it. -/
import Derived.Test.YtnegiopbccllcaaDoorCards
import Derived.Test.YtnegiopbccllcaaDoorTie
import Derived.Test.YtnegiopbccllcaaDoorCalRow
import Derived.Test.YtnegiopbccllcaaDoorCalDatesWalk
namespace Go.Proofs.YtnegiopbccllcaaDoor
open Go.ChangeShapes Go.WideShapes Go.ChangeAt Go.RowKit Go.ChangeMaps

theorem calendarMonths_laidOut : laidOutB Tryd.prog = true := by kernel_rfl
theorem calendarMonths_listed (W : World) : laidMetH Tryd.prog Rows.calendarMonthsRow.laid W = laidMet Tryd.prog Rows.calendarMonthsRow.laid W := MakeChecks.laidMetH_plain _ _ _ (by kernel_rfl)
set_option maxRecDepth 100000 in
theorem calendarMonths_lifted (os : Os) (started : os.Started) (H : Type) (enc : TypeId × Value → H) :
    ReturnsInHanded {} Tryd.checked os 6 .any (fun w args => (Rows.calendarMonthsSpec.pre enc Tryd.prog Tryd.f6 Rows.calendarMonthsRow.domain false w args ∧ laidMetH Tryd.prog Rows.calendarMonthsRow.laid w) ∧ sizedMet enc Tryd.prog Tryd.f6 (OpenSpec.ofChange Rows.calendarMonthsSpec) false w args)
      (Rows.calendarMonthsSpec.post enc Tryd.prog Tryd.f6 false true false false) := by
  refine returnsInHanded_of_vars (C := Tryd.checked) own started (by kernel_rfl) Tryd.func6
    (ChangeSpec.witness_shaped (enc := enc) (C := Tryd.checked) (os := os) (X := fun w _ => laidMetH Tryd.prog Rows.calendarMonthsRow.laid w) false (World.laidAll Tryd.prog os Rows.calendarMonthsRow.laid) #[.int .i64 0, .int .i64 0, .bool false] 8 (World.laidAll_os _ _ _) (World.shaped_of_ZipB (by kernel_rfl) (by kernel_rfl)) (by kernel_rfl) (by kernel_rfl) (by kernel_rfl)
      (by rw [calendarMonths_listed]; exact laidMet_laidAll _ (by kernel_rfl) (by kernel_rfl))) ?_
  intro W base args ds gs before hval0 hW hM shape
  have hT : CalTab W := calTab_of (by rw [← calendarMonths_listed]; exact hM) (by repeat (first | exact List.Mem.head _ | apply List.Mem.tail))
  have hval : ∀ (j : Nat) t v, Tryd.f6.params[j]? = some t → args[j]? = some v → Value.okWide Tryd.prog W .any base t v := hval0
  have hW' := hW
  obtain ⟨p, q, hA0, hV, rfl, _, _⟩ := hW
  have hA : DataW.TrodAll enc Tryd.prog W 0 (fun _ => true) true Tryd.f6.params.toList args.toList ds p := hA0
  rw [Tryd.params6] at hA hval
  obtain ⟨v0, vs0, d0, ds0, p0, q0, hargs, rfl, rfl, h0, r0⟩ := trodAll_cons hA
  obtain ⟨v1, vs1, d1, ds1, p1, q1, rfl, rfl, rfl, h1, r1⟩ := trodAll_cons r0
  obtain ⟨v2, vs2, d2, ds2, p2, q2, rfl, rfl, rfl, h2, r2⟩ := trodAll_cons r1
  obtain ⟨rfl, rfl, rfl⟩ := trodAll_nil r2
  obtain rfl : args = #[v0, v1, v2] := by cases args; simp_all
  suffices hwalk : Calls Tryd.prog 6 #[v0, v1, v2] W fun e W' => e = .returned (.bool true) ∧ Below W.heap.size W W' from
    hwalk.mono fun e W' ⟨he, hg⟩ => ⟨_, he, post_of_law hW' calendarMonths_laidOut (by kernel_rfl) rfl (fun l e => by subst e; rfl) (by kernel_rfl) Tryd.underlying4 hg⟩
  clear hW' hA0 hval0 hV hM shape
  obtain ⟨a0, rfl, _, _, w0⟩ := open_int Tryd.underlying3 (hval 0 3 v0 rfl rfl) h0
  obtain ⟨a1, rfl, _, _, w1⟩ := open_int Tryd.underlying3 (hval 1 3 v1 rfl rfl) h1
  obtain ⟨a2, rfl, _, _⟩ := open_bool Tryd.underlying4 (hval 2 4 v2 rfl rfl) h2
  exact calendarMonths_walk (w := W) (hT := hT) a0 a1 a2
theorem calendarMonths_holds : Rows.CalendarMonthsSaid :=
  OpenClaim.holds_of_wide 6 Tryd.f6 rfl rfl rfl rfl rfl rfl rfl ⟨rfl, rfl, rfl, rfl, rfl⟩ rfl rfl rfl rfl rfl (by kernel_rfl) Tryd.func6 (by kernel_rfl)
    (of_decide_eq_true (by kernel_rfl)) (by unfold Func.isWrapper; first | (rw [if_pos (by decide +kernel)]; kernel_rfl) | (rw [if_neg (by decide +kernel)]; exact ⟨rfl, rfl⟩))
    (fun os started H enc _ => calendarMonths_lifted os started H enc)
theorem calendarMonths_card : Rows.CalendarMonthsCardSaid :=
  Claim7.holds_tied_plain_at .later [] Rows.calendarMonthsCard.laidKinds true Rows.calendarMonthsCard.stood.harness Rows.calendarMonthsCard.stood.looks calendarMonths_holds (fun _ h => by cases h) (by kernel_rfl) (fun _ h => by cases h) calendarMonths_row_tie rfl ⟨rfl, rfl⟩ (by kernel_rfl) rfl
    (fun f fn hf hfn => by
      obtain rfl : f = 6 := Option.some.inj ((show Tryd.prog.funcNamed "customs/customslaw04.CalendarMonths" = some 6 by kernel_rfl).symm.trans hf) |>.symm
      obtain rfl : fn = Tryd.f6 := (Option.some.inj (Tryd.func6.symm.trans hfn)).symm
      exact ⟨by kernel_rfl, fun j t ht => by
        rw [Tryd.params6] at ht
        have hm : t ∈ [3, 3, 4] := by simpa using Array.mem_of_getElem? ht
        have hall : ([3, 3, 4].all fun u => !Tryd.prog.wantsStandIn u) = true := by kernel_rfl
        exact (show Tryd.prog.wantsStandIn t = false by simpa using List.all_eq_true.1 hall t hm)⟩)
    (by kernel_rfl)
#print axioms calendarMonths_card
end Go.Proofs.YtnegiopbccllcaaDoor
