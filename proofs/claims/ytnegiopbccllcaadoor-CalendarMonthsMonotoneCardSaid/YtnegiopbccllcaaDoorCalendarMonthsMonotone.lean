/- For every input the law CalendarMonthsMonotone returns true, and each argument reads afterwards as it read before: the row and its card, the package's table tied to the program's text. Condition: the listed variable holds, when the call begins, what the program's text lays in it. -/
import Derived.Test.YtnegiopbccllcaaDoorCards
import Derived.Test.YtnegiopbccllcaaDoorTie
import Derived.Test.YtnegiopbccllcaaDoorCalRow
import Derived.Test.YtnegiopbccllcaaDoorCalMonotoneWalk
namespace Go.Proofs.YtnegiopbccllcaaDoor
open Go.ChangeShapes Go.WideShapes Go.ChangeAt Go.RowKit Go.ChangeMaps

theorem calendarMonthsMonotone_laidOut : laidOutB Tryd.prog = true := by kernel_rfl
theorem calendarMonthsMonotone_listed (W : World) : laidMetH Tryd.prog Rows.calendarMonthsMonotoneRow.laid W = laidMet Tryd.prog Rows.calendarMonthsMonotoneRow.laid W := MakeChecks.laidMetH_plain _ _ _ (by kernel_rfl)
set_option maxRecDepth 100000 in
theorem calendarMonthsMonotone_lifted (os : Os) (started : os.Started) (H : Type) (enc : TypeId × Value → H) :
    ReturnsInHanded {} Tryd.checked os 7 .any (fun w args => (Rows.calendarMonthsMonotoneSpec.pre enc Tryd.prog Tryd.f7 Rows.calendarMonthsMonotoneRow.domain false w args ∧ laidMetH Tryd.prog Rows.calendarMonthsMonotoneRow.laid w) ∧ sizedMet enc Tryd.prog Tryd.f7 (OpenSpec.ofChange Rows.calendarMonthsMonotoneSpec) false w args)
      (Rows.calendarMonthsMonotoneSpec.post enc Tryd.prog Tryd.f7 false true false false) := by
  refine returnsInHanded_of_vars (C := Tryd.checked) own started (by kernel_rfl) Tryd.func7
    (ChangeSpec.witness_shaped (enc := enc) (C := Tryd.checked) (os := os) (X := fun w _ => laidMetH Tryd.prog Rows.calendarMonthsMonotoneRow.laid w) false (World.laidAll Tryd.prog os Rows.calendarMonthsMonotoneRow.laid) #[.int .i64 0, .int .i64 0, .int .i64 0, .int .i64 0] 8 (World.laidAll_os _ _ _) (World.shaped_of_ZipB (by kernel_rfl) (by kernel_rfl)) (by kernel_rfl) (by kernel_rfl) (by kernel_rfl)
      (by rw [calendarMonthsMonotone_listed]; exact laidMet_laidAll _ (by kernel_rfl) (by kernel_rfl))) ?_
  intro W base args ds gs before hval0 hW hM shape
  have hT : CalTab W := calTab_of (by rw [← calendarMonthsMonotone_listed]; exact hM) (by repeat (first | exact List.Mem.head _ | apply List.Mem.tail))
  have hval : ∀ (j : Nat) t v, Tryd.f7.params[j]? = some t → args[j]? = some v → Value.okWide Tryd.prog W .any base t v := hval0
  have hW' := hW
  obtain ⟨p, q, hA0, hV, rfl, _, _⟩ := hW
  have hA : DataW.TrodAll enc Tryd.prog W 0 (fun _ => true) true Tryd.f7.params.toList args.toList ds p := hA0
  rw [Tryd.params7] at hA hval
  obtain ⟨v0, vs0, d0, ds0, p0, q0, hargs, rfl, rfl, h0, r0⟩ := trodAll_cons hA
  obtain ⟨v1, vs1, d1, ds1, p1, q1, rfl, rfl, rfl, h1, r1⟩ := trodAll_cons r0
  obtain ⟨v2, vs2, d2, ds2, p2, q2, rfl, rfl, rfl, h2, r2⟩ := trodAll_cons r1
  obtain ⟨v3, vs3, d3, ds3, p3, q3, rfl, rfl, rfl, h3, r3⟩ := trodAll_cons r2
  obtain ⟨rfl, rfl, rfl⟩ := trodAll_nil r3
  obtain rfl : args = #[v0, v1, v2, v3] := by cases args; simp_all
  suffices hwalk : Calls Tryd.prog 7 #[v0, v1, v2, v3] W fun e W' => e = .returned (.bool true) ∧ Below W.heap.size W W' from
    hwalk.mono fun e W' ⟨he, hg⟩ => ⟨_, he, post_of_law hW' calendarMonthsMonotone_laidOut (by kernel_rfl) rfl (fun l e => by subst e; rfl) (by kernel_rfl) Tryd.underlying4 hg⟩
  clear hW' hA0 hval0 hV hM shape
  obtain ⟨a0, rfl, _, _, w0⟩ := open_int Tryd.underlying3 (hval 0 3 v0 rfl rfl) h0
  obtain ⟨a1, rfl, _, _, w1⟩ := open_int Tryd.underlying3 (hval 1 3 v1 rfl rfl) h1
  obtain ⟨a2, rfl, _, _, w2⟩ := open_int Tryd.underlying3 (hval 2 3 v2 rfl rfl) h2
  obtain ⟨a3, rfl, _, _, w3⟩ := open_int Tryd.underlying3 (hval 3 3 v3 rfl rfl) h3
  exact calendarMonthsMonotone_walk (w := W) (hT := hT) a0 a1 a2 a3
theorem calendarMonthsMonotone_holds : Rows.CalendarMonthsMonotoneSaid :=
  OpenClaim.holds_of_wide 7 Tryd.f7 rfl rfl rfl rfl rfl rfl rfl ⟨rfl, rfl, rfl, rfl, rfl⟩ rfl rfl rfl rfl rfl (by kernel_rfl) Tryd.func7 (by kernel_rfl)
    (of_decide_eq_true (by kernel_rfl)) (by unfold Func.isWrapper; first | (rw [if_pos (by decide +kernel)]; kernel_rfl) | (rw [if_neg (by decide +kernel)]; exact ⟨rfl, rfl⟩))
    (fun os started H enc _ => calendarMonthsMonotone_lifted os started H enc)
theorem calendarMonthsMonotone_card : Rows.CalendarMonthsMonotoneCardSaid :=
  Claim7.holds_tied_plain_at .later [] Rows.calendarMonthsMonotoneCard.laidKinds true Rows.calendarMonthsMonotoneCard.stood.harness Rows.calendarMonthsMonotoneCard.stood.looks calendarMonthsMonotone_holds (fun _ h => by cases h) (by kernel_rfl) (fun _ h => by cases h) calendarMonthsMonotone_row_tie rfl ⟨rfl, rfl⟩ (by kernel_rfl) rfl
    (fun f fn hf hfn => by
      obtain rfl : f = 7 := Option.some.inj ((show Tryd.prog.funcNamed "customs/customslaw04.CalendarMonthsMonotone" = some 7 by kernel_rfl).symm.trans hf) |>.symm
      obtain rfl : fn = Tryd.f7 := (Option.some.inj (Tryd.func7.symm.trans hfn)).symm
      exact ⟨by kernel_rfl, fun j t ht => by
        rw [Tryd.params7] at ht
        have hm : t ∈ [3, 3, 3, 3] := by simpa using Array.mem_of_getElem? ht
        have hall : ([3, 3, 3, 3].all fun u => !Tryd.prog.wantsStandIn u) = true := by kernel_rfl
        exact (show Tryd.prog.wantsStandIn t = false by simpa using List.all_eq_true.1 hall t hm)⟩)
    (by kernel_rfl)
#print axioms calendarMonthsMonotone_card
end Go.Proofs.YtnegiopbccllcaaDoor
