/- For every input the law MessageChecksum returns true, and each argument reads afterwards as it read before: the row and its card, the library's variables tied to the program's text. Condition: the listed variables hold, when the call begins, what the program's text lays in them. -/
import Derived.Test.YtepkihoakagidaaDoorCards
import Derived.Test.YtepkihoakagidaaDoorTie
import Derived.Test.YtepkihoakagidaaDoorG1
import Derived.Test.YtepkihoakagidaaDoorG3
import Derived.Test.YtepkihoakagidaaDoorG5
namespace Go.Proofs.YtepkihoakagidaaDoor
open Go.ChangeShapes Go.WideShapes Go.ChangeAt Go.RowKit Go.ChangeMaps

theorem messageChecksum_laidOut : laidOutB Tryd.prog = true := by kernel_rfl
theorem messageChecksum_listed (W : World) : laidMetH Tryd.prog Rows.messageChecksumRow.laid W = laidMet Tryd.prog Rows.messageChecksumRow.laid W := MakeChecks.laidMetH_plain _ _ _ (by kernel_rfl)
set_option maxRecDepth 100000 in
theorem messageChecksum_lifted (os : Os) (started : os.Started) (H : Type) (enc : TypeId × Value → H) :
    ReturnsInHanded {} Tryd.checked os 9 .any (fun w args => (Rows.messageChecksumSpec.pre enc Tryd.prog Tryd.f9 Rows.messageChecksumRow.domain false w args ∧ laidMetH Tryd.prog Rows.messageChecksumRow.laid w) ∧ sizedMet enc Tryd.prog Tryd.f9 (OpenSpec.ofChange Rows.messageChecksumSpec) false w args)
      (Rows.messageChecksumSpec.post enc Tryd.prog Tryd.f9 false true false false) := by
  refine returnsInHanded_of_vars (C := Tryd.checked) own started (by kernel_rfl) Tryd.func9
    (ChangeSpec.witness_shaped (enc := enc) (C := Tryd.checked) (os := os) (X := fun w _ => laidMetH Tryd.prog Rows.messageChecksumRow.laid w) false (World.laidAll Tryd.prog os Rows.messageChecksumRow.laid) #[.slice none 0 0, .int .i64 0, .int .u8 0] 8 (World.laidAll_os _ _ _) (World.shaped_of_ZipB (by kernel_rfl) (by kernel_rfl)) (by kernel_rfl) (by kernel_rfl) (by kernel_rfl)
      (by rw [messageChecksum_listed]; exact laidMet_laidAll _ (by kernel_rfl) (by kernel_rfl))) ?_
  intro W base args ds gs before hval0 hW hM shape
  have hL : MLib W := mlib_of (by rw [← messageChecksum_listed]; exact hM) (by repeat (first | exact List.Mem.head _ | apply List.Mem.tail))
  have hval : ∀ (j : Nat) t v, Tryd.f9.params[j]? = some t → args[j]? = some v → Value.okWide Tryd.prog W .any base t v := hval0
  have hW' := hW
  obtain ⟨p, q, hA0, hV, rfl, _, _⟩ := hW
  have hA : DataW.TrodAll enc Tryd.prog W 0 (fun _ => true) true Tryd.f9.params.toList args.toList ds p := hA0
  rw [Tryd.params9] at hA hval
  obtain ⟨v0, vs0, d0, ds0, p0, q0, hargs, rfl, rfl, h0, r0⟩ := trodAll_cons hA
  obtain ⟨v1, vs1, d1, ds1, p1, q1, rfl, rfl, rfl, h1, r1⟩ := trodAll_cons r0
  obtain ⟨v2, vs2, d2, ds2, p2, q2, rfl, rfl, rfl, h2, r2⟩ := trodAll_cons r1
  obtain ⟨rfl, rfl, rfl⟩ := trodAll_nil r2
  obtain rfl : args = #[v0, v1, v2] := by cases args; simp_all
  suffices hwalk : Calls Tryd.prog 9 #[v0, v1, v2] W fun e W' => e = .returned (.bool true) ∧ Below W.heap.size W W' from
    hwalk.mono fun e W' ⟨he, hg⟩ => ⟨_, he, post_of_law hW' messageChecksum_laidOut (by kernel_rfl) rfl (fun l e => by subst e; rfl) (by kernel_rfl) Tryd.underlying4 hg⟩
  clear hW' hA0 hval0 hV hM shape
  obtain ⟨n0, f0, u0⟩ := open_list Tryd.underlying32 Tryd.underlying5 (by kernel_rfl) (hval 0 32 v0 rfl rfl) h0
  obtain ⟨b0, w0⟩ := bytes_of_list u0
  obtain ⟨a1, rfl, _, _, w1⟩ := open_int Tryd.underlying3 (hval 1 3 v1 rfl rfl) h1
  obtain ⟨a2, rfl, _, _, w2⟩ := open_int Tryd.underlying5 (hval 2 5 v2 rfl rfl) h2
  obtain ⟨n2, rfl, b2⟩ := nat_of_u8 w2
  obtain ⟨y2, hy2⟩ : ∃ y : UInt8, y.toNat = n2 := ⟨UInt8.ofNat n2, by rw [UInt8.toNat_ofNat', Nat.mod_eq_of_lt b2]⟩
  subst hy2
  exact messageChecksum_walk v0 b0 a1 y2 W hL w0
theorem messageChecksum_holds : Rows.MessageChecksumSaid :=
  OpenClaim.holds_of_wide 9 Tryd.f9 rfl rfl rfl rfl rfl rfl rfl ⟨rfl, rfl, rfl, rfl, rfl⟩ rfl rfl rfl rfl rfl (by kernel_rfl) Tryd.func9 (by kernel_rfl)
    (of_decide_eq_true (by kernel_rfl)) (by unfold Func.isWrapper; first | (rw [if_pos (by decide +kernel)]; kernel_rfl) | (rw [if_neg (by decide +kernel)]; exact ⟨rfl, rfl⟩))
    (fun os started H enc _ => messageChecksum_lifted os started H enc)
theorem messageChecksum_card : Rows.MessageChecksumCardSaid :=
  Claim7.holds_tied_plain_at .later [] Rows.messageChecksumCard.laidKinds true Rows.messageChecksumCard.stood.harness Rows.messageChecksumCard.stood.looks messageChecksum_holds (fun _ h => by cases h) (by kernel_rfl) (fun _ h => by cases h) messageChecksum_row_tie rfl ⟨rfl, rfl⟩ (by kernel_rfl) rfl
    (fun f fn hf hfn => by
      obtain rfl : f = 9 := Option.some.inj ((show Tryd.prog.funcNamed "customs/customslaw07.MessageChecksum" = some 9 by kernel_rfl).symm.trans hf) |>.symm
      obtain rfl : fn = Tryd.f9 := (Option.some.inj (Tryd.func9.symm.trans hfn)).symm
      exact ⟨by kernel_rfl, fun j t ht => by
        rw [Tryd.params9] at ht
        have hm : t ∈ [32, 3, 5] := by simpa using Array.mem_of_getElem? ht
        have hall : ([32, 3, 5].all fun u => !Tryd.prog.wantsStandIn u) = true := by kernel_rfl
        exact (show Tryd.prog.wantsStandIn t = false by simpa using List.all_eq_true.1 hall t hm)⟩)
    (by kernel_rfl)
#print axioms messageChecksum_card
end Go.Proofs.YtepkihoakagidaaDoor
