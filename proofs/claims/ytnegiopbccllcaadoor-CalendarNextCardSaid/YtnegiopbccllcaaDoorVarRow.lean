/- The row of a law that reads listed variables: they are listed with what they hold, so the law's walk may use it. No condition of ours. -/
import Derived.Test.YtnegiopbccllcaaDoorLawRow
import Derived.ProofKit
import Derived.OpenShut
import Derived.LaidMore
import Derived.Lay
import Derived.PinnedBridge
import Derived.SevenTiedAt
import Derived.Stop.Joined
import Derived.Stop.LaidErr
import Derived.Lib.LaidTab
namespace Go.Proofs.YtnegiopbccllcaaDoor
open Go.RowKit Go.WideShapes Go.ChangeShapes

section
variable {H : Type} {enc : TypeId × Value → H}
/-- The builder of a row that lists variables: its contract may use both what they hold and the shape of the world. -/
theorem returnsInHanded_of_vars {C : Checked} {os : Os} {f : FuncId} {fn : Func} {s : ChangeSpec} {conds : List PathCond} {apart fresh handsOn again : Bool} {laid : List (String × DataW Unit)}
    (ho : ownKnob C.prog.godebug = none) (hos : os.Started) (hi : C.prog.inits.idxOf? f = none) (hf : C.prog.funcs[f]? = some fn)
    (wit : ∃ (w : World) (tape : Tape) (i : Input), w.os = os ∧ (w.forCall tape i).Shaped C.prog ∧ i.vars = [] ∧ Input.okWide C.prog (w.forCall tape i) .any w.heap.size f i ∧
      ((s.pre enc C.prog fn conds apart (w.forCall tape i).memory i.args ∧ laidMetH C.prog laid (w.forCall tape i).memory) ∧ sizedMet enc C.prog fn (OpenSpec.ofChange s) apart (w.forCall tape i).memory i.args) ∧
      ({} : Assume).holds C.prog (lone (Frame.enter C.prog f i.args .normal) [] (w.forCall tape i)))
    (walk : ∀ (W : World) (base : Nat) (args : Array Value) (ds gs : List (DataW H)) (before : List MemPlace),
      (∀ (j : Nat) t v, fn.params[j]? = some t → args[j]? = some v → Value.okWide C.prog W .any base t v) →
      DataW.Whole enc C.prog fn.params.toList s.vars apart W args.toList ds gs before → laidMetH C.prog laid W → W.ShapedOpen C.prog →
      Calls C.prog f args W fun e W' => ∃ v, e = .returned v ∧ s.post enc C.prog fn apart fresh handsOn again W args v W') :
    ReturnsInHanded {} C os f .any (fun w args => (s.pre enc C.prog fn conds apart w args ∧ laidMetH C.prog laid w) ∧ sizedMet enc C.prog fn (OpenSpec.ofChange s) apart w args) (s.post enc C.prog fn apart fresh handsOn again) :=
  returnsInHanded_of_calls ho hos hi wit fun w tape i _ shape _ ok pre _ => by
    obtain ⟨_, _, _, fn1, e1, _, _, _, _, vals⟩ := ok
    cases hf.symm.trans e1
    obtain ⟨⟨⟨ds, gs, before, whole, _⟩, met⟩, _⟩ := pre
    have same : (w.forCall tape i).memory.heap = (w.forCall tape i).heap := rfl
    refine (walk _ w.heap.size i.args ds gs before vals (whole.of_heap same) (met.of_heap same) shape).mono ?_
    rintro _ _ ⟨v, rfl, post⟩
    exact ChangeSpec.post_blind post
end

theorem laid_at {P : Program} {x : String × DataW Unit} {W : World} : ∀ {l : List (String × DataW Unit)}, x ∈ l → laidMet P l W → ∃ r, laidMet P (x :: r) W
  | _, .head r, h => ⟨r, h⟩
  | _, .tail _ hm, h => laid_at hm h.tail
end Go.Proofs.YtnegiopbccllcaaDoor
