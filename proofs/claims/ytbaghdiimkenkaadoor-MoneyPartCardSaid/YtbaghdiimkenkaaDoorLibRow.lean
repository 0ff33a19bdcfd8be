/- The row of a law that reads the library's variables: they are listed with what they hold, so the law's walk may use it. No condition of ours. -/
import Derived.Test.YtbaghdiimkenkaaDoorLibs
import Derived.Test.YtbaghdiimkenkaaDoorLawRow
import Derived.ProofKit
import Derived.OpenShut
import Derived.LaidMore
import Derived.Lay
import Derived.PinnedBridge
import Derived.SevenTiedAt
import Derived.Stop.Joined
namespace Go.Proofs.YtbaghdiimkenkaaDoor
open Go.RowKit Go.WideShapes Go.ChangeShapes

section
variable {H : Type} {enc : TypeId × Value → H}
/-- The builder of a row that lists variables: its contract may use both what they hold and the shape of the world. -/
theorem returnsInHanded_of_vars {C : Checked} {os : Os} {f : FuncId} {fn : Func} {s : ChangeSpec} {conds : List PathCond} {apart fresh handsOn again : Bool} {laid : List (String × DataW Unit)}
    (ho : ownKnob C.prog.godebug = none) (hos : os.Started) (hi : C.prog.inits.idxOf? f = none) (hf : C.prog.funcs[f]? = some fn)
    (wit : ∃ (w : World) (tape : Tape) (i : Input), w.os = os ∧ (w.forCall tape i).Shaped C.prog ∧ i.vars = [] ∧ Input.okWide C.prog (w.forCall tape i) .any w.heap.size f i ∧
      ((s.pre enc C.prog fn conds apart (w.forCall tape i).memory i.args ∧ laidMetH C.prog laid (w.forCall tape i).memory) ∧ sizedMet enc C.prog fn (OpenSpec.ofChange s) apart (w.forCall tape i).memory i.args) ∧
      ({} : Assume).holds C.prog (lone (Frame.enter C.prog f i.args .normal) [] (w.forCall tape i)))
    (walk : ∀ (W : World) (base : Nat) (args : Array Value) (ds gs : List (DataW H)) (before : List MemPlace),
      (∀ (j : Nat) t v, fn.params[j]? = some t → args[j]? = some v → Value.okWide C.prog W .any base t v) →
      DataW.Whole enc C.prog fn.params.toList s.vars apart W args.toList ds gs before → laidMetH C.prog laid W → W.ShapedOpen C.prog →
      Calls C.prog f args W fun e W' => ∃ v, e = .returned v ∧ s.post enc C.prog fn apart fresh handsOn again W args v W') :
    ReturnsInHanded {} C os f .any (fun w args => (s.pre enc C.prog fn conds apart w args ∧ laidMetH C.prog laid w) ∧ sizedMet enc C.prog fn (OpenSpec.ofChange s) apart w args) (s.post enc C.prog fn apart fresh handsOn again) :=
  returnsInHanded_of_calls ho hos hi wit fun w tape i _ shape _ ok pre _ => by
    obtain ⟨_, _, _, fn1, e1, _, _, _, _, vals⟩ := ok
    cases hf.symm.trans e1
    obtain ⟨⟨⟨ds, gs, before, whole, _⟩, met⟩, _⟩ := pre
    have same : (w.forCall tape i).memory.heap = (w.forCall tape i).heap := rfl
    refine (walk _ w.heap.size i.args ds gs before vals (whole.of_heap same) (met.of_heap same) shape).mono ?_
    rintro _ _ ⟨v, rfl, post⟩
    exact ChangeSpec.post_blind post
end

theorem laid_at {P : Program} {x : String × DataW Unit} {W : World} : ∀ {l : List (String × DataW Unit)}, x ∈ l → laidMet P l W → ∃ r, laidMet P (x :: r) W
  | _, .head r, h => ⟨r, h⟩
  | _, .tail _ hm, h => laid_at hm h.tail

theorem row_error : ∀ u, Tryd.prog.typeName? 3 u = some "*errors.errorString" → u = 116 :=
  typeName_ptr_named (nm := "errors.errorString") (by kernel_rfl) (by kernel_rfl) (by decide)
theorem cells_error : Tryd.prog.cellsOf 118 = 1 := by kernel_rfl
theorem cells_text : Tryd.prog.cellsOf 9 = 1 := by kernel_rfl

/-- What a row's list says of the library's variables. -/
theorem libs_of {l : List (String × DataW Unit)} {W : World} (h : laidMet Tryd.prog l W) (shape : W.ShapedOpen Tryd.prog)
    (m1 : ("internal/strconv.uint64pow10", Rows.laid_internal_strconv_uint64pow10) ∈ l) (m2 : ("strconv.ErrRange", Rows.laid_strconv_ErrRange) ∈ l) (m3 : ("strconv.ErrSyntax", Rows.laid_strconv_ErrSyntax) ∈ l) : Libs W := by
  obtain ⟨r1, h1⟩ := laid_at m1 h
  obtain ⟨r2, h2⟩ := laid_at m2 h
  obtain ⟨r3, h3⟩ := laid_at m3 h
  have e1 : (Rows.laid_internal_strconv_uint64pow10 : DataW Unit) = Lib.tabData .u64 Lib.pow10Tab := by kernel_rfl
  rw [e1] at h1
  obtain ⟨a2, _, v2, _⟩ := laid_sentinel h2 (g := 3) (ti := 51) (by kernel_rfl) (by kernel_rfl) Tryd.underlying51 row_error Tryd.underlying116 Tryd.underlying118 rfl rfl Tryd.underlying9 cells_error cells_text
  obtain ⟨a3, _, v3, _⟩ := laid_sentinel h3 (g := 2) (ti := 51) (by kernel_rfl) (by kernel_rfl) Tryd.underlying51 row_error Tryd.underlying116 Tryd.underlying118 rfl rfl Tryd.underlying9 cells_error cells_text
  refine ⟨?_, ?_, ⟨_, _, v2⟩, ⟨_, _, v3⟩⟩
  · exact cell_of_shapedOpen_int (P := Tryd.prog) (g := 4) (t := 3) (zero := #[.int .i64 0]) shape (of_decide_eq_true (by kernel_rfl)) (by kernel_rfl) rfl (by kernel_rfl) (by kernel_rfl) Tryd.underlying3
  · exact Lib.tabIs_of_head (g := 7) (t := 110) (e := 45) (n := 20) (by kernel_rfl) (by kernel_rfl) Tryd.underlying110 Tryd.underlying45 (by kernel_rfl) (by kernel_rfl) h1
end Go.Proofs.YtbaghdiimkenkaaDoor
