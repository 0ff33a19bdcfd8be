/- A region that draws its order, whose operations read and whose callees may make memory: walked once, in the text's order. -/
import Derived.Test.YtbaghdiimkenkaaDoorBase
import Derived.BigQuiet
namespace Go.Proofs.YtbaghdiimkenkaaDoor
open Go.RowKit

/-- A world of which S holds. -/
structure Held (S : World → Prop) where
  w : World
  h : S w

/-- **One walk in the text's order serves every order**, in the class of the worlds of which S holds. -/
theorem region_held {P : Program} {S : World → Prop} {id : Nat} {Q : Exit → Act → World → Prop} {a : Act} {w : World} {l : List Oper} (hm : P.follows .mixedOrders = true) (hB : Region.lexB .any l.toArray = true) (hS : S w.drew)
    (h : [Nonempty (Held S)] → wpQuiet P l.toArray (fun w' => ∃ x : Held S, w' = x.w) (fun a' => ∀ w', (∃ x : Held S, w' = x.w) → Q .normal a' w') l a) : (Code.region id l.toArray true).wp P Q a w :=
  haveI : Nonempty (Held S) := ⟨⟨w.drew, hS⟩⟩
  wp_region_quiet (C := fun w' => ∃ x : Held S, w' = x.w) hm hB ⟨⟨w.drew, hS⟩, rfl⟩ (by simpa using h)

/-- A callee's contract, met in a world of the class. -/
theorem Held.call {P : Program} {S : World → Prop} {x : Held S} {f : FuncId} {args : Array Value} {v : Value} {R : World → Prop}
    (h : Calls P f args x.w fun e w' => e = .returned v ∧ R w') (hR : ∀ w', S x.w → R w' → S w') : Calls P f args x.w fun e w' => e = .returned v ∧ ∃ y : Held S, w' = y.w :=
  h.mono fun _ w' ⟨he, hr⟩ => ⟨he, ⟨w', hR w' x.h hr⟩, rfl⟩
end Go.Proofs.YtbaghdiimkenkaaDoor
