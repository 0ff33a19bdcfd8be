/- What the landed Encode and Next of package segment return, in the words that the laws use. Condition: the cells are known, and there are not too many. -/
import Derived.Test.YtenlfapdmknkjaaLSegNext
namespace Go.Proofs.Ytenlfapdmknkjaa
open Go.RowKit
theorem segEncode_any (v : Value) (L : List Seg) (w : World) (h : SegsIn (Has_ w) w v L) (hn : L.length ≤ 100000) :
    Calls Try.prog 13 #[v] w fun e w' => ∃ u, e = .returned (.tuple #[u, .int .i64 (encF [] L).2]) ∧ BytesIn (Has_ w') w' u (encF [] L).1 ∧ Below w.heap.size w w' :=
  (segEncode_row v L w h hn).mono fun e w' h1 => by
    obtain ⟨u, h2, h3, h4⟩ := h1
    exact ⟨u, h2, h3.bytes, h4⟩
theorem segNext_any (v : Value) (b : List UInt8) (w : World) (h : BytesIn (Has_ w) w v b) (hb : b.length ≤ 1000000000) :
    Calls Try.prog 18 #[v] w fun e w' => ∃ x, e = .returned (.tuple #[.agg #[strV (nextF b).1.tag, x], .int .i64 (nextF b).2.1, .int .i64 (nextF b).2.2]) ∧ ElemsIn (Has_ w') w' x (nextF b).1.els ∧ Below w.heap.size w w' :=
  (segNext_land v b w h hb).mono fun e w' h1 => by
    obtain ⟨x, h2, h3, h4⟩ := h1
    exact ⟨x, h2, h3.keep fun _ hb1 => ⟨hb1.has, rfl⟩, h4⟩
end Go.Proofs.Ytenlfapdmknkjaa
