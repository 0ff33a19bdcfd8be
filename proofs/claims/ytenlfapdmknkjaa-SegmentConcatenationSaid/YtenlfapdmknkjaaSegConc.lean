/- append onto a row of the call's own, of a list that may be nil; bytes put together. No condition. -/
import Derived.Test.YtenlfapdmknkjaaSegCells
import Derived.Lib.Strings
namespace Go.Proofs.Ytenlfapdmknkjaa
open Go.RowKit

theorem wpList_append_opt {P : Program} {ops : Array Oper} {rest : List Oper} {o : Oper} {a : Act} {w : World} {Q : Exit → Act → World → Prop}
    (hg : o.guard = none) (s x : Operand) (t : TypeId) (hop : o.op = Op.call { callee := Callee.builtin Builtin.append, args := #[s, x], argTypes := #[t, t] })
    (base : Nat) (e : TypeId) (i : TypeInfo) (z : Value) (size bytes : Nat) (h1 : P.underlying t = some (.slice e)) (h2 : P.info? e = some i) (h3 : i.zero = some z) (h4 : i.size = size) (h5 : i.bytes = bytes) (h6 : z.cells.size = size) (h7 : 0 < size)
    (v : Value) (n : Nat) (xs : List Value) (hs : a.eval s = v) (hown : w.ownsRow base e size v n xs) (hbase : base ≤ w.heap.size)
    (ao : Option Addr) (m c : Nat) (news : List Value) (hx : a.eval x = .slice ao m c) (hn : news.length = m * size) (hnone : ao = none → m = 0 ∧ c = 0)
    (hc : ∀ ad, ao = some ad → ∀ j u, news[j]? = some u → w.cell? (ad.add j) = some u) (h1c : ∀ u ∈ news, u.oneCell' = true) (b1 : n + m ≤ maxLen) (b2 : (n + m) * bytes ≤ 140737488355328)
    (hK : ∀ v' w', w'.ownsRow base e size v' (n + m) (xs ++ news) → w.grownBy w' v.ownBlock → wpList P ops Q rest (a.put o.dst v') w') : wpList P ops Q (o :: rest) a w := by
  refine wpList_plain hg fun K hK' => ?_
  cases ao with
  | some ad =>
    obtain ⟨v', w', hrun, r1, r2, _⟩ := run_append_own (P := P) w base t o.type e i z size bytes h1 h2 h3 h4 h5 h6 h7 v n xs hown ad m c news hn (hc ad rfl) h1c b1 b2 hbase
    unfold Oper.wp
    simp [execOp, hop, resolve, invoke, builtin, hs, hx, hrun, Result.andThen]
    exact hK' _ _ (hK v' w' r1 r2)
  | none =>
    obtain ⟨rfl, rfl⟩ := hnone rfl
    obtain rfl : news = [] := List.eq_nil_of_length_eq_zero (by simpa using hn)
    have hrun := run_append_owned_none (P := P) (w := w) base t o.type e i size h1 h2 v n xs hown
    unfold Oper.wp
    simp [execOp, hop, resolve, invoke, builtin, hs, hx, hrun, Result.andThen]
    exact hK' _ _ (hK v w (by simpa using hown) ⟨rfl, rfl, rfl, Nat.le_refl _, fun _ _ _ => rfl⟩)
theorem bytes_of {w : World} {ao : Option Addr} {n cap : Nat} {b : List UInt8} (h : BytesIn (Has_ w) w (.slice ao n cap) b) : (∀ ad, ao = some ad → ∀ j u, (b.map byteV)[j]? = some u → w.cell? (ad.add j) = some u) ∧ (ao = none → n = 0 ∧ cap = 0) := by
  obtain ⟨_, ⟨h1, h2⟩ | ⟨a, cap2, h2, _, _, _, h5⟩⟩ := h
  · injection h1 with e1 e2 e3
    subst e1 e2 e3
    exact ⟨fun ad had => (by cases had), fun _ => ⟨rfl, rfl⟩⟩
  · injection h2 with e1 e2 e3
    subst e1
    exact ⟨fun ad had j u hj => (by injection had with had; subst had; exact h5 j u hj), fun h => (by cases h)⟩
theorem segs_none {w : World} {ao : Option Addr} {n cap : Nat} {us : List Value} (h : CellsIn (Has_ w) w 2 (.slice ao n cap) n us) : ao = none → n = 0 ∧ cap = 0 := by
  obtain ⟨_, ⟨h1, h2⟩ | ⟨a, cap2, h2, _⟩⟩ := h
  · injection h1 with e1 e2 e3
    exact fun _ => ⟨h2, e3⟩
  · injection h2 with e1
    rw [e1]
    exact fun h => (by cases h)
theorem cat_list (a b : List UInt8) : ((⟨a.toArray⟩ : ByteArray) ++ ⟨b.toArray⟩).toList = a ++ b := by
  rw [Lib.toList_data]
  simp
theorem bytes_row {w : World} {base : Nat} {e : TypeId} {v : Value} {n : Nat} {b : List UInt8} (h : w.ownsRow base e 1 v n (b.map byteV)) : BytesIn (Has_ w) w v b := by
  have hn : n = b.length := by have := h.1; simp at this; omega
  subst hn
  exact (CellsIn.own h).keep fun c hc => ⟨hc.2.1, rfl⟩
end Go.Proofs.Ytenlfapdmknkjaa
