/- A table among a law's arguments: its cells are known. No condition. -/
import Derived.Test.YtjjidbnjkhdkaaaCurTab
import Derived.Test.YtjjidbnjkhdkaaaLawRow
import Derived.Deep.Strs
namespace Go.Proofs.Ytjjidbnjkhdkaaa
open Go.RowKit Go.WideShapes Go.ChangeShapes Go.Deep

section
variable {H : Type} {enc : TypeId × Value → H} {P : Program}
theorem open_table {r : Reach} {b0 : Nat} {w : World} {sp : Nat → Bool} {held : Bool} {t e : TypeId} {f0 f1 f2 : Field} {v : Value} {d : DataW H} {ps : List MemPlace} (ht : P.underlying t = some (.slice e)) (he : P.underlying e = some (.struct #[f0, f1, f2]))
    (ce : P.cellsOf e = 3) (o0 : f0.offset = 0) (o1 : f1.offset = 1) (o2 : f2.offset = 2) (c0 : P.cellsOf f0.type = 1) (c1 : P.cellsOf f1.type = 1) (c2 : P.cellsOf f2.type = 1)
    (t0 : P.underlying f0.type = some .string) (t1 : P.underlying f1.type = some (.int .i64)) (t2 : P.underlying f2.type = some (.int .i64))
    (hval : Value.okWide P w r b0 t v) (hd : DataW.Trod enc P w 0 sp held t v d ps) : ∃ (n : Nat) (S : Nat → ByteArray) (F R : Nat → Int), TabAt w v n S F R := by
  obtain ⟨a0, l0, cap0, rfl⟩ := okWide_slice ht hval
  obtain ⟨fuel, hf⟩ := hd
  rcases open_slice ht hf with ⟨h1, _⟩ | ⟨a, len, cap, m, n, D, Pl, h1, _, h2, h3, h4, _, hx⟩
  · simp [Value.cells] at h1
    obtain ⟨rfl, rfl, rfl⟩ := h1
    exact ⟨0, fun _ => ⟨#[]⟩, fun _ => 0, fun _ => 0, Or.inl ⟨rfl, rfl⟩⟩
  · simp [Value.cells] at h1
    obtain ⟨rfl, rfl, rfl⟩ := h1
    have hm : l0 ≤ m := by rw [h4]; split <;> omega
    have each : ∀ i, i < l0 → ∃ q : ByteArray × Int × Int, q.1.size ≤ maxLen ∧ w.cell? (a.add (i * 3)) = some (.string q.1) ∧
        w.cell? ⟨(a.add (i * 3)).block, (a.add (i * 3)).off + 1, none⟩ = some (.int .i64 q.2.1) ∧ w.cell? ⟨(a.add (i * 3)).block, (a.add (i * 3)).off + 2, none⟩ = some (.int .i64 q.2.2) := by
      intro i hi
      obtain ⟨cs', g1, g2⟩ := hx i (by omega)
      rw [ce] at g1
      obtain ⟨_, hlen, hcell⟩ := World.cells?_some g1
      obtain ⟨y0, y1, y2, k, _, _, k0, k1, k2⟩ := trod_struct3 he g2
      match cs', hlen with
      | [v0, v1, v2], _ =>
        simp [o0, c0] at k0
        simp [o1, c1] at k1
        simp [o2, c2] at k2
        obtain ⟨s, z0, _, z1⟩ := DataW.trod_string t0 k0
        obtain ⟨x1, z2, _, _⟩ := DataW.trod_int t1 k1
        obtain ⟨x2, z3, _, _⟩ := DataW.trod_int t2 k2
        have e0 := hcell 0 (by omega)
        have e1 := hcell 1 (by omega)
        have e2 := hcell 2 (by omega)
        obtain rfl := List.head_eq_of_cons_eq z0
        obtain rfl := List.head_eq_of_cons_eq z2
        obtain rfl := List.head_eq_of_cons_eq z3
        exact ⟨(s, x1, x2), z1, e0, e1, e2⟩
    obtain ⟨q, hq⟩ := choose_lt each
    exact ⟨l0, fun i => (q i).1, fun i => (q i).2.1, fun i => (q i).2.2, Or.inr ⟨a, cap0, rfl, h2, h3, hq⟩⟩
end
/-- Is a type one of texts, one of ints? -/
def strTy (P : Program) (t : TypeId) : Bool := match P.underlying t with | some .string => true | _ => false
def intTy (P : Program) (t : TypeId) : Bool := match P.underlying t with | some (.int .i64) => true | _ => false
theorem strTy_iff {P : Program} {t : TypeId} (h : strTy P t = true) : P.underlying t = some .string := by
  unfold strTy at h
  split at h
  · assumption
  · cases h
theorem intTy_iff {P : Program} {t : TypeId} (h : intTy P t = true) : P.underlying t = some (.int .i64) := by
  unfold intTy at h
  split at h
  · assumption
  · cases h
/-- Is a type a struct of a text and two ints, one cell each? -/
def rateTy (P : Program) (t : TypeId) : Bool := match P.underlying t with
  | some (.struct ⟨[f0, f1, f2]⟩) => (P.cellsOf t == 3 && f0.offset == 0 && f1.offset == 1 && f2.offset == 2) && (P.cellsOf f0.type == 1 && P.cellsOf f1.type == 1 && P.cellsOf f2.type == 1) && (strTy P f0.type && intTy P f1.type && intTy P f2.type)
  | _ => false
/-- The fields of a rate. -/
theorem rate_fields {P : Program} {t : TypeId} (h : rateTy P t = true) : ∃ f0 f1 f2 : Field, P.underlying t = some (.struct #[f0, f1, f2]) ∧ (P.cellsOf t = 3 ∧ f0.offset = 0 ∧ f1.offset = 1 ∧ f2.offset = 2) ∧
    (P.cellsOf f0.type = 1 ∧ P.cellsOf f1.type = 1 ∧ P.cellsOf f2.type = 1) ∧ (P.underlying f0.type = some .string ∧ P.underlying f1.type = some (.int .i64) ∧ P.underlying f2.type = some (.int .i64)) := by
  unfold rateTy at h
  split at h
  · rename_i f0 f1 f2 hu
    simp only [Bool.and_eq_true, beq_iff_eq] at h
    obtain ⟨⟨⟨⟨⟨h1, h2⟩, h3⟩, h4⟩, ⟨h5, h6⟩, h7⟩, ⟨h8, h9⟩, h10⟩ := h
    exact ⟨f0, f1, f2, hu, ⟨h1, h2, h3, h4⟩, ⟨h5, h6, h7⟩, strTy_iff h8, intTy_iff h9, intTy_iff h10⟩
  · cases h
theorem exch_fields : rateTy Try.prog 25 = true := by kernel_rfl
theorem open_rates {H : Type} {enc : TypeId × Value → H} {r : Reach} {b0 : Nat} {w : World} {sp : Nat → Bool} {held : Bool} {v : Value} {d : DataW H} {ps : List MemPlace} (hval : Value.okWide Try.prog w r b0 22 v) (hd : DataW.Trod enc Try.prog w 0 sp held 22 v d ps) : ∃ (n : Nat) (S : Nat → ByteArray) (F R : Nat → Int), TabAt w v n S F R := by
  obtain ⟨f0, f1, f2, he, ⟨ce, o0, o1, o2⟩, ⟨c0, c1, c2⟩, t0, t1, t2⟩ := rate_fields exch_fields
  exact open_table Try.underlying22 he ce o0 o1 o2 c0 c1 c2 t0 t1 t2 hval hd
/-- A rate among a law's arguments. -/
theorem open_rate {H : Type} {enc : TypeId × Value → H} {r : Reach} {b0 : Nat} {w : World} {sp : Nat → Bool} {held : Bool} {v : Value} {d : DataW H} {ps : List MemPlace} (hval : Value.okWide Try.prog w r b0 25 v) (hd : DataW.Trod enc Try.prog w 0 sp held 25 v d ps) : ∃ (s : ByteArray) (x y : Int), v = .agg #[.string s, .int .i64 x, .int .i64 y] ∧ s.size ≤ maxLen := by
  obtain ⟨f0, f1, f2, he, ⟨ce, o0, o1, o2⟩, ⟨c0, c1, c2⟩, t0, t1, t2⟩ := rate_fields exch_fields
  obtain ⟨cs, rfl, hsz⟩ := okWide_struct he hval
  obtain ⟨fuel, hf⟩ := hd
  obtain ⟨y0, y1, y2, k, _, _, k0, k1, k2⟩ := trod_struct3 he hf
  obtain ⟨l⟩ := cs
  have hl : l.length = 3 := hsz.trans ce
  match l, hl with
  | [v0, v1, v2], _ =>
    simp [Value.cells, o0, c0] at k0
    simp [Value.cells, o1, c1] at k1
    simp [Value.cells, o2, c2] at k2
    obtain ⟨s, z0, _, z1⟩ := DataW.trod_string t0 k0
    obtain ⟨x1, z2, _, _⟩ := DataW.trod_int t1 k1
    obtain ⟨x2, z3, _, _⟩ := DataW.trod_int t2 k2
    obtain rfl := List.head_eq_of_cons_eq z0
    obtain rfl := List.head_eq_of_cons_eq z2
    obtain rfl := List.head_eq_of_cons_eq z3
    exact ⟨s, x1, x2, rfl, z1⟩
end Go.Proofs.Ytjjidbnjkhdkaaa
