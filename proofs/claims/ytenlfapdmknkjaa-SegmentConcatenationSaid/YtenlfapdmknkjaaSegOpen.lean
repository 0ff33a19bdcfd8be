/- A segment, and bytes, among a law's arguments: their cells are known. No condition. -/
import Derived.Test.YtenlfapdmknkjaaSegReadAt
import Derived.Test.YtenlfapdmknkjaaLawRow
import Derived.Test.YtenlfapdmknkjaaRow
import Derived.Deep.Strs
namespace Go.Proofs.Ytenlfapdmknkjaa
open Go.RowKit Go.WideShapes Go.ChangeShapes Go.Deep

/-- Is a type one of texts, one of lists of lists of texts? -/
def textTy (P : Program) (t : TypeId) : Bool := match P.underlying t with | some .string => true | _ => false
theorem textTy_iff {P : Program} {t : TypeId} (h : textTy P t = true) : P.underlying t = some .string := by
  unfold textTy at h
  split at h
  · assumption
  · cases h
def elsTy (P : Program) (t : TypeId) : Bool := match P.underlying t with
  | some (.slice e) => match P.underlying e with
    | some (.slice f) => textTy P f && (P.cellsOf e == 1 && P.cellsOf f == 1)
    | _ => false
  | _ => false
theorem elsTy_iff {P : Program} {t : TypeId} (h : elsTy P t = true) : ∃ e f, P.underlying t = some (.slice e) ∧ P.underlying e = some (.slice f) ∧ P.underlying f = some .string ∧ P.cellsOf e = 1 ∧ P.cellsOf f = 1 := by
  unfold elsTy at h
  split at h
  · rename_i e h1
    split at h
    · rename_i f h2
      simp only [Bool.and_eq_true, beq_iff_eq] at h
      exact ⟨e, f, h1, h2, textTy_iff h.1, h.2.1, h.2.2⟩
    · cases h
  · cases h
/-- Is a type a struct of a text and such lists, one cell each? -/
def segTy (P : Program) (t : TypeId) : Bool := match P.underlying t with
  | some (.struct ⟨[f0, f1]⟩) => (P.cellsOf t == 2 && f0.offset == 0 && f1.offset == 1) && (P.cellsOf f0.type == 1 && P.cellsOf f1.type == 1) && (textTy P f0.type && elsTy P f1.type)
  | _ => false
theorem seg_fields {P : Program} {t : TypeId} (h : segTy P t = true) : ∃ f0 f1 : Field, P.underlying t = some (.struct #[f0, f1]) ∧ (P.cellsOf t = 2 ∧ f0.offset = 0 ∧ f1.offset = 1) ∧ (P.cellsOf f0.type = 1 ∧ P.cellsOf f1.type = 1) ∧ P.underlying f0.type = some .string ∧ elsTy P f1.type = true := by
  unfold segTy at h
  split at h
  · rename_i f0 f1 hu
    simp only [Bool.and_eq_true, beq_iff_eq] at h
    obtain ⟨⟨⟨⟨h1, h2⟩, h3⟩, h5, h6⟩, h8, h9⟩ := h
    exact ⟨f0, f1, hu, ⟨h1, h2, h3⟩, ⟨h5, h6⟩, textTy_iff h8, h9⟩
  · cases h
theorem segment_fields : segTy Try.prog 24 = true := by kernel_rfl
/-- A segment among a law's arguments. -/
theorem open_seg {H : Type} {enc : TypeId × Value → H} {r : Reach} {b0 : Nat} {w : World} {sp : Nat → Bool} {held : Bool} {v : Value} {d : DataW H} {ps : List MemPlace} (hval : Value.okWide Try.prog w r b0 24 v) (hd : DataW.Trod enc Try.prog w 0 sp held 24 v d ps) :
    ∃ (t : List UInt8) (x : Value) (E : List (List (List UInt8))), v = .agg #[strV t, x] ∧ t.length ≤ maxLen ∧ ElemsIn (Has_ w) w x E := by
  obtain ⟨f0, f1, he, ⟨ce, o0, o1⟩, ⟨c0, c1⟩, t0, t1⟩ := seg_fields segment_fields
  obtain ⟨te, tf, u1, u2, u3, u4, u5⟩ := elsTy_iff t1
  obtain ⟨cs, rfl, hsz⟩ := okWide_struct he hval
  obtain ⟨fuel, hf⟩ := hd
  obtain ⟨y0, y1, k, _, _, k0, k1⟩ := trod_struct2 he hf
  obtain ⟨l⟩ := cs
  have hl : l.length = 2 := hsz.trans ce
  match l, hl with
  | [v0, v1], _ =>
    simp [Value.cells, o0, c0] at k0
    simp [Value.cells, o1, c1] at k1
    obtain ⟨s, z0, _, z1⟩ := DataW.trod_string t0 k0
    obtain ⟨E, hE⟩ := open_elems u1 u2 u3 u4 u5 k1
    obtain rfl := List.head_eq_of_cons_eq z0
    exact ⟨s.data.toList, v1, E, rfl, by simpa using z1, hE⟩
/-- Bytes among a law's arguments. -/
theorem bytes_of_list {w : World} {v : Value} {n : Nat} {f : Nat → Int} (h : ListAt w .u8 v n f) : ∃ b : List UInt8, BytesIn (Has_ w) w v b := by
  rcases h with ⟨rfl, rfl⟩ | ⟨a, cap, rfl, h2, h3, h4⟩
  · exact ⟨[], rfl, .inl ⟨rfl, rfl⟩⟩
  · refine ⟨(List.range n).map fun i => UInt8.ofNat (f i).toNat, by simp, .inr ⟨a, cap, by simp, by simpa using h2, h3, fun h0 => ?_, fun j u hj => ?_⟩⟩
    · exact World.block_lt_of_cell? w _ (h4 0 (by simpa using h0)).1
    · rw [List.map_map] at hj
      obtain ⟨hj1, rfl⟩ := range_map _ n j u hj
      obtain ⟨c1, c2⟩ := h4 j hj1
      rw [c1]
      simp [Lit.wf, IntKind.min, IntKind.max, IntKind.signed, IntKind.bits] at c2
      show _ = some (byteV (UInt8.ofNat (f j).toNat))
      unfold byteV
      rw [UInt8.toNat_ofNat', Nat.mod_eq_of_lt (by omega)]
      congr 2
      omega
end Go.Proofs.Ytenlfapdmknkjaa
