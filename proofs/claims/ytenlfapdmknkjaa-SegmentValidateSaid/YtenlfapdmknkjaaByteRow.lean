/- Bytes in a row of the call's own, also one that a text was converted to: they are appended to, and read. No condition. -/
import Derived.Test.YtenlfapdmknkjaaMem
import Derived.Lib.AppendStr
import Derived.Lib.ConvBytes
import Derived.Laws.IdiomStrings
namespace Go.Proofs.Ytenlfapdmknkjaa
open Go.RowKit

def byteV (b : UInt8) : Value := .int .u8 (b.toNat : Int)
/-- Nothing of the first n cells is frozen. -/
def FreeTo (fz : Nat × Nat) (n : Nat) : Prop := ∀ k, k < n → ¬ (fz.1 ≤ k ∧ k < fz.2)
/-- A row of bytes of the call's own: nil, or the head of a block from base on. -/
def ByteRow (w : World) (base : Nat) (e : TypeId) (v : Value) (l : List UInt8) : Prop :=
  (v = .slice none 0 0 ∧ l = []) ∨ ∃ (g cap : Nat) (cur : Array Value) (fz : Nat × Nat), v = .slice (some ⟨g, 0, none⟩) l.length cap ∧ base ≤ g ∧ w.heap[g]? = some (.cells cur e fz) ∧ FreeTo fz cur.size ∧
    l.length ≤ cap ∧ cap ≤ maxLen ∧ cur.size = cap ∧ cur.toList.take l.length = l.map byteV
theorem ByteRow.nil (w : World) (base : Nat) (e : TypeId) : ByteRow w base e (.slice none 0 0) [] := .inl ⟨rfl, rfl⟩
theorem ByteRow.lt {w : World} {base : Nat} {e : TypeId} {v : Value} {l : List UInt8} (h : ByteRow w base e v l) : ∀ k, v.ownBlock = some k → base ≤ k ∧ k < w.heap.size := by
  intro k hk
  rcases h with ⟨rfl, _⟩ | ⟨g, cap, cur, fz, rfl, hb, hg, _⟩
  · simp [Value.ownBlock] at hk
  · simp [Value.ownBlock] at hk
    subst hk
    exact ⟨hb, (Array.getElem?_eq_some_iff.1 hg).1⟩
theorem ByteRow.same {w w1 : World} {base : Nat} {e : TypeId} {v : Value} {l : List UInt8} (h : ByteRow w base e v l) (hk : ∀ k, v.ownBlock = some k → w1.heap[k]? = w.heap[k]?) : ByteRow w1 base e v l := by
  rcases h with h | ⟨g, cap, cur, fz, rfl, hb, hg, h1⟩
  · exact .inl h
  · exact .inr ⟨g, cap, cur, fz, rfl, hb, (hk g rfl).trans hg, h1⟩
theorem ByteRow.keep {w w1 : World} {base : Nat} {e : TypeId} {v : Value} {l : List UInt8} (h : ByteRow w base e v l) (hb : Below w.heap.size w w1) : ByteRow w1 base e v l :=
  h.same fun k hk => hb.block k (h.lt k hk).2
/-- The bytes, to be read. -/
theorem ByteRow.cells {w : World} {base : Nat} {e : TypeId} {v : Value} {l : List UInt8} (h : ByteRow w base e v l) : CellsIn (fun b => base ≤ b ∧ b < w.heap.size ∧ v.ownBlock = some b) w 1 v l.length (l.map byteV) := by
  refine ⟨by simp, ?_⟩
  rcases h with ⟨rfl, rfl⟩ | ⟨g, cap, cur, fz, rfl, hb, hg, _, h1, h2, h3, h4⟩
  · exact .inl ⟨rfl, rfl⟩
  · refine .inr ⟨_, cap, rfl, h1, h2, fun _ => ⟨hb, (Array.getElem?_eq_some_iff.1 hg).1, rfl⟩, fun j u hj => ?_⟩
    rw [Addr.add_lit, Nat.zero_add, cell_of_row w g j cur e fz hg]
    rw [← h4, List.getElem?_take] at hj
    split at hj
    · simpa using hj
    · cases hj
theorem FreeTo.zero (n : Nat) : FreeTo (0, 0) n := fun k _ h => absurd h.2 (Nat.not_lt_zero k)
theorem storeCells_free (P : Program) (g : Nat) (t : TypeId) (fz : Nat × Nat) : ∀ (vs : List Value) (o i : Nat) (cur : Array Value) (w : World), w.heap[g]? = some (.cells cur t fz) → FreeTo fz cur.size → o + i + vs.length ≤ cur.size → (∀ v ∈ vs, v.oneCell' = true) →
    (storeCells ⟨g, o, none⟩ vs i).run P w = .ok () (w.setRow g (cur.toList.take (o + i) ++ vs ++ cur.toList.drop (o + i + vs.length)).toArray)
  | [], o, i, cur, w, hg, _, _, _ => by
    simp only [storeCells, List.append_nil, List.length_nil, Nat.add_zero, List.take_append_drop, Array.toArray_toList]
    rw [setRow_self w g cur t fz hg]
    rfl
  | v :: rest, o, i, cur, w, hg, hfz, hl, h1 => by
    have hi : o + i < cur.size := by simp at hl; omega
    have hcell : w.cell? ⟨g, o + i, none⟩ = some cur[o + i] := by simp [World.cell?, hg, hi]
    have hfro : w.frozen? ⟨g, o + i, none⟩ = false := by
      have := hfz (o + i) hi
      simp only [World.frozen?, hg, Bool.and_eq_false_iff, decide_eq_false_iff_not]
      omega
    have hst : (store ((⟨g, o, none⟩ : Addr).add i) v).run P w = .ok () (w.setRow g (cur.setIfInBounds (o + i) v)) := by
      rw [Addr.add_lit, run_store P w _ v _ (h1 v (by simp)), hcell]
      simp [hfro, setCell_eq_setRow w g (o + i) cur t fz v hg]
    have ih := storeCells_free P g t fz rest o (i + 1) (cur.setIfInBounds (o + i) v) (w.setRow g (cur.setIfInBounds (o + i) v)) (setRow_heap w g cur _ t _ hg) (by simpa using hfz) (by simp at hl ⊢; omega) (fun x hx => h1 x (by simp [hx]))
    simp only [storeCells, Sem.run_bind, hst, Result.andThen_ok, ih, setRow_setRow]
    congr 3
    have e := list_seg_step cur.toList (o + i) v rest (by simp at hl ⊢; omega)
    simpa [Array.toList_setIfInBounds, Nat.add_assoc] using e

theorem ByteRow.of_own {w : World} {base : Nat} {e : TypeId} {v : Value} {l : List UInt8} {n : Nat} (h : w.ownsRow base e 1 v n (l.map byteV)) : ByteRow w base e v l := by
  have hn : l.length = n := by have := h.1; simpa using this
  subst hn
  rcases h.2 with ⟨h1, h2⟩ | ⟨g, cap, cur, rfl, hb, hg, h3, h4, h5, h6⟩
  · exact .inl ⟨h1, List.eq_nil_of_length_eq_zero h2⟩
  · exact .inr ⟨g, cap, cur, (0, 0), rfl, hb, hg, FreeTo.zero _, h3, h4, by simpa using h5, by simpa using h6⟩
theorem byte_one (l : List UInt8) : ∀ u ∈ l.map byteV, u.oneCell' = true := by
  intro u hu
  obtain ⟨b, _, rfl⟩ := List.mem_map.1 hu
  rfl
theorem grown_row {l ns : List UInt8} {cur : Array Value} (h1 : l.length + ns.length ≤ cur.size) (h2 : cur.toList.take l.length = l.map byteV) :
    ((cur.toList.take l.length ++ ns.map byteV ++ cur.toList.drop (l.length + ns.length)).toArray.size = cur.size) ∧ (cur.toList.take l.length ++ ns.map byteV ++ cur.toList.drop (l.length + ns.length)).toArray.toList.take (l ++ ns).length = (l ++ ns).map byteV := by
  constructor
  · simp only [List.size_toArray, List.length_append, List.length_take, List.length_drop, Array.length_toList, List.length_map]
    omega
  · rw [h2, List.map_append]
    have : (l.map byteV ++ ns.map byteV).length = (l ++ ns).length := by simp
    rw [← this]
    exact List.take_left
section
variable {P : Program}
/-- append of bytes that lie in memory. -/
theorem run_append_bytes (w : World) (base : Nat) (t ty e : TypeId) (i : TypeInfo) (ht : P.underlying t = some (.slice e)) (hi : P.info? e = some i) (hz : i.zero = some (.int .u8 0)) (hsize : i.size = 1) (hby : i.bytes = 1)
    (v : Value) (l : List UInt8) (hown : ByteRow w base e v l) (ad : Addr) (c : Nat) (ns : List UInt8) (hnews : ∀ j u, (ns.map byteV)[j]? = some u → w.cell? (ad.add j) = some u) (hm : l.length + ns.length ≤ 100000000000000) (hbase : base ≤ w.heap.size) :
    ∃ v' w', (Builtin.append_ #[t, t] ty #[v, .slice (some ad) ns.length c]).run P w = .ok v' w' ∧ ByteRow w' base e v' (l ++ ns) ∧ w.grownBy w' v.ownBlock := by
  have hmax : (100000000000000 : Nat) ≤ maxLen := by unfold maxLen; omega
  have hnl : (ns.map byteV).length = ns.length * i.size := by rw [hsize]; simp
  rcases hown with ⟨rfl, rfl⟩ | ⟨g, cap, cur, fz, rfl, hbg, hg, hfz, hnc, hcm, hcs, htake⟩
  · obtain ⟨v', w', r1, r2, r3, _⟩ := run_append_own (P := P) w base t ty e i (.int .u8 0) 1 1 ht hi hz hsize hby rfl (by omega) (.slice none 0 0) 0 [] ⟨rfl, .inl ⟨rfl, rfl⟩⟩ ad ns.length c (ns.map byteV) (by simp) hnews (byte_one ns) (by simp at hm; omega) (by simp at hm; omega) hbase
    exact ⟨v', w', r1, ByteRow.of_own (by simpa using r2), r3⟩
  · by_cases hroom : l.length + ns.length ≤ cap
    · have hf := run_firstCells_some (P := P) w 1 ns.length ad ns.length c (ns.map byteV) (by simp) hnews
      have hst := storeCells_free P g e fz (ns.map byteV) l.length 0 cur w hg hfz (by simp; omega) (byte_one ns)
      simp only [Nat.add_zero, List.length_map] at hst
      obtain ⟨z1, z2⟩ := grown_row (ns := ns) (show l.length + ns.length ≤ cur.size by omega) htake
      refine ⟨.slice (some ⟨g, 0, none⟩) (l.length + ns.length) cap, w.setRow g (cur.toList.take l.length ++ ns.map byteV ++ cur.toList.drop (l.length + ns.length)).toArray, ?_, ?_, ⟨rfl, rfl, rfl, by simp, fun k _ hk => setRow_other w g k _ (fun e => hk (by simp [Value.ownBlock, e]))⟩⟩
      · simp [Builtin.append_, run_underlying ht, sizeOf, typeInfo, hi, hsize, Builtin.lenOf, hroom, hf, Addr.add_lit, hst]
      · exact .inr ⟨g, cap, _, fz, by simp, hbg, setRow_heap w g cur _ e _ hg, by rw [z1]; exact hfz, by simpa using hroom, hcm, by rw [z1]; exact hcs, z2⟩
    · have holds := (ByteRow.cells (w := w) (base := base) (e := e) (v := .slice (some ⟨g, 0, none⟩) l.length cap) (l := l) (.inr ⟨g, cap, cur, fz, rfl, hbg, hg, hfz, hnc, hcm, hcs, htake⟩))
      have holds2 : ∀ j u, (l.map byteV)[j]? = some u → w.cell? ((⟨g, 0, none⟩ : Addr).add j) = some u := by
        rcases holds.2 with ⟨h1, _⟩ | ⟨a1, c1, h1, _, _, _, h2⟩
        · cases h1
        · cases h1
          exact h2
      have hr := run_append_grow (P := P) w t ty e i (.int .u8 0) ht hi hz ⟨g, 0, none⟩ l.length cap (l.map byteV) (by rw [hsize]; simp) holds2 ad ns.length c (ns.map byteV) hnl hnews (by omega) (by omega) (by rw [hby]; exact growslice_fits (by omega) (by omega))
      have hge := grownCap_ge w (l.length + ns.length) cap e
      have hcm2 : grownCap w (l.length + ns.length) cap e ≤ maxLen := grownCap_le_maxLen w (l.length + ns.length) cap e (by omega)
      refine ⟨_, _, hr, .inr ⟨w.heap.size, _, _, (0, 0), by simp, hbase, heap_alloc_new w.drew _, FreeTo.zero _, by simpa using hge, hcm2, ?_, ?_⟩, ⟨rfl, rfl, rfl, by simp, fun k hk _ => heap_alloc_old w.drew _ hk⟩⟩
      · have hz1 : (Value.int IntKind.u8 0).cells.size = 1 := rfl
        simp only [Array.size_append, List.size_toArray, size_zeroCells, hz1, List.length_map]
        omega
      · simp only [Array.toList_append, List.append_assoc]
        rw [← List.append_assoc, ← List.map_append]
        have : ((l ++ ns).map byteV).length = (l ++ ns).length := by simp
        rw [← this]
        exact List.take_left
theorem strCells_list (l : List UInt8) : Lib.strCells ⟨l.toArray⟩ = l.map byteV := rfl
/-- append of a text. -/
theorem run_append_text (w : World) (base : Nat) (t u ty e : TypeId) (i : TypeInfo) (ht : P.underlying t = some (.slice e)) (hu : P.underlying u = some .string) (hi : P.info? e = some i) (hz : i.zero = some (.int .u8 0)) (hsize : i.size = 1) (hby : i.bytes = 1)
    (v : Value) (l : List UInt8) (hown : ByteRow w base e v l) (ns : List UInt8) (hm : l.length + ns.length ≤ 100000000000000) (hbase : base ≤ w.heap.size) :
    ∃ v' w', (Builtin.append_ #[t, u] ty #[v, strV ns]).run P w = .ok v' w' ∧ ByteRow w' base e v' (l ++ ns) ∧ w.grownBy w' v.ownBlock := by
  have hmax : (100000000000000 : Nat) ≤ maxLen := by unfold maxLen; omega
  have hss : (⟨ns.toArray⟩ : ByteArray).size = ns.length := by show ns.toArray.size = _; simp
  unfold strV
  rcases hown with ⟨rfl, rfl⟩ | ⟨g, cap, cur, fz, rfl, hbg, hg, hfz, hnc, hcm, hcs, htake⟩
  · obtain ⟨v', w', r1, r2, r3, _⟩ := Lib.run_append_own_string (P := P) w base t u ty e i ht hu hi hz hsize hby (.slice none 0 0) 0 [] ⟨rfl, .inl ⟨rfl, rfl⟩⟩ ⟨ns.toArray⟩ (by rw [hss]; simp at hm; omega) (by rw [hss]; simp at hm; omega) hbase
    rw [strCells_list] at r2
    exact ⟨v', w', r1, ByteRow.of_own (by simpa using r2), r3⟩
  · by_cases hroom : l.length + ns.length ≤ cap
    · have hf := Lib.run_firstCells_string (P := P) w 1 ⟨ns.toArray⟩
      rw [strCells_list, hss] at hf
      have hst := storeCells_free P g e fz (ns.map byteV) l.length 0 cur w hg hfz (by simp; omega) (byte_one ns)
      simp only [Nat.add_zero, List.length_map] at hst
      obtain ⟨z1, z2⟩ := grown_row (ns := ns) (show l.length + ns.length ≤ cur.size by omega) htake
      refine ⟨.slice (some ⟨g, 0, none⟩) (l.length + ns.length) cap, w.setRow g (cur.toList.take l.length ++ ns.map byteV ++ cur.toList.drop (l.length + ns.length)).toArray, ?_, ?_, ⟨rfl, rfl, rfl, by simp, fun k _ hk => setRow_other w g k _ (fun e => hk (by simp [Value.ownBlock, e]))⟩⟩
      · simp [Builtin.append_, run_underlying ht, run_underlying hu, sizeOf, typeInfo, hi, hsize, Builtin.lenOf, hss, hroom, hf, Addr.add_lit, hst]
      · exact .inr ⟨g, cap, _, fz, by simp, hbg, setRow_heap w g cur _ e _ hg, by rw [z1]; exact hfz, by simpa using hroom, hcm, by rw [z1]; exact hcs, z2⟩
    · have holds := (ByteRow.cells (w := w) (base := base) (e := e) (v := .slice (some ⟨g, 0, none⟩) l.length cap) (l := l) (.inr ⟨g, cap, cur, fz, rfl, hbg, hg, hfz, hnc, hcm, hcs, htake⟩))
      have holds2 : ∀ j u, (l.map byteV)[j]? = some u → w.cell? ((⟨g, 0, none⟩ : Addr).add j) = some u := by
        rcases holds.2 with ⟨h1, _⟩ | ⟨a1, c1, h1, _, _, _, h2⟩
        · cases h1
        · cases h1
          exact h2
      have hr := Lib.run_append_grow_string (P := P) w t u ty e i (.int .u8 0) ht hu hi hz ⟨g, 0, none⟩ l.length cap (l.map byteV) (by rw [hsize]; simp) holds2 ⟨ns.toArray⟩ (by rw [hss]; omega) (by rw [hss]; omega) (by rw [hby, hss]; exact growslice_fits (by omega) (by omega))
      rw [hss, strCells_list] at hr
      have hge := grownCap_ge w (l.length + ns.length) cap e
      have hcm2 : grownCap w (l.length + ns.length) cap e ≤ maxLen := grownCap_le_maxLen w (l.length + ns.length) cap e (by omega)
      refine ⟨_, _, hr, .inr ⟨w.heap.size, _, _, (0, 0), by simp, hbase, heap_alloc_new w.drew _, FreeTo.zero _, by simpa using hge, hcm2, ?_, ?_⟩, ⟨rfl, rfl, rfl, by simp, fun k hk _ => heap_alloc_old w.drew _ hk⟩⟩
      · have hz1 : (Value.int IntKind.u8 0).cells.size = 1 := rfl
        simp only [Array.size_append, List.size_toArray, size_zeroCells, hz1, List.length_map]
        omega
      · simp only [Array.toList_append, List.append_assoc]
        rw [← List.append_assoc, ← List.map_append]
        have : ((l ++ ns).map byteV).length = (l ++ ns).length := by simp
        rw [← this]
        exact List.take_left
/-- The operations, for the walk. -/
theorem wpList_append_bytes {ops : Array Oper} {rest : List Oper} {o : Oper} {a : Act} {w : World} {Q : Exit → Act → World → Prop} (hgd : o.guard = none) (s x : Operand) (t : TypeId)
    (ho : o.op = .call { callee := .builtin .append, args := #[s, x], argTypes := #[t, t] })
    (base : Nat) (e : TypeId) (i : TypeInfo) (ht : P.underlying t = some (.slice e)) (hi : P.info? e = some i) (hz : i.zero = some (.int .u8 0)) (hsize : i.size = 1) (hby : i.bytes = 1)
    (v : Value) (l : List UInt8) (hs : a.eval s = v) (hown : ByteRow w base e v l) (ad : Addr) (c : Nat) (ns : List UInt8) (hx : a.eval x = .slice (some ad) ns.length c)
    (hnews : ∀ j u, (ns.map byteV)[j]? = some u → w.cell? (ad.add j) = some u) (hm : l.length + ns.length ≤ 100000000000000) (hbase : base ≤ w.heap.size)
    (h : ∀ v' w', ByteRow w' base e v' (l ++ ns) → w.grownBy w' v.ownBlock → wpList P ops Q rest (a.put o.dst v') w') : wpList P ops Q (o :: rest) a w := by
  refine wpList_plain hgd fun K hK => ?_
  obtain ⟨v', w', hr, h2, h3⟩ := run_append_bytes (P := P) w base t o.type e i ht hi hz hsize hby v l hown ad c ns hnews hm hbase
  unfold Oper.wp execOp
  simp only [ho, resolve, invoke, builtin, Sem.run_bind, Sem.run_pure, Result.andThen_ok, List.map_toArray, List.map_cons, List.map_nil, hs, hx, hr]
  exact hK _ _ (h v' w' h2 h3)
theorem wpList_append_text {ops : Array Oper} {rest : List Oper} {o : Oper} {a : Act} {w : World} {Q : Exit → Act → World → Prop} (hgd : o.guard = none) (s x : Operand) (t u : TypeId)
    (ho : o.op = .call { callee := .builtin .append, args := #[s, x], argTypes := #[t, u] })
    (base : Nat) (e : TypeId) (i : TypeInfo) (ht : P.underlying t = some (.slice e)) (hu : P.underlying u = some .string) (hi : P.info? e = some i) (hz : i.zero = some (.int .u8 0)) (hsize : i.size = 1) (hby : i.bytes = 1)
    (v : Value) (l : List UInt8) (hs : a.eval s = v) (hown : ByteRow w base e v l) (ns : List UInt8) (hx : a.eval x = strV ns) (hm : l.length + ns.length ≤ 100000000000000) (hbase : base ≤ w.heap.size)
    (h : ∀ v' w', ByteRow w' base e v' (l ++ ns) → w.grownBy w' v.ownBlock → wpList P ops Q rest (a.put o.dst v') w') : wpList P ops Q (o :: rest) a w := by
  refine wpList_plain hgd fun K hK => ?_
  obtain ⟨v', w', hr, h2, h3⟩ := run_append_text (P := P) w base t u o.type e i ht hu hi hz hsize hby v l hown ns hm hbase
  unfold Oper.wp execOp
  simp only [ho, resolve, invoke, builtin, Sem.run_bind, Sem.run_pure, Result.andThen_ok, List.map_toArray, List.map_cons, List.map_nil, hs, hx, hr]
  exact hK _ _ (h v' w' h2 h3)
/-- Bytes converted to a text. -/
theorem run_text_of_cells {p : Nat → Prop} (w : World) (src dst e : TypeId) (v : Value) (l : List UInt8) (hs : P.underlying src = some (.slice e)) (he : P.underlying e = some (.int .u8)) (hd : P.underlying dst = some .string)
    (h : CellsIn p w 1 v l.length (l.map byteV)) : (convert src dst v).run P w = .ok (strV l) w := by
  obtain ⟨_, ⟨rfl, h0⟩ | ⟨a, cap, rfl, _, _, _, hc⟩⟩ := h
  · obtain rfl := List.eq_nil_of_length_eq_zero h0
    rw [run_convert_bytes_string _ _ _ e _ _ _ hs he hd]
    rfl
  · refine run_convert_bytes_back w src dst e a cap l hs he hd (fun j hj => hc j _ ?_)
    rw [List.getElem?_map, List.getElem?_eq_getElem hj]
    rfl
/-- A text converted to bytes. -/
theorem run_bytes_of_text (w : World) (src dst e : TypeId) (l : List UInt8) (hs : P.underlying src = some .string) (hd : P.underlying dst = some (.slice e)) (he : P.underlying e = some (.int .u8)) (hm : l.length ≤ maxLen) :
    ∃ w', (convert src dst (strV l)).run P w = .ok (.slice (some ⟨w.heap.size, 0, none⟩) l.length (grownCap w l.length 0 e)) w' ∧ ByteRow w' w.heap.size e (.slice (some ⟨w.heap.size, 0, none⟩) l.length (grownCap w l.length 0 e)) l ∧ Below w.heap.size w w' ∧ w'.heap.size = w.heap.size + 1 := by
  have hss : (⟨l.toArray⟩ : ByteArray).size = l.length := by show l.toArray.size = _; simp
  have hr := Lib.run_convert_string_bytes (P := P) w src dst e ⟨l.toArray⟩ hs hd he
  rw [hss] at hr
  have hge := grownCap_ge w l.length 0 e
  refine ⟨_, hr, .inr ⟨w.heap.size, _, Lib.bytesCells w e ⟨l.toArray⟩, _, rfl, Nat.le_refl _, Lib.bytesWorld_at_new w e ⟨l.toArray⟩, fun k hk hh => ?_, hge, grownCap_le_maxLen w _ 0 e hm, ?_, ?_⟩, ⟨rfl, rfl, rfl, by rw [Lib.bytesWorld_size]; omega, fun j hj => Lib.bytesWorld_at_old w e _ j hj⟩, Lib.bytesWorld_size w e _⟩
  · simp only at hh
    omega
  · unfold Lib.bytesCells
    simp only [Array.size_append, Array.size_map, Array.size_replicate]
    rw [hss]
    have : l.toArray.size = l.length := by simp
    omega
  · unfold Lib.bytesCells
    simp [byteV]
end
end Go.Proofs.Ytenlfapdmknkjaa
