/- The reading of a segment: what lies in memory while it runs, and that each step keeps it. No condition.
A segment, and bytes, among a law's arguments: their cells are known. No condition.
What Code and Country of the reference of layer 7 return, for every text. No condition.
Lists of integers that a call makes: a block of its own. No condition.
The made inputs' source of numbers: what Next returns. Condition: the source lies in a block of the call's own, its list in older ones.
The made inputs' source of texts: what text returns. Condition: the source lies in a block of the call's own, its list in older ones.
The made inputs' source of codes and countries: what Code, Countries and Country return. Condition: the source lies in a block of the call's own, its list in older ones.
What special and text of the reference of layer 6 return: the encoding of a segment. Condition: the segment's cells are known, and its encoding is not too long.
What read of the reference of layer 6 returns: the bytes of a segment taken apart. Condition: the bytes' cells are known, and there are not too many.
What Segment of the reference of layer 6 returns: the error of a segment. Condition: the segment's cells are known.
What Next of the reference of layer 6 returns: the first segment of the bytes. Condition: the bytes' cells are known, and there are not too many.
What Decode of the reference of layer 6 returns: the segments of the bytes. Condition: the bytes' cells are known, and there are not too many.
What Cut of the made inputs returns: the list's first numbers. Condition: the list's cells are known.
Plain facts on how the landed package segment reads: by cuts at the first byte outside of a pair. What it reads of an encoding is what was encoded. No program in this text. No condition.
Segments and bytes in memory, as laws use them: that they stay, are read as texts, and are laid by literals. No condition.
Plain facts on the checksum of some bytes: it differs where a single byte differs. No program in this text. No condition. -/
import Derived.Test.YtepkihoakagidaaDoorG1
import Derived.Laws.OwnMore
import Derived.Deep.Strs
import Derived.OwnWalk
import Derived.Laws.MakeOwn
import Derived.Laws.IdiomStrings
import Derived.Deep.QuietTactic
import Derived.BigQuiet
import Derived.BigRegion
import Derived.Handy
import Derived.Deep.RegionHeld3
namespace Go.Proofs.YtepkihoakagidaaDoor
open Go.RowKit

/-- Bytes that lie in memory. -/
def BytesIn (p : Nat → Prop) (w : World) (v : Value) (b : List UInt8) : Prop := CellsIn p w 1 v b.length (b.map byteV)

/-- Only blocks of one type turn. -/
structure TurnsTy (t : TypeId) (w w1 : World) : Prop where
  os : w1.os = w.os
  tape : w1.tape = w.tape
  output : w1.output = w.output
  size : w.heap.size ≤ w1.heap.size
  block : ∀ (k : Nat) (cs : Array Value) (t1 : TypeId) (fz : Nat × Nat), w.heap[k]? = some (.cells cs t1 fz) → t1 ≠ t → w1.heap[k]? = w.heap[k]?
theorem ByteRow.ty {w : World} {base : Nat} {e : TypeId} {v : Value} {l : List UInt8} (h : ByteRow w base e v l) : ∀ k, v.ownBlock = some k → ∃ cs fz, w.heap[k]? = some (.cells cs e fz) := by
  intro k hk
  rcases h with ⟨rfl, _⟩ | ⟨g, cap, cur, fz, rfl, hb, hg, _⟩
  · simp [Value.ownBlock] at hk
  · simp [Value.ownBlock] at hk
    subst hk
    exact ⟨cur, fz, hg⟩
theorem own_ty {w : World} {base : Nat} {e : TypeId} {size : Nat} {v : Value} {n : Nat} {xs : List Value} (h : w.ownsRow base e size v n xs) : ∀ k, v.ownBlock = some k → ∃ cs fz, w.heap[k]? = some (.cells cs e fz) := by
  intro k hk
  rcases h.2 with ⟨rfl, _⟩ | ⟨g, cap, cur, rfl, hb, hg, _⟩
  · simp [Value.ownBlock] at hk
  · simp [Value.ownBlock] at hk
    subst hk
    exact ⟨cur, _, hg⟩
theorem TurnsTy.of_grown {t : TypeId} {w w1 : World} {v : Value} (hg : w.grownBy w1 v.ownBlock) (ht : ∀ k, v.ownBlock = some k → ∃ cs fz, w.heap[k]? = some (.cells cs t fz)) : TurnsTy t w w1 :=
  ⟨hg.os, hg.tape, hg.output, hg.size, fun k cs t1 fz hk hne => hg.block k (Array.getElem?_eq_some_iff.1 hk).1 (fun e => by
    obtain ⟨cs2, fz2, h2⟩ := ht k e.symm
    rw [hk] at h2
    injection h2 with h2
    injection h2 with _ h2
    exact hne h2)⟩
theorem TurnsTy.of_below {t : TypeId} {w w1 : World} (h : Below w.heap.size w w1) : TurnsTy t w w1 :=
  ⟨h.os, h.tape, h.output, h.size, fun k _ _ _ hk _ => h.block k (Array.getElem?_eq_some_iff.1 hk).1⟩
theorem TurnsTy.of_set {t : TypeId} {w : World} {g i : Nat} {cur : Array Value} {fz : Nat × Nat} (hg : w.heap[g]? = some (.cells cur t fz)) (x : Value) : TurnsTy t w (w.setCell ⟨g, i, none⟩ x) := by
  rw [setCell_eq_setRow w g i cur t fz x hg]
  refine ⟨rfl, rfl, rfl, by simp, fun k cs t1 fz1 hk hne => setRow_other w g k _ (fun e => ?_)⟩
  subst e
  rw [hk] at hg
  injection hg with hg
  injection hg with _ hg
  exact hne hg
theorem TurnsTy.own {t : TypeId} {w w1 : World} (h : TurnsTy t w w1) {base : Nat} {e : TypeId} {size : Nat} {v : Value} {n : Nat} {xs : List Value} (hr : w.ownsRow base e size v n xs) (hne : e ≠ t) : w1.ownsRow base e size v n xs := by
  refine ⟨hr.1, ?_⟩
  rcases hr.2 with hn | ⟨g, cap, cur, rfl, hb, hg, rest⟩
  · exact .inl hn
  · exact .inr ⟨g, cap, cur, rfl, hb, (h.block g _ _ _ hg hne).trans hg, rest⟩
theorem TurnsTy.bytes {t : TypeId} {w w1 : World} (h : TurnsTy t w w1) {base : Nat} {e : TypeId} {v : Value} {l : List UInt8} (hr : ByteRow w base e v l) (hne : e ≠ t) : ByteRow w1 base e v l :=
  hr.same fun k hk => by
    obtain ⟨cs, fz, hg⟩ := hr.ty k hk
    exact h.block k _ _ _ hg hne
/-- Blocks of finished elements: texts, older than the element that is being read. -/
def Fin_ (ts : TypeId) (w : World) (H : Nat) (b : Nat) : Prop := (∃ cs fz, w.heap[b]? = some (.cells cs ts fz)) ∧ b < H
theorem TurnsTy.fin {t ts : TypeId} {w w1 : World} (h : TurnsTy t w w1) (hne : ts ≠ t) {H b : Nat} (hb : Fin_ ts w H b) : Fin_ ts w1 H b ∧ w1.heap[b]? = w.heap[b]? := by
  obtain ⟨⟨cs, fz, hg⟩, h2⟩ := hb
  have := h.block b _ _ _ hg hne
  exact ⟨⟨⟨cs, fz, this.trans hg⟩, h2⟩, this⟩

/-- What lies there while a segment is read. -/
structure ReadAt (w wx : World) (vw : Value) (word tag : List UInt8) (vE : Value) : Prop where
  row : ByteRow wx w.heap.size 5 vw word
  box : wx.heap[w.heap.size + 2]? = some (.cells #[strV tag, vE] 49 (0, 0))
  res : wx.heap[w.heap.size]? = some (.cells #[strV [], .slice none 0 0] 49 (0, 0))
  below : Below w.heap.size w wx
/-- The elements: finished ones, and the one that is being read, which began when the heap had H blocks. -/
structure ElsAt (w wx : World) (H : Nat) (vE : Value) (us : List Value) (L : List (List (List UInt8))) (ucur : Value) (cur : List (List UInt8)) : Prop where
  els : wx.ownsRow w.heap.size 50 1 vE (L.length + 1) (us ++ [ucur])
  len : us.length = L.length
  fin : ∀ (i : Nat) (e : List (List UInt8)), L[i]? = some e → ∃ u, us[i]? = some u ∧ StrsIn (Fin_ 9 wx H) wx u e
  row : wx.ownsRow H 9 1 ucur cur.length (cur.map strV)
  short : ∀ x ∈ cur, x.length ≤ maxLen
  lo : w.heap.size ≤ H
  hi : H ≤ wx.heap.size
theorem ReadAt.cells {w wx : World} {vw : Value} {word tag : List UInt8} {vE : Value} (h : ReadAt w wx vw word tag vE) :
    (wx.cell? ⟨w.heap.size + 2, 0, none⟩ = some (strV tag) ∧ wx.frozen? ⟨w.heap.size + 2, 0, none⟩ = false) ∧ (wx.cell? ⟨w.heap.size + 2, 1, none⟩ = some vE ∧ wx.frozen? ⟨w.heap.size + 2, 1, none⟩ = false) := by
  have := h.box
  refine ⟨⟨?_, ?_⟩, ?_, ?_⟩ <;> simp [World.cell?, World.frozen?, this]
theorem ReadAt.lt {w wx : World} {vw : Value} {word tag : List UInt8} {vE : Value} (h : ReadAt w wx vw word tag vE) : w.heap.size + 2 < wx.heap.size := (Array.getElem?_eq_some_iff.1 h.box).1
/-- Turning blocks of bytes, of texts, of lists. -/
theorem ReadAt.turn {t : TypeId} {w wx w1 : World} {vw vw1 : Value} {word word1 tag : List UInt8} {vE : Value} (h : ReadAt w wx vw word tag vE) (ht : TurnsTy t wx w1) (hne : 49 ≠ t) (hr : ByteRow w1 w.heap.size 5 vw1 word1) (hb : Below w.heap.size w w1) : ReadAt w w1 vw1 word1 tag vE :=
  ⟨hr, (ht.block _ _ _ _ h.box hne).trans h.box, (ht.block _ _ _ _ h.res hne).trans h.res, hb⟩
theorem below_grown {w wx w1 : World} {row : Option Nat} (h : Below w.heap.size w wx) (hg : wx.grownBy w1 row) (hrow : ∀ k, row = some k → w.heap.size ≤ k) : Below w.heap.size w w1 :=
  ⟨hg.os.trans h.os, hg.tape.trans h.tape, hg.output.trans h.output, Nat.le_trans h.size hg.size, fun b hb => (hg.block b (Nat.lt_of_lt_of_le hb h.size) (fun e => by have := hrow b e.symm; omega)).trans (h.block b hb)⟩
/-- A byte more. -/
theorem ReadAt.word {w wx w1 : World} {vw vw1 : Value} {word word1 tag : List UInt8} {vE : Value} (h : ReadAt w wx vw word tag vE) (hr : ByteRow w1 w.heap.size 5 vw1 word1) (hg : wx.grownBy w1 vw.ownBlock) : ReadAt w w1 vw1 word1 tag vE :=
  h.turn (TurnsTy.of_grown hg h.row.ty) (by decide) hr (below_grown h.below hg fun k hk => (h.row.lt k hk).1)
theorem ReadAt.alloc {w wx : World} {vw : Value} {word tag : List UInt8} {vE : Value} (h : ReadAt w wx vw word tag vE) (o : Obj) : ReadAt w (wx.alloc o) vw word tag vE := by
  have hb : Below wx.heap.size wx (wx.alloc o) := (Below.refl _ _).alloc (Nat.le_refl _) _
  exact h.turn (t := 5) (TurnsTy.of_below hb) (by decide) (h.row.keep hb) (h.below.trans (hb.mono h.below.size))
theorem ReadAt.drew {w wx : World} {vw : Value} {word tag : List UInt8} {vE : Value} (h : ReadAt w wx vw word tag vE) : ReadAt w wx.drew vw word tag vE := ⟨h.row, h.box, h.res, h.below.drew⟩
/-- An empty word. -/
theorem ReadAt.empty {w wx : World} {vw : Value} {word tag : List UInt8} {vE : Value} (h : ReadAt w wx vw word tag vE) : ReadAt w wx (.slice none 0 0) [] tag vE := ⟨ByteRow.nil _ _ _, h.box, h.res, h.below⟩
/-- A cell of the segment written. -/
theorem ReadAt.set {w wx : World} {vw : Value} {word tag tag1 : List UInt8} {vE vE1 : Value} (h : ReadAt w wx vw word tag vE) (i : Nat) (x : Value) (hx : (#[strV tag, vE] : Array Value).setIfInBounds i x = #[strV tag1, vE1]) : ReadAt w (wx.setCell ⟨w.heap.size + 2, i, none⟩ x) vw word tag1 vE1 := by
  have ht := TurnsTy.of_set (i := i) h.box x
  have hs := setCell_eq_setRow wx (w.heap.size + 2) i _ _ _ x h.box
  refine ⟨ht.bytes h.row (by decide), ?_, ?_, h.below.setCell (by show w.heap.size ≤ w.heap.size + 2; omega) _⟩
  · rw [hs, ← hx]
    exact setRow_heap wx _ _ _ _ _ h.box
  · rw [hs]
    exact (setRow_other wx _ _ _ (by omega)).trans h.res
theorem ElsAt.turn {t : TypeId} {w wx w1 : World} {H : Nat} {vE ucur : Value} {us : List Value} {L : List (List (List UInt8))} {cur : List (List UInt8)} (h : ElsAt w wx H vE us L ucur cur) (ht : TurnsTy t wx w1) (h1 : 50 ≠ t) (h2 : 9 ≠ t) : ElsAt w w1 H vE us L ucur cur :=
  ⟨ht.own h.els h1, h.len, fun i e hi => by
    obtain ⟨u, h3, h4⟩ := h.fin i e hi
    exact ⟨u, h3, h4.keep fun b hb => ht.fin h2 hb⟩, ht.own h.row h2, h.short, h.lo, Nat.le_trans h.hi ht.size⟩
/-- A new element is opened. -/
theorem ElsAt.push {w wx w1 : World} {H : Nat} {vE vE1 ucur : Value} {us : List Value} {L : List (List (List UInt8))} {cur : List (List UInt8)} (h : ElsAt w wx H vE us L ucur cur) (hr : w1.ownsRow w.heap.size 50 1 vE1 (L.length + 1 + 1) ((us ++ [ucur]) ++ [.slice none 0 0])) (hg : wx.grownBy w1 vE.ownBlock) :
    ElsAt w w1 w1.heap.size vE1 (us ++ [ucur]) (L ++ [cur]) (.slice none 0 0) [] := by
  have ht := TurnsTy.of_grown hg (own_ty h.els)
  have hz := hg.size
  refine ⟨by simpa using hr, by simp [h.len], fun i e hi => ?_, World.ownsRow_nil _ _ _ _, fun x hx => absurd hx (by simp), Nat.le_trans h.lo (Nat.le_trans h.hi hz), Nat.le_refl _⟩
  by_cases hl : i < L.length
  · rw [List.getElem?_append_left hl] at hi
    obtain ⟨u, h3, h4⟩ := h.fin i e hi
    refine ⟨u, by rw [List.getElem?_append_left (by rw [h.len]; exact hl)]; exact h3, h4.keep fun b hb => ?_⟩
    obtain ⟨k1, k2⟩ := ht.fin (by decide) hb
    exact ⟨⟨k1.1, by have := k1.2; have := h.hi; omega⟩, k2⟩
  · have hlt := (List.getElem?_eq_some_iff.1 hi).1
    rw [List.length_append] at hlt
    have h1 : ([cur] : List (List (List UInt8))).length = 1 := rfl
    obtain rfl : i = L.length := by omega
    rw [List.getElem?_append_right (Nat.le_refl _)] at hi
    simp at hi
    subst hi
    refine ⟨ucur, by rw [List.getElem?_append_right (by rw [h.len]; exact Nat.le_refl _), h.len]; simp, ⟨(CellsIn.own h.row).keep fun b hb => ?_, h.short⟩⟩
    obtain ⟨cs, fz, hc⟩ := own_ty h.row b hb.2.2
    have := ht.block b _ _ _ hc (by decide)
    exact ⟨⟨⟨cs, fz, this.trans hc⟩, by have := hb.2.1; omega⟩, this⟩
/-- The first element is opened. -/
theorem ElsAt.first {w w1 : World} {vE1 : Value} (hr : w1.ownsRow w.heap.size 50 1 vE1 (0 + 1) ([] ++ [.slice none 0 0])) (hz : w.heap.size ≤ w1.heap.size) : ElsAt w w1 w1.heap.size vE1 [] [] (.slice none 0 0) [] :=
  ⟨by simpa using hr, rfl, fun i e hi => by simp at hi, World.ownsRow_nil _ _ _ _, fun x hx => absurd hx (by simp), hz, Nat.le_refl _⟩
/-- A component more. -/
theorem ElsAt.comp {w wx w1 : World} {H g n cap : Nat} {ucur u1 : Value} {us : List Value} {L : List (List (List UInt8))} {cur : List (List UInt8)} {word : List UInt8} (h : ElsAt w wx H (.slice (some ⟨g, 0, none⟩) n cap) us L ucur cur) (hw : word.length ≤ maxLen)
    (hr : w1.ownsRow H 9 1 u1 (cur.length + 1) (cur.map strV ++ [strV word])) (hg : wx.grownBy w1 ucur.ownBlock) :
    ElsAt w (w1.setCell ⟨g, L.length, none⟩ u1) H (.slice (some ⟨g, 0, none⟩) n cap) us L u1 (cur ++ [word]) := by
  have ht := TurnsTy.of_grown hg (own_ty h.row)
  have hE := ht.own h.els (by decide)
  have hn : n = L.length + 1 := by
    rcases hE.2 with ⟨h1, _⟩ | ⟨_, _, _, h1, _⟩
    · cases h1
    · injection h1
  subst hn
  obtain ⟨cs, fz, hb⟩ := own_ty hE g rfl
  have ht2 := TurnsTy.of_set (i := L.length) hb u1
  have hst := (hE.stored L.length u1).1
  rw [List.set_append_right _ _ (by rw [h.len]; exact Nat.le_refl _), h.len, Nat.sub_self] at hst
  refine ⟨hst, h.len, fun i e hi => ?_, by simpa using ht2.own hr (by decide), fun x hx => ?_, h.lo, Nat.le_trans h.hi (Nat.le_trans ht.size ht2.size)⟩
  · obtain ⟨u, h3, h4⟩ := h.fin i e hi
    refine ⟨u, h3, h4.keep fun b hb => ?_⟩
    obtain ⟨⟨cs1, fz1, hc⟩, hl⟩ := hb
    have hbH := h.hi
    have e1 : w1.heap[b]? = wx.heap[b]? := hg.block b (by omega) (fun e => by
      have := (h.row.lt b e.symm).1
      omega)
    have e2 := ht2.block b _ _ _ (e1.trans hc) (by decide)
    exact ⟨⟨⟨cs1, fz1, e2.trans (e1.trans hc)⟩, hl⟩, e2.trans e1⟩
  · rcases List.mem_append.1 hx with hx | hx
    · exact h.short x hx
    · rw [List.mem_singleton.1 hx]; exact hw
end Go.Proofs.YtepkihoakagidaaDoor
namespace Go.Proofs.YtepkihoakagidaaDoor
open Go.RowKit Go.WideShapes Go.ChangeShapes Go.Deep

/-- Is a type one of texts, one of lists of lists of texts? -/
def textTy (P : Program) (t : TypeId) : Bool := match P.underlying t with | some .string => true | _ => false
theorem textTy_iff {P : Program} {t : TypeId} (h : textTy P t = true) : P.underlying t = some .string := by
  unfold textTy at h
  split at h
  · assumption
  · cases h
def elsTy (P : Program) (t : TypeId) : Bool := match P.underlying t with
  | some (.slice e) => match P.underlying e with
    | some (.slice f) => textTy P f && (P.cellsOf e == 1 && P.cellsOf f == 1)
    | _ => false
  | _ => false
theorem elsTy_iff {P : Program} {t : TypeId} (h : elsTy P t = true) : ∃ e f, P.underlying t = some (.slice e) ∧ P.underlying e = some (.slice f) ∧ P.underlying f = some .string ∧ P.cellsOf e = 1 ∧ P.cellsOf f = 1 := by
  unfold elsTy at h
  split at h
  · rename_i e h1
    split at h
    · rename_i f h2
      simp only [Bool.and_eq_true, beq_iff_eq] at h
      exact ⟨e, f, h1, h2, textTy_iff h.1, h.2.1, h.2.2⟩
    · cases h
  · cases h
/-- Is a type a struct of a text and such lists, one cell each? -/
def segTy (P : Program) (t : TypeId) : Bool := match P.underlying t with
  | some (.struct ⟨[f0, f1]⟩) => (P.cellsOf t == 2 && f0.offset == 0 && f1.offset == 1) && (P.cellsOf f0.type == 1 && P.cellsOf f1.type == 1) && (textTy P f0.type && elsTy P f1.type)
  | _ => false
theorem seg_fields {P : Program} {t : TypeId} (h : segTy P t = true) : ∃ f0 f1 : Field, P.underlying t = some (.struct #[f0, f1]) ∧ (P.cellsOf t = 2 ∧ f0.offset = 0 ∧ f1.offset = 1) ∧ (P.cellsOf f0.type = 1 ∧ P.cellsOf f1.type = 1) ∧ P.underlying f0.type = some .string ∧ elsTy P f1.type = true := by
  unfold segTy at h
  split at h
  · rename_i f0 f1 hu
    simp only [Bool.and_eq_true, beq_iff_eq] at h
    obtain ⟨⟨⟨⟨h1, h2⟩, h3⟩, h5, h6⟩, h8, h9⟩ := h
    exact ⟨f0, f1, hu, ⟨h1, h2, h3⟩, ⟨h5, h6⟩, textTy_iff h8, h9⟩
  · cases h
theorem segment_fields : segTy Tryd.prog 49 = true := by kernel_rfl
set_option maxRecDepth 100000 in
/-- A segment among a law's arguments. -/
theorem open_seg {H : Type} {enc : TypeId × Value → H} {r : Reach} {b0 : Nat} {w : World} {sp : Nat → Bool} {held : Bool} {v : Value} {d : DataW H} {ps : List MemPlace} (hval : Value.okWide Tryd.prog w r b0 49 v) (hd : DataW.Trod enc Tryd.prog w 0 sp held 49 v d ps) :
    ∃ (t : List UInt8) (x : Value) (E : List (List (List UInt8))), v = .agg #[strV t, x] ∧ t.length ≤ maxLen ∧ ElemsIn (Has_ w) w x E := by
  obtain ⟨f0, f1, he, ⟨ce, o0, o1⟩, ⟨c0, c1⟩, t0, t1⟩ := seg_fields segment_fields
  obtain ⟨te, tf, u1, u2, u3, u4, u5⟩ := elsTy_iff t1
  obtain ⟨cs, rfl, hsz⟩ := okWide_struct he hval
  obtain ⟨fuel, hf⟩ := hd
  obtain ⟨y0, y1, k, _, _, k0, k1⟩ := trod_struct2 he hf
  obtain ⟨l⟩ := cs
  have hl : l.length = 2 := hsz.trans ce
  match l, hl with
  | [v0, v1], _ =>
    simp [Value.cells, o0, c0] at k0
    simp [Value.cells, o1, c1] at k1
    obtain ⟨s, z0, _, z1⟩ := DataW.trod_string t0 k0
    obtain ⟨E, hE⟩ := open_elems u1 u2 u3 u4 u5 k1
    obtain rfl := List.head_eq_of_cons_eq z0
    exact ⟨s.data.toList, v1, E, rfl, by simpa using z1, hE⟩
/-- Bytes among a law's arguments. -/
theorem bytes_of_list {w : World} {v : Value} {n : Nat} {f : Nat → Int} (h : ListAt w .u8 v n f) : ∃ b : List UInt8, BytesIn (Has_ w) w v b := by
  rcases h with ⟨rfl, rfl⟩ | ⟨a, cap, rfl, h2, h3, h4⟩
  · exact ⟨[], rfl, .inl ⟨rfl, rfl⟩⟩
  · refine ⟨(List.range n).map fun i => UInt8.ofNat (f i).toNat, by simp, .inr ⟨a, cap, by simp, by simpa using h2, h3, fun h0 => ?_, fun j u hj => ?_⟩⟩
    · exact World.block_lt_of_cell? w _ (h4 0 (by simpa using h0)).1
    · rw [List.map_map] at hj
      obtain ⟨hj1, rfl⟩ := range_map _ n j u hj
      obtain ⟨c1, c2⟩ := h4 j hj1
      rw [c1]
      simp [Lit.wf, IntKind.min, IntKind.max, IntKind.signed, IntKind.bits] at c2
      show _ = some (byteV (UInt8.ofNat (f j).toNat))
      unfold byteV
      rw [UInt8.toNat_ofNat', Nat.mod_eq_of_lt (by omega)]
      congr 2
      omega
end Go.Proofs.YtepkihoakagidaaDoor
namespace Go.Proofs.YtepkihoakagidaaDoor
open Go.RowKit

theorem list_at (b : ByteArray) {i : Nat} (h : i < b.size) : b.data.toList[i]? = some (b[i]'h) := by
  show b.data.toList[i]? = some (b.data[i]'h)
  simp

theorem code_of (b : ByteArray) (hs : b.size ≤ maxLen) (w : World) : Calls Tryd.prog 33 #[.string b] w fun e w' => e = .returned (.bool (codeB b.data.toList)) ∧ w = w' := by
  have hs2 : b.size ≤ 9223372036854775807 := by unfold maxLen at hs; omega
  have hlen : b.data.toList.length = b.size := by simp
  have hno : Hid (∀ i (h : i < b.size), ((b[i]'h).toNat < 48 ∨ 57 < (b[i]'h).toNat) → codeB b.data.toList = false) := Lib.hid (fun i h hx => by
    unfold codeB
    rw [show b.data.toList.all digB = false from by
      rw [List.all_eq_false]
      refine ⟨_, List.mem_of_getElem? (list_at b h), ?_⟩
      unfold digB
      simp
      omega]
    rfl)
  have hyes : Hid ((∀ i (h : i < b.size), 48 ≤ (b[i]'h).toNat ∧ (b[i]'h).toNat ≤ 57) → codeB b.data.toList = (decide (b.size ≤ 8) && b.size % 2 == 0)) := Lib.hid (fun hall => by
    unfold codeB
    rw [show b.data.toList.all digB = true from by
      rw [List.all_eq_true]
      intro x hx
      obtain ⟨i, hi⟩ := List.mem_iff_getElem?.1 hx
      have hlt := (List.getElem?_eq_some_iff.1 hi).1
      rw [hlen] at hlt
      rw [list_at b hlt] at hi
      rw [← Option.some.inj hi]
      obtain ⟨a1, a2⟩ := hall i hlt
      unfold digB
      simp
      omega, hlen]
    rfl)
  obtain ⟨B, hB⟩ : ∃ B, B = codeB b.data.toList := ⟨_, rfl⟩
  rw [← hB] at hno hyes ⊢
  clear hB hlen
  go_enter Tryd.func33, Tryd.ntmps33
  go_wp2_with fail
  go_loop [3] (fun vi => ∃ i : Nat, vi = .int .i64 i ∧ i ≤ b.size ∧ Hid (∀ j (h : j < b.size), j < i → 48 ≤ (b[j]'h).toNat ∧ (b[j]'h).toNat ≤ 57)) (fun vi => b.size - (intOf vi).toNat)
  case atStart => exact ⟨0, by go_num, by omega, Lib.hid (fun j h hj => absurd hj (by omega))⟩
  case round =>
    obtain ⟨i, rfl, hi, hA⟩ := hrel
    by_cases hlt : i < b.size
    · by_cases h1 : (b[i]'hlt).toNat < 48
      · have hb := hno.out i hlt (.inl h1)
        subst hb
        have d1 : decide ((((b[i]'hlt).toNat : Nat) : Int) < 48) = true := decide_eq_true (by omega)
        clear hno hyes hA h1
        go_wp2_with fail
        go_ret
        exact ⟨rfl, rfl⟩
      · by_cases h2 : 57 < (b[i]'hlt).toNat
        · have hb := hno.out i hlt (.inr h2)
          subst hb
          have d1 : decide ((((b[i]'hlt).toNat : Nat) : Int) < 48) = false := decide_eq_false (by omega)
          have d2 : decide ((57 : Int) < (((b[i]'hlt).toNat : Nat) : Int)) = true := decide_eq_true (by omega)
          clear hno hyes hA h1 h2
          go_wp2_with fail
          go_ret
          exact ⟨rfl, rfl⟩
        · have hN : Hid (∀ j (h : j < b.size), j < i + 1 → 48 ≤ (b[j]'h).toNat ∧ (b[j]'h).toNat ≤ 57) := Lib.hid (fun j h hj => by
            by_cases e : j = i
            · subst e; omega
            · exact hA.out j h (by omega))
          have d1 : decide ((((b[i]'hlt).toNat : Nat) : Int) < 48) = false := decide_eq_false (by omega)
          have d2 : decide ((57 : Int) < (((b[i]'hlt).toNat : Nat) : Int)) = false := decide_eq_false (by omega)
          clear hno hyes hA h1 h2
          go_wp2_with fail
          go_round
          case rel => exact ⟨i + 1, by go_num, by omega, hN⟩
          case measure => simp [intOf]; omega
    · obtain rfl : i = b.size := by omega
      have hb := hyes.out (fun j h => hA.out j h h)
      clear hno hyes hA
      by_cases h8 : b.size ≤ 8
      · have d1 : decide ((b.size : Int) ≤ 8) = true := decide_eq_true (by omega)
        rw [decide_eq_true h8, Bool.true_and] at hb
        by_cases h2 : b.size % 2 = 0
        · rw [show (b.size % 2 == 0) = true from by rw [beq_iff_eq]; exact h2] at hb
          subst hb
          have d2 : ((b.size : Int) % 2 == 0) = true := by rw [beq_iff_eq]; omega
          clear h2 h8
          go_wp2_with fail
          go_ret
          exact ⟨rfl, rfl⟩
        · rw [show (b.size % 2 == 0) = false from by rw [beq_eq_false_iff_ne]; exact h2] at hb
          subst hb
          have d2 : ((b.size : Int) % 2 == 0) = false := by rw [beq_eq_false_iff_ne]; omega
          clear h2 h8
          go_wp2_with fail
          go_ret
          exact ⟨rfl, rfl⟩
      · have d1 : decide ((b.size : Int) ≤ 8) = false := decide_eq_false (by omega)
        rw [decide_eq_false h8, Bool.false_and] at hb
        subst hb
        clear h8
        go_wp2_with fail
        go_ret
        exact ⟨rfl, rfl⟩
theorem refCode_any (s : List UInt8) (hs : s.length ≤ maxLen) (w : World) : Calls Tryd.prog 33 #[strV s] w fun e w' => e = .returned (.bool (codeB s)) ∧ w = w' := by
  have h := code_of ⟨s.toArray⟩ (by show s.toArray.size ≤ _; simpa using hs) w
  simpa [strV] using h

theorem ctry_of (b : ByteArray) (w : World) : Calls Tryd.prog 34 #[.string b] w fun e w' => e = .returned (.bool (ctryB b.data.toList)) ∧ w = w' := by
  by_cases h2 : b.size = 2
  · have k2 : 0 < b.size := by omega
    have k3 : 1 < b.size := by omega
    have l0 := list_at b (i := 0) k2
    have l1 := list_at b (i := 1) k3
    have hl : b.data.toList.length = 2 := by simpa using h2
    have hsh : b.data.toList = [b[0]'k2, b[1]'k3] := by
      match h : b.data.toList, hl with
      | [p, q], _ =>
        rw [h] at l0 l1
        simp at l0 l1
        rw [l0, l1]
    have hz : ((b.size : Int) == 2) = true := by rw [beq_iff_eq]; omega
    have hz2 : (b.size : Int) = 2 := by omega
    have k0 : (0 : Int) < (b.size : Int) := by omega
    have k1 : (1 : Int) < (b.size : Int) := by omega
    have hc : ctryB b.data.toList = ((decide (65 ≤ (b[0]'k2).toNat) && decide ((b[0]'k2).toNat ≤ 90)) && (decide (65 ≤ (b[1]'k3).toNat) && decide ((b[1]'k3).toNat ≤ 90))) := by
      rw [hsh]
      rfl
    rw [hc]
    clear l0 l1 hl hsh h2 hc
    obtain ⟨q1, e1⟩ : ∃ q, decide (65 ≤ (b[0]'k2).toNat) = q := ⟨_, rfl⟩
    obtain ⟨q2, e2⟩ : ∃ q, decide ((b[0]'k2).toNat ≤ 90) = q := ⟨_, rfl⟩
    obtain ⟨q3, e3⟩ : ∃ q, decide (65 ≤ (b[1]'k3).toNat) = q := ⟨_, rfl⟩
    obtain ⟨q4, e4⟩ : ∃ q, decide ((b[1]'k3).toNat ≤ 90) = q := ⟨_, rfl⟩
    have i1 : decide ((65 : Int) ≤ (((b[0]'k2).toNat : Nat) : Int)) = q1 := by rw [← e1]; congr 1; exact propext ⟨fun _ => by omega, fun _ => by omega⟩
    have i2 : decide ((((b[0]'k2).toNat : Nat) : Int) ≤ 90) = q2 := by rw [← e2]; congr 1; exact propext ⟨fun _ => by omega, fun _ => by omega⟩
    have i3 : decide ((65 : Int) ≤ (((b[1]'k3).toNat : Nat) : Int)) = q3 := by rw [← e3]; congr 1; exact propext ⟨fun _ => by omega, fun _ => by omega⟩
    have i4 : decide ((((b[1]'k3).toNat : Nat) : Int) ≤ 90) = q4 := by rw [← e4]; congr 1; exact propext ⟨fun _ => by omega, fun _ => by omega⟩
    simp only [e1, e2, e3, e4]
    cases q1 <;> cases q2 <;> cases q3 <;> cases q4 <;>
      (go_enter Tryd.func34, Tryd.ntmps34
       go_wp2_with fail
       go_ret
       exact ⟨rfl, rfl⟩)
  · have hl : ctryB b.data.toList = false := by
      unfold ctryB
      split
      · rename_i p q h
        exact absurd (by have := congrArg List.length h; simpa using this) h2
      · rfl
    have hz : ((b.size : Int) == 2) = false := by rw [beq_eq_false_iff_ne]; omega
    rw [hl]
    clear hl h2
    go_enter Tryd.func34, Tryd.ntmps34
    go_wp2_with fail
    go_ret
    exact ⟨rfl, rfl⟩
theorem refCountry_any (s : List UInt8) (w : World) : Calls Tryd.prog 34 #[strV s] w fun e w' => e = .returned (.bool (ctryB s)) ∧ w = w' := by
  have h := ctry_of ⟨s.toArray⟩ w
  simpa [strV] using h
end Go.Proofs.YtepkihoakagidaaDoor
namespace Go.Proofs.YtepkihoakagidaaDoor
open Go.RowKit

theorem info_int : (Tryd.prog.info? 3).map (fun i => (i.zero, i.size, i.bytes)) = some (some (.int .i64 0), 1, 8) := by kernel_rfl

/-- Block b holds the numbers f 0 .. f (n - 1), and they may be written. -/
def Ints (w : World) (b n : Nat) (f : Nat → Int) : Prop :=
  (∀ j, j < n → w.cell? ⟨b, j, none⟩ = some (.int .i64 (f j)) ∧ w.frozen? ⟨b, j, none⟩ = false) ∧ b < w.heap.size
theorem Ints.keep {w w1 : World} {b n : Nat} {f : Nat → Int} (h : Ints w b n f) (hb : Below w.heap.size w w1) : Ints w1 b n f := by
  obtain ⟨hc, hf⟩ := bcell hb
  exact ⟨fun j hj => ⟨(hc b j h.2).trans (h.1 j hj).1, (hf b j h.2).trans (h.1 j hj).2⟩, Nat.lt_of_lt_of_le h.2 hb.size⟩
theorem Ints.set {w : World} {b n : Nat} {f : Nat → Int} (h : Ints w b n f) (i : Nat) (v : Int) (g : Nat → Int) (hg : ∀ j, j < n → g j = if j = i then v else f j) :
    Ints (w.setCell ⟨b, i, none⟩ (.int .i64 v)) b n g := by
  refine ⟨fun j hj => ?_, by simpa [World.setCell] using h.2⟩
  obtain ⟨c1, f1⟩ := h.1 j hj
  refine ⟨?_, (World.frozen?_setCell _ _ _ _).trans f1⟩
  rw [hg j hj]
  by_cases e : j = i
  · subst e
    rw [if_pos rfl]
    exact World.cell?_setCell_same w _ _ c1
  · rw [if_neg e]
    have hne : (⟨b, i, none⟩ : Addr) ≠ ⟨b, j, none⟩ := fun h => e (by injection h with _ h2; exact h2.symm)
    exact (World.cell?_setCell_other w _ _ _ hne).trans c1
theorem ints_made (n : Nat) (hn : n ≤ 1000000) (w : World) : (Instr.makeSlice 22 (.int .i64 (n : Int)) (.int .i64 (n : Int))).run Tryd.prog w = .ok (.slice (some ⟨w.heap.size, 0, none⟩) n n) (w.alloc (.cells (madeCells #[.int .i64 0] n) 3)) ∧
    Ints (w.alloc (.cells (madeCells #[.int .i64 0] n) 3)) w.heap.size n (fun _ => 0) := by
  obtain ⟨i0, hi, hz0, hz1, hz2⟩ := info_parts info_int
  constructor
  · have h := run_make (P := Tryd.prog) w 22 3 i0 _ Tryd.underlying22 hi hz0 .i64 .i64 (n : Int) (n : Int) (by omega) (by omega) (by rw [hz2]; omega) (by omega)
    simpa [hz1, Value.cells] using h
  · refine ⟨fun j hj => ?_, by simp⟩
    have hc : (madeCells #[.int .i64 0] n)[j]? = some (.int .i64 0) := by
      simp [madeCells, hj, Nat.mod_one]
    constructor
    · refine (World.cell?_alloc_mark w _ _ _ j).trans hc
    · exact (World.frozen?_alloc_mark w _ _ 0 0 j).trans (by simp)
theorem Ints.at_ {w : World} {b n : Nat} {f : Nat → Int} (h : Ints w b n f) (k j : Nat) (hj : k + j < n) : w.cell? ((⟨b, k, none⟩ : Addr).add j) = some (.int .i64 (f (k + j))) := by
  have e : (⟨b, k, none⟩ : Addr).add j = ⟨b, k + j, none⟩ := by
    unfold Addr.add
    by_cases hz : j = 0 <;> simp [hz]
  rw [e]
  exact (h.1 (k + j) hj).1
/-- A list that was made stays behind a write elsewhere. -/
theorem Ints.other {w : World} {b n d o : Nat} {f : Nat → Int} {v : Value} (h : Ints w b n f) (hne : d ≠ b) : Ints (w.setCell ⟨d, o, none⟩ v) b n f := by
  refine ⟨fun j hj => ?_, by simpa [World.setCell] using h.2⟩
  obtain ⟨c1, f1⟩ := h.1 j hj
  refine ⟨(World.cell?_setCell_other w _ _ _ (fun e => hne (by injection e))).trans c1, (World.frozen?_setCell _ _ _ _).trans f1⟩
theorem Ints.congr {w : World} {b n : Nat} {f g : Nat → Int} (h : Ints w b n f) (e : ∀ i, i < n → f i = g i) : Ints w b n g :=
  ⟨fun j hj => by rw [← e j hj]; exact h.1 j hj, h.2⟩
theorem Ints.alloc {w : World} {b n : Nat} {f : Nat → Int} (h : Ints w b n f) (o : Obj) : Ints (w.alloc o) b n f := h.keep ((Below.refl _ _).alloc (Nat.le_refl _) _)
end Go.Proofs.YtepkihoakagidaaDoor
namespace Go.Proofs.YtepkihoakagidaaDoor
open Go.RowKit

/-- The source in block SB; its list lies in the world W0. -/
structure SourceAt (W0 w : World) (SB : Nat) : Prop where
  own : W0.heap.size ≤ SB
  below : Below W0.heap.size W0 w
  src : ∃ (v : Value) (m : Nat) (f : Nat → Int) (k : Nat), ListAt W0 .i64 v m f ∧ m ≤ 1000000 ∧ k ≤ m ∧ w.cell? ⟨SB, 0, none⟩ = some v ∧ w.cell? ⟨SB, 1, none⟩ = some (.int .i64 k) ∧ w.frozen? ⟨SB, 1, none⟩ = false
theorem SourceAt.keep {W0 w w1 : World} {SB : Nat} (h : SourceAt W0 w SB) (hb : Below w.heap.size w w1) : SourceAt W0 w1 SB := by
  obtain ⟨h1, h2, v, m, f, k, a1, a2, a3, a4, a5, a6⟩ := h
  have hlt := World.block_lt_of_cell? w _ a4
  exact ⟨h1, h2.trans (hb.mono h2.size), v, m, f, k, a1, a2, a3, (hb.cell hlt).trans a4, (hb.cell (p := ⟨SB, 1, none⟩) hlt).trans a5, (hb.frozen (p := ⟨SB, 1, none⟩) hlt).trans a6⟩
/-- What a call of Next does to the world: at most the source's place is written. -/
def NextTo (w w1 : World) (SB : Nat) : Prop := (∃ q, w1 = w.drewN q) ∨ ∃ (k q p : Nat), w1 = ((w.drewN q).setCell ⟨SB, 1, none⟩ (.int .i64 (k : Int))).drewN p
theorem NextTo.below {w w1 : World} {SB B : Nat} (h : NextTo w w1 SB) (hB : B ≤ SB) : Below B w w1 := by
  rcases h with ⟨q, rfl⟩ | ⟨k, q, p, rfl⟩
  · exact below_drewN (Below.refl _ _) _
  · exact below_drewN ((below_drewN (Below.refl _ _) _).setCell hB _) _
theorem NextTo.cell {w w1 : World} {SB : Nat} (h : NextTo w w1 SB) {b o : Nat} (hb : b ≠ SB) : w1.cell? ⟨b, o, none⟩ = w.cell? ⟨b, o, none⟩ ∧ w1.frozen? ⟨b, o, none⟩ = w.frozen? ⟨b, o, none⟩ := by
  rcases h with ⟨q, rfl⟩ | ⟨k, q, p, rfl⟩
  · exact ⟨rfl, rfl⟩
  · exact ⟨World.cell?_setCell_other (w.drewN q) _ _ _ (fun e => hb (by injection e with e1; exact e1.symm)), World.frozen?_setCell _ _ _ _⟩
theorem NextTo.heap {w w1 : World} {SB : Nat} (h : NextTo w w1 SB) {b : Nat} (hb : b ≠ SB) : w1.heap[b]? = w.heap[b]? := by
  rcases h with ⟨q, rfl⟩ | ⟨k, q, p, rfl⟩
  · rfl
  · exact Below.heap_setCell _ _ _ _ hb
theorem NextTo.size {w w1 : World} {SB : Nat} (h : NextTo w w1 SB) : w1.heap.size = w.heap.size := by
  rcases h with ⟨q, rfl⟩ | ⟨k, q, p, rfl⟩
  · rfl
  · show (((w.drewN q).setCell ⟨SB, 1, none⟩ (.int .i64 (k : Int)))).heap.size = _
    simp [World.setCell]

set_option maxRecDepth 100000 in
set_option maxHeartbeats 1600000 in
theorem next_wide (n : Int) (h1 : 0 < n) (h2 : n ≤ 4000000000000) (SB : Nat) (W0 w : World) (h : SourceAt W0 w SB) :
    Calls Tryd.prog 36 #[.pointer (some ⟨SB, 0, none⟩), .int .i64 n] w fun e w1 => ∃ r : Int, e = .returned (.int .i64 r) ∧ 0 ≤ r ∧ r < n ∧ SourceAt W0 w1 SB ∧ NextTo w w1 SB := by
  obtain ⟨hown, hbel, v, m, f, k, a1, a2, a3, a4, a5, a6⟩ := h
  have hform : ∃ a cap, v = .slice a m cap := by
    rcases a1 with ⟨h, h0⟩ | ⟨a, cap, h, _⟩
    · exact ⟨none, 0, by rw [h, h0]⟩
    · exact ⟨some a, cap, h⟩
  have HS := Lib.hid (show SourceAt W0 w SB from ⟨hown, hbel, v, m, f, k, a1, a2, a3, a4, a5, a6⟩)
  by_cases hk : m ≤ k
  · obtain ⟨a, cap, rfl⟩ := hform
    have d1 : decide (m ≤ k) = true := decide_eq_true hk
    go_enter Tryd.func36, Tryd.ntmps36
    go_wp2_with fail
    go_quiet (fail)
    go_wp2_with fail
    go_ret
    exact ⟨0, rfl, by omega, h1, HS.out.keep (below_drewN (Below.refl _ _) _), .inl ⟨_, rfl⟩⟩
  · rcases a1 with ⟨_, h0⟩ | ⟨a, cap, rfl, b1, b2, b3⟩
    · omega
    have hx0 := (b3 k (by omega)).1
    have hblk := World.block_lt_of_cell? W0 _ hx0
    have hrow := fun q p => show (((w.drewN q).setCell ⟨SB, 1, none⟩ (.int .i64 ((k : Int) + 1))).drewN p).cell? (a.add k) = some (.int .i64 (f k)) from
      (World.cell?_setCell_other (w.drewN q) _ _ _ (fun e => by rw [← e] at hblk; have : SB < W0.heap.size := hblk; omega)).trans ((hbel.cell hblk).trans hx0)
    have hc0 := fun q p => show (((w.drewN q).setCell ⟨SB, 1, none⟩ (.int .i64 ((k : Int) + 1))).drewN p).cell? ⟨SB, 0, none⟩ = some (.slice (some a) m cap) from
      (World.cell?_setCell_other (w.drewN q) _ _ _ (fun e => by injection e with _ e2; omega)).trans a4
    have hc1 := fun q p => show (((w.drewN q).setCell ⟨SB, 1, none⟩ (.int .i64 ((k : Int) + 1))).drewN p).cell? ⟨SB, 1, none⟩ = some (.int .i64 ((k : Int) + 1)) from
      World.cell?_setCell_same (w.drewN q) _ _ a5
    have HN := Lib.hid (fun q p => show SourceAt W0 (((w.drewN q).setCell ⟨SB, 1, none⟩ (.int .i64 ((k : Int) + 1))).drewN p) SB from
      ⟨hown, below_drewN ((below_drewN hbel _).setCell hown _) _, .slice (some a) m cap, m, f, k + 1, .inr ⟨a, cap, rfl, b1, b2, b3⟩, a2, by omega, hc0 q p, by have := hc1 q p; rw [show (((k + 1 : Nat) : Int)) = (k : Int) + 1 by omega]; exact this, (World.frozen?_setCell _ _ _ _).trans a6⟩)
    have HT := Lib.hid (fun q p => show NextTo w (((w.drewN q).setCell ⟨SB, 1, none⟩ (.int .i64 ((k : Int) + 1))).drewN p) SB from .inr ⟨k + 1, q, p, rfl⟩)
    have d1 : decide (m ≤ k) = false := decide_eq_false hk
    have hw := madeWithin_wide (f k) n h1 h2
    have HW := Lib.hid (fun w => (hw w).mono fun _ _ h => (⟨h.1, h.2.symm⟩ : _ ∧ _))
    have hr1 := Int.emod_nonneg (f k) (show n ≠ 0 by omega)
    have hr2 := Int.emod_lt_of_pos (f k) h1
    have b7 : (k : Int) < (m : Int) := by omega
    have b8 : (0 : Int) ≤ (k : Int) := by omega
    have b9 : ((k : Int)).toNat = k := by omega
    have w2 : IntKind.i64.wrap (k : Int) = (k : Int) := by rw [IntKind.wrap_i64]; omega
    have s5 := fun q => show (w.drewN q).cell? ⟨SB, 1, none⟩ = some (.int .i64 (k : Int)) from a5
    have s6 := fun q => show (w.drewN q).frozen? ⟨SB, 1, none⟩ = false from a6
    clear HS hw hx0 b3
    generalize f k % n = y at *
    generalize f k = x at *
    go_enter Tryd.func36, Tryd.ntmps36
    go_wp2_with fail
    go_quiet (fail)
    go_wp2_with fail
    go_quiet ((go_at_call 15; refine Calls.quiet_of_same (HW.out _)))
    go_wp2_with fail
    go_ret
    exact ⟨y, rfl, hr1, hr2, HN.out _ _, HT.out _ _⟩
theorem next_any (n : Int) (h1 : 0 < n) (h2 : n ≤ 1000000000000) (SB : Nat) (W0 w : World) (h : SourceAt W0 w SB) :
    Calls Tryd.prog 36 #[.pointer (some ⟨SB, 0, none⟩), .int .i64 n] w fun e w1 => ∃ r : Int, e = .returned (.int .i64 r) ∧ 0 ≤ r ∧ r < n ∧ SourceAt W0 w1 SB ∧ NextTo w w1 SB := next_wide n h1 (by omega) SB W0 w h
end Go.Proofs.YtepkihoakagidaaDoor
namespace Go.Proofs.YtepkihoakagidaaDoor
open Go.RowKit

/-- Only the source and new blocks have turned. -/
structure Since (SB : Nat) (w w1 : World) : Prop where
  size : w.heap.size ≤ w1.heap.size
  block : ∀ b, b < w.heap.size → b ≠ SB → w1.heap[b]? = w.heap[b]?
theorem Since.refl (SB : Nat) (w : World) : Since SB w w := ⟨Nat.le_refl _, fun _ _ _ => rfl⟩
theorem Since.trans {SB : Nat} {w w1 w2 : World} (h : Since SB w w1) (h2 : Since SB w1 w2) : Since SB w w2 :=
  ⟨Nat.le_trans h.size h2.size, fun b hb hne => (h2.block b (Nat.lt_of_lt_of_le hb h.size) hne).trans (h.block b hb hne)⟩
theorem Since.next {SB : Nat} {w w1 : World} (h : NextTo w w1 SB) : Since SB w w1 := ⟨by rw [h.size]; exact Nat.le_refl _, fun _ _ hne => h.heap hne⟩
theorem Since.below {SB : Nat} {w w1 : World} (h : Below w.heap.size w w1) : Since SB w w1 := ⟨h.size, fun b hb _ => h.block b hb⟩
theorem Since.grown {SB : Nat} {w w1 w2 : World} {row : Option Nat} (h : Since SB w w1) (hg : w1.grownBy w2 row) (hr : ∀ k, row = some k → w.heap.size ≤ k) : Since SB w w2 :=
  ⟨Nat.le_trans h.size hg.size, fun b hb hne => (hg.block b (Nat.lt_of_lt_of_le hb h.size) (fun e => by have := hr b e.symm; omega)).trans (h.block b hb hne)⟩
theorem Since.alloc {SB : Nat} {w w1 : World} (h : Since SB w w1) (o : Obj) : Since SB w (w1.alloc o) := h.trans (Since.below ((Below.refl _ _).alloc (Nat.le_refl _) _))
theorem Since.drewN {SB : Nat} {w w1 : World} (h : Since SB w w1) (k : Nat) : Since SB w (w1.drewN k) := ⟨h.size, h.block⟩
/-- A row stays while only the source and new blocks turn. -/
theorem Since.row {SB : Nat} {w w1 : World} (h : Since SB w w1) {base : Nat} {e : TypeId} {size : Nat} {v : Value} {n : Nat} {xs : List Value} (hr : w.ownsRow base e size v n xs) (hb : SB < base) : w1.ownsRow base e size v n xs := by
  obtain ⟨r1, r2⟩ := hr
  refine ⟨r1, ?_⟩
  rcases r2 with r2 | ⟨g, cap, cur, r3, r4, r5, r6⟩
  · exact .inl r2
  · exact .inr ⟨g, cap, cur, r3, r4, (h.block g (Array.getElem?_eq_some_iff.1 r5).1 (by omega)).trans r5, r6⟩
theorem SourceAt.grown {W0 w w1 : World} {SB : Nat} {row : Option Nat} (h : SourceAt W0 w SB) (hg : w.grownBy w1 row) (hr : ∀ k, row = some k → SB < k) : SourceAt W0 w1 SB := by
  obtain ⟨s1, s2, v, m, f, k, a1, a2, a3, a4, a5, a6⟩ := h
  have hlt : SB < w.heap.size := World.block_lt_of_cell? w _ a4
  have hne : some SB ≠ row := fun e => by have := hr SB e.symm; omega
  exact ⟨s1, s2.grown hg s2.size (fun j hj => by have := hr j hj; omega), v, m, f, k, a1, a2, a3, hg.cell a4 hne, hg.cell a5 hne, (World.frozen?_of_block (hg.block SB hlt hne)).trans a6⟩
theorem SourceAt.alloc {W0 w : World} {SB : Nat} (h : SourceAt W0 w SB) (o : Obj) : SourceAt W0 (w.alloc o) SB := h.keep ((Below.refl _ _).alloc (Nat.le_refl _) _)
theorem SourceAt.drewN {W0 w : World} {SB : Nat} (h : SourceAt W0 w SB) (k : Nat) : SourceAt W0 (w.drewN k) SB := h.keep (below_drewN (Below.refl _ _) _)
theorem SourceAt.lt {W0 w : World} {SB : Nat} (h : SourceAt W0 w SB) : SB < w.heap.size := by
  obtain ⟨s1, s2, v, m, f, k, a1, a2, a3, a4, a5, a6⟩ := h
  exact World.block_lt_of_cell? w _ a4

/-- A row of any bytes, while text fills it. -/
structure FillAt (W0 w wx : World) (SB g n : Nat) : Prop where
  src : SourceAt W0 wx SB
  since : Since SB w wx
  lo : w.heap.size ≤ g
  row : ∃ l : List UInt8, l.length = n ∧ wx.ownsRow (SB + 1) 5 1 (.slice (some ⟨g, 0, none⟩) n n) n (l.map byteV)
theorem FillAt.cell {W0 w wx : World} {SB g n : Nat} (h : FillAt W0 w wx SB g n) (i : Nat) (hi : i < n) : (∃ x, wx.cell? ⟨g, i, none⟩ = some (byteV x)) ∧ wx.frozen? ⟨g, i, none⟩ = false := by
  obtain ⟨l, h1, h2⟩ := h.row
  refine ⟨⟨l[i]'(by omega), ?_⟩, h2.frozenAt i⟩
  rw [h2.cellAt i (by omega), List.getElem?_map, List.getElem?_eq_getElem (by omega)]
  rfl
theorem FillAt.put {W0 w wx : World} {SB g n : Nat} (h : FillAt W0 w wx SB g n) (i : Nat) (x : UInt8) : FillAt W0 w (wx.setCell ⟨g, i, none⟩ (byteV x)) SB g n := by
  obtain ⟨l, h1, h2⟩ := h.row
  obtain ⟨h3, h4⟩ := h2.stored i (byteV x)
  have hg := (h2.lt g rfl).1
  exact ⟨h.src.grown h4 (fun k hk => by cases hk; omega), h.since.grown h4 (fun k hk => by cases hk; exact h.lo), h.lo, l.set i x, by simp [h1], by rw [List.map_set]; exact h3⟩
theorem FillAt.next {W0 w wx w1 : World} {SB g n : Nat} (h : FillAt W0 w wx SB g n) (hs : SourceAt W0 w1 SB) (hn : NextTo wx w1 SB) : FillAt W0 w w1 SB g n := by
  obtain ⟨l, h1, h2⟩ := h.row
  exact ⟨hs, h.since.trans (Since.next hn), h.lo, l, h1, (Since.next hn).row h2 (Nat.lt_succ_self _)⟩
theorem FillAt.drewN {W0 w wx : World} {SB g n : Nat} (h : FillAt W0 w wx SB g n) (k : Nat) : FillAt W0 w (wx.drewN k) SB g n := ⟨h.src.drewN k, h.since.drewN k, h.lo, h.row⟩
theorem info_byte : (Tryd.prog.info? 5).map (fun i => (i.zero, i.size, i.bytes)) = some (some (.int .u8 0), 1, 1) := by kernel_rfl
theorem fill_made {W0 w w1 : World} {SB : Nat} (hs : SourceAt W0 w1 SB) (hn : Since SB w w1) (n : Nat) (hm : n ≤ maxLen) : FillAt W0 w (w1.alloc (.cells (madeCells #[.int .u8 0] n) 5)) SB w1.heap.size n := by
  refine ⟨hs.alloc _, hn.alloc _, hn.size, List.replicate n 0, by simp, ?_⟩
  have h := World.ownsRow_lit (base := SB + 1) (e := 5) (size := 1) w1 (madeCells #[.int .u8 0] n) n (by have := hs.lt; omega) hm (by simp [size_madeCells])
  rw [toList_madeCells_one] at h
  simpa [byteV] using h

set_option maxRecDepth 100000 in
set_option maxHeartbeats 1600000 in
theorem madeText_any (SB : Nat) (W0 w : World) (h : SourceAt W0 w SB) :
    Calls Tryd.prog 39 #[.pointer (some ⟨SB, 0, none⟩)] w fun e w1 => ∃ l : List UInt8, e = .returned (strV l) ∧ l.length ≤ 4 ∧ SourceAt W0 w1 SB ∧ Since SB w w1 := by
  have HN := Lib.hid (fun (k : Int) (h1 : 0 < k) (h2 : k ≤ 1000000000000) (w1 : World) (h : SourceAt W0 w1 SB) => next_any k h1 h2 SB W0 w1 h)
  have H0 := Lib.hid h
  obtain ⟨i0, hi0, hz0, hz1, hz2⟩ := info_parts info_byte
  have hmk := fun (n : Nat) (hn : n ≤ 4) (W : World) => run_make (P := Tryd.prog) W 32 5 i0 (.int .u8 0) Tryd.underlying32 hi0 hz0 .i64 .i64 (n : Int) (n : Int) (by omega) (by omega) (by rw [hz2]; omega) (by omega)
  clear h
  go_enter Tryd.func39, Tryd.ntmps39
  go_wp2_with fail
  refine (HN.out 5 (by omega) (by omega) _ H0.out).mono ?_
  rintro e w1 ⟨r, rfl, r0, r1, hs, hn⟩
  obtain ⟨n, rfl⟩ : ∃ n : Nat, r = n := ⟨r.toNat, by omega⟩
  have hn4 : n ≤ 4 := by omega
  have hmk := hmk n hn4 w1
  simp only [Int.toNat_natCast, hz1, Nat.mul_one] at hmk
  have hF := Lib.hid (fill_made hs (Since.next hn) n (by unfold maxLen; omega))
  clear hs hn H0 r0 r1
  go_wp2_with fail
  clear hmk
  generalize w1.heap.size = G at *
  generalize w1.alloc (.cells (madeCells #[.int .u8 0] n) 5) = W1 at *
  go_loopw [4] (fun vi wx => ∃ i : Nat, vi = .int .i64 i ∧ i ≤ n ∧ Hid (FillAt W0 w wx SB G n)) (fun vi _ => n - (intOf vi).toNat)
  case atStart => exact ⟨0, by go_num, by omega, hF⟩
  case round =>
    clear hF
    obtain ⟨i, rfl, hi, hF⟩ := hrel
    by_cases hlt : i < n
    · go_wp2_with fail
      refine (HN.out 8 (by omega) (by omega) _ hF.out.src).mono ?_
      rintro e w2 ⟨r, rfl, r0, r1, hs, hn⟩
      obtain ⟨m, rfl⟩ : ∃ m : Nat, r = m := ⟨r.toNat, by omega⟩
      have hF2 := Lib.hid (hF.out.next hs hn)
      obtain ⟨⟨x, c1⟩, c2⟩ := hF2.out.cell i hlt
      clear hF hs hn
      go_wp2_with fail
      refine (HN.out 512 (by omega) (by omega) _ (hF2.out.put i _).src).mono ?_
      rintro e w3 ⟨k, rfl, k0, k1, hs, hn⟩
      have hF3 := Lib.hid ((hF2.out.put i _).next hs hn)
      obtain ⟨m2, rfl⟩ : ∃ m : Nat, k = m := ⟨k.toNat, by omega⟩
      obtain ⟨⟨y, c3⟩, c4⟩ := hF3.out.cell i hlt
      clear hF2 hs hn c1 c2
      by_cases hk : m2 < 256
      · have d1 : decide ((m2 : Int) < 256) = true := decide_eq_true (by omega)
        have hF4 := Lib.hid (hF3.out.put i (UInt8.ofNat m2))
        have hv : byteV (UInt8.ofNat m2) = .int .u8 (m2 : Int) := by
          unfold byteV
          rw [UInt8.toNat_ofNat', Nat.mod_eq_of_lt (by omega)]
        rw [hv] at hF4
        have hw : IntKind.u8.wrap (m2 : Int) = (m2 : Int) := by simp [IntKind.wrap, IntKind.bits, IntKind.signed]; omega
        clear hv hF3
        go_wp2_with fail
        go_roundw
        case rel => exact ⟨i + 1, by go_num, by omega, hF4⟩
        case measure => simp [intOf]; omega
      · have d1 : decide ((m2 : Int) < 256) = false := decide_eq_false (by omega)
        go_wp2_with fail
        go_roundw
        case rel => exact ⟨i + 1, by go_num, by omega, hF3⟩
        case measure => simp [intOf]; omega
    · obtain rfl : i = n := by omega
      obtain ⟨l, hl, hr⟩ := hF.out.row
      have hcv := run_text_of_cells (P := Tryd.prog) wr 32 9 5 _ l Tryd.underlying32 Tryd.underlying5 Tryd.underlying9 (by rw [hl]; exact CellsIn.own hr)
      clear hr
      go_wp2_with fail
      go_ret
      exact ⟨l, rfl, by omega, hF.out.src, hF.out.since⟩
end Go.Proofs.YtepkihoakagidaaDoor
namespace Go.Proofs.YtepkihoakagidaaDoor
open Go.RowKit

theorem pair_news (W : World) (b c : UInt8) (x y : Int) (hx : x = (b.toNat : Int)) (hy : y = (c.toNat : Int)) (t : TypeId) : ∀ j u, ([b, c].map byteV)[j]? = some u → (W.alloc (.cells #[.int .u8 x, .int .u8 y] t)).cell? ((⟨W.heap.size, 0, none⟩ : Addr).add j) = some u := by
  intro j u hj
  match j with
  | 0 =>
    simp at hj
    rw [← hj, Addr.add_lit, hx]
    unfold byteV
    simp [go_sem]
  | 1 =>
    simp at hj
    rw [← hj, Addr.add_lit, hy]
    unfold byteV
    simp [go_sem]
  | j + 2 => simp at hj
theorem u8_of {m : Nat} (h : m < 256) : (UInt8.ofNat m).toNat = m := by rw [UInt8.toNat_ofNat', Nat.mod_eq_of_lt (by omega)]
/-- A text of digits, while Code makes it. -/
structure CodeAt (W0 w wx : World) (SB : Nat) (vb : Value) (l : List UInt8) : Prop where
  src : SourceAt W0 wx SB
  since : Since SB w wx
  row : ByteRow wx w.heap.size 5 vb l
  dig : l.all digB = true
theorem digB_nat {c : UInt8} {m : Nat} (h : c.toNat = m) (h1 : 48 ≤ m) (h2 : m ≤ 57) : digB c = true := by
  unfold digB
  rw [h]
  simp
  omega
theorem digB_of {m : Nat} (h1 : 48 ≤ m) (h2 : m ≤ 57) : digB (UInt8.ofNat m) = true := by
  unfold digB
  rw [u8_of (by omega)]
  simp
  omega

set_option maxRecDepth 100000 in
set_option maxHeartbeats 1600000 in
theorem madeCode_any (k : Nat) (h1 : 1 ≤ k) (h2 : k ≤ 4) (SB : Nat) (W0 w : World) (h : SourceAt W0 w SB) :
    Calls Tryd.prog 37 #[.pointer (some ⟨SB, 0, none⟩), .int .i64 ((2 * k : Nat) : Int)] w fun e w1 => ∃ l : List UInt8, e = .returned (strV l) ∧ l.length = 2 * k ∧ codeB l = true ∧ SourceAt W0 w1 SB ∧ Since SB w w1 := by
  have HN := Lib.hid (fun (k : Int) (h1 : 0 < k) (h2 : k ≤ 1000000000000) (w1 : World) (h : SourceAt W0 w1 SB) => next_any k h1 h2 SB W0 w1 h)
  have H0 := Lib.hid h
  obtain ⟨i0, hi0, hz0, hz1, hz2⟩ := info_parts info_byte
  have hk : ((2 * k : Nat) : Int) = 2 * (k : Int) := by omega
  clear h
  rw [hk]
  clear hk
  go_enter Tryd.func37, Tryd.ntmps37
  go_wp2_with fail
  refine (HN.out 2 (by omega) (by omega) _ H0.out).mono ?_
  rintro e w1 ⟨r, rfl, r0, r1, hs, hn⟩
  obtain ⟨m, rfl⟩ : ∃ m : Nat, r = m := ⟨r.toNat, by omega⟩
  have hw : wrap64 (52 + (m : Int)) % 256 = 52 + (m : Int) := by unfold wrap64; omega
  have hSB := H0.out.lt
  have hA := Lib.hid (show CodeAt W0 w (w1.alloc (.cells #[.int .u8 57, .int .u8 (52 + (m : Int))] 5)) SB (.slice (some ⟨w1.heap.size, 0, none⟩) 2 2) [57, UInt8.ofNat (52 + m)] from by
    have hrow := World.ownsRow_lit (base := w.heap.size) (e := 5) (size := 1) w1 #[.int .u8 57, .int .u8 (52 + (m : Int))] 2 (by rw [hn.size]; exact Nat.le_refl _) (by unfold maxLen; omega) rfl
    have e1 : (#[.int .u8 57, .int .u8 (52 + (m : Int))] : Array Value).toList = [57, UInt8.ofNat (52 + m)].map byteV := by
      show _ = [byteV 57, byteV (UInt8.ofNat (52 + m))]
      unfold byteV
      rw [u8_of (by omega)]
      simp
    rw [e1] at hrow
    exact ⟨hs.alloc _, (Since.next hn).alloc _, ByteRow.of_own hrow, by
      show (digB 57 && (digB (UInt8.ofNat (52 + m)) && true)) = true
      rw [digB_of (by omega) (by omega)]
      rfl⟩)
  clear hs hn H0 r0 r1
  go_wp2_with fail
  try rw [hw]
  clear hw
  go_loopw [5] (fun vb wx => ∃ (u : Value) (l : List UInt8) (i : Nat), u = vb ∧ l.length = 2 * i ∧ 1 ≤ i ∧ i ≤ k ∧ Hid (CodeAt W0 w wx SB u l)) (fun vb _ => 2 * k - (match vb with | .slice _ n _ => n | _ => 0))
  case atStart => exact ⟨_, [57, UInt8.ofNat (52 + m)], 1, rfl, rfl, by omega, h1, hA⟩
  case round =>
    clear hA
    obtain ⟨u, l, i, rfl, hl, hi1, hik, hA⟩ := hrel
    obtain ⟨uo, uc, rfl⟩ : ∃ ao c, u = .slice ao l.length c := by
      rcases hA.out.row with ⟨h3, h4⟩ | ⟨g, cap, cur, fz, h3, _⟩
      · exact ⟨none, 0, by rw [h3, h4]; rfl⟩
      · exact ⟨_, cap, h3⟩
    by_cases hlt : i < k
    · have d1 : decide ((l.length : Int) < 2 * (k : Int)) = true := decide_eq_true (by omega)
      have HL := Lib.hid hl
      clear hl
      go_wp2_with fail
      refine (HN.out 3 (by omega) (by omega) _ hA.out.src).mono ?_
      rintro e w2 ⟨r, rfl, r0, r1, hs, hn⟩
      obtain ⟨m, rfl⟩ : ∃ m : Nat, r = m := ⟨r.toNat, by omega⟩
      have hw : wrap64 (49 + (m : Int)) % 256 = 49 + (m : Int) := by unfold wrap64; omega
      have hA2 := Lib.hid (show CodeAt W0 w (w2.alloc (.cells #[.int .u8 48, .int .u8 (wrap64 (49 + (m : Int)) % 256)] 5)) SB (.slice uo l.length uc) l from
        ⟨hs.alloc _, (hA.out.since.trans (Since.next hn)).alloc _, (hA.out.row.same (w1 := w2) fun b hb =>
          hn.heap (fun e => by have := (hA.out.row.lt b hb).1; omega)).keep ((Below.refl _ _).alloc (Nat.le_refl _) _), hA.out.dig⟩)
      obtain ⟨c, hc⟩ : ∃ c : UInt8, c.toNat = 49 + m := ⟨UInt8.ofNat (49 + m), u8_of (by omega)⟩
      have hnn := pair_news w2 48 c 48 (wrap64 (49 + (m : Int)) % 256) rfl (by rw [hw, hc]; omega) 5
      have hd : (l ++ [48, c]).all digB = true := by
        rw [List.all_append, hA.out.dig]
        show (digB 48 && (digB c && true)) = true
        rw [digB_nat hc (by omega) (by omega)]
        rfl
      clear hA hs hn r0 r1 hw hc
      go_wp2_with (at_builtin; refine wpList_append_bytes rfl _ _ 32 rfl w.heap.size 5 i0 Tryd.underlying32 hi0 hz0 hz1 hz2 _ l rfl hA2.out.row ⟨w2.heap.size, 0, none⟩ 2 [48, c] rfl hnn (by have hl := HL.out; show l.length + 2 ≤ _; omega) hA2.out.since.size ?_)
      intro v3 w3 hr3 hg3
      have hlo : ∀ b, (Value.slice uo l.length uc).ownBlock = some b → w.heap.size ≤ b := fun b hb => (hA2.out.row.lt b hb).1
      have hA3 := Lib.hid (show CodeAt W0 w w3 SB v3 (l ++ [48, c]) from ⟨hA2.out.src.grown hg3 fun b hb => by have := hlo b hb; omega, hA2.out.since.grown hg3 hlo, hr3, hd⟩)
      obtain ⟨vo, vc, rfl⟩ : ∃ ao cp, v3 = .slice ao (l ++ [48, c]).length cp := by
        rcases hr3 with ⟨h3, h4⟩ | ⟨g, cap, cur, fz, h3, _⟩
        · exact absurd h4 (by simp)
        · exact ⟨_, cap, h3⟩
      have hl2 : (l ++ [48, c]).length = 2 * (i + 1) := by have hl := HL.out; rw [List.length_append]; show l.length + 2 = _; omega
      clear hA2 hr3 hg3 hnn hd hlo
      generalize l ++ ([48, c] : List UInt8) = l2 at *
      have HL2 := Lib.hid hl2
      clear hl2
      go_wp2_with fail
      go_roundw
      case rel => exact ⟨_, l2, i + 1, rfl, HL2.out, by omega, by omega, hA3⟩
      case measure => have hl := HL.out; have hl2 := HL2.out; simp; omega
    · obtain rfl : i = k := by omega
      have d1 : decide ((l.length : Int) < 2 * (i : Int)) = false := decide_eq_false (by omega)
      have hcv := run_text_of_cells (P := Tryd.prog) wr 32 9 5 _ l Tryd.underlying32 Tryd.underlying5 Tryd.underlying9 hA.out.row.cells
      have HL := Lib.hid hl
      have hcode : codeB l = true := by
        unfold codeB
        rw [hA.out.dig, decide_eq_true (show l.length ≤ 8 by omega), Bool.true_and, Bool.true_and, beq_iff_eq]
        omega
      clear hl
      go_wp2_with fail
      go_ret
      exact ⟨l, rfl, HL.out, hcode, hA.out.src, hA.out.since⟩

theorem madeCountries_any (w : World) : Calls Tryd.prog 59 #[] w fun e w1 => e = .returned (.slice (some ⟨w.heap.size, 0, none⟩) 6 6) ∧ w1 = w.alloc (.cells #[strV [65, 65], strV [66, 66], strV [67, 67], strV [68, 68], strV [69, 69], strV [70, 70]] 9) := by
  go_enter Tryd.func59, Tryd.ntmps59
  go_wp2_with fail
  go_ret
  exact ⟨rfl, rfl⟩

set_option maxRecDepth 100000 in
set_option maxHeartbeats 1600000 in
theorem madeCountry_any (SB : Nat) (W0 w : World) (h : SourceAt W0 w SB) :
    Calls Tryd.prog 38 #[.pointer (some ⟨SB, 0, none⟩)] w fun e w1 => ∃ l : List UInt8, e = .returned (strV l) ∧ ctryB l = true ∧ SourceAt W0 w1 SB ∧ Since SB w w1 := by
  have HN := Lib.hid (fun (k : Int) (h1 : 0 < k) (h2 : k ≤ 1000000000000) (w1 : World) (h : SourceAt W0 w1 SB) => next_any k h1 h2 SB W0 w1 h)
  have HC := Lib.hid (madeCountries_any w)
  have H0 := Lib.hid (h.alloc (.cells #[strV [65, 65], strV [66, 66], strV [67, 67], strV [68, 68], strV [69, 69], strV [70, 70]] 9))
  have HS := Lib.hid ((Since.refl SB w).alloc (.cells #[strV [65, 65], strV [66, 66], strV [67, 67], strV [68, 68], strV [69, 69], strV [70, 70]] 9))
  have hnew : (w.alloc (.cells #[strV [65, 65], strV [66, 66], strV [67, 67], strV [68, 68], strV [69, 69], strV [70, 70]] 9)).heap[w.heap.size]? = some (.cells #[strV [65, 65], strV [66, 66], strV [67, 67], strV [68, 68], strV [69, 69], strV [70, 70]] 9 (0, 0)) := by
    show (w.heap.push _)[w.heap.size]? = some _
    simp
  have hlt := h.lt
  clear h
  go_enter Tryd.func38, Tryd.ntmps38
  go_wp2_with fail
  refine HC.out.mono ?_
  rintro e w1 ⟨rfl, rfl⟩
  generalize w.alloc (.cells #[strV [65, 65], strV [66, 66], strV [67, 67], strV [68, 68], strV [69, 69], strV [70, 70]] 9) = W1 at *
  go_wp2_with fail
  refine (HN.out 6 (by omega) (by omega) _ H0.out).mono ?_
  rintro e w2 ⟨r, rfl, r0, r1, hs, hn⟩
  have hb := (hn.heap (b := w.heap.size) (by omega)).trans hnew
  have hq : ∃ l, w2.cell? ⟨w.heap.size, r.toNat, none⟩ = some (.string ⟨l.toArray⟩) ∧ ctryB l = true := by
    rcases (show r = 0 ∨ r = 1 ∨ r = 2 ∨ r = 3 ∨ r = 4 ∨ r = 5 by omega) with rfl | rfl | rfl | rfl | rfl | rfl
    · exact ⟨[65, 65], by unfold World.cell?; rw [hb]; rfl, rfl⟩
    · exact ⟨[66, 66], by unfold World.cell?; rw [hb]; rfl, rfl⟩
    · exact ⟨[67, 67], by unfold World.cell?; rw [hb]; rfl, rfl⟩
    · exact ⟨[68, 68], by unfold World.cell?; rw [hb]; rfl, rfl⟩
    · exact ⟨[69, 69], by unfold World.cell?; rw [hb]; rfl, rfl⟩
    · exact ⟨[70, 70], by unfold World.cell?; rw [hb]; rfl, rfl⟩
  obtain ⟨l, q1, q2⟩ := hq
  have HS2 := Lib.hid (HS.out.trans (Since.next hn))
  have hs2 := Lib.hid hs
  clear hs hn hb hnew HS H0 HC
  go_wp2_with fail
  go_ret
  exact ⟨l, rfl, q2, hs2.out, HS2.out⟩
end Go.Proofs.YtepkihoakagidaaDoor
namespace Go.Proofs.YtepkihoakagidaaDoor
open Go.RowKit

theorem byte_eq (c : UInt8) (k : Nat) (hk : k < 256) : ((c.toNat : Int) == (k : Int)) = (c == UInt8.ofNat k) := by
  by_cases e : c = UInt8.ofNat k
  · rw [e]
    have h : (UInt8.ofNat k).toNat = k := by simp; omega
    rw [h]
    simp
  · have h1 : ((c.toNat : Int) == (k : Int)) = false := by
      rw [beq_eq_false_iff_ne]
      intro h
      have hc : c.toNat = k := by omega
      exact e (by rw [← hc]; simp)
    rw [h1, beq_eq_false_iff_ne.2 e]
/-- One byte, laid in a block of its own. -/
theorem one_news (W : World) (c : UInt8) (x : Int) (hx : x = (c.toNat : Int)) (t : TypeId) : ∀ j u, ([c].map byteV)[j]? = some u → (W.alloc (.cells #[.int .u8 x] t)).cell? ((⟨W.heap.size, 0, none⟩ : Addr).add j) = some u := by
  intro j u hj
  match j with
  | 0 =>
    simp at hj
    rw [← hj, Addr.add_lit, hx]
    unfold byteV
    simp [go_sem]
  | j + 1 => simp at hj
/-- The writing of a segment: its elements, and the bytes so far. -/
structure TextAt (w wx : World) (v vb : Value) (E : List (List (List UInt8))) (l : List UInt8) : Prop where
  row : ByteRow wx (w.heap.size + 1) 5 vb l
  cell : wx.cell? ⟨w.heap.size, 1, none⟩ = some v
  els : ElemsIn (Has_ w) wx v E
  below : Below w.heap.size w wx
  lt : w.heap.size + 1 ≤ wx.heap.size
theorem TextAt.grown {w wx w1 : World} {v vb vb1 : Value} {E : List (List (List UInt8))} {l l1 : List UInt8} (h : TextAt w wx v vb E l) (hr : ByteRow w1 (w.heap.size + 1) 5 vb1 l1) (hg : wx.grownBy w1 vb.ownBlock) : TextAt w w1 v vb1 E l1 := by
  have hlt := h.lt
  have hne : ∀ b, b ≤ w.heap.size → some b ≠ vb.ownBlock := fun b hb e => by
    have := (h.row.lt b e.symm).1
    omega
  have hbl : ∀ b, b ≤ w.heap.size → w1.heap[b]? = wx.heap[b]? := fun b hb => hg.block b (by omega) (hne b hb)
  refine ⟨hr, (World.cell?_of_block (a := ⟨w.heap.size, 1, none⟩) (hbl _ (Nat.le_refl _))).trans h.cell, h.els.keep fun b hb => ⟨hb, hbl b (Nat.le_of_lt hb)⟩, ?_, Nat.le_trans hlt hg.size⟩
  exact ⟨hg.os.trans h.below.os, hg.tape.trans h.below.tape, hg.output.trans h.below.output, Nat.le_trans h.below.size hg.size, fun b hb => (hbl b (Nat.le_of_lt hb)).trans (h.below.block b hb)⟩
theorem TextAt.alloc {w wx : World} {v vb : Value} {E : List (List (List UInt8))} {l : List UInt8} (h : TextAt w wx v vb E l) (o : Obj) : TextAt w (wx.alloc o) v vb E l :=
  h.grown (h.row.keep ((Below.refl _ _).alloc (Nat.le_refl _) _)) (World.grownBy_alloc wx o _)

theorem TextAt.at1 {w wx : World} {v vb : Value} {E : List (List (List UInt8))} {l : List UInt8} (h : TextAt w wx v vb E l) {i : Nat} {e : List (List UInt8)} (he : E[i]? = some e) :
    ∃ a0 cap bo cap3, v = .slice (some a0) E.length cap ∧ wx.cell? (a0.add i) = some (.slice bo e.length cap3) ∧ e.length ≤ maxLen := by
  obtain ⟨ao, cap, rfl, _, hEa⟩ := h.els.form
  obtain ⟨a0, u0, rfl, hc0, hS⟩ := hEa i e he
  obtain ⟨bo, cap3, rfl, hel, _⟩ := hS.form
  exact ⟨a0, cap, bo, cap3, rfl, hc0, hel⟩
theorem TextAt.at2 {w wx : World} {v vb : Value} {E : List (List (List UInt8))} {l : List UInt8} (h : TextAt w wx v vb E l) {i k : Nat} {e : List (List UInt8)} {x : List UInt8} (he : E[i]? = some e) (hx : e[k]? = some x) :
    ∃ a0 cap b0 cap3, v = .slice (some a0) E.length cap ∧ wx.cell? (a0.add i) = some (.slice (some b0) e.length cap3) ∧ wx.cell? (b0.add k) = some (strV x) ∧ x.length ≤ maxLen := by
  obtain ⟨ao, cap, rfl, _, hEa⟩ := h.els.form
  obtain ⟨a0, u0, rfl, hc0, hS⟩ := hEa i e he
  obtain ⟨bo, cap3, rfl, hel, hea⟩ := hS.form
  obtain ⟨b0, rfl, hck, hxl⟩ := hea k x hx
  exact ⟨a0, cap, b0, cap3, rfl, hc0, hck, hxl⟩

end Go.Proofs.YtepkihoakagidaaDoor
namespace Go.Proofs.YtepkihoakagidaaDoor
open Go.RowKit

theorem ReadAt.resCells {w wx : World} {vw : Value} {word tag : List UInt8} {vE : Value} (h : ReadAt w wx vw word tag vE) :
    (wx.cell? ⟨w.heap.size, 0, none⟩ = some (strV []) ∧ wx.frozen? ⟨w.heap.size, 0, none⟩ = false) ∧ (wx.cell? ⟨w.heap.size, 1, none⟩ = some (.slice none 0 0) ∧ wx.frozen? ⟨w.heap.size, 1, none⟩ = false) := by
  have := h.res
  refine ⟨⟨?_, ?_⟩, ?_, ?_⟩ <;> simp [World.cell?, World.frozen?, this]
theorem ElsAt.form {w wx : World} {H : Nat} {vE ucur : Value} {us : List Value} {L : List (List (List UInt8))} {cur : List (List UInt8)} (h : ElsAt w wx H vE us L ucur cur) : ∃ g cap, vE = .slice (some ⟨g, 0, none⟩) (L.length + 1) cap ∧ L.length + 1 ≤ cap := by
  rcases h.els.2 with ⟨_, h2⟩ | ⟨g, cap, cu, h1, _, _, h2, _⟩
  · omega
  · exact ⟨g, cap, h1, h2⟩
theorem ElsAt.curForm {w wx : World} {H : Nat} {vE ucur : Value} {us : List Value} {L : List (List (List UInt8))} {cur : List (List UInt8)} (h : ElsAt w wx H vE us L ucur cur) : ∃ (ao : Option Addr) (c : Nat), ucur = .slice ao cur.length c := by
  rcases h.row.2 with ⟨h1, h2⟩ | ⟨g, cap, cu, h1, _⟩
  · exact ⟨Option.none, 0, by rw [h1, h2]⟩
  · exact ⟨_, _, h1⟩
theorem ReadAt.wordForm {w wx : World} {vw : Value} {word tag : List UInt8} {vE : Value} (h : ReadAt w wx vw word tag vE) : ∃ (ao : Option Addr) (c : Nat), vw = .slice ao word.length c := by
  rcases h.row with ⟨h1, h2⟩ | ⟨g, cap, cu, fz, h1, _⟩
  · exact ⟨Option.none, 0, by rw [h1, h2]; rfl⟩
  · exact ⟨_, _, h1⟩
theorem ElsAt.elCell {w wx : World} {H g n cap : Nat} {ucur : Value} {us : List Value} {L : List (List (List UInt8))} {cur : List (List UInt8)} (h : ElsAt w wx H (.slice (some ⟨g, 0, none⟩) n cap) us L ucur cur) :
    wx.cell? ⟨g, L.length, none⟩ = some ucur ∧ wx.frozen? ⟨g, L.length, none⟩ = false := by
  have hn : n = L.length + 1 := by
    rcases h.els.2 with ⟨h1, _⟩ | ⟨_, _, _, h1, _⟩
    · cases h1
    · injection h1
  subst hn
  refine ⟨?_, h.els.frozenAt _⟩
  rw [h.els.cellAt L.length (by omega), List.getElem?_append_right (by rw [h.len]; exact Nat.le_refl _), h.len]
  simp
theorem ty_ne {w : World} {k r : Nat} {c1 c2 : Array Value} {t1 t2 : TypeId} {f1 f2 : Nat × Nat} (h1 : w.heap[k]? = some (.cells c1 t1 f1)) (h2 : w.heap[r]? = some (.cells c2 t2 f2)) (hne : t1 ≠ t2) : k ≠ r := by
  intro e
  subst e
  rw [h1] at h2
  injection h2 with h2
  injection h2 with _ h2
  exact hne h2
/-- A block that holds no segment. -/
def NotSeg (w : World) (b : Nat) : Prop := ∃ cs t fz, w.heap[b]? = some (.cells cs t fz) ∧ t ≠ 49
theorem NotSeg.has {w : World} {b : Nat} (h : NotSeg w b) : Has_ w b := by
  obtain ⟨cs, t, fz, h, _⟩ := h
  exact (Array.getElem?_eq_some_iff.1 h).1
theorem NotSeg.keep {w w1 : World} {b : Nat} (h : NotSeg w b) (hb : Below w.heap.size w w1) : NotSeg w1 b ∧ w1.heap[b]? = w.heap[b]? := by
  have e := hb.block b h.has
  obtain ⟨cs, t, fz, h, hne⟩ := h
  exact ⟨⟨cs, t, fz, e.trans h, hne⟩, e⟩
theorem ElsAt.done {w wx : World} {H : Nat} {vE ucur : Value} {us : List Value} {L : List (List (List UInt8))} {cur : List (List UInt8)} (h : ElsAt w wx H vE us L ucur cur) :
    ElemsIn (NotSeg wx) wx vE (L ++ [cur]) := by
  refine ⟨us ++ [ucur], ?_, fun i e hi => ?_⟩
  · have := (CellsIn.own h.els).keep (q := NotSeg wx) (w1 := wx) fun b hb => by
      obtain ⟨c1, f1, h1⟩ := own_ty h.els b hb.2.2
      exact ⟨⟨c1, _, f1, h1, by decide⟩, rfl⟩
    simpa using this
  · by_cases hl : i < L.length
    · rw [List.getElem?_append_left hl] at hi
      obtain ⟨u, h3, h4⟩ := h.fin i e hi
      refine ⟨u, by rw [List.getElem?_append_left (by rw [h.len]; exact hl)]; exact h3, h4.keep fun b hb => ⟨?_, rfl⟩⟩
      obtain ⟨⟨c1, f1, hc⟩, _⟩ := hb
      exact ⟨c1, _, f1, hc, by decide⟩
    · have hlt := (List.getElem?_eq_some_iff.1 hi).1
      rw [List.length_append] at hlt
      have h1 : ([cur] : List (List (List UInt8))).length = 1 := rfl
      obtain rfl : i = L.length := by omega
      rw [List.getElem?_append_right (Nat.le_refl _)] at hi
      simp at hi
      subst hi
      refine ⟨ucur, by rw [List.getElem?_append_right (by rw [h.len]; exact Nat.le_refl _), h.len]; simp, (CellsIn.own h.row).keep fun b hb => ?_, h.short⟩
      obtain ⟨c1, f1, h1⟩ := own_ty h.row b hb.2.2
      exact ⟨⟨c1, _, f1, h1, by decide⟩, rfl⟩
/-- A struct of two cells, written whole. -/
theorem setTwo {w : World} {B : Nat} {x0 x1 : Value} (r0 : w.cell? ⟨B, 0, none⟩ = some x0) (r1 : w.cell? ⟨B, 1, none⟩ = some x1) (a b : Value) :
    ((w.setCell ⟨B, 0, none⟩ a).setCell ⟨B, 1, none⟩ b).cell? ⟨B, 0, none⟩ = some a ∧ ((w.setCell ⟨B, 0, none⟩ a).setCell ⟨B, 1, none⟩ b).cell? ⟨B, 1, none⟩ = some b := by
  refine ⟨?_, ?_⟩
  · rw [World.cell?_setCell_other _ _ _ _ (by simp), World.cell?_setCell_same _ _ _ r0]
  · exact World.cell?_setCell_same _ _ _ ((World.cell?_setCell_other _ _ _ _ (by simp)).trans r1)
theorem ElemsIn.setTwo {w : World} {v : Value} {E : List (List (List UInt8))} {B : Nat} {cs : Array Value} {fz : Nat × Nat} (h : ElemsIn (NotSeg w) w v E) (hB : w.heap[B]? = some (.cells cs 49 fz)) (x y : Value) : ElemsIn (NotSeg ((w.setCell ⟨B, 0, none⟩ x).setCell ⟨B, 1, none⟩ y)) ((w.setCell ⟨B, 0, none⟩ x).setCell ⟨B, 1, none⟩ y) v E :=
  h.keep fun b hb => by
    obtain ⟨c1, t, f1, h1, hne⟩ := hb
    have hbB : b ≠ B := ty_ne h1 hB hne
    have e : ((w.setCell ⟨B, 0, none⟩ x).setCell ⟨B, 1, none⟩ y).heap[b]? = w.heap[b]? := (heap_setCell_other _ ⟨B, 1, none⟩ b y (fun e => hbB e)).trans (heap_setCell_other _ ⟨B, 0, none⟩ b x (fun e => hbB e))
    exact ⟨⟨c1, t, f1, e.trans h1, hne⟩, e⟩

theorem ElemsIn.nil (p : Nat → Prop) (w : World) : ElemsIn p w (.slice none 0 0) [] := ⟨[], ⟨rfl, .inl ⟨rfl, rfl⟩⟩, fun i e hi => by simp at hi⟩
theorem info_str : (Tryd.prog.info? 9).map (fun i => (i.zero, i.size, i.bytes)) = some (some (.string ⟨#[]⟩), 1, 16) := by kernel_rfl
theorem info_strs : (Tryd.prog.info? 50).map (fun i => (i.zero, i.size, i.bytes)) = some (some (.slice none 0 0), 1, 24) := by kernel_rfl
theorem nil_news (W : World) (t : TypeId) : ∀ j u, ([Value.slice none 0 0] : List Value)[j]? = some u → (W.alloc (.cells #[.slice none 0 0] t)).cell? ((⟨W.heap.size, 0, none⟩ : Addr).add j) = some u := by
  intro j u hj
  match j with
  | 0 =>
    simp at hj
    rw [← hj, Addr.add_lit]
    simp [go_sem]
  | j + 1 => simp at hj
theorem cellAlloc2 {w : World} {a : Addr} {v : Value} {o : Obj} (h : w.cell? a = some v) : (w.alloc o).cell? a = some v :=
  (((Below.refl w.heap.size w).alloc (Nat.le_refl _) o).cell (World.block_lt_of_cell? w _ h)).trans h
/-- The word reads as a text. -/
def ReadsAs (W : World) (vw : Value) (word : List UInt8) : Prop := (convert 32 9 vw).run Tryd.prog W = .ok (.string ⟨word.toArray⟩) W
theorem reads_as {W : World} {base : Nat} {vw : Value} {word : List UInt8} (h : ByteRow W base 5 vw word) : ReadsAs W vw word :=
  run_text_of_cells (P := Tryd.prog) W 32 9 5 _ _ Tryd.underlying32 Tryd.underlying5 Tryd.underlying9 h.cells
/-- What appending a component needs, and what it leaves. -/
structure CompStep (w wx : World) (word tag : List UInt8) (H g cap : Nat) (vw ucur : Value) (us : List Value) (L : List (List (List UInt8))) (cur : List (List UInt8)) : Prop where
  row : ((wx.drew).alloc (.cells #[strV word] 9)).ownsRow H 9 1 ucur cur.length (cur.map strV)
  hi : H ≤ ((wx.drew).alloc (.cells #[strV word] 9)).heap.size
  news : ∀ ad, some (⟨wx.heap.size, 0, none⟩ : Addr) = some ad → ∀ j u, ([strV word] : List Value)[j]? = some u → ((wx.drew).alloc (.cells #[strV word] 9)).cell? (ad.add j) = some u
  one : ∀ u ∈ ([strV word] : List Value), u.oneCell' = true
  cv1 : ReadsAs wx.drew vw word
  cv2 : ReadsAs ((wx.drew).alloc (.cells #[strV word] 9)) vw word
  next : ∀ u1 w6, w6.ownsRow H 9 1 u1 (cur.length + 1) (cur.map strV ++ [strV word]) → ((wx.drew).alloc (.cells #[strV word] 9)).grownBy w6 ucur.ownBlock →
    (w6.cell? ⟨g, L.length, none⟩ = some ucur ∧ w6.frozen? ⟨g, L.length, none⟩ = false) ∧ w6.cell? ⟨w.heap.size + 2, 1, none⟩ = some (.slice (some ⟨g, 0, none⟩) (L.length + 1) cap) ∧ (∃ ao c, u1 = .slice ao (cur.length + 1) c) ∧ ReadsAs w6 vw word ∧ ReadsAs (w6.setCell ⟨g, L.length, none⟩ u1) vw word ∧
    ReadAt w (w6.setCell ⟨g, L.length, none⟩ u1) (.slice none 0 0) [] tag (.slice (some ⟨g, 0, none⟩) (L.length + 1) cap) ∧ ElsAt w (w6.setCell ⟨g, L.length, none⟩ u1) H (.slice (some ⟨g, 0, none⟩) (L.length + 1) cap) us L u1 (cur ++ [word])
theorem comp_step {w wx : World} {tag : List UInt8} {H g cap : Nat} {vw ucur : Value} {us : List Value} {L : List (List (List UInt8))} {cur : List (List UInt8)} (word : List UInt8) (hw : word.length ≤ 10000000000) (hA : ReadAt w wx vw word tag (.slice (some ⟨g, 0, none⟩) (L.length + 1) cap)) (hE : ElsAt w wx H (.slice (some ⟨g, 0, none⟩) (L.length + 1) cap) us L ucur cur) :
    CompStep w wx word tag H g cap vw ucur us L cur := by
  have hb : Below wx.heap.size wx (wx.drew.alloc (.cells #[strV word] 9)) := ((Below.refl _ _).drew).alloc (Nat.le_refl _) _
  have hA1 := hA.turn (t := 5) (TurnsTy.of_below hb) (by decide) (hA.row.keep hb) (hA.below.trans (hb.mono hA.below.size))
  have hE1 := hE.turn (t := 5) (TurnsTy.of_below hb) (by decide) (by decide)
  refine ⟨hE1.row, Nat.le_trans hE.hi hb.size, ?_, ?_, reads_as hA.drew.row, reads_as hA1.row, ?_⟩
  · intro ad h j u hj
    cases h
    match j with
    | 0 =>
      simp at hj
      rw [← hj, Addr.add_lit]
      simp [go_sem]
    | j + 1 => simp at hj
  · intro u hu
    simp at hu
    rw [hu]
    rfl
  · intro u1 w6 own1 grow1
    have ht := TurnsTy.of_grown grow1 (own_ty hE1.row)
    have hA6 := hA1.empty.turn ht (by decide) (ByteRow.nil w6 w.heap.size 5) (below_grown hA1.below grow1 fun k hk => Nat.le_trans hE.lo (hE1.row.lt k hk).1)
    have hg6 : w6.cell? ⟨g, L.length, none⟩ = some ucur ∧ w6.frozen? ⟨g, L.length, none⟩ = false := by
      obtain ⟨cs, fz, hgb⟩ := own_ty hE1.els g rfl
      have hs := ht.block g _ _ _ hgb (by decide)
      obtain ⟨e1, e2⟩ := hE1.elCell
      exact ⟨(World.cell?_of_block (a := ⟨g, L.length, none⟩) hs).trans e1, (World.frozen?_of_block (a := ⟨g, L.length, none⟩) hs).trans e2⟩
    have hE6 := hE1.comp (word := word) (by unfold maxLen; omega) own1 grow1
    refine ⟨hg6, hA6.cells.2.1, ?_, reads_as (ht.bytes hA1.row (by decide)), ?_, ?_, hE6⟩
    · rcases own1.2 with ⟨_, h1⟩ | ⟨_, _, _, h1, _⟩
      · omega
      · exact ⟨_, _, h1⟩
    · obtain ⟨cs, fz, hgb⟩ := own_ty (ht.own hE1.els (by decide)) g rfl
      exact reads_as ((TurnsTy.of_set (i := L.length) hgb u1).bytes (ht.bytes hA1.row (by decide)) (by decide))
    · obtain ⟨cs, fz, hgb⟩ := own_ty (ht.own hE1.els (by decide)) g rfl
      exact hA6.turn (TurnsTy.of_set (i := L.length) hgb u1) (by decide) (ByteRow.nil _ _ _) (hA6.below.setCell (by
        have := (hE1.els.lt g rfl).1
        exact this) _)
/-- The state of the reading at byte i: before the first plus sign, or within the elements. -/
def RdSt (w wx : World) (b : List UInt8) (R : Seg) (vw : Value) (o : Int) (i : Nat) (word : List UInt8) : Prop :=
  word.length ≤ i ∧ ((o = -1 ∧ rd1 word (toks (b.drop i)) = R ∧ ReadAt w wx vw word [] (.slice none 0 0)) ∨
  ∃ (tag : List UInt8) (L : List (List (List UInt8))) (cur : List (List UInt8)) (H : Nat) (vE : Value) (us : List Value) (ucur : Value), o = (L.length : Int) ∧ L.length ≤ i ∧ cur.length ≤ i ∧ rdT tag L cur word (toks (b.drop i)) = R ∧ ReadAt w wx vw word tag vE ∧ ElsAt w wx H vE us L ucur cur)
theorem RdSt.base {w wx : World} {b : List UInt8} {R : Seg} {vw : Value} {o : Int} {i : Nat} {word : List UInt8} (h : RdSt w wx b R vw o i word) : ByteRow wx w.heap.size 5 vw word ∧ Below w.heap.size w wx := by
  rcases h.2 with ⟨_, _, h⟩ | ⟨_, _, _, _, _, _, _, _, _, _, _, h, _⟩
  · exact ⟨h.row, h.below⟩
  · exact ⟨h.row, h.below⟩
theorem RdSt.alloc {w wx : World} {b : List UInt8} {R : Seg} {vw : Value} {o : Int} {i : Nat} {word : List UInt8} (h : RdSt w wx b R vw o i word) (x : Obj) : RdSt w (wx.alloc x) b R vw o i word := by
  have hb : Below wx.heap.size wx (wx.alloc x) := (Below.refl _ _).alloc (Nat.le_refl _) _
  refine ⟨h.1, ?_⟩
  rcases h.2 with ⟨h1, h2, h3⟩ | ⟨tag, L, cur, H, vE, us, ucur, h1, h2, h3, h4, h5, h6⟩
  · exact .inl ⟨h1, h2, h3.alloc x⟩
  · exact .inr ⟨tag, L, cur, H, vE, us, ucur, h1, h2, h3, h4, h5.alloc x, h6.turn (t := 5) (TurnsTy.of_below hb) (by decide) (by decide)⟩
/-- A byte of a word. -/
theorem RdSt.lit {w wx w1 : World} {b : List UInt8} {R : Seg} {vw vw1 : Value} {o : Int} {i j : Nat} {word : List UInt8} {c : UInt8} (h : RdSt w wx b R vw o i word) (ht : toks (b.drop i) = .lit c :: toks (b.drop j)) (hij : i < j)
    (hr : ByteRow w1 w.heap.size 5 vw1 (word ++ [c])) (hg : wx.grownBy w1 vw.ownBlock) : RdSt w w1 b R vw1 o j (word ++ [c]) := by
  have h0 := h.1
  refine ⟨by rw [List.length_append]; show word.length + 1 ≤ j; omega, ?_⟩
  rcases h.2 with ⟨h1, h2, h3⟩ | ⟨tag, L, cur, H, vE, us, ucur, h1, h2, h3, h4, h5, h6⟩
  · rw [ht] at h2
    exact .inl ⟨h1, h2, h3.word hr hg⟩
  · rw [ht] at h4
    exact .inr ⟨tag, L, cur, H, vE, us, ucur, h1, by omega, by omega, h4, h5.word hr hg, h6.turn (TurnsTy.of_grown hg h5.row.ty) (by decide) (by decide)⟩
theorem BytesIn.form {p : Nat → Prop} {w : World} {v : Value} {b : List UInt8} (h : BytesIn p w v b) : ∃ (ao : Option Addr) (cap : Nat), v = .slice ao b.length cap ∧ ∀ (i : Nat) (c : UInt8), b[i]? = some c → ∃ a, ao = some a ∧ p a.block ∧ w.cell? (a.add i) = some (byteV c) := by
  obtain ⟨h1, h2 | ⟨a, cap, h2, h3, h4, h5, h6⟩⟩ := h
  · refine ⟨none, 0, by rw [h2.1, h2.2], fun k x hk => ?_⟩
    have := (List.getElem?_eq_some_iff.1 hk).1
    omega
  · refine ⟨some a, cap, h2, fun k x hk => ⟨a, rfl, h5 ?_, h6 k _ (by rw [List.getElem?_map, hk]; rfl)⟩⟩
    have := (List.getElem?_eq_some_iff.1 hk).1
    omega
theorem toks_pair_at {b : List UInt8} {i : Nat} {c : UInt8} (h1 : b[i]? = some 63) (h2 : b[i + 1]? = some c) : toks (b.drop i) = .lit c :: toks (b.drop (i + 2)) := by
  obtain ⟨k1, e1⟩ := List.getElem?_eq_some_iff.1 h1
  obtain ⟨k2, e2⟩ := List.getElem?_eq_some_iff.1 h2
  rw [List.drop_eq_getElem_cons k1, List.drop_eq_getElem_cons k2, e1, e2, toks_pair]
theorem toks_at {b : List UInt8} {i : Nat} {c : UInt8} (h1 : b[i]? = some c) (h2 : c ≠ 63 ∨ i + 1 = b.length) : toks (b.drop i) = tokOf c :: toks (b.drop (i + 1)) := by
  obtain ⟨k1, e1⟩ := List.getElem?_eq_some_iff.1 h1
  rw [List.drop_eq_getElem_cons k1, e1]
  rcases h2 with h2 | h2
  · exact toks_step h2 _
  · rw [h2, List.drop_length]
    rfl

theorem heap_alloc0 (w : World) (o : Obj) : (w.alloc o).heap[w.heap.size]? = some o := by
  show (w.heap.push o)[w.heap.size]? = some o
  simp
theorem heap_alloc_lt (w : World) (o : Obj) {k : Nat} (h : k < w.heap.size) : (w.alloc o).heap[k]? = w.heap[k]? := by
  show (w.heap.push o)[k]? = w.heap[k]?
  simp [Array.getElem?_push, Nat.ne_of_lt h]
theorem rdst_start {w : World} {b : List UInt8} {R : Seg} (hR : rd1 [] (toks b) = R) :
    RdSt w (((w.alloc (.cells #[.string ⟨#[]⟩, .slice none 0 0] 49)).alloc (.cells #[] 5)).alloc (.cells #[.string ⟨#[]⟩, .slice none 0 0] 49)) b R (.slice (some ⟨w.heap.size + 1, 0, none⟩) 0 0) (-1) 0 [] := by
  have s1 : (w.alloc (.cells #[.string ⟨#[]⟩, .slice none 0 0] 49)).heap.size = w.heap.size + 1 := by simp
  have s2 : ((w.alloc (.cells #[.string ⟨#[]⟩, .slice none 0 0] 49)).alloc (.cells #[] 5)).heap.size = w.heap.size + 2 := by simp
  have h0 := heap_alloc0 w (.cells #[.string ⟨#[]⟩, .slice none 0 0] 49)
  have h1 := heap_alloc0 (w.alloc (.cells #[.string ⟨#[]⟩, .slice none 0 0] 49)) (.cells #[] 5)
  have h2 := heap_alloc0 ((w.alloc (.cells #[.string ⟨#[]⟩, .slice none 0 0] 49)).alloc (.cells #[] 5)) (.cells #[.string ⟨#[]⟩, .slice none 0 0] 49)
  rw [s1] at h1
  rw [s2] at h2
  refine ⟨Nat.le_refl _, .inl ⟨rfl, hR, ?_, h2, ?_, ?_⟩⟩
  · refine .inr ⟨w.heap.size + 1, 0, #[], (0, 0), rfl, by omega, ?_, FreeTo.zero _, Nat.le_refl _, Nat.zero_le _, rfl, rfl⟩
    exact (heap_alloc_lt _ _ (by omega)).trans h1
  · exact (heap_alloc_lt _ _ (by omega)).trans ((heap_alloc_lt _ _ (by omega)).trans h0)
  · exact (((Below.refl _ _).alloc (Nat.le_refl _) _).alloc (by omega) _).alloc (by omega) _
/-- What opening an element needs, and what it leaves. -/
structure PushStep (w W : World) (b : List UInt8) (R : Seg) (i : Nat) (tag : List UInt8) (vE : Value) (us : List Value) (L : List (List (List UInt8))) (ucur : Value) : Prop where
  row : (W.alloc (.cells #[.slice none 0 0] 50)).ownsRow w.heap.size 50 1 vE (L.length + 1) (us ++ [ucur])
  hi : w.heap.size ≤ (W.alloc (.cells #[.slice none 0 0] 50)).heap.size
  next : ∀ v1 w3, w3.ownsRow w.heap.size 50 1 v1 (L.length + 1 + 1) (us ++ [ucur, .slice none 0 0]) → (W.alloc (.cells #[.slice none 0 0] 50)).grownBy w3 vE.ownBlock →
    (∃ g cap, v1 = .slice (some ⟨g, 0, none⟩) (L.length + 1 + 1) cap) ∧ (w3.cell? ⟨w.heap.size + 2, 0, none⟩ = some (strV tag) ∧ w3.frozen? ⟨w.heap.size + 2, 0, none⟩ = false) ∧ (w3.cell? ⟨w.heap.size + 2, 1, none⟩ = some vE ∧ w3.frozen? ⟨w.heap.size + 2, 1, none⟩ = false) ∧
    RdSt w (w3.setCell ⟨w.heap.size + 2, 1, none⟩ v1) b R (.slice none 0 0) ((L.length : Int) + 1) (i + 1) []
theorem push_step {w W : World} {b : List UInt8} {R : Seg} {i : Nat} {tag word : List UInt8} {vw vE : Value} {us : List Value} {L : List (List (List UInt8))} {ucur : Value} {cur : List (List UInt8)} {H : Nat} (hA : ReadAt w W vw word tag vE) (hE : ElsAt w W H vE us L ucur cur) (hR : rdT tag (L ++ [cur]) [] [] (toks (b.drop (i + 1))) = R) (hl : L.length ≤ i) :
    PushStep w W b R i tag vE us L ucur := by
  have hb : Below W.heap.size W (W.alloc (.cells #[.slice none 0 0] 50)) := (Below.refl _ _).alloc (Nat.le_refl _) _
  have hA1 := hA.alloc (.cells #[.slice none 0 0] 50)
  have hE1 := hE.turn (t := 5) (TurnsTy.of_below hb) (by decide) (by decide)
  refine ⟨hE1.els, hA1.below.size, fun v1 w3 hown hg => ?_⟩
  have ht := TurnsTy.of_grown hg (own_ty hE1.els)
  have hE3 := hE1.push (by simpa using hown) hg
  have hA3 := hA1.empty.turn ht (by decide) (ByteRow.nil w3 w.heap.size 5) (below_grown hA1.below hg fun k hk => (hE1.els.lt k hk).1)
  obtain ⟨g, cap, hv, _⟩ := hE3.form
  have e1 : (L ++ [cur]).length = L.length + 1 := by simp
  rw [e1] at hv
  subst hv
  refine ⟨⟨g, cap, rfl⟩, hA3.cells.1, hA3.cells.2, Nat.zero_le _, .inr ⟨tag, L ++ [cur], [], w3.heap.size, .slice (some ⟨g, 0, none⟩) (L.length + 1 + 1) cap, us ++ [ucur], .slice none 0 0, by simp, by rw [e1]; omega, Nat.zero_le _, hR, ?_, ?_⟩⟩
  · exact hA3.set (tag1 := tag) 1 _ rfl
  · exact hE3.turn (TurnsTy.of_set (i := 1) hA3.box _) (by decide) (by decide)

end Go.Proofs.YtepkihoakagidaaDoor
namespace Go.Proofs.YtepkihoakagidaaDoor
open Go.RowKit

theorem any_snoc {α : Type} {f : α → Bool} {l : List α} {i : Nat} {x : α} (h : l[i]? = some x) : (l.take (i + 1)).any f = ((l.take i).any f || f x) := by
  rw [List.take_add_one, h, List.any_append]
  simp
theorem any_all {α : Type} {f : α → Bool} {l : List α} : (l.take l.length).any f = l.any f := by rw [List.take_length]
theorem bad_drop {E : List (List (List UInt8))} {i : Nat} {e : List (List UInt8)} (h : E[i]? = some e) : badB (E.drop i) = (((e.isEmpty && decide (i + 1 = E.length)) || lastE e) || badB (E.drop (i + 1))) := by
  obtain ⟨hi, rfl⟩ := List.getElem?_eq_some_iff.1 h
  rw [List.drop_eq_getElem_cons hi]
  cases hr : E.drop (i + 1) with
  | nil =>
    have hl : i + 1 = E.length := by
      have := congrArg List.length hr
      rw [List.length_drop, List.length_nil] at this
      omega
    rw [decide_eq_true hl, Bool.and_true]
    show _ = (_ || false)
    rw [Bool.or_false]
    rfl
  | cons f r =>
    have hl : ¬ i + 1 = E.length := by
      intro hh
      rw [hh, List.drop_length] at hr
      cases hr
    rw [decide_eq_false hl, Bool.and_false, Bool.false_or]
    rfl
theorem last_at {e : List (List UInt8)} {x : List UInt8} (h : e[e.length - 1]? = some x) : lastE e = x.isEmpty := by
  unfold lastE
  rw [List.getLast?_eq_getElem?, h]
  cases x <;> rfl
/-- The classes of a byte of a tag. -/
theorem byte_class (x : UInt8) : (letB x = true ∧ 65 ≤ x.toNat ∧ x.toNat ≤ 90) ∨ (letB x = false ∧ digB x = true ∧ 48 ≤ x.toNat ∧ x.toNat ≤ 57) ∨ (letB x = false ∧ digB x = false ∧ (x.toNat < 48 ∨ (57 < x.toNat ∧ x.toNat < 65) ∨ 90 < x.toNat)) := by
  unfold letB digB
  by_cases h1 : 65 ≤ x.toNat ∧ x.toNat ≤ 90
  · exact .inl ⟨by simp; omega, h1⟩
  · by_cases h2 : 48 ≤ x.toNat ∧ x.toNat ≤ 57
    · exact .inr (.inl ⟨by simp; omega, by simp; omega, h2⟩)
    · exact .inr (.inr ⟨by simp; omega, by simp; omega, by omega⟩)
/-- Are the first i bytes of a tag as they must be? -/
def TagTo (a b c : UInt8) (i : Nat) : Prop := (0 < i → letB a = true) ∧ (1 < i → (letB b || digB b) = true) ∧ (2 < i → (letB c || digB c) = true)

end Go.Proofs.YtepkihoakagidaaDoor
namespace Go.Proofs.YtepkihoakagidaaDoor
open Go.RowKit


/-- The scan for a segment's end has come to byte n. -/
def EndTo (b : List UInt8) (n : Nat) : Prop := (n ≤ b.length ∧ endF b = (endF (b.drop n)).map (· + n)) ∨ (n = b.length + 1 ∧ endF b = none)
theorem EndTo.zero (b : List UInt8) : EndTo b 0 := .inl ⟨Nat.zero_le _, by cases h : endF b <;> simp [h]⟩
theorem EndTo.hit {b : List UInt8} {n : Nat} (h : EndTo b n) (hc : b[n]? = some 39) : endF b = some n := by
  obtain ⟨k1, e1⟩ := List.getElem?_eq_some_iff.1 hc
  rcases h with ⟨_, h⟩ | ⟨h, _⟩
  · rw [List.drop_eq_getElem_cons k1, e1, end_hit] at h
    simpa using h
  · omega
theorem EndTo.over {b : List UInt8} {n : Nat} (h : EndTo b n) (hn : b.length ≤ n) : endF b = none := by
  rcases h with ⟨h1, h⟩ | ⟨_, h⟩
  · obtain rfl : n = b.length := by omega
    rw [List.drop_length] at h
    exact h
  · exact h
theorem EndTo.pair {b : List UInt8} {n : Nat} (h : EndTo b n) (hc : b[n]? = some 63) : EndTo b (n + 2) ∨ (n + 1 = b.length ∧ EndTo b (n + 2)) := by
  obtain ⟨k1, e1⟩ := List.getElem?_eq_some_iff.1 hc
  rcases h with ⟨_, h⟩ | ⟨h, _⟩
  · rw [List.drop_eq_getElem_cons k1, e1] at h
    by_cases h2 : n + 1 < b.length
    · rw [List.drop_eq_getElem_cons h2, end_pair] at h
      refine .inl (.inl ⟨by omega, ?_⟩)
      rw [h]
      cases endF (b.drop (n + 1 + 1)) with
      | none => rfl
      | some k => simp; omega
    · have h3 : n + 1 = b.length := by omega
      rw [h3, List.drop_length, end_last] at h
      exact .inr ⟨h3, .inr ⟨by omega, h⟩⟩
  · omega
theorem EndTo.step {b : List UInt8} {n : Nat} {c : UInt8} (h : EndTo b n) (hc : b[n]? = some c) (h1 : c ≠ 39) (h2 : c ≠ 63) : EndTo b (n + 1) := by
  obtain ⟨k1, e1⟩ := List.getElem?_eq_some_iff.1 hc
  rcases h with ⟨_, h⟩ | ⟨h, _⟩
  · rw [List.drop_eq_getElem_cons k1, e1, end_step h1 h2] at h
    refine .inl ⟨by omega, ?_⟩
    rw [h]
    cases endF (b.drop (n + 1)) with
    | none => rfl
    | some k => simp; omega
  · omega
theorem next_none {b : List UInt8} (h : endF b = none) : nextF b = (noSeg, 0, 5) := by unfold nextF; rw [h]
theorem next_some {b : List UInt8} {n : Nat} (h : endF b = some n) : nextF b = if segE (readF (b.take n)) = 0 ∧ encS (readF (b.take n)) = b.take (n + 1) then (readF (b.take n), n + 1, 0) else (noSeg, 0, 4) := by unfold nextF; rw [h]
theorem BytesIn.take {p : Nat → Prop} {w : World} {a : Addr} {len cap n : Nat} {b : List UInt8} (h : BytesIn p w (.slice (some a) len cap) b) (hn : n ≤ b.length) : BytesIn p w (.slice (some a) n cap) (b.take n) := by
  have hl : (b.take n).length = n := by rw [List.length_take]; omega
  refine ⟨by simp, ?_⟩
  obtain ⟨_, ⟨h1, _⟩ | ⟨a2, cap2, h2, h3, h4, h5, h6⟩⟩ := h
  · cases h1
  · injection h2 with e1 e2 e3
    injection e1 with e1
    subst e1 e3
    refine .inr ⟨a, cap, by rw [hl], by omega, h4, fun h0 => h5 (by omega), fun j u hj => h6 j u ?_⟩
    rw [List.getElem?_map] at hj ⊢
    have hj2 : j < n := by
      rcases Nat.lt_or_ge j n with h | h
      · exact h
      · rw [List.getElem?_eq_none (by omega)] at hj
        cases hj
    rw [List.getElem?_take_of_lt hj2] at hj
    exact hj
theorem BytesIn.cap {p : Nat → Prop} {w : World} {a : Addr} {len cap : Nat} {b : List UInt8} (h : BytesIn p w (.slice (some a) len cap) b) : b.length ≤ cap := by
  obtain ⟨_, ⟨h1, _⟩ | ⟨a2, cap2, h2, h3, _⟩⟩ := h
  · cases h1
  · injection h2 with _ _ e3
    omega
theorem BytesIn.keep {w wx : World} {v : Value} {b : List UInt8} (h : BytesIn (Has_ w) w v b) (hb : Below w.heap.size w wx) : BytesIn (Has_ wx) wx v b := CellsIn.keep h (has_keep hb)
/-- The result's own cells while Next runs. -/
structure NextAt (w W : World) : Prop where
  below : Below w.heap.size w W
  res : W.heap[w.heap.size]? = some (.cells #[.string ⟨#[]⟩, .slice none 0 0] 49 (0, 0))
theorem NextAt.keep {w W W1 : World} (h : NextAt w W) (hb : Below W.heap.size W W1) : NextAt w W1 :=
  ⟨h.below.trans (hb.mono h.below.size), (hb.block _ (Array.getElem?_eq_some_iff.1 h.res).1).trans h.res⟩
theorem NextAt.cells {w W : World} (h : NextAt w W) : (W.cell? ⟨w.heap.size, 0, none⟩ = some (.string ⟨#[]⟩) ∧ W.frozen? ⟨w.heap.size, 0, none⟩ = false) ∧ (W.cell? ⟨w.heap.size, 1, none⟩ = some (.slice none 0 0) ∧ W.frozen? ⟨w.heap.size, 1, none⟩ = false) := by
  have := h.res
  refine ⟨⟨?_, ?_⟩, ?_, ?_⟩ <;> simp [World.cell?, World.frozen?, this]
/-- The box of the segment that was read. -/
structure BoxAt (w1 W2 : World) (t : List UInt8) (x : Value) : Prop where
  below : Below w1.heap.size w1 W2
  box : W2.heap[w1.heap.size]? = some (.cells #[.string ⟨t.toArray⟩, x] 49 (0, 0))
theorem box_at (w1 : World) (t : List UInt8) (x : Value) : BoxAt w1 (w1.alloc (.cells #[.string ⟨t.toArray⟩, x] 49)) t x := by
  refine ⟨(Below.refl _ _).alloc (Nat.le_refl _) _, ?_⟩
  show (w1.heap.push _)[w1.heap.size]? = some _
  simp
theorem BoxAt.keep {w1 W2 W3 : World} {t : List UInt8} {x : Value} (h : BoxAt w1 W2 t x) (hb : Below W2.heap.size W2 W3) : BoxAt w1 W3 t x :=
  ⟨h.below.trans (hb.mono h.below.size), (hb.block _ (Array.getElem?_eq_some_iff.1 h.box).1).trans h.box⟩
theorem BoxAt.cells {w1 W2 : World} {t : List UInt8} {x : Value} (h : BoxAt w1 W2 t x) : W2.cell? ⟨w1.heap.size, 0, none⟩ = some (.string ⟨t.toArray⟩) ∧ W2.cell? ⟨w1.heap.size, 1, none⟩ = some x := by
  have := h.box
  refine ⟨?_, ?_⟩ <;> simp [World.cell?, this]
/-- What Next holds while it compares. -/
structure Mid (w w1 W : World) (b : List UInt8) (a : Addr) (cap : Nat) (S : Seg) (x : Value) : Prop where
  at_ : NextAt w W
  box : BoxAt w1 W S.tag x
  inp : BytesIn (Has_ W) W (.slice (some a) b.length cap) b
  els : ElemsIn (NotSeg W) W x S.els
theorem Mid.keep {w w1 W W1 : World} {b : List UInt8} {a : Addr} {cap : Nat} {S : Seg} {x : Value} (h : Mid w w1 W b a cap S x) (hb : Below W.heap.size W W1) : Mid w w1 W1 b a cap S x :=
  ⟨h.at_.keep hb, h.box.keep hb, h.inp.keep hb, h.els.keep fun _ hb1 => hb1.keep hb⟩
theorem Mid.drew {w w1 W : World} {b : List UInt8} {a : Addr} {cap : Nat} {S : Seg} {x : Value} (h : Mid w w1 W b a cap S x) : Mid w w1 W.drew b a cap S x := h.keep (Below.refl _ _).drew
/-- What the region of the comparison loads. -/
def Loads (w1 W : World) (b : List UInt8) (a : Addr) (n cap : Nat) (S : Seg) (x : Value) : Prop :=
  (W.cell? ⟨w1.heap.size, 0, none⟩ = some (.string ⟨S.tag.toArray⟩) ∧ W.cell? ⟨w1.heap.size, 1, none⟩ = some x) ∧ (convert 32 9 (.slice (some a) (n + 1) cap)).run Tryd.prog W = .ok (.string ⟨(b.take (n + 1)).toArray⟩) W
theorem Mid.loads {w w1 W : World} {b : List UInt8} {a : Addr} {n cap : Nat} {S : Seg} {x : Value} (h : Mid w w1 W b a cap S x) (hn : n + 1 ≤ b.length) : Loads w1 W b a n cap S x := by
  refine ⟨h.box.cells, ?_⟩
  refine run_text_of_cells (P := Tryd.prog) W 32 9 5 _ _ Tryd.underlying32 Tryd.underlying5 Tryd.underlying9 (h.inp.take hn)
theorem text_ne {x y : List UInt8} (h : x ≠ y) : ((⟨x.toArray⟩ : ByteArray) != ⟨y.toArray⟩) = true := by
  have e : ((⟨x.toArray⟩ : ByteArray) == ⟨y.toArray⟩) = (x.toArray == y.toArray) := rfl
  show (!((⟨x.toArray⟩ : ByteArray) == ⟨y.toArray⟩)) = true
  have : x.toArray ≠ y.toArray := fun h2 => h (by simpa using h2)
  rw [e, beq_eq_false_iff_ne.2 this]
  rfl
theorem rdT_tag {tag : List UInt8} : ∀ (ts : List Tok) (L : List (List (List UInt8))) (cur : List (List UInt8)) (word : List UInt8), (rdT tag L cur word ts).tag = tag
  | [], _, _, _ => rfl
  | .lit _ :: r, _, _, _ => rdT_tag r _ _ _
  | .plus :: r, _, _, _ => rdT_tag r _ _ _
  | .colon :: r, _, _, _ => rdT_tag r _ _ _
theorem rd1_tag : ∀ (ts : List Tok) (word : List UInt8), (rd1 word ts).tag.length ≤ word.length + ts.length
  | [], _ => Nat.le_refl _
  | .lit c :: r, word => by
    have := rd1_tag r (word ++ [c])
    rw [List.length_append] at this
    show (rd1 (word ++ [c]) r).tag.length ≤ word.length + (r.length + 1)
    have e : [c].length = 1 := rfl
    omega
  | .plus :: r, word => by
    show (rdT word [] [] [] r).tag.length ≤ _
    rw [rdT_tag]
    exact Nat.le_add_right _ _
  | .colon :: r, word => Nat.le_add_right _ _
theorem toks_len : ∀ (k : Nat) (b : List UInt8), b.length ≤ k → (toks b).length ≤ b.length
  | 0, b, h => by
    obtain rfl := List.eq_nil_of_length_eq_zero (Nat.le_zero.1 h)
    exact Nat.le_refl _
  | k + 1, [], _ => Nat.le_refl _
  | k + 1, [c], _ => Nat.le_refl _
  | k + 1, c :: d :: r, h => by
    have h1 : r.length + 1 + 1 ≤ k + 1 := h
    by_cases hc : c = 63
    · subst hc
      rw [toks_pair]
      have := toks_len k r (by omega)
      show (toks r).length + 1 ≤ r.length + 1 + 1
      omega
    · rw [toks_step hc]
      have := toks_len k (d :: r) (by show r.length + 1 ≤ k; omega)
      show (toks (d :: r)).length + 1 ≤ (d :: r).length + 1
      omega
theorem read_tag (b : List UInt8) : (readF b).tag.length ≤ b.length := by
  have := rd1_tag (toks b) []
  have h2 := toks_len b.length b (Nat.le_refl _)
  have e : ([] : List UInt8).length = 0 := rfl
  unfold readF
  omega

end Go.Proofs.YtepkihoakagidaaDoor
namespace Go.Proofs.YtepkihoakagidaaDoor
open Go.RowKit

theorem NotSeg.turn {w w1 : World} {b : Nat} (h : NotSeg w b) (ht : TurnsTy 49 w w1) : NotSeg w1 b ∧ w1.heap[b]? = w.heap[b]? := by
  obtain ⟨cs, t, fz, h1, hne⟩ := h
  have e := ht.block b cs t fz h1 hne
  exact ⟨⟨cs, t, fz, e.trans h1, hne⟩, e⟩
/-- What was decoded so far. -/
structure DecAt (w wx : World) (vl : Value) (us : List Value) (acc : List Seg) : Prop where
  row : wx.ownsRow w.heap.size 49 2 vl acc.length us
  segs : ∀ (i : Nat) (s : Seg), acc[i]? = some s → us[i * 2]? = some (strV s.tag) ∧ s.tag.length ≤ maxLen ∧ ∃ u, us[i * 2 + 1]? = some u ∧ ElemsIn (NotSeg wx) wx u s.els
  below : Below w.heap.size w wx
theorem DecAt.keep {w wx w1 : World} {vl : Value} {us : List Value} {acc : List Seg} (h : DecAt w wx vl us acc) (hb : Below wx.heap.size wx w1) : DecAt w w1 vl us acc :=
  ⟨(TurnsTy.of_below (t := 5) hb).own h.row (by decide), fun i s hi => by
    obtain ⟨h1, h2, u, h3, h4⟩ := h.segs i s hi
    exact ⟨h1, h2, u, h3, h4.keep fun _ hb1 => hb1.keep hb⟩, h.below.trans (hb.mono h.below.size)⟩
theorem DecAt.push {w wx w1 : World} {vl v1 x : Value} {us : List Value} {acc : List Seg} {s : Seg} (h : DecAt w wx vl us acc) (hr : w1.ownsRow w.heap.size 49 2 v1 (acc.length + 1) (us ++ [strV s.tag, x])) (hg : wx.grownBy w1 vl.ownBlock)
    (hx : ElemsIn (NotSeg wx) wx x s.els) (hs : s.tag.length ≤ maxLen) : DecAt w w1 v1 (us ++ [strV s.tag, x]) (acc ++ [s]) := by
  have ht := TurnsTy.of_grown hg (own_ty h.row)
  have hl : us.length = acc.length * 2 := h.row.1
  refine ⟨by simpa using hr, fun i s1 hi => ?_, below_grown h.below hg fun k hk => (h.row.lt k hk).1⟩
  by_cases hlt : i < acc.length
  · rw [List.getElem?_append_left hlt] at hi
    obtain ⟨h1, h2, u, h3, h4⟩ := h.segs i s1 hi
    refine ⟨by rw [List.getElem?_append_left (by omega)]; exact h1, h2, u, by rw [List.getElem?_append_left (by omega)]; exact h3, h4.keep fun _ hb1 => hb1.turn ht⟩
  · have hlt2 := (List.getElem?_eq_some_iff.1 hi).1
    rw [List.length_append] at hlt2
    have h1 : ([s] : List Seg).length = 1 := rfl
    obtain rfl : i = acc.length := by omega
    rw [List.getElem?_append_right (Nat.le_refl _)] at hi
    simp at hi
    subst hi
    refine ⟨?_, hs, x, ?_, hx.keep fun _ hb1 => hb1.turn ht⟩
    · rw [← hl, List.getElem?_append_right (Nat.le_refl _)]
      simp
    · rw [← hl, List.getElem?_append_right (by omega)]
      simp
theorem DecAt.done {w wx : World} {vl : Value} {us : List Value} {acc : List Seg} (h : DecAt w wx vl us acc) : SegsIn (Has_ wx) wx vl acc :=
  ⟨us, (CellsIn.own h.row).keep fun b hb => ⟨hb.2.1, rfl⟩, fun i s hi => by
    obtain ⟨h1, h2, u, h3, h4⟩ := h.segs i s hi
    exact ⟨h1, h2, u, h3, h4.keep fun b hb1 => ⟨hb1.has, rfl⟩⟩⟩
theorem BytesIn.drop {p : Nat → Prop} {w : World} {a : Addr} {len cap n : Nat} {b : List UInt8} (h : BytesIn p w (.slice (some a) len cap) b) (hn : n ≤ b.length) : BytesIn p w (.slice (some (a.add n)) (b.length - n) (cap - n)) (b.drop n) := by
  refine ⟨by simp, ?_⟩
  obtain ⟨_, ⟨h1, _⟩ | ⟨a2, cap2, h2, h3, h4, h5, h6⟩⟩ := h
  · cases h1
  · injection h2 with e1 e2 e3
    injection e1 with e1
    subst e1 e3
    refine .inr ⟨a.add n, cap - n, by rw [List.length_drop], by rw [List.length_drop]; omega, by omega, fun h0 => by rw [add_block]; rw [List.length_drop] at h0; exact h5 (by omega), fun j u hj => ?_⟩
    rw [Addr.add_add]
    refine h6 (n + j) u ?_
    rw [List.getElem?_map] at hj ⊢
    rw [List.getElem?_drop] at hj
    exact hj
theorem info_seg : (Tryd.prog.info? 49).map (fun i => (i.zero, i.size, i.bytes)) = some (some (.agg #[.string ⟨#[]⟩, .slice none 0 0]), 2, 40) := by kernel_rfl
theorem news_two (w1 : World) (t : List UInt8) (x : Value) : ∀ j u, ([strV t, x] : List Value)[j]? = some u → (w1.alloc (.cells #[.string ⟨t.toArray⟩, x] 49)).cell? ((⟨w1.heap.size, 0, none⟩ : Addr).add j) = some u := by
  intro j u hj
  obtain ⟨c0, c1⟩ := (box_at w1 t x).cells
  match j with
  | 0 =>
    simp at hj
    rw [← hj, Addr.add_lit]
    exact c0
  | 1 =>
    simp at hj
    rw [← hj, Addr.add_lit]
    exact c1
  | j + 2 => simp at hj

end Go.Proofs.YtepkihoakagidaaDoor
namespace Go.Proofs.YtepkihoakagidaaDoor
open Go.RowKit

theorem cut_any (c : Nat) (v : Value) (n : Nat) (f : Nat → Int) (w : World) (h : ListAt w .i64 v n f) :
    Calls Tryd.prog 35 #[v, .int .i64 (c : Int)] w fun e w' => ∃ u, e = .returned u ∧ ListAt w .i64 u (min n c) f ∧ w = w' := by
  rcases h with ⟨rfl, rfl⟩ | ⟨a, cap, rfl, h1, h2, h3⟩
  · go_enter Tryd.func35, Tryd.ntmps35
    go_wp2_with fail
    go_ret
    exact ⟨_, rfl, .inl ⟨rfl, by omega⟩, rfl⟩
  · have hx := Lib.hid h3
    clear h3
    have s2 : n ≤ 9223372036854775807 := by unfold maxLen at h2; omega
    by_cases hc : c < n
    · have d1 : decide (c < n) = true := decide_eq_true hc
      have s1 : (c : Int) ≤ (cap : Int) := by omega
      go_enter Tryd.func35, Tryd.ntmps35
      go_wp2_with fail
      go_ret
      exact ⟨_, rfl, .inr ⟨a, cap, by rw [Nat.min_eq_right (by omega)]; rfl, by omega, h2, fun i hi => hx.out i (by omega)⟩, rfl⟩
    · have d1 : decide (c < n) = false := decide_eq_false hc
      go_enter Tryd.func35, Tryd.ntmps35
      go_wp2_with fail
      go_ret
      exact ⟨_, rfl, .inr ⟨a, cap, by rw [Nat.min_eq_left (by omega)]; rfl, by omega, h2, fun i hi => hx.out i (by omega)⟩, rfl⟩
end Go.Proofs.YtepkihoakagidaaDoor
namespace Go.Proofs.YtepkihoakagidaaDoor

/-- Where the first byte c outside of the pairs of a mark and the byte behind it stands. -/
def cutAt (c : UInt8) : List UInt8 → Option Nat
  | [] => none
  | [x] => if x = c then some 0 else none
  | x :: y :: r => if x = c then some 0 else if x = 63 then (cutAt c r).map (· + 2) else (cutAt c (y :: r)).map (· + 1)
theorem cut_hit (c : UInt8) (r : List UInt8) : cutAt c (c :: r) = some 0 := by
  cases r with
  | nil => exact if_pos rfl
  | cons y r => exact if_pos rfl
theorem cut_pair {c : UInt8} (hc : c ≠ 63) (y : UInt8) (r : List UInt8) : cutAt c (63 :: y :: r) = (cutAt c r).map (· + 2) := (if_neg (fun h => hc h.symm)).trans (if_pos rfl)
theorem cut_last {c : UInt8} (hc : c ≠ 63) : cutAt c [63] = none := if_neg (fun h => hc h.symm)
theorem cut_step {c x : UInt8} (h1 : x ≠ c) (h2 : x ≠ 63) (r : List UInt8) : cutAt c (x :: r) = (cutAt c r).map (· + 1) := by
  cases r with
  | nil => exact if_neg h1
  | cons y r => exact (if_neg h1).trans (if_neg h2)
theorem end_cut : ∀ b : List UInt8, endF b = cutAt 39 b
  | [] => rfl
  | [c] => rfl
  | c :: d :: r => by
    show (if c = 39 then some 0 else if c = 63 then (endF r).map (· + 2) else (endF (d :: r)).map (· + 1)) = if c = 39 then some 0 else if c = 63 then (cutAt 39 r).map (· + 2) else (cutAt 39 (d :: r)).map (· + 1)
    rw [end_cut r, end_cut (d :: r)]
theorem cut_lt (c : UInt8) : ∀ (b : List UInt8) (n : Nat), cutAt c b = some n → n < b.length
  | [], _, h => by cases h
  | [x], n, h => by
    have h : (if x = c then some 0 else none) = some n := h
    split at h
    · cases h; exact Nat.one_pos
    · cases h
  | x :: y :: r, n, h => by
    have h : (if x = c then some 0 else if x = 63 then (cutAt c r).map (· + 2) else (cutAt c (y :: r)).map (· + 1)) = some n := h
    split at h
    · cases h; simp
    · split at h
      · obtain ⟨k, hk, rfl⟩ := Option.map_eq_some_iff.1 h
        have := cut_lt c r k hk
        simp
        omega
      · obtain ⟨k, hk, rfl⟩ := Option.map_eq_some_iff.1 h
        have := cut_lt c (y :: r) k hk
        simp at this ⊢
        omega
/-- What cut returns. -/
def cutF (c : UInt8) (b : List UInt8) : List UInt8 × List UInt8 × Bool :=
  match cutAt c b with
  | some n => (b.take n, b.drop (n + 1), true)
  | none => (b, [], false)
theorem cutF_some {c : UInt8} {b : List UInt8} {n : Nat} (h : cutAt c b = some n) : cutF c b = (b.take n, b.drop (n + 1), true) := by unfold cutF; rw [h]
theorem cutF_none {c : UInt8} {b : List UInt8} (h : cutAt c b = none) : cutF c b = (b, [], false) := by unfold cutF; rw [h]
theorem cutF_len (c : UInt8) (b : List UInt8) : (cutF c b).1.length ≤ b.length ∧ (cutF c b).2.1.length ≤ b.length := by
  cases h : cutAt c b with
  | none => rw [cutF_none h]; simp
  | some n => rw [cutF_some h, List.length_take, List.length_drop]; exact ⟨by omega, by omega⟩
/-- Has the scan come to byte n? -/
def CutTo (c : UInt8) (b : List UInt8) (n : Nat) : Prop := (n ≤ b.length ∧ cutAt c b = (cutAt c (b.drop n)).map (· + n)) ∨ (n = b.length + 1 ∧ cutAt c b = none)
theorem CutTo.zero (c : UInt8) (b : List UInt8) : CutTo c b 0 := .inl ⟨Nat.zero_le _, by cases h : cutAt c b <;> simp [h]⟩
theorem CutTo.hit {c : UInt8} {b : List UInt8} {n : Nat} (h : CutTo c b n) (hc : b[n]? = some c) : cutAt c b = some n := by
  obtain ⟨k1, e1⟩ := List.getElem?_eq_some_iff.1 hc
  rcases h with ⟨_, h⟩ | ⟨h, _⟩
  · rw [List.drop_eq_getElem_cons k1, e1, cut_hit] at h
    simpa using h
  · omega
theorem CutTo.over {c : UInt8} {b : List UInt8} {n : Nat} (h : CutTo c b n) (hn : b.length ≤ n) : cutAt c b = none := by
  rcases h with ⟨h1, h⟩ | ⟨_, h⟩
  · obtain rfl : n = b.length := by omega
    rw [List.drop_length] at h
    exact h
  · exact h
theorem CutTo.pair {c : UInt8} {b : List UInt8} {n : Nat} (h : CutTo c b n) (hn : c ≠ 63) (hc : b[n]? = some 63) : CutTo c b (n + 2) := by
  obtain ⟨k1, e1⟩ := List.getElem?_eq_some_iff.1 hc
  rcases h with ⟨_, h⟩ | ⟨h, _⟩
  · rw [List.drop_eq_getElem_cons k1, e1] at h
    by_cases h2 : n + 1 < b.length
    · rw [List.drop_eq_getElem_cons h2, cut_pair hn] at h
      refine .inl ⟨by omega, ?_⟩
      rw [h]
      cases cutAt c (b.drop (n + 1 + 1)) with
      | none => rfl
      | some k => simp; omega
    · have h3 : n + 1 = b.length := by omega
      rw [h3, List.drop_length, cut_last hn] at h
      exact .inr ⟨by omega, h⟩
  · omega
theorem CutTo.step {c x : UInt8} {b : List UInt8} {n : Nat} (h : CutTo c b n) (hc : b[n]? = some x) (h1 : x ≠ c) (h2 : x ≠ 63) : CutTo c b (n + 1) := by
  obtain ⟨k1, e1⟩ := List.getElem?_eq_some_iff.1 hc
  rcases h with ⟨_, h⟩ | ⟨h, _⟩
  · rw [List.drop_eq_getElem_cons k1, e1, cut_step h1 h2] at h
    refine .inl ⟨by omega, ?_⟩
    rw [h]
    cases cutAt c (b.drop (n + 1)) with
    | none => rfl
    | some k => simp; omega
  · omega

/-- Bytes without c outside of their pairs, and which close all their pairs. -/
def ThruC (c : UInt8) (l : List UInt8) : Prop := ∀ r, cutAt c (l ++ r) = (cutAt c r).map (· + l.length)
theorem ThruC.nil (c : UInt8) : ThruC c [] := fun r => by
  show cutAt c r = (cutAt c r).map (· + 0)
  cases cutAt c r <;> rfl
theorem ThruC.append {c : UInt8} {a b : List UInt8} (ha : ThruC c a) (hb : ThruC c b) : ThruC c (a ++ b) := fun r => by
  rw [List.append_assoc, ha, hb]
  cases cutAt c r with
  | none => rfl
  | some n => simp; omega
theorem ThruC.cons {c x : UInt8} {l : List UInt8} (h1 : x ≠ c) (h2 : x ≠ 63) (h : ThruC c l) : ThruC c (x :: l) := ThruC.append (a := [x]) (fun r => cut_step h1 h2 r) h
theorem ThruC.esc {c : UInt8} (hc : spB c = true) (hn : c ≠ 63) : ∀ x : List UInt8, ThruC c (esc x)
  | [] => ThruC.nil c
  | y :: x => by
    show ThruC c (if spB y then 63 :: y :: Go.Proofs.YtepkihoakagidaaDoor.esc x else y :: Go.Proofs.YtepkihoakagidaaDoor.esc x)
    cases hy : spB y with
    | true => exact ThruC.append (a := [63, y]) (fun r => cut_pair hn y r) (ThruC.esc hc hn x)
    | false => exact ThruC.cons (fun e => by rw [e, hc] at hy; cases hy) (sp_not hy).2.2.1 (ThruC.esc hc hn x)
theorem ThruC.flat {c : UInt8} {α : Type} (f : α → List UInt8) (h : ∀ a, ThruC c (f a)) : ∀ l : List α, ThruC c (l.flatMap f)
  | [] => ThruC.nil c
  | a :: l => by
    rw [List.flatMap_cons]
    exact ThruC.append (h a) (ThruC.flat f h l)
theorem ThruC.encE : ∀ e, ThruC 43 (encE e)
  | [] => ThruC.nil _
  | x :: r => ThruC.append (ThruC.esc rfl (by decide) x) (ThruC.flat _ (fun y => ThruC.cons (by decide) (by decide) (ThruC.esc rfl (by decide) y)) r)
theorem ThruC.tag {t : List UInt8} (h : tagB t = true) : ThruC 43 t := by
  obtain ⟨a, b, c, rfl, h1, h2, h3⟩ := tag_shape h
  obtain ⟨a1, _, a3, _⟩ := sp_not h1
  obtain ⟨b1, _, b3, _⟩ := sp_not h2
  obtain ⟨c1, _, c3, _⟩ := sp_not h3
  exact ThruC.cons a1 a3 (ThruC.cons b1 b3 (ThruC.cons c1 c3 (ThruC.nil _)))
theorem cutF_hit {c : UInt8} {l : List UInt8} (h : ThruC c l) (r : List UInt8) : cutF c (l ++ c :: r) = (l, r, true) := by
  have e : cutAt c (l ++ c :: r) = some l.length := by rw [h, cut_hit]; simp
  rw [cutF_some e, List.take_left']
  · congr 2
    rw [show l ++ c :: r = (l ++ [c]) ++ r by simp, List.drop_left']
    simp
  · rfl
theorem cutF_miss {c : UInt8} {l : List UInt8} (h : ThruC c l) : cutF c l = (l, [], false) := by
  have e : cutAt c l = none := by
    have := h []
    rw [List.append_nil] at this
    rw [this]
    rfl
  exact cutF_none e

/-- A component without its marks. -/
def unesc : Bool → List UInt8 → List UInt8
  | _, [] => []
  | m, c :: r => if (c == 63 && !m) = true then unesc true r else c :: unesc false r
theorem unesc_esc : ∀ x : List UInt8, unesc false (esc x) = x
  | [] => rfl
  | c :: x => by
    show unesc false (if spB c then 63 :: c :: esc x else c :: esc x) = c :: x
    cases hc : spB c with
    | true =>
      show (if ((c == 63 && !true) = true) then unesc true (esc x) else c :: unesc false (esc x)) = _
      rw [Bool.not_true, Bool.and_false, if_neg (by decide), unesc_esc x]
    | false =>
      show (if ((c == 63 && !false) = true) then unesc true (esc x) else c :: unesc false (esc x)) = _
      rw [if_neg (by rw [Bool.not_false, Bool.and_true, beq_iff_eq]; exact (sp_not hc).2.2.1), unesc_esc x]
/-- The components of an element, up to a number of them. -/
def compsF : Nat → List UInt8 → List (List UInt8)
  | 0, _ => []
  | k + 1, t => unesc false (cutF 58 t).1 :: (if (cutF 58 t).2.2 = true then compsF k (cutF 58 t).2.1 else [])
def elemF (t : List UInt8) : List (List UInt8) := if t.length = 0 then [] else compsF 100 t
def elsF : Nat → List UInt8 → List (List (List UInt8))
  | 0, _ => []
  | k + 1, t => elemF (cutF 43 t).1 :: (if (cutF 43 t).2.2 = true then elsF k (cutF 43 t).2.1 else [])
def readL (b : List UInt8) : Seg := ⟨(cutF 43 b).1, if (cutF 43 b).2.2 = true then elsF 100 (cutF 43 b).2.1 else []⟩
theorem comps_enc : ∀ (r : List (List UInt8)) (x : List UInt8) (k : Nat), r.length < k → compsF k (esc x ++ r.flatMap fun y => 58 :: esc y) = x :: r
  | [], x, k + 1, _ => by
    rw [List.flatMap_nil, List.append_nil]
    show unesc false (cutF 58 (esc x)).1 :: (if (cutF 58 (esc x)).2.2 = true then _ else []) = _
    rw [cutF_miss (ThruC.esc rfl (by decide) x), unesc_esc]
    rfl
  | y :: r, x, k + 1, h => by
    rw [List.flatMap_cons]
    have e := cutF_hit (ThruC.esc rfl (by decide) x : ThruC 58 (esc x)) (esc y ++ r.flatMap fun y => 58 :: esc y)
    show unesc false (cutF 58 (esc x ++ 58 :: (esc y ++ r.flatMap fun y => 58 :: esc y))).1 :: (if (cutF 58 (esc x ++ 58 :: (esc y ++ r.flatMap fun y => 58 :: esc y))).2.2 = true then compsF k (cutF 58 (esc x ++ 58 :: (esc y ++ r.flatMap fun y => 58 :: esc y))).2.1 else []) = _
    rw [e, unesc_esc]
    show x :: (if true = true then compsF k (esc y ++ r.flatMap fun y => 58 :: esc y) else []) = _
    rw [if_pos rfl, comps_enc r y k (by simp at h; omega)]
theorem elem_enc {e : List (List UInt8)} (h1 : lastE e = false) (h2 : e.length ≤ 100) : elemF (encE e) = e := by
  cases e with
  | nil => rfl
  | cons x r =>
    have hne : ¬ (esc x ++ r.flatMap fun y => 58 :: esc y).length = 0 := by
      intro h
      rw [List.length_append] at h
      cases r with
      | nil =>
        cases x with
        | nil => cases h1
        | cons c x =>
          have : 0 < (esc (c :: x)).length := by
            show 0 < (if spB c then 63 :: c :: esc x else c :: esc x).length
            split <;> simp
          omega
      | cons y r => simp at h
    show (if (esc x ++ r.flatMap fun y => 58 :: esc y).length = 0 then [] else compsF 100 (esc x ++ r.flatMap fun y => 58 :: esc y)) = _
    rw [if_neg hne]
    exact comps_enc r x 100 (by simp at h2; omega)
theorem els_enc : ∀ (E : List (List (List UInt8))) (e : List (List UInt8)) (k : Nat), E.length < k → badB (e :: E) = false → (∀ f ∈ e :: E, f.length ≤ 100) → elsF k (encE e ++ encEls E) = e :: E
  | [], e, k + 1, _, hb, hl => by
    show elemF (cutF 43 (encE e ++ [])).1 :: (if (cutF 43 (encE e ++ [])).2.2 = true then _ else []) = _
    rw [List.append_nil, cutF_miss (ThruC.encE e)]
    show elemF (encE e) :: [] = _
    rw [elem_enc (bad_cons hb).1 (hl e (List.mem_cons_self ..))]
  | f :: E, e, k + 1, h, hb, hl => by
    have hc := cutF_hit (ThruC.encE e) (encE f ++ encEls E)
    have e1 : encE e ++ encEls (f :: E) = encE e ++ 43 :: (encE f ++ encEls E) := by
      unfold encEls
      rw [List.flatMap_cons]
      rfl
    rw [e1]
    show elemF (cutF 43 (encE e ++ 43 :: (encE f ++ encEls E))).1 :: (if (cutF 43 (encE e ++ 43 :: (encE f ++ encEls E))).2.2 = true then elsF k (cutF 43 (encE e ++ 43 :: (encE f ++ encEls E))).2.1 else []) = _
    rw [hc]
    show elemF (encE e) :: (if true = true then elsF k (encE f ++ encEls E) else []) = _
    rw [if_pos rfl, elem_enc (bad_cons hb).1 (hl e (List.mem_cons_self ..)), els_enc E f k (by simp at h; omega) (bad_cons hb).2 (fun x hx => hl x (List.mem_cons_of_mem _ hx))]
/-- What was encoded is read as it was. -/
theorem readL_body {s : Seg} (h : segE s = 0) : readL (bodyS s) = s := by
  obtain ⟨h1, h2, h3⟩ := seg_ok h
  obtain ⟨t, E⟩ := s
  unfold longB at h2
  rw [Bool.or_eq_false_iff] at h2
  have hE : E.length ≤ 100 := by simpa using h2.1
  have hl : ∀ f ∈ E, f.length ≤ 100 := fun f hf => by
    have := List.any_eq_false.1 h2.2 f hf
    unfold longE at this
    simp only [Bool.or_eq_true, decide_eq_true_eq, not_or] at this
    omega
  cases E with
  | nil =>
    have e : bodyS ⟨t, []⟩ = t := by
      unfold bodyS encEls
      simp
    unfold readL
    rw [e, cutF_miss (ThruC.tag h1)]
    rfl
  | cons e E =>
    have e1 : bodyS ⟨t, e :: E⟩ = t ++ 43 :: (encE e ++ encEls E) := by
      unfold bodyS encEls
      rw [List.flatMap_cons]
      rfl
    unfold readL
    rw [e1, cutF_hit (ThruC.tag h1)]
    show Seg.mk t (if true = true then elsF 100 (encE e ++ encEls E) else []) = _
    rw [if_pos rfl, els_enc E e 100 (by simp at hE; omega) h3 hl]
/-- The first segment, told by what the landed code reads. -/
theorem next_land {b : List UInt8} {n : Nat} (h : endF b = some n) : nextF b = if segE (readL (b.take n)) = 0 ∧ encS (readL (b.take n)) = b.take (n + 1) then (readL (b.take n), n + 1, 0) else (noSeg, 0, 4) := by
  have hn : n < b.length := by
    rw [end_cut] at h
    exact cut_lt 39 b n h
  by_cases hc : segE (readL (b.take n)) = 0 ∧ encS (readL (b.take n)) = b.take (n + 1)
  · rw [if_pos hc]
    have e := next_enc hc.1 (b.drop (n + 1))
    rw [hc.2, List.take_append_drop, List.length_take, Nat.min_eq_left (by omega)] at e
    exact e
  · rw [if_neg hc]
    unfold nextF
    rw [h]
    show (if segE (readF (b.take n)) = 0 ∧ encS (readF (b.take n)) = b.take (n + 1) then _ else _) = _
    by_cases hd : segE (readF (b.take n)) = 0 ∧ encS (readF (b.take n)) = b.take (n + 1)
    · refine absurd ?_ hc
      have e : bodyS (readF (b.take n)) = b.take n := by
        have h2 := congrArg (List.take n) hd.2
        rw [List.take_take, Nat.min_eq_left (by omega)] at h2
        have hl : (bodyS (readF (b.take n))).length = n := by
          have h3 := congrArg List.length hd.2
          unfold encS at h3
          rw [List.length_append, List.length_take, Nat.min_eq_left (by omega)] at h3
          simpa using h3
        unfold encS at h2
        rw [List.take_left' hl] at h2
        exact h2
      have r := readL_body hd.1
      rw [e] at r
      rw [r]
      exact hd
    · rw [if_neg hd]
end Go.Proofs.YtepkihoakagidaaDoor
namespace Go.Proofs.YtepkihoakagidaaDoor
open Go.RowKit

theorem SegsIn.later {w w1 : World} {v : Value} {L : List Seg} (h : SegsIn (Has_ w) w v L) (hb : Below w.heap.size w w1) : SegsIn (Has_ w1) w1 v L := h.keep (has_keep hb)
theorem ElemsIn.later {w w1 : World} {v : Value} {E : List (List (List UInt8))} (h : ElemsIn (Has_ w) w v E) (hb : Below w.heap.size w w1) : ElemsIn (Has_ w1) w1 v E := h.keep (has_keep hb)
theorem BytesIn.later {w w1 : World} {v : Value} {b : List UInt8} (h : BytesIn (Has_ w) w v b) (hb : Below w.heap.size w w1) : BytesIn (Has_ w1) w1 v b := CellsIn.keep h (has_keep hb)
theorem ByteRow.bytes {w : World} {base : Nat} {e : TypeId} {v : Value} {l : List UInt8} (h : ByteRow w base e v l) : BytesIn (Has_ w) w v l := h.cells.keep fun _ hb => ⟨hb.2.1, rfl⟩
/-- Bytes read as a text. -/
theorem BytesIn.text {p : Nat → Prop} {w : World} {v : Value} {b : List UInt8} (h : BytesIn p w v b) : (convert 32 9 v).run Tryd.prog w = .ok (.string ⟨b.toArray⟩) w :=
  run_text_of_cells (P := Tryd.prog) w 32 9 5 _ _ Tryd.underlying32 Tryd.underlying5 Tryd.underlying9 h
theorem BytesIn.slice {p : Nat → Prop} {w : World} {v : Value} {b : List UInt8} (h : BytesIn p w v b) : ∃ ao cap, v = .slice ao b.length cap ∧ b.length ≤ cap ∧ cap ≤ maxLen := by
  obtain ⟨_, ⟨h1, h2⟩ | ⟨a, cap, h1, h2, h3, _⟩⟩ := h
  · exact ⟨none, 0, by rw [h1, h2], by omega, Nat.zero_le _⟩
  · exact ⟨some a, cap, h1, h2, h3⟩
theorem SegsIn.slice {p : Nat → Prop} {w : World} {v : Value} {L : List Seg} (h : SegsIn p w v L) : ∃ ao cap, v = .slice ao L.length cap ∧ L.length ≤ cap ∧ cap ≤ maxLen := by
  obtain ⟨us, ⟨_, ⟨h1, h2⟩ | ⟨a, cap, h1, h2, h3, _⟩⟩, _⟩ := h
  · exact ⟨none, 0, by rw [h1, h2], by omega, Nat.zero_le _⟩
  · exact ⟨some a, cap, h1, h2, h3⟩
theorem ElemsIn.slice {p : Nat → Prop} {w : World} {v : Value} {E : List (List (List UInt8))} (h : ElemsIn p w v E) : ∃ ao cap, v = .slice ao E.length cap := by
  obtain ⟨us, ⟨_, ⟨h1, h2⟩ | ⟨a, cap, h1, _⟩⟩, _⟩ := h
  · exact ⟨none, 0, by rw [h1, h2]⟩
  · exact ⟨some a, cap, h1⟩
/-- The cells of a whole block. -/
theorem cells_lit {w : World} {B : Nat} {cs : List Value} {t : TypeId} {fz : Nat × Nat} (h : w.heap[B]? = some (.cells cs.toArray t fz)) (n size : Nat) (hs : cs.length = n * size) (hn : n ≤ maxLen) : CellsIn (Has_ w) w size (.slice (some ⟨B, 0, none⟩) n n) n cs := by
  refine ⟨hs, .inr ⟨_, n, rfl, Nat.le_refl _, hn, fun _ => (Array.getElem?_eq_some_iff.1 h).1, fun j u hj => ?_⟩⟩
  rw [Addr.add_lit, Nat.zero_add]
  simp [World.cell?, h, hj]
theorem strs_lit {w : World} {B : Nat} {l : List (List UInt8)} {t : TypeId} {fz : Nat × Nat} (h : w.heap[B]? = some (.cells (l.map strV).toArray t fz)) (hn : l.length ≤ maxLen) (hs : ∀ x ∈ l, x.length ≤ maxLen) : StrsIn (Has_ w) w (.slice (some ⟨B, 0, none⟩) l.length l.length) l :=
  ⟨cells_lit h l.length 1 (by simp) hn, hs⟩
theorem strs_nil (w : World) : StrsIn (Has_ w) w (.slice none 0 0) [] := ⟨⟨rfl, .inl ⟨rfl, rfl⟩⟩, fun x hx => absurd hx (by simp)⟩
/-- One segment, laid into a block of its own. -/
theorem segs_one {w : World} {B : Nat} {s : Seg} {x : Value} {t : TypeId} {fz : Nat × Nat} (h : w.heap[B]? = some (.cells #[strV s.tag, x] t fz)) (hx : ElemsIn (Has_ w) w x s.els) (hs : s.tag.length ≤ maxLen) : SegsIn (Has_ w) w (.slice (some ⟨B, 0, none⟩) 1 1) [s] := by
  refine ⟨[strV s.tag, x], cells_lit (cs := [strV s.tag, x]) h 1 2 rfl (by unfold maxLen; omega), fun i s1 hi => ?_⟩
  have hlt := (List.getElem?_eq_some_iff.1 hi).1
  have h1 : ([s] : List Seg).length = 1 := rfl
  obtain rfl : i = 0 := by omega
  simp at hi
  subst hi
  exact ⟨rfl, hs, x, rfl, hx⟩
/-- The first n of some segments. -/
theorem SegsIn.take {p : Nat → Prop} {w : World} {ao : Option Addr} {len cap : Nat} {L : List Seg} (h : SegsIn p w (.slice ao len cap) L) (n : Nat) (hn : n ≤ L.length) : SegsIn p w (.slice ao n cap) (L.take n) := by
  obtain ⟨us, ⟨h0, h1⟩, h2⟩ := h
  have hl : (L.take n).length = n := by rw [List.length_take]; omega
  refine ⟨us.take (n * 2), ⟨by rw [List.length_take, h0, hl]; omega, ?_⟩, fun i s hi => ?_⟩
  · rcases h1 with ⟨h3, h4⟩ | ⟨a, cap2, h3, h4, h5, h6, h7⟩
    · injection h3 with e1 e2 e3
      subst e1 e3
      exact .inl ⟨by rw [show n = 0 by omega], by omega⟩
    · injection h3 with e1 e2 e3
      subst e1 e3
      refine .inr ⟨a, cap, by rw [hl], by omega, h5, fun h8 => h6 (by omega), fun j u hj => h7 j u ?_⟩
      rw [List.getElem?_take] at hj
      split at hj
      · exact hj
      · cases hj
  · rw [List.getElem?_take] at hi
    split at hi
    · rename_i hlt
      obtain ⟨h3, h4, u, h5, h6⟩ := h2 i s hi
      refine ⟨by rw [List.getElem?_take, if_pos (by omega)]; exact h3, h4, u, by rw [List.getElem?_take, if_pos (by omega)]; exact h5, h6⟩
    · cases hi
end Go.Proofs.YtepkihoakagidaaDoor
namespace Go.Proofs.YtepkihoakagidaaDoor

def sumStep (st : Nat × Nat) (c : UInt8) : Nat × Nat := ((st.1 + c.toNat) % 65521, (st.2 + (st.1 + c.toNat) % 65521) % 65521)
def sumF (b : List UInt8) : Nat × Nat := b.foldl sumStep (1, 0)
def checkV (b : List UInt8) : Nat := (sumF b).2 * 65536 + (sumF b).1
theorem sum_small : ∀ (b : List UInt8) (st : Nat × Nat), st.1 < 65521 → st.2 < 65521 → (b.foldl sumStep st).1 < 65521 ∧ (b.foldl sumStep st).2 < 65521
  | [], st, h1, h2 => ⟨h1, h2⟩
  | c :: b, st, _, _ => sum_small b (sumStep st c) (Nat.mod_lt _ (by omega)) (Nat.mod_lt _ (by omega))
theorem sum_first : ∀ (b : List UInt8) (st : Nat × Nat), (b.foldl sumStep st).1 % 65521 = (st.1 + (b.map (·.toNat)).sum) % 65521
  | [], st => by simp
  | c :: b, st => by
    rw [List.foldl_cons, sum_first b (sumStep st c), List.map_cons, List.sum_cons]
    show ((st.1 + c.toNat) % 65521 + _) % 65521 = _
    omega
theorem sum_set : ∀ (b : List UInt8) (k : Nat) (h : k < b.length) (x : UInt8), ((b.set k x).map (·.toNat)).sum + (b[k]'h).toNat = (b.map (·.toNat)).sum + x.toNat
  | c :: b, 0, _, x => by
    simp
    omega
  | c :: b, k + 1, h, x => by
    have := sum_set b k (by simpa using h) x
    simp at this ⊢
    omega
/-- A single byte makes the difference. -/
theorem check_set (b : List UInt8) (k : Nat) (h : k < b.length) (x : UInt8) : checkV (b.set k x) = checkV b ↔ x = b[k]'h := by
  constructor
  · intro he
    unfold checkV at he
    have s1 := sum_small (b.set k x) (1, 0) (by omega) (by omega)
    have s2 := sum_small b (1, 0) (by omega) (by omega)
    have f1 := sum_first (b.set k x) (1, 0)
    have f2 := sum_first b (1, 0)
    have f3 := sum_set b k h x
    unfold sumF at he
    have e1 : (List.foldl sumStep (1, 0) (b.set k x)).1 = (List.foldl sumStep (1, 0) b).1 := by omega
    rw [e1, f2] at f1
    have t1 := x.toNat_lt
    have t2 := (b[k]'h).toNat_lt
    apply UInt8.toNat_inj.1
    simp only at f1
    omega
  · rintro rfl
    rw [List.set_getElem_self]
end Go.Proofs.YtepkihoakagidaaDoor
