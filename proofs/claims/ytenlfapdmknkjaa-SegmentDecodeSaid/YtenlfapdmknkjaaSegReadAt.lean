/- The reading of a segment: what lies in memory while it runs, and that each step keeps it. No condition. -/
import Derived.Test.YtenlfapdmknkjaaSegMem
import Derived.Test.YtenlfapdmknkjaaByteRow
import Derived.Laws.OwnMore
namespace Go.Proofs.Ytenlfapdmknkjaa
open Go.RowKit

/-- Bytes that lie in memory. -/
def BytesIn (p : Nat → Prop) (w : World) (v : Value) (b : List UInt8) : Prop := CellsIn p w 1 v b.length (b.map byteV)

/-- Only blocks of one type turn. -/
structure TurnsTy (t : TypeId) (w w1 : World) : Prop where
  os : w1.os = w.os
  tape : w1.tape = w.tape
  output : w1.output = w.output
  size : w.heap.size ≤ w1.heap.size
  block : ∀ (k : Nat) (cs : Array Value) (t1 : TypeId) (fz : Nat × Nat), w.heap[k]? = some (.cells cs t1 fz) → t1 ≠ t → w1.heap[k]? = w.heap[k]?
theorem ByteRow.ty {w : World} {base : Nat} {e : TypeId} {v : Value} {l : List UInt8} (h : ByteRow w base e v l) : ∀ k, v.ownBlock = some k → ∃ cs fz, w.heap[k]? = some (.cells cs e fz) := by
  intro k hk
  rcases h with ⟨rfl, _⟩ | ⟨g, cap, cur, fz, rfl, hb, hg, _⟩
  · simp [Value.ownBlock] at hk
  · simp [Value.ownBlock] at hk
    subst hk
    exact ⟨cur, fz, hg⟩
theorem own_ty {w : World} {base : Nat} {e : TypeId} {size : Nat} {v : Value} {n : Nat} {xs : List Value} (h : w.ownsRow base e size v n xs) : ∀ k, v.ownBlock = some k → ∃ cs fz, w.heap[k]? = some (.cells cs e fz) := by
  intro k hk
  rcases h.2 with ⟨rfl, _⟩ | ⟨g, cap, cur, rfl, hb, hg, _⟩
  · simp [Value.ownBlock] at hk
  · simp [Value.ownBlock] at hk
    subst hk
    exact ⟨cur, _, hg⟩
theorem TurnsTy.of_grown {t : TypeId} {w w1 : World} {v : Value} (hg : w.grownBy w1 v.ownBlock) (ht : ∀ k, v.ownBlock = some k → ∃ cs fz, w.heap[k]? = some (.cells cs t fz)) : TurnsTy t w w1 :=
  ⟨hg.os, hg.tape, hg.output, hg.size, fun k cs t1 fz hk hne => hg.block k (Array.getElem?_eq_some_iff.1 hk).1 (fun e => by
    obtain ⟨cs2, fz2, h2⟩ := ht k e.symm
    rw [hk] at h2
    injection h2 with h2
    injection h2 with _ h2
    exact hne h2)⟩
theorem TurnsTy.of_below {t : TypeId} {w w1 : World} (h : Below w.heap.size w w1) : TurnsTy t w w1 :=
  ⟨h.os, h.tape, h.output, h.size, fun k _ _ _ hk _ => h.block k (Array.getElem?_eq_some_iff.1 hk).1⟩
theorem TurnsTy.of_set {t : TypeId} {w : World} {g i : Nat} {cur : Array Value} {fz : Nat × Nat} (hg : w.heap[g]? = some (.cells cur t fz)) (x : Value) : TurnsTy t w (w.setCell ⟨g, i, none⟩ x) := by
  rw [setCell_eq_setRow w g i cur t fz x hg]
  refine ⟨rfl, rfl, rfl, by simp, fun k cs t1 fz1 hk hne => setRow_other w g k _ (fun e => ?_)⟩
  subst e
  rw [hk] at hg
  injection hg with hg
  injection hg with _ hg
  exact hne hg
theorem TurnsTy.own {t : TypeId} {w w1 : World} (h : TurnsTy t w w1) {base : Nat} {e : TypeId} {size : Nat} {v : Value} {n : Nat} {xs : List Value} (hr : w.ownsRow base e size v n xs) (hne : e ≠ t) : w1.ownsRow base e size v n xs := by
  refine ⟨hr.1, ?_⟩
  rcases hr.2 with hn | ⟨g, cap, cur, rfl, hb, hg, rest⟩
  · exact .inl hn
  · exact .inr ⟨g, cap, cur, rfl, hb, (h.block g _ _ _ hg hne).trans hg, rest⟩
theorem TurnsTy.bytes {t : TypeId} {w w1 : World} (h : TurnsTy t w w1) {base : Nat} {e : TypeId} {v : Value} {l : List UInt8} (hr : ByteRow w base e v l) (hne : e ≠ t) : ByteRow w1 base e v l :=
  hr.same fun k hk => by
    obtain ⟨cs, fz, hg⟩ := hr.ty k hk
    exact h.block k _ _ _ hg hne
/-- Blocks of finished elements: texts, older than the element that is being read. -/
def Fin_ (ts : TypeId) (w : World) (H : Nat) (b : Nat) : Prop := (∃ cs fz, w.heap[b]? = some (.cells cs ts fz)) ∧ b < H
theorem TurnsTy.fin {t ts : TypeId} {w w1 : World} (h : TurnsTy t w w1) (hne : ts ≠ t) {H b : Nat} (hb : Fin_ ts w H b) : Fin_ ts w1 H b ∧ w1.heap[b]? = w.heap[b]? := by
  obtain ⟨⟨cs, fz, hg⟩, h2⟩ := hb
  have := h.block b _ _ _ hg hne
  exact ⟨⟨⟨cs, fz, this.trans hg⟩, h2⟩, this⟩

/-- What lies there while a segment is read. -/
structure ReadAt (w wx : World) (vw : Value) (word tag : List UInt8) (vE : Value) : Prop where
  row : ByteRow wx w.heap.size 5 vw word
  box : wx.heap[w.heap.size + 2]? = some (.cells #[strV tag, vE] 24 (0, 0))
  res : wx.heap[w.heap.size]? = some (.cells #[strV [], .slice none 0 0] 24 (0, 0))
  below : Below w.heap.size w wx
/-- The elements: finished ones, and the one that is being read, which began when the heap had H blocks. -/
structure ElsAt (w wx : World) (H : Nat) (vE : Value) (us : List Value) (L : List (List (List UInt8))) (ucur : Value) (cur : List (List UInt8)) : Prop where
  els : wx.ownsRow w.heap.size 49 1 vE (L.length + 1) (us ++ [ucur])
  len : us.length = L.length
  fin : ∀ (i : Nat) (e : List (List UInt8)), L[i]? = some e → ∃ u, us[i]? = some u ∧ StrsIn (Fin_ 9 wx H) wx u e
  row : wx.ownsRow H 9 1 ucur cur.length (cur.map strV)
  short : ∀ x ∈ cur, x.length ≤ maxLen
  lo : w.heap.size ≤ H
  hi : H ≤ wx.heap.size
theorem ReadAt.cells {w wx : World} {vw : Value} {word tag : List UInt8} {vE : Value} (h : ReadAt w wx vw word tag vE) :
    (wx.cell? ⟨w.heap.size + 2, 0, none⟩ = some (strV tag) ∧ wx.frozen? ⟨w.heap.size + 2, 0, none⟩ = false) ∧ (wx.cell? ⟨w.heap.size + 2, 1, none⟩ = some vE ∧ wx.frozen? ⟨w.heap.size + 2, 1, none⟩ = false) := by
  have := h.box
  refine ⟨⟨?_, ?_⟩, ?_, ?_⟩ <;> simp [World.cell?, World.frozen?, this]
theorem ReadAt.lt {w wx : World} {vw : Value} {word tag : List UInt8} {vE : Value} (h : ReadAt w wx vw word tag vE) : w.heap.size + 2 < wx.heap.size := (Array.getElem?_eq_some_iff.1 h.box).1
/-- Turning blocks of bytes, of texts, of lists. -/
theorem ReadAt.turn {t : TypeId} {w wx w1 : World} {vw vw1 : Value} {word word1 tag : List UInt8} {vE : Value} (h : ReadAt w wx vw word tag vE) (ht : TurnsTy t wx w1) (hne : 24 ≠ t) (hr : ByteRow w1 w.heap.size 5 vw1 word1) (hb : Below w.heap.size w w1) : ReadAt w w1 vw1 word1 tag vE :=
  ⟨hr, (ht.block _ _ _ _ h.box hne).trans h.box, (ht.block _ _ _ _ h.res hne).trans h.res, hb⟩
theorem below_grown {w wx w1 : World} {row : Option Nat} (h : Below w.heap.size w wx) (hg : wx.grownBy w1 row) (hrow : ∀ k, row = some k → w.heap.size ≤ k) : Below w.heap.size w w1 :=
  ⟨hg.os.trans h.os, hg.tape.trans h.tape, hg.output.trans h.output, Nat.le_trans h.size hg.size, fun b hb => (hg.block b (Nat.lt_of_lt_of_le hb h.size) (fun e => by have := hrow b e.symm; omega)).trans (h.block b hb)⟩
/-- A byte more. -/
theorem ReadAt.word {w wx w1 : World} {vw vw1 : Value} {word word1 tag : List UInt8} {vE : Value} (h : ReadAt w wx vw word tag vE) (hr : ByteRow w1 w.heap.size 5 vw1 word1) (hg : wx.grownBy w1 vw.ownBlock) : ReadAt w w1 vw1 word1 tag vE :=
  h.turn (TurnsTy.of_grown hg h.row.ty) (by decide) hr (below_grown h.below hg fun k hk => (h.row.lt k hk).1)
theorem ReadAt.alloc {w wx : World} {vw : Value} {word tag : List UInt8} {vE : Value} (h : ReadAt w wx vw word tag vE) (o : Obj) : ReadAt w (wx.alloc o) vw word tag vE := by
  have hb : Below wx.heap.size wx (wx.alloc o) := (Below.refl _ _).alloc (Nat.le_refl _) _
  exact h.turn (t := 5) (TurnsTy.of_below hb) (by decide) (h.row.keep hb) (h.below.trans (hb.mono h.below.size))
theorem ReadAt.drew {w wx : World} {vw : Value} {word tag : List UInt8} {vE : Value} (h : ReadAt w wx vw word tag vE) : ReadAt w wx.drew vw word tag vE := ⟨h.row, h.box, h.res, h.below.drew⟩
/-- An empty word. -/
theorem ReadAt.empty {w wx : World} {vw : Value} {word tag : List UInt8} {vE : Value} (h : ReadAt w wx vw word tag vE) : ReadAt w wx (.slice none 0 0) [] tag vE := ⟨ByteRow.nil _ _ _, h.box, h.res, h.below⟩
/-- A cell of the segment written. -/
theorem ReadAt.set {w wx : World} {vw : Value} {word tag tag1 : List UInt8} {vE vE1 : Value} (h : ReadAt w wx vw word tag vE) (i : Nat) (x : Value) (hx : (#[strV tag, vE] : Array Value).setIfInBounds i x = #[strV tag1, vE1]) : ReadAt w (wx.setCell ⟨w.heap.size + 2, i, none⟩ x) vw word tag1 vE1 := by
  have ht := TurnsTy.of_set (i := i) h.box x
  have hs := setCell_eq_setRow wx (w.heap.size + 2) i _ _ _ x h.box
  refine ⟨ht.bytes h.row (by decide), ?_, ?_, h.below.setCell (by show w.heap.size ≤ w.heap.size + 2; omega) _⟩
  · rw [hs, ← hx]
    exact setRow_heap wx _ _ _ _ _ h.box
  · rw [hs]
    exact (setRow_other wx _ _ _ (by omega)).trans h.res
theorem ElsAt.turn {t : TypeId} {w wx w1 : World} {H : Nat} {vE ucur : Value} {us : List Value} {L : List (List (List UInt8))} {cur : List (List UInt8)} (h : ElsAt w wx H vE us L ucur cur) (ht : TurnsTy t wx w1) (h1 : 49 ≠ t) (h2 : 9 ≠ t) : ElsAt w w1 H vE us L ucur cur :=
  ⟨ht.own h.els h1, h.len, fun i e hi => by
    obtain ⟨u, h3, h4⟩ := h.fin i e hi
    exact ⟨u, h3, h4.keep fun b hb => ht.fin h2 hb⟩, ht.own h.row h2, h.short, h.lo, Nat.le_trans h.hi ht.size⟩
/-- A new element is opened. -/
theorem ElsAt.push {w wx w1 : World} {H : Nat} {vE vE1 ucur : Value} {us : List Value} {L : List (List (List UInt8))} {cur : List (List UInt8)} (h : ElsAt w wx H vE us L ucur cur) (hr : w1.ownsRow w.heap.size 49 1 vE1 (L.length + 1 + 1) ((us ++ [ucur]) ++ [.slice none 0 0])) (hg : wx.grownBy w1 vE.ownBlock) :
    ElsAt w w1 w1.heap.size vE1 (us ++ [ucur]) (L ++ [cur]) (.slice none 0 0) [] := by
  have ht := TurnsTy.of_grown hg (own_ty h.els)
  have hz := hg.size
  refine ⟨by simpa using hr, by simp [h.len], fun i e hi => ?_, World.ownsRow_nil _ _ _ _, fun x hx => absurd hx (by simp), Nat.le_trans h.lo (Nat.le_trans h.hi hz), Nat.le_refl _⟩
  by_cases hl : i < L.length
  · rw [List.getElem?_append_left hl] at hi
    obtain ⟨u, h3, h4⟩ := h.fin i e hi
    refine ⟨u, by rw [List.getElem?_append_left (by rw [h.len]; exact hl)]; exact h3, h4.keep fun b hb => ?_⟩
    obtain ⟨k1, k2⟩ := ht.fin (by decide) hb
    exact ⟨⟨k1.1, by have := k1.2; have := h.hi; omega⟩, k2⟩
  · have hlt := (List.getElem?_eq_some_iff.1 hi).1
    rw [List.length_append] at hlt
    have h1 : ([cur] : List (List (List UInt8))).length = 1 := rfl
    obtain rfl : i = L.length := by omega
    rw [List.getElem?_append_right (Nat.le_refl _)] at hi
    simp at hi
    subst hi
    refine ⟨ucur, by rw [List.getElem?_append_right (by rw [h.len]; exact Nat.le_refl _), h.len]; simp, ⟨(CellsIn.own h.row).keep fun b hb => ?_, h.short⟩⟩
    obtain ⟨cs, fz, hc⟩ := own_ty h.row b hb.2.2
    have := ht.block b _ _ _ hc (by decide)
    exact ⟨⟨⟨cs, fz, this.trans hc⟩, by have := hb.2.1; omega⟩, this⟩
/-- The first element is opened. -/
theorem ElsAt.first {w w1 : World} {vE1 : Value} (hr : w1.ownsRow w.heap.size 49 1 vE1 (0 + 1) ([] ++ [.slice none 0 0])) (hz : w.heap.size ≤ w1.heap.size) : ElsAt w w1 w1.heap.size vE1 [] [] (.slice none 0 0) [] :=
  ⟨by simpa using hr, rfl, fun i e hi => by simp at hi, World.ownsRow_nil _ _ _ _, fun x hx => absurd hx (by simp), hz, Nat.le_refl _⟩
/-- A component more. -/
theorem ElsAt.comp {w wx w1 : World} {H g n cap : Nat} {ucur u1 : Value} {us : List Value} {L : List (List (List UInt8))} {cur : List (List UInt8)} {word : List UInt8} (h : ElsAt w wx H (.slice (some ⟨g, 0, none⟩) n cap) us L ucur cur) (hw : word.length ≤ maxLen)
    (hr : w1.ownsRow H 9 1 u1 (cur.length + 1) (cur.map strV ++ [strV word])) (hg : wx.grownBy w1 ucur.ownBlock) :
    ElsAt w (w1.setCell ⟨g, L.length, none⟩ u1) H (.slice (some ⟨g, 0, none⟩) n cap) us L u1 (cur ++ [word]) := by
  have ht := TurnsTy.of_grown hg (own_ty h.row)
  have hE := ht.own h.els (by decide)
  have hn : n = L.length + 1 := by
    rcases hE.2 with ⟨h1, _⟩ | ⟨_, _, _, h1, _⟩
    · cases h1
    · injection h1
  subst hn
  obtain ⟨cs, fz, hb⟩ := own_ty hE g rfl
  have ht2 := TurnsTy.of_set (i := L.length) hb u1
  have hst := (hE.stored L.length u1).1
  rw [List.set_append_right _ _ (by rw [h.len]; exact Nat.le_refl _), h.len, Nat.sub_self] at hst
  refine ⟨hst, h.len, fun i e hi => ?_, by simpa using ht2.own hr (by decide), fun x hx => ?_, h.lo, Nat.le_trans h.hi (Nat.le_trans ht.size ht2.size)⟩
  · obtain ⟨u, h3, h4⟩ := h.fin i e hi
    refine ⟨u, h3, h4.keep fun b hb => ?_⟩
    obtain ⟨⟨cs1, fz1, hc⟩, hl⟩ := hb
    have hbH := h.hi
    have e1 : w1.heap[b]? = wx.heap[b]? := hg.block b (by omega) (fun e => by
      have := (h.row.lt b e.symm).1
      omega)
    have e2 := ht2.block b _ _ _ (e1.trans hc) (by decide)
    exact ⟨⟨⟨cs1, fz1, e2.trans (e1.trans hc)⟩, hl⟩, e2.trans e1⟩
  · rcases List.mem_append.1 hx with hx | hx
    · exact h.short x hx
    · rw [List.mem_singleton.1 hx]; exact hw
end Go.Proofs.Ytenlfapdmknkjaa
