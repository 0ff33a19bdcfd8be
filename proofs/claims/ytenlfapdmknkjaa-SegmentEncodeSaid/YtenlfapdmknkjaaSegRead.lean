/- What read of the reference of layer 6 returns: the bytes of a segment taken apart. Condition: the bytes' cells are known, and there are not too many. -/
import Derived.Test.YtenlfapdmknkjaaSegReadAt
import Derived.Test.YtenlfapdmknkjaaSegText
import Derived.Test.YtenlfapdmknkjaaAppend
import Derived.Deep.RegionHeld3
namespace Go.Proofs.Ytenlfapdmknkjaa
open Go.RowKit

theorem ReadAt.resCells {w wx : World} {vw : Value} {word tag : List UInt8} {vE : Value} (h : ReadAt w wx vw word tag vE) :
    (wx.cell? ⟨w.heap.size, 0, none⟩ = some (strV []) ∧ wx.frozen? ⟨w.heap.size, 0, none⟩ = false) ∧ (wx.cell? ⟨w.heap.size, 1, none⟩ = some (.slice none 0 0) ∧ wx.frozen? ⟨w.heap.size, 1, none⟩ = false) := by
  have := h.res
  refine ⟨⟨?_, ?_⟩, ?_, ?_⟩ <;> simp [World.cell?, World.frozen?, this]
theorem ElsAt.form {w wx : World} {H : Nat} {vE ucur : Value} {us : List Value} {L : List (List (List UInt8))} {cur : List (List UInt8)} (h : ElsAt w wx H vE us L ucur cur) : ∃ g cap, vE = .slice (some ⟨g, 0, none⟩) (L.length + 1) cap ∧ L.length + 1 ≤ cap := by
  rcases h.els.2 with ⟨_, h2⟩ | ⟨g, cap, cu, h1, _, _, h2, _⟩
  · omega
  · exact ⟨g, cap, h1, h2⟩
theorem ElsAt.curForm {w wx : World} {H : Nat} {vE ucur : Value} {us : List Value} {L : List (List (List UInt8))} {cur : List (List UInt8)} (h : ElsAt w wx H vE us L ucur cur) : ∃ (ao : Option Addr) (c : Nat), ucur = .slice ao cur.length c := by
  rcases h.row.2 with ⟨h1, h2⟩ | ⟨g, cap, cu, h1, _⟩
  · exact ⟨Option.none, 0, by rw [h1, h2]⟩
  · exact ⟨_, _, h1⟩
theorem ReadAt.wordForm {w wx : World} {vw : Value} {word tag : List UInt8} {vE : Value} (h : ReadAt w wx vw word tag vE) : ∃ (ao : Option Addr) (c : Nat), vw = .slice ao word.length c := by
  rcases h.row with ⟨h1, h2⟩ | ⟨g, cap, cu, fz, h1, _⟩
  · exact ⟨Option.none, 0, by rw [h1, h2]; rfl⟩
  · exact ⟨_, _, h1⟩
theorem ElsAt.elCell {w wx : World} {H g n cap : Nat} {ucur : Value} {us : List Value} {L : List (List (List UInt8))} {cur : List (List UInt8)} (h : ElsAt w wx H (.slice (some ⟨g, 0, none⟩) n cap) us L ucur cur) :
    wx.cell? ⟨g, L.length, none⟩ = some ucur ∧ wx.frozen? ⟨g, L.length, none⟩ = false := by
  have hn : n = L.length + 1 := by
    rcases h.els.2 with ⟨h1, _⟩ | ⟨_, _, _, h1, _⟩
    · cases h1
    · injection h1
  subst hn
  refine ⟨?_, h.els.frozenAt _⟩
  rw [h.els.cellAt L.length (by omega), List.getElem?_append_right (by rw [h.len]; exact Nat.le_refl _), h.len]
  simp
theorem ty_ne {w : World} {k r : Nat} {c1 c2 : Array Value} {t1 t2 : TypeId} {f1 f2 : Nat × Nat} (h1 : w.heap[k]? = some (.cells c1 t1 f1)) (h2 : w.heap[r]? = some (.cells c2 t2 f2)) (hne : t1 ≠ t2) : k ≠ r := by
  intro e
  subst e
  rw [h1] at h2
  injection h2 with h2
  injection h2 with _ h2
  exact hne h2
/-- A block that holds no segment. -/
def NotSeg (w : World) (b : Nat) : Prop := ∃ cs t fz, w.heap[b]? = some (.cells cs t fz) ∧ t ≠ 24
theorem NotSeg.has {w : World} {b : Nat} (h : NotSeg w b) : Has_ w b := by
  obtain ⟨cs, t, fz, h, _⟩ := h
  exact (Array.getElem?_eq_some_iff.1 h).1
theorem NotSeg.keep {w w1 : World} {b : Nat} (h : NotSeg w b) (hb : Below w.heap.size w w1) : NotSeg w1 b ∧ w1.heap[b]? = w.heap[b]? := by
  have e := hb.block b h.has
  obtain ⟨cs, t, fz, h, hne⟩ := h
  exact ⟨⟨cs, t, fz, e.trans h, hne⟩, e⟩
theorem ElsAt.done {w wx : World} {H : Nat} {vE ucur : Value} {us : List Value} {L : List (List (List UInt8))} {cur : List (List UInt8)} (h : ElsAt w wx H vE us L ucur cur) :
    ElemsIn (NotSeg wx) wx vE (L ++ [cur]) := by
  refine ⟨us ++ [ucur], ?_, fun i e hi => ?_⟩
  · have := (CellsIn.own h.els).keep (q := NotSeg wx) (w1 := wx) fun b hb => by
      obtain ⟨c1, f1, h1⟩ := own_ty h.els b hb.2.2
      exact ⟨⟨c1, _, f1, h1, by decide⟩, rfl⟩
    simpa using this
  · by_cases hl : i < L.length
    · rw [List.getElem?_append_left hl] at hi
      obtain ⟨u, h3, h4⟩ := h.fin i e hi
      refine ⟨u, by rw [List.getElem?_append_left (by rw [h.len]; exact hl)]; exact h3, h4.keep fun b hb => ⟨?_, rfl⟩⟩
      obtain ⟨⟨c1, f1, hc⟩, _⟩ := hb
      exact ⟨c1, _, f1, hc, by decide⟩
    · have hlt := (List.getElem?_eq_some_iff.1 hi).1
      rw [List.length_append] at hlt
      have h1 : ([cur] : List (List (List UInt8))).length = 1 := rfl
      obtain rfl : i = L.length := by omega
      rw [List.getElem?_append_right (Nat.le_refl _)] at hi
      simp at hi
      subst hi
      refine ⟨ucur, by rw [List.getElem?_append_right (by rw [h.len]; exact Nat.le_refl _), h.len]; simp, (CellsIn.own h.row).keep fun b hb => ?_, h.short⟩
      obtain ⟨c1, f1, h1⟩ := own_ty h.row b hb.2.2
      exact ⟨⟨c1, _, f1, h1, by decide⟩, rfl⟩
/-- A struct of two cells, written whole. -/
theorem setTwo {w : World} {B : Nat} {x0 x1 : Value} (r0 : w.cell? ⟨B, 0, none⟩ = some x0) (r1 : w.cell? ⟨B, 1, none⟩ = some x1) (a b : Value) :
    ((w.setCell ⟨B, 0, none⟩ a).setCell ⟨B, 1, none⟩ b).cell? ⟨B, 0, none⟩ = some a ∧ ((w.setCell ⟨B, 0, none⟩ a).setCell ⟨B, 1, none⟩ b).cell? ⟨B, 1, none⟩ = some b := by
  refine ⟨?_, ?_⟩
  · rw [World.cell?_setCell_other _ _ _ _ (by simp), World.cell?_setCell_same _ _ _ r0]
  · exact World.cell?_setCell_same _ _ _ ((World.cell?_setCell_other _ _ _ _ (by simp)).trans r1)
theorem ElemsIn.setTwo {w : World} {v : Value} {E : List (List (List UInt8))} {B : Nat} {cs : Array Value} {fz : Nat × Nat} (h : ElemsIn (NotSeg w) w v E) (hB : w.heap[B]? = some (.cells cs 24 fz)) (x y : Value) : ElemsIn (NotSeg ((w.setCell ⟨B, 0, none⟩ x).setCell ⟨B, 1, none⟩ y)) ((w.setCell ⟨B, 0, none⟩ x).setCell ⟨B, 1, none⟩ y) v E :=
  h.keep fun b hb => by
    obtain ⟨c1, t, f1, h1, hne⟩ := hb
    have hbB : b ≠ B := ty_ne h1 hB hne
    have e : ((w.setCell ⟨B, 0, none⟩ x).setCell ⟨B, 1, none⟩ y).heap[b]? = w.heap[b]? := (heap_setCell_other _ ⟨B, 1, none⟩ b y (fun e => hbB e)).trans (heap_setCell_other _ ⟨B, 0, none⟩ b x (fun e => hbB e))
    exact ⟨⟨c1, t, f1, e.trans h1, hne⟩, e⟩

theorem ElemsIn.nil (p : Nat → Prop) (w : World) : ElemsIn p w (.slice none 0 0) [] := ⟨[], ⟨rfl, .inl ⟨rfl, rfl⟩⟩, fun i e hi => by simp at hi⟩
theorem info_str : (Try.prog.info? 9).map (fun i => (i.zero, i.size, i.bytes)) = some (some (.string ⟨#[]⟩), 1, 16) := by kernel_rfl
theorem info_strs : (Try.prog.info? 49).map (fun i => (i.zero, i.size, i.bytes)) = some (some (.slice none 0 0), 1, 24) := by kernel_rfl
theorem nil_news (W : World) (t : TypeId) : ∀ j u, ([Value.slice none 0 0] : List Value)[j]? = some u → (W.alloc (.cells #[.slice none 0 0] t)).cell? ((⟨W.heap.size, 0, none⟩ : Addr).add j) = some u := by
  intro j u hj
  match j with
  | 0 =>
    simp at hj
    rw [← hj, Addr.add_lit]
    simp [go_sem]
  | j + 1 => simp at hj
theorem cellAlloc2 {w : World} {a : Addr} {v : Value} {o : Obj} (h : w.cell? a = some v) : (w.alloc o).cell? a = some v :=
  (((Below.refl w.heap.size w).alloc (Nat.le_refl _) o).cell (World.block_lt_of_cell? w _ h)).trans h
/-- The word reads as a text. -/
def ReadsAs (W : World) (vw : Value) (word : List UInt8) : Prop := (convert 32 9 vw).run Try.prog W = .ok (.string ⟨word.toArray⟩) W
theorem reads_as {W : World} {base : Nat} {vw : Value} {word : List UInt8} (h : ByteRow W base 5 vw word) : ReadsAs W vw word :=
  run_text_of_cells (P := Try.prog) W 32 9 5 _ _ Try.underlying32 Try.underlying5 Try.underlying9 h.cells
/-- What appending a component needs, and what it leaves. -/
structure CompStep (w wx : World) (word tag : List UInt8) (H g cap : Nat) (vw ucur : Value) (us : List Value) (L : List (List (List UInt8))) (cur : List (List UInt8)) : Prop where
  row : ((wx.drew).alloc (.cells #[strV word] 9)).ownsRow H 9 1 ucur cur.length (cur.map strV)
  hi : H ≤ ((wx.drew).alloc (.cells #[strV word] 9)).heap.size
  news : ∀ ad, some (⟨wx.heap.size, 0, none⟩ : Addr) = some ad → ∀ j u, ([strV word] : List Value)[j]? = some u → ((wx.drew).alloc (.cells #[strV word] 9)).cell? (ad.add j) = some u
  one : ∀ u ∈ ([strV word] : List Value), u.oneCell' = true
  cv1 : ReadsAs wx.drew vw word
  cv2 : ReadsAs ((wx.drew).alloc (.cells #[strV word] 9)) vw word
  next : ∀ u1 w6, w6.ownsRow H 9 1 u1 (cur.length + 1) (cur.map strV ++ [strV word]) → ((wx.drew).alloc (.cells #[strV word] 9)).grownBy w6 ucur.ownBlock →
    (w6.cell? ⟨g, L.length, none⟩ = some ucur ∧ w6.frozen? ⟨g, L.length, none⟩ = false) ∧ w6.cell? ⟨w.heap.size + 2, 1, none⟩ = some (.slice (some ⟨g, 0, none⟩) (L.length + 1) cap) ∧ (∃ ao c, u1 = .slice ao (cur.length + 1) c) ∧ ReadsAs w6 vw word ∧ ReadsAs (w6.setCell ⟨g, L.length, none⟩ u1) vw word ∧
    ReadAt w (w6.setCell ⟨g, L.length, none⟩ u1) (.slice none 0 0) [] tag (.slice (some ⟨g, 0, none⟩) (L.length + 1) cap) ∧ ElsAt w (w6.setCell ⟨g, L.length, none⟩ u1) H (.slice (some ⟨g, 0, none⟩) (L.length + 1) cap) us L u1 (cur ++ [word])
theorem comp_step {w wx : World} {tag : List UInt8} {H g cap : Nat} {vw ucur : Value} {us : List Value} {L : List (List (List UInt8))} {cur : List (List UInt8)} (word : List UInt8) (hw : word.length ≤ 10000000000) (hA : ReadAt w wx vw word tag (.slice (some ⟨g, 0, none⟩) (L.length + 1) cap)) (hE : ElsAt w wx H (.slice (some ⟨g, 0, none⟩) (L.length + 1) cap) us L ucur cur) :
    CompStep w wx word tag H g cap vw ucur us L cur := by
  have hb : Below wx.heap.size wx (wx.drew.alloc (.cells #[strV word] 9)) := ((Below.refl _ _).drew).alloc (Nat.le_refl _) _
  have hA1 := hA.turn (t := 5) (TurnsTy.of_below hb) (by decide) (hA.row.keep hb) (hA.below.trans (hb.mono hA.below.size))
  have hE1 := hE.turn (t := 5) (TurnsTy.of_below hb) (by decide) (by decide)
  refine ⟨hE1.row, Nat.le_trans hE.hi hb.size, ?_, ?_, reads_as hA.drew.row, reads_as hA1.row, ?_⟩
  · intro ad h j u hj
    cases h
    match j with
    | 0 =>
      simp at hj
      rw [← hj, Addr.add_lit]
      simp [go_sem]
    | j + 1 => simp at hj
  · intro u hu
    simp at hu
    rw [hu]
    rfl
  · intro u1 w6 own1 grow1
    have ht := TurnsTy.of_grown grow1 (own_ty hE1.row)
    have hA6 := hA1.empty.turn ht (by decide) (ByteRow.nil w6 w.heap.size 5) (below_grown hA1.below grow1 fun k hk => Nat.le_trans hE.lo (hE1.row.lt k hk).1)
    have hg6 : w6.cell? ⟨g, L.length, none⟩ = some ucur ∧ w6.frozen? ⟨g, L.length, none⟩ = false := by
      obtain ⟨cs, fz, hgb⟩ := own_ty hE1.els g rfl
      have hs := ht.block g _ _ _ hgb (by decide)
      obtain ⟨e1, e2⟩ := hE1.elCell
      exact ⟨(World.cell?_of_block (a := ⟨g, L.length, none⟩) hs).trans e1, (World.frozen?_of_block (a := ⟨g, L.length, none⟩) hs).trans e2⟩
    have hE6 := hE1.comp (word := word) (by unfold maxLen; omega) own1 grow1
    refine ⟨hg6, hA6.cells.2.1, ?_, reads_as (ht.bytes hA1.row (by decide)), ?_, ?_, hE6⟩
    · rcases own1.2 with ⟨_, h1⟩ | ⟨_, _, _, h1, _⟩
      · omega
      · exact ⟨_, _, h1⟩
    · obtain ⟨cs, fz, hgb⟩ := own_ty (ht.own hE1.els (by decide)) g rfl
      exact reads_as ((TurnsTy.of_set (i := L.length) hgb u1).bytes (ht.bytes hA1.row (by decide)) (by decide))
    · obtain ⟨cs, fz, hgb⟩ := own_ty (ht.own hE1.els (by decide)) g rfl
      exact hA6.turn (TurnsTy.of_set (i := L.length) hgb u1) (by decide) (ByteRow.nil _ _ _) (hA6.below.setCell (by
        have := (hE1.els.lt g rfl).1
        exact this) _)
/-- The state of the reading at byte i: before the first plus sign, or within the elements. -/
def RdSt (w wx : World) (b : List UInt8) (R : Seg) (vw : Value) (o : Int) (i : Nat) (word : List UInt8) : Prop :=
  word.length ≤ i ∧ ((o = -1 ∧ rd1 word (toks (b.drop i)) = R ∧ ReadAt w wx vw word [] (.slice none 0 0)) ∨
  ∃ (tag : List UInt8) (L : List (List (List UInt8))) (cur : List (List UInt8)) (H : Nat) (vE : Value) (us : List Value) (ucur : Value), o = (L.length : Int) ∧ L.length ≤ i ∧ cur.length ≤ i ∧ rdT tag L cur word (toks (b.drop i)) = R ∧ ReadAt w wx vw word tag vE ∧ ElsAt w wx H vE us L ucur cur)
theorem RdSt.base {w wx : World} {b : List UInt8} {R : Seg} {vw : Value} {o : Int} {i : Nat} {word : List UInt8} (h : RdSt w wx b R vw o i word) : ByteRow wx w.heap.size 5 vw word ∧ Below w.heap.size w wx := by
  rcases h.2 with ⟨_, _, h⟩ | ⟨_, _, _, _, _, _, _, _, _, _, _, h, _⟩
  · exact ⟨h.row, h.below⟩
  · exact ⟨h.row, h.below⟩
theorem RdSt.alloc {w wx : World} {b : List UInt8} {R : Seg} {vw : Value} {o : Int} {i : Nat} {word : List UInt8} (h : RdSt w wx b R vw o i word) (x : Obj) : RdSt w (wx.alloc x) b R vw o i word := by
  have hb : Below wx.heap.size wx (wx.alloc x) := (Below.refl _ _).alloc (Nat.le_refl _) _
  refine ⟨h.1, ?_⟩
  rcases h.2 with ⟨h1, h2, h3⟩ | ⟨tag, L, cur, H, vE, us, ucur, h1, h2, h3, h4, h5, h6⟩
  · exact .inl ⟨h1, h2, h3.alloc x⟩
  · exact .inr ⟨tag, L, cur, H, vE, us, ucur, h1, h2, h3, h4, h5.alloc x, h6.turn (t := 5) (TurnsTy.of_below hb) (by decide) (by decide)⟩
/-- A byte of a word. -/
theorem RdSt.lit {w wx w1 : World} {b : List UInt8} {R : Seg} {vw vw1 : Value} {o : Int} {i j : Nat} {word : List UInt8} {c : UInt8} (h : RdSt w wx b R vw o i word) (ht : toks (b.drop i) = .lit c :: toks (b.drop j)) (hij : i < j)
    (hr : ByteRow w1 w.heap.size 5 vw1 (word ++ [c])) (hg : wx.grownBy w1 vw.ownBlock) : RdSt w w1 b R vw1 o j (word ++ [c]) := by
  have h0 := h.1
  refine ⟨by rw [List.length_append]; show word.length + 1 ≤ j; omega, ?_⟩
  rcases h.2 with ⟨h1, h2, h3⟩ | ⟨tag, L, cur, H, vE, us, ucur, h1, h2, h3, h4, h5, h6⟩
  · rw [ht] at h2
    exact .inl ⟨h1, h2, h3.word hr hg⟩
  · rw [ht] at h4
    exact .inr ⟨tag, L, cur, H, vE, us, ucur, h1, by omega, by omega, h4, h5.word hr hg, h6.turn (TurnsTy.of_grown hg h5.row.ty) (by decide) (by decide)⟩
theorem BytesIn.form {p : Nat → Prop} {w : World} {v : Value} {b : List UInt8} (h : BytesIn p w v b) : ∃ (ao : Option Addr) (cap : Nat), v = .slice ao b.length cap ∧ ∀ (i : Nat) (c : UInt8), b[i]? = some c → ∃ a, ao = some a ∧ p a.block ∧ w.cell? (a.add i) = some (byteV c) := by
  obtain ⟨h1, h2 | ⟨a, cap, h2, h3, h4, h5, h6⟩⟩ := h
  · refine ⟨none, 0, by rw [h2.1, h2.2], fun k x hk => ?_⟩
    have := (List.getElem?_eq_some_iff.1 hk).1
    omega
  · refine ⟨some a, cap, h2, fun k x hk => ⟨a, rfl, h5 ?_, h6 k _ (by rw [List.getElem?_map, hk]; rfl)⟩⟩
    have := (List.getElem?_eq_some_iff.1 hk).1
    omega
theorem toks_pair_at {b : List UInt8} {i : Nat} {c : UInt8} (h1 : b[i]? = some 63) (h2 : b[i + 1]? = some c) : toks (b.drop i) = .lit c :: toks (b.drop (i + 2)) := by
  obtain ⟨k1, e1⟩ := List.getElem?_eq_some_iff.1 h1
  obtain ⟨k2, e2⟩ := List.getElem?_eq_some_iff.1 h2
  rw [List.drop_eq_getElem_cons k1, List.drop_eq_getElem_cons k2, e1, e2, toks_pair]
theorem toks_at {b : List UInt8} {i : Nat} {c : UInt8} (h1 : b[i]? = some c) (h2 : c ≠ 63 ∨ i + 1 = b.length) : toks (b.drop i) = tokOf c :: toks (b.drop (i + 1)) := by
  obtain ⟨k1, e1⟩ := List.getElem?_eq_some_iff.1 h1
  rw [List.drop_eq_getElem_cons k1, e1]
  rcases h2 with h2 | h2
  · exact toks_step h2 _
  · rw [h2, List.drop_length]
    rfl

theorem heap_alloc0 (w : World) (o : Obj) : (w.alloc o).heap[w.heap.size]? = some o := by
  show (w.heap.push o)[w.heap.size]? = some o
  simp
theorem heap_alloc_lt (w : World) (o : Obj) {k : Nat} (h : k < w.heap.size) : (w.alloc o).heap[k]? = w.heap[k]? := by
  show (w.heap.push o)[k]? = w.heap[k]?
  simp [Array.getElem?_push, Nat.ne_of_lt h]
theorem rdst_start {w : World} {b : List UInt8} {R : Seg} (hR : rd1 [] (toks b) = R) :
    RdSt w (((w.alloc (.cells #[.string ⟨#[]⟩, .slice none 0 0] 24)).alloc (.cells #[] 5)).alloc (.cells #[.string ⟨#[]⟩, .slice none 0 0] 24)) b R (.slice (some ⟨w.heap.size + 1, 0, none⟩) 0 0) (-1) 0 [] := by
  have s1 : (w.alloc (.cells #[.string ⟨#[]⟩, .slice none 0 0] 24)).heap.size = w.heap.size + 1 := by simp
  have s2 : ((w.alloc (.cells #[.string ⟨#[]⟩, .slice none 0 0] 24)).alloc (.cells #[] 5)).heap.size = w.heap.size + 2 := by simp
  have h0 := heap_alloc0 w (.cells #[.string ⟨#[]⟩, .slice none 0 0] 24)
  have h1 := heap_alloc0 (w.alloc (.cells #[.string ⟨#[]⟩, .slice none 0 0] 24)) (.cells #[] 5)
  have h2 := heap_alloc0 ((w.alloc (.cells #[.string ⟨#[]⟩, .slice none 0 0] 24)).alloc (.cells #[] 5)) (.cells #[.string ⟨#[]⟩, .slice none 0 0] 24)
  rw [s1] at h1
  rw [s2] at h2
  refine ⟨Nat.le_refl _, .inl ⟨rfl, hR, ?_, h2, ?_, ?_⟩⟩
  · refine .inr ⟨w.heap.size + 1, 0, #[], (0, 0), rfl, by omega, ?_, FreeTo.zero _, Nat.le_refl _, Nat.zero_le _, rfl, rfl⟩
    exact (heap_alloc_lt _ _ (by omega)).trans h1
  · exact (heap_alloc_lt _ _ (by omega)).trans ((heap_alloc_lt _ _ (by omega)).trans h0)
  · exact (((Below.refl _ _).alloc (Nat.le_refl _) _).alloc (by omega) _).alloc (by omega) _
/-- What opening an element needs, and what it leaves. -/
structure PushStep (w W : World) (b : List UInt8) (R : Seg) (i : Nat) (tag : List UInt8) (vE : Value) (us : List Value) (L : List (List (List UInt8))) (ucur : Value) : Prop where
  row : (W.alloc (.cells #[.slice none 0 0] 49)).ownsRow w.heap.size 49 1 vE (L.length + 1) (us ++ [ucur])
  hi : w.heap.size ≤ (W.alloc (.cells #[.slice none 0 0] 49)).heap.size
  next : ∀ v1 w3, w3.ownsRow w.heap.size 49 1 v1 (L.length + 1 + 1) (us ++ [ucur, .slice none 0 0]) → (W.alloc (.cells #[.slice none 0 0] 49)).grownBy w3 vE.ownBlock →
    (∃ g cap, v1 = .slice (some ⟨g, 0, none⟩) (L.length + 1 + 1) cap) ∧ (w3.cell? ⟨w.heap.size + 2, 0, none⟩ = some (strV tag) ∧ w3.frozen? ⟨w.heap.size + 2, 0, none⟩ = false) ∧ (w3.cell? ⟨w.heap.size + 2, 1, none⟩ = some vE ∧ w3.frozen? ⟨w.heap.size + 2, 1, none⟩ = false) ∧
    RdSt w (w3.setCell ⟨w.heap.size + 2, 1, none⟩ v1) b R (.slice none 0 0) ((L.length : Int) + 1) (i + 1) []
theorem push_step {w W : World} {b : List UInt8} {R : Seg} {i : Nat} {tag word : List UInt8} {vw vE : Value} {us : List Value} {L : List (List (List UInt8))} {ucur : Value} {cur : List (List UInt8)} {H : Nat} (hA : ReadAt w W vw word tag vE) (hE : ElsAt w W H vE us L ucur cur) (hR : rdT tag (L ++ [cur]) [] [] (toks (b.drop (i + 1))) = R) (hl : L.length ≤ i) :
    PushStep w W b R i tag vE us L ucur := by
  have hb : Below W.heap.size W (W.alloc (.cells #[.slice none 0 0] 49)) := (Below.refl _ _).alloc (Nat.le_refl _) _
  have hA1 := hA.alloc (.cells #[.slice none 0 0] 49)
  have hE1 := hE.turn (t := 5) (TurnsTy.of_below hb) (by decide) (by decide)
  refine ⟨hE1.els, hA1.below.size, fun v1 w3 hown hg => ?_⟩
  have ht := TurnsTy.of_grown hg (own_ty hE1.els)
  have hE3 := hE1.push (by simpa using hown) hg
  have hA3 := hA1.empty.turn ht (by decide) (ByteRow.nil w3 w.heap.size 5) (below_grown hA1.below hg fun k hk => (hE1.els.lt k hk).1)
  obtain ⟨g, cap, hv, _⟩ := hE3.form
  have e1 : (L ++ [cur]).length = L.length + 1 := by simp
  rw [e1] at hv
  subst hv
  refine ⟨⟨g, cap, rfl⟩, hA3.cells.1, hA3.cells.2, Nat.zero_le _, .inr ⟨tag, L ++ [cur], [], w3.heap.size, .slice (some ⟨g, 0, none⟩) (L.length + 1 + 1) cap, us ++ [ucur], .slice none 0 0, by simp, by rw [e1]; omega, Nat.zero_le _, hR, ?_, ?_⟩⟩
  · exact hA3.set (tag1 := tag) 1 _ rfl
  · exact hE3.turn (TurnsTy.of_set (i := 1) hA3.box _) (by decide) (by decide)

set_option maxRecDepth 100000 in
set_option maxHeartbeats 3200000 in
theorem refRead_any (v : Value) (b : List UInt8) (w : World) (h : BytesIn (Has_ w) w v b) (hb : b.length ≤ 1000000000) :
    Calls Try.prog 33 #[v] w fun e w' => ∃ x, e = .returned (.agg #[strV (readF b).tag, x]) ∧ ElemsIn (NotSeg w') w' x (readF b).els ∧ Below w.heap.size w w' := by
  obtain ⟨i0, hi, hz0, hz1, hz2⟩ := info_parts info_byte
  obtain ⟨R, hR⟩ : ∃ R, R = readF b := ⟨_, rfl⟩
  obtain ⟨ao, cap, rfl, hbc⟩ := h.form
  have HB := Lib.hid (show ∀ (i : Nat) (c : UInt8), b[i]? = some c → ∃ a, ao = some a ∧ ∀ wx, Below w.heap.size w wx → wx.cell? (a.add i) = some (byteV c) from fun i c hi => by
    obtain ⟨a, h1, h2, h3⟩ := hbc i c hi
    exact ⟨a, h1, fun wx hbw => (hbw.cell (by rw [add_block]; exact h2)).trans h3⟩)
  have HS0 := Lib.hid (rdst_start (w := w) (b := b) (R := R) (by rw [hR]; rfl))
  rw [← hR]
  clear hR h hbc
  go_enter Try.func33, Try.ntmps33
  go_wp2_with fail
  generalize ((w.alloc (.cells #[.string ⟨#[]⟩, .slice none 0 0] 24)).alloc (.cells #[] 5)).alloc (.cells #[.string ⟨#[]⟩, .slice none 0 0] 24) = W0 at *
  go_loopw [4, 5, 6] (fun vw vo vi wx => ∃ (u : Value) (o : Int) (i : Nat) (word : List UInt8), u = vw ∧ vo = .int .i64 o ∧ vi = .int .i64 i ∧ i ≤ b.length + 1 ∧ -1 ≤ o ∧ o ≤ i ∧ ((i ≤ b.length ∧ Hid (RdSt w wx b R u o i word)) ∨ i = b.length + 1 ∧ Hid (∃ (tag : List UInt8) (L : List (List (List UInt8))) (cur : List (List UInt8)) (H : Nat) (vE : Value) (us : List Value) (ucur : Value), R = ⟨tag, L ++ [cur]⟩ ∧ ReadAt w wx u [] tag vE ∧ ElsAt w wx H vE us L ucur cur))) (fun _ _ vi _ => b.length + 1 - (intOf vi).toNat)
  case atStart => exact ⟨_, -1, 0, [], rfl, rfl, by go_num, by omega, by omega, by omega, .inl ⟨by omega, HS0⟩⟩
  case round =>
    clear HS0
    obtain ⟨u, o, i, word, rfl, rfl, rfl, hi1, ho1, ho2, hst⟩ := hrel
    rcases hst with ⟨hi2, HS⟩ | ⟨hi2, HE⟩
    · by_cases hlt : i < b.length
      · obtain ⟨c, hc⟩ : ∃ c, b[i]? = some c := ⟨_, List.getElem?_eq_getElem hlt⟩
        obtain ⟨a, rfl, hcell⟩ := HB.out i c hc
        have q1 := hcell _ HS.out.base.2
        have hwl := HS.out.1
        unfold byteV at q1
        have e63 : ((c.toNat : Int) == 63) = (c == 63) := byte_eq c 63 (by omega)
        have e43 : ((c.toNat : Int) == 43) = (c == 43) := byte_eq c 43 (by omega)
        have e58 : ((c.toNat : Int) == 58) = (c == 58) := byte_eq c 58 (by omega)
        have d1 : decide ((i : Int) ≤ (b.length : Int)) = true := decide_eq_true (by omega)
        have d2 : decide ((i : Int) < (b.length : Int)) = true := decide_eq_true (by omega)
        by_cases hpair : c = 63 ∧ i + 1 < b.length
        · obtain ⟨c2, hc2⟩ : ∃ c2, b[i + 1]? = some c2 := ⟨_, List.getElem?_eq_getElem hpair.2⟩
          have q2 := (show ∃ a2, some a = some a2 ∧ ∀ wx, Below w.heap.size w wx → wx.cell? (a2.add (i + 1)) = some (byteV c2) from HB.out (i + 1) c2 hc2)
          obtain ⟨a2, ha2, q2f⟩ := q2
          cases ha2
          have q2 : wr.cell? ⟨a.block, a.off + (i + 1), none⟩ = some (byteV c2) := by
            have := q2f _ HS.out.base.2
            unfold Addr.add at this
            rw [if_neg (show ¬ i + 1 = 0 by omega)] at this
            exact this
          unfold byteV at q2
          clear q2f
          have htk := Lib.hid (toks_pair_at (by rw [hc, hpair.1]) hc2)
          have hl1 : word.length + 1 ≤ 100000000000000 := by omega
          rw [beq_iff_eq.2 hpair.1] at e63
          have d3 : decide ((i : Int) + 1 < (b.length : Int)) = true := decide_eq_true (by omega)
          have HSa := Lib.hid (HS.out.alloc (.cells #[.int .u8 (c2.toNat : Int)] 5))
          have ht1 : ((i : Int) + 1).toNat = i + 1 := by omega
          clear hc hc2 e43 e58 HB hcell HS
          go_wp2_with (at_builtin; refine wpList_append_bytes rfl _ _ 32 rfl w.heap.size 5 i0 Try.underlying32 hi hz0 hz1 hz2 _ word rfl HSa.out.base.1 ⟨wr.heap.size, 0, none⟩ 1 [c2] rfl (one_news wr c2 _ rfl 5) hl1 HSa.out.base.2.size ?_)
          intro vb3 w3 hr3 hg3
          have HS3 := Lib.hid (HSa.out.lit htk.out (by omega) hr3 hg3)
          clear HSa hr3 hg3 htk
          go_wp2_with fail
          go_roundw
          case rel => exact ⟨_, o, i + 2, _, rfl, rfl, by go_num, by omega, ho1, by omega, .inl ⟨by omega, HS3⟩⟩
          case measure => simp [intOf]; omega
        · have h63 : c ≠ 63 ∨ i + 1 = b.length := by
            by_cases e : c = 63
            · exact .inr (by have : ¬ i + 1 < b.length := fun hh => hpair ⟨e, hh⟩; omega)
            · exact .inl e
          have htk := toks_at hc h63
          by_cases hsep : c = 43 ∨ c = 58
          · obtain ⟨hwl, ⟨rfl, hR, hA⟩ | ⟨tag, L, cur, H, vE, us, ucur, rfl, hL1, hL2, hR, hA, hE⟩⟩ := HS.out
            · have hcv := run_text_of_cells (P := Try.prog) wr 32 9 5 u _ Try.underlying32 Try.underlying5 Try.underlying9 hA.row.cells
              obtain ⟨⟨c0, f0⟩, c1, f1⟩ := hA.cells
              obtain ⟨⟨r0, s0⟩, r1, s1⟩ := hA.resCells
              have hA1 := Lib.hid (hA.set (tag1 := word) (vE1 := .slice none 0 0) 0 (strV word) rfl)
              have q3 : (wr.setCell ⟨w.heap.size + 1 + 1, 0, none⟩ (.string ⟨word.toArray⟩)).cell? (a.add i) = some (byteV c) := hcell _ hA1.out.below
              unfold byteV at q3
              rw [htk] at hR
              have hne63 : c ≠ 63 := by rcases hsep with e | e <;> (rw [e]; decide)
              rw [beq_eq_false_iff_ne.2 hne63] at e63
              by_cases e : c = 43
              · have e2 : c ≠ 58 := by rw [e]; decide
                rw [beq_iff_eq.2 e] at e43
                rw [beq_eq_false_iff_ne.2 e2] at e58
                have g43 : ((c.toNat : Int) != 43) = false := by show (!((c.toNat : Int) == 43)) = false; rw [e43]; rfl
                have hR2 := Lib.hid (show rdT word [] [] [] (toks (b.drop (i + 1))) = R by rw [← hR, e]; rfl)
                clear HS HB hR hA hcell hc htk hsep hpair h63 hne63 e e2
                have hA2 := Lib.hid (hA1.out.alloc (.cells #[.slice none 0 0] 49))
                have hown := World.ownsRow_nil ((wr.setCell ⟨w.heap.size + 1 + 1, 0, none⟩ (strV word)).alloc (.cells #[.slice none 0 0] 49)) w.heap.size 49 1
                have hnn := nil_news (wr.setCell ⟨w.heap.size + 1 + 1, 0, none⟩ (strV word)) 49
                have hbs : w.heap.size ≤ ((wr.setCell ⟨w.heap.size + 1 + 1, 0, none⟩ (strV word)).alloc (.cells #[.slice none 0 0] 49)).heap.size := hA2.out.below.size
                have hsz : (wr.setCell ⟨w.heap.size + 1 + 1, 0, none⟩ (strV word)).heap.size = wr.heap.size := by simp
                rw [hsz] at hnn
                obtain ⟨i1, hj, hy0, hy1, hy2⟩ := info_parts info_strs
                unfold strV at hcv c0 hA1 r0 hA2 hown hnn hbs
                clear hsz
                go_wp2_with (at_builtin; refine wpList_append_own _ rfl _ _ 22 rfl w.heap.size 49 i1 (.slice none 0 0) 1 24 Try.underlying22 hj hy0 hy1 hy2 rfl (by decide) _ 0 [] rfl hown ⟨wr.heap.size, 0, none⟩ 1 1 [.slice none 0 0] rfl rfl hnn (by intro u hu; simp at hu; rw [hu]; rfl) (by unfold maxLen; omega) (by omega) hbs ?_)
                intro v1 w3 hown3 hg3 _
                have hE3 := ElsAt.first (w := w) (vE1 := v1) hown3 (Nat.le_trans hbs hg3.size)
                have hA3 : ReadAt w w3 (.slice none 0 0) [] word (.slice none 0 0) := hA2.out.empty.turn (t := 5) (TurnsTy.of_grown (v := .slice none 0 0) hg3 (fun k hk => by cases hk)) (by decide) (ByteRow.nil _ _ _) (below_grown hA2.out.below hg3 fun k hk => by cases hk)
                obtain ⟨g, capE, rfl, _⟩ := hE3.form
                obtain ⟨_, k1, k2⟩ := hA3.cells
                have hA4 := hA3.set (tag1 := word) (vE1 := .slice (some ⟨g, 0, none⟩) (0 + 1) capE) 1 _ rfl
                have hE4 := hE3.turn (TurnsTy.of_set (i := 1) hA3.box (.slice (some ⟨g, 0, none⟩) (0 + 1) capE)) (by decide) (by decide)
                have HS4 := Lib.hid (show RdSt w _ b R (.slice none 0 0) 0 (i + 1) [] from ⟨Nat.zero_le _, .inr ⟨word, [], [], _, _, [], _, rfl, Nat.zero_le _, Nat.zero_le _, hR2.out, hA4, hE4⟩⟩)
                clear hE3 hA3 hA4 hE4 hown3 hg3 hown hnn hbs hA2 hA1 hR2 q3 c0 c1 f0 f1 r0 r1 s0 s1
                go_wp2_with fail
                go_roundw
                case rel => exact ⟨_, 0, i + 1, [], rfl, rfl, by go_num, by omega, by omega, by omega, .inl ⟨by omega, HS4⟩⟩
                case measure => simp [intOf]; omega
              · have e2 : c = 58 := hsep.resolve_left e
                rw [beq_eq_false_iff_ne.2 e] at e43
                rw [beq_iff_eq.2 e2] at e58
                have g43 : ((c.toNat : Int) != 43) = true := by show (!((c.toNat : Int) == 43)) = true; rw [e43]; rfl
                have g58 : ((c.toNat : Int) != 58) = false := by show (!((c.toNat : Int) == 58)) = false; rw [e58]; rfl
                have hR2 := Lib.hid (show R = ⟨word, []⟩ by rw [← hR, e2]; rfl)
                clear HS HB hR hA hcell hc htk hsep hpair h63 hne63 e e2
                unfold strV at hcv c0 hA1 r0
                go_wp2_with fail
                rw [show w.heap.size + 1 + 1 = w.heap.size + 2 from rfl]
                obtain ⟨⟨z0, _⟩, z1, _⟩ := hA1.out.resCells
                obtain ⟨g0, g1⟩ := setTwo z0 z1 (.string ⟨word.toArray⟩) (.slice none 0 0)
                have hbel : Below w.heap.size w (((wr.setCell ⟨w.heap.size + 2, 0, none⟩ (.string ⟨word.toArray⟩)).setCell ⟨w.heap.size, 0, none⟩ (.string ⟨word.toArray⟩)).setCell ⟨w.heap.size, 1, none⟩ (.slice none 0 0)) := (hA1.out.below.setCell (Nat.le_refl _) _).setCell (Nat.le_refl _) _
                generalize ((wr.setCell ⟨w.heap.size + 2, 0, none⟩ (.string ⟨word.toArray⟩)).setCell ⟨w.heap.size, 0, none⟩ (.string ⟨word.toArray⟩)).setCell ⟨w.heap.size, 1, none⟩ (.slice none 0 0) = W9 at *
                simp [bodyPost, results, Try.results33, go_sem, g0, g1]
                rw [hR2.out]
                exact ⟨_, ⟨rfl, rfl⟩, ElemsIn.nil _ _, hbel⟩
            · rw [htk] at hR
              have hne63 : c ≠ 63 := by rcases hsep with e | e <;> (rw [e]; decide)
              rw [beq_eq_false_iff_ne.2 hne63] at e63
              have hcv := run_text_of_cells (P := Try.prog) wr 32 9 5 u _ Try.underlying32 Try.underlying5 Try.underlying9 hA.row.cells
              obtain ⟨g, capE, rfl, hcE⟩ := hE.form
              obtain ⟨ao2, c2, hu2⟩ := hE.curForm
              obtain ⟨ao3, c3, hu3⟩ := hA.wordForm
              subst hu2
              subst hu3
              have e0 := hE.elCell
              obtain ⟨⟨c0, f0⟩, c1, f1⟩ := hA.cells
              by_cases e : c = 43
              · have e2 : c ≠ 58 := by rw [e]; decide
                rw [beq_iff_eq.2 e] at e43
                rw [beq_eq_false_iff_ne.2 e2] at e58
                have g43 : ((c.toNat : Int) != 43) = false := by show (!((c.toNat : Int) == 43)) = false; rw [e43]; rfl
                have d5 : decide ((L.length : Int) < 0) = false := decide_eq_false (by omega)
                by_cases hw0 : 0 < word.length
                · have d6 : decide ((0 : Int) < (word.length : Int)) = true := decide_eq_true (by omega)
                  have hcl : closeE cur word = cur ++ [word] := if_neg (fun h => by have h1 : word.length = 0 := congrArg List.length h.1; have h2 : cur.length = 0 := congrArg List.length h.2; omega)
                  have hR2 := Lib.hid (show rdT tag (L ++ [cur ++ [word]]) [] [] (toks (b.drop (i + 1))) = R by rw [← hcl, ← hR, e]; rfl)
                  have HC := Lib.hid hcell
                  have HW := Lib.hid (comp_step word (by omega) hA hE)
                  clear HS HB hR hcell hc htk hsep hpair h63 hne63 e e2
                  unfold strV at hcv c0
                  obtain ⟨e0, e1⟩ := e0
                  obtain ⟨i2, hk, hx0, hx1, hx2⟩ := info_parts info_str
                  have i3 : (0 : Int) ≤ (L.length : Int) := by omega
                  have i4 : (L.length : Int) < ((L.length + 1 : Nat) : Int) := by omega
                  have i5 : (L.length : Int) < (L.length : Int) + 1 := by omega
                  clear hA hE
                  go_wp2_with fail
                  have cv1 := HW.out.cv1
                  unfold ReadsAs at cv1
                  refine wp_region_noPanic ?_
                  refine wp_region_held_drew (S := fun w' => w'.cell? ⟨w.heap.size + 2, 1, none⟩ = some (.slice (some ⟨g, 0, none⟩) (L.length + 1) capE) ∧ (convert 32 9 (.slice ao3 word.length c3)).run Try.prog w' = .ok (.string ⟨word.toArray⟩) w') (by kernel_rfl) ⟨c1, cv1⟩ (fun hHeld => ?_)
                  refine wpAnyH_take (i := 0) (v := ?_) rfl (by kernel_rfl) (by kernel_rfl) (by kernel_rfl) (fun _ _ _ h => h) (Or.inl ⟨by rfl, ?_⟩) (by assumption) ?_
                  rotate_left
                  · intro wS hSw
                    obtain ⟨hSw1, hSw2⟩ := hSw
                    go_simp <;> with_reducible rfl
                  try simp only [Act.put, List.getElem_toArray, List.getElem_cons_zero, List.setIfInBounds_toArray, List.set_cons_zero, List.set_cons_succ]
                  refine wpAnyH_take (i := 1) (v := ?_) rfl (by kernel_rfl) (by kernel_rfl) (by kernel_rfl) (fun _ _ _ h => h) (Or.inl ⟨by rfl, ?_⟩) (by assumption) ?_
                  rotate_left
                  · intro wS hSw
                    obtain ⟨hSw1, hSw2⟩ := hSw
                    go_simp <;> with_reducible rfl
                  try simp only [Act.put, List.getElem_toArray, List.getElem_cons_succ, List.getElem_cons_zero, List.setIfInBounds_toArray, List.set_cons_zero, List.set_cons_succ]
                  refine wpAnyH_take (i := 2) (v := ?_) rfl (by kernel_rfl) (by kernel_rfl) (by kernel_rfl) (fun _ _ _ h => h) (Or.inl ⟨by rfl, ?_⟩) (by assumption) ?_
                  rotate_left
                  · intro wS hSw
                    obtain ⟨hSw1, hSw2⟩ := hSw
                    go_simp <;> with_reducible rfl
                  try simp only [Act.put, List.getElem_toArray, List.getElem_cons_succ, List.getElem_cons_zero, List.setIfInBounds_toArray, List.set_cons_zero, List.set_cons_succ]
                  refine wpAnyH_take (i := 3) (v := ?_) rfl (by kernel_rfl) (by kernel_rfl) (by kernel_rfl) (fun _ _ _ h => h) (Or.inl ⟨by rfl, ?_⟩) (by assumption) ?_
                  rotate_left
                  · intro wS hSw
                    obtain ⟨hSw1, hSw2⟩ := hSw
                    go_simp <;> with_reducible rfl
                  try simp only [Act.put, List.getElem_toArray, List.getElem_cons_succ, List.getElem_cons_zero, List.setIfInBounds_toArray, List.set_cons_zero, List.set_cons_succ]
                  refine wpAnyH_take (i := 4) (v := ?_) rfl (by kernel_rfl) (by kernel_rfl) (by kernel_rfl) (fun _ _ _ h => h) (Or.inl ⟨by rfl, ?_⟩) (by assumption) ?_
                  rotate_left
                  · intro wS hSw
                    obtain ⟨hSw1, hSw2⟩ := hSw
                    go_simp <;> with_reducible rfl
                  try simp only [Act.put, List.getElem_toArray, List.getElem_cons_succ, List.getElem_cons_zero, List.setIfInBounds_toArray, List.set_cons_zero, List.set_cons_succ]
                  refine wpAnyH_take (i := 5) (v := ?_) rfl (by kernel_rfl) (by kernel_rfl) (by kernel_rfl) (fun _ _ _ h => h) (Or.inl ⟨by rfl, ?_⟩) (by assumption) ?_
                  rotate_left
                  · intro wS hSw
                    obtain ⟨hSw1, hSw2⟩ := hSw
                    go_simp <;> with_reducible rfl
                  try simp only [Act.put, List.getElem_toArray, List.getElem_cons_succ, List.getElem_cons_zero, List.setIfInBounds_toArray, List.set_cons_zero, List.set_cons_succ]
                  refine wpAnyH_take (i := 6) (v := ?_) rfl (by kernel_rfl) (by kernel_rfl) (by kernel_rfl) (fun _ _ _ h => h) (Or.inl ⟨by rfl, ?_⟩) (by assumption) ?_
                  rotate_left
                  · intro wS hSw
                    obtain ⟨hSw1, hSw2⟩ := hSw
                    go_simp <;> with_reducible rfl
                  try simp only [Act.put, List.getElem_toArray, List.getElem_cons_succ, List.getElem_cons_zero, List.setIfInBounds_toArray, List.set_cons_zero, List.set_cons_succ]
                  refine wpAnyH_take (i := 8) (v := ?_) rfl (by kernel_rfl) (by kernel_rfl) (by kernel_rfl) (fun _ _ _ h => h) (Or.inl ⟨by rfl, ?_⟩) (by assumption) ?_
                  rotate_left
                  · intro wS hSw
                    obtain ⟨hSw1, hSw2⟩ := hSw
                    go_simp <;> with_reducible rfl
                  try simp only [Act.put, List.getElem_toArray, List.getElem_cons_succ, List.getElem_cons_zero, List.setIfInBounds_toArray, List.set_cons_zero, List.set_cons_succ]
                  refine wpAnyH_take (i := 9) (v := ?_) rfl (by kernel_rfl) (by kernel_rfl) (by kernel_rfl) (fun _ _ _ h => h) (Or.inl ⟨by rfl, ?_⟩) (by assumption) ?_
                  rotate_left
                  · intro wS hSw
                    obtain ⟨hSw1, hSw2⟩ := hSw
                    go_simp <;> with_reducible rfl
                  try simp only [Act.put, List.getElem_toArray, List.getElem_cons_succ, List.getElem_cons_zero, List.setIfInBounds_toArray, List.set_cons_zero, List.set_cons_succ]
                  refine wpAnyH_ready (rs := [7, 10]) (by kernel_rfl) (by simp) ?_
                  refine AllReadyH.cons rfl (fun K hK => ?_) (AllReadyH.cons rfl (fun K hK => ?_) AllReadyH.nil)
                  · go_simp
                    refine hK.out _ _ (hHeld) (fun hHeld => ?_)
                    clear hK K
                    try simp only [Act.put, List.getElem_toArray, List.getElem_cons_succ, List.getElem_cons_zero, List.setIfInBounds_toArray, List.set_cons_zero, List.set_cons_succ]
                    refine wpAnyH_ready (rs := [10]) (by kernel_rfl) (by simp) ?_
                    refine AllReadyH.cons rfl (fun K hK => ?_) AllReadyH.nil
                    go_simp
                    refine hK.out _ _ (⟨cellAlloc2 c1, HW.out.cv2⟩) (fun hHeld => ?_)
                    clear hK K
                    try simp only [Act.put, List.getElem_toArray, List.getElem_cons_succ, List.getElem_cons_zero, List.setIfInBounds_toArray, List.set_cons_zero, List.set_cons_succ]
                    refine wpAnyH_ready (rs := [11]) (by kernel_rfl) (by simp) ?_
                    refine AllReadyH.cons rfl (fun K hK => ?_) AllReadyH.nil
                    refine step_append_own rfl (.tmp 104) (.tmp 107) 49 rfl H 9 i2 _ 1 16 Try.underlying49 hk hx0 hx1 hx2 rfl (by omega) _ cur.length (cur.map strV) rfl HW.out.row HW.out.hi (some ⟨wr.heap.size, 0, none⟩) 1 1 [strV word] rfl rfl (fun h => by cases h) HW.out.news HW.out.one (by unfold maxLen; omega) (by omega) ?_
                    intro u1 w6 own1 grow1
                    obtain ⟨⟨k1, k2⟩, k3, ⟨ao6, c6, rfl⟩, k5, k7, k6⟩ := HW.out.next u1 w6 own1 grow1
                    unfold ReadsAs at k5 k7
                    have HK := Lib.hid k6
                    clear k6 own1 grow1
                    refine hK.out _ _ (⟨k3, k5⟩) (fun hHeld => ?_)
                    clear hK K
                    try simp only [Act.put, List.getElem_toArray, List.getElem_cons_succ, List.getElem_cons_zero, List.setIfInBounds_toArray, List.set_cons_zero, List.set_cons_succ]
                    refine wpAnyH_take (i := 12) (v := ?_) rfl (by kernel_rfl) (by kernel_rfl) (by kernel_rfl) (fun _ _ _ h => h) (Or.inl ⟨by rfl, ?_⟩) (by assumption) ?_
                    rotate_left
                    · intro wS hSw
                      obtain ⟨hSw1, hSw2⟩ := hSw
                      go_simp <;> with_reducible rfl
                    try simp only [Act.put, List.getElem_toArray, List.getElem_cons_succ, List.getElem_cons_zero, List.setIfInBounds_toArray, List.set_cons_zero, List.set_cons_succ]
                    refine wpAnyH_ready (rs := [13]) (by kernel_rfl) (by simp) ?_
                    refine AllReadyH.cons rfl (fun K hK => ?_) AllReadyH.nil
                    go_simp
                    refine hK.out _ _ ⟨HK.out.1.cells.2.1, k7⟩ (fun hHeld => ?_)
                    clear hK K hHeld
                    try simp only [Act.put, List.getElem_toArray, List.getElem_cons_succ, List.getElem_cons_zero, List.setIfInBounds_toArray, List.set_cons_zero, List.set_cons_succ]
                    refine wpAnyH_done (by kernel_rfl) ?_ _
                    refine NoPanic.normal ?_
                    clear HW hcv c0 f0 c1 f1 e0 e1 cv1 k1 k2 k3 k5 k7
                    generalize (w6.setCell ⟨g, L.length, none⟩ (.slice ao6 (cur.length + 1) c6)) = W7 at *
                    generalize Value.slice ao6 (cur.length + 1) c6 = ucur1 at *
                    have q3 : W7.cell? (a.add i) = some (.int .u8 (c.toNat : Int)) := HC.out _ HK.out.1.below
                    obtain ⟨⟨c0, f0⟩, c1, f1⟩ := HK.out.1.cells
                    unfold strV at c0
                    have HP := Lib.hid (push_step (i := i) HK.out.1 HK.out.2 hR2.out hL1)
                    have hnn := nil_news W7 49
                    obtain ⟨i1, hj, hy0, hy1, hy2⟩ := info_parts info_strs
                    clear HK hR2 HC
                    go_wp2_with (at_builtin; refine wpList_append_own _ rfl _ _ 22 rfl w.heap.size 49 i1 (.slice none 0 0) 1 24 Try.underlying22 hj hy0 hy1 hy2 rfl (by decide) _ (L.length + 1) (us ++ [ucur1]) rfl HP.out.row ⟨W7.heap.size, 0, none⟩ 1 1 [.slice none 0 0] rfl rfl hnn (by intro u hu; simp at hu; rw [hu]; rfl) (by unfold maxLen; omega) (by omega) HP.out.hi ?_)
                    intro v1 w3 hown3 hg3 _
                    obtain ⟨⟨g4, cap4, rfl⟩, ⟨k1, k2⟩, ⟨k3, k4⟩, h4⟩ := HP.out.next v1 w3 hown3 hg3
                    unfold strV at k1
                    have HS4 := Lib.hid h4
                    clear HP hown3 hg3 h4 hnn
                    go_wp2_with fail
                    go_roundw
                    case rel => exact ⟨_, (L.length : Int) + 1, i + 1, [], rfl, rfl, by go_num, by omega, by omega, by omega, .inl ⟨by omega, HS4⟩⟩
                    case measure => simp [intOf]; omega
                  · go_simp
                    refine hK.out _ _ (⟨cellAlloc2 c1, HW.out.cv2⟩) (fun hHeld => ?_)
                    clear hK K
                    try simp only [Act.put, List.getElem_toArray, List.getElem_cons_succ, List.getElem_cons_zero, List.setIfInBounds_toArray, List.set_cons_zero, List.set_cons_succ]
                    refine wpAnyH_ready (rs := [7]) (by kernel_rfl) (by simp) ?_
                    refine AllReadyH.cons rfl (fun K hK => ?_) AllReadyH.nil
                    have e0a : (wr.alloc (.cells #[.string ⟨word.toArray⟩] 9)).cell? ⟨g, L.length, none⟩ = some (.slice ao2 cur.length c2) := cellAlloc2 e0
                    go_simp
                    refine hK.out _ _ (hHeld) (fun hHeld => ?_)
                    clear hK K
                    try simp only [Act.put, List.getElem_toArray, List.getElem_cons_succ, List.getElem_cons_zero, List.setIfInBounds_toArray, List.set_cons_zero, List.set_cons_succ]
                    refine wpAnyH_ready (rs := [11]) (by kernel_rfl) (by simp) ?_
                    refine AllReadyH.cons rfl (fun K hK => ?_) AllReadyH.nil
                    refine step_append_own rfl (.tmp 104) (.tmp 107) 49 rfl H 9 i2 _ 1 16 Try.underlying49 hk hx0 hx1 hx2 rfl (by omega) _ cur.length (cur.map strV) rfl HW.out.row HW.out.hi (some ⟨wr.heap.size, 0, none⟩) 1 1 [strV word] rfl rfl (fun h => by cases h) HW.out.news HW.out.one (by unfold maxLen; omega) (by omega) ?_
                    intro u1 w6 own1 grow1
                    obtain ⟨⟨k1, k2⟩, k3, ⟨ao6, c6, rfl⟩, k5, k7, k6⟩ := HW.out.next u1 w6 own1 grow1
                    unfold ReadsAs at k5 k7
                    have HK := Lib.hid k6
                    clear k6 own1 grow1
                    refine hK.out _ _ (⟨k3, k5⟩) (fun hHeld => ?_)
                    clear hK K
                    try simp only [Act.put, List.getElem_toArray, List.getElem_cons_succ, List.getElem_cons_zero, List.setIfInBounds_toArray, List.set_cons_zero, List.set_cons_succ]
                    refine wpAnyH_take (i := 12) (v := ?_) rfl (by kernel_rfl) (by kernel_rfl) (by kernel_rfl) (fun _ _ _ h => h) (Or.inl ⟨by rfl, ?_⟩) (by assumption) ?_
                    rotate_left
                    · intro wS hSw
                      obtain ⟨hSw1, hSw2⟩ := hSw
                      go_simp <;> with_reducible rfl
                    try simp only [Act.put, List.getElem_toArray, List.getElem_cons_succ, List.getElem_cons_zero, List.setIfInBounds_toArray, List.set_cons_zero, List.set_cons_succ]
                    refine wpAnyH_ready (rs := [13]) (by kernel_rfl) (by simp) ?_
                    refine AllReadyH.cons rfl (fun K hK => ?_) AllReadyH.nil
                    go_simp
                    refine hK.out _ _ ⟨HK.out.1.cells.2.1, k7⟩ (fun hHeld => ?_)
                    clear hK K hHeld
                    try simp only [Act.put, List.getElem_toArray, List.getElem_cons_succ, List.getElem_cons_zero, List.setIfInBounds_toArray, List.set_cons_zero, List.set_cons_succ]
                    refine wpAnyH_done (by kernel_rfl) ?_ _
                    refine NoPanic.normal ?_
                    clear HW hcv c0 f0 c1 f1 e0 e1 cv1 k1 k2 k3 k5 k7
                    generalize (w6.setCell ⟨g, L.length, none⟩ (.slice ao6 (cur.length + 1) c6)) = W7 at *
                    generalize Value.slice ao6 (cur.length + 1) c6 = ucur1 at *
                    have q3 : W7.cell? (a.add i) = some (.int .u8 (c.toNat : Int)) := HC.out _ HK.out.1.below
                    obtain ⟨⟨c0, f0⟩, c1, f1⟩ := HK.out.1.cells
                    unfold strV at c0
                    have HP := Lib.hid (push_step (i := i) HK.out.1 HK.out.2 hR2.out hL1)
                    have hnn := nil_news W7 49
                    obtain ⟨i1, hj, hy0, hy1, hy2⟩ := info_parts info_strs
                    clear HK hR2 HC
                    go_wp2_with (at_builtin; refine wpList_append_own _ rfl _ _ 22 rfl w.heap.size 49 i1 (.slice none 0 0) 1 24 Try.underlying22 hj hy0 hy1 hy2 rfl (by decide) _ (L.length + 1) (us ++ [ucur1]) rfl HP.out.row ⟨W7.heap.size, 0, none⟩ 1 1 [.slice none 0 0] rfl rfl hnn (by intro u hu; simp at hu; rw [hu]; rfl) (by unfold maxLen; omega) (by omega) HP.out.hi ?_)
                    intro v1 w3 hown3 hg3 _
                    obtain ⟨⟨g4, cap4, rfl⟩, ⟨k1, k2⟩, ⟨k3, k4⟩, h4⟩ := HP.out.next v1 w3 hown3 hg3
                    unfold strV at k1
                    have HS4 := Lib.hid h4
                    clear HP hown3 hg3 h4 hnn
                    go_wp2_with fail
                    go_roundw
                    case rel => exact ⟨_, (L.length : Int) + 1, i + 1, [], rfl, rfl, by go_num, by omega, by omega, by omega, .inl ⟨by omega, HS4⟩⟩
                    case measure => simp [intOf]; omega
                · have d6 : decide ((0 : Int) < (word.length : Int)) = false := decide_eq_false (by omega)
                  by_cases hc0 : 0 < cur.length
                  · have d7 : decide ((0 : Int) < (cur.length : Int)) = true := decide_eq_true (by omega)
                    have hcl : closeE cur word = cur ++ [word] := if_neg (fun h => by have h1 : word.length = 0 := congrArg List.length h.1; have h2 : cur.length = 0 := congrArg List.length h.2; omega)
                    have hR2 := Lib.hid (show rdT tag (L ++ [cur ++ [word]]) [] [] (toks (b.drop (i + 1))) = R by rw [← hcl, ← hR, e]; rfl)
                    have HC := Lib.hid hcell
                    have HW := Lib.hid (comp_step word (by omega) hA hE)
                    clear HS HB hR hcell hc htk hsep hpair h63 hne63 e e2
                    unfold strV at hcv c0
                    obtain ⟨e0, e1⟩ := e0
                    obtain ⟨i2, hk, hx0, hx1, hx2⟩ := info_parts info_str
                    have i3 : (0 : Int) ≤ (L.length : Int) := by omega
                    have i4 : (L.length : Int) < ((L.length + 1 : Nat) : Int) := by omega
                    have i5 : (L.length : Int) < (L.length : Int) + 1 := by omega
                    clear hA hE
                    go_wp2_with fail
                    have cv1 := HW.out.cv1
                    unfold ReadsAs at cv1
                    refine wp_region_noPanic ?_
                    refine wp_region_held_drew (S := fun w' => w'.cell? ⟨w.heap.size + 2, 1, none⟩ = some (.slice (some ⟨g, 0, none⟩) (L.length + 1) capE) ∧ (convert 32 9 (.slice ao3 word.length c3)).run Try.prog w' = .ok (.string ⟨word.toArray⟩) w') (by kernel_rfl) ⟨c1, cv1⟩ (fun hHeld => ?_)
                    refine wpAnyH_take (i := 0) (v := ?_) rfl (by kernel_rfl) (by kernel_rfl) (by kernel_rfl) (fun _ _ _ h => h) (Or.inl ⟨by rfl, ?_⟩) (by assumption) ?_
                    rotate_left
                    · intro wS hSw
                      obtain ⟨hSw1, hSw2⟩ := hSw
                      go_simp <;> with_reducible rfl
                    try simp only [Act.put, List.getElem_toArray, List.getElem_cons_zero, List.setIfInBounds_toArray, List.set_cons_zero, List.set_cons_succ]
                    refine wpAnyH_take (i := 1) (v := ?_) rfl (by kernel_rfl) (by kernel_rfl) (by kernel_rfl) (fun _ _ _ h => h) (Or.inl ⟨by rfl, ?_⟩) (by assumption) ?_
                    rotate_left
                    · intro wS hSw
                      obtain ⟨hSw1, hSw2⟩ := hSw
                      go_simp <;> with_reducible rfl
                    try simp only [Act.put, List.getElem_toArray, List.getElem_cons_succ, List.getElem_cons_zero, List.setIfInBounds_toArray, List.set_cons_zero, List.set_cons_succ]
                    refine wpAnyH_take (i := 2) (v := ?_) rfl (by kernel_rfl) (by kernel_rfl) (by kernel_rfl) (fun _ _ _ h => h) (Or.inl ⟨by rfl, ?_⟩) (by assumption) ?_
                    rotate_left
                    · intro wS hSw
                      obtain ⟨hSw1, hSw2⟩ := hSw
                      go_simp <;> with_reducible rfl
                    try simp only [Act.put, List.getElem_toArray, List.getElem_cons_succ, List.getElem_cons_zero, List.setIfInBounds_toArray, List.set_cons_zero, List.set_cons_succ]
                    refine wpAnyH_take (i := 3) (v := ?_) rfl (by kernel_rfl) (by kernel_rfl) (by kernel_rfl) (fun _ _ _ h => h) (Or.inl ⟨by rfl, ?_⟩) (by assumption) ?_
                    rotate_left
                    · intro wS hSw
                      obtain ⟨hSw1, hSw2⟩ := hSw
                      go_simp <;> with_reducible rfl
                    try simp only [Act.put, List.getElem_toArray, List.getElem_cons_succ, List.getElem_cons_zero, List.setIfInBounds_toArray, List.set_cons_zero, List.set_cons_succ]
                    refine wpAnyH_take (i := 4) (v := ?_) rfl (by kernel_rfl) (by kernel_rfl) (by kernel_rfl) (fun _ _ _ h => h) (Or.inl ⟨by rfl, ?_⟩) (by assumption) ?_
                    rotate_left
                    · intro wS hSw
                      obtain ⟨hSw1, hSw2⟩ := hSw
                      go_simp <;> with_reducible rfl
                    try simp only [Act.put, List.getElem_toArray, List.getElem_cons_succ, List.getElem_cons_zero, List.setIfInBounds_toArray, List.set_cons_zero, List.set_cons_succ]
                    refine wpAnyH_take (i := 5) (v := ?_) rfl (by kernel_rfl) (by kernel_rfl) (by kernel_rfl) (fun _ _ _ h => h) (Or.inl ⟨by rfl, ?_⟩) (by assumption) ?_
                    rotate_left
                    · intro wS hSw
                      obtain ⟨hSw1, hSw2⟩ := hSw
                      go_simp <;> with_reducible rfl
                    try simp only [Act.put, List.getElem_toArray, List.getElem_cons_succ, List.getElem_cons_zero, List.setIfInBounds_toArray, List.set_cons_zero, List.set_cons_succ]
                    refine wpAnyH_take (i := 6) (v := ?_) rfl (by kernel_rfl) (by kernel_rfl) (by kernel_rfl) (fun _ _ _ h => h) (Or.inl ⟨by rfl, ?_⟩) (by assumption) ?_
                    rotate_left
                    · intro wS hSw
                      obtain ⟨hSw1, hSw2⟩ := hSw
                      go_simp <;> with_reducible rfl
                    try simp only [Act.put, List.getElem_toArray, List.getElem_cons_succ, List.getElem_cons_zero, List.setIfInBounds_toArray, List.set_cons_zero, List.set_cons_succ]
                    refine wpAnyH_take (i := 8) (v := ?_) rfl (by kernel_rfl) (by kernel_rfl) (by kernel_rfl) (fun _ _ _ h => h) (Or.inl ⟨by rfl, ?_⟩) (by assumption) ?_
                    rotate_left
                    · intro wS hSw
                      obtain ⟨hSw1, hSw2⟩ := hSw
                      go_simp <;> with_reducible rfl
                    try simp only [Act.put, List.getElem_toArray, List.getElem_cons_succ, List.getElem_cons_zero, List.setIfInBounds_toArray, List.set_cons_zero, List.set_cons_succ]
                    refine wpAnyH_take (i := 9) (v := ?_) rfl (by kernel_rfl) (by kernel_rfl) (by kernel_rfl) (fun _ _ _ h => h) (Or.inl ⟨by rfl, ?_⟩) (by assumption) ?_
                    rotate_left
                    · intro wS hSw
                      obtain ⟨hSw1, hSw2⟩ := hSw
                      go_simp <;> with_reducible rfl
                    try simp only [Act.put, List.getElem_toArray, List.getElem_cons_succ, List.getElem_cons_zero, List.setIfInBounds_toArray, List.set_cons_zero, List.set_cons_succ]
                    refine wpAnyH_ready (rs := [7, 10]) (by kernel_rfl) (by simp) ?_
                    refine AllReadyH.cons rfl (fun K hK => ?_) (AllReadyH.cons rfl (fun K hK => ?_) AllReadyH.nil)
                    · go_simp
                      refine hK.out _ _ (hHeld) (fun hHeld => ?_)
                      clear hK K
                      try simp only [Act.put, List.getElem_toArray, List.getElem_cons_succ, List.getElem_cons_zero, List.setIfInBounds_toArray, List.set_cons_zero, List.set_cons_succ]
                      refine wpAnyH_ready (rs := [10]) (by kernel_rfl) (by simp) ?_
                      refine AllReadyH.cons rfl (fun K hK => ?_) AllReadyH.nil
                      go_simp
                      refine hK.out _ _ (⟨cellAlloc2 c1, HW.out.cv2⟩) (fun hHeld => ?_)
                      clear hK K
                      try simp only [Act.put, List.getElem_toArray, List.getElem_cons_succ, List.getElem_cons_zero, List.setIfInBounds_toArray, List.set_cons_zero, List.set_cons_succ]
                      refine wpAnyH_ready (rs := [11]) (by kernel_rfl) (by simp) ?_
                      refine AllReadyH.cons rfl (fun K hK => ?_) AllReadyH.nil
                      refine step_append_own rfl (.tmp 104) (.tmp 107) 49 rfl H 9 i2 _ 1 16 Try.underlying49 hk hx0 hx1 hx2 rfl (by omega) _ cur.length (cur.map strV) rfl HW.out.row HW.out.hi (some ⟨wr.heap.size, 0, none⟩) 1 1 [strV word] rfl rfl (fun h => by cases h) HW.out.news HW.out.one (by unfold maxLen; omega) (by omega) ?_
                      intro u1 w6 own1 grow1
                      obtain ⟨⟨k1, k2⟩, k3, ⟨ao6, c6, rfl⟩, k5, k7, k6⟩ := HW.out.next u1 w6 own1 grow1
                      unfold ReadsAs at k5 k7
                      have HK := Lib.hid k6
                      clear k6 own1 grow1
                      refine hK.out _ _ (⟨k3, k5⟩) (fun hHeld => ?_)
                      clear hK K
                      try simp only [Act.put, List.getElem_toArray, List.getElem_cons_succ, List.getElem_cons_zero, List.setIfInBounds_toArray, List.set_cons_zero, List.set_cons_succ]
                      refine wpAnyH_take (i := 12) (v := ?_) rfl (by kernel_rfl) (by kernel_rfl) (by kernel_rfl) (fun _ _ _ h => h) (Or.inl ⟨by rfl, ?_⟩) (by assumption) ?_
                      rotate_left
                      · intro wS hSw
                        obtain ⟨hSw1, hSw2⟩ := hSw
                        go_simp <;> with_reducible rfl
                      try simp only [Act.put, List.getElem_toArray, List.getElem_cons_succ, List.getElem_cons_zero, List.setIfInBounds_toArray, List.set_cons_zero, List.set_cons_succ]
                      refine wpAnyH_ready (rs := [13]) (by kernel_rfl) (by simp) ?_
                      refine AllReadyH.cons rfl (fun K hK => ?_) AllReadyH.nil
                      go_simp
                      refine hK.out _ _ ⟨HK.out.1.cells.2.1, k7⟩ (fun hHeld => ?_)
                      clear hK K hHeld
                      try simp only [Act.put, List.getElem_toArray, List.getElem_cons_succ, List.getElem_cons_zero, List.setIfInBounds_toArray, List.set_cons_zero, List.set_cons_succ]
                      refine wpAnyH_done (by kernel_rfl) ?_ _
                      refine NoPanic.normal ?_
                      clear HW hcv c0 f0 c1 f1 e0 e1 cv1 k1 k2 k3 k5 k7
                      generalize (w6.setCell ⟨g, L.length, none⟩ (.slice ao6 (cur.length + 1) c6)) = W7 at *
                      generalize Value.slice ao6 (cur.length + 1) c6 = ucur1 at *
                      have q3 : W7.cell? (a.add i) = some (.int .u8 (c.toNat : Int)) := HC.out _ HK.out.1.below
                      obtain ⟨⟨c0, f0⟩, c1, f1⟩ := HK.out.1.cells
                      unfold strV at c0
                      have HP := Lib.hid (push_step (i := i) HK.out.1 HK.out.2 hR2.out hL1)
                      have hnn := nil_news W7 49
                      obtain ⟨i1, hj, hy0, hy1, hy2⟩ := info_parts info_strs
                      clear HK hR2 HC
                      go_wp2_with (at_builtin; refine wpList_append_own _ rfl _ _ 22 rfl w.heap.size 49 i1 (.slice none 0 0) 1 24 Try.underlying22 hj hy0 hy1 hy2 rfl (by decide) _ (L.length + 1) (us ++ [ucur1]) rfl HP.out.row ⟨W7.heap.size, 0, none⟩ 1 1 [.slice none 0 0] rfl rfl hnn (by intro u hu; simp at hu; rw [hu]; rfl) (by unfold maxLen; omega) (by omega) HP.out.hi ?_)
                      intro v1 w3 hown3 hg3 _
                      obtain ⟨⟨g4, cap4, rfl⟩, ⟨k1, k2⟩, ⟨k3, k4⟩, h4⟩ := HP.out.next v1 w3 hown3 hg3
                      unfold strV at k1
                      have HS4 := Lib.hid h4
                      clear HP hown3 hg3 h4 hnn
                      go_wp2_with fail
                      go_roundw
                      case rel => exact ⟨_, (L.length : Int) + 1, i + 1, [], rfl, rfl, by go_num, by omega, by omega, by omega, .inl ⟨by omega, HS4⟩⟩
                      case measure => simp [intOf]; omega
                    · go_simp
                      refine hK.out _ _ (⟨cellAlloc2 c1, HW.out.cv2⟩) (fun hHeld => ?_)
                      clear hK K
                      try simp only [Act.put, List.getElem_toArray, List.getElem_cons_succ, List.getElem_cons_zero, List.setIfInBounds_toArray, List.set_cons_zero, List.set_cons_succ]
                      refine wpAnyH_ready (rs := [7]) (by kernel_rfl) (by simp) ?_
                      refine AllReadyH.cons rfl (fun K hK => ?_) AllReadyH.nil
                      have e0a : (wr.alloc (.cells #[.string ⟨word.toArray⟩] 9)).cell? ⟨g, L.length, none⟩ = some (.slice ao2 cur.length c2) := cellAlloc2 e0
                      go_simp
                      refine hK.out _ _ (hHeld) (fun hHeld => ?_)
                      clear hK K
                      try simp only [Act.put, List.getElem_toArray, List.getElem_cons_succ, List.getElem_cons_zero, List.setIfInBounds_toArray, List.set_cons_zero, List.set_cons_succ]
                      refine wpAnyH_ready (rs := [11]) (by kernel_rfl) (by simp) ?_
                      refine AllReadyH.cons rfl (fun K hK => ?_) AllReadyH.nil
                      refine step_append_own rfl (.tmp 104) (.tmp 107) 49 rfl H 9 i2 _ 1 16 Try.underlying49 hk hx0 hx1 hx2 rfl (by omega) _ cur.length (cur.map strV) rfl HW.out.row HW.out.hi (some ⟨wr.heap.size, 0, none⟩) 1 1 [strV word] rfl rfl (fun h => by cases h) HW.out.news HW.out.one (by unfold maxLen; omega) (by omega) ?_
                      intro u1 w6 own1 grow1
                      obtain ⟨⟨k1, k2⟩, k3, ⟨ao6, c6, rfl⟩, k5, k7, k6⟩ := HW.out.next u1 w6 own1 grow1
                      unfold ReadsAs at k5 k7
                      have HK := Lib.hid k6
                      clear k6 own1 grow1
                      refine hK.out _ _ (⟨k3, k5⟩) (fun hHeld => ?_)
                      clear hK K
                      try simp only [Act.put, List.getElem_toArray, List.getElem_cons_succ, List.getElem_cons_zero, List.setIfInBounds_toArray, List.set_cons_zero, List.set_cons_succ]
                      refine wpAnyH_take (i := 12) (v := ?_) rfl (by kernel_rfl) (by kernel_rfl) (by kernel_rfl) (fun _ _ _ h => h) (Or.inl ⟨by rfl, ?_⟩) (by assumption) ?_
                      rotate_left
                      · intro wS hSw
                        obtain ⟨hSw1, hSw2⟩ := hSw
                        go_simp <;> with_reducible rfl
                      try simp only [Act.put, List.getElem_toArray, List.getElem_cons_succ, List.getElem_cons_zero, List.setIfInBounds_toArray, List.set_cons_zero, List.set_cons_succ]
                      refine wpAnyH_ready (rs := [13]) (by kernel_rfl) (by simp) ?_
                      refine AllReadyH.cons rfl (fun K hK => ?_) AllReadyH.nil
                      go_simp
                      refine hK.out _ _ ⟨HK.out.1.cells.2.1, k7⟩ (fun hHeld => ?_)
                      clear hK K hHeld
                      try simp only [Act.put, List.getElem_toArray, List.getElem_cons_succ, List.getElem_cons_zero, List.setIfInBounds_toArray, List.set_cons_zero, List.set_cons_succ]
                      refine wpAnyH_done (by kernel_rfl) ?_ _
                      refine NoPanic.normal ?_
                      clear HW hcv c0 f0 c1 f1 e0 e1 cv1 k1 k2 k3 k5 k7
                      generalize (w6.setCell ⟨g, L.length, none⟩ (.slice ao6 (cur.length + 1) c6)) = W7 at *
                      generalize Value.slice ao6 (cur.length + 1) c6 = ucur1 at *
                      have q3 : W7.cell? (a.add i) = some (.int .u8 (c.toNat : Int)) := HC.out _ HK.out.1.below
                      obtain ⟨⟨c0, f0⟩, c1, f1⟩ := HK.out.1.cells
                      unfold strV at c0
                      have HP := Lib.hid (push_step (i := i) HK.out.1 HK.out.2 hR2.out hL1)
                      have hnn := nil_news W7 49
                      obtain ⟨i1, hj, hy0, hy1, hy2⟩ := info_parts info_strs
                      clear HK hR2 HC
                      go_wp2_with (at_builtin; refine wpList_append_own _ rfl _ _ 22 rfl w.heap.size 49 i1 (.slice none 0 0) 1 24 Try.underlying22 hj hy0 hy1 hy2 rfl (by decide) _ (L.length + 1) (us ++ [ucur1]) rfl HP.out.row ⟨W7.heap.size, 0, none⟩ 1 1 [.slice none 0 0] rfl rfl hnn (by intro u hu; simp at hu; rw [hu]; rfl) (by unfold maxLen; omega) (by omega) HP.out.hi ?_)
                      intro v1 w3 hown3 hg3 _
                      obtain ⟨⟨g4, cap4, rfl⟩, ⟨k1, k2⟩, ⟨k3, k4⟩, h4⟩ := HP.out.next v1 w3 hown3 hg3
                      unfold strV at k1
                      have HS4 := Lib.hid h4
                      clear HP hown3 hg3 h4 hnn
                      go_wp2_with fail
                      go_roundw
                      case rel => exact ⟨_, (L.length : Int) + 1, i + 1, [], rfl, rfl, by go_num, by omega, by omega, by omega, .inl ⟨by omega, HS4⟩⟩
                      case measure => simp [intOf]; omega
                  · have d7 : decide ((0 : Int) < (cur.length : Int)) = false := decide_eq_false (by omega)
                    have hcl : closeE cur word = cur := by have h1 : word = [] := List.length_eq_zero_iff.1 (by omega); have h2 : cur = [] := List.length_eq_zero_iff.1 (by omega); rw [h1, h2]; rfl
                    have hR2 := Lib.hid (show rdT tag (L ++ [cur]) [] [] (toks (b.drop (i + 1))) = R by rw [← hcl, ← hR, e]; rfl)
                    have HC := Lib.hid hcell
                    have HK := Lib.hid (And.intro hA.empty hE)
                    clear HS HB hR hcell hc htk hsep hpair h63 hne63 e e2
                    unfold strV at hcv c0
                    obtain ⟨e0, e1⟩ := e0
                    have i3 : (0 : Int) ≤ (L.length : Int) := by omega
                    have i4 : (L.length : Int) < ((L.length + 1 : Nat) : Int) := by omega
                    have i5 : (L.length : Int) < (L.length : Int) + 1 := by omega
                    clear hA hE
                    have HP := Lib.hid (push_step (i := i) HK.out.1 HK.out.2 hR2.out hL1)
                    have hnn := nil_news wr 49
                    obtain ⟨i1, hj, hy0, hy1, hy2⟩ := info_parts info_strs
                    clear HK hR2 HC
                    go_wp2_with (at_builtin; refine wpList_append_own _ rfl _ _ 22 rfl w.heap.size 49 i1 (.slice none 0 0) 1 24 Try.underlying22 hj hy0 hy1 hy2 rfl (by decide) _ (L.length + 1) (us ++ [Value.slice ao2 cur.length c2]) rfl HP.out.row ⟨wr.heap.size, 0, none⟩ 1 1 [.slice none 0 0] rfl rfl hnn (by intro u hu; simp at hu; rw [hu]; rfl) (by unfold maxLen; omega) (by omega) HP.out.hi ?_)
                    intro v1 w3 hown3 hg3 _
                    obtain ⟨⟨g4, cap4, rfl⟩, ⟨k1, k2⟩, ⟨k3, k4⟩, h4⟩ := HP.out.next v1 w3 hown3 hg3
                    unfold strV at k1
                    have HS4 := Lib.hid h4
                    clear HP hown3 hg3 h4 hnn
                    go_wp2_with fail
                    go_roundw
                    case rel => exact ⟨_, (L.length : Int) + 1, i + 1, [], rfl, rfl, by go_num, by omega, by omega, by omega, .inl ⟨by omega, HS4⟩⟩
                    case measure => simp [intOf]; omega
              · have e2 : c = 58 := hsep.resolve_left e
                rw [beq_eq_false_iff_ne.2 e] at e43
                rw [beq_iff_eq.2 e2] at e58
                have g43 : ((c.toNat : Int) != 43) = true := by show (!((c.toNat : Int) == 43)) = true; rw [e43]; rfl
                have g58 : ((c.toNat : Int) != 58) = false := by show (!((c.toNat : Int) == 58)) = false; rw [e58]; rfl
                have d5 : decide ((L.length : Int) < 0) = false := decide_eq_false (by omega)
                by_cases hw0 : 0 < word.length
                · have d6 : decide ((0 : Int) < (word.length : Int)) = true := decide_eq_true (by omega)
                  have hR2 := Lib.hid (show rdT tag L (cur ++ [word]) [] (toks (b.drop (i + 1))) = R by rw [← hR, e2]; rfl)
                  have HC := Lib.hid hcell
                  have HW := Lib.hid (comp_step word (by omega) hA hE)
                  clear HS HB hR hcell hc htk hsep hpair h63 hne63 e e2
                  unfold strV at hcv c0
                  obtain ⟨e0, e1⟩ := e0
                  obtain ⟨i2, hk, hx0, hx1, hx2⟩ := info_parts info_str
                  have i3 : (0 : Int) ≤ (L.length : Int) := by omega
                  have i4 : (L.length : Int) < ((L.length + 1 : Nat) : Int) := by omega
                  have i5 : (L.length : Int) < (L.length : Int) + 1 := by omega
                  clear hA hE
                  go_wp2_with fail
                  have cv1 := HW.out.cv1
                  unfold ReadsAs at cv1
                  refine wp_region_noPanic ?_
                  refine wp_region_held_drew (S := fun w' => w'.cell? ⟨w.heap.size + 2, 1, none⟩ = some (.slice (some ⟨g, 0, none⟩) (L.length + 1) capE) ∧ (convert 32 9 (.slice ao3 word.length c3)).run Try.prog w' = .ok (.string ⟨word.toArray⟩) w') (by kernel_rfl) ⟨c1, cv1⟩ (fun hHeld => ?_)
                  refine wpAnyH_take (i := 0) (v := ?_) rfl (by kernel_rfl) (by kernel_rfl) (by kernel_rfl) (fun _ _ _ h => h) (Or.inl ⟨by rfl, ?_⟩) (by assumption) ?_
                  rotate_left
                  · intro wS hSw
                    obtain ⟨hSw1, hSw2⟩ := hSw
                    go_simp <;> with_reducible rfl
                  try simp only [Act.put, List.getElem_toArray, List.getElem_cons_zero, List.setIfInBounds_toArray, List.set_cons_zero, List.set_cons_succ]
                  refine wpAnyH_take (i := 1) (v := ?_) rfl (by kernel_rfl) (by kernel_rfl) (by kernel_rfl) (fun _ _ _ h => h) (Or.inl ⟨by rfl, ?_⟩) (by assumption) ?_
                  rotate_left
                  · intro wS hSw
                    obtain ⟨hSw1, hSw2⟩ := hSw
                    go_simp <;> with_reducible rfl
                  try simp only [Act.put, List.getElem_toArray, List.getElem_cons_succ, List.getElem_cons_zero, List.setIfInBounds_toArray, List.set_cons_zero, List.set_cons_succ]
                  refine wpAnyH_take (i := 2) (v := ?_) rfl (by kernel_rfl) (by kernel_rfl) (by kernel_rfl) (fun _ _ _ h => h) (Or.inl ⟨by rfl, ?_⟩) (by assumption) ?_
                  rotate_left
                  · intro wS hSw
                    obtain ⟨hSw1, hSw2⟩ := hSw
                    go_simp <;> with_reducible rfl
                  try simp only [Act.put, List.getElem_toArray, List.getElem_cons_succ, List.getElem_cons_zero, List.setIfInBounds_toArray, List.set_cons_zero, List.set_cons_succ]
                  refine wpAnyH_take (i := 3) (v := ?_) rfl (by kernel_rfl) (by kernel_rfl) (by kernel_rfl) (fun _ _ _ h => h) (Or.inl ⟨by rfl, ?_⟩) (by assumption) ?_
                  rotate_left
                  · intro wS hSw
                    obtain ⟨hSw1, hSw2⟩ := hSw
                    go_simp <;> with_reducible rfl
                  try simp only [Act.put, List.getElem_toArray, List.getElem_cons_succ, List.getElem_cons_zero, List.setIfInBounds_toArray, List.set_cons_zero, List.set_cons_succ]
                  refine wpAnyH_take (i := 4) (v := ?_) rfl (by kernel_rfl) (by kernel_rfl) (by kernel_rfl) (fun _ _ _ h => h) (Or.inl ⟨by rfl, ?_⟩) (by assumption) ?_
                  rotate_left
                  · intro wS hSw
                    obtain ⟨hSw1, hSw2⟩ := hSw
                    go_simp <;> with_reducible rfl
                  try simp only [Act.put, List.getElem_toArray, List.getElem_cons_succ, List.getElem_cons_zero, List.setIfInBounds_toArray, List.set_cons_zero, List.set_cons_succ]
                  refine wpAnyH_take (i := 5) (v := ?_) rfl (by kernel_rfl) (by kernel_rfl) (by kernel_rfl) (fun _ _ _ h => h) (Or.inl ⟨by rfl, ?_⟩) (by assumption) ?_
                  rotate_left
                  · intro wS hSw
                    obtain ⟨hSw1, hSw2⟩ := hSw
                    go_simp <;> with_reducible rfl
                  try simp only [Act.put, List.getElem_toArray, List.getElem_cons_succ, List.getElem_cons_zero, List.setIfInBounds_toArray, List.set_cons_zero, List.set_cons_succ]
                  refine wpAnyH_take (i := 6) (v := ?_) rfl (by kernel_rfl) (by kernel_rfl) (by kernel_rfl) (fun _ _ _ h => h) (Or.inl ⟨by rfl, ?_⟩) (by assumption) ?_
                  rotate_left
                  · intro wS hSw
                    obtain ⟨hSw1, hSw2⟩ := hSw
                    go_simp <;> with_reducible rfl
                  try simp only [Act.put, List.getElem_toArray, List.getElem_cons_succ, List.getElem_cons_zero, List.setIfInBounds_toArray, List.set_cons_zero, List.set_cons_succ]
                  refine wpAnyH_take (i := 8) (v := ?_) rfl (by kernel_rfl) (by kernel_rfl) (by kernel_rfl) (fun _ _ _ h => h) (Or.inl ⟨by rfl, ?_⟩) (by assumption) ?_
                  rotate_left
                  · intro wS hSw
                    obtain ⟨hSw1, hSw2⟩ := hSw
                    go_simp <;> with_reducible rfl
                  try simp only [Act.put, List.getElem_toArray, List.getElem_cons_succ, List.getElem_cons_zero, List.setIfInBounds_toArray, List.set_cons_zero, List.set_cons_succ]
                  refine wpAnyH_take (i := 9) (v := ?_) rfl (by kernel_rfl) (by kernel_rfl) (by kernel_rfl) (fun _ _ _ h => h) (Or.inl ⟨by rfl, ?_⟩) (by assumption) ?_
                  rotate_left
                  · intro wS hSw
                    obtain ⟨hSw1, hSw2⟩ := hSw
                    go_simp <;> with_reducible rfl
                  try simp only [Act.put, List.getElem_toArray, List.getElem_cons_succ, List.getElem_cons_zero, List.setIfInBounds_toArray, List.set_cons_zero, List.set_cons_succ]
                  refine wpAnyH_ready (rs := [7, 10]) (by kernel_rfl) (by simp) ?_
                  refine AllReadyH.cons rfl (fun K hK => ?_) (AllReadyH.cons rfl (fun K hK => ?_) AllReadyH.nil)
                  · go_simp
                    refine hK.out _ _ (hHeld) (fun hHeld => ?_)
                    clear hK K
                    try simp only [Act.put, List.getElem_toArray, List.getElem_cons_succ, List.getElem_cons_zero, List.setIfInBounds_toArray, List.set_cons_zero, List.set_cons_succ]
                    refine wpAnyH_ready (rs := [10]) (by kernel_rfl) (by simp) ?_
                    refine AllReadyH.cons rfl (fun K hK => ?_) AllReadyH.nil
                    go_simp
                    refine hK.out _ _ (⟨cellAlloc2 c1, HW.out.cv2⟩) (fun hHeld => ?_)
                    clear hK K
                    try simp only [Act.put, List.getElem_toArray, List.getElem_cons_succ, List.getElem_cons_zero, List.setIfInBounds_toArray, List.set_cons_zero, List.set_cons_succ]
                    refine wpAnyH_ready (rs := [11]) (by kernel_rfl) (by simp) ?_
                    refine AllReadyH.cons rfl (fun K hK => ?_) AllReadyH.nil
                    refine step_append_own rfl (.tmp 104) (.tmp 107) 49 rfl H 9 i2 _ 1 16 Try.underlying49 hk hx0 hx1 hx2 rfl (by omega) _ cur.length (cur.map strV) rfl HW.out.row HW.out.hi (some ⟨wr.heap.size, 0, none⟩) 1 1 [strV word] rfl rfl (fun h => by cases h) HW.out.news HW.out.one (by unfold maxLen; omega) (by omega) ?_
                    intro u1 w6 own1 grow1
                    obtain ⟨⟨k1, k2⟩, k3, ⟨ao6, c6, rfl⟩, k5, k7, k6⟩ := HW.out.next u1 w6 own1 grow1
                    unfold ReadsAs at k5 k7
                    have HK := Lib.hid k6
                    clear k6 own1 grow1
                    refine hK.out _ _ (⟨k3, k5⟩) (fun hHeld => ?_)
                    clear hK K
                    try simp only [Act.put, List.getElem_toArray, List.getElem_cons_succ, List.getElem_cons_zero, List.setIfInBounds_toArray, List.set_cons_zero, List.set_cons_succ]
                    refine wpAnyH_take (i := 12) (v := ?_) rfl (by kernel_rfl) (by kernel_rfl) (by kernel_rfl) (fun _ _ _ h => h) (Or.inl ⟨by rfl, ?_⟩) (by assumption) ?_
                    rotate_left
                    · intro wS hSw
                      obtain ⟨hSw1, hSw2⟩ := hSw
                      go_simp <;> with_reducible rfl
                    try simp only [Act.put, List.getElem_toArray, List.getElem_cons_succ, List.getElem_cons_zero, List.setIfInBounds_toArray, List.set_cons_zero, List.set_cons_succ]
                    refine wpAnyH_ready (rs := [13]) (by kernel_rfl) (by simp) ?_
                    refine AllReadyH.cons rfl (fun K hK => ?_) AllReadyH.nil
                    go_simp
                    refine hK.out _ _ ⟨HK.out.1.cells.2.1, k7⟩ (fun hHeld => ?_)
                    clear hK K hHeld
                    try simp only [Act.put, List.getElem_toArray, List.getElem_cons_succ, List.getElem_cons_zero, List.setIfInBounds_toArray, List.set_cons_zero, List.set_cons_succ]
                    refine wpAnyH_done (by kernel_rfl) ?_ _
                    refine NoPanic.normal ?_
                    clear HW hcv c0 f0 c1 f1 e0 e1 cv1 k1 k2 k3 k5 k7
                    generalize (w6.setCell ⟨g, L.length, none⟩ (.slice ao6 (cur.length + 1) c6)) = W7 at *
                    generalize Value.slice ao6 (cur.length + 1) c6 = ucur1 at *
                    have q3 : W7.cell? (a.add i) = some (.int .u8 (c.toNat : Int)) := HC.out _ HK.out.1.below
                    obtain ⟨⟨c0, f0⟩, c1, f1⟩ := HK.out.1.cells
                    unfold strV at c0
                    have HS4 := Lib.hid (show RdSt w W7 b R (.slice none 0 0) (L.length) (i + 1) [] from ⟨Nat.zero_le _, .inr ⟨tag, L, cur ++ [word], H, _, us, _, rfl, by omega, by simp; omega, hR2.out, HK.out.1, HK.out.2⟩⟩)
                    clear HK hR2 HC
                    go_wp2_with fail
                    go_roundw
                    case rel => exact ⟨_, L.length, i + 1, [], rfl, rfl, by go_num, by omega, by omega, by omega, .inl ⟨by omega, HS4⟩⟩
                    case measure => simp [intOf]; omega
                  · go_simp
                    refine hK.out _ _ (⟨cellAlloc2 c1, HW.out.cv2⟩) (fun hHeld => ?_)
                    clear hK K
                    try simp only [Act.put, List.getElem_toArray, List.getElem_cons_succ, List.getElem_cons_zero, List.setIfInBounds_toArray, List.set_cons_zero, List.set_cons_succ]
                    refine wpAnyH_ready (rs := [7]) (by kernel_rfl) (by simp) ?_
                    refine AllReadyH.cons rfl (fun K hK => ?_) AllReadyH.nil
                    have e0a : (wr.alloc (.cells #[.string ⟨word.toArray⟩] 9)).cell? ⟨g, L.length, none⟩ = some (.slice ao2 cur.length c2) := cellAlloc2 e0
                    go_simp
                    refine hK.out _ _ (hHeld) (fun hHeld => ?_)
                    clear hK K
                    try simp only [Act.put, List.getElem_toArray, List.getElem_cons_succ, List.getElem_cons_zero, List.setIfInBounds_toArray, List.set_cons_zero, List.set_cons_succ]
                    refine wpAnyH_ready (rs := [11]) (by kernel_rfl) (by simp) ?_
                    refine AllReadyH.cons rfl (fun K hK => ?_) AllReadyH.nil
                    refine step_append_own rfl (.tmp 104) (.tmp 107) 49 rfl H 9 i2 _ 1 16 Try.underlying49 hk hx0 hx1 hx2 rfl (by omega) _ cur.length (cur.map strV) rfl HW.out.row HW.out.hi (some ⟨wr.heap.size, 0, none⟩) 1 1 [strV word] rfl rfl (fun h => by cases h) HW.out.news HW.out.one (by unfold maxLen; omega) (by omega) ?_
                    intro u1 w6 own1 grow1
                    obtain ⟨⟨k1, k2⟩, k3, ⟨ao6, c6, rfl⟩, k5, k7, k6⟩ := HW.out.next u1 w6 own1 grow1
                    unfold ReadsAs at k5 k7
                    have HK := Lib.hid k6
                    clear k6 own1 grow1
                    refine hK.out _ _ (⟨k3, k5⟩) (fun hHeld => ?_)
                    clear hK K
                    try simp only [Act.put, List.getElem_toArray, List.getElem_cons_succ, List.getElem_cons_zero, List.setIfInBounds_toArray, List.set_cons_zero, List.set_cons_succ]
                    refine wpAnyH_take (i := 12) (v := ?_) rfl (by kernel_rfl) (by kernel_rfl) (by kernel_rfl) (fun _ _ _ h => h) (Or.inl ⟨by rfl, ?_⟩) (by assumption) ?_
                    rotate_left
                    · intro wS hSw
                      obtain ⟨hSw1, hSw2⟩ := hSw
                      go_simp <;> with_reducible rfl
                    try simp only [Act.put, List.getElem_toArray, List.getElem_cons_succ, List.getElem_cons_zero, List.setIfInBounds_toArray, List.set_cons_zero, List.set_cons_succ]
                    refine wpAnyH_ready (rs := [13]) (by kernel_rfl) (by simp) ?_
                    refine AllReadyH.cons rfl (fun K hK => ?_) AllReadyH.nil
                    go_simp
                    refine hK.out _ _ ⟨HK.out.1.cells.2.1, k7⟩ (fun hHeld => ?_)
                    clear hK K hHeld
                    try simp only [Act.put, List.getElem_toArray, List.getElem_cons_succ, List.getElem_cons_zero, List.setIfInBounds_toArray, List.set_cons_zero, List.set_cons_succ]
                    refine wpAnyH_done (by kernel_rfl) ?_ _
                    refine NoPanic.normal ?_
                    clear HW hcv c0 f0 c1 f1 e0 e1 cv1 k1 k2 k3 k5 k7
                    generalize (w6.setCell ⟨g, L.length, none⟩ (.slice ao6 (cur.length + 1) c6)) = W7 at *
                    generalize Value.slice ao6 (cur.length + 1) c6 = ucur1 at *
                    have q3 : W7.cell? (a.add i) = some (.int .u8 (c.toNat : Int)) := HC.out _ HK.out.1.below
                    obtain ⟨⟨c0, f0⟩, c1, f1⟩ := HK.out.1.cells
                    unfold strV at c0
                    have HS4 := Lib.hid (show RdSt w W7 b R (.slice none 0 0) (L.length) (i + 1) [] from ⟨Nat.zero_le _, .inr ⟨tag, L, cur ++ [word], H, _, us, _, rfl, by omega, by simp; omega, hR2.out, HK.out.1, HK.out.2⟩⟩)
                    clear HK hR2 HC
                    go_wp2_with fail
                    go_roundw
                    case rel => exact ⟨_, L.length, i + 1, [], rfl, rfl, by go_num, by omega, by omega, by omega, .inl ⟨by omega, HS4⟩⟩
                    case measure => simp [intOf]; omega
                · have d6 : decide ((0 : Int) < (word.length : Int)) = false := decide_eq_false (by omega)
                  by_cases hc0 : 0 < cur.length
                  · have d7 : decide ((0 : Int) < (cur.length : Int)) = true := decide_eq_true (by omega)
                    have hR2 := Lib.hid (show rdT tag L (cur ++ [word]) [] (toks (b.drop (i + 1))) = R by rw [← hR, e2]; rfl)
                    have HC := Lib.hid hcell
                    have HW := Lib.hid (comp_step word (by omega) hA hE)
                    clear HS HB hR hcell hc htk hsep hpair h63 hne63 e e2
                    unfold strV at hcv c0
                    obtain ⟨e0, e1⟩ := e0
                    obtain ⟨i2, hk, hx0, hx1, hx2⟩ := info_parts info_str
                    have i3 : (0 : Int) ≤ (L.length : Int) := by omega
                    have i4 : (L.length : Int) < ((L.length + 1 : Nat) : Int) := by omega
                    have i5 : (L.length : Int) < (L.length : Int) + 1 := by omega
                    clear hA hE
                    go_wp2_with fail
                    have cv1 := HW.out.cv1
                    unfold ReadsAs at cv1
                    refine wp_region_noPanic ?_
                    refine wp_region_held_drew (S := fun w' => w'.cell? ⟨w.heap.size + 2, 1, none⟩ = some (.slice (some ⟨g, 0, none⟩) (L.length + 1) capE) ∧ (convert 32 9 (.slice ao3 word.length c3)).run Try.prog w' = .ok (.string ⟨word.toArray⟩) w') (by kernel_rfl) ⟨c1, cv1⟩ (fun hHeld => ?_)
                    refine wpAnyH_take (i := 0) (v := ?_) rfl (by kernel_rfl) (by kernel_rfl) (by kernel_rfl) (fun _ _ _ h => h) (Or.inl ⟨by rfl, ?_⟩) (by assumption) ?_
                    rotate_left
                    · intro wS hSw
                      obtain ⟨hSw1, hSw2⟩ := hSw
                      go_simp <;> with_reducible rfl
                    try simp only [Act.put, List.getElem_toArray, List.getElem_cons_zero, List.setIfInBounds_toArray, List.set_cons_zero, List.set_cons_succ]
                    refine wpAnyH_take (i := 1) (v := ?_) rfl (by kernel_rfl) (by kernel_rfl) (by kernel_rfl) (fun _ _ _ h => h) (Or.inl ⟨by rfl, ?_⟩) (by assumption) ?_
                    rotate_left
                    · intro wS hSw
                      obtain ⟨hSw1, hSw2⟩ := hSw
                      go_simp <;> with_reducible rfl
                    try simp only [Act.put, List.getElem_toArray, List.getElem_cons_succ, List.getElem_cons_zero, List.setIfInBounds_toArray, List.set_cons_zero, List.set_cons_succ]
                    refine wpAnyH_take (i := 2) (v := ?_) rfl (by kernel_rfl) (by kernel_rfl) (by kernel_rfl) (fun _ _ _ h => h) (Or.inl ⟨by rfl, ?_⟩) (by assumption) ?_
                    rotate_left
                    · intro wS hSw
                      obtain ⟨hSw1, hSw2⟩ := hSw
                      go_simp <;> with_reducible rfl
                    try simp only [Act.put, List.getElem_toArray, List.getElem_cons_succ, List.getElem_cons_zero, List.setIfInBounds_toArray, List.set_cons_zero, List.set_cons_succ]
                    refine wpAnyH_take (i := 3) (v := ?_) rfl (by kernel_rfl) (by kernel_rfl) (by kernel_rfl) (fun _ _ _ h => h) (Or.inl ⟨by rfl, ?_⟩) (by assumption) ?_
                    rotate_left
                    · intro wS hSw
                      obtain ⟨hSw1, hSw2⟩ := hSw
                      go_simp <;> with_reducible rfl
                    try simp only [Act.put, List.getElem_toArray, List.getElem_cons_succ, List.getElem_cons_zero, List.setIfInBounds_toArray, List.set_cons_zero, List.set_cons_succ]
                    refine wpAnyH_take (i := 4) (v := ?_) rfl (by kernel_rfl) (by kernel_rfl) (by kernel_rfl) (fun _ _ _ h => h) (Or.inl ⟨by rfl, ?_⟩) (by assumption) ?_
                    rotate_left
                    · intro wS hSw
                      obtain ⟨hSw1, hSw2⟩ := hSw
                      go_simp <;> with_reducible rfl
                    try simp only [Act.put, List.getElem_toArray, List.getElem_cons_succ, List.getElem_cons_zero, List.setIfInBounds_toArray, List.set_cons_zero, List.set_cons_succ]
                    refine wpAnyH_take (i := 5) (v := ?_) rfl (by kernel_rfl) (by kernel_rfl) (by kernel_rfl) (fun _ _ _ h => h) (Or.inl ⟨by rfl, ?_⟩) (by assumption) ?_
                    rotate_left
                    · intro wS hSw
                      obtain ⟨hSw1, hSw2⟩ := hSw
                      go_simp <;> with_reducible rfl
                    try simp only [Act.put, List.getElem_toArray, List.getElem_cons_succ, List.getElem_cons_zero, List.setIfInBounds_toArray, List.set_cons_zero, List.set_cons_succ]
                    refine wpAnyH_take (i := 6) (v := ?_) rfl (by kernel_rfl) (by kernel_rfl) (by kernel_rfl) (fun _ _ _ h => h) (Or.inl ⟨by rfl, ?_⟩) (by assumption) ?_
                    rotate_left
                    · intro wS hSw
                      obtain ⟨hSw1, hSw2⟩ := hSw
                      go_simp <;> with_reducible rfl
                    try simp only [Act.put, List.getElem_toArray, List.getElem_cons_succ, List.getElem_cons_zero, List.setIfInBounds_toArray, List.set_cons_zero, List.set_cons_succ]
                    refine wpAnyH_take (i := 8) (v := ?_) rfl (by kernel_rfl) (by kernel_rfl) (by kernel_rfl) (fun _ _ _ h => h) (Or.inl ⟨by rfl, ?_⟩) (by assumption) ?_
                    rotate_left
                    · intro wS hSw
                      obtain ⟨hSw1, hSw2⟩ := hSw
                      go_simp <;> with_reducible rfl
                    try simp only [Act.put, List.getElem_toArray, List.getElem_cons_succ, List.getElem_cons_zero, List.setIfInBounds_toArray, List.set_cons_zero, List.set_cons_succ]
                    refine wpAnyH_take (i := 9) (v := ?_) rfl (by kernel_rfl) (by kernel_rfl) (by kernel_rfl) (fun _ _ _ h => h) (Or.inl ⟨by rfl, ?_⟩) (by assumption) ?_
                    rotate_left
                    · intro wS hSw
                      obtain ⟨hSw1, hSw2⟩ := hSw
                      go_simp <;> with_reducible rfl
                    try simp only [Act.put, List.getElem_toArray, List.getElem_cons_succ, List.getElem_cons_zero, List.setIfInBounds_toArray, List.set_cons_zero, List.set_cons_succ]
                    refine wpAnyH_ready (rs := [7, 10]) (by kernel_rfl) (by simp) ?_
                    refine AllReadyH.cons rfl (fun K hK => ?_) (AllReadyH.cons rfl (fun K hK => ?_) AllReadyH.nil)
                    · go_simp
                      refine hK.out _ _ (hHeld) (fun hHeld => ?_)
                      clear hK K
                      try simp only [Act.put, List.getElem_toArray, List.getElem_cons_succ, List.getElem_cons_zero, List.setIfInBounds_toArray, List.set_cons_zero, List.set_cons_succ]
                      refine wpAnyH_ready (rs := [10]) (by kernel_rfl) (by simp) ?_
                      refine AllReadyH.cons rfl (fun K hK => ?_) AllReadyH.nil
                      go_simp
                      refine hK.out _ _ (⟨cellAlloc2 c1, HW.out.cv2⟩) (fun hHeld => ?_)
                      clear hK K
                      try simp only [Act.put, List.getElem_toArray, List.getElem_cons_succ, List.getElem_cons_zero, List.setIfInBounds_toArray, List.set_cons_zero, List.set_cons_succ]
                      refine wpAnyH_ready (rs := [11]) (by kernel_rfl) (by simp) ?_
                      refine AllReadyH.cons rfl (fun K hK => ?_) AllReadyH.nil
                      refine step_append_own rfl (.tmp 104) (.tmp 107) 49 rfl H 9 i2 _ 1 16 Try.underlying49 hk hx0 hx1 hx2 rfl (by omega) _ cur.length (cur.map strV) rfl HW.out.row HW.out.hi (some ⟨wr.heap.size, 0, none⟩) 1 1 [strV word] rfl rfl (fun h => by cases h) HW.out.news HW.out.one (by unfold maxLen; omega) (by omega) ?_
                      intro u1 w6 own1 grow1
                      obtain ⟨⟨k1, k2⟩, k3, ⟨ao6, c6, rfl⟩, k5, k7, k6⟩ := HW.out.next u1 w6 own1 grow1
                      unfold ReadsAs at k5 k7
                      have HK := Lib.hid k6
                      clear k6 own1 grow1
                      refine hK.out _ _ (⟨k3, k5⟩) (fun hHeld => ?_)
                      clear hK K
                      try simp only [Act.put, List.getElem_toArray, List.getElem_cons_succ, List.getElem_cons_zero, List.setIfInBounds_toArray, List.set_cons_zero, List.set_cons_succ]
                      refine wpAnyH_take (i := 12) (v := ?_) rfl (by kernel_rfl) (by kernel_rfl) (by kernel_rfl) (fun _ _ _ h => h) (Or.inl ⟨by rfl, ?_⟩) (by assumption) ?_
                      rotate_left
                      · intro wS hSw
                        obtain ⟨hSw1, hSw2⟩ := hSw
                        go_simp <;> with_reducible rfl
                      try simp only [Act.put, List.getElem_toArray, List.getElem_cons_succ, List.getElem_cons_zero, List.setIfInBounds_toArray, List.set_cons_zero, List.set_cons_succ]
                      refine wpAnyH_ready (rs := [13]) (by kernel_rfl) (by simp) ?_
                      refine AllReadyH.cons rfl (fun K hK => ?_) AllReadyH.nil
                      go_simp
                      refine hK.out _ _ ⟨HK.out.1.cells.2.1, k7⟩ (fun hHeld => ?_)
                      clear hK K hHeld
                      try simp only [Act.put, List.getElem_toArray, List.getElem_cons_succ, List.getElem_cons_zero, List.setIfInBounds_toArray, List.set_cons_zero, List.set_cons_succ]
                      refine wpAnyH_done (by kernel_rfl) ?_ _
                      refine NoPanic.normal ?_
                      clear HW hcv c0 f0 c1 f1 e0 e1 cv1 k1 k2 k3 k5 k7
                      generalize (w6.setCell ⟨g, L.length, none⟩ (.slice ao6 (cur.length + 1) c6)) = W7 at *
                      generalize Value.slice ao6 (cur.length + 1) c6 = ucur1 at *
                      have q3 : W7.cell? (a.add i) = some (.int .u8 (c.toNat : Int)) := HC.out _ HK.out.1.below
                      obtain ⟨⟨c0, f0⟩, c1, f1⟩ := HK.out.1.cells
                      unfold strV at c0
                      have HS4 := Lib.hid (show RdSt w W7 b R (.slice none 0 0) (L.length) (i + 1) [] from ⟨Nat.zero_le _, .inr ⟨tag, L, cur ++ [word], H, _, us, _, rfl, by omega, by simp; omega, hR2.out, HK.out.1, HK.out.2⟩⟩)
                      clear HK hR2 HC
                      go_wp2_with fail
                      go_roundw
                      case rel => exact ⟨_, L.length, i + 1, [], rfl, rfl, by go_num, by omega, by omega, by omega, .inl ⟨by omega, HS4⟩⟩
                      case measure => simp [intOf]; omega
                    · go_simp
                      refine hK.out _ _ (⟨cellAlloc2 c1, HW.out.cv2⟩) (fun hHeld => ?_)
                      clear hK K
                      try simp only [Act.put, List.getElem_toArray, List.getElem_cons_succ, List.getElem_cons_zero, List.setIfInBounds_toArray, List.set_cons_zero, List.set_cons_succ]
                      refine wpAnyH_ready (rs := [7]) (by kernel_rfl) (by simp) ?_
                      refine AllReadyH.cons rfl (fun K hK => ?_) AllReadyH.nil
                      have e0a : (wr.alloc (.cells #[.string ⟨word.toArray⟩] 9)).cell? ⟨g, L.length, none⟩ = some (.slice ao2 cur.length c2) := cellAlloc2 e0
                      go_simp
                      refine hK.out _ _ (hHeld) (fun hHeld => ?_)
                      clear hK K
                      try simp only [Act.put, List.getElem_toArray, List.getElem_cons_succ, List.getElem_cons_zero, List.setIfInBounds_toArray, List.set_cons_zero, List.set_cons_succ]
                      refine wpAnyH_ready (rs := [11]) (by kernel_rfl) (by simp) ?_
                      refine AllReadyH.cons rfl (fun K hK => ?_) AllReadyH.nil
                      refine step_append_own rfl (.tmp 104) (.tmp 107) 49 rfl H 9 i2 _ 1 16 Try.underlying49 hk hx0 hx1 hx2 rfl (by omega) _ cur.length (cur.map strV) rfl HW.out.row HW.out.hi (some ⟨wr.heap.size, 0, none⟩) 1 1 [strV word] rfl rfl (fun h => by cases h) HW.out.news HW.out.one (by unfold maxLen; omega) (by omega) ?_
                      intro u1 w6 own1 grow1
                      obtain ⟨⟨k1, k2⟩, k3, ⟨ao6, c6, rfl⟩, k5, k7, k6⟩ := HW.out.next u1 w6 own1 grow1
                      unfold ReadsAs at k5 k7
                      have HK := Lib.hid k6
                      clear k6 own1 grow1
                      refine hK.out _ _ (⟨k3, k5⟩) (fun hHeld => ?_)
                      clear hK K
                      try simp only [Act.put, List.getElem_toArray, List.getElem_cons_succ, List.getElem_cons_zero, List.setIfInBounds_toArray, List.set_cons_zero, List.set_cons_succ]
                      refine wpAnyH_take (i := 12) (v := ?_) rfl (by kernel_rfl) (by kernel_rfl) (by kernel_rfl) (fun _ _ _ h => h) (Or.inl ⟨by rfl, ?_⟩) (by assumption) ?_
                      rotate_left
                      · intro wS hSw
                        obtain ⟨hSw1, hSw2⟩ := hSw
                        go_simp <;> with_reducible rfl
                      try simp only [Act.put, List.getElem_toArray, List.getElem_cons_succ, List.getElem_cons_zero, List.setIfInBounds_toArray, List.set_cons_zero, List.set_cons_succ]
                      refine wpAnyH_ready (rs := [13]) (by kernel_rfl) (by simp) ?_
                      refine AllReadyH.cons rfl (fun K hK => ?_) AllReadyH.nil
                      go_simp
                      refine hK.out _ _ ⟨HK.out.1.cells.2.1, k7⟩ (fun hHeld => ?_)
                      clear hK K hHeld
                      try simp only [Act.put, List.getElem_toArray, List.getElem_cons_succ, List.getElem_cons_zero, List.setIfInBounds_toArray, List.set_cons_zero, List.set_cons_succ]
                      refine wpAnyH_done (by kernel_rfl) ?_ _
                      refine NoPanic.normal ?_
                      clear HW hcv c0 f0 c1 f1 e0 e1 cv1 k1 k2 k3 k5 k7
                      generalize (w6.setCell ⟨g, L.length, none⟩ (.slice ao6 (cur.length + 1) c6)) = W7 at *
                      generalize Value.slice ao6 (cur.length + 1) c6 = ucur1 at *
                      have q3 : W7.cell? (a.add i) = some (.int .u8 (c.toNat : Int)) := HC.out _ HK.out.1.below
                      obtain ⟨⟨c0, f0⟩, c1, f1⟩ := HK.out.1.cells
                      unfold strV at c0
                      have HS4 := Lib.hid (show RdSt w W7 b R (.slice none 0 0) (L.length) (i + 1) [] from ⟨Nat.zero_le _, .inr ⟨tag, L, cur ++ [word], H, _, us, _, rfl, by omega, by simp; omega, hR2.out, HK.out.1, HK.out.2⟩⟩)
                      clear HK hR2 HC
                      go_wp2_with fail
                      go_roundw
                      case rel => exact ⟨_, L.length, i + 1, [], rfl, rfl, by go_num, by omega, by omega, by omega, .inl ⟨by omega, HS4⟩⟩
                      case measure => simp [intOf]; omega
                  · have d7 : decide ((0 : Int) < (cur.length : Int)) = false := decide_eq_false (by omega)
                    have hR2 := Lib.hid (show rdT tag L (cur ++ [word]) [] (toks (b.drop (i + 1))) = R by rw [← hR, e2]; rfl)
                    have HC := Lib.hid hcell
                    have HW := Lib.hid (comp_step word (by omega) hA hE)
                    clear HS HB hR hcell hc htk hsep hpair h63 hne63 e e2
                    unfold strV at hcv c0
                    obtain ⟨e0, e1⟩ := e0
                    obtain ⟨i2, hk, hx0, hx1, hx2⟩ := info_parts info_str
                    have i3 : (0 : Int) ≤ (L.length : Int) := by omega
                    have i4 : (L.length : Int) < ((L.length + 1 : Nat) : Int) := by omega
                    have i5 : (L.length : Int) < (L.length : Int) + 1 := by omega
                    clear hA hE
                    go_wp2_with fail
                    have cv1 := HW.out.cv1
                    unfold ReadsAs at cv1
                    refine wp_region_noPanic ?_
                    refine wp_region_held_drew (S := fun w' => w'.cell? ⟨w.heap.size + 2, 1, none⟩ = some (.slice (some ⟨g, 0, none⟩) (L.length + 1) capE) ∧ (convert 32 9 (.slice ao3 word.length c3)).run Try.prog w' = .ok (.string ⟨word.toArray⟩) w') (by kernel_rfl) ⟨c1, cv1⟩ (fun hHeld => ?_)
                    refine wpAnyH_take (i := 0) (v := ?_) rfl (by kernel_rfl) (by kernel_rfl) (by kernel_rfl) (fun _ _ _ h => h) (Or.inl ⟨by rfl, ?_⟩) (by assumption) ?_
                    rotate_left
                    · intro wS hSw
                      obtain ⟨hSw1, hSw2⟩ := hSw
                      go_simp <;> with_reducible rfl
                    try simp only [Act.put, List.getElem_toArray, List.getElem_cons_zero, List.setIfInBounds_toArray, List.set_cons_zero, List.set_cons_succ]
                    refine wpAnyH_take (i := 1) (v := ?_) rfl (by kernel_rfl) (by kernel_rfl) (by kernel_rfl) (fun _ _ _ h => h) (Or.inl ⟨by rfl, ?_⟩) (by assumption) ?_
                    rotate_left
                    · intro wS hSw
                      obtain ⟨hSw1, hSw2⟩ := hSw
                      go_simp <;> with_reducible rfl
                    try simp only [Act.put, List.getElem_toArray, List.getElem_cons_succ, List.getElem_cons_zero, List.setIfInBounds_toArray, List.set_cons_zero, List.set_cons_succ]
                    refine wpAnyH_take (i := 2) (v := ?_) rfl (by kernel_rfl) (by kernel_rfl) (by kernel_rfl) (fun _ _ _ h => h) (Or.inl ⟨by rfl, ?_⟩) (by assumption) ?_
                    rotate_left
                    · intro wS hSw
                      obtain ⟨hSw1, hSw2⟩ := hSw
                      go_simp <;> with_reducible rfl
                    try simp only [Act.put, List.getElem_toArray, List.getElem_cons_succ, List.getElem_cons_zero, List.setIfInBounds_toArray, List.set_cons_zero, List.set_cons_succ]
                    refine wpAnyH_take (i := 3) (v := ?_) rfl (by kernel_rfl) (by kernel_rfl) (by kernel_rfl) (fun _ _ _ h => h) (Or.inl ⟨by rfl, ?_⟩) (by assumption) ?_
                    rotate_left
                    · intro wS hSw
                      obtain ⟨hSw1, hSw2⟩ := hSw
                      go_simp <;> with_reducible rfl
                    try simp only [Act.put, List.getElem_toArray, List.getElem_cons_succ, List.getElem_cons_zero, List.setIfInBounds_toArray, List.set_cons_zero, List.set_cons_succ]
                    refine wpAnyH_take (i := 4) (v := ?_) rfl (by kernel_rfl) (by kernel_rfl) (by kernel_rfl) (fun _ _ _ h => h) (Or.inl ⟨by rfl, ?_⟩) (by assumption) ?_
                    rotate_left
                    · intro wS hSw
                      obtain ⟨hSw1, hSw2⟩ := hSw
                      go_simp <;> with_reducible rfl
                    try simp only [Act.put, List.getElem_toArray, List.getElem_cons_succ, List.getElem_cons_zero, List.setIfInBounds_toArray, List.set_cons_zero, List.set_cons_succ]
                    refine wpAnyH_take (i := 5) (v := ?_) rfl (by kernel_rfl) (by kernel_rfl) (by kernel_rfl) (fun _ _ _ h => h) (Or.inl ⟨by rfl, ?_⟩) (by assumption) ?_
                    rotate_left
                    · intro wS hSw
                      obtain ⟨hSw1, hSw2⟩ := hSw
                      go_simp <;> with_reducible rfl
                    try simp only [Act.put, List.getElem_toArray, List.getElem_cons_succ, List.getElem_cons_zero, List.setIfInBounds_toArray, List.set_cons_zero, List.set_cons_succ]
                    refine wpAnyH_take (i := 6) (v := ?_) rfl (by kernel_rfl) (by kernel_rfl) (by kernel_rfl) (fun _ _ _ h => h) (Or.inl ⟨by rfl, ?_⟩) (by assumption) ?_
                    rotate_left
                    · intro wS hSw
                      obtain ⟨hSw1, hSw2⟩ := hSw
                      go_simp <;> with_reducible rfl
                    try simp only [Act.put, List.getElem_toArray, List.getElem_cons_succ, List.getElem_cons_zero, List.setIfInBounds_toArray, List.set_cons_zero, List.set_cons_succ]
                    refine wpAnyH_take (i := 8) (v := ?_) rfl (by kernel_rfl) (by kernel_rfl) (by kernel_rfl) (fun _ _ _ h => h) (Or.inl ⟨by rfl, ?_⟩) (by assumption) ?_
                    rotate_left
                    · intro wS hSw
                      obtain ⟨hSw1, hSw2⟩ := hSw
                      go_simp <;> with_reducible rfl
                    try simp only [Act.put, List.getElem_toArray, List.getElem_cons_succ, List.getElem_cons_zero, List.setIfInBounds_toArray, List.set_cons_zero, List.set_cons_succ]
                    refine wpAnyH_take (i := 9) (v := ?_) rfl (by kernel_rfl) (by kernel_rfl) (by kernel_rfl) (fun _ _ _ h => h) (Or.inl ⟨by rfl, ?_⟩) (by assumption) ?_
                    rotate_left
                    · intro wS hSw
                      obtain ⟨hSw1, hSw2⟩ := hSw
                      go_simp <;> with_reducible rfl
                    try simp only [Act.put, List.getElem_toArray, List.getElem_cons_succ, List.getElem_cons_zero, List.setIfInBounds_toArray, List.set_cons_zero, List.set_cons_succ]
                    refine wpAnyH_ready (rs := [7, 10]) (by kernel_rfl) (by simp) ?_
                    refine AllReadyH.cons rfl (fun K hK => ?_) (AllReadyH.cons rfl (fun K hK => ?_) AllReadyH.nil)
                    · go_simp
                      refine hK.out _ _ (hHeld) (fun hHeld => ?_)
                      clear hK K
                      try simp only [Act.put, List.getElem_toArray, List.getElem_cons_succ, List.getElem_cons_zero, List.setIfInBounds_toArray, List.set_cons_zero, List.set_cons_succ]
                      refine wpAnyH_ready (rs := [10]) (by kernel_rfl) (by simp) ?_
                      refine AllReadyH.cons rfl (fun K hK => ?_) AllReadyH.nil
                      go_simp
                      refine hK.out _ _ (⟨cellAlloc2 c1, HW.out.cv2⟩) (fun hHeld => ?_)
                      clear hK K
                      try simp only [Act.put, List.getElem_toArray, List.getElem_cons_succ, List.getElem_cons_zero, List.setIfInBounds_toArray, List.set_cons_zero, List.set_cons_succ]
                      refine wpAnyH_ready (rs := [11]) (by kernel_rfl) (by simp) ?_
                      refine AllReadyH.cons rfl (fun K hK => ?_) AllReadyH.nil
                      refine step_append_own rfl (.tmp 104) (.tmp 107) 49 rfl H 9 i2 _ 1 16 Try.underlying49 hk hx0 hx1 hx2 rfl (by omega) _ cur.length (cur.map strV) rfl HW.out.row HW.out.hi (some ⟨wr.heap.size, 0, none⟩) 1 1 [strV word] rfl rfl (fun h => by cases h) HW.out.news HW.out.one (by unfold maxLen; omega) (by omega) ?_
                      intro u1 w6 own1 grow1
                      obtain ⟨⟨k1, k2⟩, k3, ⟨ao6, c6, rfl⟩, k5, k7, k6⟩ := HW.out.next u1 w6 own1 grow1
                      unfold ReadsAs at k5 k7
                      have HK := Lib.hid k6
                      clear k6 own1 grow1
                      refine hK.out _ _ (⟨k3, k5⟩) (fun hHeld => ?_)
                      clear hK K
                      try simp only [Act.put, List.getElem_toArray, List.getElem_cons_succ, List.getElem_cons_zero, List.setIfInBounds_toArray, List.set_cons_zero, List.set_cons_succ]
                      refine wpAnyH_take (i := 12) (v := ?_) rfl (by kernel_rfl) (by kernel_rfl) (by kernel_rfl) (fun _ _ _ h => h) (Or.inl ⟨by rfl, ?_⟩) (by assumption) ?_
                      rotate_left
                      · intro wS hSw
                        obtain ⟨hSw1, hSw2⟩ := hSw
                        go_simp <;> with_reducible rfl
                      try simp only [Act.put, List.getElem_toArray, List.getElem_cons_succ, List.getElem_cons_zero, List.setIfInBounds_toArray, List.set_cons_zero, List.set_cons_succ]
                      refine wpAnyH_ready (rs := [13]) (by kernel_rfl) (by simp) ?_
                      refine AllReadyH.cons rfl (fun K hK => ?_) AllReadyH.nil
                      go_simp
                      refine hK.out _ _ ⟨HK.out.1.cells.2.1, k7⟩ (fun hHeld => ?_)
                      clear hK K hHeld
                      try simp only [Act.put, List.getElem_toArray, List.getElem_cons_succ, List.getElem_cons_zero, List.setIfInBounds_toArray, List.set_cons_zero, List.set_cons_succ]
                      refine wpAnyH_done (by kernel_rfl) ?_ _
                      refine NoPanic.normal ?_
                      clear HW hcv c0 f0 c1 f1 e0 e1 cv1 k1 k2 k3 k5 k7
                      generalize (w6.setCell ⟨g, L.length, none⟩ (.slice ao6 (cur.length + 1) c6)) = W7 at *
                      generalize Value.slice ao6 (cur.length + 1) c6 = ucur1 at *
                      have q3 : W7.cell? (a.add i) = some (.int .u8 (c.toNat : Int)) := HC.out _ HK.out.1.below
                      obtain ⟨⟨c0, f0⟩, c1, f1⟩ := HK.out.1.cells
                      unfold strV at c0
                      have HS4 := Lib.hid (show RdSt w W7 b R (.slice none 0 0) (L.length) (i + 1) [] from ⟨Nat.zero_le _, .inr ⟨tag, L, cur ++ [word], H, _, us, _, rfl, by omega, by simp; omega, hR2.out, HK.out.1, HK.out.2⟩⟩)
                      clear HK hR2 HC
                      go_wp2_with fail
                      go_roundw
                      case rel => exact ⟨_, L.length, i + 1, [], rfl, rfl, by go_num, by omega, by omega, by omega, .inl ⟨by omega, HS4⟩⟩
                      case measure => simp [intOf]; omega
                    · go_simp
                      refine hK.out _ _ (⟨cellAlloc2 c1, HW.out.cv2⟩) (fun hHeld => ?_)
                      clear hK K
                      try simp only [Act.put, List.getElem_toArray, List.getElem_cons_succ, List.getElem_cons_zero, List.setIfInBounds_toArray, List.set_cons_zero, List.set_cons_succ]
                      refine wpAnyH_ready (rs := [7]) (by kernel_rfl) (by simp) ?_
                      refine AllReadyH.cons rfl (fun K hK => ?_) AllReadyH.nil
                      have e0a : (wr.alloc (.cells #[.string ⟨word.toArray⟩] 9)).cell? ⟨g, L.length, none⟩ = some (.slice ao2 cur.length c2) := cellAlloc2 e0
                      go_simp
                      refine hK.out _ _ (hHeld) (fun hHeld => ?_)
                      clear hK K
                      try simp only [Act.put, List.getElem_toArray, List.getElem_cons_succ, List.getElem_cons_zero, List.setIfInBounds_toArray, List.set_cons_zero, List.set_cons_succ]
                      refine wpAnyH_ready (rs := [11]) (by kernel_rfl) (by simp) ?_
                      refine AllReadyH.cons rfl (fun K hK => ?_) AllReadyH.nil
                      refine step_append_own rfl (.tmp 104) (.tmp 107) 49 rfl H 9 i2 _ 1 16 Try.underlying49 hk hx0 hx1 hx2 rfl (by omega) _ cur.length (cur.map strV) rfl HW.out.row HW.out.hi (some ⟨wr.heap.size, 0, none⟩) 1 1 [strV word] rfl rfl (fun h => by cases h) HW.out.news HW.out.one (by unfold maxLen; omega) (by omega) ?_
                      intro u1 w6 own1 grow1
                      obtain ⟨⟨k1, k2⟩, k3, ⟨ao6, c6, rfl⟩, k5, k7, k6⟩ := HW.out.next u1 w6 own1 grow1
                      unfold ReadsAs at k5 k7
                      have HK := Lib.hid k6
                      clear k6 own1 grow1
                      refine hK.out _ _ (⟨k3, k5⟩) (fun hHeld => ?_)
                      clear hK K
                      try simp only [Act.put, List.getElem_toArray, List.getElem_cons_succ, List.getElem_cons_zero, List.setIfInBounds_toArray, List.set_cons_zero, List.set_cons_succ]
                      refine wpAnyH_take (i := 12) (v := ?_) rfl (by kernel_rfl) (by kernel_rfl) (by kernel_rfl) (fun _ _ _ h => h) (Or.inl ⟨by rfl, ?_⟩) (by assumption) ?_
                      rotate_left
                      · intro wS hSw
                        obtain ⟨hSw1, hSw2⟩ := hSw
                        go_simp <;> with_reducible rfl
                      try simp only [Act.put, List.getElem_toArray, List.getElem_cons_succ, List.getElem_cons_zero, List.setIfInBounds_toArray, List.set_cons_zero, List.set_cons_succ]
                      refine wpAnyH_ready (rs := [13]) (by kernel_rfl) (by simp) ?_
                      refine AllReadyH.cons rfl (fun K hK => ?_) AllReadyH.nil
                      go_simp
                      refine hK.out _ _ ⟨HK.out.1.cells.2.1, k7⟩ (fun hHeld => ?_)
                      clear hK K hHeld
                      try simp only [Act.put, List.getElem_toArray, List.getElem_cons_succ, List.getElem_cons_zero, List.setIfInBounds_toArray, List.set_cons_zero, List.set_cons_succ]
                      refine wpAnyH_done (by kernel_rfl) ?_ _
                      refine NoPanic.normal ?_
                      clear HW hcv c0 f0 c1 f1 e0 e1 cv1 k1 k2 k3 k5 k7
                      generalize (w6.setCell ⟨g, L.length, none⟩ (.slice ao6 (cur.length + 1) c6)) = W7 at *
                      generalize Value.slice ao6 (cur.length + 1) c6 = ucur1 at *
                      have q3 : W7.cell? (a.add i) = some (.int .u8 (c.toNat : Int)) := HC.out _ HK.out.1.below
                      obtain ⟨⟨c0, f0⟩, c1, f1⟩ := HK.out.1.cells
                      unfold strV at c0
                      have HS4 := Lib.hid (show RdSt w W7 b R (.slice none 0 0) (L.length) (i + 1) [] from ⟨Nat.zero_le _, .inr ⟨tag, L, cur ++ [word], H, _, us, _, rfl, by omega, by simp; omega, hR2.out, HK.out.1, HK.out.2⟩⟩)
                      clear HK hR2 HC
                      go_wp2_with fail
                      go_roundw
                      case rel => exact ⟨_, L.length, i + 1, [], rfl, rfl, by go_num, by omega, by omega, by omega, .inl ⟨by omega, HS4⟩⟩
                      case measure => simp [intOf]; omega
          · have n43 : c ≠ 43 := fun e => hsep (.inl e)
            have n58 : c ≠ 58 := fun e => hsep (.inr e)
            have htk2 := Lib.hid (show toks (b.drop i) = .lit c :: toks (b.drop (i + 1)) by rw [htk]; unfold tokOf; rw [if_neg n43, if_neg n58])
            rw [beq_eq_false_iff_ne.2 n43] at e43
            rw [beq_eq_false_iff_ne.2 n58] at e58
            have g43 : ((c.toNat : Int) != 43) = true := by show (!((c.toNat : Int) == 43)) = true; rw [e43]; rfl
            have g58 : ((c.toNat : Int) != 58) = true := by show (!((c.toNat : Int) == 58)) = true; rw [e58]; rfl
            have hl1 : word.length + 1 ≤ 100000000000000 := by omega
            have HSa := Lib.hid (HS.out.alloc (.cells #[.int .u8 (c.toNat : Int)] 5))
            clear htk hsep HB hcell HS hc
            by_cases e : c = 63
            · have d3 : decide ((i : Int) + 1 < (b.length : Int)) = false := decide_eq_false (by have : ¬ i + 1 < b.length := fun hh => hpair ⟨e, hh⟩; omega)
              rw [beq_iff_eq.2 e] at e63
              clear e h63 hpair n43 n58
              go_wp2_with (at_builtin; refine wpList_append_bytes rfl _ _ 32 rfl w.heap.size 5 i0 Try.underlying32 hi hz0 hz1 hz2 _ word rfl HSa.out.base.1 ⟨wr.heap.size, 0, none⟩ 1 [c] rfl (one_news wr c _ rfl 5) hl1 HSa.out.base.2.size ?_)
              intro vb3 w3 hr3 hg3
              have HS3 := Lib.hid (HSa.out.lit htk2.out (by omega) hr3 hg3)
              clear HSa hr3 hg3 htk2
              go_wp2_with fail
              go_roundw
              case rel => exact ⟨_, o, i + 1, _, rfl, rfl, by go_num, by omega, ho1, by omega, .inl ⟨by omega, HS3⟩⟩
              case measure => simp [intOf]; omega
            · rw [beq_eq_false_iff_ne.2 e] at e63
              clear e h63 hpair n43 n58
              go_wp2_with (at_builtin; refine wpList_append_bytes rfl _ _ 32 rfl w.heap.size 5 i0 Try.underlying32 hi hz0 hz1 hz2 _ word rfl HSa.out.base.1 ⟨wr.heap.size, 0, none⟩ 1 [c] rfl (one_news wr c _ rfl 5) hl1 HSa.out.base.2.size ?_)
              intro vb3 w3 hr3 hg3
              have HS3 := Lib.hid (HSa.out.lit htk2.out (by omega) hr3 hg3)
              clear HSa hr3 hg3 htk2
              go_wp2_with fail
              go_roundw
              case rel => exact ⟨_, o, i + 1, _, rfl, rfl, by go_num, by omega, ho1, by omega, .inl ⟨by omega, HS3⟩⟩
              case measure => simp [intOf]; omega
      · obtain rfl : i = b.length := by omega
        have d1 : decide ((b.length : Int) ≤ (b.length : Int)) = true := decide_eq_true (by omega)
        have d2 : decide ((b.length : Int) < (b.length : Int)) = false := decide_eq_false (by omega)
        obtain ⟨hwl, ⟨rfl, hR, hA⟩ | ⟨tag, L, cur, H, vE, us, ucur, rfl, hL1, hL2, hR, hA, hE⟩⟩ := HS.out
        · have hR2 := Lib.hid (show R = ⟨word, []⟩ by rw [← hR, List.drop_length]; rfl)
          have hcv := run_text_of_cells (P := Try.prog) wr 32 9 5 u _ Try.underlying32 Try.underlying5 Try.underlying9 hA.row.cells
          obtain ⟨⟨c0, f0⟩, c1, f1⟩ := hA.cells
          obtain ⟨⟨r0, s0⟩, r1, s1⟩ := hA.resCells
          have hA1 := Lib.hid (hA.set (tag1 := word) (vE1 := .slice none 0 0) 0 (strV word) rfl)
          clear HS HB hR hA
          unfold strV at hcv c0 hA1 r0
          go_wp2_with fail
          rw [show w.heap.size + 1 + 1 = w.heap.size + 2 from rfl]
          obtain ⟨⟨z0, _⟩, z1, _⟩ := hA1.out.resCells
          obtain ⟨g0, g1⟩ := setTwo z0 z1 (.string ⟨word.toArray⟩) (.slice none 0 0)
          have hbel : Below w.heap.size w (((wr.setCell ⟨w.heap.size + 2, 0, none⟩ (.string ⟨word.toArray⟩)).setCell ⟨w.heap.size, 0, none⟩ (.string ⟨word.toArray⟩)).setCell ⟨w.heap.size, 1, none⟩ (.slice none 0 0)) := (hA1.out.below.setCell (Nat.le_refl _) _).setCell (Nat.le_refl _) _
          generalize ((wr.setCell ⟨w.heap.size + 2, 0, none⟩ (.string ⟨word.toArray⟩)).setCell ⟨w.heap.size, 0, none⟩ (.string ⟨word.toArray⟩)).setCell ⟨w.heap.size, 1, none⟩ (.slice none 0 0) = W9 at *
          simp [bodyPost, results, Try.results33, go_sem, g0, g1]
          rw [hR2.out]
          exact ⟨_, ⟨rfl, rfl⟩, ElemsIn.nil _ _, hbel⟩
        · have hcv := run_text_of_cells (P := Try.prog) wr 32 9 5 u _ Try.underlying32 Try.underlying5 Try.underlying9 hA.row.cells
          obtain ⟨g, capE, rfl, hcE⟩ := hE.form
          obtain ⟨ao2, c2, hu2⟩ := hE.curForm
          obtain ⟨ao3, c3, hu3⟩ := hA.wordForm
          subst hu2
          subst hu3
          have e0 := hE.elCell
          obtain ⟨⟨c0, f0⟩, c1, f1⟩ := hA.cells
          have d5 : decide ((L.length : Int) < 0) = false := decide_eq_false (by omega)
          by_cases hw0 : 0 < word.length
          · have d6 : decide ((0 : Int) < (word.length : Int)) = true := decide_eq_true (by omega)
            have hcl : closeE cur word = cur ++ [word] := if_neg (fun h => by have h1 : word.length = 0 := congrArg List.length h.1; have h2 : cur.length = 0 := congrArg List.length h.2; omega)
            have hR2 := Lib.hid (show R = ⟨tag, L ++ [cur ++ [word]]⟩ by rw [← hcl, ← hR, List.drop_length]; rfl)
            have HW := Lib.hid (comp_step word (by omega) hA hE)
            clear HS HB hR
            unfold strV at hcv c0
            obtain ⟨e0, e1⟩ := e0
            obtain ⟨i2, hk, hx0, hx1, hx2⟩ := info_parts info_str
            have i3 : (0 : Int) ≤ (L.length : Int) := by omega
            have i4 : (L.length : Int) < ((L.length + 1 : Nat) : Int) := by omega
            have i5 : (L.length : Int) < (L.length : Int) + 1 := by omega
            clear hA hE
            go_wp2_with fail
            have cv1 := HW.out.cv1
            unfold ReadsAs at cv1
            refine wp_region_noPanic ?_
            refine wp_region_held_drew (S := fun w' => w'.cell? ⟨w.heap.size + 2, 1, none⟩ = some (.slice (some ⟨g, 0, none⟩) (L.length + 1) capE) ∧ (convert 32 9 (.slice ao3 word.length c3)).run Try.prog w' = .ok (.string ⟨word.toArray⟩) w') (by kernel_rfl) ⟨c1, cv1⟩ (fun hHeld => ?_)
            refine wpAnyH_take (i := 0) (v := ?_) rfl (by kernel_rfl) (by kernel_rfl) (by kernel_rfl) (fun _ _ _ h => h) (Or.inl ⟨by rfl, ?_⟩) (by assumption) ?_
            rotate_left
            · intro wS hSw
              obtain ⟨hSw1, hSw2⟩ := hSw
              go_simp <;> with_reducible rfl
            try simp only [Act.put, List.getElem_toArray, List.getElem_cons_zero, List.setIfInBounds_toArray, List.set_cons_zero, List.set_cons_succ]
            refine wpAnyH_take (i := 1) (v := ?_) rfl (by kernel_rfl) (by kernel_rfl) (by kernel_rfl) (fun _ _ _ h => h) (Or.inl ⟨by rfl, ?_⟩) (by assumption) ?_
            rotate_left
            · intro wS hSw
              obtain ⟨hSw1, hSw2⟩ := hSw
              go_simp <;> with_reducible rfl
            try simp only [Act.put, List.getElem_toArray, List.getElem_cons_succ, List.getElem_cons_zero, List.setIfInBounds_toArray, List.set_cons_zero, List.set_cons_succ]
            refine wpAnyH_take (i := 2) (v := ?_) rfl (by kernel_rfl) (by kernel_rfl) (by kernel_rfl) (fun _ _ _ h => h) (Or.inl ⟨by rfl, ?_⟩) (by assumption) ?_
            rotate_left
            · intro wS hSw
              obtain ⟨hSw1, hSw2⟩ := hSw
              go_simp <;> with_reducible rfl
            try simp only [Act.put, List.getElem_toArray, List.getElem_cons_succ, List.getElem_cons_zero, List.setIfInBounds_toArray, List.set_cons_zero, List.set_cons_succ]
            refine wpAnyH_take (i := 3) (v := ?_) rfl (by kernel_rfl) (by kernel_rfl) (by kernel_rfl) (fun _ _ _ h => h) (Or.inl ⟨by rfl, ?_⟩) (by assumption) ?_
            rotate_left
            · intro wS hSw
              obtain ⟨hSw1, hSw2⟩ := hSw
              go_simp <;> with_reducible rfl
            try simp only [Act.put, List.getElem_toArray, List.getElem_cons_succ, List.getElem_cons_zero, List.setIfInBounds_toArray, List.set_cons_zero, List.set_cons_succ]
            refine wpAnyH_take (i := 4) (v := ?_) rfl (by kernel_rfl) (by kernel_rfl) (by kernel_rfl) (fun _ _ _ h => h) (Or.inl ⟨by rfl, ?_⟩) (by assumption) ?_
            rotate_left
            · intro wS hSw
              obtain ⟨hSw1, hSw2⟩ := hSw
              go_simp <;> with_reducible rfl
            try simp only [Act.put, List.getElem_toArray, List.getElem_cons_succ, List.getElem_cons_zero, List.setIfInBounds_toArray, List.set_cons_zero, List.set_cons_succ]
            refine wpAnyH_take (i := 5) (v := ?_) rfl (by kernel_rfl) (by kernel_rfl) (by kernel_rfl) (fun _ _ _ h => h) (Or.inl ⟨by rfl, ?_⟩) (by assumption) ?_
            rotate_left
            · intro wS hSw
              obtain ⟨hSw1, hSw2⟩ := hSw
              go_simp <;> with_reducible rfl
            try simp only [Act.put, List.getElem_toArray, List.getElem_cons_succ, List.getElem_cons_zero, List.setIfInBounds_toArray, List.set_cons_zero, List.set_cons_succ]
            refine wpAnyH_take (i := 6) (v := ?_) rfl (by kernel_rfl) (by kernel_rfl) (by kernel_rfl) (fun _ _ _ h => h) (Or.inl ⟨by rfl, ?_⟩) (by assumption) ?_
            rotate_left
            · intro wS hSw
              obtain ⟨hSw1, hSw2⟩ := hSw
              go_simp <;> with_reducible rfl
            try simp only [Act.put, List.getElem_toArray, List.getElem_cons_succ, List.getElem_cons_zero, List.setIfInBounds_toArray, List.set_cons_zero, List.set_cons_succ]
            refine wpAnyH_take (i := 8) (v := ?_) rfl (by kernel_rfl) (by kernel_rfl) (by kernel_rfl) (fun _ _ _ h => h) (Or.inl ⟨by rfl, ?_⟩) (by assumption) ?_
            rotate_left
            · intro wS hSw
              obtain ⟨hSw1, hSw2⟩ := hSw
              go_simp <;> with_reducible rfl
            try simp only [Act.put, List.getElem_toArray, List.getElem_cons_succ, List.getElem_cons_zero, List.setIfInBounds_toArray, List.set_cons_zero, List.set_cons_succ]
            refine wpAnyH_take (i := 9) (v := ?_) rfl (by kernel_rfl) (by kernel_rfl) (by kernel_rfl) (fun _ _ _ h => h) (Or.inl ⟨by rfl, ?_⟩) (by assumption) ?_
            rotate_left
            · intro wS hSw
              obtain ⟨hSw1, hSw2⟩ := hSw
              go_simp <;> with_reducible rfl
            try simp only [Act.put, List.getElem_toArray, List.getElem_cons_succ, List.getElem_cons_zero, List.setIfInBounds_toArray, List.set_cons_zero, List.set_cons_succ]
            refine wpAnyH_ready (rs := [7, 10]) (by kernel_rfl) (by simp) ?_
            refine AllReadyH.cons rfl (fun K hK => ?_) (AllReadyH.cons rfl (fun K hK => ?_) AllReadyH.nil)
            · go_simp
              refine hK.out _ _ (hHeld) (fun hHeld => ?_)
              clear hK K
              try simp only [Act.put, List.getElem_toArray, List.getElem_cons_succ, List.getElem_cons_zero, List.setIfInBounds_toArray, List.set_cons_zero, List.set_cons_succ]
              refine wpAnyH_ready (rs := [10]) (by kernel_rfl) (by simp) ?_
              refine AllReadyH.cons rfl (fun K hK => ?_) AllReadyH.nil
              go_simp
              refine hK.out _ _ (⟨cellAlloc2 c1, HW.out.cv2⟩) (fun hHeld => ?_)
              clear hK K
              try simp only [Act.put, List.getElem_toArray, List.getElem_cons_succ, List.getElem_cons_zero, List.setIfInBounds_toArray, List.set_cons_zero, List.set_cons_succ]
              refine wpAnyH_ready (rs := [11]) (by kernel_rfl) (by simp) ?_
              refine AllReadyH.cons rfl (fun K hK => ?_) AllReadyH.nil
              refine step_append_own rfl (.tmp 104) (.tmp 107) 49 rfl H 9 i2 _ 1 16 Try.underlying49 hk hx0 hx1 hx2 rfl (by omega) _ cur.length (cur.map strV) rfl HW.out.row HW.out.hi (some ⟨wr.heap.size, 0, none⟩) 1 1 [strV word] rfl rfl (fun h => by cases h) HW.out.news HW.out.one (by unfold maxLen; omega) (by omega) ?_
              intro u1 w6 own1 grow1
              obtain ⟨⟨k1, k2⟩, k3, ⟨ao6, c6, rfl⟩, k5, k7, k6⟩ := HW.out.next u1 w6 own1 grow1
              unfold ReadsAs at k5 k7
              have HK := Lib.hid k6
              clear k6 own1 grow1
              refine hK.out _ _ (⟨k3, k5⟩) (fun hHeld => ?_)
              clear hK K
              try simp only [Act.put, List.getElem_toArray, List.getElem_cons_succ, List.getElem_cons_zero, List.setIfInBounds_toArray, List.set_cons_zero, List.set_cons_succ]
              refine wpAnyH_take (i := 12) (v := ?_) rfl (by kernel_rfl) (by kernel_rfl) (by kernel_rfl) (fun _ _ _ h => h) (Or.inl ⟨by rfl, ?_⟩) (by assumption) ?_
              rotate_left
              · intro wS hSw
                obtain ⟨hSw1, hSw2⟩ := hSw
                go_simp <;> with_reducible rfl
              try simp only [Act.put, List.getElem_toArray, List.getElem_cons_succ, List.getElem_cons_zero, List.setIfInBounds_toArray, List.set_cons_zero, List.set_cons_succ]
              refine wpAnyH_ready (rs := [13]) (by kernel_rfl) (by simp) ?_
              refine AllReadyH.cons rfl (fun K hK => ?_) AllReadyH.nil
              go_simp
              refine hK.out _ _ ⟨HK.out.1.cells.2.1, k7⟩ (fun hHeld => ?_)
              clear hK K hHeld
              try simp only [Act.put, List.getElem_toArray, List.getElem_cons_succ, List.getElem_cons_zero, List.setIfInBounds_toArray, List.set_cons_zero, List.set_cons_succ]
              refine wpAnyH_done (by kernel_rfl) ?_ _
              refine NoPanic.normal ?_
              clear HW hcv c0 f0 c1 f1 e0 e1 cv1 k1 k2 k3 k5 k7
              generalize (w6.setCell ⟨g, L.length, none⟩ (.slice ao6 (cur.length + 1) c6)) = W7 at *
              generalize Value.slice ao6 (cur.length + 1) c6 = ucur1 at *
              obtain ⟨⟨c0, f0⟩, c1, f1⟩ := HK.out.1.cells
              unfold strV at c0
              go_wp2_with fail
              go_roundw
              case rel => exact ⟨_, L.length, b.length + 1, [], rfl, rfl, by go_num, by omega, by omega, by omega, .inr ⟨rfl, Lib.hid ⟨tag, L, cur ++ [word], H, _, us, _, hR2.out, HK.out.1, HK.out.2⟩⟩⟩
              case measure => simp [intOf]
            · go_simp
              refine hK.out _ _ (⟨cellAlloc2 c1, HW.out.cv2⟩) (fun hHeld => ?_)
              clear hK K
              try simp only [Act.put, List.getElem_toArray, List.getElem_cons_succ, List.getElem_cons_zero, List.setIfInBounds_toArray, List.set_cons_zero, List.set_cons_succ]
              refine wpAnyH_ready (rs := [7]) (by kernel_rfl) (by simp) ?_
              refine AllReadyH.cons rfl (fun K hK => ?_) AllReadyH.nil
              have e0a : (wr.alloc (.cells #[.string ⟨word.toArray⟩] 9)).cell? ⟨g, L.length, none⟩ = some (.slice ao2 cur.length c2) := cellAlloc2 e0
              go_simp
              refine hK.out _ _ (hHeld) (fun hHeld => ?_)
              clear hK K
              try simp only [Act.put, List.getElem_toArray, List.getElem_cons_succ, List.getElem_cons_zero, List.setIfInBounds_toArray, List.set_cons_zero, List.set_cons_succ]
              refine wpAnyH_ready (rs := [11]) (by kernel_rfl) (by simp) ?_
              refine AllReadyH.cons rfl (fun K hK => ?_) AllReadyH.nil
              refine step_append_own rfl (.tmp 104) (.tmp 107) 49 rfl H 9 i2 _ 1 16 Try.underlying49 hk hx0 hx1 hx2 rfl (by omega) _ cur.length (cur.map strV) rfl HW.out.row HW.out.hi (some ⟨wr.heap.size, 0, none⟩) 1 1 [strV word] rfl rfl (fun h => by cases h) HW.out.news HW.out.one (by unfold maxLen; omega) (by omega) ?_
              intro u1 w6 own1 grow1
              obtain ⟨⟨k1, k2⟩, k3, ⟨ao6, c6, rfl⟩, k5, k7, k6⟩ := HW.out.next u1 w6 own1 grow1
              unfold ReadsAs at k5 k7
              have HK := Lib.hid k6
              clear k6 own1 grow1
              refine hK.out _ _ (⟨k3, k5⟩) (fun hHeld => ?_)
              clear hK K
              try simp only [Act.put, List.getElem_toArray, List.getElem_cons_succ, List.getElem_cons_zero, List.setIfInBounds_toArray, List.set_cons_zero, List.set_cons_succ]
              refine wpAnyH_take (i := 12) (v := ?_) rfl (by kernel_rfl) (by kernel_rfl) (by kernel_rfl) (fun _ _ _ h => h) (Or.inl ⟨by rfl, ?_⟩) (by assumption) ?_
              rotate_left
              · intro wS hSw
                obtain ⟨hSw1, hSw2⟩ := hSw
                go_simp <;> with_reducible rfl
              try simp only [Act.put, List.getElem_toArray, List.getElem_cons_succ, List.getElem_cons_zero, List.setIfInBounds_toArray, List.set_cons_zero, List.set_cons_succ]
              refine wpAnyH_ready (rs := [13]) (by kernel_rfl) (by simp) ?_
              refine AllReadyH.cons rfl (fun K hK => ?_) AllReadyH.nil
              go_simp
              refine hK.out _ _ ⟨HK.out.1.cells.2.1, k7⟩ (fun hHeld => ?_)
              clear hK K hHeld
              try simp only [Act.put, List.getElem_toArray, List.getElem_cons_succ, List.getElem_cons_zero, List.setIfInBounds_toArray, List.set_cons_zero, List.set_cons_succ]
              refine wpAnyH_done (by kernel_rfl) ?_ _
              refine NoPanic.normal ?_
              clear HW hcv c0 f0 c1 f1 e0 e1 cv1 k1 k2 k3 k5 k7
              generalize (w6.setCell ⟨g, L.length, none⟩ (.slice ao6 (cur.length + 1) c6)) = W7 at *
              generalize Value.slice ao6 (cur.length + 1) c6 = ucur1 at *
              obtain ⟨⟨c0, f0⟩, c1, f1⟩ := HK.out.1.cells
              unfold strV at c0
              go_wp2_with fail
              go_roundw
              case rel => exact ⟨_, L.length, b.length + 1, [], rfl, rfl, by go_num, by omega, by omega, by omega, .inr ⟨rfl, Lib.hid ⟨tag, L, cur ++ [word], H, _, us, _, hR2.out, HK.out.1, HK.out.2⟩⟩⟩
              case measure => simp [intOf]
          · have d6 : decide ((0 : Int) < (word.length : Int)) = false := decide_eq_false (by omega)
            by_cases hc0 : 0 < cur.length
            · have d7 : decide ((0 : Int) < (cur.length : Int)) = true := decide_eq_true (by omega)
              have hcl : closeE cur word = cur ++ [word] := if_neg (fun h => by have h1 : word.length = 0 := congrArg List.length h.1; have h2 : cur.length = 0 := congrArg List.length h.2; omega)
              have hR2 := Lib.hid (show R = ⟨tag, L ++ [cur ++ [word]]⟩ by rw [← hcl, ← hR, List.drop_length]; rfl)
              have HW := Lib.hid (comp_step word (by omega) hA hE)
              clear HS HB hR
              unfold strV at hcv c0
              obtain ⟨e0, e1⟩ := e0
              obtain ⟨i2, hk, hx0, hx1, hx2⟩ := info_parts info_str
              have i3 : (0 : Int) ≤ (L.length : Int) := by omega
              have i4 : (L.length : Int) < ((L.length + 1 : Nat) : Int) := by omega
              have i5 : (L.length : Int) < (L.length : Int) + 1 := by omega
              clear hA hE
              go_wp2_with fail
              have cv1 := HW.out.cv1
              unfold ReadsAs at cv1
              refine wp_region_noPanic ?_
              refine wp_region_held_drew (S := fun w' => w'.cell? ⟨w.heap.size + 2, 1, none⟩ = some (.slice (some ⟨g, 0, none⟩) (L.length + 1) capE) ∧ (convert 32 9 (.slice ao3 word.length c3)).run Try.prog w' = .ok (.string ⟨word.toArray⟩) w') (by kernel_rfl) ⟨c1, cv1⟩ (fun hHeld => ?_)
              refine wpAnyH_take (i := 0) (v := ?_) rfl (by kernel_rfl) (by kernel_rfl) (by kernel_rfl) (fun _ _ _ h => h) (Or.inl ⟨by rfl, ?_⟩) (by assumption) ?_
              rotate_left
              · intro wS hSw
                obtain ⟨hSw1, hSw2⟩ := hSw
                go_simp <;> with_reducible rfl
              try simp only [Act.put, List.getElem_toArray, List.getElem_cons_zero, List.setIfInBounds_toArray, List.set_cons_zero, List.set_cons_succ]
              refine wpAnyH_take (i := 1) (v := ?_) rfl (by kernel_rfl) (by kernel_rfl) (by kernel_rfl) (fun _ _ _ h => h) (Or.inl ⟨by rfl, ?_⟩) (by assumption) ?_
              rotate_left
              · intro wS hSw
                obtain ⟨hSw1, hSw2⟩ := hSw
                go_simp <;> with_reducible rfl
              try simp only [Act.put, List.getElem_toArray, List.getElem_cons_succ, List.getElem_cons_zero, List.setIfInBounds_toArray, List.set_cons_zero, List.set_cons_succ]
              refine wpAnyH_take (i := 2) (v := ?_) rfl (by kernel_rfl) (by kernel_rfl) (by kernel_rfl) (fun _ _ _ h => h) (Or.inl ⟨by rfl, ?_⟩) (by assumption) ?_
              rotate_left
              · intro wS hSw
                obtain ⟨hSw1, hSw2⟩ := hSw
                go_simp <;> with_reducible rfl
              try simp only [Act.put, List.getElem_toArray, List.getElem_cons_succ, List.getElem_cons_zero, List.setIfInBounds_toArray, List.set_cons_zero, List.set_cons_succ]
              refine wpAnyH_take (i := 3) (v := ?_) rfl (by kernel_rfl) (by kernel_rfl) (by kernel_rfl) (fun _ _ _ h => h) (Or.inl ⟨by rfl, ?_⟩) (by assumption) ?_
              rotate_left
              · intro wS hSw
                obtain ⟨hSw1, hSw2⟩ := hSw
                go_simp <;> with_reducible rfl
              try simp only [Act.put, List.getElem_toArray, List.getElem_cons_succ, List.getElem_cons_zero, List.setIfInBounds_toArray, List.set_cons_zero, List.set_cons_succ]
              refine wpAnyH_take (i := 4) (v := ?_) rfl (by kernel_rfl) (by kernel_rfl) (by kernel_rfl) (fun _ _ _ h => h) (Or.inl ⟨by rfl, ?_⟩) (by assumption) ?_
              rotate_left
              · intro wS hSw
                obtain ⟨hSw1, hSw2⟩ := hSw
                go_simp <;> with_reducible rfl
              try simp only [Act.put, List.getElem_toArray, List.getElem_cons_succ, List.getElem_cons_zero, List.setIfInBounds_toArray, List.set_cons_zero, List.set_cons_succ]
              refine wpAnyH_take (i := 5) (v := ?_) rfl (by kernel_rfl) (by kernel_rfl) (by kernel_rfl) (fun _ _ _ h => h) (Or.inl ⟨by rfl, ?_⟩) (by assumption) ?_
              rotate_left
              · intro wS hSw
                obtain ⟨hSw1, hSw2⟩ := hSw
                go_simp <;> with_reducible rfl
              try simp only [Act.put, List.getElem_toArray, List.getElem_cons_succ, List.getElem_cons_zero, List.setIfInBounds_toArray, List.set_cons_zero, List.set_cons_succ]
              refine wpAnyH_take (i := 6) (v := ?_) rfl (by kernel_rfl) (by kernel_rfl) (by kernel_rfl) (fun _ _ _ h => h) (Or.inl ⟨by rfl, ?_⟩) (by assumption) ?_
              rotate_left
              · intro wS hSw
                obtain ⟨hSw1, hSw2⟩ := hSw
                go_simp <;> with_reducible rfl
              try simp only [Act.put, List.getElem_toArray, List.getElem_cons_succ, List.getElem_cons_zero, List.setIfInBounds_toArray, List.set_cons_zero, List.set_cons_succ]
              refine wpAnyH_take (i := 8) (v := ?_) rfl (by kernel_rfl) (by kernel_rfl) (by kernel_rfl) (fun _ _ _ h => h) (Or.inl ⟨by rfl, ?_⟩) (by assumption) ?_
              rotate_left
              · intro wS hSw
                obtain ⟨hSw1, hSw2⟩ := hSw
                go_simp <;> with_reducible rfl
              try simp only [Act.put, List.getElem_toArray, List.getElem_cons_succ, List.getElem_cons_zero, List.setIfInBounds_toArray, List.set_cons_zero, List.set_cons_succ]
              refine wpAnyH_take (i := 9) (v := ?_) rfl (by kernel_rfl) (by kernel_rfl) (by kernel_rfl) (fun _ _ _ h => h) (Or.inl ⟨by rfl, ?_⟩) (by assumption) ?_
              rotate_left
              · intro wS hSw
                obtain ⟨hSw1, hSw2⟩ := hSw
                go_simp <;> with_reducible rfl
              try simp only [Act.put, List.getElem_toArray, List.getElem_cons_succ, List.getElem_cons_zero, List.setIfInBounds_toArray, List.set_cons_zero, List.set_cons_succ]
              refine wpAnyH_ready (rs := [7, 10]) (by kernel_rfl) (by simp) ?_
              refine AllReadyH.cons rfl (fun K hK => ?_) (AllReadyH.cons rfl (fun K hK => ?_) AllReadyH.nil)
              · go_simp
                refine hK.out _ _ (hHeld) (fun hHeld => ?_)
                clear hK K
                try simp only [Act.put, List.getElem_toArray, List.getElem_cons_succ, List.getElem_cons_zero, List.setIfInBounds_toArray, List.set_cons_zero, List.set_cons_succ]
                refine wpAnyH_ready (rs := [10]) (by kernel_rfl) (by simp) ?_
                refine AllReadyH.cons rfl (fun K hK => ?_) AllReadyH.nil
                go_simp
                refine hK.out _ _ (⟨cellAlloc2 c1, HW.out.cv2⟩) (fun hHeld => ?_)
                clear hK K
                try simp only [Act.put, List.getElem_toArray, List.getElem_cons_succ, List.getElem_cons_zero, List.setIfInBounds_toArray, List.set_cons_zero, List.set_cons_succ]
                refine wpAnyH_ready (rs := [11]) (by kernel_rfl) (by simp) ?_
                refine AllReadyH.cons rfl (fun K hK => ?_) AllReadyH.nil
                refine step_append_own rfl (.tmp 104) (.tmp 107) 49 rfl H 9 i2 _ 1 16 Try.underlying49 hk hx0 hx1 hx2 rfl (by omega) _ cur.length (cur.map strV) rfl HW.out.row HW.out.hi (some ⟨wr.heap.size, 0, none⟩) 1 1 [strV word] rfl rfl (fun h => by cases h) HW.out.news HW.out.one (by unfold maxLen; omega) (by omega) ?_
                intro u1 w6 own1 grow1
                obtain ⟨⟨k1, k2⟩, k3, ⟨ao6, c6, rfl⟩, k5, k7, k6⟩ := HW.out.next u1 w6 own1 grow1
                unfold ReadsAs at k5 k7
                have HK := Lib.hid k6
                clear k6 own1 grow1
                refine hK.out _ _ (⟨k3, k5⟩) (fun hHeld => ?_)
                clear hK K
                try simp only [Act.put, List.getElem_toArray, List.getElem_cons_succ, List.getElem_cons_zero, List.setIfInBounds_toArray, List.set_cons_zero, List.set_cons_succ]
                refine wpAnyH_take (i := 12) (v := ?_) rfl (by kernel_rfl) (by kernel_rfl) (by kernel_rfl) (fun _ _ _ h => h) (Or.inl ⟨by rfl, ?_⟩) (by assumption) ?_
                rotate_left
                · intro wS hSw
                  obtain ⟨hSw1, hSw2⟩ := hSw
                  go_simp <;> with_reducible rfl
                try simp only [Act.put, List.getElem_toArray, List.getElem_cons_succ, List.getElem_cons_zero, List.setIfInBounds_toArray, List.set_cons_zero, List.set_cons_succ]
                refine wpAnyH_ready (rs := [13]) (by kernel_rfl) (by simp) ?_
                refine AllReadyH.cons rfl (fun K hK => ?_) AllReadyH.nil
                go_simp
                refine hK.out _ _ ⟨HK.out.1.cells.2.1, k7⟩ (fun hHeld => ?_)
                clear hK K hHeld
                try simp only [Act.put, List.getElem_toArray, List.getElem_cons_succ, List.getElem_cons_zero, List.setIfInBounds_toArray, List.set_cons_zero, List.set_cons_succ]
                refine wpAnyH_done (by kernel_rfl) ?_ _
                refine NoPanic.normal ?_
                clear HW hcv c0 f0 c1 f1 e0 e1 cv1 k1 k2 k3 k5 k7
                generalize (w6.setCell ⟨g, L.length, none⟩ (.slice ao6 (cur.length + 1) c6)) = W7 at *
                generalize Value.slice ao6 (cur.length + 1) c6 = ucur1 at *
                obtain ⟨⟨c0, f0⟩, c1, f1⟩ := HK.out.1.cells
                unfold strV at c0
                go_wp2_with fail
                go_roundw
                case rel => exact ⟨_, L.length, b.length + 1, [], rfl, rfl, by go_num, by omega, by omega, by omega, .inr ⟨rfl, Lib.hid ⟨tag, L, cur ++ [word], H, _, us, _, hR2.out, HK.out.1, HK.out.2⟩⟩⟩
                case measure => simp [intOf]
              · go_simp
                refine hK.out _ _ (⟨cellAlloc2 c1, HW.out.cv2⟩) (fun hHeld => ?_)
                clear hK K
                try simp only [Act.put, List.getElem_toArray, List.getElem_cons_succ, List.getElem_cons_zero, List.setIfInBounds_toArray, List.set_cons_zero, List.set_cons_succ]
                refine wpAnyH_ready (rs := [7]) (by kernel_rfl) (by simp) ?_
                refine AllReadyH.cons rfl (fun K hK => ?_) AllReadyH.nil
                have e0a : (wr.alloc (.cells #[.string ⟨word.toArray⟩] 9)).cell? ⟨g, L.length, none⟩ = some (.slice ao2 cur.length c2) := cellAlloc2 e0
                go_simp
                refine hK.out _ _ (hHeld) (fun hHeld => ?_)
                clear hK K
                try simp only [Act.put, List.getElem_toArray, List.getElem_cons_succ, List.getElem_cons_zero, List.setIfInBounds_toArray, List.set_cons_zero, List.set_cons_succ]
                refine wpAnyH_ready (rs := [11]) (by kernel_rfl) (by simp) ?_
                refine AllReadyH.cons rfl (fun K hK => ?_) AllReadyH.nil
                refine step_append_own rfl (.tmp 104) (.tmp 107) 49 rfl H 9 i2 _ 1 16 Try.underlying49 hk hx0 hx1 hx2 rfl (by omega) _ cur.length (cur.map strV) rfl HW.out.row HW.out.hi (some ⟨wr.heap.size, 0, none⟩) 1 1 [strV word] rfl rfl (fun h => by cases h) HW.out.news HW.out.one (by unfold maxLen; omega) (by omega) ?_
                intro u1 w6 own1 grow1
                obtain ⟨⟨k1, k2⟩, k3, ⟨ao6, c6, rfl⟩, k5, k7, k6⟩ := HW.out.next u1 w6 own1 grow1
                unfold ReadsAs at k5 k7
                have HK := Lib.hid k6
                clear k6 own1 grow1
                refine hK.out _ _ (⟨k3, k5⟩) (fun hHeld => ?_)
                clear hK K
                try simp only [Act.put, List.getElem_toArray, List.getElem_cons_succ, List.getElem_cons_zero, List.setIfInBounds_toArray, List.set_cons_zero, List.set_cons_succ]
                refine wpAnyH_take (i := 12) (v := ?_) rfl (by kernel_rfl) (by kernel_rfl) (by kernel_rfl) (fun _ _ _ h => h) (Or.inl ⟨by rfl, ?_⟩) (by assumption) ?_
                rotate_left
                · intro wS hSw
                  obtain ⟨hSw1, hSw2⟩ := hSw
                  go_simp <;> with_reducible rfl
                try simp only [Act.put, List.getElem_toArray, List.getElem_cons_succ, List.getElem_cons_zero, List.setIfInBounds_toArray, List.set_cons_zero, List.set_cons_succ]
                refine wpAnyH_ready (rs := [13]) (by kernel_rfl) (by simp) ?_
                refine AllReadyH.cons rfl (fun K hK => ?_) AllReadyH.nil
                go_simp
                refine hK.out _ _ ⟨HK.out.1.cells.2.1, k7⟩ (fun hHeld => ?_)
                clear hK K hHeld
                try simp only [Act.put, List.getElem_toArray, List.getElem_cons_succ, List.getElem_cons_zero, List.setIfInBounds_toArray, List.set_cons_zero, List.set_cons_succ]
                refine wpAnyH_done (by kernel_rfl) ?_ _
                refine NoPanic.normal ?_
                clear HW hcv c0 f0 c1 f1 e0 e1 cv1 k1 k2 k3 k5 k7
                generalize (w6.setCell ⟨g, L.length, none⟩ (.slice ao6 (cur.length + 1) c6)) = W7 at *
                generalize Value.slice ao6 (cur.length + 1) c6 = ucur1 at *
                obtain ⟨⟨c0, f0⟩, c1, f1⟩ := HK.out.1.cells
                unfold strV at c0
                go_wp2_with fail
                go_roundw
                case rel => exact ⟨_, L.length, b.length + 1, [], rfl, rfl, by go_num, by omega, by omega, by omega, .inr ⟨rfl, Lib.hid ⟨tag, L, cur ++ [word], H, _, us, _, hR2.out, HK.out.1, HK.out.2⟩⟩⟩
                case measure => simp [intOf]
            · have d7 : decide ((0 : Int) < (cur.length : Int)) = false := decide_eq_false (by omega)
              have hcl : closeE cur word = cur := by have h1 : word = [] := List.length_eq_zero_iff.1 (by omega); have h2 : cur = [] := List.length_eq_zero_iff.1 (by omega); rw [h1, h2]; rfl
              have hR2 := Lib.hid (show R = ⟨tag, L ++ [cur]⟩ by rw [← hcl, ← hR, List.drop_length]; rfl)
              have HK := Lib.hid (And.intro hA.empty hE)
              clear HS HB hR
              unfold strV at hcv c0
              obtain ⟨e0, e1⟩ := e0
              have i3 : (0 : Int) ≤ (L.length : Int) := by omega
              have i4 : (L.length : Int) < ((L.length + 1 : Nat) : Int) := by omega
              have i5 : (L.length : Int) < (L.length : Int) + 1 := by omega
              clear hA hE
              go_wp2_with fail
              go_roundw
              case rel => exact ⟨_, L.length, b.length + 1, [], rfl, rfl, by go_num, by omega, by omega, by omega, .inr ⟨rfl, Lib.hid ⟨tag, L, cur, H, _, us, _, hR2.out, HK.out.1, HK.out.2⟩⟩⟩
              case measure => simp [intOf]
    · obtain ⟨tag, L, cur, H, vE, us, ucur, hR, hA, hE⟩ := HE.out
      have d1 : decide ((i : Int) ≤ (b.length : Int)) = false := decide_eq_false (by omega)
      obtain ⟨g, capE, rfl, hcE⟩ := hE.form
      obtain ⟨⟨c0, f0⟩, c1, f1⟩ := hA.cells
      have r0 := hA.resCells
      obtain ⟨⟨r0, s0⟩, r1, s1⟩ := r0
      unfold strV at c0 r0
      have hEl := Lib.hid hE.done
      have hAb := Lib.hid hA
      have hRR := Lib.hid hR
      clear HE hR hA hE HB
      go_wp2_with fail
      obtain ⟨g0, g1⟩ := setTwo r0 r1 (.string ⟨tag.toArray⟩) (.slice (some ⟨g, 0, none⟩) (L.length + 1) capE)
      have hfin := hEl.out.setTwo hAb.out.res (.string ⟨tag.toArray⟩) (.slice (some ⟨g, 0, none⟩) (L.length + 1) capE)
      have hbel : Below w.heap.size w ((wr.setCell ⟨w.heap.size, 0, none⟩ (.string ⟨tag.toArray⟩)).setCell ⟨w.heap.size, 1, none⟩ (.slice (some ⟨g, 0, none⟩) (L.length + 1) capE)) := (hAb.out.below.setCell (Nat.le_refl _) _).setCell (Nat.le_refl _) _
      generalize (wr.setCell ⟨w.heap.size, 0, none⟩ (.string ⟨tag.toArray⟩)).setCell ⟨w.heap.size, 1, none⟩ (.slice (some ⟨g, 0, none⟩) (L.length + 1) capE) = W9 at *
      simp [bodyPost, results, Try.results33, go_sem, g0, g1]
      rw [hRR.out]
      exact ⟨_, ⟨rfl, rfl⟩, hfin, hbel⟩
end Go.Proofs.Ytenlfapdmknkjaa
