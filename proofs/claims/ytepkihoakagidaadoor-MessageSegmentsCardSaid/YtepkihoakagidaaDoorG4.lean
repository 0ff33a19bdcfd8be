/- The making of a message's segments: what lies in memory while it runs, and that each step keeps it. No condition.
The making of a message from raw numbers: what lies in memory while it runs, and that each step keeps it. No condition.
What the landed texts and simple of package message return. Condition: the cells are known, the library's table lies as it was laid.
What the landed simple of package message returns. Condition: the components' cells are known.
What bytes.Equal and the landed Next of package segment return: the first segment of the bytes. Condition: the bytes' cells are known, and there are not too many.
What the landed Encode and Next of package segment return, in the words that the laws use. Condition: the cells are known, and there are not too many.
What slices.Equal over texts and the landed isSameFrom of package message return. Condition: the cells are known.
What decoding and encoding have to do with each other, plain (split off XSegUse2). -/
import Derived.Test.YtepkihoakagidaaDoorZMsgRow
import Derived.Test.YtepkihoakagidaaDoorG3
import Derived.Test.YtepkihoakagidaaDoorG1
import Derived.Test.YtepkihoakagidaaDoorG2
import Derived.Handy
import Derived.Test.YtepkihoakagidaaDoorZLSegRead
namespace Go.Proofs.YtepkihoakagidaaDoor
open Go.RowKit

/-- The cells of a message. -/
def msgCells (m : Msg) (vl : Value) : Array Value := #[.int .i64 m.kind, .int .i64 m.frm, .int .i64 m.to_, .int .i64 m.num, .int .i64 m.day, .int .i64 m.lot, .int .i64 m.other, strV m.code, strV m.ctry, .int .i64 m.qty, .int .i64 m.amt, vl, strV m.text]
/-- The cells of a message in a block, as a walk reads them. -/
structure MsgAt (w : World) (B : Nat) (m : Msg) (vl : Value) : Prop where
  c0 : w.cell? ⟨B, 0, none⟩ = some (.int .i64 m.kind)
  c1 : w.cell? ⟨B, 1, none⟩ = some (.int .i64 m.frm)
  c2 : w.cell? ⟨B, 2, none⟩ = some (.int .i64 m.to_)
  c3 : w.cell? ⟨B, 3, none⟩ = some (.int .i64 m.num)
  c4 : w.cell? ⟨B, 4, none⟩ = some (.int .i64 m.day)
  c5 : w.cell? ⟨B, 5, none⟩ = some (.int .i64 m.lot)
  c6 : w.cell? ⟨B, 6, none⟩ = some (.int .i64 m.other)
  c7 : w.cell? ⟨B, 7, none⟩ = some (.string ⟨m.code.toArray⟩)
  c8 : w.cell? ⟨B, 8, none⟩ = some (.string ⟨m.ctry.toArray⟩)
  c9 : w.cell? ⟨B, 9, none⟩ = some (.int .i64 m.qty)
  c10 : w.cell? ⟨B, 10, none⟩ = some (.int .i64 m.amt)
  c11 : w.cell? ⟨B, 11, none⟩ = some vl
  c12 : w.cell? ⟨B, 12, none⟩ = some (.string ⟨m.text.toArray⟩)
theorem MsgAt.of {w : World} {B : Nat} {m : Msg} {vl : Value} {t : TypeId} {fz : Nat × Nat} (h : w.heap[B]? = some (.cells (msgCells m vl) t fz)) : MsgAt w B m vl := by
  constructor <;> (unfold World.cell?; rw [h]; rfl)
structure SgAt (w wx : World) (m : Msg) (vm vl : Value) (us : List Value) (acc : List Seg) : Prop where
  len : acc.length ≤ 6
  dec : DecAt w wx vl us acc
  box : wx.heap[w.heap.size]? = some (.cells (msgCells m vm) 24 (0, 0))
  nums : NumsIn (Has_ w) wx vm m.list
theorem SgAt.keep {w wx w1 : World} {m : Msg} {vm vl : Value} {us : List Value} {acc : List Seg} (h : SgAt w wx m vm vl us acc) (hb : Below wx.heap.size wx w1) : SgAt w w1 m vm vl us acc :=
  ⟨h.len, h.dec.keep hb, (hb.block _ (Array.getElem?_eq_some_iff.1 h.box).1).trans h.box, h.nums.keep fun b hb1 => ⟨hb1, hb.block b (Nat.lt_of_lt_of_le hb1 h.dec.below.size)⟩⟩
theorem SgAt.push {w wx w1 : World} {m : Msg} {vm vl v1 x : Value} {us : List Value} {acc : List Seg} {s : Seg} (h : SgAt w wx m vm vl us acc) (hr : w1.ownsRow w.heap.size 49 2 v1 (acc.length + 1) (us ++ [strV s.tag, x])) (hg : wx.grownBy w1 vl.ownBlock)
    (hx : ElemsIn (NotSeg wx) wx x s.els) (hs : s.tag.length ≤ maxLen) (hl : acc.length < 6) : SgAt w w1 m vm v1 (us ++ [strV s.tag, x]) (acc ++ [s]) :=
  ⟨by rw [List.length_append]; exact hl, h.dec.push hr hg hx hs, ((TurnsTy.of_grown hg (own_ty h.dec.row)).block _ _ _ _ h.box (by decide)).trans h.box, h.nums.keep fun b hb1 => ⟨hb1, hg.block b (Nat.lt_of_lt_of_le hb1 h.dec.below.size) (fun e => by
    have := (h.dec.row.lt b e.symm).1
    have hb2 : b < w.heap.size := hb1
    omega)⟩⟩
theorem SgAt.cells {w wx : World} {m : Msg} {vm vl : Value} {us : List Value} {acc : List Seg} (h : SgAt w wx m vm vl us acc) : MsgAt wx w.heap.size m vm := MsgAt.of h.box
theorem SgAt.slice {w wx : World} {m : Msg} {vm vl : Value} {us : List Value} {acc : List Seg} (h : SgAt w wx m vm vl us acc) : ∃ ao cap, vl = .slice ao acc.length cap := by
  rcases h.dec.row.2 with ⟨h1, h2⟩ | ⟨g, cap, cur, h1, _⟩
  · exact ⟨none, 0, by rw [h1, h2]⟩
  · exact ⟨_, cap, h1⟩
/-- The first segment, laid in a list of its own. -/
theorem SgAt.first {w w1 : World} {m : Msg} {vm x : Value} {s : Seg} (hb : Below w.heap.size w w1) (hbox : w1.heap[w.heap.size]? = some (.cells (msgCells m vm) 24 (0, 0))) (hn : NumsIn (Has_ w) w vm m.list) (hx : ElemsIn (NotSeg w1) w1 x s.els) (hs : s.tag.length ≤ maxLen) :
    SgAt w (w1.alloc (.cells #[strV s.tag, x] 49)) m vm (.slice (some ⟨w1.heap.size, 0, none⟩) 1 1) [strV s.tag, x] [s] := by
  have hba : Below w1.heap.size w1 (w1.alloc (.cells #[strV s.tag, x] 49)) := (Below.refl _ _).alloc (Nat.le_refl _) _
  have hnew : (w1.alloc (.cells #[strV s.tag, x] 49)).heap[w1.heap.size]? = some (.cells #[strV s.tag, x] 49 (0, 0)) := by
    show (w1.heap.push _)[w1.heap.size]? = some _
    simp
  refine ⟨by simp, ⟨⟨rfl, .inr ⟨w1.heap.size, 1, _, rfl, hb.size, hnew, Nat.le_refl _, by unfold maxLen; omega, rfl, rfl⟩⟩, fun i s1 hi => ?_, hb.trans (hba.mono hb.size)⟩, (hba.block _ (Array.getElem?_eq_some_iff.1 hbox).1).trans hbox, hn.keep fun b hb1 => ⟨hb1, (hba.block b (Nat.lt_of_lt_of_le hb1 hb.size)).trans (hb.block b hb1)⟩⟩
  have hlt := (List.getElem?_eq_some_iff.1 hi).1
  have h1 : ([s] : List Seg).length = 1 := rfl
  obtain rfl : i = 0 := by omega
  simp at hi
  subst hi
  exact ⟨rfl, hs, x, rfl, hx.keep fun b hb1 => hb1.keep hba⟩
/-- row over a list that was just made. -/
theorem row_new (tag : List UInt8) (l : List Int) (W : World) (ha : l.all amB = true) (hl : l.length ≤ 100) :
    Calls Tryd.prog 45 #[strV tag, .slice (some ⟨W.heap.size, 0, none⟩) l.length l.length] (W.alloc (.cells (l.map fun n => (.int .i64 n : Value)).toArray 3)) fun e w' => ∃ u, e = .returned (.agg #[strV tag, u]) ∧ ElemsIn (NotSeg w') w' u (rowS tag l).els ∧ Below W.heap.size W w' := by
  have hb : Below W.heap.size W (W.alloc (.cells (l.map fun n => (.int .i64 n : Value)).toArray 3)) := (Below.refl _ _).alloc (Nat.le_refl _) _
  refine (refRow_any tag _ l _ (nums_new W l 3 (by omega)) ha hl).mono ?_
  rintro e w1 ⟨u, h1, h2, h3⟩
  exact ⟨u, h1, h2, hb.trans (h3.mono hb.size)⟩

/-- A store into the box of a segment that is none of the list's. -/
theorem DecAt.setSeg {w wx : World} {vl : Value} {us : List Value} {acc : List Seg} {B : Nat} {cs : Array Value} {fz : Nat × Nat} (h : DecAt w wx vl us acc) (hB : wx.heap[B]? = some (.cells cs 49 fz)) (hne : vl.ownBlock ≠ some B) (hlo : w.heap.size ≤ B) (i : Nat) (v : Value) :
    DecAt w (wx.setCell ⟨B, i, none⟩ v) vl us acc := by
  have hk : ∀ b, b ≠ B → (wx.setCell ⟨B, i, none⟩ v).heap[b]? = wx.heap[b]? := fun b hb => heap_setCell_other wx ⟨B, i, none⟩ b v hb
  refine ⟨⟨h.row.1, ?_⟩, fun j s hj => ?_, h.below.setCell hlo v⟩
  · rcases h.row.2 with h1 | ⟨g, cap, cur, h1, h2, h3, h4⟩
    · exact .inl h1
    · exact .inr ⟨g, cap, cur, h1, h2, (hk g (fun e => hne (by rw [h1, e]; rfl))).trans h3, h4⟩
  · obtain ⟨h1, h2, u, h3, h4⟩ := h.segs j s hj
    refine ⟨h1, h2, u, h3, h4.keep fun b hb => ?_⟩
    obtain ⟨c1, t, f1, hc, hnt⟩ := hb
    have e := hk b (ty_ne hc hB hnt)
    exact ⟨⟨c1, t, f1, e.trans hc, hnt⟩, e⟩
theorem SgAt.setSeg {w wx : World} {m : Msg} {vm vl : Value} {us : List Value} {acc : List Seg} {B : Nat} {cs : Array Value} {fz : Nat × Nat} (h : SgAt w wx m vm vl us acc) (hB : wx.heap[B]? = some (.cells cs 49 fz)) (hne : vl.ownBlock ≠ some B) (hlo : w.heap.size ≤ B) (i : Nat) (v : Value) :
    SgAt w (wx.setCell ⟨B, i, none⟩ v) m vm vl us acc :=
  ⟨h.len, h.dec.setSeg hB hne hlo i v, (heap_setCell_other wx ⟨B, i, none⟩ _ v (ty_ne h.box hB (by decide))).trans h.box, h.nums.keep fun b hb => ⟨hb, heap_setCell_other wx ⟨B, i, none⟩ b v (fun e => by
    have hb2 : b < w.heap.size := hb
    have e2 : b = B := e
    omega)⟩⟩
theorem SgAt.ne {w wx : World} {m : Msg} {vm vl : Value} {us : List Value} {acc : List Seg} (h : SgAt w wx m vm vl us acc) {B : Nat} (hB : wx.heap.size ≤ B) : vl.ownBlock ≠ some B := fun e => by
  have := (h.dec.row.lt B e).2
  omega
/-- A segment that is being made in a box of its own. -/
structure GdAt (w wx : World) (m : Msg) (vm vl : Value) (us : List Value) (acc : List Seg) (B : Nat) (tag : List UInt8) (x : Value) (E : List (List (List UInt8))) : Prop where
  sg : SgAt w wx m vm vl us acc
  box : wx.heap[B]? = some (.cells #[.string ⟨tag.toArray⟩, x] 49 (0, 0))
  els : ElemsIn (NotSeg wx) wx x E
  ne : vl.ownBlock ≠ some B
  lo : w.heap.size ≤ B
theorem GdAt.keep {w wx w1 : World} {m : Msg} {vm vl : Value} {us : List Value} {acc : List Seg} {B : Nat} {tag : List UInt8} {x : Value} {E : List (List (List UInt8))} (h : GdAt w wx m vm vl us acc B tag x E) (hb : Below wx.heap.size wx w1) : GdAt w w1 m vm vl us acc B tag x E :=
  ⟨h.sg.keep hb, (hb.block _ (Array.getElem?_eq_some_iff.1 h.box).1).trans h.box, h.els.keep fun _ hb1 => hb1.keep hb, h.ne, h.lo⟩
theorem GdAt.cells {w wx : World} {m : Msg} {vm vl : Value} {us : List Value} {acc : List Seg} {B : Nat} {tag : List UInt8} {x : Value} {E : List (List (List UInt8))} (h : GdAt w wx m vm vl us acc B tag x E) :
    (wx.cell? ⟨B, 0, none⟩ = some (.string ⟨tag.toArray⟩) ∧ wx.frozen? ⟨B, 0, none⟩ = false) ∧ wx.cell? ⟨B, 1, none⟩ = some x ∧ wx.frozen? ⟨B, 1, none⟩ = false := by
  have := h.box
  refine ⟨⟨?_, ?_⟩, ?_, ?_⟩ <;> simp [World.cell?, World.frozen?, this]
theorem GdAt.new {w wx : World} {m : Msg} {vm vl : Value} {us : List Value} {acc : List Seg} (h : SgAt w wx m vm vl us acc) (tag : List UInt8) {x : Value} {E : List (List (List UInt8))} (hx : ElemsIn (NotSeg wx) wx x E) :
    GdAt w (wx.alloc (.cells #[.string ⟨tag.toArray⟩, x] 49)) m vm vl us acc wx.heap.size tag x E := by
  have hb : Below wx.heap.size wx (wx.alloc (.cells #[.string ⟨tag.toArray⟩, x] 49)) := (Below.refl _ _).alloc (Nat.le_refl _) _
  refine ⟨h.keep hb, ?_, hx.keep fun _ hb1 => hb1.keep hb, h.ne (Nat.le_refl _), h.dec.below.size⟩
  show (wx.heap.push _)[wx.heap.size]? = some _
  simp
/-- The segment's elements are stored. -/
theorem GdAt.store {w wx : World} {m : Msg} {vm vl : Value} {us : List Value} {acc : List Seg} {B : Nat} {tag : List UInt8} {x x1 : Value} {E E1 : List (List (List UInt8))} (h : GdAt w wx m vm vl us acc B tag x E) (hx : ElemsIn (NotSeg wx) wx x1 E1) :
    GdAt w (wx.setCell ⟨B, 1, none⟩ x1) m vm vl us acc B tag x1 E1 := by
  refine ⟨h.sg.setSeg h.box h.ne h.lo 1 x1, ?_, hx.keep fun b hb => ?_, h.ne, h.lo⟩
  · rw [setCell_eq_setRow wx B 1 _ _ _ x1 h.box]
    exact setRow_heap wx B _ _ _ _ h.box
  · obtain ⟨c1, t, f1, hc, hnt⟩ := hb
    have e := heap_setCell_other wx ⟨B, 1, none⟩ b x1 (ty_ne hc h.box hnt)
    exact ⟨⟨c1, t, f1, e.trans hc, hnt⟩, e⟩
/-- Two elements ahead of others: what an append onto a list of two gives. -/
theorem els_joined {wx w1 : World} {base n : Nat} {v1 v2 vr : Value} {e1 e2 : List (List UInt8)} {E : List (List (List UInt8))} {us2 : List Value} (hb : Below wx.heap.size wx w1) (h1 : StrsIn (StrB wx) wx v1 e1) (h2 : StrsIn (StrB wx) wx v2 e2)
    (hE : ∀ (i : Nat) (e : List (List UInt8)), E[i]? = some e → ∃ u, us2[i]? = some u ∧ StrsIn (NotSeg wx) wx u e) (hr : w1.ownsRow base 50 1 vr n ([v1, v2] ++ us2)) (hn : n = E.length + 2) : ElemsIn (NotSeg w1) w1 vr (e1 :: e2 :: E) := by
  have hs : ∀ b, StrB wx b → NotSeg w1 b ∧ w1.heap[b]? = wx.heap[b]? := fun b h => by
    obtain ⟨h3, h4⟩ := h.later hb
    obtain ⟨cs, fz, h5⟩ := h3
    exact ⟨⟨cs, _, fz, h5, by decide⟩, h4⟩
  subst hn
  refine ⟨[v1, v2] ++ us2, (CellsIn.own hr).keep fun b hb1 => ?_, fun i e hi => ?_⟩
  · obtain ⟨cs, fz, hc⟩ := own_ty hr b hb1.2.2
    exact ⟨⟨cs, _, fz, hc, by decide⟩, rfl⟩
  · match i with
    | 0 =>
      simp at hi
      subst hi
      exact ⟨v1, rfl, h1.keep hs⟩
    | 1 =>
      simp at hi
      subst hi
      exact ⟨v2, rfl, h2.keep hs⟩
    | i + 2 =>
      obtain ⟨u, h3, h4⟩ := hE i e (by simpa using hi)
      exact ⟨u, by simpa using h3, h4.keep fun b hb1 => hb1.keep hb⟩
theorem lot_len (m : Msg) : (lotS_ m).length ≤ 1 := by unfold lotS_; split <;> simp
theorem gds_len (m : Msg) : (gdsS m).length ≤ 1 := by unfold gdsS; split <;> simp
theorem lst_len (m : Msg) : (lstS m).length ≤ 1 := by unfold lstS; split <;> simp
theorem txt_len (m : Msg) : (txtS m).length ≤ 1 := by unfold txtS; split <;> simp
/-- A list of one element, just made. -/
theorem els_one {W : World} {v : Value} {e : List (List UInt8)} (h : StrsIn (StrB W) W v e) : ElemsIn (NotSeg (W.alloc (.cells #[v] 50))) (W.alloc (.cells #[v] 50)) (.slice (some ⟨W.heap.size, 0, none⟩) 1 1) [e] := by
  have hb : Below W.heap.size W (W.alloc (.cells #[v] 50)) := (Below.refl _ _).alloc (Nat.le_refl _) _
  have hnew : (W.alloc (.cells #[v] 50)).heap[W.heap.size]? = some (.cells #[v] 50 (0, 0)) := by
    show (W.heap.push _)[W.heap.size]? = some _
    simp
  refine ⟨[v], ⟨rfl, .inr ⟨_, 1, rfl, Nat.le_refl _, by unfold maxLen; omega, fun _ => ⟨_, _, _, hnew, by decide⟩, fun j u hj => ?_⟩⟩, fun i e1 hi => ?_⟩
  · match j with
    | 0 =>
      simp at hj
      rw [← hj, Addr.add_lit]
      simp [go_sem]
    | j + 1 => simp at hj
  · match i with
    | 0 =>
      simp at hi
      subst hi
      exact ⟨v, rfl, h.keep fun b hb1 => by
        obtain ⟨h3, h4⟩ := hb1.later hb
        obtain ⟨cs, fz, h5⟩ := h3
        exact ⟨⟨cs, _, fz, h5, by decide⟩, h4⟩⟩
    | i + 1 => simp at hi
/-- The making of a list's segment since world W0: its box, the row of its one element, and that element's numbers so far. -/
structure LsAt (W0 wx : World) (Bs Be : Nat) (vc : Value) (l : List (List UInt8)) : Prop where
  below : Below W0.heap.size W0 wx
  box : wx.heap[Bs]? = some (.cells #[.string ⟨#[76, 83, 84]⟩, .slice (some ⟨Be, 0, none⟩) 1 1] 49 (0, 0))
  row : wx.heap[Be]? = some (.cells #[vc] 50 (0, 0))
  cur : wx.ownsRow W0.heap.size 9 1 vc l.length (l.map strV)
  short : ∀ x ∈ l, x.length ≤ maxLen
  lo : W0.heap.size ≤ Be
theorem LsAt.cells {W0 wx : World} {Bs Be : Nat} {vc : Value} {l : List (List UInt8)} (h : LsAt W0 wx Bs Be vc l) :
    (wx.cell? ⟨Bs, 0, none⟩ = some (.string ⟨#[76, 83, 84]⟩) ∧ wx.cell? ⟨Bs, 1, none⟩ = some (.slice (some ⟨Be, 0, none⟩) 1 1)) ∧ wx.cell? ⟨Be, 0, none⟩ = some vc ∧ wx.frozen? ⟨Be, 0, none⟩ = false := by
  have h1 := h.box
  have h2 := h.row
  refine ⟨⟨?_, ?_⟩, ?_, ?_⟩ <;> simp [World.cell?, World.frozen?, h1, h2]
theorem LsAt.keep {W0 wx w1 : World} {Bs Be : Nat} {vc : Value} {l : List (List UInt8)} (h : LsAt W0 wx Bs Be vc l) (hb : Below wx.heap.size wx w1) : LsAt W0 w1 Bs Be vc l :=
  ⟨h.below.trans (hb.mono h.below.size), (hb.block _ (Array.getElem?_eq_some_iff.1 h.box).1).trans h.box, (hb.block _ (Array.getElem?_eq_some_iff.1 h.row).1).trans h.row, own_keep h.cur hb, h.short, h.lo⟩
theorem LsAt.mid {W0 wx w1 : World} {Bs Be : Nat} {vc : Value} {l : List (List UInt8)} (h : LsAt W0 wx Bs Be vc l) (hg : wx.grownBy w1 vc.ownBlock) : w1.heap[Bs]? = some (.cells #[.string ⟨#[76, 83, 84]⟩, .slice (some ⟨Be, 0, none⟩) 1 1] 49 (0, 0)) ∧ w1.heap[Be]? = some (.cells #[vc] 50 (0, 0)) := by
  have ht := TurnsTy.of_grown hg (own_ty h.cur)
  exact ⟨(ht.block _ _ _ _ h.box (by decide)).trans h.box, (ht.block _ _ _ _ h.row (by decide)).trans h.row⟩
theorem LsAt.midCells {W0 wx w1 : World} {Bs Be : Nat} {vc : Value} {l : List (List UInt8)} (h : LsAt W0 wx Bs Be vc l) (hg : wx.grownBy w1 vc.ownBlock) :
    w1.cell? ⟨Bs, 1, none⟩ = some (.slice (some ⟨Be, 0, none⟩) 1 1) ∧ w1.cell? ⟨Be, 0, none⟩ = some vc ∧ w1.frozen? ⟨Be, 0, none⟩ = false := by
  obtain ⟨h1, h2⟩ := h.mid hg
  refine ⟨?_, ?_, ?_⟩ <;> simp [World.cell?, World.frozen?, h1, h2]
theorem LsAt.push {W0 wx w1 : World} {Bs Be : Nat} {vc v1 : Value} {l : List (List UInt8)} {x : List UInt8} (h : LsAt W0 wx Bs Be vc l) (hr : w1.ownsRow W0.heap.size 9 1 v1 (l.length + 1) (l.map strV ++ [strV x])) (hg : wx.grownBy w1 vc.ownBlock) (hx : x.length ≤ maxLen) : LsAt W0 (w1.setCell ⟨Be, 0, none⟩ v1) Bs Be v1 (l ++ [x]) := by
  obtain ⟨h1, h2⟩ := h.mid hg
  have ht2 := TurnsTy.of_set (i := 0) h2 v1
  refine ⟨(h.below.grown hg h.below.size fun k hk => (h.cur.lt k hk).1).setCell h.lo v1, (ht2.block _ _ _ _ h1 (by decide)).trans h1, ?_, by simpa using ht2.own hr (by decide), fun y hy => ?_, h.lo⟩
  · rw [setCell_eq_setRow w1 Be 0 _ _ _ v1 h2]
    exact setRow_heap w1 Be _ _ _ _ h2
  · rcases List.mem_append.1 hy with hy | hy
    · exact h.short y hy
    · rw [List.mem_singleton.1 hy]; exact hx
theorem LsAt.new (W0 : World) : LsAt W0 ((W0.alloc (.cells #[.slice none 0 0] 50)).alloc (.cells #[.string ⟨#[76, 83, 84]⟩, .slice (some ⟨W0.heap.size, 0, none⟩) 1 1] 49)) (W0.heap.size + 1) W0.heap.size (.slice none 0 0) [] := by
  have hb := (Below.refl W0.heap.size W0).alloc (Nat.le_refl _) (.cells #[.slice none 0 0] 50)
  refine ⟨hb.alloc hb.size _, ?_, ?_, World.ownsRow_nil _ _ _ _, fun x hx => absurd hx (by simp), Nat.le_refl _⟩
  · show ((W0.heap.push _).push _)[W0.heap.size + 1]? = _
    rw [Array.getElem?_push, if_pos (by simp)]
  · show ((W0.heap.push _).push _)[W0.heap.size]? = _
    simp [Array.getElem?_push]
theorem LsAt.els {W0 wx : World} {Bs Be : Nat} {vc : Value} {l : List (List UInt8)} (h : LsAt W0 wx Bs Be vc l) : ElemsIn (NotSeg wx) wx (.slice (some ⟨Be, 0, none⟩) 1 1) [l] := by
  refine ⟨[vc], ⟨rfl, .inr ⟨_, 1, rfl, Nat.le_refl _, by unfold maxLen; omega, fun _ => ⟨_, _, _, h.row, by decide⟩, fun j u hj => ?_⟩⟩, fun i e1 hi => ?_⟩
  · match j with
    | 0 =>
      simp at hj
      rw [← hj, Addr.add_lit]
      exact h.cells.2.1
    | j + 1 => simp at hj
  · match i with
    | 0 =>
      simp at hi
      subst hi
      refine ⟨vc, rfl, (CellsIn.own h.cur).keep fun b hb => ?_, h.short⟩
      obtain ⟨cs, fz, hc⟩ := own_ty h.cur b hb.2.2
      exact ⟨⟨cs, _, fz, hc, by decide⟩, rfl⟩
    | i + 1 => simp at hi
end Go.Proofs.YtepkihoakagidaaDoor
namespace Go.Proofs.YtepkihoakagidaaDoor
open Go.RowKit

theorem msg_mk {m : Msg} (h1 : rangeB m = true) (h2 : codeB m.code = true) (h3 : m.ctry = [] ∨ ctryB m.ctry = true) (h4 : m.list.length ≤ 64) (h5 : m.text.length ≤ 200) (h6 : m.list.all amB = true) : msgE m = 0 := by
  unfold msgE
  rw [if_pos h1, if_pos (by
    rw [h2, Bool.true_and, Bool.or_eq_true, List.isEmpty_iff]
    exact h3), if_pos (by rw [decide_eq_true h4, decide_eq_true h5]; rfl), if_pos h6]
theorem ok_first {a b c d e : Int} (h1 : 0 ≤ a) (h2 : a < 60) (b1 : 0 ≤ b) (b2 : b < 1000) (c1 : 0 ≤ c) (c2 : c < 1000) (d1 : 0 ≤ d) (d2 : d < 1000000001) (e1 : 0 ≤ e) (e2 : e < 36525) : msgE ⟨1 + a, b, c, d, e, 0, 0, [], [], 0, 0, [], []⟩ = 0 := by
  refine msg_mk ?_ rfl (.inl rfl) (by simp) (by simp) rfl
  simp [rangeB, inB, amB]
  omega
theorem ok_lot {m : Msg} (h : msgE m = 0) {a b : Int} (a1 : 0 ≤ a) (a2 : a < 1000000001) (b1 : 0 ≤ b) (b2 : b < 2) : msgE { m with lot := a, other := b } = 0 := by
  obtain ⟨g1, g2, g3, g4, g5, g6⟩ := msg_ok h
  refine msg_mk ?_ g2 g3 g4 g5 g6
  simp [rangeB, inB, amB] at g1 ⊢
  omega
theorem ok_lot1 {m : Msg} (h : msgE m = 0) {a : Int} (a1 : 0 ≤ a) (a2 : a < 1000000001) : msgE { m with lot := a } = 0 := by
  obtain ⟨g1, g2, g3, g4, g5, g6⟩ := msg_ok h
  refine msg_mk ?_ g2 g3 g4 g5 g6
  simp [rangeB, inB, amB] at g1 ⊢
  omega
theorem ok_other {m : Msg} (h : msgE m = 0) {b : Int} (b1 : 0 ≤ b) (b2 : b < 2) : msgE { m with other := b } = 0 := by
  obtain ⟨g1, g2, g3, g4, g5, g6⟩ := msg_ok h
  refine msg_mk ?_ g2 g3 g4 g5 g6
  simp [rangeB, inB, amB] at g1 ⊢
  omega
theorem ok_qty {m : Msg} (h : msgE m = 0) {a : Int} (a1 : 0 ≤ a) (a2 : a < 1000000001) : msgE { m with qty := a } = 0 := by
  obtain ⟨g1, g2, g3, g4, g5, g6⟩ := msg_ok h
  refine msg_mk ?_ g2 g3 g4 g5 g6
  simp [rangeB, inB, amB] at g1 ⊢
  omega
theorem ok_amt {m : Msg} (h : msgE m = 0) {a : Int} (a1 : -1000000000000 ≤ a) (a2 : a ≤ 1000000000000) : msgE { m with amt := a } = 0 := by
  obtain ⟨g1, g2, g3, g4, g5, g6⟩ := msg_ok h
  refine msg_mk ?_ g2 g3 g4 g5 g6
  simp [rangeB, inB, amB] at g1 ⊢
  omega
theorem ok_code {m : Msg} (h : msgE m = 0) {c : List UInt8} (hc : codeB c = true) : msgE { m with code := c } = 0 := by
  obtain ⟨g1, g2, g3, g4, g5, g6⟩ := msg_ok h
  exact msg_mk g1 hc g3 g4 g5 g6
theorem ok_ctry {m : Msg} (h : msgE m = 0) {c : List UInt8} (hc : ctryB c = true) : msgE { m with ctry := c } = 0 := by
  obtain ⟨g1, g2, g3, g4, g5, g6⟩ := msg_ok h
  exact msg_mk g1 g2 (.inr hc) g4 g5 g6
theorem ok_text {m : Msg} (h : msgE m = 0) {c : List UInt8} (hc : c.length ≤ 200) : msgE { m with text := c } = 0 := by
  obtain ⟨g1, g2, g3, g4, g5, g6⟩ := msg_ok h
  exact msg_mk g1 g2 g3 g4 hc g6
theorem ok_push {m : Msg} (h : msgE m = 0) {a : Int} (hl : m.list.length < 64) (a1 : -1000000000000 ≤ a) (a2 : a ≤ 1000000000000) : msgE { m with list := m.list ++ [a] } = 0 := by
  obtain ⟨g1, g2, g3, g4, g5, g6⟩ := msg_ok h
  refine msg_mk g1 g2 g3 (by rw [List.length_append]; exact hl) g5 ?_
  rw [List.all_append, g6]
  simp [amB]
  omega
/-- The cells of no message. -/
def noCells : Array Value := #[.int .i64 0, .int .i64 0, .int .i64 0, .int .i64 0, .int .i64 0, .int .i64 0, .int .i64 0, .string ⟨#[]⟩, .string ⟨#[]⟩, .int .i64 0, .int .i64 0, .slice none 0 0, .string ⟨#[]⟩]
structure MkAt (w wx : World) (RB SB B : Nat) (M : Msg) (vl : Value) : Prop where
  src : SourceAt w wx SB
  box : wx.heap[B]? = some (.cells (msgCells M vl) 24 (0, 0))
  res : wx.heap[RB]? = some (.cells noCells 24 (0, 0))
  row : wx.ownsRow (B + 1) 3 1 vl M.list.length (M.list.map fun n => .int .i64 n)
  ok : msgE M = 0
  lt : RB < SB
  ltB : SB < B
theorem MkAt.size {w wx : World} {RB SB B : Nat} {M : Msg} {vl : Value} (h : MkAt w wx RB SB B M vl) : B < wx.heap.size := (Array.getElem?_eq_some_iff.1 h.box).1
theorem MkAt.since {w wx w1 : World} {RB SB B : Nat} {M : Msg} {vl : Value} (h : MkAt w wx RB SB B M vl) (hs : SourceAt w w1 SB) (h2 : Since SB wx w1) : MkAt w w1 RB SB B M vl := by
  have hz := h.size
  have hl := h.lt
  have hB := h.ltB
  exact ⟨hs, (h2.block B hz (by omega)).trans h.box, (h2.block _ (by omega) (by omega)).trans h.res, h2.row h.row (by omega), h.ok, hl, hB⟩
theorem MkAt.cells {w wx : World} {RB SB B : Nat} {M : Msg} {vl : Value} (h : MkAt w wx RB SB B M vl) : MsgAt wx B M vl := MsgAt.of h.box
theorem MkAt.free {w wx : World} {RB SB B : Nat} {M : Msg} {vl : Value} (h : MkAt w wx RB SB B M vl) (j : Nat) : wx.frozen? ⟨B, j, none⟩ = false := by
  have := h.box
  simp [World.frozen?, this]
/-- A field is stored. -/
theorem MkAt.put {w wx : World} {RB SB B : Nat} {M M1 : Msg} {vl : Value} (h : MkAt w wx RB SB B M vl) (j : Nat) (v : Value) (hc : (msgCells M vl).setIfInBounds j v = msgCells M1 vl) (hl : M1.list = M.list) (ho : msgE M1 = 0) : MkAt w (wx.setCell ⟨B, j, none⟩ v) RB SB B M1 vl := by
  have hlt := h.lt
  have hB := h.ltB
  have hk : ∀ b, b ≠ B → (wx.setCell ⟨B, j, none⟩ v).heap[b]? = wx.heap[b]? := fun b hb => heap_setCell_other wx ⟨B, j, none⟩ b v hb
  have hg : wx.grownBy (wx.setCell ⟨B, j, none⟩ v) (some B) := ⟨rfl, rfl, rfl, by simp, fun k _ hk2 => hk k (fun e => hk2 (by rw [e]))⟩
  refine ⟨h.src.grown hg fun k hk2 => by cases hk2; exact hB, ?_, (hk _ (by omega)).trans h.res, ?_, ho, hlt, hB⟩
  · rw [setCell_eq_setRow wx B j _ _ _ v h.box, ← hc]
    exact setRow_heap wx B _ _ _ _ h.box
  · rw [hl]
    obtain ⟨r1, r2⟩ := h.row
    refine ⟨r1, ?_⟩
    rcases r2 with r2 | ⟨g, cap, cur, r3, r4, r5, r6⟩
    · exact .inl r2
    · exact .inr ⟨g, cap, cur, r3, r4, (hk g (by omega)).trans r5, r6⟩
/-- A number more: it is appended, and the row is stored back. -/
theorem MkAt.push {w wx w1 : World} {RB SB B : Nat} {M : Msg} {vl v1 : Value} {a : Int} (h : MkAt w wx RB SB B M vl) (hr : w1.ownsRow (B + 1) 3 1 v1 (M.list.length + 1) ((M.list.map fun n => (.int .i64 n : Value)) ++ [.int .i64 a])) (hg : wx.grownBy w1 vl.ownBlock) (ho : msgE { M with list := M.list ++ [a] } = 0) :
    MkAt w (w1.setCell ⟨B, 11, none⟩ v1) RB SB B { M with list := M.list ++ [a] } v1 := by
  have hlt := h.lt
  have hB := h.ltB
  have hz := h.size
  have hown : ∀ k, vl.ownBlock = some k → B < k := fun k hk => (h.row.lt k hk).1
  have hb : ∀ b, b ≤ B → w1.heap[b]? = wx.heap[b]? := fun b hb => hg.block b (by omega) (fun e => by have := hown b e.symm; omega)
  have hbox := (hb B (Nat.le_refl _)).trans h.box
  have hk : ∀ b, b ≠ B → (w1.setCell ⟨B, 11, none⟩ v1).heap[b]? = w1.heap[b]? := fun b hb => heap_setCell_other w1 ⟨B, 11, none⟩ b v1 hb
  have hg2 : w1.grownBy (w1.setCell ⟨B, 11, none⟩ v1) (some B) := ⟨rfl, rfl, rfl, by simp, fun k _ hk2 => hk k (fun e => hk2 (by rw [e]))⟩
  refine ⟨(h.src.grown hg fun k hk2 => by have := hown k hk2; omega).grown hg2 fun k hk2 => by cases hk2; exact hB, ?_, (hk _ (by omega)).trans ((hb _ (by omega)).trans h.res), ?_, ho, hlt, hB⟩
  · rw [setCell_eq_setRow w1 B 11 _ _ _ v1 hbox]
    exact setRow_heap w1 B _ _ _ _ hbox
  · have hr2 : w1.ownsRow (B + 1) 3 1 v1 (M.list ++ [a]).length ((M.list ++ [a]).map fun n => (.int .i64 n : Value)) := by simpa using hr
    obtain ⟨r1, r2⟩ := hr2
    refine ⟨r1, ?_⟩
    rcases r2 with r2 | ⟨g, cap, cur, r3, r4, r5, r6⟩
    · exact .inl r2
    · exact .inr ⟨g, cap, cur, r3, r4, (hk g (by omega)).trans r5, r6⟩
theorem MkAt.mid {w wx w1 : World} {RB SB B : Nat} {M : Msg} {vl : Value} (h : MkAt w wx RB SB B M vl) (hg : wx.grownBy w1 vl.ownBlock) : w1.cell? ⟨B, 11, none⟩ = some vl ∧ w1.frozen? ⟨B, 11, none⟩ = false := by
  have hbox := (hg.block B h.size (fun e => by have := (h.row.lt B e.symm).1; omega)).trans h.box
  refine ⟨?_, ?_⟩
  · unfold World.cell?; rw [hbox]; rfl
  · simp [World.frozen?, hbox]
theorem MkAt.start {w W1 : World} {RB SB : Nat} {M : Msg} (hs : SourceAt w W1 SB) (hres : W1.heap[RB]? = some (.cells noCells 24 (0, 0))) (hlt : RB < SB) (hM : M.list = []) (ho : msgE M = 0) :
    MkAt w (W1.alloc (.cells (msgCells M (.slice none 0 0)) 24)) RB SB W1.heap.size M (.slice none 0 0) := by
  have hb : Below W1.heap.size W1 (W1.alloc (.cells (msgCells M (.slice none 0 0)) 24)) := (Below.refl _ _).alloc (Nat.le_refl _) _
  refine ⟨hs.alloc _, ?_, (hb.block _ (Array.getElem?_eq_some_iff.1 hres).1).trans hres, by rw [hM]; exact World.ownsRow_nil _ _ _ _, ho, hlt, hs.lt⟩
  show (W1.heap.push _)[W1.heap.size]? = some _
  simp
theorem source_from {w W1 : World} {v : Value} {m : Nat} {f : Nat → Int} (hb : Below w.heap.size w W1) (hm : m ≤ 1000000) (h : ListAt w .i64 v m f) : SourceAt w (W1.alloc (.cells #[v, .int .i64 0] 66)) W1.heap.size :=
  ⟨hb.size, hb.alloc hb.size _, v, m, f, 0, h, hm, Nat.zero_le _, by simp, by simp, by simp⟩
end Go.Proofs.YtepkihoakagidaaDoor
namespace Go.Proofs.YtepkihoakagidaaDoor
open Go.RowKit

/-- n cells f 0 .. f (n - 1) of one type in a block that was made since w. -/
structure RowsAt (t : TypeId) (w wx : World) (B n : Nat) (f : Nat → Value) : Prop where
  below : Below w.heap.size w wx
  lo : w.heap.size ≤ B
  blk : ∃ cs, wx.heap[B]? = some (.cells cs t (0, 0)) ∧ cs.size = n ∧ ∀ j, j < n → cs[j]? = some (f j)
theorem RowsAt.keep {t : TypeId} {w wx w1 : World} {B n : Nat} {f : Nat → Value} (h : RowsAt t w wx B n f) (hb : Below wx.heap.size wx w1) : RowsAt t w w1 B n f := by
  obtain ⟨cs, h1, h2, h3⟩ := h.blk
  exact ⟨h.below.trans (hb.mono h.below.size), h.lo, cs, (hb.block _ (Array.getElem?_eq_some_iff.1 h1).1).trans h1, h2, h3⟩
theorem RowsAt.cell {t : TypeId} {w wx : World} {B n : Nat} {f : Nat → Value} (h : RowsAt t w wx B n f) {j : Nat} (hj : j < n) : wx.cell? ⟨B, j, none⟩ = some (f j) ∧ wx.frozen? ⟨B, j, none⟩ = false := by
  obtain ⟨cs, h1, h2, h3⟩ := h.blk
  refine ⟨?_, by simp [World.frozen?, h1]⟩
  unfold World.cell?
  rw [h1]
  exact h3 j hj
theorem box_set {w : World} {B : Nat} {cs : Array Value} {t : TypeId} {fz : Nat × Nat} (h : w.heap[B]? = some (.cells cs t fz)) (j : Nat) (v : Value) : (w.setCell ⟨B, j, none⟩ v).heap[B]? = some (.cells (cs.setIfInBounds j v) t fz) := by
  rw [setCell_eq_setRow w B j _ _ _ v h]
  exact setRow_heap w B _ _ _ _ h
theorem RowsAt.put {t : TypeId} {w wx : World} {B n : Nat} {f g : Nat → Value} (h : RowsAt t w wx B n f) {i : Nat} {v : Value} (hg : ∀ j, j < n → g j = if j = i then v else f j) : RowsAt t w (wx.setCell ⟨B, i, none⟩ v) B n g := by
  obtain ⟨cs, h1, h2, h3⟩ := h.blk
  refine ⟨h.below.setCell h.lo v, h.lo, _, box_set h1 i v, by simpa using h2, fun j hj => ?_⟩
  rw [hg j hj]
  by_cases e : j = i
  · subst e
    rw [if_pos rfl, Array.getElem?_setIfInBounds_self_of_lt (by omega)]
  · rw [if_neg e, Array.getElem?_setIfInBounds_ne (fun x => e x.symm)]
    exact h3 j hj
theorem RowsAt.ty {t : TypeId} {w wx : World} {B n : Nat} {f : Nat → Value} (h : RowsAt t w wx B n f) : ∃ cs fz, wx.heap[B]? = some (.cells cs t fz) := by
  obtain ⟨cs, h1, _⟩ := h.blk
  exact ⟨cs, _, h1⟩
/-- The list of the cells. -/
theorem RowsAt.list {t : TypeId} {w wx : World} {B n : Nat} {f : Nat → Value} (h : RowsAt t w wx B n f) (hn : n ≤ maxLen) (p : Nat → Prop) (hp : p B) (xs : List Value) (hx : xs.length = n) (hf : ∀ j u, xs[j]? = some u → f j = u) : CellsIn p wx 1 (.slice (some ⟨B, 0, none⟩) n n) n xs := by
  refine ⟨by omega, .inr ⟨_, n, rfl, Nat.le_refl _, hn, fun _ => hp, fun j u hj => ?_⟩⟩
  have hlt := (List.getElem?_eq_some_iff.1 hj).1
  rw [Addr.add_lit, Nat.zero_add, (h.cell (show j < n by omega)).1, hf j u hj]
theorem info_txt : (Tryd.prog.info? 9).map (fun i => (i.zero, i.size, i.bytes)) = some (some (.string ⟨#[]⟩), 1, 16) := by kernel_rfl
theorem info_els : (Tryd.prog.info? 50).map (fun i => (i.zero, i.size, i.bytes)) = some (some (.slice none 0 0), 1, 24) := by kernel_rfl
theorem made_rows {t : TypeId} {z : Value} (n : Nat) (w : World) : RowsAt t w (w.alloc (.cells (madeCells #[z] n) t)) w.heap.size n (fun _ => z) := by
  refine ⟨(Below.refl _ _).alloc (Nat.le_refl _) _, Nat.le_refl _, madeCells #[z] n, ?_, by simp [madeCells], fun j hj => by simp [madeCells, hj, Nat.mod_one]⟩
  show (w.heap.push _)[w.heap.size]? = some _
  simp
theorem make_texts (n : Nat) (hn : n ≤ 1000000000000) (w : World) : (Instr.makeSlice 50 (.int .i64 (n : Int)) (.int .i64 (n : Int))).run Tryd.prog w = .ok (.slice (some ⟨w.heap.size, 0, none⟩) n n) (w.alloc (.cells (madeCells #[.string ⟨#[]⟩] n) 9)) := by
  obtain ⟨i0, hi, hz0, hz1, hz2⟩ := info_parts info_txt
  have h := run_make (P := Tryd.prog) w 50 9 i0 _ Tryd.underlying50 hi hz0 .i64 .i64 (n : Int) (n : Int) (by omega) (by omega) (by rw [hz2]; omega) (by omega)
  simpa [hz1, Value.cells] using h
theorem make_elems (n : Nat) (hn : n ≤ 1000000000000) (w : World) : (Instr.makeSlice 47 (.int .i64 (n : Int)) (.int .i64 (n : Int))).run Tryd.prog w = .ok (.slice (some ⟨w.heap.size, 0, none⟩) n n) (w.alloc (.cells (madeCells #[.slice none 0 0] n) 50)) := by
  obtain ⟨i0, hi, hz0, hz1, hz2⟩ := info_parts info_els
  have h := run_make (P := Tryd.prog) w 47 50 i0 _ Tryd.underlying47 hi hz0 .i64 .i64 (n : Int) (n : Int) (by omega) (by omega) (by rw [hz2]; omega) (by omega)
  simpa [hz1, Value.cells] using h

theorem itoa_short (n : Int) (h1 : -9223372036854775808 ≤ n) (h2 : n ≤ 9223372036854775807) : (Lib.itoa n).length ≤ 21 := by
  unfold Lib.itoa
  split
  · have := dec_digits_le 20 n.natAbs (by omega) (by omega)
    simp
    omega
  · have := dec_digits_le 20 n.toNat (by omega) (by omega)
    omega
set_option maxRecDepth 100000 in
set_option maxHeartbeats 1600000 in
/-- The numbers in decimal, in a block of texts of their own. -/
theorem texts_any (v : Value) (l : List Int) (w : World) (h : NumsIn (Has_ w) w v l) (hl : l.length ≤ 1000000000000) (hr : ∀ n ∈ l, -9223372036854775808 ≤ n ∧ n ≤ 9223372036854775807) (hL : MLib w) :
    Calls Tryd.prog 41 #[v] w fun e w' => ∃ B, e = .returned (.slice (some ⟨B, 0, none⟩) l.length l.length) ∧ StrsIn (StrB w') w' (.slice (some ⟨B, 0, none⟩) l.length l.length) (l.map Lib.itoa) ∧ Below w.heap.size w w' := by
  obtain ⟨ao, cap, rfl, _, hc⟩ := h.form
  have hmk := make_texts l.length hl w
  have hb0 : Below w.heap.size w (w.alloc (.cells (madeCells #[.string ⟨#[]⟩] l.length) 9)) := (Below.refl _ _).alloc (Nat.le_refl _) _
  have HR0 := Lib.hid (made_rows (t := 9) (z := .string ⟨#[]⟩) l.length w)
  have HN := Lib.hid h
  have HL := Lib.hid hL
  have Hr := Lib.hid hr
  have hlb : l.length ≤ 9223372036854775807 := by omega
  clear h hc hb0 hr hL
  go_enter Tryd.func41, Tryd.ntmps41
  go_wp2_with fail
  generalize w.alloc (.cells (madeCells #[.string ⟨#[]⟩] l.length) 9) = W at *
  go_loopw [11] (fun vi wx => ∃ (i : Nat) (f : Nat → Value), vi = .int .i64 i ∧ i ≤ l.length ∧ Hid (RowsAt 9 w wx w.heap.size l.length f) ∧ Hid (∀ j x, j < i → l[j]? = some x → f j = strV (Lib.itoa x))) (fun vi _ => l.length - (intOf vi).toNat)
  case atStart => exact ⟨0, _, by go_num, by omega, HR0, Lib.hid (fun j x hj _ => by omega)⟩
  case round =>
    obtain ⟨i, f, rfl, hi, hA, hF⟩ := hrel
    by_cases hlt : i < l.length
    · have d1 : decide ((i : Int) < (l.length : Int)) = true := decide_eq_true (by omega)
      obtain ⟨x, hx⟩ : ∃ x, l[i]? = some x := ⟨_, List.getElem?_eq_getElem hlt⟩
      obtain ⟨_, _, hs, _, hc⟩ := (HN.out.later hA.out.below).form
      injection hs with hs1 hs2 hs3
      subst hs1
      obtain ⟨a, rfl, hcx⟩ := hc i x hx
      have hxr := Hr.out x (List.mem_of_getElem? hx)
      have HI := Lib.hid (mItoa_any x hxr.1 hxr.2 wr (HL.out.keep hA.out.below))
      have j1 : (0 : Int) ≤ (i : Int) := by omega
      have j2 : (i : Int) < (l.length : Int) := by omega
      have Hx := Lib.hid hx
      obtain ⟨c1, f1⟩ := hA.out.cell hlt
      clear hc hs2 hs3 hx hxr
      go_wp2_with fail
      refine HI.out.mono ?_
      rintro e w1 ⟨rfl, hb⟩
      have hA1 := Lib.hid (hA.out.keep hb)
      obtain ⟨c2, f2⟩ := hA1.out.cell hlt
      clear hb hA HI c1 f1
      unfold strV
      go_wp2_with fail
      have hA2 := Lib.hid (hA1.out.put (i := i) (v := strV (Lib.itoa x)) (g := fun j => if j = i then strV (Lib.itoa x) else f j) (fun j _ => rfl))
      have hF2 := Lib.hid (show ∀ j y, j < i + 1 → l[j]? = some y → (fun j => if j = i then strV (Lib.itoa x) else f j) j = strV (Lib.itoa y) from fun j y hj hy => by
        by_cases e : j = i
        · subst e
          rw [Hx.out] at hy
          rw [← Option.some.inj hy]
          simp
        · simp only [if_neg e]
          exact hF.out j y (by omega) hy)
      clear hA1 c2 f2 hF Hx hcx
      unfold strV at hA2
      go_roundw
      case rel => exact ⟨i + 1, _, by go_num, by omega, hA2, hF2⟩
      case measure => simp [intOf]; omega
    · obtain rfl : i = l.length := by omega
      have d1 : decide ((l.length : Int) < (l.length : Int)) = false := decide_eq_false (by omega)
      go_wp2_with fail
      go_ret
      refine ⟨_, rfl, ⟨?_, ?_⟩, hA.out.below⟩
      · rw [List.length_map]
        obtain ⟨cs, fz, h1⟩ := hA.out.ty
        refine hA.out.list (by unfold maxLen; omega) _ ⟨cs, fz, h1⟩ _ (by simp) (fun j u hj => ?_)
        rw [List.map_map, List.getElem?_map] at hj
        obtain ⟨y, hy, rfl⟩ := Option.map_eq_some_iff.1 hj
        exact hF.out j y (List.getElem?_eq_some_iff.1 hy).1 hy
      · intro y hy
        obtain ⟨x, hx, rfl⟩ := List.mem_map.1 hy
        have := itoa_short x (Hr.out x hx).1 (Hr.out x hx).2
        unfold maxLen
        omega
end Go.Proofs.YtepkihoakagidaaDoor
namespace Go.Proofs.YtepkihoakagidaaDoor
open Go.RowKit

theorem StrsIn.turn {t : TypeId} {w w1 : World} {v : Value} {l : List (List UInt8)} (h : StrsIn (StrB w) w v l) (ht : TurnsTy t w w1) (hne : 9 ≠ t) : StrsIn (StrB w1) w1 v l := h.keep fun _ hb => hb.turn ht hne
theorem StrsIn.later {w w1 : World} {v : Value} {l : List (List UInt8)} (h : StrsIn (StrB w) w v l) (hb : Below w.heap.size w w1) : StrsIn (StrB w1) w1 v l := h.keep fun _ hh => hh.later hb
/-- The elements so far: of the first i components; the others are nil. -/
def ElemsTo (wx : World) (xs : List (List UInt8)) (i : Nat) (f : Nat → Value) : Prop := (∀ j x, j < i → xs[j]? = some x → StrsIn (StrB wx) wx (f j) (elS x)) ∧ ∀ j, i ≤ j → f j = .slice none 0 0
set_option maxRecDepth 100000 in
set_option maxHeartbeats 3200000 in
theorem simple_any (tag : List UInt8) (v : Value) (xs : List (List UInt8)) (w : World) (h : StrsIn (Has_ w) w v xs) (hl : xs.length ≤ 1000000000000) :
    Calls Tryd.prog 40 #[strV tag, v] w fun e w' => ∃ u, e = .returned (.agg #[strV tag, u]) ∧ ElemsIn (NotSeg w') w' u (xs.map elS) ∧ Below w.heap.size w w' := by
  obtain ⟨ao, cap, rfl, _, hc⟩ := h.form
  have hb0 : Below w.heap.size w (w.alloc (.cells #[.string ⟨#[]⟩, .slice none 0 0] 49)) := (Below.refl _ _).alloc (Nat.le_refl _) _
  have hres : (w.alloc (.cells #[.string ⟨#[]⟩, .slice none 0 0] 49)).heap[w.heap.size]? = some (.cells #[.string ⟨#[]⟩, .slice none 0 0] 49 (0, 0)) := by
    show (w.heap.push _)[w.heap.size]? = some _
    simp
  have hz : (w.alloc (.cells #[.string ⟨#[]⟩, .slice none 0 0] 49)).heap.size = w.heap.size + 1 := by simp
  have HN := Lib.hid (h.keep (has_keep hb0))
  have HB0 := Lib.hid hb0
  have Hres := Lib.hid hres
  have Hz := Lib.hid hz
  have hlb : xs.length ≤ 9223372036854775807 := by omega
  clear h hc hb0 hres hz
  unfold strV
  go_enter Tryd.func40, Tryd.ntmps40
  have hmk := make_elems xs.length hl (w.alloc (.cells #[.string ⟨#[]⟩, .slice none 0 0] 49))
  have HR0 := Lib.hid (made_rows (t := 50) (z := .slice none 0 0) xs.length (w.alloc (.cells #[.string ⟨#[]⟩, .slice none 0 0] 49)))
  go_wp2_with fail
  generalize w.alloc (.cells #[.string ⟨#[]⟩, .slice none 0 0] 49) = W0 at *
  generalize W0.alloc (.cells (madeCells #[.slice none 0 0] xs.length) 50) = W at *
  rw [Hz.out] at HR0
  go_loopw [13] (fun vi wx => ∃ (i : Nat) (f : Nat → Value), vi = .int .i64 i ∧ i ≤ xs.length ∧ Hid (RowsAt 50 W0 wx (w.heap.size + 1) xs.length f) ∧ Hid (ElemsTo wx xs i f)) (fun vi _ => xs.length - (intOf vi).toNat)
  case atStart => exact ⟨0, _, by go_num, by omega, HR0, Lib.hid ⟨fun j x hj _ => by omega, fun _ _ => rfl⟩⟩
  case round =>
    obtain ⟨i, f, rfl, hi, hA, hF⟩ := hrel
    by_cases hlt : i < xs.length
    · have d1 : decide ((i : Int) < (xs.length : Int)) = true := decide_eq_true (by omega)
      obtain ⟨x, hx⟩ : ∃ x, xs[i]? = some x := ⟨_, List.getElem?_eq_getElem hlt⟩
      obtain ⟨_, _, hs, _, hc⟩ := (HN.out.keep (has_keep hA.out.below)).form
      injection hs with hs1 hs2 hs3
      subst hs1
      obtain ⟨a, rfl, hcx, hxl⟩ := hc i x hx
      have j1 : (0 : Int) ≤ (i : Int) := by omega
      have j2 : (i : Int) < (xs.length : Int) := by omega
      have Hx := Lib.hid hx
      have Hxl := Lib.hid hxl
      unfold strV at hcx
      clear hc hs2 hs3 hx hxl
      by_cases h0 : x = []
      · have z0 : (x == []) = true := by rw [beq_iff_eq]; exact h0
        have hF2 := Lib.hid (show ElemsTo wr xs (i + 1) f from ⟨fun j y hj hy => by
          by_cases e : j = i
          · subst e
            rw [Hx.out] at hy
            rw [← Option.some.inj hy, hF.out.2 j (Nat.le_refl _), h0]
            exact ⟨⟨rfl, .inl ⟨rfl, rfl⟩⟩, fun x hx => by cases hx⟩
          · exact hF.out.1 j y (by omega) hy, fun j hj => hF.out.2 j (by omega)⟩)
        subst h0
        clear hF Hx Hxl z0
        go_wp2_with fail
        go_roundw
        case rel => exact ⟨i + 1, _, by go_num, by omega, hA, hF2⟩
        case measure => simp [intOf]; omega
      · have z0 : (x == []) = false := by rw [beq_eq_false_iff_ne]; exact h0
        have hb1 : Below wr.heap.size wr (wr.alloc (.cells #[.string ⟨x.toArray⟩] 9)) := (Below.refl _ _).alloc (Nat.le_refl _) _
        have hA1 := Lib.hid (hA.out.keep hb1)
        have hE := Lib.hid (element_in (v := .slice (some ⟨wr.heap.size, 0, none⟩) 1 1) (w := wr) (w1 := wr.alloc (.cells #[.string ⟨x.toArray⟩] 9)) Hxl.out (.inr ⟨h0, rfl, rfl⟩)).1
        have hF1 := Lib.hid (show ElemsTo (wr.alloc (.cells #[.string ⟨x.toArray⟩] 9)) xs i f from ⟨fun j y hj hy => (hF.out.1 j y hj hy).later hb1, hF.out.2⟩)
        obtain ⟨c2, f2⟩ := hA1.out.cell hlt
        clear hb1 hA h0 Hxl hF
        go_wp2_with fail
        generalize wr.alloc (.cells #[.string ⟨x.toArray⟩] 9) = W1 at *
        obtain ⟨cs, fz, hty⟩ := hA1.out.ty
        have ht := TurnsTy.of_set (i := i) hty (.slice (some ⟨wr.heap.size, 0, none⟩) 1 1)
        have hA2 := Lib.hid (hA1.out.put (i := i) (v := .slice (some ⟨wr.heap.size, 0, none⟩) 1 1) (g := fun j => if j = i then .slice (some ⟨wr.heap.size, 0, none⟩) 1 1 else f j) (fun j _ => rfl))
        have hF2 := Lib.hid (show ElemsTo (W1.setCell ⟨(w.heap.size + 1), i, none⟩ (.slice (some ⟨wr.heap.size, 0, none⟩) 1 1)) xs (i + 1) (fun j => if j = i then .slice (some ⟨wr.heap.size, 0, none⟩) 1 1 else f j) from ⟨fun j y hj hy => by
          by_cases e : j = i
          · subst e
            rw [Hx.out] at hy
            obtain rfl := Option.some.inj hy
            simp only [if_true]
            exact hE.turn ht (by decide)
          · simp only [if_neg e]
            exact (hF1.out.1 j y (by omega) hy).turn ht (by decide), fun j hj => by
            simp only [if_neg (show ¬ j = i by omega)]
            exact hF1.out.2 j (by omega)⟩)
        clear hA1 c2 f2 hF1 Hx hE ht hty
        go_roundw
        case rel => exact ⟨i + 1, _, by go_num, by omega, hA2, hF2⟩
        case measure => simp [intOf]; omega
    · obtain rfl : i = xs.length := by omega
      have d1 : decide ((xs.length : Int) < (xs.length : Int)) = false := decide_eq_false (by omega)
      have hR := (hA.out.below.block _ (Array.getElem?_eq_some_iff.1 Hres.out).1).trans Hres.out
      have hEl : ElemsIn (NotSeg wr) wr (.slice (some ⟨(w.heap.size + 1), 0, none⟩) xs.length xs.length) (xs.map elS) := by
        obtain ⟨cs, fz, h1⟩ := hA.out.ty
        refine ⟨(List.range xs.length).map f, ?_, fun j e hj => ?_⟩
        · rw [List.length_map]
          refine hA.out.list (by unfold maxLen; omega) _ ⟨cs, _, fz, h1, by decide⟩ _ (by simp) (fun j u hj => ?_)
          obtain ⟨_, h2⟩ := range_map f _ j u hj
          exact h2
        · rw [List.getElem?_map] at hj
          obtain ⟨y, hy, rfl⟩ := Option.map_eq_some_iff.1 hj
          have hjl := (List.getElem?_eq_some_iff.1 hy).1
          refine ⟨f j, by simp [hjl], (hF.out.1 j y hjl hy).keep fun b hb1 => ⟨?_, rfl⟩⟩
          obtain ⟨cs, fz, hc⟩ := hb1
          exact ⟨cs, _, fz, hc, by decide⟩
      have r0 : wr.cell? ⟨w.heap.size, 0, none⟩ = some (.string ⟨#[]⟩) := by unfold World.cell?; rw [hR]; rfl
      have r1 : wr.cell? ⟨w.heap.size, 1, none⟩ = some (.slice none 0 0) := by unfold World.cell?; rw [hR]; rfl
      have g0 : wr.frozen? ⟨w.heap.size, 0, none⟩ = false := by simp [World.frozen?, hR]
      have g1 : wr.frozen? ⟨w.heap.size, 1, none⟩ = false := by simp [World.frozen?, hR]
      obtain ⟨q0, q1⟩ := setTwo r0 r1 (.string ⟨tag.toArray⟩) (.slice (some ⟨(w.heap.size + 1), 0, none⟩) xs.length xs.length)
      have hfin := Lib.hid (hEl.setTwo hR (.string ⟨tag.toArray⟩) (.slice (some ⟨(w.heap.size + 1), 0, none⟩) xs.length xs.length))
      have hbel := Lib.hid (((HB0.out.trans (hA.out.below.mono HB0.out.size)).setCell (Nat.le_refl _) (.string ⟨tag.toArray⟩) (p := ⟨w.heap.size, 0, none⟩)).setCell (Nat.le_refl _) (.slice (some ⟨(w.heap.size + 1), 0, none⟩) xs.length xs.length) (p := ⟨w.heap.size, 1, none⟩))
      clear hR hEl hF hA
      go_wp2_with fail
      simp [bodyPost, results, Tryd.results40, go_sem, q0, q1]
      first | exact ⟨_, ⟨rfl, rfl⟩, hfin.out, hbel.out⟩ | exact ⟨hfin.out, hbel.out⟩ | exact ⟨_, rfl, hfin.out, hbel.out⟩
end Go.Proofs.YtepkihoakagidaaDoor
namespace Go.Proofs.YtepkihoakagidaaDoor
open Go.RowKit

theorem text_eq (x y : List UInt8) : ((⟨x.toArray⟩ : ByteArray).toList == (⟨y.toArray⟩ : ByteArray).toList) = (x == y) := by rw [ByteArray.toList_eq, ByteArray.toList_eq]

set_option maxHeartbeats 1600000 in
theorem bytesEqual_any {p q : Nat → Prop} (u v : Value) (x y : List UInt8) (w : World) (hx : BytesIn p w u x) (hy : BytesIn q w v y) :
    Calls Tryd.prog 80 #[u, v] w fun e w' => e = .returned (.bool (x == y)) ∧ ∃ k, w' = w.drewN k := by
  have c1 := run_text_of_cells (P := Tryd.prog) w 32 9 5 u x Tryd.underlying32 Tryd.underlying5 Tryd.underlying9 hx
  have c2 := run_text_of_cells (P := Tryd.prog) w 32 9 5 v y Tryd.underlying32 Tryd.underlying5 Tryd.underlying9 hy
  unfold strV at c1 c2
  have e := text_eq x y
  clear hx hy
  go_enter Tryd.func80, Tryd.ntmps80
  go_wp2_with fail
  go_ret
  exact ⟨rfl, 0, rfl⟩

set_option maxRecDepth 100000 in
set_option maxHeartbeats 1600000 in
theorem segNext_land (v : Value) (b : List UInt8) (w : World) (h : BytesIn (Has_ w) w v b) (hb : b.length ≤ 1000000000) :
    Calls Tryd.prog 67 #[v] w fun e w' => ∃ x, e = .returned (.tuple #[.agg #[strV (nextF b).1.tag, x], .int .i64 (nextF b).2.1, .int .i64 (nextF b).2.2]) ∧ ElemsIn (NotSeg w') w' x (nextF b).1.els ∧ Below w.heap.size w w' := by
  obtain ⟨ao, cap, rfl, hbc⟩ := h.form
  obtain ⟨R, hR⟩ : ∃ R, R = nextF b := ⟨_, rfl⟩
  have HR := Lib.hid hR
  rw [← hR]
  have hB0 : Below w.heap.size w (w.alloc (.cells #[.string ⟨#[]⟩, .slice none 0 0] 49)) := (Below.refl _ _).alloc (Nat.le_refl _) _
  have hres : (w.alloc (.cells #[.string ⟨#[]⟩, .slice none 0 0] 49)).heap[w.heap.size]? = some (.cells #[.string ⟨#[]⟩, .slice none 0 0] 49 (0, 0)) := by
    show (w.heap.push _)[w.heap.size]? = some _
    simp
  have hI1 := BytesIn.keep h hB0
  have HC := Lib.hid (segCut_any (Has_ (w.alloc (.cells #[.string ⟨#[]⟩, .slice none 0 0] 49))) _ b 39 _ hI1 (by decide) hb)
  have HI1 := Lib.hid hI1
  have H39 : byteV 39 = .int .u8 39 := rfl
  rw [H39] at HC
  clear hR h hbc H39 hI1
  go_enter Tryd.func67, Tryd.ntmps67
  go_wp2_with fail
  generalize w.alloc (.cells #[.string ⟨#[]⟩, .slice none 0 0] 49) = W at *
  cases hcut : cutAt 39 b with
  | none =>
    have hN : R = (noSeg, 0, 5) := HR.out.trans (next_none ((end_cut b).trans hcut))
    rw [cutF_none hcut] at HC
    clear HR hcut
    subst hN
    refine HC.out.mono ?_
    rintro e w1 ⟨⟨u1, u2, rfl, hu1, hu2⟩, k, rfl⟩
    have hbk : Below W.heap.size W (W.drewN k) := below_drewN (Below.refl _ _) k
    have HA := Lib.hid ((NextAt.mk hB0 hres).keep hbk)
    clear hB0 hres HC HI1 hu1 hu2 hbk
    generalize W.drewN k = w4 at *
    obtain ⟨⟨z0, f0⟩, z1, f1⟩ := HA.out.cells
    go_wp2_with fail
    obtain ⟨g0, g1⟩ := setTwo z0 z1 (.string ⟨#[]⟩) (.slice none 0 0)
    have hbel : Below w.heap.size w ((w4.setCell ⟨w.heap.size, 0, none⟩ (.string ⟨#[]⟩)).setCell ⟨w.heap.size, 1, none⟩ (.slice none 0 0)) := (HA.out.below.setCell (Nat.le_refl _) _).setCell (Nat.le_refl _) _
    generalize (w4.setCell ⟨w.heap.size, 0, none⟩ (.string ⟨#[]⟩)).setCell ⟨w.heap.size, 1, none⟩ (.slice none 0 0) = W9 at *
    simp [bodyPost, results, Tryd.results67, go_sem, g0, g1]
    exact ⟨_, ⟨rfl, rfl⟩, ElemsIn.nil _ _, hbel⟩
  | some n =>
    have hN := HR.out.trans (next_land ((end_cut b).trans hcut))
    have hnl := cut_lt 39 b n hcut
    rw [cutF_some hcut] at HC
    have HR2 := Lib.hid hN
    obtain ⟨a, hao⟩ : ∃ a, ao = some a := by
      obtain ⟨_, ⟨h1, h2⟩ | ⟨a2, cap2, h2, _⟩⟩ := HI1.out
      · omega
      · injection h2 with e1
        exact ⟨a2, e1⟩
    subst hao
    have hcap := HI1.out.cap
    clear HR hcut hN
    have hbl : (b.take n).length = n := by rw [List.length_take]; omega
    refine HC.out.mono ?_
    rintro e w1 ⟨⟨u1, u2, rfl, hu1, hu2⟩, k, rfl⟩
    have hbk : Below W.heap.size W (W.drewN k) := below_drewN (Below.refl _ _) k
    have HA := Lib.hid ((NextAt.mk hB0 hres).keep hbk)
    have HI2 := Lib.hid (HI1.out.keep hbk)
    have hu : BytesIn (Has_ (W.drewN k)) (W.drewN k) u1 (b.take n) := hu1
    clear hB0 hres HC HI1 hu1 hu2 hbk
    generalize W.drewN k = w0 at *
    obtain ⟨uo, uc, rfl, _⟩ := hu.form
    have HC2 := Lib.hid (segRead_any _ _ w0 hu (by omega))
    have hst := readL_tag_len (b.take n) (by omega)
    rw [hbl] at HC2
    clear hu
    generalize readL (b.take n) = S at *
    rw [hbl]
    go_wp2_with fail
    refine HC2.out.mono ?_
    rintro e w1 ⟨x, rfl, hx, hb1⟩
    obtain ⟨xo, xc, rfl, _⟩ := hx.form
    have HA1 := Lib.hid (HA.out.keep hb1)
    have hBx := box_at w1 S.tag (.slice xo S.els.length xc)
    have HM := Lib.hid (show Mid w w1 _ b a cap S (.slice xo S.els.length xc) from ⟨HA1.out.keep hBx.below, hBx, (HI2.out.keep hb1).keep hBx.below, hx.keep fun _ hb1 => hb1.keep hBx.below⟩)
    obtain ⟨c0, c1⟩ := hBx.cells
    clear hBx HA HA1 HI2 HC2 hx hb1
    have hz3 : (w1.alloc (.cells #[.string ⟨S.tag.toArray⟩, .slice xo S.els.length xc] 49)).heap.size = w1.heap.size + 1 := by simp
    unfold strV
    go_wp2_with fail
    have hb4 : Below (w1.alloc (.cells #[.string ⟨S.tag.toArray⟩, .slice xo S.els.length xc] 49)).heap.size (w1.alloc (.cells #[.string ⟨S.tag.toArray⟩, .slice xo S.els.length xc] 49)) ((w1.alloc (.cells #[.string ⟨S.tag.toArray⟩, .slice xo S.els.length xc] 49)).alloc (.cells #[.string ⟨S.tag.toArray⟩, .slice xo S.els.length xc] 49)) := (Below.refl _ _).alloc (Nat.le_refl _) _
    have hx4 : ((w1.alloc (.cells #[.string ⟨S.tag.toArray⟩, .slice xo S.els.length xc] 49)).alloc (.cells #[.string ⟨S.tag.toArray⟩, .slice xo S.els.length xc] 49)).heap[w1.heap.size + 1]? = some (.cells #[strV S.tag, .slice xo S.els.length xc] 49 (0, 0)) := by
      have h5 := (box_at (w1.alloc (.cells #[.string ⟨S.tag.toArray⟩, .slice xo S.els.length xc] 49)) S.tag (.slice xo S.els.length xc)).box
      rw [hz3] at h5
      exact h5
    have HM4 := Lib.hid (HM.out.keep hb4)
    generalize (w1.alloc (.cells #[.string ⟨S.tag.toArray⟩, .slice xo S.els.length xc] 49)).alloc (.cells #[.string ⟨S.tag.toArray⟩, .slice xo S.els.length xc] 49) = W4 at *
    clear HM hb4 c0 c1 hz3
    have HE := Lib.hid (segEncode_row _ [S] W4 (segs_one hx4 (HM4.out.els.keep fun _ hb1 => ⟨hb1.has, rfl⟩) (by unfold maxLen; omega)) (by simp))
    have hEF : encF [] [S] = if segE S = 0 then ([] ++ encS S, 0) else ([], segE S) := rfl
    rw [hEF] at HE
    clear hEF hx4
    by_cases hE : segE S = 0
    · rw [if_pos hE] at HE
      refine HE.out.mono ?_
      rintro e w5 ⟨u5, rfl, hr5, hb5⟩
      have HM5 := Lib.hid (HM4.out.keep hb5)
      have hQ := Lib.hid (bytesEqual_any u5 (Value.slice (some a) (n + 1) cap) (encS S) (b.take (n + 1)) w5 hr5.bytes (HM5.out.inp.take (n := n + 1) (by omega)))
      obtain ⟨uo5, uc5, rfl, _⟩ := hr5.bytes.form
      have j1 : (0 : Int) ≤ (n : Int) + 1 := by omega
      have j2 : (n : Int) + 1 ≤ (cap : Int) := by omega
      have j3 : ((n : Int) + 1).toNat = n + 1 := by omega
      clear HE HM4 hb5 hr5
      by_cases hTT : encS S = b.take (n + 1)
      · rw [if_pos ⟨hE, hTT⟩] at HR2
        have d5 : (encS S == b.take (n + 1)) = true := by rw [hTT]; simp
        rw [d5] at hQ
        clear hTT d5
        go_wp2_with fail
        refine hQ.out.mono ?_
        rintro e w6 ⟨rfl, k6, rfl⟩
        have HM6 := Lib.hid (HM5.out.keep (below_drewN (Below.refl _ _) k6))
        generalize w5.drewN k6 = w6 at *
        clear HM5 hQ
        obtain ⟨⟨z0, f0⟩, z1, f1⟩ := HM6.out.at_.cells
        obtain ⟨c0, c1⟩ := HM6.out.box.cells
        go_wp2_with fail
        obtain ⟨g0, g1⟩ := setTwo z0 z1 (.string ⟨S.tag.toArray⟩) (.slice xo S.els.length xc)
        have hfin := HM6.out.els.setTwo HM6.out.at_.res (.string ⟨S.tag.toArray⟩) (.slice xo S.els.length xc)
        have hbel : Below w.heap.size w ((w6.setCell ⟨w.heap.size, 0, none⟩ (.string ⟨S.tag.toArray⟩)).setCell ⟨w.heap.size, 1, none⟩ (.slice xo S.els.length xc)) := (HM6.out.at_.below.setCell (Nat.le_refl _) _).setCell (Nat.le_refl _) _
        generalize (w6.setCell ⟨w.heap.size, 0, none⟩ (.string ⟨S.tag.toArray⟩)).setCell ⟨w.heap.size, 1, none⟩ (.slice xo S.els.length xc) = W9 at *
        simp [bodyPost, results, Tryd.results67, go_sem, g0, g1]
        rw [HR2.out]
        exact ⟨_, ⟨⟨rfl, rfl⟩, by simp⟩, hfin, hbel⟩
      · rw [if_neg (fun h => hTT h.2)] at HR2
        have d5 : (encS S == b.take (n + 1)) = false := beq_eq_false_iff_ne.2 hTT
        rw [d5] at hQ
        clear hTT d5
        go_wp2_with fail
        refine hQ.out.mono ?_
        rintro e w6 ⟨rfl, k6, rfl⟩
        have HM6 := Lib.hid (HM5.out.keep (below_drewN (Below.refl _ _) k6))
        generalize w5.drewN k6 = w6 at *
        clear HM5 hQ
        obtain ⟨⟨z0, f0⟩, z1, f1⟩ := HM6.out.at_.cells
        go_wp2_with fail
        obtain ⟨g0, g1⟩ := setTwo z0 z1 (.string ⟨#[]⟩) (.slice none 0 0)
        have hbel : Below w.heap.size w ((w6.setCell ⟨w.heap.size, 0, none⟩ (.string ⟨#[]⟩)).setCell ⟨w.heap.size, 1, none⟩ (.slice none 0 0)) := (HM6.out.at_.below.setCell (Nat.le_refl _) _).setCell (Nat.le_refl _) _
        generalize (w6.setCell ⟨w.heap.size, 0, none⟩ (.string ⟨#[]⟩)).setCell ⟨w.heap.size, 1, none⟩ (.slice none 0 0) = W9 at *
        simp [bodyPost, results, Tryd.results67, go_sem, g0, g1]
        rw [HR2.out]
        exact ⟨_, ⟨⟨rfl, rfl⟩, by simp⟩, ElemsIn.nil _ _, hbel⟩
    · rw [if_neg hE] at HE
      rw [if_neg (fun h => hE h.1)] at HR2
      have d3 : (segE S != 0) = true := by rw [bne_iff_ne]; exact hE
      generalize segE S = F at *
      refine HE.out.mono ?_
      rintro e w5 ⟨u5, rfl, hr5, hb5⟩
      have HM6 := Lib.hid (HM4.out.keep hb5)
      clear HE HM4 hb5 hr5
      obtain ⟨⟨z0, f0⟩, z1, f1⟩ := HM6.out.at_.cells
      go_wp2_with fail
      obtain ⟨g0, g1⟩ := setTwo z0 z1 (.string ⟨#[]⟩) (.slice none 0 0)
      have hbel : Below w.heap.size w ((w5.setCell ⟨w.heap.size, 0, none⟩ (.string ⟨#[]⟩)).setCell ⟨w.heap.size, 1, none⟩ (.slice none 0 0)) := (HM6.out.at_.below.setCell (Nat.le_refl _) _).setCell (Nat.le_refl _) _
      generalize (w5.setCell ⟨w.heap.size, 0, none⟩ (.string ⟨#[]⟩)).setCell ⟨w.heap.size, 1, none⟩ (.slice none 0 0) = W9 at *
      simp [bodyPost, results, Tryd.results67, go_sem, g0, g1]
      rw [HR2.out]
      exact ⟨_, ⟨⟨rfl, rfl⟩, by simp⟩, ElemsIn.nil _ _, hbel⟩

set_option maxRecDepth 100000 in
set_option maxHeartbeats 3200000 in
theorem segDecode_any (v : Value) (b : List UInt8) (w : World) (h : BytesIn (Has_ w) w v b) (hb : b.length ≤ 1000000000) :
    Calls Tryd.prog 50 #[v] w fun e w' => ∃ x, e = .returned (.tuple #[x, .int .i64 (decodeF b).2.1, .int .i64 (decodeF b).2.2]) ∧ SegsIn (Has_ w') w' x (decodeF b).1 ∧ Below w.heap.size w w' := by
  obtain ⟨ao, cap, rfl, hbc⟩ := h.form
  have HI := Lib.hid h
  obtain ⟨R, hR⟩ : ∃ R, R = decodeF b := ⟨_, rfl⟩
  have HR := Lib.hid (show ∃ f, b.length - 0 ≤ f ∧ decF f (b.drop 0) 0 [] = R from ⟨b.length, Nat.le_refl _, hR.symm⟩)
  rw [← hR]
  clear hR h hbc
  go_enter Tryd.func50, Tryd.ntmps50
  go_wp2_with fail
  go_loopw [5, 6] (fun vl va wx => ∃ (u : Value) (at_ : Nat) (us : List Value) (acc : List Seg), u = vl ∧ va = .int .i64 at_ ∧ at_ ≤ b.length ∧ acc.length ≤ at_ ∧ Hid (∃ f, b.length - at_ ≤ f ∧ decF f (b.drop at_) at_ acc = R) ∧ Hid (DecAt w wx u us acc)) (fun _ va _ => b.length - (intOf va).toNat)
  case atStart => exact ⟨_, 0, [], [], rfl, by go_num, by omega, Nat.zero_le _, HR, Lib.hid ⟨World.ownsRow_nil _ _ _ _, fun i s hi => by simp at hi, Below.refl _ _⟩⟩
  case round =>
    clear HR
    obtain ⟨u, at_, us, acc, rfl, rfl, hat, hac, HF, HD⟩ := hrel
    by_cases hlt : at_ < b.length
    · have d1 : decide ((at_ : Int) < (b.length : Int)) = true := decide_eq_true (by omega)
      have HI1 := Lib.hid (HI.out.keep HD.out.below)
      obtain ⟨a, rfl⟩ : ∃ a, ao = some a := by
        obtain ⟨_, ⟨_, h1⟩ | ⟨a2, cap2, h2, _⟩⟩ := HI.out
        · omega
        · injection h2 with e1
          exact ⟨a2, e1⟩
      have hcap := HI.out.cap
      have j1 : (0 : Int) ≤ (at_ : Int) := by omega
      have j2 : (at_ : Int) ≤ (b.length : Int) := by omega
      have j3 : cap - at_ ≠ 0 := by omega
      have hdl : (b.drop at_).length = b.length - at_ := List.length_drop
      obtain ⟨f, hf1, hf2⟩ := HF.out
      obtain ⟨f, rfl⟩ : ∃ g, f = g + 1 := ⟨f - 1, by omega⟩
      have hne : b.drop at_ ≠ [] := fun e => by rw [e] at hdl; simp at hdl; omega
      have HC := Lib.hid (segNext_land _ _ wr (HI1.out.drop hat) (by omega))
      have HD1 := HD
      by_cases hok : (nextF (b.drop at_)).2.2 = 0
      · rw [dec_ok hne hok, List.drop_drop] at hf2
        have hn := next_ok (b := b.drop at_) (s := (nextF (b.drop at_)).1) (n := (nextF (b.drop at_)).2.1) (by rw [← hok])
        obtain ⟨hn1, _, hn2, hn3⟩ := hn
        rw [hdl] at hn3
        have HF2 := Lib.hid (show ∃ f, b.length - (at_ + (nextF (b.drop at_)).2.1) ≤ f ∧ decF f (b.drop (at_ + (nextF (b.drop at_)).2.1)) (at_ + (nextF (b.drop at_)).2.1) (acc ++ [(nextF (b.drop at_)).1]) = R from ⟨f, by omega, hf2⟩)
        rw [hok] at HC
        clear hf1 hf2 HF hok HI HI1 hne hdl
        generalize nextF (b.drop at_) = N at *
        obtain ⟨S, n, e9⟩ := N
        dsimp only at *
        clear e9
        go_wp2_with fail
        refine HC.out.mono ?_
        rintro e w1 ⟨x, rfl, hx, hb1⟩
        obtain ⟨xo, xc, rfl, _⟩ := hx.form
        have htl : S.tag.length ≤ maxLen := by
          obtain ⟨b1, b2, b3, ht, _⟩ := tag_shape (seg_ok hn1).1
          rw [ht]
          show 3 ≤ maxLen
          unfold maxLen
          omega
        have hBx := box_at w1 S.tag (.slice xo S.els.length xc)
        obtain ⟨c0, c1⟩ := hBx.cells
        have hsz : (w1.alloc (.cells #[.string ⟨S.tag.toArray⟩, .slice xo S.els.length xc] 49)).heap.size = w1.heap.size + 1 := by simp
        have hBy := box_at (w1.alloc (.cells #[.string ⟨S.tag.toArray⟩, .slice xo S.els.length xc] 49)) S.tag (.slice xo S.els.length xc)
        have HX := Lib.hid ((hx.keep fun _ hb2 => hb2.keep hBx.below).keep fun _ hb2 => NotSeg.keep hb2 hBy.below)
        have HD2 := Lib.hid (((HD.out.keep hb1).keep hBx.below).keep hBy.below)
        have hnn := news_two (w1.alloc (.cells #[.string ⟨S.tag.toArray⟩, .slice xo S.els.length xc] 49)) S.tag (.slice xo S.els.length xc)
        rw [hsz] at hnn
        obtain ⟨i1, hj, hy0, hy1, hy2⟩ := info_parts info_seg
        clear hx hb1 HC HD HD1 hBx hBy hn1 hsz
        unfold strV
        go_wp2_with (at_builtin; refine wpList_append_own _ rfl _ _ 35 rfl w.heap.size 49 i1 (.agg #[.string ⟨#[]⟩, .slice none 0 0]) 2 40 Tryd.underlying35 hj hy0 hy1 hy2 rfl (by decide) _ acc.length us rfl HD2.out.row ⟨w1.heap.size + 1, 0, none⟩ 1 1 [strV S.tag, Value.slice xo S.els.length xc] rfl rfl hnn (by intro u hu; simp at hu; rcases hu with rfl | rfl <;> rfl) (by unfold maxLen; omega) (by omega) HD2.out.below.size ?_)
        intro v1 w3 hown3 hg3 _
        have HD3 := Lib.hid (HD2.out.push hown3 hg3 HX.out htl)
        clear HD2 HX hown3 hg3 hnn
        go_wp2_with fail
        go_roundw
        case rel => exact ⟨_, at_ + n, _, acc ++ [S], rfl, by go_num, by omega, by rw [List.length_append]; show acc.length + 1 ≤ _; omega, HF2, HD3⟩
        case measure => simp [intOf]; omega
      · rw [dec_bad hne hok] at hf2
        have HR2 := Lib.hid hf2
        clear hf1 hf2 HF HI HI1 hne hdl
        generalize nextF (b.drop at_) = N at *
        obtain ⟨S, n, e9⟩ := N
        dsimp only at *
        have d2 : (e9 != 0) = true := by rw [bne_iff_ne]; exact hok
        go_wp2_with fail
        refine HC.out.mono ?_
        rintro e w1 ⟨x, rfl, hx, hb1⟩
        obtain ⟨xo, xc, rfl, _⟩ := hx.form
        have HD2 := Lib.hid ((HD.out.keep hb1).keep (box_at w1 S.tag (.slice xo S.els.length xc)).below)
        clear hx hb1 HC HD HD1
        unfold strV
        go_wp2_with fail
        simp [bodyPost, results, Tryd.results50, go_sem]
        rw [← HR2.out]
        exact ⟨_, ⟨rfl, by simp⟩, ⟨[], ⟨rfl, .inl ⟨rfl, rfl⟩⟩, fun i s hi => by simp at hi⟩, HD2.out.below⟩
    · obtain rfl : at_ = b.length := by omega
      have d1 : decide ((b.length : Int) < (b.length : Int)) = false := decide_eq_false (by omega)
      obtain ⟨f, _, hf⟩ := HF.out
      rw [List.drop_length, dec_nil] at hf
      have HR := Lib.hid hf
      clear HF hf
      go_wp2_with fail
      simp [bodyPost, results, Tryd.results50, go_sem]
      rw [← HR.out]
      exact ⟨_, ⟨rfl, by simp⟩, HD.out.done, HD.out.below⟩
end Go.Proofs.YtepkihoakagidaaDoor
namespace Go.Proofs.YtepkihoakagidaaDoor
open Go.RowKit
theorem segEncode_any (v : Value) (L : List Seg) (w : World) (h : SegsIn (Has_ w) w v L) (hn : L.length ≤ 100000) :
    Calls Tryd.prog 18 #[v] w fun e w' => ∃ u, e = .returned (.tuple #[u, .int .i64 (encF [] L).2]) ∧ BytesIn (Has_ w') w' u (encF [] L).1 ∧ Below w.heap.size w w' :=
  (segEncode_row v L w h hn).mono fun e w' h1 => by
    obtain ⟨u, h2, h3, h4⟩ := h1
    exact ⟨u, h2, h3.bytes, h4⟩
theorem segNext_any (v : Value) (b : List UInt8) (w : World) (h : BytesIn (Has_ w) w v b) (hb : b.length ≤ 1000000000) :
    Calls Tryd.prog 67 #[v] w fun e w' => ∃ x, e = .returned (.tuple #[.agg #[strV (nextF b).1.tag, x], .int .i64 (nextF b).2.1, .int .i64 (nextF b).2.2]) ∧ ElemsIn (Has_ w') w' x (nextF b).1.els ∧ Below w.heap.size w w' :=
  (segNext_land v b w h hb).mono fun e w' h1 => by
    obtain ⟨x, h2, h3, h4⟩ := h1
    exact ⟨x, h2, h3.keep fun _ hb1 => ⟨hb1.has, rfl⟩, h4⟩
end Go.Proofs.YtepkihoakagidaaDoor
namespace Go.Proofs.YtepkihoakagidaaDoor
open Go.RowKit

set_option maxRecDepth 100000 in
set_option maxHeartbeats 3200000 in
theorem lEqual_any (v1 v2 : Value) (l k : List (List UInt8)) (w : World) (h1 : StrsIn (Has_ w) w v1 l) (h2 : StrsIn (Has_ w) w v2 k) :
    Calls Tryd.prog 49 #[v1, v2] w fun e w' => e = .returned (.bool (l == k)) ∧ ∃ m, w' = w.drewN m := by
  obtain ⟨a1, cap1, rfl, hL, f1⟩ := h1.form
  obtain ⟨a2, cap2, rfl, hM, f2⟩ := h2.form
  have F1 := Lib.hid f1
  have F2 := Lib.hid f2
  clear h1 h2 f1 f2
  have hLb : l.length ≤ 9223372036854775807 := by unfold maxLen at hL; omega
  have hMb : k.length ≤ 9223372036854775807 := by unfold maxLen at hM; omega
  have hno : Hid (l ≠ k → (l == k) = false) := Lib.hid (fun h => by rw [beq_eq_false_iff_ne]; exact h)
  have hyes : Hid (l = k → (l == k) = true) := Lib.hid (fun h => by rw [beq_iff_eq]; exact h)
  generalize (l == k) = R at *
  by_cases hlm : l.length = k.length
  rotate_left
  have hr := hno.out (fun e => hlm (by rw [e]))
  subst hr
  have dl : ((l.length : Int) != (k.length : Int)) = true := by rw [bne_iff_ne]; omega
  clear hno hyes F1 F2 hlm
  go_enter Tryd.func49, Tryd.ntmps49
  go_wp2_with fail
  go_ret
  exact ⟨rfl, 0, rfl⟩
  have dl : ((l.length : Int) != (k.length : Int)) = false := by rw [bne_eq_false_iff_eq]; omega
  have hlm2 := Lib.hid hlm
  clear hlm
  go_enter Tryd.func49, Tryd.ntmps49
  go_wp2_with fail
  go_loopw [13] (fun vi wx => ∃ i : Nat, vi = .int .i64 i ∧ i ≤ l.length ∧ Hid (l.take i = k.take i) ∧ ∃ m, wx = w.drewN m) (fun vi _ => l.length - (intOf vi).toNat)
  case atStart => exact ⟨0, by go_num, by omega, Lib.hid rfl, 0, rfl⟩
  case round =>
    obtain ⟨i, rfl, hi, hP, m, rfl⟩ := hrel
    by_cases hlt : i < l.length
    · have d1 : decide ((i : Int) < (l.length : Int)) = true := decide_eq_true (by omega)
      obtain ⟨x, hx⟩ : ∃ x, l[i]? = some x := ⟨_, List.getElem?_eq_getElem hlt⟩
      obtain ⟨y, hy⟩ : ∃ y, k[i]? = some y := ⟨_, List.getElem?_eq_getElem (by have := hlm2.out; omega)⟩
      obtain ⟨b1, rfl, t1, _⟩ := F1.out i x hx
      obtain ⟨b2, rfl, t2, _⟩ := F2.out i y hy
      have j1 : (0 : Int) ≤ (i : Int) := by omega
      have j2 : (i : Int) < (l.length : Int) := by omega
      have j2' : (i : Int) < (k.length : Int) := by have := hlm2.out; omega
      unfold strV at t1 t2
      by_cases hxy : x = y
      · have hsn := Lib.hid (snoc_eq hP.out hx hy hxy)
        have q1 : (x == y) = true := by rw [beq_iff_eq]; exact hxy
        clear F1 F2 hx hy hxy hP
        go_wp2_with fail
        go_quiet (fail)
        go_wp2_with fail
        go_roundw
        case rel => exact ⟨i + 1, by go_num, by omega, hsn, _, by first | exact World.drewN_drewN _ _ _ | rfl⟩
        case measure => simp [intOf]; omega
      · have hr := hno.out (at_ne hx hy hxy)
        subst hr
        have q1 : (x == y) = false := by rw [beq_eq_false_iff_ne]; exact hxy
        clear F1 F2 hx hy hxy hP hyes hno
        go_wp2_with fail
        go_quiet (fail)
        go_wp2_with fail
        go_ret
        exact ⟨rfl, _, by first | exact World.drewN_drewN _ _ _ | rfl⟩
    · obtain rfl : i = l.length := by omega
      have hr := hyes.out (take_all_eq hlm2.out hP.out)
      subst hr
      have d1 : decide ((l.length : Int) < (l.length : Int)) = false := decide_eq_false (by omega)
      clear F1 F2 hP hyes hno
      go_wp2_with fail
      go_ret
      exact ⟨rfl, m, rfl⟩
theorem drop_cons {α : Type} {l : List α} {i : Nat} {x : α} (h : l[i]? = some x) : l.drop i = x :: l.drop (i + 1) := by
  obtain ⟨h1, h2⟩ := List.getElem?_eq_some_iff.1 h
  rw [List.drop_eq_getElem_cons h1, h2]
theorem two_seg_boxes (w : World) (ta tb : List UInt8) (va vb : Value) :
    let W := (w.alloc (.cells #[.string ⟨ta.toArray⟩, va] 49)).alloc (.cells #[.string ⟨tb.toArray⟩, vb] 49)
    (W.cell? ⟨w.heap.size, 0, none⟩ = some (.string ⟨ta.toArray⟩) ∧ W.cell? ⟨w.heap.size, 1, none⟩ = some va) ∧ (W.cell? ⟨w.heap.size + 1, 0, none⟩ = some (.string ⟨tb.toArray⟩) ∧ W.cell? ⟨w.heap.size + 1, 1, none⟩ = some vb) ∧ Below w.heap.size w W := by
  intro W
  have hb := (Below.refl w.heap.size w).alloc (Nat.le_refl _) (.cells #[.string ⟨ta.toArray⟩, va] 49)
  have h1 : W.heap[w.heap.size]? = some (.cells #[.string ⟨ta.toArray⟩, va] 49 (0, 0)) := by
    show ((w.heap.push _).push _)[w.heap.size]? = _
    simp [Array.getElem?_push]
  have h2 : W.heap[w.heap.size + 1]? = some (.cells #[.string ⟨tb.toArray⟩, vb] 49 (0, 0)) := by
    show ((w.heap.push _).push _)[w.heap.size + 1]? = _
    rw [Array.getElem?_push, if_pos (by simp)]
  refine ⟨⟨?_, ?_⟩, ⟨?_, ?_⟩, hb.alloc hb.size _⟩ <;> (unfold World.cell?; first | (rw [h1]; rfl) | (rw [h2]; rfl))
set_option maxRecDepth 100000 in
set_option maxHeartbeats 6400000 in
theorem lSameFrom_any (first : Nat) (ta tb : List UInt8) (va vb : Value) (A B : List (List (List UInt8))) (w : World) (h1 : ElemsIn (Has_ w) w va A) (h2 : ElemsIn (Has_ w) w vb B) :
    Calls Tryd.prog 66 #[.int .i64 first, .agg #[strV ta, va], .agg #[strV tb, vb]] w fun e w' => e = .returned (.bool (sameFrom first ⟨ta, A⟩ ⟨tb, B⟩)) ∧ Below w.heap.size w w' := by
  obtain ⟨ao, ac, rfl, hA, _⟩ := h1.form
  obtain ⟨bo, bc, rfl, hB, _⟩ := h2.form
  have hAb : A.length ≤ 9223372036854775807 := by unfold maxLen at hA; omega
  have hBb : B.length ≤ 9223372036854775807 := by unfold maxLen at hB; omega
  obtain ⟨⟨c0, c1⟩, ⟨d0, d1⟩, hbw⟩ := two_seg_boxes w ta tb (.slice ao A.length ac) (.slice bo B.length bc)
  have HBW := Lib.hid hbw
  have f1 := (h1.keep (has_keep hbw)).form
  have f2 := (h2.keep (has_keep hbw)).form
  obtain ⟨_, _, e1, _, f1⟩ := f1
  injection e1 with e1 e2 e3
  subst e1
  clear e2 e3
  obtain ⟨_, _, e1, _, f2⟩ := f2
  injection e1 with e1 e2 e3
  subst e1
  clear e2 e3
  have F1 := Lib.hid f1
  have F2 := Lib.hid f2
  obtain ⟨R, hR⟩ : ∃ R, R = sameFrom first ⟨ta, A⟩ ⟨tb, B⟩ := ⟨_, rfl⟩
  rw [← hR]
  have HR := Lib.hid (show R = ((ta == tb) && ((A.length == B.length) && (A.drop first == B.drop first))) from hR)
  clear hR h1 h2 f1 f2 hbw hA hB
  unfold strV
  by_cases ht : ta = tb
  rotate_left
  · have q1 : (ta == tb) = false := by rw [beq_eq_false_iff_ne]; exact ht
    have hR := HR.out
    rw [q1, Bool.false_and] at hR
    subst hR
    clear F1 F2 ht HR
    go_enter Tryd.func66, Tryd.ntmps66
    go_wp2_with fail
    go_ret
    exact ⟨rfl, HBW.out⟩
  have q1 : (ta == tb) = true := by rw [beq_iff_eq]; exact ht
  by_cases hl : A.length = B.length
  rotate_left
  · have q2 : ((A.length : Int) != (B.length : Int)) = true := by rw [bne_iff_ne]; omega
    have q3 : (A.length == B.length) = false := by rw [beq_eq_false_iff_ne]; exact hl
    have hR := HR.out
    rw [q3, Bool.false_and, Bool.and_false] at hR
    subst hR
    clear F1 F2 ht HR hl q3
    go_enter Tryd.func66, Tryd.ntmps66
    go_wp2_with fail
    go_ret
    exact ⟨rfl, HBW.out⟩
  have q2 : ((A.length : Int) != (B.length : Int)) = false := by rw [bne_eq_false_iff_eq]; omega
  have HR2 := Lib.hid (show R = (A.drop first == B.drop first) from by rw [HR.out, q1, show (A.length == B.length) = true from by rw [beq_iff_eq]; exact hl]; rfl)
  have HL := Lib.hid hl
  clear HR hl ht
  go_enter Tryd.func66, Tryd.ntmps66
  go_wp2_with fail
  generalize (w.alloc (.cells #[.string ⟨ta.toArray⟩, .slice ao A.length ac] 49)).alloc (.cells #[.string ⟨tb.toArray⟩, .slice bo B.length bc] 49) = W at *
  go_loopw [7] (fun vi wx => ∃ i : Nat, vi = .int .i64 i ∧ Hid (R = (A.drop i == B.drop i)) ∧ ∃ m, wx = W.drewN m) (fun vi _ => A.length - (intOf vi).toNat)
  case atStart => exact ⟨first, by go_num, HR2, 0, rfl⟩
  case round =>
    obtain ⟨i, rfl, hP, m, rfl⟩ := hrel
    by_cases hlt : i < A.length
    · have k1 : decide ((i : Int) < (A.length : Int)) = true := decide_eq_true (by omega)
      obtain ⟨x, hx⟩ : ∃ x, A[i]? = some x := ⟨_, List.getElem?_eq_getElem hlt⟩
      obtain ⟨y, hy⟩ : ∃ y, B[i]? = some y := ⟨_, List.getElem?_eq_getElem (by have := HL.out; omega)⟩
      obtain ⟨a, u, rfl, t1, s1⟩ := F1.out i x hx
      obtain ⟨b, v, rfl, t2, s2⟩ := F2.out i y hy
      obtain ⟨uo, uc, rfl, _⟩ := s1.form
      obtain ⟨vo, vc, rfl, _⟩ := s2.form
      have HQ : Hid (∀ k, Calls Tryd.prog 49 #[.slice uo x.length uc, .slice vo y.length vc] (W.drewN (m + k)) fun e w'' => e = .returned (.bool (x == y)) ∧ ∃ n, w'' = W.drewN (m + n)) := Lib.hid (fun k => (lEqual_any _ _ x y (W.drewN (m + k)) (s1.keep (has_keep (below_drewN (Below.refl _ _) (m + k)))) (s2.keep (has_keep (below_drewN (Below.refl _ _) (m + k))))).mono fun e w'' h => by
        obtain ⟨h1, j, h2⟩ := h
        exact ⟨h1, k + j, by rw [h2, World.drewN_drewN, Nat.add_assoc]⟩)
      have hstep := Lib.hid (show R = ((x == y) && (A.drop (i + 1) == B.drop (i + 1))) from by rw [hP.out, drop_cons hx, drop_cons hy]; rfl)
      have j1 : (0 : Int) ≤ (i : Int) := by omega
      have j2 : (i : Int) < (A.length : Int) := by omega
      have j2' : (i : Int) < (B.length : Int) := by have := HL.out; omega
      clear F1 F2 hx hy s1 s2 hP
      cases hq : (x == y) with
      | true =>
        have hN := Lib.hid (show R = (A.drop (i + 1) == B.drop (i + 1)) from by rw [hstep.out, hq, Bool.true_and])
        rw [hq] at HQ
        clear hq hstep
        go_wp2_with fail
        go_quiet ((go_at_call 49; go_must (exact HQ.out _)))
        go_wp2_with fail
        go_roundw
        case rel => exact ⟨i + 1, by go_num, hN, _, by first | exact World.drewN_drewN _ _ _ | rfl⟩
        case measure => simp [intOf]; omega
      | false =>
        have hR := hstep.out
        rw [hq, Bool.false_and] at hR
        subst hR
        rw [hq] at HQ
        clear hq hstep HR2
        go_wp2_with fail
        go_quiet ((go_at_call 49; go_must (exact HQ.out _)))
        go_wp2_with fail
        go_ret
        refine ⟨rfl, ?_⟩
        first | exact below_drewN (below_drewN HBW.out _) _ | exact below_drewN HBW.out _
    · have k1 : decide ((i : Int) < (A.length : Int)) = false := decide_eq_false (by omega)
      have k2 : decide (i < A.length) = false := decide_eq_false hlt
      have hR := hP.out
      rw [List.drop_eq_nil_of_le (by omega), List.drop_eq_nil_of_le (by have := HL.out; omega)] at hR
      replace hR : R = true := hR
      subst hR
      clear F1 F2 hP HR2 hlt
      go_wp2_with fail
      go_ret
      exact ⟨rfl, below_drewN HBW.out _⟩
end Go.Proofs.YtepkihoakagidaaDoor
namespace Go.Proofs.YtepkihoakagidaaDoor
theorem dec_len : ∀ (f : Nat) (b : List UInt8) (at_ : Nat) (acc : List Seg), (decF f b at_ acc).1.length ≤ acc.length + f
  | 0, _, _, _ => Nat.le_refl _
  | f + 1, b, at_, acc => by
    by_cases hb : b = []
    · subst hb
      rw [dec_nil]
      show acc.length ≤ _
      omega
    · by_cases he : (nextF b).2.2 = 0
      · rw [dec_ok hb he]
        have := dec_len f (b.drop (nextF b).2.1) (at_ + (nextF b).2.1) (acc ++ [(nextF b).1])
        rw [List.length_append] at this
        have h1 : ([(nextF b).1] : List Seg).length = 1 := rfl
        omega
      · rw [dec_bad hb he]
        exact Nat.zero_le _
theorem decode_len (b : List UInt8) : (decodeF b).1.length ≤ b.length := by
  have := dec_len b.length b 0 []
  unfold decodeF
  simpa using this
/-- What is decoded is encoded so. -/
theorem decode_enc {b : List UInt8} (h : (decodeF b).2.2 = 0) : encF [] (decodeF b).1 = (b, 0) := by
  obtain ⟨M, m1, m2, m3, _⟩ := dec_spec b.length b 0 [] (decodeF b).1 (decodeF b).2.1 (Nat.le_refl _) (by rw [← h]; rfl)
  rw [List.nil_append] at m1
  rw [m1, encF_ok M [] m2, List.nil_append, m3]
/-- What is encoded is decoded so. -/
theorem encode_dec {L : List Seg} (h : ∀ s ∈ L, segE s = 0) : encF [] L = (L.flatMap encS, 0) ∧ decodeF (L.flatMap encS) = (L, (L.flatMap encS).length, 0) := by
  refine ⟨by rw [encF_ok L [] h]; simp, ?_⟩
  unfold decodeF
  rw [dec_enc L _ 0 [] h (Nat.le_refl _)]
  simp
theorem flat_small {L : List Seg} (h : ∀ s ∈ L, segE s = 0) (hn : L.length ≤ 24) : (L.flatMap encS).length ≤ 720000000 := by
  have := flat_len encS 30000000 L (fun s hs => encS_len (h s hs))
  omega
end Go.Proofs.YtepkihoakagidaaDoor
