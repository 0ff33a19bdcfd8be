/- What the landed Validate of package message returns: the error of a message. Condition: the message's cells are known. -/
import Derived.Test.YtepkihoakagidaaDoorG3
import Derived.Test.YtepkihoakagidaaDoorG4
namespace Go.Proofs.YtepkihoakagidaaDoor
open Go.RowKit

theorem holds_new (lo hi : Int) (l : List Int) (W : World) (hl : l.length ≤ 1000) :
    Calls Tryd.prog 28 #[.agg #[.int .i64 lo, .int .i64 hi], .slice (some ⟨W.heap.size, 0, none⟩) l.length l.length] (W.alloc (.cells (l.map fun n => (.int .i64 n : Value)).toArray 3)) fun e w' => e = .returned (.bool (holdB lo hi l)) ∧ Below W.heap.size W w' := by
  have hb : Below W.heap.size W (W.alloc (.cells (l.map fun n => (.int .i64 n : Value)).toArray 3)) := (Below.refl _ _).alloc (Nat.le_refl _) _
  refine (holds_any lo hi _ l _ (nums_new W l 3 hl)).mono ?_
  rintro e w1 ⟨h1, h2⟩
  exact ⟨h1, hb.trans (h2.mono hb.size)⟩
theorem sites_new (l : List Int) (W : World) (hl : l.length ≤ 1000) :
    Calls Tryd.prog 54 #[.slice (some ⟨W.heap.size, 0, none⟩) l.length l.length] (W.alloc (.cells (l.map fun n => (.int .i64 n : Value)).toArray 3)) fun e w' => e = .returned (.bool (holdB 0 999 l)) ∧ Below W.heap.size W w' := by
  have hb : Below W.heap.size W (W.alloc (.cells (l.map fun n => (.int .i64 n : Value)).toArray 3)) := (Below.refl _ _).alloc (Nat.le_refl _) _
  refine (areSites_any _ l _ (nums_new W l 3 hl)).mono ?_
  rintro e w1 ⟨h1, h2⟩
  exact ⟨h1, hb.trans (h2.mono hb.size)⟩
theorem numbers_new (l : List Int) (W : World) (hl : l.length ≤ 1000) :
    Calls Tryd.prog 55 #[.slice (some ⟨W.heap.size, 0, none⟩) l.length l.length] (W.alloc (.cells (l.map fun n => (.int .i64 n : Value)).toArray 3)) fun e w' => e = .returned (.bool (holdB 0 1000000000 l)) ∧ Below W.heap.size W w' := by
  have hb : Below W.heap.size W (W.alloc (.cells (l.map fun n => (.int .i64 n : Value)).toArray 3)) := (Below.refl _ _).alloc (Nat.le_refl _) _
  refine (areNumbers_any _ l _ (nums_new W l 3 hl)).mono ?_
  rintro e w1 ⟨h1, h2⟩
  exact ⟨h1, hb.trans (h2.mono hb.size)⟩
theorem hold_iff (lo hi : Int) (l : List Int) : holdB lo hi l = l.all fun n => decide (lo ≤ n) && decide (n ≤ hi) := by
  unfold holdB outB
  rw [Bool.eq_iff_iff]
  simp only [Bool.not_eq_true', List.any_eq_false, List.all_eq_true, Bool.or_eq_true, Bool.and_eq_true, decide_eq_true_eq]
  exact ⟨fun h n hn => ⟨by have := h n hn; omega, by have := h n hn; omega⟩, fun h n hn => by have := h n hn; omega⟩
/-- Are the numbers of a message within their ranges, but for its amounts? -/
def numB (m : Msg) : Bool := holdB 1 60 [m.kind] && (holdB 0 999 [m.frm, m.to_] && (holdB 0 1000000000 [m.num, m.lot, m.other] && (holdB 0 36524 [m.day] && holdB 0 1000000000 [m.qty])))
theorem num_range (m : Msg) : (numB m && holdB (-1000000000000) 1000000000000 [m.amt]) = rangeB m := by
  unfold numB rangeB inB amB
  simp only [hold_iff, List.all_cons, List.all_nil, Bool.and_true]
  rw [Bool.eq_iff_iff]
  simp only [Bool.and_eq_true, decide_eq_true_eq]
  constructor
  · rintro ⟨⟨⟨a, b⟩, ⟨⟨c, d⟩, e, f⟩, ⟨⟨g, h⟩, ⟨i, j⟩, k, l⟩, ⟨n, o⟩, p, q⟩, r, s⟩
    exact ⟨⟨a, b⟩, ⟨c, d⟩, ⟨e, f⟩, ⟨g, h⟩, ⟨n, o⟩, ⟨i, j⟩, ⟨k, l⟩, ⟨p, q⟩, r, s⟩
  · rintro ⟨⟨a, b⟩, ⟨c, d⟩, ⟨e, f⟩, ⟨g, h⟩, ⟨n, o⟩, ⟨i, j⟩, ⟨k, l⟩, ⟨p, q⟩, r, s⟩
    exact ⟨⟨⟨a, b⟩, ⟨⟨c, d⟩, e, f⟩, ⟨⟨g, h⟩, ⟨i, j⟩, k, l⟩, ⟨n, o⟩, p, q⟩, r, s⟩
theorem five_ways (a b c d e : Bool) : a = false ∨ (a = true ∧ b = false) ∨ (a = true ∧ b = true ∧ c = false) ∨ (a = true ∧ b = true ∧ c = true ∧ d = false) ∨ (a = true ∧ b = true ∧ c = true ∧ d = true ∧ e = false) ∨ (a = true ∧ b = true ∧ c = true ∧ d = true ∧ e = true) := by
  cases a <;> cases b <;> cases c <;> cases d <;> cases e <;> simp
/-- A message lies in a block. -/
def MBox (wx : World) (B : Nat) (m : Msg) (vl : Value) : Prop := wx.heap[B]? = some (.cells (msgCells m vl) 24 (0, 0))
theorem MBox.keep {wx w1 : World} {B : Nat} {m : Msg} {vl : Value} (h : MBox wx B m vl) (hb : Below wx.heap.size wx w1) : MBox w1 B m vl := (hb.block _ (Array.getElem?_eq_some_iff.1 h).1).trans h
theorem MBox.cells {wx : World} {B : Nat} {m : Msg} {vl : Value} (h : MBox wx B m vl) : MsgAt wx B m vl := MsgAt.of h
theorem MBox.new (w : World) (m : Msg) (vl : Value) : MBox (w.alloc (.cells (msgCells m vl) 24)) w.heap.size m vl := by
  show (w.heap.push _)[w.heap.size]? = some _
  simp

set_option maxRecDepth 100000 in
set_option maxHeartbeats 3200000 in
theorem hasNumbers_any (m : Msg) (vl : Value) (w : World) :
    Calls Tryd.prog 27 #[msgV m vl] w fun e w' => e = .returned (.bool (numB m)) ∧ Below w.heap.size w w' := by
  have H1 : Hid (∀ W : World, Calls Tryd.prog 28 #[.agg #[.int .i64 1, .int .i64 60], .slice (some ⟨W.heap.size, 0, none⟩) 1 1] (W.alloc (.cells #[.int .i64 m.kind] 3)) fun e w' => e = .returned (.bool (holdB 1 60 [m.kind])) ∧ Below W.heap.size W w') := Lib.hid (fun W => holds_new 1 60 [m.kind] W (by simp))
  have H2 : Hid (∀ W : World, Calls Tryd.prog 54 #[.slice (some ⟨W.heap.size, 0, none⟩) 2 2] (W.alloc (.cells #[.int .i64 m.frm, .int .i64 m.to_] 3)) fun e w' => e = .returned (.bool (holdB 0 999 [m.frm, m.to_])) ∧ Below W.heap.size W w') := Lib.hid (fun W => sites_new [m.frm, m.to_] W (by simp))
  have H3 : Hid (∀ W : World, Calls Tryd.prog 55 #[.slice (some ⟨W.heap.size, 0, none⟩) 3 3] (W.alloc (.cells #[.int .i64 m.num, .int .i64 m.lot, .int .i64 m.other] 3)) fun e w' => e = .returned (.bool (holdB 0 1000000000 [m.num, m.lot, m.other])) ∧ Below W.heap.size W w') := Lib.hid (fun W => numbers_new [m.num, m.lot, m.other] W (by simp))
  have H4 : Hid (∀ W : World, Calls Tryd.prog 28 #[.agg #[.int .i64 0, .int .i64 36524], .slice (some ⟨W.heap.size, 0, none⟩) 1 1] (W.alloc (.cells #[.int .i64 m.day] 3)) fun e w' => e = .returned (.bool (holdB 0 36524 [m.day])) ∧ Below W.heap.size W w') := Lib.hid (fun W => holds_new 0 36524 [m.day] W (by simp))
  have H5 : Hid (∀ W : World, Calls Tryd.prog 28 #[.agg #[.int .i64 0, .int .i64 1000000000], .slice (some ⟨W.heap.size, 0, none⟩) 1 1] (W.alloc (.cells #[.int .i64 m.qty] 3)) fun e w' => e = .returned (.bool (holdB 0 1000000000 [m.qty])) ∧ Below W.heap.size W w') := Lib.hid (fun W => holds_new 0 1000000000 [m.qty] W (by simp))
  have HB0 := Lib.hid (MBox.new w m vl)
  have HL0 := Lib.hid ((Below.refl w.heap.size w).alloc (Nat.le_refl _) (.cells (msgCells m vl) 24))
  have hsz : (w.alloc (.cells (msgCells m vl) 24)).heap.size = w.heap.size + 1 := by simp
  unfold numB
  generalize holdB 1 60 [m.kind] = b1 at *
  generalize holdB 0 999 [m.frm, m.to_] = b2 at *
  generalize holdB 0 1000000000 [m.num, m.lot, m.other] = b3 at *
  generalize holdB 0 36524 [m.day] = b4 at *
  generalize holdB 0 1000000000 [m.qty] = b5 at *
  obtain ⟨c0, c1, c2, c3, c4, c5, c6, c7, c8, c9, c10, c11, c12⟩ := HB0.out.cells
  unfold msgV msgCells at *
  unfold strV at *
  rcases five_ways b1 b2 b3 b4 b5 with rfl | ⟨rfl, rfl⟩ | ⟨rfl, rfl, rfl⟩ | ⟨rfl, rfl, rfl, rfl⟩ | ⟨rfl, rfl, rfl, rfl, rfl⟩ | ⟨rfl, rfl, rfl, rfl, rfl⟩
  all_goals
    go_enter Tryd.func27, Tryd.ntmps27
    go_wp2_with fail
    generalize w.alloc (.cells #[.int .i64 m.kind, .int .i64 m.frm, .int .i64 m.to_, .int .i64 m.num, .int .i64 m.day, .int .i64 m.lot, .int .i64 m.other, .string ⟨m.code.toArray⟩, .string ⟨m.ctry.toArray⟩, .int .i64 m.qty, .int .i64 m.amt, vl, .string ⟨m.text.toArray⟩] 24) = W at *
    have h1 := H1.out W
    rw [hsz] at h1
    refine h1.mono ?_
    rintro e w1 ⟨rfl, hb⟩
    rw [← hsz] at hb
    have HB1 := Lib.hid (HB0.out.keep hb)
    have HL1 := Lib.hid (HL0.out.trans (hb.mono HL0.out.size))
    clear h1 H1 hb HB0 HL0 hsz c0 c1 c2 c3 c4 c5 c6 c7 c8 c9 c10 c11 c12
    obtain ⟨c0, c1, c2, c3, c4, c5, c6, c7, c8, c9, c10, c11, c12⟩ := HB1.out.cells
    go_wp2_with (first
      | (go_at_call 54; refine (H2.out _).mono ?_; rintro e w2 ⟨rfl, hb⟩; have HB2 := Lib.hid (HB1.out.keep hb); have HL2 := Lib.hid (HL1.out.trans (hb.mono HL1.out.size)); clear hb H2 HB1 HL1 c0 c1 c2 c3 c4 c5 c6 c7 c8 c9 c10 c11 c12; obtain ⟨c0, c1, c2, c3, c4, c5, c6, c7, c8, c9, c10, c11, c12⟩ := HB2.out.cells)
      | (go_at_call 55; refine (H3.out _).mono ?_; rintro e w3 ⟨rfl, hb⟩; have HB3 := Lib.hid (HB2.out.keep hb); have HL3 := Lib.hid (HL2.out.trans (hb.mono HL2.out.size)); clear hb H3 HB2 HL2 c0 c1 c2 c3 c4 c5 c6 c7 c8 c9 c10 c11 c12; obtain ⟨c0, c1, c2, c3, c4, c5, c6, c7, c8, c9, c10, c11, c12⟩ := HB3.out.cells)
      | (go_at_call 28; refine (H4.out _).mono ?_; rintro e w4 ⟨rfl, hb⟩; have HB4 := Lib.hid (HB3.out.keep hb); have HL4 := Lib.hid (HL3.out.trans (hb.mono HL3.out.size)); clear hb H4 HB3 HL3 c0 c1 c2 c3 c4 c5 c6 c7 c8 c9 c10 c11 c12; obtain ⟨c0, c1, c2, c3, c4, c5, c6, c7, c8, c9, c10, c11, c12⟩ := HB4.out.cells)
      | (go_at_call 28; refine (H5.out _).mono ?_; rintro e w5 ⟨rfl, hb⟩; have HL5 := Lib.hid (HL4.out.trans (hb.mono HL4.out.size)); clear hb H5 HB4 HL4))
    go_ret
    exact ⟨rfl, by first | exact HL5.out | exact HL4.out | exact HL3.out | exact HL2.out | exact HL1.out⟩
end Go.Proofs.YtepkihoakagidaaDoor
