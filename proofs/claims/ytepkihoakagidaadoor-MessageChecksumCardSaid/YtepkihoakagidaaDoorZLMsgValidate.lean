/- What the landed Validate of package message returns: the error of a message. Condition: the message's cells are known. -/
import Derived.Test.YtepkihoakagidaaDoorZLMsgValid
namespace Go.Proofs.YtepkihoakagidaaDoor
open Go.RowKit

structure VaAt (w wx : World) (m : Msg) (vl : Value) : Prop where
  box : MBox wx w.heap.size m vl
  span : wx.heap[w.heap.size + 1]? = some (.cells #[.int .i64 (-1000000000000), .int .i64 1000000000000] 57 (0, 0))
  below : Below w.heap.size w wx
theorem VaAt.keep {w wx w1 : World} {m : Msg} {vl : Value} (h : VaAt w wx m vl) (hb : Below wx.heap.size wx w1) : VaAt w w1 m vl :=
  ⟨h.box.keep hb, (hb.block _ (Array.getElem?_eq_some_iff.1 h.span).1).trans h.span, h.below.trans (hb.mono h.below.size)⟩
theorem VaAt.spans {w wx : World} {m : Msg} {vl : Value} (h : VaAt w wx m vl) : wx.cell? ⟨w.heap.size + 1, 0, none⟩ = some (.int .i64 (-1000000000000)) ∧ wx.cell? ⟨w.heap.size + 1, 1, none⟩ = some (.int .i64 1000000000000) := by
  have h1 := h.span
  constructor <;> (unfold World.cell?; rw [h1]; rfl)
theorem VaAt.start (w : World) (m : Msg) (vl : Value) : VaAt w ((w.alloc (.cells (msgCells m vl) 24)).alloc (.cells #[.int .i64 (-1000000000000), .int .i64 1000000000000] 57)) m vl := by
  have hb := (Below.refl w.heap.size w).alloc (Nat.le_refl _) (.cells (msgCells m vl) 24)
  have hb2 : Below (w.alloc (.cells (msgCells m vl) 24)).heap.size (w.alloc (.cells (msgCells m vl) 24)) ((w.alloc (.cells (msgCells m vl) 24)).alloc (.cells #[.int .i64 (-1000000000000), .int .i64 1000000000000] 57)) := (Below.refl _ _).alloc (Nat.le_refl _) _
  refine ⟨(MBox.new w m vl).keep hb2, ?_, hb.alloc hb.size _⟩
  show ((w.heap.push _).push _)[w.heap.size + 1]? = _
  rw [Array.getElem?_push, if_pos (by simp)]
theorem eight_ways (a b c d e f g : Bool) : a = false ∨ (a = true ∧ b = false) ∨ (a = true ∧ b = true ∧ c = false) ∨ (a = true ∧ b = true ∧ c = true ∧ d = false) ∨ (a = true ∧ b = true ∧ c = true ∧ d = true ∧ e = true) ∨ (a = true ∧ b = true ∧ c = true ∧ d = true ∧ e = false ∧ f = true) ∨ (a = true ∧ b = true ∧ c = true ∧ d = true ∧ e = false ∧ f = false ∧ g = false) ∨ (a = true ∧ b = true ∧ c = true ∧ d = true ∧ e = false ∧ f = false ∧ g = true) := by
  cases a <;> cases b <;> cases c <;> cases d <;> cases e <;> cases f <;> cases g <;> simp
theorem hold_am (l : List Int) : holdB (-1000000000000) 1000000000000 l = l.all amB := by rw [hold_iff]; rfl
theorem msgE_land (m : Msg) : msgE m = if numB m && holdB (-1000000000000) 1000000000000 [m.amt] then (if codeB m.code && (m.ctry.isEmpty || ctryB m.ctry) then (if !decide (64 < m.list.length) && !decide (200 < m.text.length) then (if holdB (-1000000000000) 1000000000000 m.list then 0 else 2) else 8) else 1) else 2 := by
  unfold msgE
  rw [num_range, hold_am]
  have e1 : decide (m.list.length ≤ 64) = !decide (64 < m.list.length) := by rw [Bool.eq_iff_iff]; simp
  have e2 : decide (m.text.length ≤ 200) = !decide (200 < m.text.length) := by rw [Bool.eq_iff_iff]; simp
  rw [e1, e2]

set_option maxRecDepth 100000 in
set_option maxHeartbeats 6400000 in
theorem msgValidate_any (m : Msg) (v : Value) (w : World) (h : MsgIn (Has_ w) w v m) :
    Calls Tryd.prog 11 #[v] w fun e w' => e = .returned (.int .i64 (msgE m)) ∧ Below w.heap.size w w' := by
  obtain ⟨⟨vl, rfl, hN⟩, hcl, hyl, htl⟩ := h
  obtain ⟨ao, cap, rfl, hll, _⟩ := hN.form
  have hR := msgE_land m
  have t200 : decide ((200 : Int) < (m.text.length : Int)) = decide (200 < m.text.length) := decide_eq_decide.2 (by omega)
  have l64 : decide ((64 : Int) < (m.list.length : Int)) = decide (64 < m.list.length) := decide_eq_decide.2 (by omega)
  have hlb : m.list.length ≤ 9223372036854775807 := by unfold maxLen at hll; omega
  have htb : m.text.length ≤ 9223372036854775807 := by unfold maxLen at htl; omega
  have tsz : (⟨m.text.toArray⟩ : ByteArray).size = m.text.length := by show m.text.toArray.size = _; simp
  have H1 := Lib.hid (fun W => hasNumbers_any m (.slice ao m.list.length cap) W)
  have H2 : Hid (∀ W : World, Calls Tryd.prog 28 #[.agg #[.int .i64 (-1000000000000), .int .i64 1000000000000], .slice (some ⟨W.heap.size, 0, none⟩) 1 1] (W.alloc (.cells #[.int .i64 m.amt] 3)) fun e w' => e = .returned (.bool (holdB (-1000000000000) 1000000000000 [m.amt])) ∧ Below W.heap.size W w') := Lib.hid (fun W => holds_new (-1000000000000) 1000000000000 [m.amt] W (by simp))
  have H3 := Lib.hid (fun W => lIsCode_any m.code hcl W)
  have H4 := Lib.hid (fun W => lIsCountry_any m.ctry hyl W)
  have H5 := Lib.hid (fun W (hb : Below w.heap.size w W) => holds_any (-1000000000000) 1000000000000 (.slice ao m.list.length cap) m.list W (hN.keep (has_keep hb)))
  have HV := Lib.hid (VaAt.start w m (.slice ao m.list.length cap))
  clear hN hll hcl hyl htl
  generalize msgE m = R at *
  generalize numB m = b1 at *
  generalize holdB (-1000000000000) 1000000000000 [m.amt] = b2 at *
  generalize codeB m.code = b3 at *
  generalize (m.ctry.isEmpty || ctryB m.ctry) = b4 at *
  generalize decide (64 < m.list.length) = b5 at *
  generalize decide (200 < m.text.length) = b6 at *
  generalize holdB (-1000000000000) 1000000000000 m.list = b7 at *
  generalize hnn : m.list.length = n at *
  generalize htn : m.text.length = tn at *
  unfold msgV at *
  unfold msgCells at HV
  unfold strV at *
  obtain ⟨c0, c1, c2, c3, c4, c5, c6, c7, c8, c9, c10, c11, c12⟩ := HV.out.box.cells
  obtain ⟨s0, s1⟩ := HV.out.spans
  rcases eight_ways b1 b2 b3 b4 b5 b6 b7 with rfl | ⟨rfl, rfl⟩ | ⟨rfl, rfl, rfl⟩ | ⟨rfl, rfl, rfl, rfl⟩ | ⟨rfl, rfl, rfl, rfl, rfl⟩ | ⟨rfl, rfl, rfl, rfl, rfl, rfl⟩ | ⟨rfl, rfl, rfl, rfl, rfl, rfl, rfl⟩ | ⟨rfl, rfl, rfl, rfl, rfl, rfl, rfl⟩
  all_goals
    simp at hR
    subst hR
    go_enter Tryd.func11, Tryd.ntmps11
    go_wp2_with fail
    generalize (w.alloc (.cells #[.int .i64 m.kind, .int .i64 m.frm, .int .i64 m.to_, .int .i64 m.num, .int .i64 m.day, .int .i64 m.lot, .int .i64 m.other, .string ⟨m.code.toArray⟩, .string ⟨m.ctry.toArray⟩, .int .i64 m.qty, .int .i64 m.amt, .slice ao n cap, .string ⟨m.text.toArray⟩] 24)).alloc (.cells #[.int .i64 (-1000000000000), .int .i64 1000000000000] 57) = W at *
    refine (H1.out W).mono ?_
    rintro e w1 ⟨rfl, hb⟩
    have HV1 := Lib.hid (HV.out.keep hb)
    clear H1 hb HV c0 c1 c2 c3 c4 c5 c6 c7 c8 c9 c10 c11 c12 s0 s1
    obtain ⟨c0, c1, c2, c3, c4, c5, c6, c7, c8, c9, c10, c11, c12⟩ := HV1.out.box.cells
    obtain ⟨s0, s1⟩ := HV1.out.spans
    go_wp2_with (first
      | (go_at_call 28; refine (H2.out _).mono ?_; rintro e w2 ⟨rfl, hb⟩; have HV2 := Lib.hid (HV1.out.keep hb); clear hb H2 HV1 c0 c1 c2 c3 c4 c5 c6 c7 c8 c9 c10 c11 c12 s0 s1; obtain ⟨c0, c1, c2, c3, c4, c5, c6, c7, c8, c9, c10, c11, c12⟩ := HV2.out.box.cells; obtain ⟨s0, s1⟩ := HV2.out.spans)
      | (go_at_call 29; refine (H3.out _).mono ?_; rintro e w3 ⟨rfl, rfl⟩)
      | (go_at_call 30; refine (H4.out _).mono ?_; rintro e w3 ⟨rfl, rfl⟩)
      | (go_at_call 28; refine (H5.out _ HV2.out.below).mono ?_; rintro e w4 ⟨rfl, hb⟩; have HL3 := Lib.hid (HV2.out.below.trans (hb.mono HV2.out.below.size)); clear hb H5 HV2))
    go_ret
    exact ⟨rfl, by first | exact HL3.out | exact HV2.out.below | exact HV1.out.below⟩
end Go.Proofs.YtepkihoakagidaaDoor
